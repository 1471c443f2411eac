import Derived.Test.YtafegghdhdgioabGreatMNcd
import Derived.Test.YtafegghdhdgioabGreatMEmath
import Derived.Test.YtafegghdhdgioabGreatMKit
import Derived.Test.YtafegghdhdgioabGreatMNco
import Derived.Lib.SliceRun
import Derived.Maps.Range
import Derived.Laws.OwnMore
import Derived.Laws.CopyOwn
import Derived.Laws.StructEq
import Derived.WalkKit
set_option linter.unusedVariables false
set_option linter.unusedSimpArgs false
section
/-
  The contract of the core's Execute, whatever the operation. Conditions: those of the types.
-/
namespace Go.Proofs.YtafegghdhdgioabGreat
open Go.RowKit

def ivI (x : Ins) : Value := iv x.op x.a x.b x.c x.imm
section
variable {g base fu : Nat} {T : TypeId} {vi vt : Value} {rest : List Value} {c : Co}
theorem exec_any (x : Ins) (w : World) (hop : (0 ≤ x.op ∧ x.op ≤ 14) ∨ x.op = 20 ∨ x.op = 21 ∨ x.op = 24) (hm : 0 ≤ x.imm ∧ x.imm ≤ 18446744073709551615) (hs : SmallC c) (ht : c.trace.length ≤ 1000000) (h : Hid (CoAt w g base T fu vi vt rest c)) :
    Calls Tryz.prog 69 #[.pointer (some ⟨g, 0, none⟩), ivI x] w fun e w' => e = .returned (.tuple #[]) ∧ (∃ vi' vt', CoAt w' g base T fu vi' vt' rest (c.execC x) ∧ CKp w w' g base) := by
  have hj : ∀ {f : FuncId} {args : Array Value} {c' : Co}, (Calls Tryz.prog f args w fun e w' => e = .returned (.tuple #[]) ∧ CoAt w' g base T fu vi vt rest c' ∧ JKp w w' g vt vt) → Calls Tryz.prog f args w fun e w' => e = .returned (.tuple #[]) ∧ (∃ vi' vt', CoAt w' g base T fu vi' vt' rest c' ∧ CKp w w' g base) :=
    fun hc => hc.mono fun e w' ⟨q1, q2, q3⟩ => ⟨q1, _, _, q2, q3.weak h.out.tr⟩
  obtain ⟨op, a, b, d, m⟩ := x
  dsimp only at *
  unfold ivI Co.execC
  dsimp only
  by_cases h0 : op = 0
  · subst h0; rw [if_pos rfl]; exact hj (exec_0 a b d m w hm h)
  rw [if_neg h0]
  by_cases h1 : op = 1
  · subst h1; rw [if_pos rfl]; exact hj (exec_1 a b d m w h)
  rw [if_neg h1]
  by_cases h11 : op = 11
  · subst h11; rw [if_pos rfl]; exact hj (exec_11 a b d m w h)
  rw [if_neg h11]
  by_cases h12 : op = 12
  · subst h12; rw [if_pos rfl]; exact hj (exec_12 a b d m w h)
  rw [if_neg h12]
  by_cases h13 : op = 13
  · subst h13
    rw [if_pos rfl]
    refine exec_13 a b d m w (hide ?_) h
    cases hi : c.inp with
    | nil => decide
    | cons v r => exact hs.iv v (by rw [hi]; simp)
  rw [if_neg h13]
  by_cases h14 : op = 14
  · subst h14; rw [if_pos rfl]; exact exec_14 a b d m w (hide ht) h
  rw [if_neg h14]
  by_cases h20 : op = 20
  · subst h20; rw [if_pos (.inl rfl)]; exact hj (exec_20 a b d m w h)
  by_cases h21 : op = 21
  · subst h21; rw [if_pos (.inr rfl)]; exact hj (exec_21 a b d m w h)
  rw [if_neg (by omega)]
  by_cases h24 : op = 24
  · subst h24; rw [if_pos rfl]; exact hj (exec_24 a b d m w h)
  rw [if_neg h24]
  exact hj (exec_mid op a b d m w (by omega) (hide (hs.reg b)) (hide (hs.reg d)) h)
end
end Go.Proofs.YtafegghdhdgioabGreat
end

section
/-
  Plain mathematics of the stack (chapter 9): its bytes, which of them are used, its SP; what each operation does. No function of the program is named here.
-/
namespace Go.Proofs.YtafegghdhdgioabGreat
open Go.RowKit

/-- A stack. -/
structure Sk where
  bs : List Int
  us : List Bool
  sp : Nat
/-- .. for which Check is true. -/
structure Sk.Ok (S : Sk) : Prop where
  len : S.us.length = S.bs.length
  most : S.bs.length ≤ 1048576
  sp : S.sp ≤ S.bs.length
  byt : ∀ z ∈ S.bs, 0 ≤ z ∧ z ≤ 255

/-- The errors of Push and Pop; an access lies on the stack. -/
def pushE (S : Sk) (n : Int) : Int := if n < 0 then 4 else if (S.sp : Int) < n then 9 else 0
def popE (S : Sk) (n : Int) : Int := if n < 0 ∨ (S.bs.length : Int) - S.sp < n then 4 else 0
def fitB (S : Sk) (off n : Int) : Bool := szB n && decide (0 ≤ off ∧ off + n ≤ (S.bs.length : Int) - S.sp)
/-- The stack behind each. -/
def pushS (S : Sk) (n : Nat) : Sk := ⟨S.bs, splice S.us (S.sp - n) (List.replicate n false), S.sp - n⟩
def popS (S : Sk) (n : Nat) : Sk := ⟨S.bs, S.us, S.sp + n⟩
def usedB (S : Sk) (at_ n : Nat) : Bool := ((S.us.drop at_).take n).all id
def cutS (S : Sk) (at_ n : Nat) : List Int := (S.bs.drop at_).take n
def putS (S : Sk) (at_ : Nat) (zs : List Int) : Sk := ⟨splice S.bs at_ zs, splice S.us at_ (List.replicate zs.length true), S.sp⟩
def storeS (S : Sk) (at_ n X : Nat) : Sk := putS S at_ (bytesV X n)
def newS (n sp : Nat) : Sk := ⟨List.replicate n 0, List.replicate n false, sp⟩

theorem splice_at {α : Type} (L : List α) (off : Nat) (cs : List α) (h : off + cs.length ≤ L.length) (k : Nat) :
    (splice L off cs)[k]? = if k < off then L[k]? else if k < off + cs.length then cs[k - off]? else L[k]? := by
  unfold splice
  have h1 : (L.take off).length = off := by simp; omega
  split
  · rename_i hk
    rw [List.getElem?_append_left (by omega), List.getElem?_take, if_pos hk]
  · rename_i hk
    rw [List.getElem?_append_right (by omega), h1]
    split
    · rename_i h2
      rw [List.getElem?_append_left (by omega)]
    · rename_i h2
      rw [List.getElem?_append_right (by omega), List.getElem?_drop]
      congr 1; omega
theorem splice_map {α β : Type} (f : α → β) (L : List α) (off : Nat) (cs : List α) : (splice L off cs).map f = splice (L.map f) off (cs.map f) := by
  simp [splice, List.map_take, List.map_drop]
theorem splice_mem {α : Type} {L cs : List α} {off : Nat} {P : α → Prop} (h1 : ∀ z ∈ L, P z) (h2 : ∀ z ∈ cs, P z) : ∀ z ∈ splice L off cs, P z := by
  intro z hz
  simp only [splice, List.mem_append] at hz
  rcases hz with hz | hz | hz
  · exact h1 z (List.mem_of_mem_take hz)
  · exact h2 z hz
  · exact h1 z (List.mem_of_mem_drop hz)
/-- One element more of those that go over. -/
theorem splice_step {α : Type} (L cs : List α) (off k : Nat) (z : α) (h : off + cs.length ≤ L.length) (hz : cs[k]? = some z) : (splice L off (cs.take k)).set (off + k) z = splice L off (cs.take (k + 1)) := by
  have hk : k < cs.length := by
    rcases Nat.lt_or_ge k cs.length with h1 | h1
    · exact h1
    · rw [List.getElem?_eq_none h1] at hz; simp at hz
  apply List.ext_getElem?
  intro j
  rw [List.getElem?_set, splice_at _ _ _ (by simp; omega), splice_at _ _ _ (by simp; omega), length_splice _ _ _ (by simp; omega)]
  simp only [List.length_take, List.getElem?_take]
  by_cases e : off + k = j
  · subst e
    rw [if_pos rfl, if_pos (by omega), if_neg (by omega), if_pos (by omega), if_pos (by omega), show off + k - off = k by omega, hz]
  · rw [if_neg e]
    by_cases h1 : j < off
    · rw [if_pos h1, if_pos h1]
    · rw [if_neg h1, if_neg h1]
      by_cases h2 : j < off + min k cs.length
      · rw [if_pos h2, if_pos (by omega), if_pos (by omega), if_pos (by omega)]
      · rw [if_neg h2, if_neg (by omega)]
theorem splice_none {α : Type} (L : List α) (off : Nat) (h : off ≤ L.length) : splice L off [] = L := by simp [splice]
/-- What was put is there. -/
theorem splice_cut {α : Type} (L : List α) (off : Nat) (cs : List α) (h : off + cs.length ≤ L.length) : ((splice L off cs).drop off).take cs.length = cs := by
  unfold splice
  have h1 : (L.take off).length = off := by simp; omega
  rw [List.drop_append_of_le_length (by omega), List.drop_eq_nil_of_le (by omega), List.nil_append, List.take_left]
theorem splice_behind {α : Type} (L : List α) (off : Nat) (cs : List α) (n : Nat) (hn : off + cs.length ≤ n) (h : off + cs.length ≤ L.length) : (splice L off cs).drop n = L.drop n := by
  apply List.ext_getElem?
  intro j
  rw [List.getElem?_drop, List.getElem?_drop, splice_at _ _ _ h, if_neg (by omega), if_neg (by omega)]

section
variable {S : Sk}
theorem fitB_iff {off n : Int} : fitB S off n = true ↔ szB n = true ∧ 0 ≤ off ∧ off + n ≤ (S.bs.length : Int) - S.sp := by simp [fitB]
theorem Sk.Ok.push (h : S.Ok) {n : Nat} (hn : n ≤ S.sp) : (pushS S n).Ok := by
  have := h.len; have := h.sp
  refine ⟨?_, h.most, by show S.sp - n ≤ _; have := h.sp; show S.sp - n ≤ S.bs.length; omega, h.byt⟩
  show (splice _ _ _).length = S.bs.length
  rw [length_splice _ _ _ (by simp; omega), h.len]
theorem Sk.Ok.pop (h : S.Ok) {n : Nat} (hn : S.sp + n ≤ S.bs.length) : (popS S n).Ok := ⟨h.len, h.most, hn, h.byt⟩
theorem Sk.Ok.put (h : S.Ok) {a : Nat} {zs : List Int} (ha : a + zs.length ≤ S.bs.length) (hz : ∀ z ∈ zs, 0 ≤ z ∧ z ≤ 255) : (putS S a zs).Ok := by
  have := h.len
  refine ⟨?_, ?_, ?_, splice_mem h.byt hz⟩
  · show (splice _ _ _).length = (splice _ _ _).length
    rw [length_splice _ _ _ (by simp; omega), length_splice _ _ _ ha, h.len]
  · show (splice _ _ _).length ≤ _
    rw [length_splice _ _ _ ha]; exact h.most
  · show S.sp ≤ (splice _ _ _).length
    rw [length_splice _ _ _ ha]; exact h.sp
theorem Sk.Ok.store (h : S.Ok) {a n X : Nat} (ha : a + n ≤ S.bs.length) : (storeS S a n X).Ok := h.put (by rw [bytesV_length]; exact ha) (bytesV_mem X n)
theorem put_len {a : Nat} {zs : List Int} (ha : a + zs.length ≤ S.bs.length) : (putS S a zs).bs.length = S.bs.length := length_splice _ _ _ ha
theorem newS_ok {n sp : Nat} (hn : n ≤ 1048576) (hs : sp ≤ n) : (newS n sp).Ok := ⟨by simp [newS], by simp [newS]; exact hn, by simp [newS]; exact hs, fun z hz => by rw [List.eq_of_mem_replicate (show z ∈ List.replicate n 0 from hz)]; omega⟩
theorem used_iff {a n : Nat} (h : a + n ≤ S.us.length) : usedB S a n = true ↔ ∀ k, k < n → S.us[a + k]? = some true := by
  unfold usedB
  rw [List.all_eq_true]
  constructor
  · intro h1 k hk
    have hl : a + k < S.us.length := by omega
    rw [List.getElem?_eq_getElem hl]
    congr 1
    refine h1 _ (List.mem_of_getElem? (i := k) ?_)
    rw [List.getElem?_take, if_pos hk, List.getElem?_drop, List.getElem?_eq_getElem hl]
  · intro h1 b hb
    obtain ⟨k, hk, e⟩ := List.getElem_of_mem hb
    have hk' : k < n := by simp at hk; omega
    have := h1 k hk'
    rw [← e]
    simp only [List.getElem_take, List.getElem_drop, id]
    rw [List.getElem?_eq_getElem (by omega)] at this
    injection this
/-- The bytes that were put are used. -/
theorem used_put {a : Nat} {zs : List Int} (h : a + zs.length ≤ S.us.length) : usedB (putS S a zs) a zs.length = true := by
  unfold usedB putS
  have := splice_cut S.us a (List.replicate zs.length true) (by simpa using h)
  rw [List.length_replicate] at this
  rw [this]
  simp
theorem cut_put {a : Nat} {zs : List Int} (h : a + zs.length ≤ S.bs.length) : cutS (putS S a zs) a zs.length = zs := splice_cut S.bs a zs h
theorem cut_len {a n : Nat} (h : a + n ≤ S.bs.length) : (cutS S a n).length = n := by simp [cutS]; omega
theorem cut_byt (h : S.Ok) (a n : Nat) : ∀ z ∈ cutS S a n, 0 ≤ z ∧ z ≤ 255 := fun z hz => h.byt z (List.mem_of_mem_drop (List.mem_of_mem_take hz))
/-- Bytes are the bytes of their number. -/
theorem bytesV_valOf (zs : List Int) (h : ∀ z ∈ zs, 0 ≤ z ∧ z ≤ 255) : ∀ n, n ≤ zs.length → bytesV (valOf zs) n = zs.take n := by
  intro n
  induction n with
  | zero => intro _; simp [bytesV]
  | succ n ih =>
    intro hn
    rw [bytesV, ih (by omega), take_more (List.getElem?_eq_getElem (show n < zs.length by omega))]
    congr 2
    have hb := h zs[n] (List.getElem_mem _)
    have hs : valOf zs = valOf (zs.take n) + zs[n].toNat * 2 ^ (8 * n) + valOf (zs.drop (n + 1)) * 2 ^ (8 * (n + 1)) := by
      have hap : ∀ (xs ys : List Int), valOf (xs ++ ys) = valOf xs + valOf ys * 2 ^ (8 * xs.length) := by
        intro xs ys
        induction xs with
        | nil => simp [valOf]
        | cons y r ih =>
          simp only [List.cons_append, valOf, ih, List.length_cons]
          rw [show 8 * (r.length + 1) = 8 * r.length + 8 by omega, Nat.pow_add, Nat.mul_add, show (2 : Nat) ^ 8 = 256 by decide]
          rw [show 256 * (valOf ys * 2 ^ (8 * r.length)) = valOf ys * (2 ^ (8 * r.length) * 256) by rw [Nat.mul_comm 256, Nat.mul_assoc]]
          omega
      conv => lhs; rw [← List.take_append_drop (n + 1) zs]
      rw [hap, valOf_take zs n _ (List.getElem?_eq_getElem (show n < zs.length by omega)), List.length_take, Nat.min_eq_left (by omega)]
    have ht := valOf_take_lt zs n (by omega) h
    unfold byteOf
    rw [hs, show 8 * (n + 1) = 8 * n + 8 by omega, Nat.pow_add, show (2 : Nat) ^ 8 = 256 by decide]
    generalize valOf (zs.take n) = x at *
    generalize valOf (zs.drop (n + 1)) = y at *
    generalize 2 ^ (8 * n) = p at *
    have hp : 0 < p := by omega
    rw [show x + zs[n].toNat * p + y * (p * 256) = x + (zs[n].toNat + y * 256) * p by rw [Nat.add_mul, Nat.mul_assoc y 256 p, Nat.mul_comm 256 p]; omega]
    rw [Nat.add_mul_div_right _ _ hp, Nat.div_eq_of_lt ht, Nat.zero_add]
    omega
/-- A move is a load and a store. -/
theorem move_eq (h : S.Ok) {dst from_ n : Nat} (hf : from_ + n ≤ S.bs.length) : storeS S dst n (valOf ((cutS S from_ n).take 16)) = putS S dst (cutS S from_ n) ∨ 16 < n := by
  rcases Nat.lt_or_ge 16 n with h16 | h16
  · exact .inr h16
  · left
    have hl := cut_len hf
    rw [List.take_of_length_le (by omega)]
    unfold storeS
    rw [bytesV_valOf _ (cut_byt h _ _) n (by omega), List.take_of_length_le (by omega)]
end
end Go.Proofs.YtafegghdhdgioabGreat
end

section
/-
  Stacks in memory: two slices and a number by value; kept over what a call leaves; rows of the call's own that a store turns. No function of the program is named here.
-/
namespace Go.Proofs.YtafegghdhdgioabGreat
open Go.RowKit

/-- A stack by value. -/
abbrev kv (A1 : Option Addr) (n1 c1 : Nat) (A2 : Option Addr) (n2 c2 : Nat) (p : Int) : Value := .agg #[.slice A1 n1 c1, .slice A2 n2 c2, .int .i64 p]
/-- Truth values as cells. -/
def cellsB (l : List Bool) : List Value := l.map Value.bool
theorem cellsB_length (l : List Bool) : (cellsB l).length = l.length := by simp [cellsB]
theorem cellsU8_length (l : List Int) : (cellsU8 l).length = l.length := by simp [cellsU8]
theorem cellsB_one (l : List Bool) : ∀ v ∈ cellsB l, v.oneCell' = true := by
  intro v hv
  simp only [cellsB, List.mem_map] at hv
  obtain ⟨b, _, rfl⟩ := hv
  rfl
theorem cellsU8_one (l : List Int) : ∀ v ∈ cellsU8 l, v.oneCell' = true := by
  intro v hv
  simp only [cellsU8, List.mem_map] at hv
  obtain ⟨b, _, rfl⟩ := hv
  rfl
theorem cellsB_at {l : List Bool} {k : Nat} {b : Bool} (h : l[k]? = some b) : (cellsB l)[k]? = some (.bool b) := by simp [cellsB, List.getElem?_map, h]
theorem cellsB_splice (L : List Bool) (off : Nat) (cs : List Bool) : cellsB (splice L off cs) = splice (cellsB L) off (cellsB cs) := splice_map _ _ _ _
theorem cellsU8_splice (L : List Int) (off : Nat) (cs : List Int) : cellsU8 (splice L off cs) = splice (cellsU8 L) off (cellsU8 cs) := splice_map _ _ _ _

/-- At these two slices lies the stack S. -/
structure StkAt (w : World) (B : Nat) (A1 : Option Addr) (c1 : Nat) (A2 : Option Addr) (c2 : Nat) (S : Sk) : Prop where
  ok : S.Ok
  k1 : A1 = none → c1 = 0
  k2 : A2 = none → c2 = 0
  m1 : S.bs.length ≤ c1
  m2 : S.bs.length ≤ c2
  s1 : Sees w B A1 (cellsU8 S.bs)
  s2 : Sees w B A2 (cellsB S.us)
/-- .. by value. -/
abbrev sv (A1 : Option Addr) (c1 : Nat) (A2 : Option Addr) (c2 : Nat) (S : Sk) : Value := kv A1 S.bs.length c1 A2 S.bs.length c2 (S.sp : Int)
section
variable {w w' : World} {B B' : Nat} {A1 A2 : Option Addr} {c1 c2 : Nat} {S : Sk}
theorem StkAt.below (h : StkAt w B A1 c1 A2 c2 S) (hb : Below B w w') : StkAt w' B A1 c1 A2 c2 S := ⟨h.ok, h.k1, h.k2, h.m1, h.m2, h.s1.below hb, h.s2.below hb⟩
theorem StkAt.more (h : StkAt w B A1 c1 A2 c2 S) (hB : B ≤ B') : StkAt w B' A1 c1 A2 c2 S := ⟨h.ok, h.k1, h.k2, h.m1, h.m2, h.s1.more hB, h.s2.more hB⟩
theorem StkAt.call (h : StkAt w w.heap.size A1 c1 A2 c2 S) (hb : Below w.heap.size w w') : StkAt w' w'.heap.size A1 c1 A2 c2 S := (h.below hb).more hb.size
theorem StkAt.alloc (h : StkAt w w.heap.size A1 c1 A2 c2 S) (o : Obj) : StkAt (w.alloc o) (w.alloc o).heap.size A1 c1 A2 c2 S := h.call (below1 w o)
theorem StkAt.keep (h : StkAt w B A1 c1 A2 c2 S) (hk : ∀ p : Addr, p.block < B → w'.cell? p = w.cell? p) : StkAt w' B A1 c1 A2 c2 S := ⟨h.ok, h.k1, h.k2, h.m1, h.m2, h.s1.keep hk, h.s2.keep hk⟩
theorem StkAt.drewN (h : StkAt w B A1 c1 A2 c2 S) (n : Nat) : StkAt (w.drewN n) B A1 c1 A2 c2 S := h.keep fun _ _ => rfl
/-- Pop: only SP turns. -/
theorem StkAt.pop (h : StkAt w B A1 c1 A2 c2 S) {n : Nat} (hn : S.sp + n ≤ S.bs.length) : StkAt w B A1 c1 A2 c2 (popS S n) := ⟨h.ok.pop hn, h.k1, h.k2, h.m1, h.m2, h.s1, h.s2⟩
/-- The bytes from a on, n of them. -/
theorem StkAt.cut (h : StkAt w B A1 c1 A2 c2 S) (a n : Nat) : Sees w B (A1.map (·.add a)) (cellsU8 (cutS S a n)) := by
  have := (h.s1.drop a).take n
  unfold cutS cellsU8 at *
  rwa [← List.map_drop, ← List.map_take] at this
theorem StkAt.cutB (h : StkAt w B A1 c1 A2 c2 S) (a n : Nat) : Sees w B (A2.map (·.add a)) (cellsB ((S.us.drop a).take n)) := by
  have := (h.s2.drop a).take n
  unfold cellsB at *
  rwa [← List.map_drop, ← List.map_take] at this
end

/-- A stack returned with an error number. -/
def StkPost (S : Sk) (E : Int) (w : World) (e : Ending) (w' : World) : Prop :=
  ∃ (A1 : Option Addr) (c1 : Nat) (A2 : Option Addr) (c2 : Nat), e = .returned (.tuple #[sv A1 c1 A2 c2 S, .int .i64 E]) ∧ StkAt w' w'.heap.size A1 c1 A2 c2 S ∧ Below w.heap.size w w'
/-- .. and with a truth value. -/
def StkPost3 (S : Sk) (b : Bool) (E : Int) (w : World) (e : Ending) (w' : World) : Prop :=
  ∃ (A1 : Option Addr) (c1 : Nat) (A2 : Option Addr) (c2 : Nat), e = .returned (.tuple #[sv A1 c1 A2 c2 S, .bool b, .int .i64 E]) ∧ StkAt w' w'.heap.size A1 c1 A2 c2 S ∧ Below w.heap.size w w'
/-- Both rows are the call's own. -/
structure StkOwn (w : World) (base : Nat) (A1 : Option Addr) (c1 : Nat) (A2 : Option Addr) (c2 : Nat) (S : Sk) (t1 t2 : TypeId) : Prop where
  ok : S.Ok
  o1 : w.ownsRow base t1 1 (.slice A1 S.bs.length c1) S.bs.length (cellsU8 S.bs)
  o2 : w.ownsRow base t2 1 (.slice A2 S.bs.length c2) S.bs.length (cellsB S.us)
theorem own_le {w : World} {base : Nat} {e : TypeId} {n c : Nat} {A : Option Addr} {xs : List Value} (h : w.ownsRow base e 1 (.slice A n c) n xs) : (A = none → c = 0) ∧ n ≤ c := by
  rcases h.2 with ⟨he, h0⟩ | ⟨g, cap, cur, he, _, _, hc, _⟩
  · injection he with e1 e2 e3
    subst e3
    exact ⟨fun _ => rfl, by omega⟩
  · injection he with e1 _ e3
    subst e1 e3
    exact ⟨fun e => (by cases e), hc⟩
theorem StkOwn.at_ {w : World} {base : Nat} {A1 : Option Addr} {c1 : Nat} {A2 : Option Addr} {c2 : Nat} {S : Sk} {t1 t2 : TypeId} (h : StkOwn w base A1 c1 A2 c2 S t1 t2) : StkAt w w.heap.size A1 c1 A2 c2 S :=
  ⟨h.ok, (own_le h.o1).1, (own_le h.o2).1, (own_le h.o1).2, (own_le h.o2).2, Sees.own h.o1, Sees.own h.o2⟩
theorem StkOwn.below {w w' : World} {base : Nat} {A1 : Option Addr} {c1 : Nat} {A2 : Option Addr} {c2 : Nat} {S : Sk} {t1 t2 : TypeId} (h : StkOwn w base A1 c1 A2 c2 S t1 t2) (hb : Below w.heap.size w w') : StkOwn w' base A1 c1 A2 c2 S t1 t2 :=
  ⟨h.ok, own_below h.o1 hb, own_below h.o2 hb⟩

theorem splice_cons {α : Type} (L : List α) (off : Nat) (v : α) (r : List α) (h : off < L.length) : splice L off (v :: r) = splice (L.set off v) (off + 1) r := by
  unfold splice
  rw [List.drop_set_of_lt (by omega), List.take_add_one, List.getElem?_set_self h, List.take_set_of_le (by omega), show off + (v :: r).length = off + 1 + r.length by simp; omega]
  simp
/-- An owned row whose cells a run of stores has turned. -/
theorem own_spliced {base : Nat} {e : TypeId} {n c g : Nat} : ∀ (cs : List Value) (off : Nat) (w : World) (xs : List Value), w.ownsRow base e 1 (.slice (some ⟨g, 0, none⟩) n c) n xs → off + cs.length ≤ n →
    (w.setCells g off cs).ownsRow base e 1 (.slice (some ⟨g, 0, none⟩) n c) n (splice xs off cs) ∧ w.grownBy (w.setCells g off cs) (some g)
  | [], off, w, xs, h, _ => ⟨by simpa [splice, World.setCells] using h, World.grownBy.refl w _⟩
  | v :: r, off, w, xs, h, hl => by
    have hx := h.1
    simp only [List.length_cons] at hl
    obtain ⟨h1, h2⟩ := h.stored off v
    obtain ⟨h3, h4⟩ := own_spliced r (off + 1) (w.setCell ⟨g, off, none⟩ v) (xs.set off v) h1 (by omega)
    rw [splice_cons _ _ _ _ (by omega)]
    exact ⟨h3, h2.andThen h4 (fun k hk => .inr hk)⟩
end Go.Proofs.YtafegghdhdgioabGreat
end

section
/-
  What the operations on stacks give, as numbers and stacks; rows of a call's own that are turned in place (chapter 9). No function of the program is named here.
-/
namespace Go.Proofs.YtafegghdhdgioabGreat
open Go.RowKit

def pushR (S : Sk) (n : Int) : Sk := if pushE S n = 0 then pushS S n.toNat else S
def popR (S : Sk) (n : Int) : Sk := if popE S n = 0 then popS S n.toNat else S
theorem clear_none {P : Program} {t e ty : TypeId} (ht : P.underlying t = some (.slice e)) (A : Option Addr) (c : Nat) (W : World) : (Builtin.clear_ #[t] ty #[.slice A 0 c]).run P W = .ok (.tuple #[]) W := by
  cases A <;> simp [Builtin.clear_, run_underlying ht]
theorem StkOwn.put_ {w : World} {base : Nat} {A1 : Option Addr} {c1 : Nat} {A2 : Option Addr} {c2 : Nat} {S : Sk} {t1 t2 : TypeId} (hok : S.Ok) (o1 : w.ownsRow base t1 1 (.slice A1 S.bs.length c1) S.bs.length (cellsU8 S.bs)) (o2 : w.ownsRow base t2 1 (.slice A2 S.bs.length c2) S.bs.length (cellsB S.us)) : StkAt w w.heap.size A1 c1 A2 c2 S :=
  StkOwn.at_ ⟨hok, o1, o2⟩
theorem kown_apart {w : World} {base t1 t2 g n1 n2 c2 : Nat} {v1 : Value} {xs1 xs2 : List Value} (o1 : w.ownsRow base t1 1 v1 n1 xs1) (o2 : w.ownsRow base t2 1 (.slice (some ⟨g, 0, none⟩) n2 c2) n2 xs2) (ht : t1 ≠ t2) : v1.ownBlock = none ∨ v1.ownBlock ≠ some g := by
  rcases o1.2 with ⟨rfl, _⟩ | ⟨g1, cap, cur, rfl, _, hg1, _⟩
  · exact .inl rfl
  · right
    rintro h
    simp only [Value.ownBlock, Option.some.injEq] at h
    subst h
    rcases o2.2 with ⟨h2, _⟩ | ⟨g2, cap2, cur2, h2, _, hg2, _⟩
    · cases h2
    · injection h2 with h3
      injection h3 with h3
      injection h3 with h3
      subst h3
      have := hg1.symm.trans hg2
      injection this with this
      injection this with _ h5 _
      exact ht h5
theorem own_turned {w : World} {base t1 t2 g n1 n2 c2 off : Nat} {v1 : Value} {xs1 xs2 cs : List Value} (o1 : w.ownsRow base t1 1 v1 n1 xs1) (o2 : w.ownsRow base t2 1 (.slice (some ⟨g, 0, none⟩) n2 c2) n2 xs2) (ht : t1 ≠ t2) (h : off + cs.length ≤ n2) :
    (w.setCells g off cs).ownsRow base t1 1 v1 n1 xs1 ∧ (w.setCells g off cs).ownsRow base t2 1 (.slice (some ⟨g, 0, none⟩) n2 c2) n2 (splice xs2 off cs) ∧ w.grownBy (w.setCells g off cs) (some g) ∧ base ≤ g :=
  have h1 := own_spliced cs off w xs2 o2 h
  ⟨o1.kept h1.2 (kown_apart o1 o2 ht), h1.1, h1.2, (o2.lt g rfl).1⟩
theorem cellsB_all (n : Nat) (b : Bool) : cellsB (List.replicate n b) = List.replicate n (.bool b) := by simp [cellsB]
theorem zero_bool : ∀ w, (zeroValue 4).run Tryz.prog w = .ok (.bool false) w := fun w => by kernel_rfl
theorem push_zero (S : Sk) (h : S.Ok) : pushS S 0 = S := by
  have := h.len; have := h.sp
  unfold pushS
  rw [List.replicate_zero, splice_none _ _ (by omega), Nat.sub_zero]

def fitE (S : Sk) (off n : Int) : Int := if fitB S off n = true then 0 else 4
def loadB (S : Sk) (off n : Int) : Bool := fitB S off n && usedB S ((S.sp : Int) + off).toNat n.toNat
def loadV (S : Sk) (off n : Int) : Nat := if loadB S off n = true then valOf ((cutS S ((S.sp : Int) + off).toNat n.toNat).take 16) else 0
/-- What Load gives. -/
def LoadPost (S : Sk) (off n : Int) (w : World) (e : Ending) (w' : World) : Prop := e = .returned (.tuple #[vv (loadV S off n), .bool (loadB S off n), .int .i64 (fitE S off n)]) ∧ Below w.heap.size w w'
theorem load_no {S : Sk} {off n : Int} (h : fitB S off n = false) : fitE S off n = 4 ∧ loadB S off n = false ∧ loadV S off n = 0 := by simp [fitE, loadV, loadB, h]
theorem load_undef {S : Sk} {off n : Nat} (h : fitB S off n = true) (hu : usedB S (S.sp + off) n = false) : fitE S off n = 0 ∧ loadB S off n = false ∧ loadV S off n = 0 := by
  have e : ((S.sp : Int) + (off : Int)).toNat = S.sp + off := by omega
  have hb : loadB S off n = false := by simp only [loadB, e, Int.toNat_natCast, hu, Bool.and_false]
  exact ⟨by simp [fitE, h], hb, by simp [loadV, hb]⟩
theorem load_yes {S : Sk} {off n : Nat} (h : fitB S off n = true) (hu : usedB S (S.sp + off) n = true) : fitE S off n = 0 ∧ loadB S off n = true ∧ loadV S off n = valOf ((cutS S (S.sp + off) n).take 16) := by
  have e : ((S.sp : Int) + (off : Int)).toNat = S.sp + off := by omega
  have hb : loadB S off n = true := by simp only [loadB, e, Int.toNat_natCast, hu, h, Bool.and_self]
  exact ⟨by simp [fitE, h], hb, by simp only [loadV, hb, if_true, e, Int.toNat_natCast]⟩
theorem fit_nat {S : Sk} {off n : Int} (h : fitB S off n = true) : ∃ a m : Nat, off = (a : Int) ∧ n = (m : Int) ∧ 1 ≤ m ∧ m ≤ 16 ∧ S.sp + a + m ≤ S.bs.length := by
  obtain ⟨h1, h2, h3⟩ := fitB_iff.1 h
  have hn := of_decide_eq_true (show decide (n = 1 ∨ n = 2 ∨ n = 4 ∨ n = 8 ∨ n = 16) = true from h1)
  exact ⟨off.toNat, n.toNat, by omega, by omega, by omega, by omega, by omega⟩
theorem kvv_zero : vv 0 = .agg #[.int .u64 0, .int .u64 0] := rfl
def storeR (S : Sk) (off n : Int) (X : Nat) : Sk := if fitB S off n = true then storeS S ((S.sp : Int) + off).toNat n.toNat X else S
def moveB (S : Sk) (dst src n : Int) : Bool := fitB S dst n && loadB S src n
def moveE (S : Sk) (dst src n : Int) : Int := if (fitB S dst n && fitB S src n) = true then 0 else 4
def moveR (S : Sk) (dst src n : Int) : Sk := if moveB S dst src n = true then putS S ((S.sp : Int) + dst).toNat (cutS S ((S.sp : Int) + src).toNat n.toNat) else S
theorem store_no {S : Sk} {off n : Int} {X : Nat} (h : fitB S off n = false) : fitE S off n = 4 ∧ storeR S off n X = S := by simp [fitE, storeR, h]
theorem store_yes {S : Sk} {off n X : Nat} (h : fitB S off n = true) : fitE S off n = 0 ∧ storeR S off n X = storeS S (S.sp + off) n X := by
  have e : ((S.sp : Int) + (off : Int)).toNat = S.sp + off := by omega
  exact ⟨by simp [fitE, h], by simp only [storeR, h, if_true, e, Int.toNat_natCast]⟩
theorem drew_k (W : World) (B : Nat) : Below B W W.drew := below_draws (Below.refl _ _) 1
theorem drewN_k (W : World) (B k : Nat) : Below B W (W.drewN k) := below_draws (Below.refl _ _) k

theorem move_no {S : Sk} {dst src n : Int} (h : fitB S dst n = false ∨ fitB S src n = false) : moveE S dst src n = 4 ∧ moveB S dst src n = false ∧ moveR S dst src n = S := by
  rcases h with h | h <;> simp [moveE, moveR, moveB, loadB, h]
theorem move_undef {S : Sk} {dst : Int} {o m : Nat} (h : fitB S dst (m : Int) = true) (h2 : fitB S (o : Int) (m : Int) = true) (hu : usedB S (S.sp + o) m = false) : moveE S dst (o : Int) (m : Int) = 0 ∧ moveB S dst (o : Int) (m : Int) = false ∧ moveR S dst (o : Int) (m : Int) = S := by
  have hb : moveB S dst (o : Int) (m : Int) = false := by simp only [moveB, (load_undef h2 hu).2.1, Bool.and_false]
  exact ⟨by simp [moveE, h, h2], hb, by simp [moveR, hb]⟩
theorem move_yes {S : Sk} {d o m : Nat} (h : fitB S (d : Int) (m : Int) = true) (h2 : fitB S (o : Int) (m : Int) = true) (hu : usedB S (S.sp + o) m = true) : moveE S (d : Int) (o : Int) (m : Int) = 0 ∧ moveB S (d : Int) (o : Int) (m : Int) = true ∧ moveR S (d : Int) (o : Int) (m : Int) = putS S (S.sp + d) (cutS S (S.sp + o) m) := by
  have hb : moveB S (d : Int) (o : Int) (m : Int) = true := by simp only [moveB, (load_yes h2 hu).2.1, h, Bool.and_self]
  have e : ((S.sp : Int) + (o : Int)).toNat = S.sp + o := by omega
  have e' : ((S.sp : Int) + (d : Int)).toNat = S.sp + d := by omega
  exact ⟨by simp [moveE, h, h2], hb, by simp only [moveR, hb, if_true, e, e', Int.toNat_natCast]⟩

theorem own_heap {w : World} {base g n c : Nat} {e : TypeId} {xs : List Value} (h : w.ownsRow base e 1 (.slice (some ⟨g, 0, none⟩) n c) n xs) :
    ∃ cur : List Value, w.heap[g]? = some (.cells cur.toArray e (0, 0)) ∧ cur.length = c ∧ cur.take n = xs ∧ n ≤ c ∧ c ≤ maxLen ∧ base ≤ g := by
  rcases h.2 with ⟨h2, _⟩ | ⟨g', cap, cur, h2, hg, hh, hc, hm, hs, ht⟩
  · cases h2
  · injection h2 with h3 h4 h5
    injection h3 with h3
    injection h3 with h3
    subst h3 h5
    refine ⟨cur.toList, by simpa using hh, by simpa using hs, ?_, hc, hm, hg⟩
    simpa using ht
theorem heap_own {w : World} {base g n c : Nat} {e : TypeId} {cur : List Value} (hg : w.heap[g]? = some (.cells cur.toArray e (0, 0))) (hl : cur.length = c) (hn : n ≤ c) (hm : c ≤ maxLen) (hb : base ≤ g) : w.ownsRow base e 1 (.slice (some ⟨g, 0, none⟩) n c) n (cur.take n) :=
  ⟨by simp; omega, .inr ⟨g, c, cur.toArray, rfl, hb, hg, hn, hm, by simpa using hl, by simp⟩⟩
theorem splice_take {α : Type} (L cs : List α) (off n : Nat) (h : off + cs.length ≤ n) (hn : n ≤ L.length) : (splice L off cs).take n = splice (L.take n) off cs := by
  apply List.ext_getElem?
  intro j
  rw [List.getElem?_take]
  by_cases hj : j < n
  · rw [if_pos hj, splice_at _ _ _ (by omega), splice_at _ _ _ (by simp; omega), List.getElem?_take, if_pos hj]
  · rw [if_neg hj]
    symm
    apply List.getElem?_eq_none
    rw [length_splice _ _ _ (by simp; omega)]
    simp; omega
theorem row_turned (w : World) (g : Nat) (cs : Array Value) : w.grownBy (w.setRow g cs) (some g) :=
  ⟨rfl, rfl, rfl, by simp [World.setRow], fun i hi hne => setRow_other w g i cs (fun h => hne (by rw [h]))⟩
/-- A row of the call's own, into which something was copied. -/
theorem own_copied {w : World} {base g n c off : Nat} {e : TypeId} {cs cur : List Value} (hh : w.heap[g]? = some (.cells cur.toArray e (0, 0))) (hl : cur.length = c) (hn : n ≤ c) (hm : c ≤ maxLen) (hb : base ≤ g) (ho : off + cs.length ≤ n) :
    (w.setRow g (cur.take off ++ (cs ++ cur.drop (off + cs.length))).toArray).ownsRow base e 1 (.slice (some ⟨g, 0, none⟩) n c) n (splice (cur.take n) off cs) := by
  have h2 := heap_own (w := w.setRow g (splice cur off cs).toArray) (base := base) (n := n) (c := c) (setRow_heap w g _ _ e _ hh) (by rw [length_splice _ _ _ (by omega)]; exact hl) hn hm hb
  rw [splice_take _ _ _ _ ho (by omega)] at h2
  exact h2
theorem size_u8 : (Tryz.prog.info? 5).map (·.size) = some 1 := by kernel_rfl

end Go.Proofs.YtafegghdhdgioabGreat
end

section
/-
  Rows of a call's own beside stores elsewhere (chapter 9). No function of the program is named here.
-/
namespace Go.Proofs.YtafegghdhdgioabGreat
open Go.RowKit

theorem Tryz.cinfo5 : (Tryz.prog.info? 5).map (fun i => (i.zero, i.size, i.bytes)) = some (some (.int .u8 0), 1, 1) := by kernel_rfl
theorem Tryz.cinfo4 : (Tryz.prog.info? 4).map (fun i => (i.zero, i.size, i.bytes)) = some (some (.bool false), 1, 1) := by kernel_rfl
theorem empty_own (w : World) (e : TypeId) : (w.alloc (.cells #[] e)).ownsRow w.heap.size e 1 (.slice (some ⟨w.heap.size, 0, none⟩) 0 0) 0 [] :=
  ⟨by simp, .inr ⟨w.heap.size, 0, #[], rfl, Nat.le_refl _, heap_alloc_new w _, Nat.le_refl _, by unfold maxLen; omega, by simp, by simp⟩⟩
theorem own_off {w : World} {base g : Nat} {e : TypeId} {size n : Nat} {v : Value} {xs : List Value} (h : w.ownsRow base e size v n xs) (hg : g < base) : v.ownBlock = none ∨ v.ownBlock ≠ some g := by
  cases e' : v.ownBlock with
  | none => exact .inl rfl
  | some k => exact .inr fun h' => by have := (h.lt k e').1; injection h' with h'; omega
theorem grown_one (w : World) (g k : Nat) (u : Value) : w.grownBy (w.setCell ⟨g, k, none⟩ u) (some g) :=
  ⟨rfl, rfl, rfl, by simp [World.setCell], fun i hi hne => Below.heap_setCell w ⟨g, k, none⟩ u i (by rintro rfl; exact hne rfl)⟩
theorem own_put {w : World} {base g k : Nat} {e : TypeId} {size n : Nat} {v u : Value} {xs : List Value} (h : w.ownsRow base e size v n xs) (hg : g < base) : (w.setCell ⟨g, k, none⟩ u).ownsRow base e size v n xs := h.kept (grown_one w g k u) (own_off h hg)
theorem own_put3 {w : World} {base g : Nat} {e : TypeId} {size n : Nat} {v a b c : Value} {xs : List Value} (h : w.ownsRow base e size v n xs) (hg : g < base) : (((w.setCell ⟨g, 0, none⟩ a).setCell ⟨g, 1, none⟩ b).setCell ⟨g, 2, none⟩ c).ownsRow base e size v n xs := own_put (own_put (own_put h hg) hg) hg
theorem own_raise {w : World} {base base' : Nat} {e : TypeId} {size n : Nat} {v : Value} {xs : List Value} (h : w.ownsRow base e size v n xs) (hb : base' ≤ base) : w.ownsRow base' e size v n xs := by
  refine ⟨h.1, ?_⟩
  rcases h.2 with h2 | ⟨g, cap, cur, hv, hg, hh, hr⟩
  · exact .inl h2
  · exact .inr ⟨g, cap, cur, hv, by omega, hh, hr⟩
theorem below_put {B g k : Nat} {w w' : World} {u : Value} (h : Below B w w') (hg : B ≤ g) : Below B w (w'.setCell ⟨g, k, none⟩ u) := h.setCell (p := ⟨g, k, none⟩) hg u
theorem below_put3 {B g : Nat} {w w' : World} {a b c : Value} (h : Below B w w') (hg : B ≤ g) : Below B w (((w'.setCell ⟨g, 0, none⟩ a).setCell ⟨g, 1, none⟩ b).setCell ⟨g, 2, none⟩ c) := below_put (below_put (below_put h hg) hg) hg
theorem two_boxes (w : World) (l1 l2 : List Value) (t1 t2 : TypeId) : ∃ W, (w.alloc (.cells l1.toArray t1)).alloc (.cells l2.toArray t2) = W ∧ Below w.heap.size w W ∧ w.heap.size + 2 = W.heap.size ∧ Row W w.heap.size t1 l1 ∧ Row W (w.heap.size + 1) t2 l2 := by
  refine ⟨_, rfl, below2 _ _ _, by simp, (Row.new w t1 l1).alloc _, ?_⟩
  rw [show w.heap.size + 1 = (w.alloc (.cells l1.toArray t1)).heap.size by simp]
  exact Row.new _ _ _
end Go.Proofs.YtafegghdhdgioabGreat
end

section
/-
  A stack that is turned in place (chapter 9): three cells of a block, and two rows of the call's own. No function of the program is named here.
-/
namespace Go.Proofs.YtafegghdhdgioabGreat
open Go.RowKit

/-- Only the block g, and rows of bytes and of truth values from block base on, may have turned. -/
structure MKp (w w' : World) (g base : Nat) : Prop where
  os : w'.os = w.os
  tape : w'.tape = w.tape
  output : w'.output = w.output
  size : w.heap.size ≤ w'.heap.size
  blk : ∀ k, k < w.heap.size → k ≠ g → (base ≤ k → ∀ cs t fr, w.heap[k]? = some (.cells cs t fr) → t ≠ 5 ∧ t ≠ 4) → w'.heap[k]? = w.heap[k]?
section
variable {w w' w'' : World} {g base : Nat}
theorem MKp.refl (w : World) (g base : Nat) : MKp w w g base := ⟨rfl, rfl, rfl, Nat.le_refl _, fun _ _ _ _ => rfl⟩
theorem MKp.trans (h : MKp w w' g base) (h' : MKp w' w'' g base) : MKp w w'' g base :=
  ⟨h'.os.trans h.os, h'.tape.trans h.tape, h'.output.trans h.output, Nat.le_trans h.size h'.size, fun k hk h1 h2 => by
    have e := h.blk k hk h1 h2
    exact (h'.blk k (Nat.lt_of_lt_of_le hk h.size) h1 (fun hb cs t fr => by rw [e]; exact h2 hb cs t fr)).trans e⟩
theorem MKp.of_below (h : Below w.heap.size w w') (g base : Nat) : MKp w w' g base := ⟨h.os, h.tape, h.output, h.size, fun k hk _ _ => h.block k hk⟩
theorem MKp.set (w : World) (g base k : Nat) (u : Value) : MKp w (w.setCell ⟨g, k, none⟩ u) g base :=
  have h := grown_one w g k u
  ⟨h.os, h.tape, h.output, h.size, fun j hj h1 _ => h.block j hj (fun e => h1 (by injection e))⟩
theorem MKp.of_row {j n c : Nat} {e : TypeId} {xs : List Value} (h : w.grownBy w' (some j)) (ho : w.ownsRow base e 1 (.slice (some ⟨j, 0, none⟩) n c) n xs) (he : e = 5 ∨ e = 4) (g : Nat) : MKp w w' g base :=
  ⟨h.os, h.tape, h.output, h.size, fun k hk _ h2 => h.block k hk (fun hkj => by
    have hkj : j = k := by first | exact Option.some.inj hkj | exact (Option.some.inj hkj).symm
    subst hkj
    obtain ⟨cur, hh, _, _, _, _, hb⟩ := own_heap ho
    have := h2 hb _ _ _ hh
    rcases he with he | he
    · exact this.1 he
    · exact this.2 he)⟩
theorem MKp.row {j t : Nat} {cs : List Value} (h : MKp w w' g base) (r : Row w j t cs) (h1 : j ≠ g) (h2 : j < base ∨ (t ≠ 5 ∧ t ≠ 4)) : Row w' j t cs := by
  unfold Row
  rw [h.blk j r.lt h1 (fun hb cs' t' fr e => by
    unfold Row at r
    rw [r] at e
    injection e with e
    injection e with _ e2
    rcases h2 with h2 | h2
    · omega
    · rw [← e2]; exact h2)]
  exact r
theorem MKp.below {B : Nat} (h : MKp w w' g base) (hB : B ≤ w.heap.size) (h1 : B ≤ g) (h2 : B ≤ base) : Below B w w' :=
  ⟨h.os, h.tape, h.output, h.size, fun k hk => h.blk k (by omega) (by omega) (fun e => by omega)⟩
/-- A row of another type. -/
theorem MKp.own {e : TypeId} {size n : Nat} {v : Value} {xs : List Value} {b2 : Nat} (h : MKp w w' g base) (ho : w.ownsRow b2 e size v n xs) (he : e ≠ 5 ∧ e ≠ 4) (hg : v.ownBlock ≠ some g) : w'.ownsRow b2 e size v n xs := by
  refine ⟨ho.1, ?_⟩
  rcases ho.2 with h2 | ⟨j, cap, cur, rfl, hb, hh, hr⟩
  · exact .inl h2
  · refine .inr ⟨j, cap, cur, rfl, hb, ?_, hr⟩
    rw [h.blk j (Array.getElem?_eq_some_iff.1 hh).1 (fun e => hg (by rw [e]; rfl)) (fun _ cs t fr e2 => by
      rw [hh] at e2
      injection e2 with e2
      injection e2 with _ e3
      rw [← e3]; exact he)]
    exact hh
end
/-- The stack S in memory: cells o, o + 1, o + 2 of block g of type T, and its two rows. -/
structure MemAt (w : World) (g o base : Nat) (T : TypeId) (cs : List Value) (A1 : Option Addr) (c1 : Nat) (A2 : Option Addr) (c2 : Nat) (S : Sk) : Prop where
  row : Row w g T cs
  k0 : cs[o]? = some (.slice A1 S.bs.length c1)
  k1 : cs[o + 1]? = some (.slice A2 S.bs.length c2)
  k2 : cs[o + 2]? = some (.int .i64 (S.sp : Int))
  own : StkOwn w base A1 c1 A2 c2 S 5 4
  gb : base ≤ g
  t1 : T ≠ 5
  t2 : T ≠ 4
section
variable {w w' : World} {g o base : Nat} {T : TypeId} {cs : List Value} {A1 A2 : Option Addr} {c1 c2 : Nat} {S : Sk}
theorem MemAt.bl (h : MemAt w g o base T cs A1 c1 A2 c2 S) : base ≤ w.heap.size := by have := h.row.lt; have := h.gb; omega
theorem MemAt.call (h : MemAt w g o base T cs A1 c1 A2 c2 S) (hb : Below w.heap.size w w') : MemAt w' g o base T cs A1 c1 A2 c2 S := ⟨h.row.call hb, h.k0, h.k1, h.k2, h.own.below hb, h.gb, h.t1, h.t2⟩
theorem MemAt.drewN (h : MemAt w g o base T cs A1 c1 A2 c2 S) (n : Nat) : MemAt (w.drewN n) g o base T cs A1 c1 A2 c2 S := h.call (below_draws (Below.refl _ _) n)
theorem own_offR {e : TypeId} {size n : Nat} {v : Value} {xs : List Value} (ho : w.ownsRow base e size v n xs) (r : Row w g T cs) (ht : T ≠ e) : v.ownBlock = none ∨ v.ownBlock ≠ some g := by
  rcases ho.2 with ⟨rfl, _⟩ | ⟨j, cap, cur, rfl, _, hh, _⟩
  · exact .inl rfl
  · refine .inr fun he => ?_
    injection he with he
    simp only at he
    unfold Row at r
    rw [he, r] at hh
    injection hh with hh
    injection hh with _ e3
    exact ht e3
/-- The SP is stored. -/
theorem MemAt.setSp (h : MemAt w g o base T cs A1 c1 A2 c2 S) {S' : Sk} (hb : S'.bs = S.bs) (hu : S'.us = S.us) (hok : S'.Ok) : MemAt (w.setCell ⟨g, o + 2, none⟩ (.int .i64 (S'.sp : Int))) g o base T (cs.set (o + 2) (.int .i64 (S'.sp : Int))) A1 c1 A2 c2 S' := by
  have hl : o + 2 < cs.length := (List.getElem?_eq_some_iff.1 h.k2).1
  have hg := grown_one w g (o + 2) (.int .i64 (S'.sp : Int))
  refine ⟨h.row.set_ _ _, ?_, ?_, ?_, ⟨hok, ?_, ?_⟩, h.gb, h.t1, h.t2⟩
  · rw [List.getElem?_set_ne (by omega), hb]; exact h.k0
  · rw [List.getElem?_set_ne (by omega), hb]; exact h.k1
  · rw [List.getElem?_set_self hl]
  · rw [hb]; exact h.own.o1.kept hg (own_offR h.own.o1 h.row h.t1)
  · rw [hb, hu]; exact h.own.o2.kept hg (own_offR h.own.o2 h.row h.t2)
end
end Go.Proofs.YtafegghdhdgioabGreat
end

section
/-
  When two instructions, slots, functions are equal; '==' at slots and at instructions. No function of the program is named here.
-/
namespace Go.Proofs.YtafegghdhdgioabGreat
open Go.RowKit

instance : DecidableEq Ins := fun x y =>
  if h : x.op = y.op ∧ x.a = y.a ∧ x.b = y.b ∧ x.c = y.c ∧ x.imm = y.imm then isTrue (by
    obtain ⟨_, _, _, _, _⟩ := x
    obtain ⟨_, _, _, _, _⟩ := y
    obtain ⟨h1, h2, h3, h4, h5⟩ := h
    simp only at h1 h2 h3 h4 h5
    subst h1 h2 h3 h4 h5
    rfl)
  else isFalse fun e => h (by subst e; exact ⟨rfl, rfl, rfl, rfl, rfl⟩)
instance : DecidableEq Fn := fun x y =>
  if h : x.params = y.params ∧ x.slots = y.slots ∧ x.code = y.code then isTrue (by
    obtain ⟨_, _, _⟩ := x
    obtain ⟨_, _, _⟩ := y
    obtain ⟨h1, h2, h3⟩ := h
    simp only at h1 h2 h3
    subst h1 h2 h3
    rfl)
  else isFalse fun e => h (by subst e; exact ⟨rfl, rfl, rfl⟩)
theorem ins_eq {x y : Ins} : x = y ↔ x.op = y.op ∧ x.a = y.a ∧ x.b = y.b ∧ x.c = y.c ∧ x.imm = y.imm := by
  constructor
  · rintro rfl; exact ⟨rfl, rfl, rfl, rfl, rfl⟩
  · intro h
    obtain ⟨_, _, _, _, _⟩ := x
    obtain ⟨_, _, _, _, _⟩ := y
    obtain ⟨h1, h2, h3, h4, h5⟩ := h
    simp only at h1 h2 h3 h4 h5
    subst h1 h2 h3 h4 h5
    rfl

theorem snoc_take {α : Type} {l : List α} {k : Nat} (h : k < l.length) : l.take (k + 1) = l.take k ++ [l[k]] := by
  rw [List.take_add_one, List.getElem?_eq_getElem h]; rfl
theorem ne_take {α : Type} {l m : List α} {k : Nat} (h1 : k < l.length) (h2 : k < m.length) (hne : l[k] ≠ m[k]) : l ≠ m := by
  rintro rfl; exact hne rfl

/-- Whether two lists are equal, the world but for draws as it was. -/
def BoolDrew (b : Bool) (w : World) (e : Ending) (w' : World) : Prop := e = .returned (.bool b) ∧ ∃ k, w' = w.drewN k

theorem slot_fields : Tryz.prog.underlying 123 = some (.struct (Tryz.prog.fieldsOf 123)) := by kernel_rfl
theorem slot_held : Tryz.prog.stoodInHeld 123 = false := by kernel_rfl
theorem equalIn_slot (a b c d : Int) (w : World) : (Op.equalIn 10000 123 (pv a b) (pv c d)).run Tryz.prog w = .ok (decide (a = c) && decide (b = d)) w := by
  rw [show (10000 : Nat) = 9999 + 1 from rfl, run_equalIn_agg w 9999 123 _ _ slot_fields slot_held]
  have u := Tryz.underlying3
  have a' := Tryz.isAgg3
  have z := Tryz.sizeOf3
  simp only [Program.fieldsOf, Tryz.underlying123]
  go_simp
  by_cases h1 : a = c <;> by_cases h2 : b = d <;> simp [h1, h2]
theorem run_ne_slot (a b c d : Int) (w : World) : (binOp .neq 123 (pv a b) (pv c d)).run Tryz.prog w = .ok (.bool (!(decide (a = c) && decide (b = d)))) w := by
  rw [run_neq_struct, equalIn_slot, Result.andThen_ok]
theorem instr_fields : Tryz.prog.underlying 52 = some (.struct (Tryz.prog.fieldsOf 52)) := by kernel_rfl
theorem instr_held : Tryz.prog.stoodInHeld 52 = false := by kernel_rfl
theorem equalIn_instr (o a b c m o' a' b' c' m' : Int) (w : World) : (Op.equalIn 10000 52 (iv o a b c m) (iv o' a' b' c' m')).run Tryz.prog w = .ok (decide (o = o') && (decide (a = a') && (decide (b = b') && (decide (c = c') && decide (m = m'))))) w := by
  rw [show (10000 : Nat) = 9999 + 1 from rfl, run_equalIn_agg w 9999 52 _ _ instr_fields instr_held]
  have u := Tryz.underlying3
  have ag := Tryz.isAgg3
  have z := Tryz.sizeOf3
  have u' := Tryz.underlying36
  have ag' := Tryz.isAgg36
  have z' := Tryz.sizeOf36
  simp only [Program.fieldsOf, Tryz.underlying52]
  go_simp
  by_cases h1 : o = o' <;> by_cases h2 : a = a' <;> by_cases h3 : b = b' <;> by_cases h4 : c = c' <;> by_cases h5 : m = m' <;> simp [h1, h2, h3, h4, h5]
theorem run_ne_instr (o a b c m o' a' b' c' m' : Int) (w : World) : (binOp .neq 52 (iv o a b c m) (iv o' a' b' c' m')).run Tryz.prog w = .ok (.bool (!(decide (o = o') && (decide (a = a') && (decide (b = b') && (decide (c = c') && decide (m = m'))))))) w := by
  rw [run_neq_struct, equalIn_instr, Result.andThen_ok]

theorem fn_eq {x y : Fn} : x = y ↔ x.params = y.params ∧ x.slots = y.slots ∧ x.code = y.code := by
  constructor
  · rintro rfl; exact ⟨rfl, rfl, rfl⟩
  · intro h
    obtain ⟨_, _, _⟩ := x
    obtain ⟨_, _, _⟩ := y
    obtain ⟨h1, h2, h3⟩ := h
    simp only at h1 h2 h3
    subst h1 h2 h3
    rfl
end Go.Proofs.YtafegghdhdgioabGreat
end

section
/-
  The mathematics of targets: frames, targets as lists; the errors of an instruction, of a frame, of a target. Nothing here names the program.
-/
namespace Go.Proofs.YtafegghdhdgioabGreat
open Go.RowKit

/-- A frame. -/
structure Fm where
  params : Int
  size : Int
  code : List Ins
/-- A target's frames. -/
abbrev Tg := List Fm
theorem fm_eq {x y : Fm} : x = y ↔ x.params = y.params ∧ x.size = y.size ∧ x.code = y.code := by
  constructor
  · rintro rfl; exact ⟨rfl, rfl, rfl⟩
  · intro h
    obtain ⟨_, _, _⟩ := x
    obtain ⟨_, _, _⟩ := y
    obtain ⟨h1, h2, h3⟩ := h
    simp only at h1 h2 h3
    subst h1 h2 h3
    rfl
instance : DecidableEq Fm := fun x y =>
  if h : x.params = y.params ∧ x.size = y.size ∧ x.code = y.code then isTrue (fm_eq.2 h) else isFalse fun e => h (fm_eq.1 e)

/-- The kinds of the operands A, B, C: 0 unused, 1 a register, 2 an offset, 3 a size, 4 a function, 5 a target; and whether Imm is used. -/
def mshp : List (Int × Int × Int × Bool) :=
  [(1, 0, 0, true), (1, 1, 0, false), (1, 1, 1, false), (1, 1, 1, false), (1, 1, 1, false), (1, 1, 1, false), (1, 1, 1, false), (1, 1, 1, false), (1, 1, 1, false), (1, 1, 1, false), (1, 1, 1, false), (1, 1, 1, false),
   (1, 1, 0, false), (1, 0, 0, false), (1, 0, 0, false), (1, 2, 3, false), (2, 1, 3, false), (2, 2, 3, false), (0, 0, 0, false), (0, 0, 0, false), (5, 0, 0, false), (1, 5, 0, false), (4, 0, 0, false), (0, 0, 0, false), (0, 0, 0, true)]
def mshpOf (op : Int) : Int × Int × Int × Bool := mshp.getD op.toNat (0, 0, 0, false)
/-- The error of one operand: N frames, C instructions. -/
def mopE (N C k n : Int) : Int :=
  if k = 0 then (if n = 0 then 0 else 2) else if k = 1 then (if withB n 8 then 0 else 4) else if k = 4 then (if withB n N then 0 else 4) else if k = 3 then (if szB n then 0 else 5) else if k = 5 then (if withB n C then 0 else 6) else 0
/-- The operation exists in the target. -/
def exB (op : Int) : Bool := withB op 25 && (!decide (op = 18) && !decide (op = 19))
/-- An instruction reads, or writes, memory. -/
def rdB (op : Int) : Bool := decide (op = 15) || decide (op = 17)
def wrB (op : Int) : Bool := decide (op = 16) || decide (op = 17)
/-- The interval that it reads, or writes. -/
def rdI (x : Ins) : Int × Int := if rdB x.op then (x.b, x.c) else (0, 0)
def wrI (x : Ins) : Int × Int := if wrB x.op then (x.a, x.c) else (0, 0)
/-- It reads and writes where it may. -/
def covB (P S : Int) (x : Ins) : Bool := insB (rdI x).1 (rdI x).2 (S + 16 * P) && insB (wrI x).1 (wrI x).2 S
/-- The first error in the document's order. -/
def mrank (l : List Int) (cov : Bool) : Int := if l.contains 2 then 2 else if l.contains 4 then 4 else if l.contains 5 then 5 else if cov = false then 4 else if l.contains 6 then 6 else 0
def mfound (N C : Int) (x : Ins) : List Int := foundE (mopE N C (mshpOf x.op).1 x.a) (mopE N C (mshpOf x.op).2.1 x.b) (mopE N C (mshpOf x.op).2.2.1 x.c) (mshpOf x.op).2.2.2 x.imm
/-- The error of an instruction of a frame of a right shape. -/
def minsE (N : Nat) (f : Fm) (x : Ins) : Int := if exB x.op = false then 4 else mrank (mfound N f.code.length x) (covB f.params f.size x)
/-- The shape of a frame is right. -/
def shB (Al : Int) (f : Fm) : Bool := powB Al && (withB f.params 9 && (withB f.size 2147483520 && decide (f.size % Al = 0)))
/-- The error of a frame. -/
def fmE (Al : Int) (N : Nat) (f : Fm) : Int :=
  if shB Al f = false then 4
  else if 1024 < f.code.length then 3
  else if firstE (f.code.map (minsE N f)) ≠ 0 then firstE (f.code.map (minsE N f))
  else if closedB f.code = false then 6 else 0
/-- A frame has room for the parameters of what it calls. -/
def callB (F : Tg) (f : Fm) (x : Ins) : Bool := !(decide (x.op = 22) && decide (f.size < 16 * ((F[x.a.toNat]?).map Fm.params).getD 0))
def roomB (F : Tg) (f : Fm) : Bool := f.code.all (callB F f)
/-- The error of a target. -/
def tgE (Al : Int) (F : Tg) : Int :=
  if 80 < F.length then 3
  else match F with
    | [] => 4
    | f :: _ => if powB Al = false ∨ Al < 16 then 5 else if f.params ≠ 0 then 7 else if firstE (F.map (fmE Al F.length)) ≠ 0 then firstE (F.map (fmE Al F.length)) else if F.all (roomB F) then 0 else 7
/-- Imm fields of 64 bits. -/
def ImmT (F : Tg) : Prop := ∀ f ∈ F, ∀ x ∈ f.code, 0 ≤ x.imm ∧ x.imm ≤ 18446744073709551615
end Go.Proofs.YtafegghdhdgioabGreat
end

section
/-
  The mathematics of a run of a target (chapter 12): states, steps, runs with so much fuel on a stack; what more fuel changes. Nothing here names the program.
-/
namespace Go.Proofs.YtafegghdhdgioabGreat
open Go.RowKit

/-- A machine: the last activation (its frame, its next instruction) is the one that runs. -/
structure Tm where
  c : Co
  st : List (Nat × Nat)
  mem : Sk
  deep : Nat
def fmAt (F : Tg) (f : Nat) : Fm := F.getD f ⟨0, 0, []⟩
def fsz (F : Tg) (f : Nat) : Nat := (fmAt F f).size.toNat
def Tm.top (s : Tm) : Nat × Nat := s.st.getLastD (0, 0)
def Tm.setTop (s : Tm) (a : Nat × Nat) : Tm := { s with st := s.st.dropLast ++ [a] }
def Tm.stop (s : Tm) (k : Int) : Tm := { s with c := s.c.stop k }
def Tm.enter (F : Tg) (T0 : Nat) (s : Tm) (f : Nat) : Tm :=
  if s.mem.sp < fsz F f then s.stop 5 else { s with mem := pushS s.mem (fsz F f), st := s.st ++ [(f, 0)], deep := max s.deep (T0 - (s.mem.sp - fsz F f)) }
def Tm.leave (F : Tg) (s : Tm) : Tm :=
  let t : Tm := { s with mem := popS s.mem (fsz F s.top.1), st := s.st.dropLast }
  if s.st.length ≤ 1 then { t with c := t.c.ret } else t
def Tm.access (s : Tm) (x : Ins) : Tm :=
  if x.op = 15 then
    (if fitB s.mem x.b x.c = false then { s with c := (s.c.setR x.a 0).stop 6 }
     else if usedB s.mem (s.mem.sp + x.b.toNat) x.c.toNat = false then { s with c := (s.c.setR x.a 0).stop 3 }
     else { s with c := s.c.setR x.a (valOf (cutS s.mem (s.mem.sp + x.b.toNat) x.c.toNat)) })
  else if x.op = 16 then
    (if fitB s.mem x.a x.c = false then s.stop 6 else { s with mem := storeS s.mem (s.mem.sp + x.a.toNat) x.c.toNat (s.c.reg x.b) })
  else
    (if fitB s.mem x.a x.c = false ∨ fitB s.mem x.b x.c = false then s.stop 6
     else if usedB s.mem (s.mem.sp + x.b.toNat) x.c.toNat = false then s.stop 3
     else { s with mem := putS s.mem (s.mem.sp + x.a.toNat) (cutS s.mem (s.mem.sp + x.b.toNat) x.c.toNat) })
def tinsAt (F : Tg) (f pc : Nat) : Ins := (fmAt F f).code.getD pc ⟨24, 0, 0, 0, 0⟩
def Tm.cur (F : Tg) (s : Tm) : Ins := tinsAt F s.top.1 s.top.2
def Co.more (c : Co) : Co := { c with steps := c.steps + 1 }
def Tm.fetched (s : Tm) (x : Ins) : Tm := ({ s with c := s.c.more } : Tm).setTop (s.top.1, (s.c.more.next x (s.top.2 : Int)).toNat)
def Tm.exec (F : Tg) (T0 : Nat) (s : Tm) (x : Ins) : Tm :=
  if 15 ≤ x.op ∧ x.op ≤ 17 then s.access x else if x.op = 22 then s.enter F T0 x.a.toNat else if x.op = 23 then s.leave F else { s with c := s.c.execC x }
def Tm.step (F : Tg) (T0 : Nat) (s : Tm) : Tm := (s.fetched (s.cur F)).exec F T0 (s.cur F)
/-- k steps, or fewer if the run ends before. -/
def iterT (F : Tg) (T0 : Nat) : Nat → Tm → Tm
  | 0, s => s
  | k + 1, s => if s.c.ended then s else iterT F T0 k (s.step F T0)
def Tm.fuelled (s : Tm) : Tm := if s.c.ended then s else s.stop 4
def coreZ (inp : List Nat) : Co := ⟨inp, 0, 0, 0, [], 0, List.replicate 8 0, false⟩
def roomT (Al : Nat) (size : Nat) : Nat := size - size % Al
def preT (Al : Nat) (inp : List Nat) (size : Nat) : Tm := ⟨coreZ inp, [], newS size (roomT Al size), 0⟩
def startT (Al : Nat) (F : Tg) (inp : List Nat) (size : Nat) : Tm := (preT Al inp size).enter F (roomT Al size) 0
/-- A run with so much fuel on a stack of so many bytes. -/
def runT (Al : Nat) (F : Tg) (inp : List Nat) (fuel size : Nat) : Tm :=
  if fuel = 0 then (preT Al inp size).stop 4 else (iterT F (roomT Al size) fuel (startT Al F inp size)).fuelled

section
variable {F : Tg} {T0 : Nat} {s : Tm}
theorem iterT_ended (h : s.c.ended = true) : ∀ k, iterT F T0 k s = s
  | 0 => rfl
  | k + 1 => by rw [iterT, if_pos h]
theorem iterT_add (n : Nat) : ∀ (m : Nat) (s : Tm), iterT F T0 (n + m) s = iterT F T0 m (iterT F T0 n s) := by
  induction n with
  | zero => intro m s; rw [Nat.zero_add]; rfl
  | succ n ih =>
    intro m s
    rw [show n + 1 + m = (n + m) + 1 by omega, iterT, iterT]
    by_cases h : s.c.ended = true
    · rw [if_pos h, if_pos h, iterT_ended h]
    · rw [if_neg h, if_neg h, ih]
theorem iterT_succ (k : Nat) (s : Tm) : iterT F T0 (k + 1) s = if (iterT F T0 k s).c.ended then iterT F T0 k s else (iterT F T0 k s).step F T0 := by
  rw [iterT_add k 1 s, iterT]
  rfl
/-- What an end is: any kind but the fuel's. -/
def EndK (c : Co) : Prop := c.ended = true → 0 ≤ c.kind ∧ c.kind ≤ 6 ∧ c.kind ≠ 4
/-- What a step leaves of output and steps. -/
structure Moves (s t : Tm) : Prop where
  steps : t.c.steps = s.c.steps
  trace : ∃ l, t.c.trace = s.c.trace ++ l
  tl : t.c.trace.length ≤ s.c.trace.length + 1
  kind : EndK t.c
  deep : s.deep ≤ t.deep
theorem Moves.of {t : Tm} (h1 : t.c.steps = s.c.steps) (h2 : t.c.trace = s.c.trace) (h3 : EndK t.c) (h4 : s.deep ≤ t.deep) : Moves s t := ⟨h1, ⟨[], by rw [h2, List.append_nil]⟩, by rw [h2]; omega, h3, h4⟩
theorem endK_off {c : Co} (h : c.ended = false) : EndK c := fun h2 => by rw [h] at h2; cases h2
theorem endK_stop {c : Co} {k : Int} (h : 0 ≤ k ∧ k ≤ 6 ∧ k ≠ 4) : EndK (c.stop k) := fun _ => h
theorem setR_k (c : Co) (i : Int) (v : Nat) : (c.setR i v).steps = c.steps ∧ (c.setR i v).trace = c.trace ∧ (c.setR i v).ended = c.ended := by
  obtain ⟨_, _, _, _, e6, e7, e8⟩ := c.setR_keeps i v
  exact ⟨e7, e6, e8⟩
theorem access_moves (x : Ins) (h : s.c.ended = false) : Moves s (s.access x) := by
  obtain ⟨a1, a2, _⟩ := setR_k s.c x.a 0
  unfold Tm.access
  split
  · split
    · exact Moves.of a1 a2 (endK_stop (by decide)) (Nat.le_refl _)
    · split
      · exact Moves.of a1 a2 (endK_stop (by decide)) (Nat.le_refl _)
      · obtain ⟨b1, b2, b3⟩ := setR_k s.c x.a (valOf (cutS s.mem (s.mem.sp + x.b.toNat) x.c.toNat))
        exact Moves.of b1 b2 (endK_off (by rw [b3]; exact h)) (Nat.le_refl _)
  · split
    · split
      · exact Moves.of rfl rfl (endK_stop (by decide)) (Nat.le_refl _)
      · exact Moves.of rfl rfl (endK_off h) (Nat.le_refl _)
    · split
      · exact Moves.of rfl rfl (endK_stop (by decide)) (Nat.le_refl _)
      · split
        · exact Moves.of rfl rfl (endK_stop (by decide)) (Nat.le_refl _)
        · exact Moves.of rfl rfl (endK_off h) (Nat.le_refl _)
theorem enter_moves (f : Nat) (h : s.c.ended = false) : Moves s (s.enter F T0 f) := by
  unfold Tm.enter
  split
  · exact Moves.of rfl rfl (endK_stop (by decide)) (Nat.le_refl _)
  · exact Moves.of rfl rfl (endK_off h) (Nat.le_max_left _ _)
theorem leave_moves (h : s.c.ended = false) : Moves s (s.leave F) := by
  unfold Tm.leave
  dsimp only
  split
  · exact Moves.of rfl rfl (endK_stop (c := { s.c with res := s.c.reg 0 }) (k := 0) (by decide)) (Nat.le_refl _)
  · exact Moves.of rfl rfl (endK_off h) (Nat.le_refl _)
theorem exec_moves (x : Ins) (h : s.c.ended = false) : Moves s (s.exec F T0 x) := by
  unfold Tm.exec
  split
  · exact access_moves x h
  · split
    · exact enter_moves _ h
    · split
      · exact leave_moves h
      · have hm := exec_moved s.c x
        refine ⟨hm.steps, hm.trace, hm.tl, fun he => ?_, Nat.le_refl _⟩
        rcases hm.kind he with h2 | h2
        · rw [h] at h2; cases h2
        · exact ⟨h2.1, by show (s.c.execC x).kind ≤ 6; omega, by show (s.c.execC x).kind ≠ 4; omega⟩
/-- A step of a machine that has not ended. -/
structure Moved1 (s t : Tm) : Prop where
  steps : t.c.steps = s.c.steps + 1
  trace : ∃ l, t.c.trace = s.c.trace ++ l
  tl : t.c.trace.length ≤ s.c.trace.length + 1
  kind : EndK t.c
  deep : s.deep ≤ t.deep
theorem stepT_moved (h : s.c.ended = false) : Moved1 s (s.step F T0) := by
  have hm := exec_moves (F := F) (T0 := T0) (s := s.fetched (s.cur F)) (s.cur F) h
  exact ⟨hm.steps, hm.trace, hm.tl, hm.kind, hm.deep⟩
/-- What k steps leave. -/
structure WentT (k : Nat) (s t : Tm) : Prop where
  most : t.c.steps ≤ s.c.steps + k
  least : s.c.steps ≤ t.c.steps
  all : t.c.ended = false → t.c.steps = s.c.steps + k
  trace : ∃ l, t.c.trace = s.c.trace ++ l
  kind : EndK t.c
  deep : s.deep ≤ t.deep
theorem iterT_went : ∀ (k : Nat) (s : Tm), EndK s.c → WentT k s (iterT F T0 k s)
  | 0, s, h => ⟨Nat.le_refl _, Nat.le_refl _, fun _ => rfl, ⟨[], by rw [List.append_nil]; rfl⟩, h, Nat.le_refl _⟩
  | k + 1, s, h => by
    rw [iterT]
    by_cases he : s.c.ended = true
    · rw [if_pos he]
      exact ⟨by omega, Nat.le_refl _, (fun h2 => by rw [he] at h2; cases h2), ⟨[], by rw [List.append_nil]⟩, h, Nat.le_refl _⟩
    · rw [if_neg he]
      have he' : s.c.ended = false := by simpa using he
      have hm := stepT_moved (F := F) (T0 := T0) he'
      have hw := iterT_went k (s.step F T0) hm.kind
      have h1 := hm.steps
      obtain ⟨l1, hl1⟩ := hm.trace
      obtain ⟨l2, hl2⟩ := hw.trace
      exact ⟨by have := hw.most; omega, by have := hw.least; omega, fun h2 => by have := hw.all h2; omega, ⟨l1 ++ l2, by rw [hl2, hl1, List.append_assoc]⟩, hw.kind, Nat.le_trans hm.deep hw.deep⟩
theorem tfuelled_ended (s : Tm) : s.fuelled.c.ended = true := by
  unfold Tm.fuelled; split
  · assumption
  · rfl
theorem tfuelled_same (s : Tm) : s.fuelled.c.steps = s.c.steps ∧ s.fuelled.c.trace = s.c.trace ∧ s.fuelled.deep = s.deep := by
  unfold Tm.fuelled; split <;> exact ⟨rfl, rfl, rfl⟩
theorem tfuelled_kind {s : Tm} (h : EndK s.c) : s.fuelled.c.kind = 4 ↔ s.c.ended = false := by
  unfold Tm.fuelled
  by_cases he : s.c.ended = true
  · rw [if_pos he]
    have := (h he).2.2
    exact ⟨fun e => absurd e this, fun e => by rw [he] at e; cases e⟩
  · rw [if_neg he]
    exact ⟨fun _ => by simpa using he, fun _ => rfl⟩
end
section
variable {F : Tg} {Al : Nat} {inp : List Nat} {size : Nat}
theorem start_moves : Moves (preT Al inp size) (startT Al F inp size) := enter_moves _ rfl
theorem runT_zero : (runT Al F inp 0 size).c.kind = 4 ∧ (runT Al F inp 0 size).c.steps = 0 ∧ (runT Al F inp 0 size).c.trace = [] ∧ (runT Al F inp 0 size).deep = 0 := ⟨rfl, rfl, rfl, rfl⟩
theorem runT_pos {n : Nat} (h : n ≠ 0) : runT Al F inp n size = (iterT F (roomT Al size) n (startT Al F inp size)).fuelled := by unfold runT; rw [if_neg h]
theorem runT_went (n : Nat) : WentT n (startT Al F inp size) (iterT F (roomT Al size) n (startT Al F inp size)) := iterT_went n _ start_moves.kind
/-- More fuel: a run that has ended by itself stays; another one's trace grows. -/
theorem more_fuelT (n m : Nat) (h : (runT Al F inp n size).c.kind ≠ 4) : runT Al F inp (n + m) size = runT Al F inp n size := by
  by_cases h0 : n = 0
  · subst h0; exact absurd rfl h
  · rw [runT_pos h0] at h ⊢
    rw [runT_pos (by omega)]
    have hw := runT_went (Al := Al) (F := F) (inp := inp) (size := size) n
    have he : (iterT F (roomT Al size) n (startT Al F inp size)).c.ended = true := by
      cases e : (iterT F (roomT Al size) n (startT Al F inp size)).c.ended with
      | true => rfl
      | false => exact absurd ((tfuelled_kind hw.kind).2 e) h
    rw [iterT_add, iterT_ended he]
theorem runT_most (n : Nat) : (runT Al F inp n size).c.steps ≤ n := by
  by_cases h0 : n = 0
  · subst h0; exact Nat.le_refl _
  · rw [runT_pos h0, (tfuelled_same _).1]
    have hw := (runT_went (Al := Al) (F := F) (inp := inp) (size := size) n).most
    have := (start_moves (F := F) (Al := Al) (inp := inp) (size := size)).steps
    have h1 : (preT Al inp size).c.steps = 0 := rfl
    omega
theorem runT_fuel {n : Nat} (h : (runT Al F inp n size).c.kind = 4) : (runT Al F inp n size).c.steps = n := by
  by_cases h0 : n = 0
  · subst h0; rfl
  · rw [runT_pos h0] at h ⊢
    have hw := runT_went (Al := Al) (F := F) (inp := inp) (size := size) n
    have he := (tfuelled_kind hw.kind).1 h
    have := hw.all he
    have h2 := (start_moves (F := F) (Al := Al) (inp := inp) (size := size)).steps
    have h1 : (preT Al inp size).c.steps = 0 := rfl
    rw [(tfuelled_same _).1]
    omega
theorem more_traceT (n m : Nat) : (∃ l, (runT Al F inp (n + m) size).c.trace = (runT Al F inp n size).c.trace ++ l) ∧ (runT Al F inp n size).c.steps ≤ (runT Al F inp (n + m) size).c.steps := by
  by_cases h0 : n = 0
  · subst h0
    exact ⟨⟨_, rfl⟩, Nat.zero_le _⟩
  · have hw := runT_went (Al := Al) (F := F) (inp := inp) (size := size) n
    have h2 := iterT_went (F := F) (T0 := roomT Al size) m _ hw.kind
    rw [runT_pos h0, runT_pos (show n + m ≠ 0 by omega), (tfuelled_same _).1, (tfuelled_same _).1, (tfuelled_same _).2.1, (tfuelled_same _).2.1, iterT_add]
    exact ⟨h2.trace, h2.least⟩
end
end Go.Proofs.YtafegghdhdgioabGreat
end

section
/-
  Targets in memory: rows of frames, what lies behind them; kept over what a call leaves. No function of the program is named here.
-/
namespace Go.Proofs.YtafegghdhdgioabGreat
open Go.RowKit

/-- A frame, a target by value. -/
abbrev mv (P S : Int) (A : Option Addr) (n c : Nat) : Value := .agg #[.int .i64 P, .int .i64 S, .slice A n c]
abbrev tv (Al : Int) (A : Option Addr) (n c : Nat) : Value := .agg #[.int .i64 Al, .slice A n c]
/-- A frame's head. -/
structure Fd where
  p : Int
  s : Int
  a : Option Addr
  n : Nat
  c : Nat
def fdcell (h : Fd) : List Value := [.int .i64 h.p, .int .i64 h.s, .slice h.a h.n h.c]
def fdcells (l : List Fd) : List Value := l.flatMap fdcell
theorem fdcell_len (h : Fd) : (fdcell h).length = 3 := rfl
theorem fdcells_length (l : List Fd) : (fdcells l).length = l.length * 3 := flat_len fdcell_len l
theorem fdcells_append (l m : List Fd) : fdcells (l ++ m) = fdcells l ++ fdcells m := by simp [fdcells]
theorem fdcells_oneCell (l : List Fd) : ∀ v ∈ fdcells l, v.oneCell' = true := by
  intro v hv
  simp only [fdcells, List.mem_flatMap] at hv
  obtain ⟨x, _, hv⟩ := hv
  simp [fdcell] at hv
  rcases hv with rfl | rfl | rfl <;> rfl
/-- The head h is frame f: its code lies from block lo on, below B. -/
structure FdAt (w : World) (lo B : Nat) (h : Fd) (f : Fm) : Prop where
  p : h.p = f.params
  s : h.s = f.size
  l : f.code.length = h.n
  k : Cap h.a h.n h.c
  fr : Far lo h.a
  c : Sees w B h.a (icells f.code)
structure Fds (w : World) (lo B : Nat) (hs : List Fd) (F : Tg) : Prop where
  len : hs.length = F.length
  at_ : ∀ (k : Nat) (h : Fd) (f : Fm), hs[k]? = some h → F[k]? = some f → FdAt w lo B h f
/-- At the slice A, n, c stand the frames F. -/
structure TgAt (w : World) (lo B : Nat) (A : Option Addr) (n c : Nat) (hs : List Fd) (F : Tg) : Prop where
  len : F.length = n
  cap : Cap A n c
  far : Far lo A
  see : Sees w B A (fdcells hs)
  hd : Fds w lo B hs F

section
variable {w w' : World} {lo lo' B B' : Nat} {h : Fd} {f : Fm} {hs : List Fd} {F : Tg} {A : Option Addr} {n c : Nat}
theorem FdAt.keep (H : FdAt w lo B h f) (hk : ∀ p : Addr, lo ≤ p.block → p.block < B → w'.cell? p = w.cell? p) : FdAt w' lo B h f := ⟨H.p, H.s, H.l, H.k, H.fr, H.c.keepF H.fr hk⟩
theorem FdAt.more (H : FdAt w lo B h f) (hB : B ≤ B') (hl : lo' ≤ lo) : FdAt w lo' B' h f := ⟨H.p, H.s, H.l, H.k, H.fr.more hl, H.c.more hB⟩
theorem Fds.keep (H : Fds w lo B hs F) (hk : ∀ p : Addr, lo ≤ p.block → p.block < B → w'.cell? p = w.cell? p) : Fds w' lo B hs F := ⟨H.len, fun k h f e1 e2 => (H.at_ k h f e1 e2).keep hk⟩
theorem Fds.more (H : Fds w lo B hs F) (hB : B ≤ B') (hl : lo' ≤ lo) : Fds w lo' B' hs F := ⟨H.len, fun k h f e1 e2 => (H.at_ k h f e1 e2).more hB hl⟩
theorem TgAt.keep (H : TgAt w lo B A n c hs F) (hk : ∀ p : Addr, lo ≤ p.block → p.block < B → w'.cell? p = w.cell? p) : TgAt w' lo B A n c hs F := ⟨H.len, H.cap, H.far, H.see.keepF H.far hk, H.hd.keep hk⟩
theorem TgAt.more (H : TgAt w lo B A n c hs F) (hB : B ≤ B') (hl : lo' ≤ lo) : TgAt w lo' B' A n c hs F := ⟨H.len, H.cap, H.far.more hl, H.see.more hB, H.hd.more hB hl⟩
theorem TgAt.below (H : TgAt w lo B A n c hs F) (hb : Below B w w') : TgAt w' lo B A n c hs F := H.keep fun _ _ hp => hb.cell hp
theorem TgAt.call (H : TgAt w lo w.heap.size A n c hs F) (hb : Below w.heap.size w w') : TgAt w' lo w'.heap.size A n c hs F := (H.below hb).more hb.size (Nat.le_refl _)
theorem TgAt.drewN (H : TgAt w lo B A n c hs F) (k : Nat) : TgAt (w.drewN k) lo B A n c hs F := H.keep fun _ _ _ => rfl
theorem TgAt.alloc (H : TgAt w lo w.heap.size A n c hs F) (o : Obj) : TgAt (w.alloc o) lo (w.alloc o).heap.size A n c hs F := H.call (below1 w o)
theorem TgAt.grown {g : Nat} (H : TgAt w lo B A n c hs F) (hg : w.grownBy w' (some g)) (hlo : g < lo) (hB : B ≤ w.heap.size) : TgAt w' lo B A n c hs F :=
  H.keep fun p h1 h2 => World.cell?_of_block (hg.block p.block (by omega) (fun e => by injection e with e; omega))
theorem FdAt.below (H : FdAt w lo B h f) (hb : Below B w w') : FdAt w' lo B h f := H.keep fun _ _ hp => hb.cell hp
theorem FdAt.grown {g : Nat} (H : FdAt w lo B h f) (hg : w.grownBy w' (some g)) (hlo : g < lo) (hB : B ≤ w.heap.size) : FdAt w' lo B h f :=
  H.keep fun p h1 h2 => World.cell?_of_block (hg.block p.block (by omega) (fun e => by injection e with e; omega))
/-- The head at place k, and where it stands. -/
theorem fd_at {l : List Fd} {k : Nat} (h : Sees w B A (fdcells l)) (hk : k < l.length) :
    ∃ b off, A = some ⟨b, off, none⟩ ∧ b < B ∧ w.cell? ⟨b, off + k * 3, none⟩ = some (.int .i64 l[k].p) ∧ w.cell? ⟨b, off + k * 3 + 1, none⟩ = some (.int .i64 l[k].s) ∧ w.cell? ⟨b, off + k * 3 + 2, none⟩ = some (.slice l[k].a l[k].n l[k].c) := by
  have hx := List.getElem?_eq_getElem hk
  have g := fun j hj => flat_at fdcell_len l k _ hx j hj
  obtain ⟨b, off, e, hb, h0⟩ := h _ _ (g 0 (by omega))
  obtain ⟨b1, o1, e1, _, h1⟩ := h _ _ (g 1 (by omega))
  obtain ⟨b2, o2, e2, _, h2⟩ := h _ _ (g 2 (by omega))
  subst e
  injection e1 with e1; injection e1 with x1 y1; subst x1 y1
  injection e2 with e2; injection e2 with x2 y2; subst x2 y2
  exact ⟨b, off, rfl, hb, h0, h1, h2⟩
/-- Frame k of a target: where its head stands, and that it is it. -/
theorem fm_at {k : Nat} (H : TgAt w lo B A n c hs F) (hk : k < n) :
    ∃ (b off : Nat) (P S : Int) (A1 : Option Addr) (n1 c1 : Nat) (f : Fm), A = some ⟨b, off, none⟩ ∧ b < B ∧ F[k]? = some f ∧ hs[k]? = some ⟨P, S, A1, n1, c1⟩ ∧ FdAt w lo B ⟨P, S, A1, n1, c1⟩ f ∧
      w.cell? ⟨b, off + k * 3, none⟩ = some (.int .i64 P) ∧ w.cell? ⟨b, off + k * 3 + 1, none⟩ = some (.int .i64 S) ∧ w.cell? ⟨b, off + k * 3 + 2, none⟩ = some (.slice A1 n1 c1) := by
  have h1 : k < F.length := by rw [H.len]; exact hk
  have h2 : k < hs.length := by rw [H.hd.len]; exact h1
  obtain ⟨b, off, e, hb, c0, c1, c2⟩ := fd_at H.see h2
  exact ⟨b, off, _, _, _, _, _, F[k], e, hb, List.getElem?_eq_getElem h1, List.getElem?_eq_getElem h2, H.hd.at_ k _ _ (List.getElem?_eq_getElem h2) (List.getElem?_eq_getElem h1), c0, c1, c2⟩
/-- The same at a place that both lists name. -/
theorem fm_at' {k : Nat} {f : Fm} {P S : Int} {A1 : Option Addr} {n1 c1 : Nat} (H : TgAt w lo B A n c hs F) (hf : F[k]? = some f) (hh : hs[k]? = some ⟨P, S, A1, n1, c1⟩) :
    ∃ (b off : Nat), A = some ⟨b, off, none⟩ ∧ b < B ∧ FdAt w lo B ⟨P, S, A1, n1, c1⟩ f ∧
      w.cell? ⟨b, off + k * 3, none⟩ = some (.int .i64 P) ∧ w.cell? ⟨b, off + k * 3 + 1, none⟩ = some (.int .i64 S) ∧ w.cell? ⟨b, off + k * 3 + 2, none⟩ = some (.slice A1 n1 c1) := by
  have hk : k < n := by rw [← H.len]; exact (List.getElem?_eq_some_iff.1 hf).1
  obtain ⟨b, off, _, _, _, _, _, _, e, hb, e1, e2, h, c0, c1, c2⟩ := fm_at H hk
  rw [hf] at e1; injection e1 with e1; subst e1
  rw [hh] at e2; injection e2 with e2; injection e2 with x1 x2 x3 x4 x5; subst x1 x2 x3 x4 x5
  exact ⟨b, off, e, hb, h, c0, c1, c2⟩
end
end Go.Proofs.YtafegghdhdgioabGreat
end

section
/-
  A machine of the target language in memory (chapter 12): its block, its stack's rows, its activations. No function of the program is named here.
-/
namespace Go.Proofs.YtafegghdhdgioabGreat
open Go.RowKit

/-- The cells of an activation. -/
def tacell (a : Nat × Nat) : List Value := [.int .i64 (a.1 : Int), .int .i64 (a.2 : Int)]
def tacells (l : List (Nat × Nat)) : List Value := l.flatMap tacell
theorem tacell_len (a : Nat × Nat) : (tacell a).length = 2 := rfl
theorem tacells_len (l : List (Nat × Nat)) : (tacells l).length = l.length * 2 := flat_len tacell_len l
theorem tacells_app (l m : List (Nat × Nat)) : tacells (l ++ m) = tacells l ++ tacells m := by simp [tacells]
theorem tacell_oneCell (a : Nat × Nat) : ∀ u ∈ tacell a, u.oneCell' = true := by
  intro u hu
  simp [tacell] at hu
  rcases hu with rfl | rfl <;> rfl
theorem tacells_at {l : List (Nat × Nat)} {k : Nat} {a : Nat × Nat} (h : l[k]? = some a) : (tacells l)[k * 2]? = some (.int .i64 (a.1 : Int)) ∧ (tacells l)[k * 2 + 1]? = some (.int .i64 (a.2 : Int)) :=
  ⟨flat_at tacell_len l k a h 0 (by omega), flat_at tacell_len l k a h 1 (by omega)⟩
/-- What lies behind the machine's core. -/
def trest (T0 : Nat) (s : Tm) (vf : Value) (A1 : Option Addr) (c1 : Nat) (A2 : Option Addr) (c2 : Nat) (vs : Value) : List Value :=
  [vf, .slice A1 s.mem.bs.length c1, .slice A2 s.mem.bs.length c2, .int .i64 (s.mem.sp : Int), .int .i64 (T0 : Int), vs, .int .i64 (s.deep : Int)]
/-- The machine s in memory: its block g; all of its own from block base on. -/
structure TmAt (w : World) (g base fu T0 : Nat) (vi vt vf : Value) (A1 : Option Addr) (c1 : Nat) (A2 : Option Addr) (c2 : Nat) (vs : Value) (s : Tm) : Prop where
  core : CoAt w g base 73 fu vi vt (trest T0 s vf A1 c1 A2 c2 vs) s.c
  own : StkOwn w base A1 c1 A2 c2 s.mem 5 4
  st : w.ownsRow base 138 2 vs s.st.length (tacells s.st)
/-- .. wherever. -/
def TmIn (w : World) (g base fu T0 : Nat) (vf : Value) (s : Tm) : Prop := ∃ vi vt A1 c1 A2 c2 vs, TmAt w g base fu T0 vi vt vf A1 c1 A2 c2 vs s
section
variable {w w' : World} {g base fu T0 : Nat} {vi vt vf vs : Value} {A1 A2 : Option Addr} {c1 c2 : Nat} {s : Tm}
theorem TmAt.gl (h : TmAt w g base fu T0 vi vt vf A1 c1 A2 c2 vs s) : g < w.heap.size := h.core.gl
theorem TmAt.bl (h : TmAt w g base fu T0 vi vt vf A1 c1 A2 c2 vs s) : base ≤ w.heap.size := h.core.bl
theorem TmAt.call (h : TmAt w g base fu T0 vi vt vf A1 c1 A2 c2 vs s) (hb : Below w.heap.size w w') : TmAt w' g base fu T0 vi vt vf A1 c1 A2 c2 vs s := ⟨h.core.call hb, h.own.below hb, own_below h.st hb⟩
theorem TmAt.drewN (h : TmAt w g base fu T0 vi vt vf A1 c1 A2 c2 vs s) (n : Nat) : TmAt (w.drewN n) g base fu T0 vi vt vf A1 c1 A2 c2 vs s := h.call (below_draws (Below.refl _ _) n)
theorem TmAt.drew_ (h : TmAt w g base fu T0 vi vt vf A1 c1 A2 c2 vs s) : TmAt w.drew g base fu T0 vi vt vf A1 c1 A2 c2 vs s := h.drewN 1
theorem TmAt.alloc (h : TmAt w g base fu T0 vi vt vf A1 c1 A2 c2 vs s) (o : Obj) : TmAt (w.alloc o) g base fu T0 vi vt vf A1 c1 A2 c2 vs s := h.call (below1 w o)
theorem TmAt.in_ (h : TmAt w g base fu T0 vi vt vf A1 c1 A2 c2 vs s) : TmIn w g base fu T0 vf s := ⟨_, _, _, _, _, _, _, h⟩
theorem TmAt.far (h : TmAt w g base fu T0 vi vt vf A1 c1 A2 c2 vs s) (j : Nat) {v : Value} (hv : (trest T0 s vf A1 c1 A2 c2 vs)[j]? = some v) : w.cell? ⟨g, 25 + j, none⟩ = some v := h.core.behind j hv
theorem TmAt.free (h : TmAt w g base fu T0 vi vt vf A1 c1 A2 c2 vs s) (j : Nat) : w.frozen? ⟨g, j, none⟩ = false := h.core.row.free j
/-- The stack in the machine. -/
theorem TmAt.mem (h : TmAt w g base fu T0 vi vt vf A1 c1 A2 c2 vs s) : MemAt w g 26 base 73 (ccells fu s.c vi vt ++ trest T0 s vf A1 c1 A2 c2 vs) A1 c1 A2 c2 s.mem :=
  ⟨h.core.row, by rw [show 26 = 24 + 2 from rfl, ccells_end h.core.r8]; rfl, by rw [show 26 + 1 = 24 + 3 from rfl, ccells_end h.core.r8]; rfl, by rw [show 26 + 2 = 24 + 4 from rfl, ccells_end h.core.r8]; rfl, h.own, h.core.gb, by decide, by decide⟩
/-- The stack is turned. -/
theorem TmAt.turned (h : TmAt w g base fu T0 vi vt vf A1 c1 A2 c2 vs s) {S : Sk} (hm : MemAt w' g 26 base 73 ((ccells fu s.c vi vt ++ trest T0 s vf A1 c1 A2 c2 vs).set (26 + 2) (.int .i64 (S.sp : Int))) A1 c1 A2 c2 S) (hk : MKp w w' g base) (hl : S.bs.length = s.mem.bs.length) : TmAt w' g base fu T0 vi vt vf A1 c1 A2 c2 vs { s with mem := S } := by
  have hB : Below base w w' := hk.below h.bl h.core.gb (Nat.le_refl _)
  have hoff := own_offT h.core.tr h.core.row h.core.nt
  have hoff2 := own_offR h.st h.core.row (by decide)
  refine ⟨⟨?_, h.core.gb, h.core.nt, h.core.r8, h.core.inp.below hB, hk.own h.core.tr (by decide) (by rcases hoff with e | e <;> simp [e])⟩, hm.own, hk.own h.st (by decide) (by rcases hoff2 with e | e <;> simp [e])⟩
  have hr := hm.row
  rw [show 26 + 2 = 24 + 4 from rfl, ccells_set_end h.core.r8] at hr
  unfold trest at hr ⊢
  dsimp only at hr ⊢
  rw [hl]
  unfold ccells
  simpa [List.append_assoc] using hr
theorem TmAt.stored (h : TmAt w g base fu T0 vi vt vf A1 c1 A2 c2 vs s) {S : Sk} (hm : MemAt w' g 26 base 73 (ccells fu s.c vi vt ++ trest T0 s vf A1 c1 A2 c2 vs) A1 c1 A2 c2 S) (hk : MKp w w' g base) (hl : S.bs.length = s.mem.bs.length) (hs : S.sp = s.mem.sp) : TmAt w' g base fu T0 vi vt vf A1 c1 A2 c2 vs { s with mem := S } := by
  refine h.turned ?_ hk hl
  have hm2 := hm
  have hl2 : 26 + 2 < (ccells fu s.c vi vt ++ trest T0 s vf A1 c1 A2 c2 vs).length := (List.getElem?_eq_some_iff.1 hm.k2).1
  have : (ccells fu s.c vi vt ++ trest T0 s vf A1 c1 A2 c2 vs).set (26 + 2) (.int .i64 (S.sp : Int)) = ccells fu s.c vi vt ++ trest T0 s vf A1 c1 A2 c2 vs := by
    apply List.ext_getElem?
    intro j
    rw [List.getElem?_set]
    split
    · rename_i e
      subst e
      first | (rw [if_pos hl2]; exact hm.k2.symm) | exact hm.k2.symm
    · rfl
  rw [this]
  exact hm2
/-- The core is turned. -/
theorem TmAt.cored (h : TmAt w g base fu T0 vi vt vf A1 c1 A2 c2 vs s) {vi' vt' : Value} {c : Co} (hc : CoAt w' g base 73 fu vi' vt' (trest T0 s vf A1 c1 A2 c2 vs) c) (hk : CKp w w' g base) : TmAt w' g base fu T0 vi' vt' vf A1 c1 A2 c2 vs { s with c := c } := by
  have h1 := own_offR h.own.o1 h.core.row (by decide)
  have h2 := own_offR h.own.o2 h.core.row (by decide)
  have h3 := own_offR h.st h.core.row (by decide)
  exact ⟨hc, ⟨h.own.ok, hk.own h.own.o1 (by decide) (by rcases h1 with e | e <;> simp [e]), hk.own h.own.o2 (by decide) (by rcases h2 with e | e <;> simp [e])⟩, hk.own h.st (by decide) (by rcases h3 with e | e <;> simp [e])⟩
/-- A store behind the core, beside the stack. -/
theorem TmAt.setRest (h : TmAt w g base fu T0 vi vt vf A1 c1 A2 c2 vs s) (j : Nat) (u : Value) {vs' : Value} {s' : Tm} (hr : (trest T0 s vf A1 c1 A2 c2 vs).set j u = trest T0 s' vf A1 c1 A2 c2 vs') (hc : s'.c = s.c) (hm : s'.mem = s.mem) (hst : (w.setCell ⟨g, 25 + j, none⟩ u).ownsRow base 138 2 vs' s'.st.length (tacells s'.st)) : TmAt (w.setCell ⟨g, 25 + j, none⟩ u) g base fu T0 vi vt vf A1 c1 A2 c2 vs' s' := by
  have hg := grown_one w g (25 + j) u
  have h1 := own_offR h.own.o1 h.core.row (by decide)
  have h2 := own_offR h.own.o2 h.core.row (by decide)
  have hcs := h.core.setRest j u
  rw [hr] at hcs
  exact ⟨by rw [hc]; exact hcs, by rw [hm]; exact ⟨h.own.ok, h.own.o1.kept hg h1, h.own.o2.kept hg h2⟩, hst⟩
theorem TmAt.belowC (h : TmAt w g base fu T0 vi vt vf A1 c1 A2 c2 vs s) (hk : CKp w w' g base) : Below base w w' := hk.below h.bl h.core.gb (Nat.le_refl _)
theorem TmAt.belowM (h : TmAt w g base fu T0 vi vt vf A1 c1 A2 c2 vs s) (hk : MKp w w' g base) : Below base w w' := hk.below h.bl h.core.gb (Nat.le_refl _)
theorem own_two {b1 b2 t1 t2 s1 s2 n1 n2 : Nat} {v1 v2 : Value} {xs1 xs2 : List Value} (o1 : w.ownsRow b1 t1 s1 v1 n1 xs1) (o2 : w.ownsRow b2 t2 s2 v2 n2 xs2) (ht : t2 ≠ t1) : v1.ownBlock = none ∨ v1.ownBlock ≠ v2.ownBlock := by
  rcases h2 : v2.ownBlock with _ | k
  · rcases h1 : v1.ownBlock with _ | j
    · exact .inl rfl
    · exact .inr (by simp)
  · obtain ⟨_, cs, fr, hh⟩ := own_type o2 h2
    exact own_offT o1 hh ht
/-- An activation more. -/
theorem TmAt.pushed (h : TmAt w g base fu T0 vi vt vf A1 c1 A2 c2 vs s) {w7 : World} {v' : Value} {a : Nat × Nat} (hg : w.grownBy w7 vs.ownBlock) (ho : w7.ownsRow base 138 2 v' (s.st.length + 1) (tacells s.st ++ tacell a)) :
    TmAt (w7.setCell ⟨g, 25 + 5, none⟩ v') g base fu T0 vi vt vf A1 c1 A2 c2 v' { s with st := s.st ++ [a] } ∧ Row w7 g 73 (ccells fu s.c vi vt ++ trest T0 s vf A1 c1 A2 c2 vs) ∧ Below base w (w7.setCell ⟨g, 25 + 5, none⟩ v') := by
  have hB : Below base w w7 := (Below.refl _ _).grown hg h.bl (fun k hk => by
    have hk : vs.ownBlock = some k := by first | exact hk | exact hk.symm
    exact (h.st.lt k hk).1)
  have hoff := own_offR h.st h.core.row (by decide)
  have r7 : Row w7 g 73 (ccells fu s.c vi vt ++ trest T0 s vf A1 c1 A2 c2 vs) := h.core.row.grown hg (fun e => by
    rcases hoff with h1 | h1
    · rw [h1] at e; cases e
    · first | exact h1 e | exact h1 e.symm)
  have hcore : CoAt w7 g base 73 fu vi vt (trest T0 s vf A1 c1 A2 c2 vs) s.c := ⟨r7, h.core.gb, h.core.nt, h.core.r8, h.core.inp.below hB, h.core.tr.kept hg (own_two h.core.tr h.st (by decide))⟩
  have ho1 := h.own.o1.kept hg (own_two h.own.o1 h.st (by decide))
  have ho2 := h.own.o2.kept hg (own_two h.own.o2 h.st (by decide))
  have hg2 := grown_one w7 g (25 + 5) v'
  have hr := hcore.setRest 5 v'
  have e1 : (trest T0 s vf A1 c1 A2 c2 vs).set 5 v' = trest T0 { s with st := s.st ++ [a] } vf A1 c1 A2 c2 v' := rfl
  rw [e1] at hr
  refine ⟨⟨hr, ⟨h.own.ok, ho1.kept hg2 (own_offR ho1 r7 (by decide)), ho2.kept hg2 (own_offR ho2 r7 (by decide))⟩, ?_⟩, r7, hB.trans ((Below.refl _ _).setCell (p := ⟨g, 25 + 5, none⟩) h.core.gb _)⟩
  show World.ownsRow _ base _ 2 v' (s.st ++ [a]).length (tacells (s.st ++ [a]))
  rw [List.length_append, tacells_app]
  have : tacells [a] = tacell a := by simp [tacells]
  rw [this]
  exact ho.kept hg2 (own_offR ho r7 (by decide))
/-- The top of the activations. -/
structure TopT (w : World) (base : Nat) (vs : Value) (st : List (Nat × Nat)) (G c k : Nat) (z : Nat × Nat) (ys : List (Nat × Nat)) : Prop where
  v : vs = .slice (some ⟨G, 0, none⟩) (k + 1) c
  eqz : st = ys ++ [z]
  len : ys.length = k
  fn : w.cell? ⟨G, k * 2, none⟩ = some (.int .i64 (z.1 : Int))
  pc : w.cell? ⟨G, k * 2 + 1, none⟩ = some (.int .i64 (z.2 : Int))
  fr : ∀ j, w.frozen? ⟨G, j, none⟩ = false
  lt : G < w.heap.size
  ge : base ≤ G
  cap : k + 1 ≤ c
theorem TmAt.topT (h : TmAt w g base fu T0 vi vt vf A1 c1 A2 c2 vs s) (hn : 1 ≤ s.st.length) : ∃ G c k z ys, TopT w base vs s.st G c k z ys ∧ G ≠ g := by
  obtain ⟨ys, z, e⟩ : ∃ ys z, s.st = ys ++ [z] := ⟨s.st.dropLast, s.st.getLast (by intro e; rw [e] at hn; simp at hn), (List.dropLast_concat_getLast _).symm⟩
  have hoff := own_offR h.st h.core.row (by decide)
  have hst := h.st
  rcases hst.2 with ⟨_, h0⟩ | ⟨G, c, cur, rfl, hG, hh, hnc, hm2, hsz, htk⟩
  · omega
  · have hz : s.st[ys.length]? = some z := by rw [e]; simp
    obtain ⟨a0, a1⟩ := tacells_at hz
    have hc : ∀ j u, (tacells s.st)[j]? = some u → w.cell? ⟨G, j, none⟩ = some u := fun j u hj => by
      have := h.st.cells (g := G) rfl j u hj
      rwa [show (⟨G, 0, none⟩ : Addr).add j = ⟨G, j, none⟩ by unfold Addr.add; split <;> simp_all] at this
    have hl : s.st.length = ys.length + 1 := by rw [e]; simp
    refine ⟨G, c, ys.length, z, ys, ⟨by rw [hl], e, rfl, hc _ _ a0, hc _ _ a1, fun j => by simp [World.frozen?, hh], (Array.getElem?_eq_some_iff.1 hh).1, hG, by omega⟩, fun eg => ?_⟩
    rcases hoff with h1 | h1
    · simp [Value.ownBlock] at h1
    · exact h1 (by rw [eg]; rfl)
end
/-- How a method of the machine returns. -/
def TPost (g base fu T0 : Nat) (vf : Value) (s : Tm) (w : World) (e : Ending) (w' : World) : Prop := e = .returned (.tuple #[]) ∧ TmIn w' g base fu T0 vf s ∧ Below base w w'
end Go.Proofs.YtafegghdhdgioabGreat
end
