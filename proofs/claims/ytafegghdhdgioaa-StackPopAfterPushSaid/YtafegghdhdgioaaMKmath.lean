import Derived.Test.YtafegghdhdgioaaMLeaf
import Derived.Test.YtafegghdhdgioaaMKit
import Derived.Test.YtafegghdhdgioaaMWords
import Derived.Lib.SliceRun
import Derived.Maps.Range
import Derived.Laws.OwnMore
import Derived.Laws.CopyOwn
set_option linter.unusedVariables false
set_option linter.unusedSimpArgs false
section
/-
  Plain mathematics of the stack (chapter 9): its bytes, which of them are used, its SP; what each operation does. No function of the program is named here.
-/
namespace Go.Proofs.Ytafegghdhdgioaa
open Go.RowKit

/-- A stack. -/
structure Sk where
  bs : List Int
  us : List Bool
  sp : Nat
/-- .. for which Check is true. -/
structure Sk.Ok (S : Sk) : Prop where
  len : S.us.length = S.bs.length
  most : S.bs.length ≤ 1048576
  sp : S.sp ≤ S.bs.length
  byt : ∀ z ∈ S.bs, 0 ≤ z ∧ z ≤ 255

/-- The errors of Push and Pop; an access lies on the stack. -/
def pushE (S : Sk) (n : Int) : Int := if n < 0 then 4 else if (S.sp : Int) < n then 9 else 0
def popE (S : Sk) (n : Int) : Int := if n < 0 ∨ (S.bs.length : Int) - S.sp < n then 4 else 0
def fitB (S : Sk) (off n : Int) : Bool := szB n && decide (0 ≤ off ∧ off + n ≤ (S.bs.length : Int) - S.sp)
/-- The stack behind each. -/
def pushS (S : Sk) (n : Nat) : Sk := ⟨S.bs, splice S.us (S.sp - n) (List.replicate n false), S.sp - n⟩
def popS (S : Sk) (n : Nat) : Sk := ⟨S.bs, S.us, S.sp + n⟩
def usedB (S : Sk) (at_ n : Nat) : Bool := ((S.us.drop at_).take n).all id
def cutS (S : Sk) (at_ n : Nat) : List Int := (S.bs.drop at_).take n
def putS (S : Sk) (at_ : Nat) (zs : List Int) : Sk := ⟨splice S.bs at_ zs, splice S.us at_ (List.replicate zs.length true), S.sp⟩
def storeS (S : Sk) (at_ n X : Nat) : Sk := putS S at_ (bytesV X n)
def newS (n sp : Nat) : Sk := ⟨List.replicate n 0, List.replicate n false, sp⟩

theorem splice_at {α : Type} (L : List α) (off : Nat) (cs : List α) (h : off + cs.length ≤ L.length) (k : Nat) :
    (splice L off cs)[k]? = if k < off then L[k]? else if k < off + cs.length then cs[k - off]? else L[k]? := by
  unfold splice
  have h1 : (L.take off).length = off := by simp; omega
  split
  · rename_i hk
    rw [List.getElem?_append_left (by omega), List.getElem?_take, if_pos hk]
  · rename_i hk
    rw [List.getElem?_append_right (by omega), h1]
    split
    · rename_i h2
      rw [List.getElem?_append_left (by omega)]
    · rename_i h2
      rw [List.getElem?_append_right (by omega), List.getElem?_drop]
      congr 1; omega
theorem splice_map {α β : Type} (f : α → β) (L : List α) (off : Nat) (cs : List α) : (splice L off cs).map f = splice (L.map f) off (cs.map f) := by
  simp [splice, List.map_take, List.map_drop]
theorem splice_mem {α : Type} {L cs : List α} {off : Nat} {P : α → Prop} (h1 : ∀ z ∈ L, P z) (h2 : ∀ z ∈ cs, P z) : ∀ z ∈ splice L off cs, P z := by
  intro z hz
  simp only [splice, List.mem_append] at hz
  rcases hz with hz | hz | hz
  · exact h1 z (List.mem_of_mem_take hz)
  · exact h2 z hz
  · exact h1 z (List.mem_of_mem_drop hz)
/-- One element more of those that go over. -/
theorem splice_step {α : Type} (L cs : List α) (off k : Nat) (z : α) (h : off + cs.length ≤ L.length) (hz : cs[k]? = some z) : (splice L off (cs.take k)).set (off + k) z = splice L off (cs.take (k + 1)) := by
  have hk : k < cs.length := by
    rcases Nat.lt_or_ge k cs.length with h1 | h1
    · exact h1
    · rw [List.getElem?_eq_none h1] at hz; simp at hz
  apply List.ext_getElem?
  intro j
  rw [List.getElem?_set, splice_at _ _ _ (by simp; omega), splice_at _ _ _ (by simp; omega), length_splice _ _ _ (by simp; omega)]
  simp only [List.length_take, List.getElem?_take]
  by_cases e : off + k = j
  · subst e
    rw [if_pos rfl, if_pos (by omega), if_neg (by omega), if_pos (by omega), if_pos (by omega), show off + k - off = k by omega, hz]
  · rw [if_neg e]
    by_cases h1 : j < off
    · rw [if_pos h1, if_pos h1]
    · rw [if_neg h1, if_neg h1]
      by_cases h2 : j < off + min k cs.length
      · rw [if_pos h2, if_pos (by omega), if_pos (by omega), if_pos (by omega)]
      · rw [if_neg h2, if_neg (by omega)]
theorem splice_none {α : Type} (L : List α) (off : Nat) (h : off ≤ L.length) : splice L off [] = L := by simp [splice]
/-- What was put is there. -/
theorem splice_cut {α : Type} (L : List α) (off : Nat) (cs : List α) (h : off + cs.length ≤ L.length) : ((splice L off cs).drop off).take cs.length = cs := by
  unfold splice
  have h1 : (L.take off).length = off := by simp; omega
  rw [List.drop_append_of_le_length (by omega), List.drop_eq_nil_of_le (by omega), List.nil_append, List.take_left]
theorem splice_behind {α : Type} (L : List α) (off : Nat) (cs : List α) (n : Nat) (hn : off + cs.length ≤ n) (h : off + cs.length ≤ L.length) : (splice L off cs).drop n = L.drop n := by
  apply List.ext_getElem?
  intro j
  rw [List.getElem?_drop, List.getElem?_drop, splice_at _ _ _ h, if_neg (by omega), if_neg (by omega)]

section
variable {S : Sk}
theorem fitB_iff {off n : Int} : fitB S off n = true ↔ szB n = true ∧ 0 ≤ off ∧ off + n ≤ (S.bs.length : Int) - S.sp := by simp [fitB]
theorem Sk.Ok.push (h : S.Ok) {n : Nat} (hn : n ≤ S.sp) : (pushS S n).Ok := by
  have := h.len; have := h.sp
  refine ⟨?_, h.most, by show S.sp - n ≤ _; have := h.sp; show S.sp - n ≤ S.bs.length; omega, h.byt⟩
  show (splice _ _ _).length = S.bs.length
  rw [length_splice _ _ _ (by simp; omega), h.len]
theorem Sk.Ok.pop (h : S.Ok) {n : Nat} (hn : S.sp + n ≤ S.bs.length) : (popS S n).Ok := ⟨h.len, h.most, hn, h.byt⟩
theorem Sk.Ok.put (h : S.Ok) {a : Nat} {zs : List Int} (ha : a + zs.length ≤ S.bs.length) (hz : ∀ z ∈ zs, 0 ≤ z ∧ z ≤ 255) : (putS S a zs).Ok := by
  have := h.len
  refine ⟨?_, ?_, ?_, splice_mem h.byt hz⟩
  · show (splice _ _ _).length = (splice _ _ _).length
    rw [length_splice _ _ _ (by simp; omega), length_splice _ _ _ ha, h.len]
  · show (splice _ _ _).length ≤ _
    rw [length_splice _ _ _ ha]; exact h.most
  · show S.sp ≤ (splice _ _ _).length
    rw [length_splice _ _ _ ha]; exact h.sp
theorem Sk.Ok.store (h : S.Ok) {a n X : Nat} (ha : a + n ≤ S.bs.length) : (storeS S a n X).Ok := h.put (by rw [bytesV_length]; exact ha) (bytesV_mem X n)
theorem put_len {a : Nat} {zs : List Int} (ha : a + zs.length ≤ S.bs.length) : (putS S a zs).bs.length = S.bs.length := length_splice _ _ _ ha
theorem newS_ok {n sp : Nat} (hn : n ≤ 1048576) (hs : sp ≤ n) : (newS n sp).Ok := ⟨by simp [newS], by simp [newS]; exact hn, by simp [newS]; exact hs, fun z hz => by rw [List.eq_of_mem_replicate (show z ∈ List.replicate n 0 from hz)]; omega⟩
theorem used_iff {a n : Nat} (h : a + n ≤ S.us.length) : usedB S a n = true ↔ ∀ k, k < n → S.us[a + k]? = some true := by
  unfold usedB
  rw [List.all_eq_true]
  constructor
  · intro h1 k hk
    have hl : a + k < S.us.length := by omega
    rw [List.getElem?_eq_getElem hl]
    congr 1
    refine h1 _ (List.mem_of_getElem? (i := k) ?_)
    rw [List.getElem?_take, if_pos hk, List.getElem?_drop, List.getElem?_eq_getElem hl]
  · intro h1 b hb
    obtain ⟨k, hk, e⟩ := List.getElem_of_mem hb
    have hk' : k < n := by simp at hk; omega
    have := h1 k hk'
    rw [← e]
    simp only [List.getElem_take, List.getElem_drop, id]
    rw [List.getElem?_eq_getElem (by omega)] at this
    injection this
/-- The bytes that were put are used. -/
theorem used_put {a : Nat} {zs : List Int} (h : a + zs.length ≤ S.us.length) : usedB (putS S a zs) a zs.length = true := by
  unfold usedB putS
  have := splice_cut S.us a (List.replicate zs.length true) (by simpa using h)
  rw [List.length_replicate] at this
  rw [this]
  simp
theorem cut_put {a : Nat} {zs : List Int} (h : a + zs.length ≤ S.bs.length) : cutS (putS S a zs) a zs.length = zs := splice_cut S.bs a zs h
theorem cut_len {a n : Nat} (h : a + n ≤ S.bs.length) : (cutS S a n).length = n := by simp [cutS]; omega
theorem cut_byt (h : S.Ok) (a n : Nat) : ∀ z ∈ cutS S a n, 0 ≤ z ∧ z ≤ 255 := fun z hz => h.byt z (List.mem_of_mem_drop (List.mem_of_mem_take hz))
/-- Bytes are the bytes of their number. -/
theorem bytesV_valOf (zs : List Int) (h : ∀ z ∈ zs, 0 ≤ z ∧ z ≤ 255) : ∀ n, n ≤ zs.length → bytesV (valOf zs) n = zs.take n := by
  intro n
  induction n with
  | zero => intro _; simp [bytesV]
  | succ n ih =>
    intro hn
    rw [bytesV, ih (by omega), take_more (List.getElem?_eq_getElem (show n < zs.length by omega))]
    congr 2
    have hb := h zs[n] (List.getElem_mem _)
    have hs : valOf zs = valOf (zs.take n) + zs[n].toNat * 2 ^ (8 * n) + valOf (zs.drop (n + 1)) * 2 ^ (8 * (n + 1)) := by
      have hap : ∀ (xs ys : List Int), valOf (xs ++ ys) = valOf xs + valOf ys * 2 ^ (8 * xs.length) := by
        intro xs ys
        induction xs with
        | nil => simp [valOf]
        | cons y r ih =>
          simp only [List.cons_append, valOf, ih, List.length_cons]
          rw [show 8 * (r.length + 1) = 8 * r.length + 8 by omega, Nat.pow_add, Nat.mul_add, show (2 : Nat) ^ 8 = 256 by decide]
          rw [show 256 * (valOf ys * 2 ^ (8 * r.length)) = valOf ys * (2 ^ (8 * r.length) * 256) by rw [Nat.mul_comm 256, Nat.mul_assoc]]
          omega
      conv => lhs; rw [← List.take_append_drop (n + 1) zs]
      rw [hap, valOf_take zs n _ (List.getElem?_eq_getElem (show n < zs.length by omega)), List.length_take, Nat.min_eq_left (by omega)]
    have ht := valOf_take_lt zs n (by omega) h
    unfold byteOf
    rw [hs, show 8 * (n + 1) = 8 * n + 8 by omega, Nat.pow_add, show (2 : Nat) ^ 8 = 256 by decide]
    generalize valOf (zs.take n) = x at *
    generalize valOf (zs.drop (n + 1)) = y at *
    generalize 2 ^ (8 * n) = p at *
    have hp : 0 < p := by omega
    rw [show x + zs[n].toNat * p + y * (p * 256) = x + (zs[n].toNat + y * 256) * p by rw [Nat.add_mul, Nat.mul_assoc y 256 p, Nat.mul_comm 256 p]; omega]
    rw [Nat.add_mul_div_right _ _ hp, Nat.div_eq_of_lt ht, Nat.zero_add]
    omega
/-- A move is a load and a store. -/
theorem move_eq (h : S.Ok) {dst from_ n : Nat} (hf : from_ + n ≤ S.bs.length) : storeS S dst n (valOf ((cutS S from_ n).take 16)) = putS S dst (cutS S from_ n) ∨ 16 < n := by
  rcases Nat.lt_or_ge 16 n with h16 | h16
  · exact .inr h16
  · left
    have hl := cut_len hf
    rw [List.take_of_length_le (by omega)]
    unfold storeS
    rw [bytesV_valOf _ (cut_byt h _ _) n (by omega), List.take_of_length_le (by omega)]
end
end Go.Proofs.Ytafegghdhdgioaa
end

section
/-
  Stacks in memory: two slices and a number by value; kept over what a call leaves; rows of the call's own that a store turns. No function of the program is named here.
-/
namespace Go.Proofs.Ytafegghdhdgioaa
open Go.RowKit

/-- A stack by value. -/
abbrev kv (A1 : Option Addr) (n1 c1 : Nat) (A2 : Option Addr) (n2 c2 : Nat) (p : Int) : Value := .agg #[.slice A1 n1 c1, .slice A2 n2 c2, .int .i64 p]
/-- Truth values as cells. -/
def cellsB (l : List Bool) : List Value := l.map Value.bool
theorem cellsB_length (l : List Bool) : (cellsB l).length = l.length := by simp [cellsB]
theorem cellsU8_length (l : List Int) : (cellsU8 l).length = l.length := by simp [cellsU8]
theorem cellsB_one (l : List Bool) : ∀ v ∈ cellsB l, v.oneCell' = true := by
  intro v hv
  simp only [cellsB, List.mem_map] at hv
  obtain ⟨b, _, rfl⟩ := hv
  rfl
theorem cellsU8_one (l : List Int) : ∀ v ∈ cellsU8 l, v.oneCell' = true := by
  intro v hv
  simp only [cellsU8, List.mem_map] at hv
  obtain ⟨b, _, rfl⟩ := hv
  rfl
theorem cellsB_at {l : List Bool} {k : Nat} {b : Bool} (h : l[k]? = some b) : (cellsB l)[k]? = some (.bool b) := by simp [cellsB, List.getElem?_map, h]
theorem cellsB_splice (L : List Bool) (off : Nat) (cs : List Bool) : cellsB (splice L off cs) = splice (cellsB L) off (cellsB cs) := splice_map _ _ _ _
theorem cellsU8_splice (L : List Int) (off : Nat) (cs : List Int) : cellsU8 (splice L off cs) = splice (cellsU8 L) off (cellsU8 cs) := splice_map _ _ _ _

/-- At these two slices lies the stack S. -/
structure StkAt (w : World) (B : Nat) (A1 : Option Addr) (c1 : Nat) (A2 : Option Addr) (c2 : Nat) (S : Sk) : Prop where
  ok : S.Ok
  k1 : A1 = none → c1 = 0
  k2 : A2 = none → c2 = 0
  m1 : S.bs.length ≤ c1
  m2 : S.bs.length ≤ c2
  s1 : Sees w B A1 (cellsU8 S.bs)
  s2 : Sees w B A2 (cellsB S.us)
/-- .. by value. -/
abbrev sv (A1 : Option Addr) (c1 : Nat) (A2 : Option Addr) (c2 : Nat) (S : Sk) : Value := kv A1 S.bs.length c1 A2 S.bs.length c2 (S.sp : Int)
section
variable {w w' : World} {B B' : Nat} {A1 A2 : Option Addr} {c1 c2 : Nat} {S : Sk}
theorem StkAt.below (h : StkAt w B A1 c1 A2 c2 S) (hb : Below B w w') : StkAt w' B A1 c1 A2 c2 S := ⟨h.ok, h.k1, h.k2, h.m1, h.m2, h.s1.below hb, h.s2.below hb⟩
theorem StkAt.more (h : StkAt w B A1 c1 A2 c2 S) (hB : B ≤ B') : StkAt w B' A1 c1 A2 c2 S := ⟨h.ok, h.k1, h.k2, h.m1, h.m2, h.s1.more hB, h.s2.more hB⟩
theorem StkAt.call (h : StkAt w w.heap.size A1 c1 A2 c2 S) (hb : Below w.heap.size w w') : StkAt w' w'.heap.size A1 c1 A2 c2 S := (h.below hb).more hb.size
theorem StkAt.alloc (h : StkAt w w.heap.size A1 c1 A2 c2 S) (o : Obj) : StkAt (w.alloc o) (w.alloc o).heap.size A1 c1 A2 c2 S := h.call (below1 w o)
theorem StkAt.keep (h : StkAt w B A1 c1 A2 c2 S) (hk : ∀ p : Addr, p.block < B → w'.cell? p = w.cell? p) : StkAt w' B A1 c1 A2 c2 S := ⟨h.ok, h.k1, h.k2, h.m1, h.m2, h.s1.keep hk, h.s2.keep hk⟩
theorem StkAt.drewN (h : StkAt w B A1 c1 A2 c2 S) (n : Nat) : StkAt (w.drewN n) B A1 c1 A2 c2 S := h.keep fun _ _ => rfl
/-- Pop: only SP turns. -/
theorem StkAt.pop (h : StkAt w B A1 c1 A2 c2 S) {n : Nat} (hn : S.sp + n ≤ S.bs.length) : StkAt w B A1 c1 A2 c2 (popS S n) := ⟨h.ok.pop hn, h.k1, h.k2, h.m1, h.m2, h.s1, h.s2⟩
/-- The bytes from a on, n of them. -/
theorem StkAt.cut (h : StkAt w B A1 c1 A2 c2 S) (a n : Nat) : Sees w B (A1.map (·.add a)) (cellsU8 (cutS S a n)) := by
  have := (h.s1.drop a).take n
  unfold cutS cellsU8 at *
  rwa [← List.map_drop, ← List.map_take] at this
theorem StkAt.cutB (h : StkAt w B A1 c1 A2 c2 S) (a n : Nat) : Sees w B (A2.map (·.add a)) (cellsB ((S.us.drop a).take n)) := by
  have := (h.s2.drop a).take n
  unfold cellsB at *
  rwa [← List.map_drop, ← List.map_take] at this
end

/-- A stack returned with an error number. -/
def StkPost (S : Sk) (E : Int) (w : World) (e : Ending) (w' : World) : Prop :=
  ∃ (A1 : Option Addr) (c1 : Nat) (A2 : Option Addr) (c2 : Nat), e = .returned (.tuple #[sv A1 c1 A2 c2 S, .int .i64 E]) ∧ StkAt w' w'.heap.size A1 c1 A2 c2 S ∧ Below w.heap.size w w'
/-- .. and with a truth value. -/
def StkPost3 (S : Sk) (b : Bool) (E : Int) (w : World) (e : Ending) (w' : World) : Prop :=
  ∃ (A1 : Option Addr) (c1 : Nat) (A2 : Option Addr) (c2 : Nat), e = .returned (.tuple #[sv A1 c1 A2 c2 S, .bool b, .int .i64 E]) ∧ StkAt w' w'.heap.size A1 c1 A2 c2 S ∧ Below w.heap.size w w'
/-- Both rows are the call's own. -/
structure StkOwn (w : World) (base : Nat) (A1 : Option Addr) (c1 : Nat) (A2 : Option Addr) (c2 : Nat) (S : Sk) (t1 t2 : TypeId) : Prop where
  ok : S.Ok
  o1 : w.ownsRow base t1 1 (.slice A1 S.bs.length c1) S.bs.length (cellsU8 S.bs)
  o2 : w.ownsRow base t2 1 (.slice A2 S.bs.length c2) S.bs.length (cellsB S.us)
theorem own_le {w : World} {base : Nat} {e : TypeId} {n c : Nat} {A : Option Addr} {xs : List Value} (h : w.ownsRow base e 1 (.slice A n c) n xs) : (A = none → c = 0) ∧ n ≤ c := by
  rcases h.2 with ⟨he, h0⟩ | ⟨g, cap, cur, he, _, _, hc, _⟩
  · injection he with e1 e2 e3
    subst e3
    exact ⟨fun _ => rfl, by omega⟩
  · injection he with e1 _ e3
    subst e1 e3
    exact ⟨fun e => (by cases e), hc⟩
theorem StkOwn.at_ {w : World} {base : Nat} {A1 : Option Addr} {c1 : Nat} {A2 : Option Addr} {c2 : Nat} {S : Sk} {t1 t2 : TypeId} (h : StkOwn w base A1 c1 A2 c2 S t1 t2) : StkAt w w.heap.size A1 c1 A2 c2 S :=
  ⟨h.ok, (own_le h.o1).1, (own_le h.o2).1, (own_le h.o1).2, (own_le h.o2).2, Sees.own h.o1, Sees.own h.o2⟩
theorem StkOwn.below {w w' : World} {base : Nat} {A1 : Option Addr} {c1 : Nat} {A2 : Option Addr} {c2 : Nat} {S : Sk} {t1 t2 : TypeId} (h : StkOwn w base A1 c1 A2 c2 S t1 t2) (hb : Below w.heap.size w w') : StkOwn w' base A1 c1 A2 c2 S t1 t2 :=
  ⟨h.ok, own_below h.o1 hb, own_below h.o2 hb⟩

theorem splice_cons {α : Type} (L : List α) (off : Nat) (v : α) (r : List α) (h : off < L.length) : splice L off (v :: r) = splice (L.set off v) (off + 1) r := by
  unfold splice
  rw [List.drop_set_of_lt (by omega), List.take_add_one, List.getElem?_set_self h, List.take_set_of_le (by omega), show off + (v :: r).length = off + 1 + r.length by simp; omega]
  simp
/-- An owned row whose cells a run of stores has turned. -/
theorem own_spliced {base : Nat} {e : TypeId} {n c g : Nat} : ∀ (cs : List Value) (off : Nat) (w : World) (xs : List Value), w.ownsRow base e 1 (.slice (some ⟨g, 0, none⟩) n c) n xs → off + cs.length ≤ n →
    (w.setCells g off cs).ownsRow base e 1 (.slice (some ⟨g, 0, none⟩) n c) n (splice xs off cs) ∧ w.grownBy (w.setCells g off cs) (some g)
  | [], off, w, xs, h, _ => ⟨by simpa [splice, World.setCells] using h, World.grownBy.refl w _⟩
  | v :: r, off, w, xs, h, hl => by
    have hx := h.1
    simp only [List.length_cons] at hl
    obtain ⟨h1, h2⟩ := h.stored off v
    obtain ⟨h3, h4⟩ := own_spliced r (off + 1) (w.setCell ⟨g, off, none⟩ v) (xs.set off v) h1 (by omega)
    rw [splice_cons _ _ _ _ (by omega)]
    exact ⟨h3, h2.andThen h4 (fun k hk => .inr hk)⟩
end Go.Proofs.Ytafegghdhdgioaa
end

section
/-
  What the operations on stacks give, as numbers and stacks; rows of a call's own that are turned in place (chapter 9). No function of the program is named here.
-/
namespace Go.Proofs.Ytafegghdhdgioaa
open Go.RowKit

def pushR (S : Sk) (n : Int) : Sk := if pushE S n = 0 then pushS S n.toNat else S
def popR (S : Sk) (n : Int) : Sk := if popE S n = 0 then popS S n.toNat else S
theorem clear_none {P : Program} {t e ty : TypeId} (ht : P.underlying t = some (.slice e)) (A : Option Addr) (c : Nat) (W : World) : (Builtin.clear_ #[t] ty #[.slice A 0 c]).run P W = .ok (.tuple #[]) W := by
  cases A <;> simp [Builtin.clear_, run_underlying ht]
theorem StkOwn.put_ {w : World} {base : Nat} {A1 : Option Addr} {c1 : Nat} {A2 : Option Addr} {c2 : Nat} {S : Sk} {t1 t2 : TypeId} (hok : S.Ok) (o1 : w.ownsRow base t1 1 (.slice A1 S.bs.length c1) S.bs.length (cellsU8 S.bs)) (o2 : w.ownsRow base t2 1 (.slice A2 S.bs.length c2) S.bs.length (cellsB S.us)) : StkAt w w.heap.size A1 c1 A2 c2 S :=
  StkOwn.at_ ⟨hok, o1, o2⟩
theorem kown_apart {w : World} {base t1 t2 g n1 n2 c2 : Nat} {v1 : Value} {xs1 xs2 : List Value} (o1 : w.ownsRow base t1 1 v1 n1 xs1) (o2 : w.ownsRow base t2 1 (.slice (some ⟨g, 0, none⟩) n2 c2) n2 xs2) (ht : t1 ≠ t2) : v1.ownBlock = none ∨ v1.ownBlock ≠ some g := by
  rcases o1.2 with ⟨rfl, _⟩ | ⟨g1, cap, cur, rfl, _, hg1, _⟩
  · exact .inl rfl
  · right
    rintro h
    simp only [Value.ownBlock, Option.some.injEq] at h
    subst h
    rcases o2.2 with ⟨h2, _⟩ | ⟨g2, cap2, cur2, h2, _, hg2, _⟩
    · cases h2
    · injection h2 with h3
      injection h3 with h3
      injection h3 with h3
      subst h3
      have := hg1.symm.trans hg2
      injection this with this
      injection this with _ h5 _
      exact ht h5
theorem own_turned {w : World} {base t1 t2 g n1 n2 c2 off : Nat} {v1 : Value} {xs1 xs2 cs : List Value} (o1 : w.ownsRow base t1 1 v1 n1 xs1) (o2 : w.ownsRow base t2 1 (.slice (some ⟨g, 0, none⟩) n2 c2) n2 xs2) (ht : t1 ≠ t2) (h : off + cs.length ≤ n2) :
    (w.setCells g off cs).ownsRow base t1 1 v1 n1 xs1 ∧ (w.setCells g off cs).ownsRow base t2 1 (.slice (some ⟨g, 0, none⟩) n2 c2) n2 (splice xs2 off cs) ∧ w.grownBy (w.setCells g off cs) (some g) ∧ base ≤ g :=
  have h1 := own_spliced cs off w xs2 o2 h
  ⟨o1.kept h1.2 (kown_apart o1 o2 ht), h1.1, h1.2, (o2.lt g rfl).1⟩
theorem cellsB_all (n : Nat) (b : Bool) : cellsB (List.replicate n b) = List.replicate n (.bool b) := by simp [cellsB]
theorem zero_bool : ∀ w, (zeroValue 4).run Try.prog w = .ok (.bool false) w := fun w => by kernel_rfl
theorem push_zero (S : Sk) (h : S.Ok) : pushS S 0 = S := by
  have := h.len; have := h.sp
  unfold pushS
  rw [List.replicate_zero, splice_none _ _ (by omega), Nat.sub_zero]

def fitE (S : Sk) (off n : Int) : Int := if fitB S off n = true then 0 else 4
def loadB (S : Sk) (off n : Int) : Bool := fitB S off n && usedB S ((S.sp : Int) + off).toNat n.toNat
def loadV (S : Sk) (off n : Int) : Nat := if loadB S off n = true then valOf ((cutS S ((S.sp : Int) + off).toNat n.toNat).take 16) else 0
/-- What Load gives. -/
def LoadPost (S : Sk) (off n : Int) (w : World) (e : Ending) (w' : World) : Prop := e = .returned (.tuple #[vv (loadV S off n), .bool (loadB S off n), .int .i64 (fitE S off n)]) ∧ Below w.heap.size w w'
theorem load_no {S : Sk} {off n : Int} (h : fitB S off n = false) : fitE S off n = 4 ∧ loadB S off n = false ∧ loadV S off n = 0 := by simp [fitE, loadV, loadB, h]
theorem load_undef {S : Sk} {off n : Nat} (h : fitB S off n = true) (hu : usedB S (S.sp + off) n = false) : fitE S off n = 0 ∧ loadB S off n = false ∧ loadV S off n = 0 := by
  have e : ((S.sp : Int) + (off : Int)).toNat = S.sp + off := by omega
  have hb : loadB S off n = false := by simp only [loadB, e, Int.toNat_natCast, hu, Bool.and_false]
  exact ⟨by simp [fitE, h], hb, by simp [loadV, hb]⟩
theorem load_yes {S : Sk} {off n : Nat} (h : fitB S off n = true) (hu : usedB S (S.sp + off) n = true) : fitE S off n = 0 ∧ loadB S off n = true ∧ loadV S off n = valOf ((cutS S (S.sp + off) n).take 16) := by
  have e : ((S.sp : Int) + (off : Int)).toNat = S.sp + off := by omega
  have hb : loadB S off n = true := by simp only [loadB, e, Int.toNat_natCast, hu, h, Bool.and_self]
  exact ⟨by simp [fitE, h], hb, by simp only [loadV, hb, if_true, e, Int.toNat_natCast]⟩
theorem fit_nat {S : Sk} {off n : Int} (h : fitB S off n = true) : ∃ a m : Nat, off = (a : Int) ∧ n = (m : Int) ∧ 1 ≤ m ∧ m ≤ 16 ∧ S.sp + a + m ≤ S.bs.length := by
  obtain ⟨h1, h2, h3⟩ := fitB_iff.1 h
  have hn := of_decide_eq_true (show decide (n = 1 ∨ n = 2 ∨ n = 4 ∨ n = 8 ∨ n = 16) = true from h1)
  exact ⟨off.toNat, n.toNat, by omega, by omega, by omega, by omega, by omega⟩
theorem kvv_zero : vv 0 = .agg #[.int .u64 0, .int .u64 0] := rfl
def storeR (S : Sk) (off n : Int) (X : Nat) : Sk := if fitB S off n = true then storeS S ((S.sp : Int) + off).toNat n.toNat X else S
def moveB (S : Sk) (dst src n : Int) : Bool := fitB S dst n && loadB S src n
def moveE (S : Sk) (dst src n : Int) : Int := if (fitB S dst n && fitB S src n) = true then 0 else 4
def moveR (S : Sk) (dst src n : Int) : Sk := if moveB S dst src n = true then putS S ((S.sp : Int) + dst).toNat (cutS S ((S.sp : Int) + src).toNat n.toNat) else S
theorem store_no {S : Sk} {off n : Int} {X : Nat} (h : fitB S off n = false) : fitE S off n = 4 ∧ storeR S off n X = S := by simp [fitE, storeR, h]
theorem store_yes {S : Sk} {off n X : Nat} (h : fitB S off n = true) : fitE S off n = 0 ∧ storeR S off n X = storeS S (S.sp + off) n X := by
  have e : ((S.sp : Int) + (off : Int)).toNat = S.sp + off := by omega
  exact ⟨by simp [fitE, h], by simp only [storeR, h, if_true, e, Int.toNat_natCast]⟩
theorem drew_k (W : World) (B : Nat) : Below B W W.drew := below_draws (Below.refl _ _) 1
theorem drewN_k (W : World) (B k : Nat) : Below B W (W.drewN k) := below_draws (Below.refl _ _) k

theorem move_no {S : Sk} {dst src n : Int} (h : fitB S dst n = false ∨ fitB S src n = false) : moveE S dst src n = 4 ∧ moveB S dst src n = false ∧ moveR S dst src n = S := by
  rcases h with h | h <;> simp [moveE, moveR, moveB, loadB, h]
theorem move_undef {S : Sk} {dst : Int} {o m : Nat} (h : fitB S dst (m : Int) = true) (h2 : fitB S (o : Int) (m : Int) = true) (hu : usedB S (S.sp + o) m = false) : moveE S dst (o : Int) (m : Int) = 0 ∧ moveB S dst (o : Int) (m : Int) = false ∧ moveR S dst (o : Int) (m : Int) = S := by
  have hb : moveB S dst (o : Int) (m : Int) = false := by simp only [moveB, (load_undef h2 hu).2.1, Bool.and_false]
  exact ⟨by simp [moveE, h, h2], hb, by simp [moveR, hb]⟩
theorem move_yes {S : Sk} {d o m : Nat} (h : fitB S (d : Int) (m : Int) = true) (h2 : fitB S (o : Int) (m : Int) = true) (hu : usedB S (S.sp + o) m = true) : moveE S (d : Int) (o : Int) (m : Int) = 0 ∧ moveB S (d : Int) (o : Int) (m : Int) = true ∧ moveR S (d : Int) (o : Int) (m : Int) = putS S (S.sp + d) (cutS S (S.sp + o) m) := by
  have hb : moveB S (d : Int) (o : Int) (m : Int) = true := by simp only [moveB, (load_yes h2 hu).2.1, h, Bool.and_self]
  have e : ((S.sp : Int) + (o : Int)).toNat = S.sp + o := by omega
  have e' : ((S.sp : Int) + (d : Int)).toNat = S.sp + d := by omega
  exact ⟨by simp [moveE, h, h2], hb, by simp only [moveR, hb, if_true, e, e', Int.toNat_natCast]⟩

theorem own_heap {w : World} {base g n c : Nat} {e : TypeId} {xs : List Value} (h : w.ownsRow base e 1 (.slice (some ⟨g, 0, none⟩) n c) n xs) :
    ∃ cur : List Value, w.heap[g]? = some (.cells cur.toArray e (0, 0)) ∧ cur.length = c ∧ cur.take n = xs ∧ n ≤ c ∧ c ≤ maxLen ∧ base ≤ g := by
  rcases h.2 with ⟨h2, _⟩ | ⟨g', cap, cur, h2, hg, hh, hc, hm, hs, ht⟩
  · cases h2
  · injection h2 with h3 h4 h5
    injection h3 with h3
    injection h3 with h3
    subst h3 h5
    refine ⟨cur.toList, by simpa using hh, by simpa using hs, ?_, hc, hm, hg⟩
    simpa using ht
theorem heap_own {w : World} {base g n c : Nat} {e : TypeId} {cur : List Value} (hg : w.heap[g]? = some (.cells cur.toArray e (0, 0))) (hl : cur.length = c) (hn : n ≤ c) (hm : c ≤ maxLen) (hb : base ≤ g) : w.ownsRow base e 1 (.slice (some ⟨g, 0, none⟩) n c) n (cur.take n) :=
  ⟨by simp; omega, .inr ⟨g, c, cur.toArray, rfl, hb, hg, hn, hm, by simpa using hl, by simp⟩⟩
theorem splice_take {α : Type} (L cs : List α) (off n : Nat) (h : off + cs.length ≤ n) (hn : n ≤ L.length) : (splice L off cs).take n = splice (L.take n) off cs := by
  apply List.ext_getElem?
  intro j
  rw [List.getElem?_take]
  by_cases hj : j < n
  · rw [if_pos hj, splice_at _ _ _ (by omega), splice_at _ _ _ (by simp; omega), List.getElem?_take, if_pos hj]
  · rw [if_neg hj]
    symm
    apply List.getElem?_eq_none
    rw [length_splice _ _ _ (by simp; omega)]
    simp; omega
theorem row_turned (w : World) (g : Nat) (cs : Array Value) : w.grownBy (w.setRow g cs) (some g) :=
  ⟨rfl, rfl, rfl, by simp [World.setRow], fun i hi hne => setRow_other w g i cs (fun h => hne (by rw [h]))⟩
/-- A row of the call's own, into which something was copied. -/
theorem own_copied {w : World} {base g n c off : Nat} {e : TypeId} {cs cur : List Value} (hh : w.heap[g]? = some (.cells cur.toArray e (0, 0))) (hl : cur.length = c) (hn : n ≤ c) (hm : c ≤ maxLen) (hb : base ≤ g) (ho : off + cs.length ≤ n) :
    (w.setRow g (cur.take off ++ (cs ++ cur.drop (off + cs.length))).toArray).ownsRow base e 1 (.slice (some ⟨g, 0, none⟩) n c) n (splice (cur.take n) off cs) := by
  have h2 := heap_own (w := w.setRow g (splice cur off cs).toArray) (base := base) (n := n) (c := c) (setRow_heap w g _ _ e _ hh) (by rw [length_splice _ _ _ (by omega)]; exact hl) hn hm hb
  rw [splice_take _ _ _ _ ho (by omega)] at h2
  exact h2
theorem size_u8 : (Try.prog.info? 5).map (·.size) = some 1 := by kernel_rfl

end Go.Proofs.Ytafegghdhdgioaa
end

section
/-
  Rows of a call's own beside stores elsewhere (chapter 9). No function of the program is named here.
-/
namespace Go.Proofs.Ytafegghdhdgioaa
open Go.RowKit

theorem Try.cinfo5 : (Try.prog.info? 5).map (fun i => (i.zero, i.size, i.bytes)) = some (some (.int .u8 0), 1, 1) := by kernel_rfl
theorem Try.cinfo4 : (Try.prog.info? 4).map (fun i => (i.zero, i.size, i.bytes)) = some (some (.bool false), 1, 1) := by kernel_rfl
theorem empty_own (w : World) (e : TypeId) : (w.alloc (.cells #[] e)).ownsRow w.heap.size e 1 (.slice (some ⟨w.heap.size, 0, none⟩) 0 0) 0 [] :=
  ⟨by simp, .inr ⟨w.heap.size, 0, #[], rfl, Nat.le_refl _, heap_alloc_new w _, Nat.le_refl _, by unfold maxLen; omega, by simp, by simp⟩⟩
theorem own_off {w : World} {base g : Nat} {e : TypeId} {size n : Nat} {v : Value} {xs : List Value} (h : w.ownsRow base e size v n xs) (hg : g < base) : v.ownBlock = none ∨ v.ownBlock ≠ some g := by
  cases e' : v.ownBlock with
  | none => exact .inl rfl
  | some k => exact .inr fun h' => by have := (h.lt k e').1; injection h' with h'; omega
theorem grown_one (w : World) (g k : Nat) (u : Value) : w.grownBy (w.setCell ⟨g, k, none⟩ u) (some g) :=
  ⟨rfl, rfl, rfl, by simp [World.setCell], fun i hi hne => Below.heap_setCell w ⟨g, k, none⟩ u i (by rintro rfl; exact hne rfl)⟩
theorem own_put {w : World} {base g k : Nat} {e : TypeId} {size n : Nat} {v u : Value} {xs : List Value} (h : w.ownsRow base e size v n xs) (hg : g < base) : (w.setCell ⟨g, k, none⟩ u).ownsRow base e size v n xs := h.kept (grown_one w g k u) (own_off h hg)
theorem own_put3 {w : World} {base g : Nat} {e : TypeId} {size n : Nat} {v a b c : Value} {xs : List Value} (h : w.ownsRow base e size v n xs) (hg : g < base) : (((w.setCell ⟨g, 0, none⟩ a).setCell ⟨g, 1, none⟩ b).setCell ⟨g, 2, none⟩ c).ownsRow base e size v n xs := own_put (own_put (own_put h hg) hg) hg
theorem own_raise {w : World} {base base' : Nat} {e : TypeId} {size n : Nat} {v : Value} {xs : List Value} (h : w.ownsRow base e size v n xs) (hb : base' ≤ base) : w.ownsRow base' e size v n xs := by
  refine ⟨h.1, ?_⟩
  rcases h.2 with h2 | ⟨g, cap, cur, hv, hg, hh, hr⟩
  · exact .inl h2
  · exact .inr ⟨g, cap, cur, hv, by omega, hh, hr⟩
theorem below_put {B g k : Nat} {w w' : World} {u : Value} (h : Below B w w') (hg : B ≤ g) : Below B w (w'.setCell ⟨g, k, none⟩ u) := h.setCell (p := ⟨g, k, none⟩) hg u
theorem below_put3 {B g : Nat} {w w' : World} {a b c : Value} (h : Below B w w') (hg : B ≤ g) : Below B w (((w'.setCell ⟨g, 0, none⟩ a).setCell ⟨g, 1, none⟩ b).setCell ⟨g, 2, none⟩ c) := below_put (below_put (below_put h hg) hg) hg
theorem two_boxes (w : World) (l1 l2 : List Value) (t1 t2 : TypeId) : ∃ W, (w.alloc (.cells l1.toArray t1)).alloc (.cells l2.toArray t2) = W ∧ Below w.heap.size w W ∧ w.heap.size + 2 = W.heap.size ∧ Row W w.heap.size t1 l1 ∧ Row W (w.heap.size + 1) t2 l2 := by
  refine ⟨_, rfl, below2 _ _ _, by simp, (Row.new w t1 l1).alloc _, ?_⟩
  rw [show w.heap.size + 1 = (w.alloc (.cells l1.toArray t1)).heap.size by simp]
  exact Row.new _ _ _
end Go.Proofs.Ytafegghdhdgioaa
end

section
/-
  A stack that is turned in place (chapter 9): three cells of a block, and two rows of the call's own. No function of the program is named here.
-/
namespace Go.Proofs.Ytafegghdhdgioaa
open Go.RowKit

/-- Only the block g, and rows of bytes and of truth values from block base on, may have turned. -/
structure MKp (w w' : World) (g base : Nat) : Prop where
  os : w'.os = w.os
  tape : w'.tape = w.tape
  output : w'.output = w.output
  size : w.heap.size ≤ w'.heap.size
  blk : ∀ k, k < w.heap.size → k ≠ g → (base ≤ k → ∀ cs t fr, w.heap[k]? = some (.cells cs t fr) → t ≠ 5 ∧ t ≠ 4) → w'.heap[k]? = w.heap[k]?
section
variable {w w' w'' : World} {g base : Nat}
theorem MKp.refl (w : World) (g base : Nat) : MKp w w g base := ⟨rfl, rfl, rfl, Nat.le_refl _, fun _ _ _ _ => rfl⟩
theorem MKp.trans (h : MKp w w' g base) (h' : MKp w' w'' g base) : MKp w w'' g base :=
  ⟨h'.os.trans h.os, h'.tape.trans h.tape, h'.output.trans h.output, Nat.le_trans h.size h'.size, fun k hk h1 h2 => by
    have e := h.blk k hk h1 h2
    exact (h'.blk k (Nat.lt_of_lt_of_le hk h.size) h1 (fun hb cs t fr => by rw [e]; exact h2 hb cs t fr)).trans e⟩
theorem MKp.of_below (h : Below w.heap.size w w') (g base : Nat) : MKp w w' g base := ⟨h.os, h.tape, h.output, h.size, fun k hk _ _ => h.block k hk⟩
theorem MKp.set (w : World) (g base k : Nat) (u : Value) : MKp w (w.setCell ⟨g, k, none⟩ u) g base :=
  have h := grown_one w g k u
  ⟨h.os, h.tape, h.output, h.size, fun j hj h1 _ => h.block j hj (fun e => h1 (by injection e))⟩
theorem MKp.of_row {j n c : Nat} {e : TypeId} {xs : List Value} (h : w.grownBy w' (some j)) (ho : w.ownsRow base e 1 (.slice (some ⟨j, 0, none⟩) n c) n xs) (he : e = 5 ∨ e = 4) (g : Nat) : MKp w w' g base :=
  ⟨h.os, h.tape, h.output, h.size, fun k hk _ h2 => h.block k hk (fun hkj => by
    have hkj : j = k := by first | exact Option.some.inj hkj | exact (Option.some.inj hkj).symm
    subst hkj
    obtain ⟨cur, hh, _, _, _, _, hb⟩ := own_heap ho
    have := h2 hb _ _ _ hh
    rcases he with he | he
    · exact this.1 he
    · exact this.2 he)⟩
theorem MKp.row {j t : Nat} {cs : List Value} (h : MKp w w' g base) (r : Row w j t cs) (h1 : j ≠ g) (h2 : j < base ∨ (t ≠ 5 ∧ t ≠ 4)) : Row w' j t cs := by
  unfold Row
  rw [h.blk j r.lt h1 (fun hb cs' t' fr e => by
    unfold Row at r
    rw [r] at e
    injection e with e
    injection e with _ e2
    rcases h2 with h2 | h2
    · omega
    · rw [← e2]; exact h2)]
  exact r
theorem MKp.below {B : Nat} (h : MKp w w' g base) (hB : B ≤ w.heap.size) (h1 : B ≤ g) (h2 : B ≤ base) : Below B w w' :=
  ⟨h.os, h.tape, h.output, h.size, fun k hk => h.blk k (by omega) (by omega) (fun e => by omega)⟩
/-- A row of another type. -/
theorem MKp.own {e : TypeId} {size n : Nat} {v : Value} {xs : List Value} {b2 : Nat} (h : MKp w w' g base) (ho : w.ownsRow b2 e size v n xs) (he : e ≠ 5 ∧ e ≠ 4) (hg : v.ownBlock ≠ some g) : w'.ownsRow b2 e size v n xs := by
  refine ⟨ho.1, ?_⟩
  rcases ho.2 with h2 | ⟨j, cap, cur, rfl, hb, hh, hr⟩
  · exact .inl h2
  · refine .inr ⟨j, cap, cur, rfl, hb, ?_, hr⟩
    rw [h.blk j (Array.getElem?_eq_some_iff.1 hh).1 (fun e => hg (by rw [e]; rfl)) (fun _ cs t fr e2 => by
      rw [hh] at e2
      injection e2 with e2
      injection e2 with _ e3
      rw [← e3]; exact he)]
    exact hh
end
/-- The stack S in memory: cells o, o + 1, o + 2 of block g of type T, and its two rows. -/
structure MemAt (w : World) (g o base : Nat) (T : TypeId) (cs : List Value) (A1 : Option Addr) (c1 : Nat) (A2 : Option Addr) (c2 : Nat) (S : Sk) : Prop where
  row : Row w g T cs
  k0 : cs[o]? = some (.slice A1 S.bs.length c1)
  k1 : cs[o + 1]? = some (.slice A2 S.bs.length c2)
  k2 : cs[o + 2]? = some (.int .i64 (S.sp : Int))
  own : StkOwn w base A1 c1 A2 c2 S 5 4
  gb : base ≤ g
  t1 : T ≠ 5
  t2 : T ≠ 4
section
variable {w w' : World} {g o base : Nat} {T : TypeId} {cs : List Value} {A1 A2 : Option Addr} {c1 c2 : Nat} {S : Sk}
theorem MemAt.bl (h : MemAt w g o base T cs A1 c1 A2 c2 S) : base ≤ w.heap.size := by have := h.row.lt; have := h.gb; omega
theorem MemAt.call (h : MemAt w g o base T cs A1 c1 A2 c2 S) (hb : Below w.heap.size w w') : MemAt w' g o base T cs A1 c1 A2 c2 S := ⟨h.row.call hb, h.k0, h.k1, h.k2, h.own.below hb, h.gb, h.t1, h.t2⟩
theorem MemAt.drewN (h : MemAt w g o base T cs A1 c1 A2 c2 S) (n : Nat) : MemAt (w.drewN n) g o base T cs A1 c1 A2 c2 S := h.call (below_draws (Below.refl _ _) n)
theorem own_offR {e : TypeId} {size n : Nat} {v : Value} {xs : List Value} (ho : w.ownsRow base e size v n xs) (r : Row w g T cs) (ht : T ≠ e) : v.ownBlock = none ∨ v.ownBlock ≠ some g := by
  rcases ho.2 with ⟨rfl, _⟩ | ⟨j, cap, cur, rfl, _, hh, _⟩
  · exact .inl rfl
  · refine .inr fun he => ?_
    injection he with he
    simp only at he
    unfold Row at r
    rw [he, r] at hh
    injection hh with hh
    injection hh with _ e3
    exact ht e3
/-- The SP is stored. -/
theorem MemAt.setSp (h : MemAt w g o base T cs A1 c1 A2 c2 S) {S' : Sk} (hb : S'.bs = S.bs) (hu : S'.us = S.us) (hok : S'.Ok) : MemAt (w.setCell ⟨g, o + 2, none⟩ (.int .i64 (S'.sp : Int))) g o base T (cs.set (o + 2) (.int .i64 (S'.sp : Int))) A1 c1 A2 c2 S' := by
  have hl : o + 2 < cs.length := (List.getElem?_eq_some_iff.1 h.k2).1
  have hg := grown_one w g (o + 2) (.int .i64 (S'.sp : Int))
  refine ⟨h.row.set_ _ _, ?_, ?_, ?_, ⟨hok, ?_, ?_⟩, h.gb, h.t1, h.t2⟩
  · rw [List.getElem?_set_ne (by omega), hb]; exact h.k0
  · rw [List.getElem?_set_ne (by omega), hb]; exact h.k1
  · rw [List.getElem?_set_self hl]
  · rw [hb]; exact h.own.o1.kept hg (own_offR h.own.o1 h.row h.t1)
  · rw [hb, hu]; exact h.own.o2.kept hg (own_offR h.own.o2 h.row h.t2)
end
end Go.Proofs.Ytafegghdhdgioaa
end
