/-
  Stacks in memory: two slices and a number by value; kept over what a call leaves; rows of the call's own that a store turns. No function of the program is named here.
-/
import Derived.Test.YtlkikjgapingjaaKmath
import Derived.Test.YtlkikjgapingjaaWords
import Derived.Lib.SliceRun
import Derived.Maps.Range
import Derived.Laws.OwnMore
namespace Go.Proofs.Ytlkikjgapingjaa
open Go.RowKit

/-- A stack by value. -/
abbrev kv (A1 : Option Addr) (n1 c1 : Nat) (A2 : Option Addr) (n2 c2 : Nat) (p : Int) : Value := .agg #[.slice A1 n1 c1, .slice A2 n2 c2, .int .i64 p]
/-- Truth values as cells. -/
def cellsB (l : List Bool) : List Value := l.map Value.bool
theorem cellsB_length (l : List Bool) : (cellsB l).length = l.length := by simp [cellsB]
theorem cellsU8_length (l : List Int) : (cellsU8 l).length = l.length := by simp [cellsU8]
theorem cellsB_one (l : List Bool) : ∀ v ∈ cellsB l, v.oneCell' = true := by
  intro v hv
  simp only [cellsB, List.mem_map] at hv
  obtain ⟨b, _, rfl⟩ := hv
  rfl
theorem cellsU8_one (l : List Int) : ∀ v ∈ cellsU8 l, v.oneCell' = true := by
  intro v hv
  simp only [cellsU8, List.mem_map] at hv
  obtain ⟨b, _, rfl⟩ := hv
  rfl
theorem cellsB_at {l : List Bool} {k : Nat} {b : Bool} (h : l[k]? = some b) : (cellsB l)[k]? = some (.bool b) := by simp [cellsB, List.getElem?_map, h]
theorem cellsB_splice (L : List Bool) (off : Nat) (cs : List Bool) : cellsB (splice L off cs) = splice (cellsB L) off (cellsB cs) := splice_map _ _ _ _
theorem cellsU8_splice (L : List Int) (off : Nat) (cs : List Int) : cellsU8 (splice L off cs) = splice (cellsU8 L) off (cellsU8 cs) := splice_map _ _ _ _

/-- At these two slices lies the stack S. -/
structure StkAt (w : World) (B : Nat) (A1 : Option Addr) (c1 : Nat) (A2 : Option Addr) (c2 : Nat) (S : Sk) : Prop where
  ok : S.Ok
  k1 : A1 = none → c1 = 0
  k2 : A2 = none → c2 = 0
  m1 : S.bs.length ≤ c1
  m2 : S.bs.length ≤ c2
  s1 : Sees w B A1 (cellsU8 S.bs)
  s2 : Sees w B A2 (cellsB S.us)
/-- .. by value. -/
abbrev sv (A1 : Option Addr) (c1 : Nat) (A2 : Option Addr) (c2 : Nat) (S : Sk) : Value := kv A1 S.bs.length c1 A2 S.bs.length c2 (S.sp : Int)
section
variable {w w' : World} {B B' : Nat} {A1 A2 : Option Addr} {c1 c2 : Nat} {S : Sk}
theorem StkAt.below (h : StkAt w B A1 c1 A2 c2 S) (hb : Below B w w') : StkAt w' B A1 c1 A2 c2 S := ⟨h.ok, h.k1, h.k2, h.m1, h.m2, h.s1.below hb, h.s2.below hb⟩
theorem StkAt.more (h : StkAt w B A1 c1 A2 c2 S) (hB : B ≤ B') : StkAt w B' A1 c1 A2 c2 S := ⟨h.ok, h.k1, h.k2, h.m1, h.m2, h.s1.more hB, h.s2.more hB⟩
theorem StkAt.call (h : StkAt w w.heap.size A1 c1 A2 c2 S) (hb : Below w.heap.size w w') : StkAt w' w'.heap.size A1 c1 A2 c2 S := (h.below hb).more hb.size
theorem StkAt.alloc (h : StkAt w w.heap.size A1 c1 A2 c2 S) (o : Obj) : StkAt (w.alloc o) (w.alloc o).heap.size A1 c1 A2 c2 S := h.call (below1 w o)
theorem StkAt.keep (h : StkAt w B A1 c1 A2 c2 S) (hk : ∀ p : Addr, p.block < B → w'.cell? p = w.cell? p) : StkAt w' B A1 c1 A2 c2 S := ⟨h.ok, h.k1, h.k2, h.m1, h.m2, h.s1.keep hk, h.s2.keep hk⟩
theorem StkAt.drewN (h : StkAt w B A1 c1 A2 c2 S) (n : Nat) : StkAt (w.drewN n) B A1 c1 A2 c2 S := h.keep fun _ _ => rfl
/-- Pop: only SP turns. -/
theorem StkAt.pop (h : StkAt w B A1 c1 A2 c2 S) {n : Nat} (hn : S.sp + n ≤ S.bs.length) : StkAt w B A1 c1 A2 c2 (popS S n) := ⟨h.ok.pop hn, h.k1, h.k2, h.m1, h.m2, h.s1, h.s2⟩
/-- The bytes from a on, n of them. -/
theorem StkAt.cut (h : StkAt w B A1 c1 A2 c2 S) (a n : Nat) : Sees w B (A1.map (·.add a)) (cellsU8 (cutS S a n)) := by
  have := (h.s1.drop a).take n
  unfold cutS cellsU8 at *
  rwa [← List.map_drop, ← List.map_take] at this
theorem StkAt.cutB (h : StkAt w B A1 c1 A2 c2 S) (a n : Nat) : Sees w B (A2.map (·.add a)) (cellsB ((S.us.drop a).take n)) := by
  have := (h.s2.drop a).take n
  unfold cellsB at *
  rwa [← List.map_drop, ← List.map_take] at this
end

/-- A stack returned with an error number. -/
def StkPost (S : Sk) (E : Int) (w : World) (e : Ending) (w' : World) : Prop :=
  ∃ (A1 : Option Addr) (c1 : Nat) (A2 : Option Addr) (c2 : Nat), e = .returned (.tuple #[sv A1 c1 A2 c2 S, .int .i64 E]) ∧ StkAt w' w'.heap.size A1 c1 A2 c2 S ∧ Below w.heap.size w w'
/-- .. and with a truth value. -/
def StkPost3 (S : Sk) (b : Bool) (E : Int) (w : World) (e : Ending) (w' : World) : Prop :=
  ∃ (A1 : Option Addr) (c1 : Nat) (A2 : Option Addr) (c2 : Nat), e = .returned (.tuple #[sv A1 c1 A2 c2 S, .bool b, .int .i64 E]) ∧ StkAt w' w'.heap.size A1 c1 A2 c2 S ∧ Below w.heap.size w w'
/-- Both rows are the call's own. -/
structure StkOwn (w : World) (base : Nat) (A1 : Option Addr) (c1 : Nat) (A2 : Option Addr) (c2 : Nat) (S : Sk) (t1 t2 : TypeId) : Prop where
  ok : S.Ok
  o1 : w.ownsRow base t1 1 (.slice A1 S.bs.length c1) S.bs.length (cellsU8 S.bs)
  o2 : w.ownsRow base t2 1 (.slice A2 S.bs.length c2) S.bs.length (cellsB S.us)
theorem own_le {w : World} {base : Nat} {e : TypeId} {n c : Nat} {A : Option Addr} {xs : List Value} (h : w.ownsRow base e 1 (.slice A n c) n xs) : (A = none → c = 0) ∧ n ≤ c := by
  rcases h.2 with ⟨he, h0⟩ | ⟨g, cap, cur, he, _, _, hc, _⟩
  · injection he with e1 e2 e3
    subst e3
    exact ⟨fun _ => rfl, by omega⟩
  · injection he with e1 _ e3
    subst e1 e3
    exact ⟨fun e => (by cases e), hc⟩
theorem StkOwn.at_ {w : World} {base : Nat} {A1 : Option Addr} {c1 : Nat} {A2 : Option Addr} {c2 : Nat} {S : Sk} {t1 t2 : TypeId} (h : StkOwn w base A1 c1 A2 c2 S t1 t2) : StkAt w w.heap.size A1 c1 A2 c2 S :=
  ⟨h.ok, (own_le h.o1).1, (own_le h.o2).1, (own_le h.o1).2, (own_le h.o2).2, Sees.own h.o1, Sees.own h.o2⟩
theorem StkOwn.below {w w' : World} {base : Nat} {A1 : Option Addr} {c1 : Nat} {A2 : Option Addr} {c2 : Nat} {S : Sk} {t1 t2 : TypeId} (h : StkOwn w base A1 c1 A2 c2 S t1 t2) (hb : Below w.heap.size w w') : StkOwn w' base A1 c1 A2 c2 S t1 t2 :=
  ⟨h.ok, own_below h.o1 hb, own_below h.o2 hb⟩

theorem splice_cons {α : Type} (L : List α) (off : Nat) (v : α) (r : List α) (h : off < L.length) : splice L off (v :: r) = splice (L.set off v) (off + 1) r := by
  unfold splice
  rw [List.drop_set_of_lt (by omega), List.take_add_one, List.getElem?_set_self h, List.take_set_of_le (by omega), show off + (v :: r).length = off + 1 + r.length by simp; omega]
  simp
/-- An owned row whose cells a run of stores has turned. -/
theorem own_spliced {base : Nat} {e : TypeId} {n c g : Nat} : ∀ (cs : List Value) (off : Nat) (w : World) (xs : List Value), w.ownsRow base e 1 (.slice (some ⟨g, 0, none⟩) n c) n xs → off + cs.length ≤ n →
    (w.setCells g off cs).ownsRow base e 1 (.slice (some ⟨g, 0, none⟩) n c) n (splice xs off cs) ∧ w.grownBy (w.setCells g off cs) (some g)
  | [], off, w, xs, h, _ => ⟨by simpa [splice, World.setCells] using h, World.grownBy.refl w _⟩
  | v :: r, off, w, xs, h, hl => by
    have hx := h.1
    simp only [List.length_cons] at hl
    obtain ⟨h1, h2⟩ := h.stored off v
    obtain ⟨h3, h4⟩ := own_spliced r (off + 1) (w.setCell ⟨g, off, none⟩ v) (xs.set off v) h1 (by omega)
    rw [splice_cons _ _ _ _ (by omega)]
    exact ⟨h3, h2.andThen h4 (fun k hk => .inr hk)⟩
end Go.Proofs.Ytlkikjgapingjaa
