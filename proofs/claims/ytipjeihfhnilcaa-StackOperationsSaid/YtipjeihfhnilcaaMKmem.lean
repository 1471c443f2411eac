import Derived.Test.YtipjeihfhnilcaaMVbytem
import Derived.Test.YtipjeihfhnilcaaMOwn
import Derived.Lib.SliceRun
import Derived.Maps.Range
import Derived.Laws.OwnMore
import Derived.Laws.CopyOwn
set_option linter.unusedVariables false
set_option linter.unusedSimpArgs false
section
/-
  Stacks in memory: two slices and a number by value; kept over what a call leaves; rows of the call's own that a store turns. No function of the program is named here.
-/
namespace Go.Proofs.Ytipjeihfhnilcaa
open Go.RowKit

/-- A stack by value. -/
abbrev kv (A1 : Option Addr) (n1 c1 : Nat) (A2 : Option Addr) (n2 c2 : Nat) (p : Int) : Value := .agg #[.slice A1 n1 c1, .slice A2 n2 c2, .int .i64 p]
/-- Truth values as cells. -/
def cellsB (l : List Bool) : List Value := l.map Value.bool
theorem cellsB_length (l : List Bool) : (cellsB l).length = l.length := by simp [cellsB]
theorem cellsU8_length (l : List Int) : (cellsU8 l).length = l.length := by simp [cellsU8]
theorem cellsB_one (l : List Bool) : ∀ v ∈ cellsB l, v.oneCell' = true := by
  intro v hv
  simp only [cellsB, List.mem_map] at hv
  obtain ⟨b, _, rfl⟩ := hv
  rfl
theorem cellsU8_one (l : List Int) : ∀ v ∈ cellsU8 l, v.oneCell' = true := by
  intro v hv
  simp only [cellsU8, List.mem_map] at hv
  obtain ⟨b, _, rfl⟩ := hv
  rfl
theorem cellsB_at {l : List Bool} {k : Nat} {b : Bool} (h : l[k]? = some b) : (cellsB l)[k]? = some (.bool b) := by simp [cellsB, List.getElem?_map, h]
theorem cellsB_splice (L : List Bool) (off : Nat) (cs : List Bool) : cellsB (splice L off cs) = splice (cellsB L) off (cellsB cs) := splice_map _ _ _ _
theorem cellsU8_splice (L : List Int) (off : Nat) (cs : List Int) : cellsU8 (splice L off cs) = splice (cellsU8 L) off (cellsU8 cs) := splice_map _ _ _ _

/-- At these two slices lies the stack S. -/
structure StkAt (w : World) (B : Nat) (A1 : Option Addr) (c1 : Nat) (A2 : Option Addr) (c2 : Nat) (S : Sk) : Prop where
  ok : S.Ok
  k1 : A1 = none → c1 = 0
  k2 : A2 = none → c2 = 0
  m1 : S.bs.length ≤ c1
  m2 : S.bs.length ≤ c2
  s1 : Sees w B A1 (cellsU8 S.bs)
  s2 : Sees w B A2 (cellsB S.us)
/-- .. by value. -/
abbrev sv (A1 : Option Addr) (c1 : Nat) (A2 : Option Addr) (c2 : Nat) (S : Sk) : Value := kv A1 S.bs.length c1 A2 S.bs.length c2 (S.sp : Int)
section
variable {w w' : World} {B B' : Nat} {A1 A2 : Option Addr} {c1 c2 : Nat} {S : Sk}
theorem StkAt.below (h : StkAt w B A1 c1 A2 c2 S) (hb : Below B w w') : StkAt w' B A1 c1 A2 c2 S := ⟨h.ok, h.k1, h.k2, h.m1, h.m2, h.s1.below hb, h.s2.below hb⟩
theorem StkAt.more (h : StkAt w B A1 c1 A2 c2 S) (hB : B ≤ B') : StkAt w B' A1 c1 A2 c2 S := ⟨h.ok, h.k1, h.k2, h.m1, h.m2, h.s1.more hB, h.s2.more hB⟩
theorem StkAt.call (h : StkAt w w.heap.size A1 c1 A2 c2 S) (hb : Below w.heap.size w w') : StkAt w' w'.heap.size A1 c1 A2 c2 S := (h.below hb).more hb.size
theorem StkAt.alloc (h : StkAt w w.heap.size A1 c1 A2 c2 S) (o : Obj) : StkAt (w.alloc o) (w.alloc o).heap.size A1 c1 A2 c2 S := h.call (below1 w o)
theorem StkAt.keep (h : StkAt w B A1 c1 A2 c2 S) (hk : ∀ p : Addr, p.block < B → w'.cell? p = w.cell? p) : StkAt w' B A1 c1 A2 c2 S := ⟨h.ok, h.k1, h.k2, h.m1, h.m2, h.s1.keep hk, h.s2.keep hk⟩
theorem StkAt.drewN (h : StkAt w B A1 c1 A2 c2 S) (n : Nat) : StkAt (w.drewN n) B A1 c1 A2 c2 S := h.keep fun _ _ => rfl
/-- Pop: only SP turns. -/
theorem StkAt.pop (h : StkAt w B A1 c1 A2 c2 S) {n : Nat} (hn : S.sp + n ≤ S.bs.length) : StkAt w B A1 c1 A2 c2 (popS S n) := ⟨h.ok.pop hn, h.k1, h.k2, h.m1, h.m2, h.s1, h.s2⟩
/-- The bytes from a on, n of them. -/
theorem StkAt.cut (h : StkAt w B A1 c1 A2 c2 S) (a n : Nat) : Sees w B (A1.map (·.add a)) (cellsU8 (cutS S a n)) := by
  have := (h.s1.drop a).take n
  unfold cutS cellsU8 at *
  rwa [← List.map_drop, ← List.map_take] at this
theorem StkAt.cutB (h : StkAt w B A1 c1 A2 c2 S) (a n : Nat) : Sees w B (A2.map (·.add a)) (cellsB ((S.us.drop a).take n)) := by
  have := (h.s2.drop a).take n
  unfold cellsB at *
  rwa [← List.map_drop, ← List.map_take] at this
end

/-- A stack returned with an error number. -/
def StkPost (S : Sk) (E : Int) (w : World) (e : Ending) (w' : World) : Prop :=
  ∃ (A1 : Option Addr) (c1 : Nat) (A2 : Option Addr) (c2 : Nat), e = .returned (.tuple #[sv A1 c1 A2 c2 S, .int .i64 E]) ∧ StkAt w' w'.heap.size A1 c1 A2 c2 S ∧ Below w.heap.size w w'
/-- .. and with a truth value. -/
def StkPost3 (S : Sk) (b : Bool) (E : Int) (w : World) (e : Ending) (w' : World) : Prop :=
  ∃ (A1 : Option Addr) (c1 : Nat) (A2 : Option Addr) (c2 : Nat), e = .returned (.tuple #[sv A1 c1 A2 c2 S, .bool b, .int .i64 E]) ∧ StkAt w' w'.heap.size A1 c1 A2 c2 S ∧ Below w.heap.size w w'
/-- Both rows are the call's own. -/
structure StkOwn (w : World) (base : Nat) (A1 : Option Addr) (c1 : Nat) (A2 : Option Addr) (c2 : Nat) (S : Sk) (t1 t2 : TypeId) : Prop where
  ok : S.Ok
  o1 : w.ownsRow base t1 1 (.slice A1 S.bs.length c1) S.bs.length (cellsU8 S.bs)
  o2 : w.ownsRow base t2 1 (.slice A2 S.bs.length c2) S.bs.length (cellsB S.us)
theorem own_le {w : World} {base : Nat} {e : TypeId} {n c : Nat} {A : Option Addr} {xs : List Value} (h : w.ownsRow base e 1 (.slice A n c) n xs) : (A = none → c = 0) ∧ n ≤ c := by
  rcases h.2 with ⟨he, h0⟩ | ⟨g, cap, cur, he, _, _, hc, _⟩
  · injection he with e1 e2 e3
    subst e3
    exact ⟨fun _ => rfl, by omega⟩
  · injection he with e1 _ e3
    subst e1 e3
    exact ⟨fun e => (by cases e), hc⟩
theorem StkOwn.at_ {w : World} {base : Nat} {A1 : Option Addr} {c1 : Nat} {A2 : Option Addr} {c2 : Nat} {S : Sk} {t1 t2 : TypeId} (h : StkOwn w base A1 c1 A2 c2 S t1 t2) : StkAt w w.heap.size A1 c1 A2 c2 S :=
  ⟨h.ok, (own_le h.o1).1, (own_le h.o2).1, (own_le h.o1).2, (own_le h.o2).2, Sees.own h.o1, Sees.own h.o2⟩
theorem StkOwn.below {w w' : World} {base : Nat} {A1 : Option Addr} {c1 : Nat} {A2 : Option Addr} {c2 : Nat} {S : Sk} {t1 t2 : TypeId} (h : StkOwn w base A1 c1 A2 c2 S t1 t2) (hb : Below w.heap.size w w') : StkOwn w' base A1 c1 A2 c2 S t1 t2 :=
  ⟨h.ok, own_below h.o1 hb, own_below h.o2 hb⟩

theorem splice_cons {α : Type} (L : List α) (off : Nat) (v : α) (r : List α) (h : off < L.length) : splice L off (v :: r) = splice (L.set off v) (off + 1) r := by
  unfold splice
  rw [List.drop_set_of_lt (by omega), List.take_add_one, List.getElem?_set_self h, List.take_set_of_le (by omega), show off + (v :: r).length = off + 1 + r.length by simp; omega]
  simp
/-- An owned row whose cells a run of stores has turned. -/
theorem own_spliced {base : Nat} {e : TypeId} {n c g : Nat} : ∀ (cs : List Value) (off : Nat) (w : World) (xs : List Value), w.ownsRow base e 1 (.slice (some ⟨g, 0, none⟩) n c) n xs → off + cs.length ≤ n →
    (w.setCells g off cs).ownsRow base e 1 (.slice (some ⟨g, 0, none⟩) n c) n (splice xs off cs) ∧ w.grownBy (w.setCells g off cs) (some g)
  | [], off, w, xs, h, _ => ⟨by simpa [splice, World.setCells] using h, World.grownBy.refl w _⟩
  | v :: r, off, w, xs, h, hl => by
    have hx := h.1
    simp only [List.length_cons] at hl
    obtain ⟨h1, h2⟩ := h.stored off v
    obtain ⟨h3, h4⟩ := own_spliced r (off + 1) (w.setCell ⟨g, off, none⟩ v) (xs.set off v) h1 (by omega)
    rw [splice_cons _ _ _ _ (by omega)]
    exact ⟨h3, h2.andThen h4 (fun k hk => .inr hk)⟩
end Go.Proofs.Ytipjeihfhnilcaa
end

section
/-
  What the operations on stacks give, as numbers and stacks; rows of a call's own that are turned in place (chapter 9). No function of the program is named here.
-/
namespace Go.Proofs.Ytipjeihfhnilcaa
open Go.RowKit

def pushR (S : Sk) (n : Int) : Sk := if pushE S n = 0 then pushS S n.toNat else S
def popR (S : Sk) (n : Int) : Sk := if popE S n = 0 then popS S n.toNat else S
theorem clear_none {P : Program} {t e ty : TypeId} (ht : P.underlying t = some (.slice e)) (A : Option Addr) (c : Nat) (W : World) : (Builtin.clear_ #[t] ty #[.slice A 0 c]).run P W = .ok (.tuple #[]) W := by
  cases A <;> simp [Builtin.clear_, run_underlying ht]
theorem StkOwn.put_ {w : World} {base : Nat} {A1 : Option Addr} {c1 : Nat} {A2 : Option Addr} {c2 : Nat} {S : Sk} {t1 t2 : TypeId} (hok : S.Ok) (o1 : w.ownsRow base t1 1 (.slice A1 S.bs.length c1) S.bs.length (cellsU8 S.bs)) (o2 : w.ownsRow base t2 1 (.slice A2 S.bs.length c2) S.bs.length (cellsB S.us)) : StkAt w w.heap.size A1 c1 A2 c2 S :=
  StkOwn.at_ ⟨hok, o1, o2⟩
theorem kown_apart {w : World} {base t1 t2 g n1 n2 c2 : Nat} {v1 : Value} {xs1 xs2 : List Value} (o1 : w.ownsRow base t1 1 v1 n1 xs1) (o2 : w.ownsRow base t2 1 (.slice (some ⟨g, 0, none⟩) n2 c2) n2 xs2) (ht : t1 ≠ t2) : v1.ownBlock = none ∨ v1.ownBlock ≠ some g := by
  rcases o1.2 with ⟨rfl, _⟩ | ⟨g1, cap, cur, rfl, _, hg1, _⟩
  · exact .inl rfl
  · right
    rintro h
    simp only [Value.ownBlock, Option.some.injEq] at h
    subst h
    rcases o2.2 with ⟨h2, _⟩ | ⟨g2, cap2, cur2, h2, _, hg2, _⟩
    · cases h2
    · injection h2 with h3
      injection h3 with h3
      injection h3 with h3
      subst h3
      have := hg1.symm.trans hg2
      injection this with this
      injection this with _ h5 _
      exact ht h5
theorem own_turned {w : World} {base t1 t2 g n1 n2 c2 off : Nat} {v1 : Value} {xs1 xs2 cs : List Value} (o1 : w.ownsRow base t1 1 v1 n1 xs1) (o2 : w.ownsRow base t2 1 (.slice (some ⟨g, 0, none⟩) n2 c2) n2 xs2) (ht : t1 ≠ t2) (h : off + cs.length ≤ n2) :
    (w.setCells g off cs).ownsRow base t1 1 v1 n1 xs1 ∧ (w.setCells g off cs).ownsRow base t2 1 (.slice (some ⟨g, 0, none⟩) n2 c2) n2 (splice xs2 off cs) ∧ w.grownBy (w.setCells g off cs) (some g) ∧ base ≤ g :=
  have h1 := own_spliced cs off w xs2 o2 h
  ⟨o1.kept h1.2 (kown_apart o1 o2 ht), h1.1, h1.2, (o2.lt g rfl).1⟩
theorem cellsB_all (n : Nat) (b : Bool) : cellsB (List.replicate n b) = List.replicate n (.bool b) := by simp [cellsB]
theorem zero_bool : ∀ w, (zeroValue 4).run Try.prog w = .ok (.bool false) w := fun w => by kernel_rfl
theorem push_zero (S : Sk) (h : S.Ok) : pushS S 0 = S := by
  have := h.len; have := h.sp
  unfold pushS
  rw [List.replicate_zero, splice_none _ _ (by omega), Nat.sub_zero]

def fitE (S : Sk) (off n : Int) : Int := if fitB S off n = true then 0 else 4
def loadB (S : Sk) (off n : Int) : Bool := fitB S off n && usedB S ((S.sp : Int) + off).toNat n.toNat
def loadV (S : Sk) (off n : Int) : Nat := if loadB S off n = true then valOf ((cutS S ((S.sp : Int) + off).toNat n.toNat).take 16) else 0
/-- What Load gives. -/
def LoadPost (S : Sk) (off n : Int) (w : World) (e : Ending) (w' : World) : Prop := e = .returned (.tuple #[vv (loadV S off n), .bool (loadB S off n), .int .i64 (fitE S off n)]) ∧ Below w.heap.size w w'
theorem load_no {S : Sk} {off n : Int} (h : fitB S off n = false) : fitE S off n = 4 ∧ loadB S off n = false ∧ loadV S off n = 0 := by simp [fitE, loadV, loadB, h]
theorem load_undef {S : Sk} {off n : Nat} (h : fitB S off n = true) (hu : usedB S (S.sp + off) n = false) : fitE S off n = 0 ∧ loadB S off n = false ∧ loadV S off n = 0 := by
  have e : ((S.sp : Int) + (off : Int)).toNat = S.sp + off := by omega
  have hb : loadB S off n = false := by simp only [loadB, e, Int.toNat_natCast, hu, Bool.and_false]
  exact ⟨by simp [fitE, h], hb, by simp [loadV, hb]⟩
theorem load_yes {S : Sk} {off n : Nat} (h : fitB S off n = true) (hu : usedB S (S.sp + off) n = true) : fitE S off n = 0 ∧ loadB S off n = true ∧ loadV S off n = valOf ((cutS S (S.sp + off) n).take 16) := by
  have e : ((S.sp : Int) + (off : Int)).toNat = S.sp + off := by omega
  have hb : loadB S off n = true := by simp only [loadB, e, Int.toNat_natCast, hu, h, Bool.and_self]
  exact ⟨by simp [fitE, h], hb, by simp only [loadV, hb, if_true, e, Int.toNat_natCast]⟩
theorem fit_nat {S : Sk} {off n : Int} (h : fitB S off n = true) : ∃ a m : Nat, off = (a : Int) ∧ n = (m : Int) ∧ 1 ≤ m ∧ m ≤ 16 ∧ S.sp + a + m ≤ S.bs.length := by
  obtain ⟨h1, h2, h3⟩ := fitB_iff.1 h
  have hn := of_decide_eq_true (show decide (n = 1 ∨ n = 2 ∨ n = 4 ∨ n = 8 ∨ n = 16) = true from h1)
  exact ⟨off.toNat, n.toNat, by omega, by omega, by omega, by omega, by omega⟩
theorem kvv_zero : vv 0 = .agg #[.int .u64 0, .int .u64 0] := rfl
def storeR (S : Sk) (off n : Int) (X : Nat) : Sk := if fitB S off n = true then storeS S ((S.sp : Int) + off).toNat n.toNat X else S
def moveB (S : Sk) (dst src n : Int) : Bool := fitB S dst n && loadB S src n
def moveE (S : Sk) (dst src n : Int) : Int := if (fitB S dst n && fitB S src n) = true then 0 else 4
def moveR (S : Sk) (dst src n : Int) : Sk := if moveB S dst src n = true then putS S ((S.sp : Int) + dst).toNat (cutS S ((S.sp : Int) + src).toNat n.toNat) else S
theorem store_no {S : Sk} {off n : Int} {X : Nat} (h : fitB S off n = false) : fitE S off n = 4 ∧ storeR S off n X = S := by simp [fitE, storeR, h]
theorem store_yes {S : Sk} {off n X : Nat} (h : fitB S off n = true) : fitE S off n = 0 ∧ storeR S off n X = storeS S (S.sp + off) n X := by
  have e : ((S.sp : Int) + (off : Int)).toNat = S.sp + off := by omega
  exact ⟨by simp [fitE, h], by simp only [storeR, h, if_true, e, Int.toNat_natCast]⟩
theorem drew_k (W : World) (B : Nat) : Below B W W.drew := below_draws (Below.refl _ _) 1
theorem drewN_k (W : World) (B k : Nat) : Below B W (W.drewN k) := below_draws (Below.refl _ _) k

theorem move_no {S : Sk} {dst src n : Int} (h : fitB S dst n = false ∨ fitB S src n = false) : moveE S dst src n = 4 ∧ moveB S dst src n = false ∧ moveR S dst src n = S := by
  rcases h with h | h <;> simp [moveE, moveR, moveB, loadB, h]
theorem move_undef {S : Sk} {dst : Int} {o m : Nat} (h : fitB S dst (m : Int) = true) (h2 : fitB S (o : Int) (m : Int) = true) (hu : usedB S (S.sp + o) m = false) : moveE S dst (o : Int) (m : Int) = 0 ∧ moveB S dst (o : Int) (m : Int) = false ∧ moveR S dst (o : Int) (m : Int) = S := by
  have hb : moveB S dst (o : Int) (m : Int) = false := by simp only [moveB, (load_undef h2 hu).2.1, Bool.and_false]
  exact ⟨by simp [moveE, h, h2], hb, by simp [moveR, hb]⟩
theorem move_yes {S : Sk} {d o m : Nat} (h : fitB S (d : Int) (m : Int) = true) (h2 : fitB S (o : Int) (m : Int) = true) (hu : usedB S (S.sp + o) m = true) : moveE S (d : Int) (o : Int) (m : Int) = 0 ∧ moveB S (d : Int) (o : Int) (m : Int) = true ∧ moveR S (d : Int) (o : Int) (m : Int) = putS S (S.sp + d) (cutS S (S.sp + o) m) := by
  have hb : moveB S (d : Int) (o : Int) (m : Int) = true := by simp only [moveB, (load_yes h2 hu).2.1, h, Bool.and_self]
  have e : ((S.sp : Int) + (o : Int)).toNat = S.sp + o := by omega
  have e' : ((S.sp : Int) + (d : Int)).toNat = S.sp + d := by omega
  exact ⟨by simp [moveE, h, h2], hb, by simp only [moveR, hb, if_true, e, e', Int.toNat_natCast]⟩

theorem own_heap {w : World} {base g n c : Nat} {e : TypeId} {xs : List Value} (h : w.ownsRow base e 1 (.slice (some ⟨g, 0, none⟩) n c) n xs) :
    ∃ cur : List Value, w.heap[g]? = some (.cells cur.toArray e (0, 0)) ∧ cur.length = c ∧ cur.take n = xs ∧ n ≤ c ∧ c ≤ maxLen ∧ base ≤ g := by
  rcases h.2 with ⟨h2, _⟩ | ⟨g', cap, cur, h2, hg, hh, hc, hm, hs, ht⟩
  · cases h2
  · injection h2 with h3 h4 h5
    injection h3 with h3
    injection h3 with h3
    subst h3 h5
    refine ⟨cur.toList, by simpa using hh, by simpa using hs, ?_, hc, hm, hg⟩
    simpa using ht
theorem heap_own {w : World} {base g n c : Nat} {e : TypeId} {cur : List Value} (hg : w.heap[g]? = some (.cells cur.toArray e (0, 0))) (hl : cur.length = c) (hn : n ≤ c) (hm : c ≤ maxLen) (hb : base ≤ g) : w.ownsRow base e 1 (.slice (some ⟨g, 0, none⟩) n c) n (cur.take n) :=
  ⟨by simp; omega, .inr ⟨g, c, cur.toArray, rfl, hb, hg, hn, hm, by simpa using hl, by simp⟩⟩
theorem splice_take {α : Type} (L cs : List α) (off n : Nat) (h : off + cs.length ≤ n) (hn : n ≤ L.length) : (splice L off cs).take n = splice (L.take n) off cs := by
  apply List.ext_getElem?
  intro j
  rw [List.getElem?_take]
  by_cases hj : j < n
  · rw [if_pos hj, splice_at _ _ _ (by omega), splice_at _ _ _ (by simp; omega), List.getElem?_take, if_pos hj]
  · rw [if_neg hj]
    symm
    apply List.getElem?_eq_none
    rw [length_splice _ _ _ (by simp; omega)]
    simp; omega
theorem row_turned (w : World) (g : Nat) (cs : Array Value) : w.grownBy (w.setRow g cs) (some g) :=
  ⟨rfl, rfl, rfl, by simp [World.setRow], fun i hi hne => setRow_other w g i cs (fun h => hne (by rw [h]))⟩
/-- A row of the call's own, into which something was copied. -/
theorem own_copied {w : World} {base g n c off : Nat} {e : TypeId} {cs cur : List Value} (hh : w.heap[g]? = some (.cells cur.toArray e (0, 0))) (hl : cur.length = c) (hn : n ≤ c) (hm : c ≤ maxLen) (hb : base ≤ g) (ho : off + cs.length ≤ n) :
    (w.setRow g (cur.take off ++ (cs ++ cur.drop (off + cs.length))).toArray).ownsRow base e 1 (.slice (some ⟨g, 0, none⟩) n c) n (splice (cur.take n) off cs) := by
  have h2 := heap_own (w := w.setRow g (splice cur off cs).toArray) (base := base) (n := n) (c := c) (setRow_heap w g _ _ e _ hh) (by rw [length_splice _ _ _ (by omega)]; exact hl) hn hm hb
  rw [splice_take _ _ _ _ ho (by omega)] at h2
  exact h2
theorem size_u8 : (Try.prog.info? 5).map (·.size) = some 1 := by kernel_rfl

end Go.Proofs.Ytipjeihfhnilcaa
end

section
/-
  Rows of a call's own beside stores elsewhere (chapter 9). No function of the program is named here.
-/
namespace Go.Proofs.Ytipjeihfhnilcaa
open Go.RowKit

theorem Try.cinfo5 : (Try.prog.info? 5).map (fun i => (i.zero, i.size, i.bytes)) = some (some (.int .u8 0), 1, 1) := by kernel_rfl
theorem Try.cinfo4 : (Try.prog.info? 4).map (fun i => (i.zero, i.size, i.bytes)) = some (some (.bool false), 1, 1) := by kernel_rfl
theorem empty_own (w : World) (e : TypeId) : (w.alloc (.cells #[] e)).ownsRow w.heap.size e 1 (.slice (some ⟨w.heap.size, 0, none⟩) 0 0) 0 [] :=
  ⟨by simp, .inr ⟨w.heap.size, 0, #[], rfl, Nat.le_refl _, heap_alloc_new w _, Nat.le_refl _, by unfold maxLen; omega, by simp, by simp⟩⟩
theorem own_off {w : World} {base g : Nat} {e : TypeId} {size n : Nat} {v : Value} {xs : List Value} (h : w.ownsRow base e size v n xs) (hg : g < base) : v.ownBlock = none ∨ v.ownBlock ≠ some g := by
  cases e' : v.ownBlock with
  | none => exact .inl rfl
  | some k => exact .inr fun h' => by have := (h.lt k e').1; injection h' with h'; omega
theorem grown_one (w : World) (g k : Nat) (u : Value) : w.grownBy (w.setCell ⟨g, k, none⟩ u) (some g) :=
  ⟨rfl, rfl, rfl, by simp [World.setCell], fun i hi hne => Below.heap_setCell w ⟨g, k, none⟩ u i (by rintro rfl; exact hne rfl)⟩
theorem own_put {w : World} {base g k : Nat} {e : TypeId} {size n : Nat} {v u : Value} {xs : List Value} (h : w.ownsRow base e size v n xs) (hg : g < base) : (w.setCell ⟨g, k, none⟩ u).ownsRow base e size v n xs := h.kept (grown_one w g k u) (own_off h hg)
theorem own_put3 {w : World} {base g : Nat} {e : TypeId} {size n : Nat} {v a b c : Value} {xs : List Value} (h : w.ownsRow base e size v n xs) (hg : g < base) : (((w.setCell ⟨g, 0, none⟩ a).setCell ⟨g, 1, none⟩ b).setCell ⟨g, 2, none⟩ c).ownsRow base e size v n xs := own_put (own_put (own_put h hg) hg) hg
theorem own_raise {w : World} {base base' : Nat} {e : TypeId} {size n : Nat} {v : Value} {xs : List Value} (h : w.ownsRow base e size v n xs) (hb : base' ≤ base) : w.ownsRow base' e size v n xs := by
  refine ⟨h.1, ?_⟩
  rcases h.2 with h2 | ⟨g, cap, cur, hv, hg, hh, hr⟩
  · exact .inl h2
  · exact .inr ⟨g, cap, cur, hv, by omega, hh, hr⟩
theorem below_put {B g k : Nat} {w w' : World} {u : Value} (h : Below B w w') (hg : B ≤ g) : Below B w (w'.setCell ⟨g, k, none⟩ u) := h.setCell (p := ⟨g, k, none⟩) hg u
theorem below_put3 {B g : Nat} {w w' : World} {a b c : Value} (h : Below B w w') (hg : B ≤ g) : Below B w (((w'.setCell ⟨g, 0, none⟩ a).setCell ⟨g, 1, none⟩ b).setCell ⟨g, 2, none⟩ c) := below_put (below_put (below_put h hg) hg) hg
theorem two_boxes (w : World) (l1 l2 : List Value) (t1 t2 : TypeId) : ∃ W, (w.alloc (.cells l1.toArray t1)).alloc (.cells l2.toArray t2) = W ∧ Below w.heap.size w W ∧ w.heap.size + 2 = W.heap.size ∧ Row W w.heap.size t1 l1 ∧ Row W (w.heap.size + 1) t2 l2 := by
  refine ⟨_, rfl, below2 _ _ _, by simp, (Row.new w t1 l1).alloc _, ?_⟩
  rw [show w.heap.size + 1 = (w.alloc (.cells l1.toArray t1)).heap.size by simp]
  exact Row.new _ _ _
end Go.Proofs.Ytipjeihfhnilcaa
end
