import Derived.Test.YtlcmcmocjbeocaaGreatDoorRows
import Derived.WalkKit
import Derived.ProofKit
import Derived.Deep.Draws
import Derived.Laws.CopyOwn
import Derived.Laws.AppendOwnNone
import Derived.Lib.BitFns
import Derived.Lib.Walk
import Derived.Lib.Small
set_option linter.unusedVariables false
set_option linter.unusedSimpArgs false
section
/-
  Words for memory that the walks of this seat use: 'Sees': a slice's address yields these cells, below a given block. No condition; nothing here names the program's functions.
-/
namespace Go.Proofs.YtlcmcmocjbeocaaGreatDoor
open Go.RowKit

/-- At the address A stand the cells xs, one place each, in a block below B. (An empty list asks nothing of A: nil is let in.) -/
def Sees (w : World) (B : Nat) (A : Option Addr) (xs : List Value) : Prop :=
  ∀ (k : Nat) (u : Value), xs[k]? = some u → ∃ b off, A = some ⟨b, off, none⟩ ∧ b < B ∧ w.cell? ⟨b, off + k, none⟩ = some u

section
variable {w w' : World} {B B' : Nat} {A : Option Addr} {xs ys : List Value}

theorem Sees.nil_ (w : World) (B : Nat) (A : Option Addr) : Sees w B A [] := fun k u h => by simp at h

theorem Sees.keep (h : Sees w B A xs) (hk : ∀ p : Addr, p.block < B → w'.cell? p = w.cell? p) : Sees w' B A xs := fun k u hu => by
  obtain ⟨b, off, e, hb, hc⟩ := h k u hu
  exact ⟨b, off, e, hb, (hk _ hb).trans hc⟩

theorem Sees.more (h : Sees w B A xs) (hB : B ≤ B') : Sees w B' A xs := fun k u hu => by
  obtain ⟨b, off, e, hb, hc⟩ := h k u hu
  exact ⟨b, off, e, by omega, hc⟩

theorem Sees.below (h : Sees w B A xs) (hb : Below B w w') : Sees w' B A xs := h.keep fun _ hp => hb.cell hp
theorem Sees.draws (h : Sees w B A xs) (n : Nat) : Sees (w.drewN n) B A xs := h
theorem Sees.draw (h : Sees w B A xs) : Sees w.drew B A xs := h
theorem Sees.undraws {n : Nat} (h : Sees (w.drewN n) B A xs) : Sees w B A xs := h
theorem Sees.alloc (h : Sees w B A xs) (hB : B ≤ w.heap.size) (o : Obj) : Sees (w.alloc o) B A xs := h.keep fun p hp => World.cell?_alloc_lt w o p (by omega)

/-- A list that begins as this one does. -/
theorem Sees.part (h : Sees w B A xs) (hp : ∀ (k : Nat) (u : Value), ys[k]? = some u → xs[k]? = some u) : Sees w B A ys := fun k u hu => h k u (hp k u hu)
theorem Sees.take (h : Sees w B A xs) (n : Nat) : Sees w B A (xs.take n) := h.part fun k u hu => by
  rw [List.getElem?_take] at hu
  split at hu <;> simp_all
theorem Sees.left (h : Sees w B A (xs ++ ys)) : Sees w B A xs := h.part fun k u hu => by
  have hk : k < xs.length := by
    rcases Nat.lt_or_ge k xs.length with h1 | h1
    · exact h1
    · rw [List.getElem?_eq_none h1] at hu; simp at hu
  rw [List.getElem?_append_left hk]; exact hu

/-- From place k on: 's[k:]' with a place left behind it. -/
theorem Sees.drop (h : Sees w B A xs) (k : Nat) : Sees w B (A.map (·.add k)) (xs.drop k) := fun j u hu => by
  rw [List.getElem?_drop] at hu
  obtain ⟨b, off, e, hb, hc⟩ := h _ u hu
  refine ⟨b, off + k, ?_, hb, ?_⟩
  · subst e
    simp only [Option.map_some, Addr.add]
    split <;> simp_all
  · rw [Nat.add_assoc]; exact hc

/-- A row of the call's own. -/
theorem Sees.own {base : Nat} {e : TypeId} {n c : Nat} (h : w.ownsRow base e 1 (.slice A n c) n xs) : Sees w w.heap.size A xs := fun k u hu => by
  have hl := h.1
  have hk : k < xs.length := by
    rcases Nat.lt_or_ge k xs.length with h1 | h1
    · exact h1
    · rw [List.getElem?_eq_none h1] at hu; simp at hu
  rcases h.2 with ⟨he, h0⟩ | ⟨g, cap, cur, he, hg, hh, _⟩
  · omega
  · have hA : A = some ⟨g, 0, none⟩ := by injection he
    subst hA
    have hlt : g < w.heap.size := by
      rcases Nat.lt_or_ge g w.heap.size with h1 | h1
      · exact h1
      · rw [Array.getElem?_eq_none h1] at hh; simp at hh
    refine ⟨g, 0, rfl, hlt, ?_⟩
    have := h.cells (g := g) rfl k u hu
    rw [Nat.zero_add]
    simpa [Addr.add] using (by
      have e2 : (⟨g, 0, none⟩ : Addr).add k = ⟨g, k, none⟩ := by
        unfold Addr.add
        split <;> simp_all
      rw [← e2]; exact this)
end

/-- Bytes as cells. -/
def cellsU8 (zs : List Int) : List Value := zs.map (Value.int .u8)

theorem get_u8 {zs : List Int} {k : Nat} (h : k < zs.length) : (cellsU8 zs)[k]? = some (.int .u8 (zs.getD k 0)) := by
  simp [cellsU8, List.getElem?_map, List.getElem?_eq_getElem h, List.getD_eq_getElem?_getD]

/-- The byte at place k, and where it stands. -/
theorem byte_at {w : World} {B : Nat} {A : Option Addr} {zs : List Int} {k : Nat} (h : Sees w B A (cellsU8 zs)) (hk : k < zs.length) (hz : ∀ z ∈ zs, 0 ≤ z ∧ z ≤ 255) :
    ∃ b off z, A = some ⟨b, off, none⟩ ∧ b < B ∧ w.cell? ⟨b, off + k, none⟩ = some (.int .u8 z) ∧ 0 ≤ z ∧ z ≤ 255 ∧ Hid (zs[k]? = some z) := by
  obtain ⟨b, off, e, hb, hc⟩ := h k (.int .u8 zs[k]) (by simp [cellsU8, List.getElem?_map, List.getElem?_eq_getElem hk])
  have hz' := hz zs[k] (List.getElem_mem hk)
  exact ⟨b, off, zs[k], e, hb, hc, hz'.1, hz'.2, List.getElem?_eq_getElem hk⟩
theorem take_more {zs : List Int} {k : Nat} {z : Int} (h : zs[k]? = some z) : zs.take (k + 1) = zs.take k ++ [z] := by
  rw [List.take_add_one, h]; rfl

/-- A fact kept from the walk. -/
theorem hide {p : Prop} (h : p) : Hid p := h

theorem ret_int {k : IntKind} {a b : Int} (h : a = b) : Ending.returned (.int k a) = .returned (.int k b) := by rw [h]
end Go.Proofs.YtlcmcmocjbeocaaGreatDoor
end

section
/-
  Rows that the call itself made: kept over what is 'Below' them; an append whose source is told by 'Sees' (nil let in); a row made and filled by copy. No function of the program is named here.
-/
namespace Go.Proofs.YtlcmcmocjbeocaaGreatDoor
open Go.RowKit

section
variable {w w' : World} {base : Nat} {e : TypeId} {size n : Nat} {v : Value} {xs : List Value}

theorem own_below (h : w.ownsRow base e size v n xs) (hb : Below w.heap.size w w') : w'.ownsRow base e size v n xs := by
  refine ⟨h.1, ?_⟩
  rcases h.2 with h2 | ⟨g, cap, cur, hv, hg, hh, hr⟩
  · exact .inl h2
  · refine .inr ⟨g, cap, cur, hv, hg, ?_, hr⟩
    have hlt : g < w.heap.size := by
      rcases Nat.lt_or_ge g w.heap.size with h1 | h1
      · exact h1
      · rw [Array.getElem?_eq_none h1] at hh; simp at hh
    rw [hb.block g hlt]; exact hh
theorem own_draws (h : w.ownsRow base e size v n xs) (k : Nat) : (w.drewN k).ownsRow base e size v n xs := h
theorem below_draws {B : Nat} {a : World} (h : Below B a w) (k : Nat) : Below B a (w.drewN k) := ⟨h.os, h.tape, h.output, h.size, h.block⟩
/-- The form of an owned row's value. -/
theorem own_form (h : w.ownsRow base e size v n xs) : ∃ A c, v = .slice A n c ∧ (A = none → c = 0) ∧ n ≤ maxLen := by
  rcases h.2 with ⟨rfl, rfl⟩ | ⟨g, cap, cur, rfl, _, _, hc, hm, _⟩
  · exact ⟨none, 0, rfl, fun _ => rfl, by omega⟩
  · exact ⟨some ⟨g, 0, none⟩, cap, rfl, fun hn => by simp at hn, by omega⟩
theorem own_block (h : w.ownsRow base e size v n xs) (hn : 0 < n) : ∃ g c, v = .slice (some ⟨g, 0, none⟩) n c ∧ base ≤ g ∧ g < w.heap.size ∧ n ≤ c ∧ c ≤ maxLen := by
  rcases h.2 with ⟨rfl, rfl⟩ | ⟨g, cap, cur, rfl, hg, hh, hc, hm, _⟩
  · omega
  · refine ⟨g, cap, rfl, hg, ?_, hc, hm⟩
    rcases Nat.lt_or_ge g w.heap.size with h1 | h1
    · exact h1
    · rw [Array.getElem?_eq_none h1] at hh; simp at hh
theorem own_len (h : w.ownsRow base e 1 v n xs) : xs.length = n := by have := h.1; omega
/-- What the caller held is as it was: an append to a row of the call's own. -/
theorem below_append {B : Nat} {a : World} (hb : Below B a w) (h : w.ownsRow base e size v n xs) (hB : B ≤ base) (hg : w.grownBy w' v.ownBlock) (hs : B ≤ w.heap.size) : Below B a w' :=
  hb.grown hg hs fun k hk => by have := (h.lt k hk).1; omega

theorem below_step {w0 w w' : World} (h : Below w0.heap.size w0 w) (h' : Below w.heap.size w w') : Below w0.heap.size w0 w' := h.trans (h'.mono h.size)
theorem one_new (w : World) (x : Value) (t : TypeId) : ∀ (j : Nat) (u : Value), [x][j]? = some u → (w.alloc (.cells #[x] t)).cell? ((⟨w.heap.size, 0, none⟩ : Addr).add j) = some u := by
  intro j u hu
  cases j with
  | zero =>
    simp at hu
    subst hu
    rw [WideShapes.add_plain, World.cell?_alloc_at _ _ _ _ rfl]
    rfl
  | succ j => simp at hu

theorem Sees.src {B : Nat} {A : Option Addr} (h : Sees w B A xs) (hp : 0 < xs.length) : ∃ ad, A = some ad ∧ ∀ (j : Nat) (u : Value), xs[j]? = some u → w.cell? (ad.add j) = some u := by
  obtain ⟨b, off, rfl, _, _⟩ := h 0 xs[0] (List.getElem?_eq_getElem hp)
  refine ⟨_, rfl, fun j u hu => ?_⟩
  obtain ⟨b', off', he, _, hc⟩ := h j u hu
  injection he with he
  injection he with h1 h2
  subst h1 h2
  rw [WideShapes.add_plain]; exact hc
end

/-- append(v, x...), v nil or a row of the call's own, x any slice that 'Sees' tells. -/
theorem wpList_append_sees {P : Program} {w : World} {ops : Array Oper} {rest : List Oper} {o : Oper} {a : Act} {Q : Exit → Act → World → Prop} (hgd : o.guard = none) (s x : Operand) (t : TypeId)
    (ho : o.op = .call { callee := .builtin .append, args := #[s, x], argTypes := #[t, t] })
    (base : Nat) (e : TypeId) (i : TypeInfo) (z : Value) (bytes : Nat) (ht : P.underlying t = some (.slice e)) (hi : P.info? e = some i) (hz : i.zero = some z)
    (hsize : i.size = 1) (hby : i.bytes = bytes) (hzs : z.cells.size = 1)
    (v : Value) (n : Nat) (xs : List Value) (hs : a.eval s = v) (hown : w.ownsRow base e 1 v n xs)
    (B : Nat) (A : Option Addr) (m c : Nat) (news : List Value) (hx : a.eval x = .slice A m c) (hA : Hid (A = none → c = 0)) (hl : news.length = m) (hsee : Sees w B A news) (h1 : ∀ u ∈ news, u.oneCell' = true)
    (h63 : n + m ≤ maxLen) (hbytes : (n + m) * bytes ≤ 140737488355328) (hbase : base ≤ w.heap.size)
    (h : ∀ v' w', w'.ownsRow base e 1 v' (n + m) (xs ++ news) → w.grownBy w' v.ownBlock → wpList P ops Q rest (a.put o.dst v') w') : wpList P ops Q (o :: rest) a w := by
  rcases A with _ | ad
  · have hm : news = [] := by
      rcases news with _ | ⟨u, r⟩
      · rfl
      · obtain ⟨_, _, he, _⟩ := hsee 0 u rfl
        simp at he
    subst hm
    simp at hl
    subst hl
    obtain rfl := hA.out rfl
    exact wpList_append_own_none hgd s x t ho base e i 1 ht hi v n xs hs hown hx (h v w (by simpa using hown) (World.grownBy.refl w _))
  · refine wpList_append_own w hgd s x t ho base e i z 1 bytes ht hi hz hsize hby hzs (by decide) v n xs hs hown ad m c news hx (by omega) (fun j u hu => ?_) h1 h63 hbytes hbase (fun v' w' h2 h3 _ => h v' w' h2 h3)
    rcases Nat.lt_or_ge 0 news.length with hp | hp
    · obtain ⟨ad', he, hc⟩ := hsee.src hp
      injection he with he
      subst he
      exact hc j u hu
    · have : news = [] := List.eq_nil_of_length_eq_zero (by omega)
      subst this
      simp at hu

/-- A row made with room for more, and filled from its head on. -/
theorem own_filled {w : World} {base g n L : Nat} {e : TypeId} {z : Value} {cs : List Value} (hn : cs.length = n) (hg : w.heap[g]? = some (.cells (splice (List.replicate (n + L) z) 0 cs).toArray e (0, 0))) (hb : base ≤ g) (hm : n + L ≤ maxLen) :
    w.ownsRow base e 1 (.slice (some ⟨g, 0, none⟩) n (n + L)) n cs := by
  subst hn
  refine ⟨by simp, .inr ⟨g, cs.length + L, _, rfl, hb, hg, by omega, hm, ?_, ?_⟩⟩
  · simp [splice]
  · simp [splice]

theorem madeCells_list (z : Value) (k : Nat) : madeCells #[z] k = (List.replicate k z).toArray := by
  rw [← toList_madeCells_one z k]
end Go.Proofs.YtlcmcmocjbeocaaGreatDoor
end

section
/-
  Plain mathematics of base 128: 'digs v' are the bytes of the varint of v; 'lenv v' is their number; no program is named here.
-/
namespace Go.Proofs.YtlcmcmocjbeocaaGreatDoor

/-- The bytes of the varint of v. -/
def digs (v : Nat) : List Nat := if h : v < 128 then [v] else (v % 128 + 128) :: digs (v / 128)
termination_by v
decreasing_by omega

theorem digs_small {v : Nat} (h : v < 128) : digs v = [v] := by rw [digs]; simp [h]
theorem digs_great {v : Nat} (h : 128 ≤ v) : digs v = (v % 128 + 128) :: digs (v / 128) := by rw [digs]; simp [Nat.not_lt.2 h]

/-- Their number. -/
def lenv (v : Nat) : Nat := (digs v).length
theorem lenv_small {v : Nat} (h : v < 128) : lenv v = 1 := by simp [lenv, digs_small h]
theorem lenv_great {v : Nat} (h : 128 ≤ v) : lenv v = lenv (v / 128) + 1 := by simp [lenv, digs_great h]

theorem lenv_pos (v : Nat) : 1 ≤ lenv v := by
  rcases Nat.lt_or_ge v 128 with h | h
  · rw [lenv_small h]; omega
  · rw [lenv_great h]; omega

/-- The number of digits, by powers. -/
theorem lenv_eq (n : Nat) : ∀ v : Nat, (n = 0 ∨ 2 ^ (7 * n) ≤ v) → v < 2 ^ (7 * n + 7) → lenv v = n + 1 := by
  induction n with
  | zero => intro v _ h; exact lenv_small (by simpa using h)
  | succ n ih =>
    intro v h0 h1
    have e1 : 2 ^ (7 * (n + 1)) = 2 ^ (7 * n) * 128 := by rw [show 7 * (n + 1) = 7 * n + 7 by omega, Nat.pow_add]
    have e2 : 2 ^ (7 * (n + 1) + 7) = 2 ^ (7 * n + 7) * 128 := by rw [show 7 * (n + 1) + 7 = (7 * n + 7) + 7 by omega, Nat.pow_add]
    have hp : 1 ≤ 2 ^ (7 * n) := Nat.one_le_two_pow
    rcases h0 with h0 | h0
    · omega
    rw [e1] at h0
    rw [e2] at h1
    have hv : 128 ≤ v := by omega
    rw [lenv_great hv, ih (v / 128) ?_ ?_]
    · right; omega
    · omega

theorem lenv_le (v : Nat) (h : v < 18446744073709551616) : lenv v ≤ 10 := by
  have hs : ∀ n v : Nat, v < 2 ^ (7 * n + 7) → lenv v ≤ n + 1 := by
    intro n
    induction n with
    | zero => intro v h; rw [lenv_small (by simpa using h)]; omega
    | succ n ih =>
      intro v h
      rcases Nat.lt_or_ge v 128 with h1 | h1
      · rw [lenv_small h1]; omega
      · rw [lenv_great h1]
        have := ih (v / 128) (by
          have e2 : 2 ^ (7 * (n + 1) + 7) = 2 ^ (7 * n + 7) * 128 := by rw [show 7 * (n + 1) + 7 = (7 * n + 7) + 7 by omega, Nat.pow_add]
          omega)
        omega
  exact hs 9 v (by have : 2 ^ (7 * 9 + 7) = 1180591620717411303424 := by decide
                   omega)

/-- L is the number of bits of x. -/
def Bits (x L : Nat) : Prop := x < 2 ^ L ∧ (L = 0 ∨ 2 ^ (L - 1) ≤ x)

/-- From the number of bits to the number of digits. -/
theorem lenv_of_bits (v x L : Nat) (hx : x = v ∧ v % 2 = 1 ∨ x = v + 1 ∧ v % 2 = 0) (h : Bits x L) : (L + 7 - 1) / 7 = lenv v := by
  obtain ⟨h1, h2⟩ := h
  have hx1 : 1 ≤ x := by omega
  have hL : 1 ≤ L := by
    rcases Nat.eq_zero_or_pos L with h0 | h0
    · subst h0; simp at h1; omega
    · omega
  obtain h2 : 2 ^ (L - 1) ≤ x := by rcases h2 with h2 | h2 <;> omega
  have hn : L + 7 - 1 = 7 * ((L - 1) / 7) + (L - 1) % 7 + 7 := by omega
  have hq : (L + 7 - 1) / 7 = (L - 1) / 7 + 1 := by omega
  rw [hq]
  symm
  apply lenv_eq
  · rcases Nat.eq_zero_or_pos ((L - 1) / 7) with h0 | h0
    · left; exact h0
    · right
      have hle : 2 ^ (7 * ((L - 1) / 7)) ≤ 2 ^ (L - 1) := Nat.pow_le_pow_right (by omega) (by omega)
      have he : 2 ^ (7 * ((L - 1) / 7)) % 2 = 0 := by
        obtain ⟨k, hk⟩ : ∃ k, 7 * ((L - 1) / 7) = k + 1 := ⟨7 * ((L - 1) / 7) - 1, by omega⟩
        rw [hk, Nat.pow_succ]; omega
      omega
  · have hle : 2 ^ L ≤ 2 ^ (7 * ((L - 1) / 7) + 7) := Nat.pow_le_pow_right (by omega) (by omega)
    omega

/-- The table of the bits of a byte. -/
def bitsOfByte (x : Nat) : Nat := if x = 0 then 0 else if x < 2 then 1 else if x < 4 then 2 else if x < 8 then 3 else if x < 16 then 4 else if x < 32 then 5 else if x < 64 then 6 else if x < 128 then 7 else 8
theorem bits_of_byte (x : Nat) (h : x < 256) : Bits x (bitsOfByte x) := by
  unfold bitsOfByte Bits
  repeat' split
  all_goals (refine ⟨by simp; omega, by simp; try omega⟩)

/-- Bits of a number that was shifted. -/
theorem bits_shift (x s L : Nat) (hL : 1 ≤ L) (h : Bits (x / 2 ^ s) L) : Bits x (s + L) := by
  obtain ⟨h1, h2⟩ := h
  have hp : 0 < 2 ^ s := Nat.two_pow_pos s
  refine ⟨?_, .inr ?_⟩
  · rw [Nat.pow_add, Nat.mul_comm]
    exact (Nat.div_lt_iff_lt_mul hp).1 h1
  · rcases h2 with h2 | h2
    · omega
    · rw [show s + L - 1 = (L - 1) + s by omega, Nat.pow_add]
      exact (Nat.le_div_iff_mul_le hp).1 h2
theorem bits_pos (x L : Nat) (hx : 1 ≤ x) (h : Bits x L) : 1 ≤ L := by
  rcases Nat.eq_zero_or_pos L with h0 | h0
  · subst h0; have := h.1; simp at this; omega
  · omega
end Go.Proofs.YtlcmcmocjbeocaaGreatDoor
end

section
/-
  The contracts of math/bits.Len64, varint.Len and spillframeref01.Len: the number of bits of x, the number of digits in base 128 of v. For every value of uint64.
-/
namespace Go.Proofs.YtlcmcmocjbeocaaGreatDoor
open Go.RowKit

def SomeBits (x : Nat) (w : World) (e : Ending) (w' : World) : Prop := ∃ L : Nat, e = .returned (.int .i64 L) ∧ Bits x L ∧ L ≤ 64 ∧ w = w'

theorem tab_all : ∀ n : Fin 256, (Lib.len8tab[n.val]'(by rw [Lib.len8tab_size]; exact n.isLt)).toNat = bitsOfByte n.val := by decide +kernel

/-- The table's byte at y = x / 2^s, added to s, is the number of bits of x. -/
theorem close_bits (x y t : Int) (s : Nat) (w : World) (h0 : 0 ≤ y) (h1 : y < 256) (hb : y.toNat < Lib.len8tab.size) (hy : y.toNat = x.toNat / 2 ^ s) (hs : s = 0 ∨ 1 ≤ y) (hs2 : s ≤ 56)
    (ht : t = wrap64 (s + wrap64 (Lib.len8tab[y.toNat].toNat : Int))) : SomeBits x.toNat w (.returned (.int .i64 t)) w := by
  have h := tab_all ⟨y.toNat, by omega⟩
  simp only at h
  rw [h] at ht
  have hB := bits_of_byte y.toNat (by omega)
  have h8 : bitsOfByte y.toNat ≤ 8 := by unfold bitsOfByte; repeat' split
                                         all_goals omega
  refine ⟨s + bitsOfByte y.toNat, ?_, ?_, by omega, rfl⟩
  · rw [ht]
    have e1 : wrap64 (bitsOfByte y.toNat : Int) = bitsOfByte y.toNat := IntWalk.wrap64_in _ ⟨by omega, by omega⟩
    rw [e1, IntWalk.wrap64_in _ ⟨by omega, by omega⟩]
    rfl
  · rcases hs with hs | hs
    · subst hs
      simpa [hy] using hB
    · rw [hy] at hB ⊢
      exact bits_shift _ _ _ (bits_pos _ _ (by omega) hB) hB

set_option maxRecDepth 100000 in
set_option maxHeartbeats 4000000 in
theorem len64_any (x : Int) (w : World) (h0 : 0 ≤ x) (hx : x ≤ 18446744073709551615) : Calls Tryz.prog 171 #[.int .u64 x] w (SomeBits x.toNat w) := by
  have hsz := Lib.len8tab_size
  go_enter Tryz.func171, Tryz.ntmps171
  go_wp2
  all_goals go_ret
  all_goals first
    | exact close_bits x (x / 4294967296 / 65536 / 256) _ 56 w (by omega) (by omega) (by omega) (by omega) (by omega) (by omega) rfl
    | exact close_bits x (x / 4294967296 / 65536) _ 48 w (by omega) (by omega) (by omega) (by omega) (by omega) (by omega) rfl
    | exact close_bits x (x / 4294967296 / 256) _ 40 w (by omega) (by omega) (by omega) (by omega) (by omega) (by omega) rfl
    | exact close_bits x (x / 4294967296) _ 32 w (by omega) (by omega) (by omega) (by omega) (by omega) (by omega) rfl
    | exact close_bits x (x / 65536 / 256) _ 24 w (by omega) (by omega) (by omega) (by omega) (by omega) (by omega) rfl
    | exact close_bits x (x / 65536) _ 16 w (by omega) (by omega) (by omega) (by omega) (by omega) (by omega) rfl
    | exact close_bits x (x / 256) _ 8 w (by omega) (by omega) (by omega) (by omega) (by omega) (by omega) rfl
    | exact close_bits x x _ 0 w (by omega) (by omega) (by omega) (by omega) (by omega) (by omega) (by simp)
    | trace_state
end Go.Proofs.YtlcmcmocjbeocaaGreatDoor
end
