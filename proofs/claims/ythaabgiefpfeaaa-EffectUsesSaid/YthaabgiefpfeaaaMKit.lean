import Derived.Test.YthaabgiefpfeaaaRows
import Derived.WalkKit
import Derived.ProofKit
import Derived.Deep.Draws
set_option linter.unusedVariables false
set_option linter.unusedSimpArgs false
section
/-
  Words for memory that the walks of this seat use: 'Sees': a slice's address yields these cells, below a given block. No condition; nothing here names the program's functions.
-/
namespace Go.Proofs.Ythaabgiefpfeaaa
open Go.RowKit

/-- At the address A stand the cells xs, one place each, in a block below B. (An empty list asks nothing of A: nil is let in.) -/
def Sees (w : World) (B : Nat) (A : Option Addr) (xs : List Value) : Prop :=
  ∀ (k : Nat) (u : Value), xs[k]? = some u → ∃ b off, A = some ⟨b, off, none⟩ ∧ b < B ∧ w.cell? ⟨b, off + k, none⟩ = some u

section
variable {w w' : World} {B B' : Nat} {A : Option Addr} {xs ys : List Value}

theorem Sees.nil_ (w : World) (B : Nat) (A : Option Addr) : Sees w B A [] := fun k u h => by simp at h

theorem Sees.keep (h : Sees w B A xs) (hk : ∀ p : Addr, p.block < B → w'.cell? p = w.cell? p) : Sees w' B A xs := fun k u hu => by
  obtain ⟨b, off, e, hb, hc⟩ := h k u hu
  exact ⟨b, off, e, hb, (hk _ hb).trans hc⟩

theorem Sees.more (h : Sees w B A xs) (hB : B ≤ B') : Sees w B' A xs := fun k u hu => by
  obtain ⟨b, off, e, hb, hc⟩ := h k u hu
  exact ⟨b, off, e, by omega, hc⟩

theorem Sees.below (h : Sees w B A xs) (hb : Below B w w') : Sees w' B A xs := h.keep fun _ hp => hb.cell hp
theorem Sees.draws (h : Sees w B A xs) (n : Nat) : Sees (w.drewN n) B A xs := h
theorem Sees.draw (h : Sees w B A xs) : Sees w.drew B A xs := h
theorem Sees.undraws {n : Nat} (h : Sees (w.drewN n) B A xs) : Sees w B A xs := h
theorem Sees.alloc (h : Sees w B A xs) (hB : B ≤ w.heap.size) (o : Obj) : Sees (w.alloc o) B A xs := h.keep fun p hp => World.cell?_alloc_lt w o p (by omega)

/-- A list that begins as this one does. -/
theorem Sees.part (h : Sees w B A xs) (hp : ∀ (k : Nat) (u : Value), ys[k]? = some u → xs[k]? = some u) : Sees w B A ys := fun k u hu => h k u (hp k u hu)
theorem Sees.take (h : Sees w B A xs) (n : Nat) : Sees w B A (xs.take n) := h.part fun k u hu => by
  rw [List.getElem?_take] at hu
  split at hu <;> simp_all
theorem Sees.left (h : Sees w B A (xs ++ ys)) : Sees w B A xs := h.part fun k u hu => by
  have hk : k < xs.length := by
    rcases Nat.lt_or_ge k xs.length with h1 | h1
    · exact h1
    · rw [List.getElem?_eq_none h1] at hu; simp at hu
  rw [List.getElem?_append_left hk]; exact hu

/-- From place k on: 's[k:]' with a place left behind it. -/
theorem Sees.drop (h : Sees w B A xs) (k : Nat) : Sees w B (A.map (·.add k)) (xs.drop k) := fun j u hu => by
  rw [List.getElem?_drop] at hu
  obtain ⟨b, off, e, hb, hc⟩ := h _ u hu
  refine ⟨b, off + k, ?_, hb, ?_⟩
  · subst e
    simp only [Option.map_some, Addr.add]
    split <;> simp_all
  · rw [Nat.add_assoc]; exact hc

/-- A row of the call's own. -/
theorem Sees.own {base : Nat} {e : TypeId} {n c : Nat} (h : w.ownsRow base e 1 (.slice A n c) n xs) : Sees w w.heap.size A xs := fun k u hu => by
  have hl := h.1
  have hk : k < xs.length := by
    rcases Nat.lt_or_ge k xs.length with h1 | h1
    · exact h1
    · rw [List.getElem?_eq_none h1] at hu; simp at hu
  rcases h.2 with ⟨he, h0⟩ | ⟨g, cap, cur, he, hg, hh, _⟩
  · omega
  · have hA : A = some ⟨g, 0, none⟩ := by injection he
    subst hA
    have hlt : g < w.heap.size := by
      rcases Nat.lt_or_ge g w.heap.size with h1 | h1
      · exact h1
      · rw [Array.getElem?_eq_none h1] at hh; simp at hh
    refine ⟨g, 0, rfl, hlt, ?_⟩
    have := h.cells (g := g) rfl k u hu
    rw [Nat.zero_add]
    simpa [Addr.add] using (by
      have e2 : (⟨g, 0, none⟩ : Addr).add k = ⟨g, k, none⟩ := by
        unfold Addr.add
        split <;> simp_all
      rw [← e2]; exact this)
end

/-- Bytes as cells. -/
def cellsU8 (zs : List Int) : List Value := zs.map (Value.int .u8)

theorem get_u8 {zs : List Int} {k : Nat} (h : k < zs.length) : (cellsU8 zs)[k]? = some (.int .u8 (zs.getD k 0)) := by
  simp [cellsU8, List.getElem?_map, List.getElem?_eq_getElem h, List.getD_eq_getElem?_getD]

/-- The byte at place k, and where it stands. -/
theorem byte_at {w : World} {B : Nat} {A : Option Addr} {zs : List Int} {k : Nat} (h : Sees w B A (cellsU8 zs)) (hk : k < zs.length) (hz : ∀ z ∈ zs, 0 ≤ z ∧ z ≤ 255) :
    ∃ b off z, A = some ⟨b, off, none⟩ ∧ b < B ∧ w.cell? ⟨b, off + k, none⟩ = some (.int .u8 z) ∧ 0 ≤ z ∧ z ≤ 255 ∧ Hid (zs[k]? = some z) := by
  obtain ⟨b, off, e, hb, hc⟩ := h k (.int .u8 zs[k]) (by simp [cellsU8, List.getElem?_map, List.getElem?_eq_getElem hk])
  have hz' := hz zs[k] (List.getElem_mem hk)
  exact ⟨b, off, zs[k], e, hb, hc, hz'.1, hz'.2, List.getElem?_eq_getElem hk⟩
theorem take_more {zs : List Int} {k : Nat} {z : Int} (h : zs[k]? = some z) : zs.take (k + 1) = zs.take k ++ [z] := by
  rw [List.take_add_one, h]; rfl

/-- A fact kept from the walk. -/
theorem hide {p : Prop} (h : p) : Hid p := h

theorem ret_int {k : IntKind} {a b : Int} (h : a = b) : Ending.returned (.int k a) = .returned (.int k b) := by rw [h]
end Go.Proofs.Ythaabgiefpfeaaa
end
