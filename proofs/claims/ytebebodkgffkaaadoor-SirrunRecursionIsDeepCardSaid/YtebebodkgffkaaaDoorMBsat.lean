import Derived.Test.YtebebodkgffkaaaDoorMGc
import Derived.Test.YtebebodkgffkaaaDoorMGd
set_option linter.unusedVariables false
set_option linter.unusedSimpArgs false
section
/-
  Bytes as numbers; bytes at a slice; what a call on a drawn list leaves. No function of the program is named here.
-/
namespace Go.Proofs.YtebebodkgffkaaaDoor
open Go.RowKit

/-- Bytes. -/
def Byt (l : List Int) : Prop := ∀ z ∈ l, 0 ≤ z ∧ z ≤ 255
theorem Byt.nil_ : Byt [] := fun z h => by cases h
theorem Byt.one {z : Int} (h0 : 0 ≤ z) (h1 : z ≤ 255) : Byt [z] := fun y h => by simp at h; subst h; exact ⟨h0, h1⟩
theorem Byt.cons {z : Int} {l : List Int} (h0 : 0 ≤ z) (h1 : z ≤ 255) (h : Byt l) : Byt (z :: l) := fun y hy => by
  rcases List.mem_cons.1 hy with rfl | hy
  · exact ⟨h0, h1⟩
  · exact h y hy
theorem Byt.app {l m : List Int} (h : Byt l) (h' : Byt m) : Byt (l ++ m) := fun z hz => by
  rcases List.mem_append.1 hz with h1 | h1
  · exact h z h1
  · exact h' z h1
theorem Byt.left {l m : List Int} (h : Byt (l ++ m)) : Byt l := fun z hz => h z (List.mem_append_left _ hz)
theorem Byt.right {l m : List Int} (h : Byt (l ++ m)) : Byt m := fun z hz => h z (List.mem_append_right _ hz)
theorem Byt.take {l : List Int} (h : Byt l) (n : Nat) : Byt (l.take n) := fun z hz => h z (List.mem_of_mem_take hz)
theorem Byt.drop {l : List Int} (h : Byt l) (n : Nat) : Byt (l.drop n) := fun z hz => h z (List.mem_of_mem_drop hz)
theorem Byt.flat {α : Type} {f : α → List Int} {l : List α} (h : ∀ a ∈ l, Byt (f a)) : Byt (l.flatMap f) := fun z hz => by
  obtain ⟨a, ha, hz⟩ := List.mem_flatMap.1 hz
  exact h a ha z hz
/-- Bytes at a slice, below block B. -/
structure BsAt (w : World) (B : Nat) (A : Option Addr) (n c : Nat) (zs : List Int) : Prop where
  len : zs.length = n
  nc : n ≤ c
  nil_ : A = none → c = 0
  cm : c ≤ 9223372036854775807
  byt : Byt zs
  see : Sees w B A (cellsU8 zs)
section
variable {w w' : World} {B B' n c : Nat} {A : Option Addr} {zs : List Int}
theorem BsAt.below (h : BsAt w B A n c zs) (hb : Below B w w') : BsAt w' B A n c zs := ⟨h.len, h.nc, h.nil_, h.cm, h.byt, h.see.below hb⟩
theorem BsAt.more (h : BsAt w B A n c zs) (hB : B ≤ B') : BsAt w B' A n c zs := ⟨h.len, h.nc, h.nil_, h.cm, h.byt, h.see.more hB⟩
theorem BsAt.call (h : BsAt w w.heap.size A n c zs) (hb : Below w.heap.size w w') : BsAt w' w'.heap.size A n c zs := (h.below hb).more hb.size
theorem BsAt.keep (h : BsAt w B A n c zs) (hk : ∀ p : Addr, p.block < B → w'.cell? p = w.cell? p) : BsAt w' B A n c zs := ⟨h.len, h.nc, h.nil_, h.cm, h.byt, h.see.keep hk⟩
theorem BsAt.own {base : Nat} {t : TypeId} (h : w.ownsRow base t 1 (.slice A n c) n (cellsU8 zs)) (hz : Byt zs) : BsAt w w.heap.size A n c zs := by
  obtain ⟨A', c', e, hA, hnc, _, hs⟩ := own_seen h
  obtain ⟨A'', c'', e', _, hcm⟩ := own_form h
  injection e with e1 _ e3
  subst e1 e3
  have hc : c ≤ maxLen := by
    rcases h.2 with ⟨he, h0⟩ | ⟨g, cap, cur, he, _, _, _, hm, _⟩
    · injection he with _ _ he; subst he; omega
    · injection he with _ _ he; omega
  exact ⟨by have := own_len h; simpa [cellsU8] using this, hnc, hA, by unfold maxLen at hc; exact hc, hz, hs⟩
/-- The first k bytes. -/
theorem BsAt.take (h : BsAt w B A n c zs) {k : Nat} (hk : k ≤ n) : BsAt w B A k c (zs.take k) := ⟨by rw [List.length_take, h.len]; omega, by have := h.nc; omega, h.nil_, h.cm, h.byt.take k, by have := h.see.take k; rwa [take_cells] at this⟩
end

theorem zero_pg (w : World) (lo B : Nat) : PgAt w lo B none 0 0 [] [] := ⟨rfl, ⟨fun _ => rfl, Nat.le_refl _, Nat.zero_le _⟩, Far.none _, Sees.nil_ _ _ _, ⟨rfl, fun k h f e => by simp at e⟩⟩
theorem below_inner {w w' w'' : World} {D : Nat} (h : Below w.heap.size w w') (hG : w'.grownBy w'' (some D)) (hD : w.heap.size ≤ D) : Below w.heap.size w w'' := h.grown hG h.size fun k hk => by injection hk with hk; omega
end Go.Proofs.YtebebodkgffkaaaDoor
end
