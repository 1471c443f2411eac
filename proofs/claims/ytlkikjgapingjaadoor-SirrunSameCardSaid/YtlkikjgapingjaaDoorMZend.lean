import Derived.Test.YtlkikjgapingjaaDoorMZmac
import Derived.Test.YtlkikjgapingjaaDoorMGa
import Derived.RegionTactic
import Derived.BigRegion
import Derived.Deep.DeepCutAuto
set_option linter.unusedVariables false
set_option linter.unusedSimpArgs false
section
/-
  The contracts of the machine's small methods (chapter 8): end, last, read, defined. Conditions: those of the types.
-/
namespace Go.Proofs.YtlkikjgapingjaaDoor
open Go.RowKit

section
variable {g base : Nat} {vi vt vf vs : Value} {zs : List Zn} {s : Mch}
/-- The machine as a call leaves it. -/
def MPost (g base : Nat) (vf : Value) (s : Mch) (w : World) (e : Ending) (w' : World) : Prop :=
  e = .returned (.tuple #[]) ∧ (∃ vi vt vs zs, MRaw w' g base vi vt vf vs zs s) ∧ Below base w w'
theorem cend_any (k : Int) (w : World) (h : Hid (MRaw w g base vi vt vf vs zs s)) :
    Calls Tryd.prog 28 #[.pointer (some ⟨g, 0, none⟩), .int .i64 k] w fun e w' => e = .returned (.tuple #[]) ∧ MRaw w' g base vi vt vf vs zs (s.stop k) ∧ w.grownBy w' (some g) := by
  have c0 := h.out.far 1 rfl
  have c1 := h.out.far 7 rfl
  have z0 := h.out.row.free 17
  have z1 := h.out.row.free 23
  go_enter Tryd.func28, Tryd.ntmps28
  go_wp2_with fail
  go_end0
  exact ⟨rfl, h.out.stopped k, put_grown2 w g 17 23 _ _⟩
/-- The top of the stack. -/
structure TopAt (w : World) (vs : Value) (zs : List Zn) (G c k : Nat) (z : Zn) (ys : List Zn) : Prop where
  v : vs = .slice (some ⟨G, 0, none⟩) (k + 1) c
  eqz : zs = ys ++ [z]
  len : ys.length = k
  fn : w.cell? ⟨G, k * 4, none⟩ = some (.int .i64 (z.1.f : Int))
  pc : w.cell? ⟨G, k * 4 + 1, none⟩ = some (.int .i64 (z.1.pc : Int))
  sl : w.cell? ⟨G, k * 4 + 2, none⟩ = some (.map (some z.2.1))
  ar : w.cell? ⟨G, k * 4 + 3, none⟩ = some (.map (some z.2.2))
  fr : ∀ j, w.frozen? ⟨G, j, none⟩ = false
  most : k ≤ 1000000
theorem MRaw.topAt {w : World} (h : MRaw w g base vi vt vf vs zs s) (hn : 1 ≤ s.st.length) (hm : s.st.length ≤ 1000000) : ∃ G c k z ys, TopAt w vs zs G c k z ys := by
  have hl := h.len
  obtain ⟨ys, z, rfl⟩ : ∃ ys z, zs = ys ++ [z] := ⟨zs.dropLast, zs.getLast (by intro e; subst e; simp at hl; omega), (List.dropLast_concat_getLast _).symm⟩
  rw [List.length_append, List.length_cons, List.length_nil] at hl
  rcases h.st.2 with ⟨_, h0⟩ | ⟨G, c, cur, rfl, hG, hh, hnc, hm2, hsz, htk⟩
  · omega
  · have hz : (ys ++ [z])[ys.length]? = some z := by simp
    obtain ⟨a0, a1, a2, a3⟩ := acells_at hz
    have hc : ∀ j u, (acells (ys ++ [z]))[j]? = some u → w.cell? ⟨G, j, none⟩ = some u := fun j u hj => by
      have := h.st.cells (g := G) rfl j u hj
      rwa [show (⟨G, 0, none⟩ : Addr).add j = ⟨G, j, none⟩ by unfold Addr.add; split <;> simp_all] at this
    exact ⟨G, c, ys.length, z, ys, by rw [hl], rfl, rfl, hc _ _ a0, hc _ _ a1, hc _ _ a2, hc _ _ a3, fun j => by simp [World.frozen?, hh], by omega⟩
set_option maxHeartbeats 1000000 in
theorem last_any (w : World) (h : Hid (MRaw w g base vi vt vf vs zs s)) {G c k : Nat} {z : Zn} {ys : List Zn} (ht : Hid (TopAt w vs zs G c k z ys)) :
    Calls Tryd.prog 34 #[.pointer (some ⟨g, 0, none⟩)] w fun e w' => e = .returned (.pointer (some ⟨G, k * 4, none⟩)) ∧ ∃ q, w' = w.drewN q := by
  have c0 := h.out.far 9 rfl
  rw [ht.out.v] at c0
  have hk := ht.out.most
  go_enter Tryd.func34, Tryd.ntmps34
  go_wp2_with fail
  go_quiet (fail)
  go_wp2_with fail
  go_ret
  exact ⟨rfl, _, rfl⟩
end
end Go.Proofs.YtlkikjgapingjaaDoor
end
