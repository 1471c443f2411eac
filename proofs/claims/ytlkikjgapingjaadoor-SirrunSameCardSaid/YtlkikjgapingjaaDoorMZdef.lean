import Derived.Test.YtlkikjgapingjaaDoorMZcall
set_option linter.unusedVariables false
set_option linter.unusedSimpArgs false
section
/-
  The contract of the machine's defined (chapter 8). Conditions: those of the types.
-/
namespace Go.Proofs.YtlkikjgapingjaaDoor
open Go.RowKit

section
variable {g base : Nat} {vi vt vf vs : Value} {zs : List Zn} {s : Mch}
theorem grown_spare {w w7 : World} {row : Option Nat} {G : Nat} (h : w.grownBy w7 row) (hG : w.heap.size ≤ G) (k : Nat) (u : Value) : w.grownBy (w7.setCell ⟨G, k, none⟩ u) row :=
  ⟨h.os, h.tape, h.output, by rw [World.size_setCell]; exact h.size, fun i hi hne => (Below.heap_setCell w7 ⟨G, k, none⟩ u i (by show i ≠ G; omega)).trans (h.block i hi hne)⟩
/-- A store into a block that was not there before. -/
theorem MRaw.spare {w w7 : World} {vi0 : Value} {s0 : Mch} {G : Nat} (h0 : MRaw w g base vi0 vt vf vs zs s0) (h : MRaw w7 g base vi vt vf vs zs s) (hG : w.heap.size ≤ G) (k : Nat) (u : Value) : MRaw (w7.setCell ⟨G, k, none⟩ u) g base vi vt vf vs zs s := by
  have hg : w7.grownBy (w7.setCell ⟨G, k, none⟩ u) (some G) := put_grown w7 G k u
  have hb := h0.bl
  have hgl := h0.gl
  have own : ∀ v : Value, (∀ j, v.ownBlock = some j → base ≤ j ∧ j < w.heap.size) → v.ownBlock = none ∨ v.ownBlock ≠ some G := fun v hv => by
    cases e : v.ownBlock with
    | none => exact .inl rfl
    | some j => exact .inr (fun e2 => by injection e2 with e2; have := (hv j e).2; omega)
  refine ⟨h.row.grown hg (fun e => by injection e with e; omega), h.gb, h.r8, h.inp.below ((Below.refl _ _).setCell (p := ⟨G, k, none⟩) (by show base ≤ G; omega) _), h.tr.kept hg (own vt h0.tr.lt), h.st.kept hg (own vs h0.st.lt), h.eq, h.asc, h.low, fun z hz => ⟨(h.maps z hz).1.setCell _ ?_ _, (h.maps z hz).2.setCell _ ?_ _⟩⟩
  · have := (h0.maps z hz).1.lt; show z.2.1 ≠ G; omega
  · have := (h0.maps z hz).2.lt; show z.2.2 ≠ G; omega
set_option maxHeartbeats 4000000 in
theorem defined_any (b K : Nat) (m : Cl) (i : Int) (w : World) (hib : -9223372036854775808 ≤ i ∧ i ≤ 9223372036854775807) (hm : Hid (CellsAt w b K m)) (h : Hid (MRaw w g base vi vt vf vs zs s)) :
    Calls Tryd.prog 44 #[.pointer (some ⟨g, 0, none⟩), .map (some b), .int .i64 i] w fun e w' => e = .returned (vv ((m i).getD 0)) ∧ MRaw w' g base vi vt vf vs zs (s.read (m i)) ∧ w.grownBy w' (some g) := by
  have lk : ∀ o : Obj, (Instr.lookup 79 (.map (some b)) (.int .i64 i) true).run Tryd.prog (w.alloc o) = .ok (.tuple #[vv ((m i).getD 0), .bool (m i).isSome]) (w.alloc o) := fun o => (hm.out.below (below1 w o) hm.out.lt).look i hib
  have hg : g < w.heap.size := h.out.gl
  have hgn : ¬ g = w.heap.size := by omega
  have hgm : ¬ g = w.heap.size + 1 := by omega
  cases hmi : m i with
  | none =>
    rw [hmi] at lk
    dsimp only [Option.getD, Option.isSome] at lk
    clear hmi
    go_enter Tryd.func44, Tryd.ntmps44
    obtain ⟨G, hG⟩ : ∃ G, w.heap.size = G := ⟨_, rfl⟩
    obtain ⟨W2, hW2⟩ : ∃ W2, (w.alloc (.cells #[.int .u64 0, .int .u64 0] 33)).alloc (.cells #[.int .u64 (lo 0), .int .u64 (hi 0)] 33) = W2 := ⟨_, rfl⟩
    have H2 := hide (show MRaw W2 g base vi vt vf vs zs s by rw [← hW2]; exact (h.out.alloc _).alloc _)
    have Y0 := hide (show Row W2 G 33 [.int .u64 0, .int .u64 0] by rw [← hW2, ← hG]; exact (Row.new w 33 [.int .u64 0, .int .u64 0]).alloc _)
    have Y1 := hide (show Row W2 (G + 1) 33 [.int .u64 (lo 0), .int .u64 (hi 0)] by rw [← hW2]; have := Row.new (w.alloc (.cells #[.int .u64 0, .int .u64 0] 33)) 33 [.int .u64 (lo 0), .int .u64 (hi 0)]; rw [show (w.alloc (.cells #[.int .u64 0, .int .u64 0] 33)).heap.size = G + 1 by rw [← hG]; simp] at this; exact this)
    have G2 := hide (show w.grownBy W2 (some g) by rw [← hW2]; exact World.grownBy.trans (World.grownBy_alloc w _ _) (World.grownBy_alloc _ _ _))
    have HG := hide hG
    have HW2 := hide hW2
    have hg0 : G ≠ g := by omega
    have hg1 : G + 1 ≠ g := by omega
    clear hG hW2
    go_upto_region 3 with (fail)
    rw [HW2.out, HG.out]
    have ce := cend_any 3 W2 H2
    go_wp2_with fail
    refine ce.mono ?_
    rintro e w7 ⟨rfl, h7, hg7⟩
    have y0 := (Y0.out.grown hg7 (fun e => hg0 (by injection e))).cell (k := 0) rfl
    have y1 := (Y0.out.grown hg7 (fun e => hg0 (by injection e))).cell (k := 1) rfl
    have y2 := (Y0.out.grown hg7 (fun e => hg0 (by injection e))).free 0
    have y3 := (Y0.out.grown hg7 (fun e => hg0 (by injection e))).free 1
    have u0 := (Y1.out.grown hg7 (fun e => hg1 (by injection e))).cell (k := 0) rfl
    have u1 := (Y1.out.grown hg7 (fun e => hg1 (by injection e))).cell (k := 1) rfl
    have G7 := hide (World.grownBy.trans G2.out hg7)
    have H7 := hide h7
    have HY := hide (Y0.out.grown hg7 (fun e => hg0 (by injection e)))
    clear ce hg7 h7
    go_wp2_with fail
    exact bodyPost_ret (v := vv 0) (by simp [results, Tryd.results44, go_sem, y0, y1]) rfl ⟨rfl, h.out.spare (h.out.spare H7.out (Nat.le_of_eq HG.out) 0 _) (Nat.le_of_eq HG.out) 1 _, grown_spare (grown_spare G7.out (Nat.le_of_eq HG.out) 0 _) (Nat.le_of_eq HG.out) 1 _⟩
  | some V =>
    rw [hmi] at lk
    dsimp only [Option.getD, Option.isSome] at lk
    clear hmi
    go_enter Tryd.func44, Tryd.ntmps44
    go_wp2_with fail
    exact bodyPost_ret (v := vv V) (by simp [results, Tryd.results44, go_sem]) rfl ⟨rfl, by unfold Mch.read; rw [if_neg (by simp)]; exact (h.out.alloc _).alloc _, World.grownBy.trans (World.grownBy_alloc w _ _) (World.grownBy_alloc _ _ _)⟩
end
end Go.Proofs.YtlkikjgapingjaaDoor
end
