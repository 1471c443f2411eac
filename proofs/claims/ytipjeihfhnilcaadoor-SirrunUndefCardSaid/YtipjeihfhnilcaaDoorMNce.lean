import Derived.Test.YtipjeihfhnilcaaDoorMNcd
import Derived.Test.YtipjeihfhnilcaaDoorMNco
import Derived.RegionTactic
import Derived.BigRegion
import Derived.Deep.DeepCutAuto
set_option linter.unusedVariables false
set_option linter.unusedSimpArgs false
section
/-
  The contract of the core's Execute, whatever the operation. Conditions: those of the types.
-/
namespace Go.Proofs.YtipjeihfhnilcaaDoor
open Go.RowKit

def ivI (x : Ins) : Value := iv x.op x.a x.b x.c x.imm
section
variable {g base fu : Nat} {T : TypeId} {vi vt : Value} {rest : List Value} {c : Co}
theorem exec_any (x : Ins) (w : World) (hop : (0 ≤ x.op ∧ x.op ≤ 14) ∨ x.op = 20 ∨ x.op = 21 ∨ x.op = 24) (hm : 0 ≤ x.imm ∧ x.imm ≤ 18446744073709551615) (hs : SmallC c) (ht : c.trace.length ≤ 1000000) (h : Hid (CoAt w g base T fu vi vt rest c)) :
    Calls Tryd.prog 42 #[.pointer (some ⟨g, 0, none⟩), ivI x] w fun e w' => e = .returned (.tuple #[]) ∧ (∃ vi' vt', CoAt w' g base T fu vi' vt' rest (c.execC x) ∧ CKp w w' g base) := by
  have hj : ∀ {f : FuncId} {args : Array Value} {c' : Co}, (Calls Tryd.prog f args w fun e w' => e = .returned (.tuple #[]) ∧ CoAt w' g base T fu vi vt rest c' ∧ JKp w w' g vt vt) → Calls Tryd.prog f args w fun e w' => e = .returned (.tuple #[]) ∧ (∃ vi' vt', CoAt w' g base T fu vi' vt' rest c' ∧ CKp w w' g base) :=
    fun hc => hc.mono fun e w' ⟨q1, q2, q3⟩ => ⟨q1, _, _, q2, q3.weak h.out.tr⟩
  obtain ⟨op, a, b, d, m⟩ := x
  dsimp only at *
  unfold ivI Co.execC
  dsimp only
  by_cases h0 : op = 0
  · subst h0; rw [if_pos rfl]; exact hj (exec_0 a b d m w hm h)
  rw [if_neg h0]
  by_cases h1 : op = 1
  · subst h1; rw [if_pos rfl]; exact hj (exec_1 a b d m w h)
  rw [if_neg h1]
  by_cases h11 : op = 11
  · subst h11; rw [if_pos rfl]; exact hj (exec_11 a b d m w h)
  rw [if_neg h11]
  by_cases h12 : op = 12
  · subst h12; rw [if_pos rfl]; exact hj (exec_12 a b d m w h)
  rw [if_neg h12]
  by_cases h13 : op = 13
  · subst h13
    rw [if_pos rfl]
    refine exec_13 a b d m w (hide ?_) h
    cases hi : c.inp with
    | nil => decide
    | cons v r => exact hs.iv v (by rw [hi]; simp)
  rw [if_neg h13]
  by_cases h14 : op = 14
  · subst h14; rw [if_pos rfl]; exact exec_14 a b d m w (hide ht) h
  rw [if_neg h14]
  by_cases h20 : op = 20
  · subst h20; rw [if_pos (.inl rfl)]; exact hj (exec_20 a b d m w h)
  by_cases h21 : op = 21
  · subst h21; rw [if_pos (.inr rfl)]; exact hj (exec_21 a b d m w h)
  rw [if_neg (by omega)]
  by_cases h24 : op = 24
  · subst h24; rw [if_pos rfl]; exact hj (exec_24 a b d m w h)
  rw [if_neg h24]
  exact hj (exec_mid op a b d m w (by omega) (hide (hs.reg b)) (hide (hs.reg d)) h)
end
end Go.Proofs.YtipjeihfhnilcaaDoor
end

section
/-
  The contract of the machine's last (chapter 8); the stack's top in memory. Conditions: those of the types.
-/
namespace Go.Proofs.YtipjeihfhnilcaaDoor
open Go.RowKit

section
variable {g base fu : Nat} {vi vt vf vs : Value} {zs : List Zn} {s : Mch}
/-- The machine as a call leaves it. -/
def MPost (g base fu : Nat) (vf : Value) (s : Mch) (w : World) (e : Ending) (w' : World) : Prop :=
  e = .returned (.tuple #[]) ∧ (∃ vi vt vs zs, MRaw w' g base fu vi vt vf vs zs s) ∧ Below base w w'
theorem reg_nat (s : Mch) (i : Nat) : s.reg (i : Int) = s.regs.getD i 0 := by unfold Mch.reg; rw [Int.toNat_natCast]
/-- The top of the stack. -/
structure TopAt (w : World) (vs : Value) (zs : List Zn) (G c k : Nat) (z : Zn) (ys : List Zn) : Prop where
  v : vs = .slice (some ⟨G, 0, none⟩) (k + 1) c
  eqz : zs = ys ++ [z]
  len : ys.length = k
  fn : w.cell? ⟨G, k * 4, none⟩ = some (.int .i64 (z.1.f : Int))
  pc : w.cell? ⟨G, k * 4 + 1, none⟩ = some (.int .i64 (z.1.pc : Int))
  sl : w.cell? ⟨G, k * 4 + 2, none⟩ = some (.map (some z.2.1))
  ar : w.cell? ⟨G, k * 4 + 3, none⟩ = some (.map (some z.2.2))
  fr : ∀ j, w.frozen? ⟨G, j, none⟩ = false
  most : k ≤ 1000000
theorem MRaw.topAt {w : World} (h : MRaw w g base fu vi vt vf vs zs s) (hn : 1 ≤ s.st.length) (hm : s.st.length ≤ 1000000) : ∃ G c k z ys, TopAt w vs zs G c k z ys := by
  have hl := h.len
  obtain ⟨ys, z, rfl⟩ : ∃ ys z, zs = ys ++ [z] := ⟨zs.dropLast, zs.getLast (by intro e; subst e; simp at hl; omega), (List.dropLast_concat_getLast _).symm⟩
  rw [List.length_append, List.length_cons, List.length_nil] at hl
  rcases h.st.2 with ⟨_, h0⟩ | ⟨G, c, cur, rfl, hG, hh, hnc, hm2, hsz, htk⟩
  · omega
  · have hz : (ys ++ [z])[ys.length]? = some z := by simp
    obtain ⟨a0, a1, a2, a3⟩ := acells_at hz
    have hc : ∀ j u, (acells (ys ++ [z]))[j]? = some u → w.cell? ⟨G, j, none⟩ = some u := fun j u hj => by
      have := h.st.cells (g := G) rfl j u hj
      rwa [show (⟨G, 0, none⟩ : Addr).add j = ⟨G, j, none⟩ by unfold Addr.add; split <;> simp_all] at this
    exact ⟨G, c, ys.length, z, ys, by rw [hl], rfl, rfl, hc _ _ a0, hc _ _ a1, hc _ _ a2, hc _ _ a3, fun j => by simp [World.frozen?, hh], by omega⟩
theorem TopAt.drewN {w : World} {G c k : Nat} {z : Zn} {ys : List Zn} (h : TopAt w vs zs G c k z ys) (n : Nat) : TopAt (w.drewN n) vs zs G c k z ys := ⟨h.v, h.eqz, h.len, h.fn, h.pc, h.sl, h.ar, h.fr, h.most⟩
theorem topOf {w : World} {G c k : Nat} {z : Zn} {ys : List Zn} (h : MRaw w g base fu vi vt vf (.slice (some ⟨G, 0, none⟩) (k + 1) c) (ys ++ [z]) s) (hk : ys.length = k) (hm : k ≤ 1000000) : TopAt w (.slice (some ⟨G, 0, none⟩) (k + 1) c) (ys ++ [z]) G c k z ys := by
  have hz : (ys ++ [z])[ys.length]? = some z := by simp
  obtain ⟨a0, a1, a2, a3⟩ := acells_at hz
  rw [hk] at a0 a1 a2 a3
  have hc : ∀ j u, (acells (ys ++ [z]))[j]? = some u → w.cell? ⟨G, j, none⟩ = some u := fun j u hj => by
    have := h.st.cells (g := G) rfl j u hj
    rwa [show (⟨G, 0, none⟩ : Addr).add j = ⟨G, j, none⟩ by unfold Addr.add; split <;> simp_all] at this
  refine ⟨rfl, rfl, hk, hc _ _ a0, hc _ _ a1, hc _ _ a2, hc _ _ a3, fun j => ?_, hm⟩
  rcases h.st.2 with ⟨e1, _⟩ | ⟨G', cap, cur, hv, _, hh, _⟩
  · cases e1
  · injection hv with hv
    injection hv with hv
    injection hv with hv
    subst hv
    simp [World.frozen?, hh]
theorem topBlk {w : World} {G c k : Nat} {zs : List Zn} (h : MRaw w g base fu vi vt vf (.slice (some ⟨G, 0, none⟩) (k + 1) c) zs s) : base ≤ G ∧ G < w.heap.size ∧ G ≠ g := by
  have hl := h.st.lt G rfl
  refine ⟨hl.1, hl.2, fun e => ?_⟩
  rcases own_offT h.st h.row (by decide) with h1 | h1
  · cases h1
  · exact h1 (by rw [← e]; rfl)
set_option maxHeartbeats 1000000 in
theorem last_any (w : World) (h : Hid (MRaw w g base fu vi vt vf vs zs s)) {G c k : Nat} {z : Zn} {ys : List Zn} (ht : Hid (TopAt w vs zs G c k z ys)) :
    Calls Tryd.prog 38 #[.pointer (some ⟨g, 0, none⟩)] w fun e w' => e = .returned (.pointer (some ⟨G, k * 4, none⟩)) ∧ ∃ q, w' = w.drewN q := by
  have c0 := h.out.far 1 rfl
  rw [ht.out.v] at c0
  have hk := ht.out.most
  go_enter Tryd.func38, Tryd.ntmps38
  go_wp2_with fail
  go_quiet (fail)
  go_wp2_with fail
  go_ret
  exact ⟨rfl, _, rfl⟩
end
end Go.Proofs.YtipjeihfhnilcaaDoor
end

section
/-
  The contract of the machine's defined (chapter 8). Conditions: those of the types.
-/
namespace Go.Proofs.YtipjeihfhnilcaaDoor
open Go.RowKit

section
variable {g base fu : Nat} {vi vt vf vs : Value} {zs : List Zn} {s : Mch}
theorem CKp.spare {w w7 : World} {G : Nat} (h : CKp w w7 g base) (hG : w.heap.size ≤ G) (k : Nat) (u : Value) : CKp w (w7.setCell ⟨G, k, none⟩ u) g base :=
  ⟨h.os, h.tape, h.output, by rw [World.size_setCell]; exact h.size, fun i hi h1 h2 => (Below.heap_setCell w7 ⟨G, k, none⟩ u i (by show i ≠ G; omega)).trans (h.blk i hi h1 h2)⟩
/-- A store into a block that was not there before. -/
theorem MRaw.spare {w w7 : World} {vi0 : Value} {s0 : Mch} {G : Nat} (h0 : MRaw w g base fu vi0 vt vf vs zs s0) (h : MRaw w7 g base fu vi vt vf vs zs s) (hG : w.heap.size ≤ G) (k : Nat) (u : Value) : MRaw (w7.setCell ⟨G, k, none⟩ u) g base fu vi vt vf vs zs s := by
  have hg : w7.grownBy (w7.setCell ⟨G, k, none⟩ u) (some G) := put_grown w7 G k u
  have hb := h0.bl
  have hgl := h0.gl
  have own : ∀ v : Value, (∀ j, v.ownBlock = some j → base ≤ j ∧ j < w.heap.size) → v.ownBlock = none ∨ v.ownBlock ≠ some G := fun v hv => by
    cases e : v.ownBlock with
    | none => exact .inl rfl
    | some j => exact .inr (fun e2 => by injection e2 with e2; have := (hv j e).2; omega)
  refine ⟨⟨h.row.grown hg (fun e => by injection e with e; omega), h.gb, h.core.nt, h.r8, h.core.inp.below ((Below.refl _ _).setCell (p := ⟨G, k, none⟩) (by show base ≤ G; omega) _), h.core.tr.kept hg (own vt h0.core.tr.lt)⟩, h.st.kept hg (own vs h0.st.lt), h.eq, h.asc, h.low, fun z hz => ⟨(h.maps z hz).1.setCell _ ?_ _, (h.maps z hz).2.setCell _ ?_ _⟩⟩
  · have := (h0.maps z hz).1.lt; show z.2.1 ≠ G; omega
  · have := (h0.maps z hz).2.lt; show z.2.2 ≠ G; omega
set_option maxHeartbeats 4000000 in
theorem defined_any (b K : Nat) (m : Cl) (i : Int) (w : World) (hib : -9223372036854775808 ≤ i ∧ i ≤ 9223372036854775807) (hm : Hid (CellsAt w b K m)) (h : Hid (MRaw w g base fu vi vt vf vs zs s)) :
    Calls Tryd.prog 51 #[.pointer (some ⟨g, 0, none⟩), .map (some b), .int .i64 i] w fun e w' => e = .returned (vv ((m i).getD 0)) ∧ MRaw w' g base fu vi vt vf vs zs (s.read (m i)) ∧ CKp w w' g base := by
  have lk : ∀ o : Obj, (Instr.lookup 86 (.map (some b)) (.int .i64 i) true).run Tryd.prog (w.alloc o) = .ok (.tuple #[vv ((m i).getD 0), .bool (m i).isSome]) (w.alloc o) := fun o => (hm.out.below (below1 w o) hm.out.lt).look i hib
  have hg : g < w.heap.size := h.out.gl
  have hgn : ¬ g = w.heap.size := by omega
  have hgm : ¬ g = w.heap.size + 1 := by omega
  cases hmi : m i with
  | none =>
    rw [hmi] at lk
    dsimp only [Option.getD, Option.isSome] at lk
    clear hmi
    go_enter Tryd.func51, Tryd.ntmps51
    obtain ⟨G, hG⟩ : ∃ G, w.heap.size = G := ⟨_, rfl⟩
    obtain ⟨W2, hW2⟩ : ∃ W2, (w.alloc (.cells #[.int .u64 0, .int .u64 0] 33)).alloc (.cells #[.int .u64 (lo 0), .int .u64 (hi 0)] 33) = W2 := ⟨_, rfl⟩
    have H2 := hide (show MRaw W2 g base fu vi vt vf vs zs s by rw [← hW2]; exact (h.out.alloc _).alloc _)
    have Y0 := hide (show Row W2 G 33 [.int .u64 0, .int .u64 0] by rw [← hW2, ← hG]; exact (Row.new w 33 [.int .u64 0, .int .u64 0]).alloc _)
    have Y1 := hide (show Row W2 (G + 1) 33 [.int .u64 (lo 0), .int .u64 (hi 0)] by rw [← hW2]; have := Row.new (w.alloc (.cells #[.int .u64 0, .int .u64 0] 33)) 33 [.int .u64 (lo 0), .int .u64 (hi 0)]; rw [show (w.alloc (.cells #[.int .u64 0, .int .u64 0] 33)).heap.size = G + 1 by rw [← hG]; simp] at this; exact this)
    have G2 := hide (show CKp w W2 g base by rw [← hW2]; exact CKp.of_below (below2 _ _ _) g base)
    have HG := hide hG
    have HW2 := hide hW2
    have hg0 : G ≠ g := by omega
    have hg1 : G + 1 ≠ g := by omega
    have hgv : ¬ vt.ownBlock = some G := fun e => by have := (h.out.core.tr.lt _ e).2; omega
    have hgv2 : ¬ vt.ownBlock = some (G + 1) := fun e => by have := (h.out.core.tr.lt _ e).2; omega
    clear hG hW2
    go_upto_region 3 with (fail)
    rw [HW2.out, HG.out]
    have ce := coEnd_any 3 W2 (hide H2.out.core)
    go_wp2_with fail
    refine ce.mono ?_
    rintro e w7 ⟨rfl, h7, k7⟩
    have hk7 := k7.weak (base := base) H2.out.core.tr
    have hY0 : Row w7 G 33 [.int .u64 0, .int .u64 0] := (k7.blk G Y0.out.lt hg0 hgv).trans Y0.out
    have hY1 : Row w7 (G + 1) 33 [.int .u64 (lo 0), .int .u64 (hi 0)] := (k7.blk (G + 1) Y1.out.lt hg1 hgv2).trans Y1.out
    have y0 := hY0.cell (k := 0) rfl
    have y1 := hY0.cell (k := 1) rfl
    have y2 := hY0.free 0
    have y3 := hY0.free 1
    have u0 := hY1.cell (k := 0) rfl
    have u1 := hY1.cell (k := 1) rfl
    have G7 := hide (G2.out.trans hk7)
    have H7 := hide (H2.out.cored h7 hk7 (Nat.le_refl _))
    have HY := hide hY0
    clear ce k7 hk7 h7 hY0 hY1
    go_wp2_with fail
    exact bodyPost_ret (v := vv 0) (by simp [results, Tryd.results51, go_sem, y0, y1]) rfl ⟨rfl, h.out.spare (h.out.spare H7.out (Nat.le_of_eq HG.out) 0 _) (Nat.le_of_eq HG.out) 1 _, (G7.out.spare (Nat.le_of_eq HG.out) 0 _).spare (Nat.le_of_eq HG.out) 1 _⟩
  | some V =>
    rw [hmi] at lk
    dsimp only [Option.getD, Option.isSome] at lk
    clear hmi
    go_enter Tryd.func51, Tryd.ntmps51
    go_wp2_with fail
    exact bodyPost_ret (v := vv V) (by simp [results, Tryd.results51, go_sem]) rfl ⟨rfl, by unfold Mch.read; rw [if_neg (by simp)]; exact (h.out.alloc _).alloc _, CKp.of_below (below2 _ _ _) g base⟩
end
end Go.Proofs.YtipjeihfhnilcaaDoor
end
