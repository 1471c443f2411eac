import Derived.Test.YtlkcjjalkdlicaaDoorMZapp
set_option linter.unusedVariables false
set_option linter.unusedSimpArgs false
section
/-
  The contract of the machine's compute (chapter 8), whatever the operation. Conditions: those of the types.
-/
namespace Go.Proofs.YtlkcjjalkdlicaaDoor
open Go.RowKit

/-- Values and numbers of the types; few of them. -/
structure SmallM (s : Mch) : Prop where
  rv : ∀ V ∈ s.regs, V < two128
  iv : ∀ v ∈ s.inp, v < 18446744073709551616
  tl : s.trace.length ≤ 1000000
section
variable {g base : Nat} {vi vt vf vs : Value} {zs : List Zn} {s : Mch}
theorem SmallM.reg {s : Mch} (h : SmallM s) (i : Nat) : s.regs.getD i 0 < two128 := by
  rw [List.getD_eq_getElem?_getD]
  cases e : s.regs[i]? with
  | none => decide
  | some V => exact h.rv V (List.mem_of_getElem? e)
set_option maxHeartbeats 4000000 in
theorem compute_rest (op : Int) (a b c V U : Nat) (imm : Int) (w : World) (ha : a < 8) (hb : b < 8) (hc : c < 8) (hop : 2 ≤ op ∧ op ≤ 10) (hV : Hid (s.regs.getD b 0 = V)) (hU : Hid (s.regs.getD c 0 = U)) (hV2 : Hid (V < two128)) (hU2 : Hid (U < two128)) (h : Hid (MRaw w g base vi vt vf vs zs s)) :
    Calls Tryd.prog 83 #[.pointer (some ⟨g, 0, none⟩), iv op (a : Int) (b : Int) (c : Int) imm] w fun e w' => e = .returned (.tuple #[]) ∧ MRaw w' g base vi vt vf vs zs (if opOk op U then s.setR (a : Int) (opRes op V U) else s.stop 2) ∧ Below base w w' := by
  have hgl := h.out.gl
  have o0 : (op == 0) = false := by rw [beq_eq_false_iff_ne]; omega
  have o1 : (op == 1) = false := by rw [beq_eq_false_iff_ne]; omega
  have o2 : (op == 11) = false := by rw [beq_eq_false_iff_ne]; omega
  have o3 : (op == 12) = false := by rw [beq_eq_false_iff_ne]; omega
  have o4 : (op == 13) = false := by rw [beq_eq_false_iff_ne]; omega
  have o5 : (op == 14) = false := by rw [beq_eq_false_iff_ne]; omega
  clear hop
  obtain ⟨S2, hS2⟩ : ∃ S2, (if opOk op U then s.setR (a : Int) (opRes op V U) else s.stop 2) = S2 := ⟨_, rfl⟩
  have ca := fun W hW => capply_any op a b c V U imm W ha hb hc hV hU hV2 hU2 (vi := vi) (vt := vt) (vf := vf) (vs := vs) (zs := zs) (g := g) (base := base) hW
  rw [hS2] at ca
  rw [hS2]
  clear hS2
  go_enter Tryd.func83, Tryd.ntmps83
  obtain ⟨X, hX⟩ : ∃ X, w.heap.size = X := ⟨_, rfl⟩
  obtain ⟨W1, hW1⟩ : ∃ W1, w.alloc (.cells #[.int .i64 op, .int .i64 (a : Int), .int .i64 (b : Int), .int .i64 (c : Int), .int .u64 imm] 65) = W1 := ⟨_, rfl⟩
  have R1 := hide (show Row W1 X 65 [.int .i64 op, .int .i64 (a : Int), .int .i64 (b : Int), .int .i64 (c : Int), .int .u64 imm] by rw [← hW1, ← hX]; exact Row.new w _ _)
  have H1 := hide (show MRaw W1 g base vi vt vf vs zs s by rw [← hW1]; exact h.out.alloc _)
  have B1 := hide (show Below base w W1 by rw [← hW1]; exact (Below.refl _ _).alloc h.out.bl _)
  have HX := hide hX
  have HW1 := hide hW1
  clear hX hW1
  go_upto_region 1 with (fail)
  rw [HW1.out, HX.out]
  have x0 := R1.out.cell (k := 0) rfl
  have x1 := R1.out.cell (k := 1) rfl
  have x2 := R1.out.cell (k := 2) rfl
  have x3 := R1.out.cell (k := 3) rfl
  have x4 := R1.out.cell (k := 4) rfl
  go_wp2_with fail
  refine (ca W1 H1).mono ?_
  rintro e w5 ⟨rfl, h5, hb5⟩
  have H5 := hide h5
  have B5 := hide (B1.out.trans hb5)
  clear h5 hb5 ca
  go_wp2_with fail
  go_end0
  exact ⟨rfl, H5.out, B5.out⟩
theorem kind_reg {N : Nat} {f : Fn} {n : Int} (h : opndE N f 1 n = 0) : ∃ i : Nat, n = (i : Int) ∧ i < 8 := by
  have h1 := withB_true.1 (opndE_zero.1 h)
  have : cntV N f 1 = 8 := rfl
  exact ⟨n.toNat, by omega, by omega⟩
theorem kind_none {N : Nat} {f : Fn} {n : Int} (h : opndE N f 0 n = 0) : n = 0 := by
  have h1 := withB_true.1 (opndE_zero.1 h)
  have : cntV N f 0 = 1 := rfl
  omega
theorem shp_mid {op : Int} (h : 2 ≤ op ∧ op ≤ 11) : shpOf op = (1, 1, 1, false) := by
  rcases (show op = 2 ∨ op = 3 ∨ op = 4 ∨ op = 5 ∨ op = 6 ∨ op = 7 ∨ op = 8 ∨ op = 9 ∨ op = 10 ∨ op = 11 by omega) with rfl | rfl | rfl | rfl | rfl | rfl | rfl | rfl | rfl | rfl <;> rfl
def ivI (x : Ins) : Value := iv x.op x.a x.b x.c x.imm
theorem compute_any {N : Nat} {f : Fn} (x : Ins) (w : World) (hx : insE N f x = 0) (hop : x.op < 15) (hm : 0 ≤ x.imm ∧ x.imm ≤ 18446744073709551615) (hs : SmallM s) (h : Hid (MRaw w g base vi vt vf vs zs s)) :
    Calls Tryd.prog 83 #[.pointer (some ⟨g, 0, none⟩), ivI x] w fun e w' => e = .returned (.tuple #[]) ∧ (∃ vi' vt', MRaw w' g base vi' vt' vf vs zs (s.computeM x)) ∧ Below base w w' := by
  obtain ⟨ho, e1, e2, e3, e4, _⟩ := insE_zero.1 hx
  obtain ⟨op, xa, xb, xc, imm⟩ := x
  dsimp only at *
  unfold ivI
  dsimp only
  by_cases h0 : op = 0
  · subst h0
    obtain ⟨a, rfl, ha⟩ := kind_reg e1
    obtain rfl := kind_none e2
    obtain rfl := kind_none e3
    exact (compute_0 a imm w ha hm h).mono fun e w' ⟨q1, q2, q3⟩ => ⟨q1, ⟨_, _, q2⟩, q3⟩
  by_cases h1 : op = 1
  · subst h1
    obtain ⟨a, rfl, ha⟩ := kind_reg e1
    obtain ⟨b, rfl, hb⟩ := kind_reg e2
    obtain rfl := kind_none e3
    obtain rfl : imm = 0 := e4.resolve_left (by decide)
    exact (compute_1 a b _ w ha hb (hide rfl) h).mono fun e w' ⟨q1, q2, q3⟩ => ⟨q1, ⟨_, _, by rw [← reg_nat] at q2; exact q2⟩, q3⟩
  by_cases h11 : op = 11
  · subst h11
    obtain ⟨a, rfl, ha⟩ := kind_reg e1
    obtain ⟨b, rfl, hb⟩ := kind_reg e2
    obtain ⟨c, rfl, hc⟩ := kind_reg e3
    obtain rfl : imm = 0 := e4.resolve_left (by decide)
    exact (compute_11 a b c _ _ w ha hb (hide rfl) hc (hide rfl) h).mono fun e w' ⟨q1, q2, q3⟩ => ⟨q1, ⟨_, _, by rw [← reg_nat, ← reg_nat] at q2; exact q2⟩, q3⟩
  by_cases h12 : op = 12
  · subst h12
    obtain ⟨a, rfl, ha⟩ := kind_reg e1
    obtain ⟨b, rfl, hb⟩ := kind_reg e2
    obtain rfl := kind_none e3
    obtain rfl : imm = 0 := e4.resolve_left (by decide)
    exact (compute_12 a b _ w ha hb (hide rfl) h).mono fun e w' ⟨q1, q2, q3⟩ => ⟨q1, ⟨_, _, by rw [← reg_nat] at q2; exact q2⟩, q3⟩
  by_cases h13 : op = 13
  · subst h13
    obtain ⟨a, rfl, ha⟩ := kind_reg e1
    obtain rfl := kind_none e2
    obtain rfl := kind_none e3
    obtain rfl : imm = 0 := e4.resolve_left (by decide)
    have hh : s.inp.headD 0 < 18446744073709551616 := by
      cases hi : s.inp with
      | nil => decide
      | cons v r => exact hs.iv v (by rw [hi]; simp)
    exact (compute_13 a _ w ha (hide rfl) (hide hh) h).mono fun e w' ⟨q1, ⟨_, q2⟩, q3⟩ => ⟨q1, ⟨_, _, q2⟩, q3⟩
  by_cases h14 : op = 14
  · subst h14
    obtain ⟨a, rfl, ha⟩ := kind_reg e1
    obtain rfl := kind_none e2
    obtain rfl := kind_none e3
    obtain rfl : imm = 0 := e4.resolve_left (by decide)
    exact (compute_14 a _ w ha (hide rfl) (hide hs.tl) h).mono fun e w' ⟨q1, ⟨_, q2⟩, q3⟩ => ⟨q1, ⟨_, _, by rw [← reg_nat] at q2; exact q2⟩, q3⟩
  · have hmid : 2 ≤ op ∧ op ≤ 10 := by omega
    rw [shp_mid ⟨hmid.1, by omega⟩] at e1 e2 e3 e4
    obtain ⟨a, rfl, ha⟩ := kind_reg e1
    obtain ⟨b, rfl, hb⟩ := kind_reg e2
    obtain ⟨c, rfl, hc⟩ := kind_reg e3
    refine (compute_rest op a b c _ _ imm w ha hb hc hmid (hide rfl) (hide rfl) (hide (hs.reg b)) (hide (hs.reg c)) h).mono fun e w' ⟨q1, q2, q3⟩ => ⟨q1, ⟨vi, vt, ?_⟩, q3⟩
    rw [← reg_nat, ← reg_nat] at q2
    unfold Mch.computeM Mch.applyM
    rw [if_neg h0, if_neg h1, if_neg h11, if_neg h12, if_neg h13, if_neg h14]
    exact q2
end
end Go.Proofs.YtlkcjjalkdlicaaDoor
end

section
/-
  The contract of the machine's defined (chapter 8). Conditions: those of the types.
-/
namespace Go.Proofs.YtlkcjjalkdlicaaDoor
open Go.RowKit

section
variable {g base : Nat} {vi vt vf vs : Value} {zs : List Zn} {s : Mch}
theorem grown_spare {w w7 : World} {row : Option Nat} {G : Nat} (h : w.grownBy w7 row) (hG : w.heap.size ≤ G) (k : Nat) (u : Value) : w.grownBy (w7.setCell ⟨G, k, none⟩ u) row :=
  ⟨h.os, h.tape, h.output, by rw [World.size_setCell]; exact h.size, fun i hi hne => (Below.heap_setCell w7 ⟨G, k, none⟩ u i (by show i ≠ G; omega)).trans (h.block i hi hne)⟩
/-- A store into a block that was not there before. -/
theorem MRaw.spare {w w7 : World} {vi0 : Value} {s0 : Mch} {G : Nat} (h0 : MRaw w g base vi0 vt vf vs zs s0) (h : MRaw w7 g base vi vt vf vs zs s) (hG : w.heap.size ≤ G) (k : Nat) (u : Value) : MRaw (w7.setCell ⟨G, k, none⟩ u) g base vi vt vf vs zs s := by
  have hg : w7.grownBy (w7.setCell ⟨G, k, none⟩ u) (some G) := put_grown w7 G k u
  have hb := h0.bl
  have hgl := h0.gl
  have own : ∀ v : Value, (∀ j, v.ownBlock = some j → base ≤ j ∧ j < w.heap.size) → v.ownBlock = none ∨ v.ownBlock ≠ some G := fun v hv => by
    cases e : v.ownBlock with
    | none => exact .inl rfl
    | some j => exact .inr (fun e2 => by injection e2 with e2; have := (hv j e).2; omega)
  refine ⟨h.row.grown hg (fun e => by injection e with e; omega), h.gb, h.r8, h.inp.below ((Below.refl _ _).setCell (p := ⟨G, k, none⟩) (by show base ≤ G; omega) _), h.tr.kept hg (own vt h0.tr.lt), h.st.kept hg (own vs h0.st.lt), h.eq, h.asc, h.low, fun z hz => ⟨(h.maps z hz).1.setCell _ ?_ _, (h.maps z hz).2.setCell _ ?_ _⟩⟩
  · have := (h0.maps z hz).1.lt; show z.2.1 ≠ G; omega
  · have := (h0.maps z hz).2.lt; show z.2.2 ≠ G; omega
set_option maxHeartbeats 4000000 in
theorem defined_any (b K : Nat) (m : Cl) (i : Int) (w : World) (hib : -9223372036854775808 ≤ i ∧ i ≤ 9223372036854775807) (hm : Hid (CellsAt w b K m)) (h : Hid (MRaw w g base vi vt vf vs zs s)) :
    Calls Tryd.prog 109 #[.pointer (some ⟨g, 0, none⟩), .map (some b), .int .i64 i] w fun e w' => e = .returned (vv ((m i).getD 0)) ∧ MRaw w' g base vi vt vf vs zs (s.read (m i)) ∧ w.grownBy w' (some g) := by
  have lk : ∀ o : Obj, (Instr.lookup 135 (.map (some b)) (.int .i64 i) true).run Tryd.prog (w.alloc o) = .ok (.tuple #[vv ((m i).getD 0), .bool (m i).isSome]) (w.alloc o) := fun o => (hm.out.below (below1 w o) hm.out.lt).look i hib
  have hg : g < w.heap.size := h.out.gl
  have hgn : ¬ g = w.heap.size := by omega
  have hgm : ¬ g = w.heap.size + 1 := by omega
  cases hmi : m i with
  | none =>
    rw [hmi] at lk
    dsimp only [Option.getD, Option.isSome] at lk
    clear hmi
    go_enter Tryd.func109, Tryd.ntmps109
    obtain ⟨G, hG⟩ : ∃ G, w.heap.size = G := ⟨_, rfl⟩
    obtain ⟨W2, hW2⟩ : ∃ W2, (w.alloc (.cells #[.int .u64 0, .int .u64 0] 33)).alloc (.cells #[.int .u64 (lo 0), .int .u64 (hi 0)] 33) = W2 := ⟨_, rfl⟩
    have H2 := hide (show MRaw W2 g base vi vt vf vs zs s by rw [← hW2]; exact (h.out.alloc _).alloc _)
    have Y0 := hide (show Row W2 G 33 [.int .u64 0, .int .u64 0] by rw [← hW2, ← hG]; exact (Row.new w 33 [.int .u64 0, .int .u64 0]).alloc _)
    have Y1 := hide (show Row W2 (G + 1) 33 [.int .u64 (lo 0), .int .u64 (hi 0)] by rw [← hW2]; have := Row.new (w.alloc (.cells #[.int .u64 0, .int .u64 0] 33)) 33 [.int .u64 (lo 0), .int .u64 (hi 0)]; rw [show (w.alloc (.cells #[.int .u64 0, .int .u64 0] 33)).heap.size = G + 1 by rw [← hG]; simp] at this; exact this)
    have G2 := hide (show w.grownBy W2 (some g) by rw [← hW2]; exact World.grownBy.trans (World.grownBy_alloc w _ _) (World.grownBy_alloc _ _ _))
    have HG := hide hG
    have HW2 := hide hW2
    have hg0 : G ≠ g := by omega
    have hg1 : G + 1 ≠ g := by omega
    clear hG hW2
    go_upto_region 3 with (fail)
    rw [HW2.out, HG.out]
    have ce := cend_any 3 W2 H2
    go_wp2_with fail
    refine ce.mono ?_
    rintro e w7 ⟨rfl, h7, hg7⟩
    have y0 := (Y0.out.grown hg7 (fun e => hg0 (by injection e))).cell (k := 0) rfl
    have y1 := (Y0.out.grown hg7 (fun e => hg0 (by injection e))).cell (k := 1) rfl
    have y2 := (Y0.out.grown hg7 (fun e => hg0 (by injection e))).free 0
    have y3 := (Y0.out.grown hg7 (fun e => hg0 (by injection e))).free 1
    have u0 := (Y1.out.grown hg7 (fun e => hg1 (by injection e))).cell (k := 0) rfl
    have u1 := (Y1.out.grown hg7 (fun e => hg1 (by injection e))).cell (k := 1) rfl
    have G7 := hide (World.grownBy.trans G2.out hg7)
    have H7 := hide h7
    have HY := hide (Y0.out.grown hg7 (fun e => hg0 (by injection e)))
    clear ce hg7 h7
    go_wp2_with fail
    exact bodyPost_ret (v := vv 0) (by simp [results, Tryd.results109, go_sem, y0, y1]) rfl ⟨rfl, h.out.spare (h.out.spare H7.out (Nat.le_of_eq HG.out) 0 _) (Nat.le_of_eq HG.out) 1 _, grown_spare (grown_spare G7.out (Nat.le_of_eq HG.out) 0 _) (Nat.le_of_eq HG.out) 1 _⟩
  | some V =>
    rw [hmi] at lk
    dsimp only [Option.getD, Option.isSome] at lk
    clear hmi
    go_enter Tryd.func109, Tryd.ntmps109
    go_wp2_with fail
    exact bodyPost_ret (v := vv V) (by simp [results, Tryd.results109, go_sem]) rfl ⟨rfl, by unfold Mch.read; rw [if_neg (by simp)]; exact (h.out.alloc _).alloc _, World.grownBy.trans (World.grownBy_alloc w _ _) (World.grownBy_alloc _ _ _)⟩
end
end Go.Proofs.YtlkcjjalkdlicaaDoor
end

section
/-
  The contracts of the machine's enter and leave (chapter 8). Conditions: those of the types.
-/
namespace Go.Proofs.YtlkcjjalkdlicaaDoor
open Go.RowKit

theorem Tryd.info137z : (Tryd.prog.info? 137).map (fun i => (i.zero, i.size, i.bytes)) = some (some (.agg #[.int .i64 0, .int .i64 0, .map none, .map none]), 4, 32) := by kernel_rfl
section
variable {g base : Nat} {vi vt vf vs : Value} {zs : List Zn} {s : Mch}
theorem blocksZ_app (l m : List Zn) : blocksZ (l ++ m) = blocksZ l ++ blocksZ m := by simp [blocksZ]
theorem MRaw.block_lt {w : World} (h : MRaw w g base vi vt vf vs zs s) : ∀ b ∈ blocksZ zs, b < w.heap.size := fun b hb => by
  unfold blocksZ at hb
  obtain ⟨z, hz, hb⟩ := List.mem_flatMap.1 hb
  simp only [List.mem_cons, List.not_mem_nil, or_false] at hb
  rcases hb with rfl | rfl
  · exact (h.maps z hz).1.lt
  · exact (h.maps z hz).2.lt
theorem MRaw.st_row {w w7 : World} (h : MRaw w g base vi vt vf vs zs s) (hg : w.grownBy w7 vs.ownBlock) : Row w7 g 79 (mcells s vi vt vf vs) ∧ w7.ownsRow base 33 2 vt s.trace.length (vcells s.trace) ∧ (∀ b K m, CellsAt w b K m → CellsAt w7 b K m) := by
  rcases h.st.2 with ⟨rfl, _⟩ | ⟨k, cap, cur, rfl, _, hh, _⟩
  · refine ⟨h.row.grown hg (fun e => by cases e), h.tr.kept hg ?_, fun b K m hc => hc.kept hg (fun e => by cases e)⟩
    cases hv : vt.ownBlock with
    | none => exact .inl rfl
    | some k => exact .inr (fun e => by cases e)
  · obtain ⟨a1, a2, _, _⟩ := h.off_grown (row := some k) rfl hh hg
    exact ⟨a1 (by decide), a2 (by decide), fun b K m hc => hc.kept hg (fun e => by injection e with e; exact hc.not_row hh e)⟩
/-- An activation more. -/
theorem MRaw.entered {w w3 w7 : World} {v' : Value} {f M1 M2 : Nat} (h : MRaw w g base vi vt vf vs zs s) (hM1 : w.heap.size ≤ M1) (hM2 : M1 < M2) (h3 : MRaw w3 g base vi vt vf vs zs s) (c1 : CellsAt w3 M1 0 noC) (c2 : CellsAt w3 M2 0 noC) (hg : w3.grownBy w7 vs.ownBlock)
    (ho : w7.ownsRow base 137 4 v' (s.st.length + 1) (acells zs ++ acell (⟨f, 0, noC, noC⟩, M1, M2))) :
    MRaw (w7.setCell ⟨g, 25, none⟩ v') g base vi vt vf v' (zs ++ [(⟨f, 0, noC, noC⟩, M1, M2)]) { s with st := s.st ++ [⟨f, 0, noC, noC⟩] } ∧ Below base w3 (w7.setCell ⟨g, 25, none⟩ v') := by
  have hB : Below base w3 w7 := (Below.refl _ _).grown hg h3.bl (fun k hk => (h3.st.lt k hk).1)
  obtain ⟨r1, r2, r3⟩ := h3.st_row hg
  have hg2 : w7.grownBy (w7.setCell ⟨g, 25, none⟩ v') (some g) := put_grown w7 g 25 v'
  have hB2 : Below base w7 (w7.setCell ⟨g, 25, none⟩ v') := (Below.refl _ _).setCell h.gb _
  have far : ∀ b K m, CellsAt w3 b K m → CellsAt (w7.setCell ⟨g, 25, none⟩ v') b K m := fun b K m hc => (r3 b K m hc).setCell ⟨g, 25, none⟩ ((r3 b K m hc).not_row r1) _
  refine ⟨⟨?_, h.gb, h.r8, (h3.inp.below hB).below hB2, r2.kept hg2 (own_off r2 r1 (by decide)), ?_, ?_, ?_, ?_, fun z hz => ?_⟩, hB.trans hB2⟩
  · have := r1.set_ 25 v'
    rwa [mcells_set h.r8 9] at this
  · show World.ownsRow _ base _ 4 v' (s.st ++ [_]).length (acells (zs ++ [_]))
    rw [List.length_append, acells_app]
    exact ho.kept hg2 (own_off ho r1 (by decide))
  · rw [List.map_append, h.eq]; rfl
  · rw [blocksZ_app, List.pairwise_append]
    refine ⟨h.asc, ?_, fun a ha b hb => ?_⟩
    · show [M1, M2].Pairwise (· < ·)
      simp [hM2]
    · have := h.block_lt a ha
      have hb : b = M1 ∨ b = M2 := by simpa [blocksZ] using hb
      rcases hb with rfl | rfl <;> omega
  · intro b hb
    rw [blocksZ_app, List.mem_append] at hb
    rcases hb with hb | hb
    · exact h.low b hb
    · have hb : b = M1 ∨ b = M2 := by simpa [blocksZ] using hb
      have := h.bl
      rcases hb with rfl | rfl <;> omega
  · rcases List.mem_append.1 hz with hz | hz
    · exact ⟨far _ _ _ (h3.maps z hz).1, far _ _ _ (h3.maps z hz).2⟩
    · obtain rfl : z = (⟨f, 0, noC, noC⟩, M1, M2) := by simpa using hz
      exact ⟨(far _ _ _ c1).mono (Nat.zero_le _), (far _ _ _ c2).mono (Nat.zero_le _)⟩
theorem acell_oneCell (z : Zn) : ∀ u ∈ acell z, u.oneCell' = true := by
  intro u hu
  simp [acell] at hu
  rcases hu with rfl | rfl | rfl | rfl <;> rfl
theorem lit_cells (w : World) (o p : Obj) (t : TypeId) (cs : List Value) (j : Nat) (u : Value) (hu : cs[j]? = some u) : (((w.alloc o).alloc p).alloc (.cells cs.toArray t)).cell? ((⟨w.heap.size + 1 + 1, 0, none⟩ : Addr).add j) = some u := by
  rw [show (⟨w.heap.size + 1 + 1, 0, none⟩ : Addr).add j = ⟨w.heap.size + 1 + 1, j, none⟩ by unfold Addr.add; split <;> simp_all]
  have := Row.new ((w.alloc o).alloc p) t cs
  rw [show ((w.alloc o).alloc p).heap.size = w.heap.size + 1 + 1 by simp] at this
  exact this.cell hu
theorem max_cast (a b : Nat) : ((max a b : Nat) : Int) = max (a : Int) (b : Int) := by omega
set_option maxRecDepth 100000 in
set_option maxHeartbeats 4000000 in
theorem enter_any (f : Nat) (w : World) (hf : f ≤ 1000000) (hl : Hid (s.st.length ≤ 1000000)) (hd : Hid (s.depth ≤ 1000000)) (h : Hid (MRaw w g base vi vt vf vs zs s)) :
    Calls Tryd.prog 51 #[.pointer (some ⟨g, 0, none⟩), .int .i64 (f : Int)] w fun e w' => e = .returned (.tuple #[]) ∧ (∃ vs' zs', MRaw w' g base vi vt vf vs' zs' (s.enter f)) ∧ Below base w w' := by
  obtain ⟨i0, ih, hz0, hz1, hz2⟩ := info_parts Tryd.info137z
  have hmm := @run_makeMap Tryd.prog
  have c0 : ∀ o p q : Obj, (((w.alloc o).alloc p).alloc q).cell? ⟨g, 25, none⟩ = some vs := fun o p q => (((h.out.alloc o).alloc p).alloc q).far 9 rfl
  have c1 := h.out.far 9 rfl
  have HM3 := hide (show s.st.length + 1 ≤ maxLen by have := hl.out; unfold maxLen; omega)
  have HM4 := hide (show (s.st.length + 1) * 32 ≤ 140737488355328 by have := hl.out; omega)
  have HBL := hide h.out.bl
  go_enter Tryd.func51, Tryd.ntmps51
  have h3 := fun (L : List Value) => ((h.out.alloc (.map #[] 0)).alloc (.map #[] 0)).alloc (.cells L.toArray 137)
  have cm1 : ∀ L : List Value, CellsAt (((w.alloc (.map #[] 0)).alloc (.map #[] 0)).alloc (.cells L.toArray 137)) w.heap.size 0 noC := fun L => ((CellsAt.new w).below (below2 _ _ _) (by simp)).mono (Nat.le_refl _)
  have cm2 : ∀ L : List Value, CellsAt (((w.alloc (.map #[] 0)).alloc (.map #[] 0)).alloc (.cells L.toArray 137)) (w.heap.size + 1) 0 noC := fun L => by
    have := (CellsAt.new (w.alloc (.map #[] 0))).below (below1 _ (.cells L.toArray 137)) (by simp)
    rwa [show (w.alloc (.map #[] 0)).heap.size = w.heap.size + 1 by simp] at this
  have H3 := hide h3
  have CM1 := hide cm1
  have CM2 := hide cm2
  have hb3 := hide (fun L : List Value => below3 w (.map #[] 0) (.map #[] 0) (.cells L.toArray 137))
  clear h3 cm1 cm2
  go_upto_region 1 with (at_builtin; refine wpList_append_own _ rfl (.tmp 8) (.tmp 13) 77 rfl base 137 i0 (.agg #[.int .i64 0, .int .i64 0, .map none, .map none]) 4 32 Tryd.underlying77 ih hz0 hz1 hz2 rfl (by decide) vs s.st.length (acells zs) rfl (((h.out.alloc _).alloc _).alloc _).st ⟨w.heap.size + 1 + 1, 0, none⟩ 1 1 (acell (⟨f, 0, noC, noC⟩, w.heap.size, w.heap.size + 1)) rfl rfl (lit_cells w _ _ _ _) (acell_oneCell _) HM3.out HM4.out (Nat.le_trans HBL.out (by simp; omega)) ?_; intro v2 w7 ho2 hg2 _; obtain ⟨A7, c7, rfl⟩ := own_shape ho2; have FIN := hide (h.out.entered (f := f) (Nat.le_refl _) (Nat.lt_succ_self _) (H3.out (acell (⟨f, 0, noC, noC⟩, w.heap.size, w.heap.size + 1))) (CM1.out _) (CM2.out _) hg2 ho2); have r1 := hide ((H3.out (acell (⟨f, 0, noC, noC⟩, w.heap.size, w.heap.size + 1))).st_row hg2).1; have p0 := r1.out.cell (k := 25) (show (mcells s vi vt vf vs)[25]? = some vs from mcells_hi h.out.r8 9); have p1 := r1.out.free 25; clear hg2 ho2 c0 c1 hmm)
  obtain ⟨W8, hW8⟩ : ∃ W8, w7.setCell ⟨g, 25, none⟩ (.slice A7 (s.st.length + 1) c7) = W8 := ⟨_, rfl⟩
  rw [hW8] at FIN ⊢
  obtain ⟨f8, b8⟩ := FIN.out
  have H8 := hide f8
  have B8 := hide (((hb3.out (acell (⟨f, 0, noC, noC⟩, w.heap.size, w.heap.size + 1))).mono HBL.out).trans b8)
  have d0 := H8.out.far 10 rfl
  have d1 := H8.out.far 9 rfl
  have d2 := H8.out.row.free 26
  have hl0 := hl.out
  have hd0 := hd.out
  clear FIN f8 b8 hW8 p0 p1 H3 CM1 CM2 hb3
  have FIN := hide (H8.out.store 26 (.int .i64 ((max s.depth (s.st.length + 1) : Nat) : Int)) (s' := s.enter f) (mcells_set H8.out.r8 10 _) H8.out.inp rfl rfl (Nat.le_refl _) H8.out.r8)
  have hgb := hide h.out.gb
  have FX := hide (show ∀ X : Int, X = ((max s.depth (s.st.length + 1) : Nat) : Int) → MRaw (W8.setCell ⟨g, 26, none⟩ (.int .i64 X)) g base vi vt vf (.slice A7 (s.st.length + 1) c7) (zs ++ [(⟨f, 0, noC, noC⟩, w.heap.size, w.heap.size + 1)]) (s.enter f) from fun X e => by rw [e]; exact FIN.out)
  clear FIN
  go_wp2_with (first | go_region)
  all_goals
    go_end0
    exact ⟨rfl, ⟨_, _, (FX.out _ (by omega)).drewN 1⟩, below_draws (B8.out.trans ((Below.refl _ _).setCell (p := ⟨g, 26, none⟩) hgb.out _)) 1⟩
end
end Go.Proofs.YtlkcjjalkdlicaaDoor
end
