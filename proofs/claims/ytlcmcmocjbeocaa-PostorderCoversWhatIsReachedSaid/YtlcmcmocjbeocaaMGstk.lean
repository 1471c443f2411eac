import Derived.Test.YtlcmcmocjbeocaaMFbo
import Derived.Test.YtlcmcmocjbeocaaMPmem
import Derived.Deep.DeepCutAuto
import Derived.BigQuiet
import Derived.Deep.AppendLies
set_option linter.unusedVariables false
set_option linter.unusedSimpArgs false
section
/-
  The contracts of postorder's generic stack (empty, push, top, pop), at the stops of its search. Conditions: those of the types; top and pop ask that there is an item.
-/
namespace Go.Proofs.Ytlcmcmocjbeocaa
open Go.RowKit

/-- The cells of a stack's items: a number and a slice each. -/
def scell (u : Nat × Value) : List Value := [.int .i64 (u.1 : Int), u.2]
def scells (l : List (Nat × Value)) : List Value := l.flatMap scell
theorem scell_len (u : Nat × Value) : (scell u).length = 2 := rfl
theorem scells_len (l : List (Nat × Value)) : (scells l).length = l.length * 2 := flat_len scell_len l
theorem scells_app (l m : List (Nat × Value)) : scells (l ++ m) = scells l ++ scells m := by simp [scells]
theorem scells_at {l : List (Nat × Value)} {k : Nat} {u : Nat × Value} (h : l[k]? = some u) : (scells l)[k * 2]? = some (.int .i64 (u.1 : Int)) ∧ (scells l)[k * 2 + 1]? = some u.2 :=
  ⟨flat_at scell_len l k u h 0 (by omega), flat_at scell_len l k u h 1 (by omega)⟩
theorem scells_set {l : List (Nat × Value)} {k : Nat} {u : Nat × Value} (h : l[k]? = some u) (v : Value) : (scells l).set (k * 2 + 1) v = scells (l.set k (u.1, v)) :=
  flat_set scell_len l k u (u.1, v) h 1 (by omega) v rfl
/-- The stack in block gw, its items in a row of the call's own. -/
structure SkA (w : World) (base gw : Nat) (v : Value) (l : List (Nat × Value)) : Prop where
  box : Row w gw 67 [v]
  own : w.ownsRow base 70 2 v l.length (scells l)
  gb : base ≤ gw
  few : l.length ≤ 2000
theorem own_shrink0 {w : World} {base e size k c : Nat} {A : Option Addr} {xs : List Value} (h : w.ownsRow base e size (.slice A (k + 1) c) (k + 1) xs) : w.ownsRow base e size (.slice A k c) k (xs.take (k * size)) := by
  have hl := h.1
  rcases h.2 with ⟨e1, h0⟩ | ⟨G, cap, cur, hv, hb, hh, hn, hm, hs, ht⟩
  · omega
  · injection hv with h1 h2 h3
    subst h1 h3
    refine ⟨by rw [List.length_take, hl, Nat.min_eq_left (Nat.mul_le_mul_right _ (by omega))], .inr ⟨G, c, cur, rfl, hb, hh, by omega, hm, hs, ?_⟩⟩
    rw [← ht, List.take_take, Nat.min_eq_left (Nat.mul_le_mul_right _ (by omega))]
/-- What a method of the stack may turn: the stack's own blocks. -/
structure SKp (base : Nat) (w w' : World) : Prop where
  b : Below base w w'
  k : ∀ (g t : Nat) (cs : List Value), Row w g t cs → t ≠ 67 → t ≠ 70 → Row w' g t cs
theorem SKp.refl (base : Nat) (w : World) : SKp base w w := ⟨Below.refl _ _, fun _ _ _ h _ _ => h⟩
theorem SKp.trans {base : Nat} {w w' w'' : World} (h : SKp base w w') (h' : SKp base w' w'') : SKp base w w'' := ⟨h.b.trans h'.b, fun g t cs hr h1 h2 => h'.k g t cs (h.k g t cs hr h1 h2) h1 h2⟩
theorem infoStop : (Try.prog.info? 70).map (fun i => (i.zero, i.size, i.bytes)) = some (some (.agg #[.int .i64 0, .slice none 0 0]), 2, 32) := by kernel_rfl
section
variable {base gw : Nat} {v : Value} {l : List (Nat × Value)} {w w2 : World}
theorem SkA.call (h : SkA w base gw v l) (hb : Below w.heap.size w w2) : SkA w2 base gw v l := ⟨h.box.call hb, own_below h.own hb, h.gb, h.few⟩
theorem SkA.alloc (h : SkA w base gw v l) (o : Obj) : SkA (w.alloc o) base gw v l := h.call (below1 w o)
theorem sk_empty (w : World) (h : Hid (SkA w base gw v [])) : Calls Try.prog 38 #[.pointer (some ⟨gw, 0, none⟩)] w fun e w' => e = .returned (.bool true) ∧ w = w' := by
  obtain ⟨A, c, rfl, -, -⟩ := own_form h.out.own
  have q0 := h.out.box.cell (k := 0) rfl
  go_enter Try.func38, Try.ntmps38
  go_wp2_with fail
  go_ret
  exact ⟨rfl, rfl⟩
theorem sk_some (w : World) (h : Hid (SkA w base gw v l)) (hl : 0 < l.length) : Calls Try.prog 38 #[.pointer (some ⟨gw, 0, none⟩)] w fun e w' => e = .returned (.bool false) ∧ w = w' := by
  obtain ⟨A, c, rfl, -, -⟩ := own_form h.out.own
  have q0 := h.out.box.cell (k := 0) rfl
  have hne : ((l.length : Int) == 0) = false := by rw [beq_eq_false_iff_ne]; omega
  go_enter Try.func38, Try.ntmps38
  go_wp2_with fail
  go_ret
  exact ⟨rfl, rfl⟩
/-- The last item's place. -/
theorem sk_top {g c n : Nat} (w : World) (h : Hid (SkA w base gw (.slice (some ⟨g, 0, none⟩) (n + 1) c) l)) (hl : l.length = n + 1) : Calls Try.prog 39 #[.pointer (some ⟨gw, 0, none⟩)] w fun e w' => e = .returned (.pointer (some ⟨g, n * 2, none⟩)) ∧ ∃ k, w' = w.drewN k := by
  have hn := h.out.few
  have q0 := h.out.box.cell (k := 0) rfl
  have hw : IntKind.i64.wrap (((n : Int) + 1) - 1) = (n : Int) := by rw [IntKind.wrap_i64]; omega
  have hn0 : (0 : Int) ≤ (n : Int) := by omega
  have hn1 : (n : Int) < (n : Int) + 1 := by omega
  go_enter Try.func39, Try.ntmps39
  go_wp2_with fail
  go_region
  go_wp2_with fail
  go_ret
  exact ⟨rfl, _, rfl⟩
theorem SKp.set (h : SkA w base gw v l) (u : Value) : SKp base w (w.setCell ⟨gw, 0, none⟩ u) :=
  ⟨(Below.refl _ _).setCell (p := ⟨gw, 0, none⟩) h.gb u, fun _ _ _ hr h1 _ => hr.far (p := ⟨gw, 0, none⟩) (hr.ne_ h.box h1) u⟩
set_option maxHeartbeats 2000000 in
theorem sk_pop {g c : Nat} {u : Nat × Value} (w : World) (h : Hid (SkA w base gw (.slice (some ⟨g, 0, none⟩) (l.length + 1) c) (l ++ [u]))) : Calls Try.prog 40 #[.pointer (some ⟨gw, 0, none⟩)] w fun e w' => e = .returned (.tuple #[]) ∧ SkA w' base gw (.slice (some ⟨g, 0, none⟩) l.length c) l ∧ SKp base w w' := by
  have hn := h.out.few
  rw [List.length_append, List.length_singleton] at hn
  have q0 := h.out.box.cell (k := 0) rfl
  have f0 := h.out.box.free 0
  have hw : IntKind.i64.wrap (((l.length : Int) + 1) - 1) = (l.length : Int) := by rw [IntKind.wrap_i64]; omega
  have hn0 : (0 : Int) ≤ (l.length : Int) := by omega
  have ho := h.out.own
  rw [List.length_append, List.length_singleton] at ho
  obtain ⟨g', c', he, -, -, hcap, hcm⟩ := own_block ho (by omega)
  injection he with he _ hec
  subst hec
  have hcap1 : (l.length : Int) ≤ (c : Int) := by omega
  have hcap2 : (l.length : Int) + 1 ≤ (c : Int) := by omega
  obtain ⟨W1, hW1⟩ : ∃ W, (w.setCell ⟨gw, 0, none⟩ (.slice (some ⟨g, 0, none⟩) l.length c)).drew = W := ⟨_, rfl⟩
  have FIN := hide (show SkA W1 base gw (.slice (some ⟨g, 0, none⟩) l.length c) l ∧ SKp base w W1 by
    rw [← hW1]
    have h2 := own_shrink0 ho
    rw [scells_app, List.take_left' (by rw [scells_len])] at h2
    have h3 : (w.setCell ⟨gw, 0, none⟩ (.slice (some ⟨g, 0, none⟩) l.length c)).ownsRow base 70 2 (.slice (some ⟨g, 0, none⟩) l.length c) l.length (scells l) := h2.kept (fgrown_set w gw 0 _) (fown_apart h2 h.out.box (by decide))
    exact ⟨⟨h.out.box.set_ 0 _, h3, h.out.gb, by omega⟩, (SKp.set h.out _).b.drew, (SKp.set h.out _).k⟩)
  have HW1 := hide hW1
  clear hW1 ho he hcm
  go_enter Try.func40, Try.ntmps40
  go_region
  go_wp2_with fail
  go_end0
  rw [HW1.out]
  exact ⟨rfl, FIN.out⟩
set_option maxHeartbeats 2000000 in
theorem sk_push (k : Nat) (A : Option Addr) (n c : Nat) (w : World) (h : Hid (SkA w base gw v l)) (hfew : l.length ≤ 1999) : Calls Try.prog 37 #[.pointer (some ⟨gw, 0, none⟩), .agg #[.int .i64 (k : Int), .slice A n c]] w fun e w' => e = .returned (.tuple #[]) ∧ ∃ v', SkA w' base gw v' (l ++ [(k, .slice A n c)]) ∧ SKp base w w' := by
  obtain ⟨i0, hi, hz0, hz1, hz2⟩ := info_parts infoStop
  obtain ⟨W1, hW1⟩ : ∃ W, w.alloc (.cells #[.int .i64 (k : Int), .slice A n c] 70) = W := ⟨_, rfl⟩
  have R1 := hide (show Row W1 w.heap.size 70 [.int .i64 (k : Int), .slice A n c] by rw [← hW1]; exact Row.new w _ _)
  have H1 := hide (show SkA W1 base gw v l by rw [← hW1]; exact h.out.alloc _)
  have hbs : base ≤ w.heap.size := by have h1 := h.out.gb; have h2 := h.out.box.lt; omega
  have K1 := hide (show SKp base w W1 by rw [← hW1]; exact ⟨(Below.refl _ _).alloc hbs _, fun _ _ _ hr _ _ => hr.alloc _⟩)
  have hs1 : W1.heap.size = w.heap.size + 1 := by rw [← hW1]; simp
  have HS1 := hide hs1
  have HW1 := hide hW1
  have q0 := H1.out.box.cell (k := 0) rfl
  have f0 := H1.out.box.free 0
  have r0 := R1.out.cell (k := 0) rfl
  have r1 := R1.out.cell (k := 1) rfl
  have HB := hide (show base ≤ W1.heap.size by omega)
  obtain ⟨W2, hW2⟩ : ∃ W, (W1.alloc (.cells #[.int .i64 (k : Int), .slice A n c] 70)).drew = W := ⟨_, rfl⟩
  have H2 := hide (show SkA W2 base gw v l by rw [← hW2]; exact (show SkA (W1.alloc _).drew base gw v l from ⟨(H1.out.alloc _).box, (H1.out.alloc _).own, H1.out.gb, H1.out.few⟩))
  have NW := hide (show ∀ j u, [Value.int .i64 (k : Int), .slice A n c][j]? = some u → W2.cell? ((⟨W1.heap.size, 0, none⟩ : Addr).add j) = some u by
    rw [← hW2]; exact World.news_of_block (t := 70) (fr := (0, 0)) (show (W1.alloc (.cells #[.int .i64 (k : Int), .slice A n c] 70)).drew.heap[W1.heap.size]? = _ from heap_alloc_new W1 _))
  have OC := hide (show ∀ u ∈ [Value.int .i64 (k : Int), .slice A n c], u.oneCell' = true by
    intro u hu; simp at hu; rcases hu with rfl | rfl <;> rfl)
  have HS2 := hide (show W2.heap.size = W1.heap.size + 1 by rw [← hW2]; simp)
  have K2 := hide (show SKp base w W2 from K1.out.trans (by rw [← hW2]; exact ⟨((Below.refl _ _).alloc HB.out _).drew, fun _ _ _ hr _ _ => hr.alloc _⟩))
  have HW2 := hide hW2
  clear hW1 hW2 hs1 hbs
  go_enter Try.func37, Try.ntmps37
  go_upto_region 1 with (fail)
  rw [HW1.out]
  have q2 := H2.out.box.cell (k := 0) rfl
  have h5 := hide (show base ≤ W2.heap.size by rw [HS2.out]; have := HB.out; omega)
  have AP := hide (fun (ops : Array Oper) (o : Oper) (a : Act) (K : Act → World → Prop) (Q : Exit → Act → World → Prop) (E : Prop) hgd ho hs hx h6 => @step_append_lies Try.prog W2 ops o a K Q E hgd (.tmp 8) (.tmp 10) 65 ho base 70 i0 (.agg #[.int .i64 0, .slice none 0 0]) 2 32 Try.underlying65 hi hz0 hz1 hz2 rfl (by decide) v l.length (scells l) hs H2.out.own ⟨W1.heap.size, 0, none⟩ 1 1 [.int .i64 (k : Int), .slice A n c] hx rfl NW.out OC.out (by decide) (by unfold maxLen; omega) (by omega) h5.out _ rfl h6)
  rw [← HW2.out] at AP
  have qa := keep_cellB (below1 W1 (.cells #[.int .i64 (k : Int), .slice A n c] 70)) q0
  have NF := hide (show v.ownBlock ≠ some gw from fun e => by
    rcases fown_apart H2.out.own H2.out.box (by decide) with q | q
    · rw [q] at e; cases e
    · exact q e)
  go_region_law (refine AP.out _ _ _ _ _ _ rfl rfl rfl rfl ?_; intro g7 cap7 w7 ho7 hg7 hw7 hlt7; rw [HW2.out] at hg7; have R7 : Row w7 gw 67 [v] := H2.out.box.grown hg7 (fun e => NF.out e.symm); have z7 : w7.cell? ⟨gw, 0, none⟩ = some v := R7.cell (k := 0) rfl; have y7 : w7.frozen? ⟨gw, 0, none⟩ = false := R7.free 0)
  all_goals
    obtain ⟨W8, hW8⟩ : ∃ W, w7.setCell ⟨gw, 0, none⟩ (.slice (some ⟨g7, 0, none⟩) (l.length + 1) cap7) = W := ⟨_, rfl⟩
    have FIN := hide (show SkA W8 base gw (.slice (some ⟨g7, 0, none⟩) (l.length + 1) cap7) (l ++ [(k, Value.slice A n c)]) ∧ SKp base w W8 by
      rw [← hW8]
      have h3 : (w7.setCell ⟨gw, 0, none⟩ (.slice (some ⟨g7, 0, none⟩) (l.length + 1) cap7)).ownsRow base 70 2 (.slice (some ⟨g7, 0, none⟩) (l.length + 1) cap7) (l ++ [(k, Value.slice A n c)]).length (scells (l ++ [(k, Value.slice A n c)])) := by
        rw [scells_app, List.length_append, List.length_singleton]
        exact ho7.kept (fgrown_set w7 gw 0 _) (fown_apart ho7 R7 (by decide))
      refine ⟨⟨R7.set_ 0 _, h3, H2.out.gb, by rw [List.length_append, List.length_singleton]; omega⟩, K2.out.trans ⟨?_, ?_⟩⟩
      · refine Below.setCell (p := ⟨gw, 0, none⟩) (below_append (Below.refl _ _) H2.out.own (Nat.le_refl _) hg7 h5.out) H2.out.gb _
      · intro g' t' cs' hr h1 h2
        refine (hr.grown hg7 ?_).far (p := ⟨gw, 0, none⟩) (hr.ne_ H2.out.box h1) _
        rcases fown_apart H2.out.own hr h2 with q | q
        · rw [q]; exact fun e => (by cases e)
        · exact fun e => q e.symm)
    have HW8 := hide hW8
    clear R7 hW8 z7 y7 ho7 hg7 hw7 hlt7
    go_wp2_with fail
    go_end0
    rw [HW8.out]
    exact ⟨rfl, _, FIN.out⟩
end
end Go.Proofs.Ytlcmcmocjbeocaa
end
