import Derived.Test.YtafegghdhdgioabGreatMKuse
import Derived.Test.YtafegghdhdgioabGreatMNce
import Derived.Test.YtafegghdhdgioabGreatMKmp
import Derived.Test.YtafegghdhdgioabGreatMInv
import Derived.Deep.DeepFit
import Derived.Deep.RegionHeld3
set_option linter.unusedVariables false
set_option linter.unusedSimpArgs false
section
/-
  The contract of stack.Load: the value, whether its bytes are used, or the error. Conditions: those of the types; the stack is one for which Check is true.
-/
namespace Go.Proofs.YtafegghdhdgioabGreat
open Go.RowKit
attribute [local go_sem ↓] Go.wp_at_zero Go.wp_at_succ

set_option maxRecDepth 100000 in
set_option maxHeartbeats 4000000 in
theorem load_any {A1 A2 : Option Addr} {c1 c2 : Nat} {S : Sk} (off n : Int) (ho : isI off) (w : World) (hS : Hid (StkAt w w.heap.size A1 c1 A2 c2 S)) :
    Calls Tryz.prog 96 #[sv A1 c1 A2 c2 S, .int .i64 off, .int .i64 n] w (LoadPost S off n w) := by
  have hok := hide hS.out.ok
  have hmost := hS.out.ok.most
  have hsp := hS.out.ok.sp
  have hm1 := hS.out.m1
  have hm2 := hS.out.m2
  obtain ⟨W0, hW0⟩ : ∃ W, (w.alloc (.cells #[.slice A1 S.bs.length c1, .slice A2 S.bs.length c2, .int .i64 (S.sp : Int)] 68)).alloc (.cells #[.int .u64 0, .int .u64 0] 38) = W := ⟨_, rfl⟩
  have HW0 := hide hW0
  have RX0 := hide (show Row W0 (w.heap.size) 68 [.slice A1 S.bs.length c1, .slice A2 S.bs.length c2, .int .i64 (S.sp : Int)] by rw [← hW0]; exact ((Row.new w 68 [.slice A1 S.bs.length c1, .slice A2 S.bs.length c2, .int .i64 (S.sp : Int)]).alloc _))
  have RZ0 := hide (show Row W0 (w.heap.size + 1) 38 [.int .u64 0, .int .u64 0] by rw [← hW0]; exact (Row.new (w.alloc (.cells #[.slice A1 S.bs.length c1, .slice A2 S.bs.length c2, .int .i64 (S.sp : Int)] 68)) 38 [.int .u64 0, .int .u64 0]).at_ (by simp))
  have B0 := hide (show Below w.heap.size w W0 by rw [← hW0]; exact below2 w _ _)
  have Z0 := hide (show W0.heap.size = w.heap.size + 2 by rw [← hW0]; simp)
  clear hW0
  have S0 := hide ((hS.out.below B0.out).more B0.out.size)
  cases hf : fitB S off n with
  | false =>
    obtain ⟨hE, hB, hV⟩ := load_no hf
    have HE := hide (show LoadPost S off n w = fun e w' => e = .returned (.tuple #[.agg #[.int .u64 0, .int .u64 0], .bool false, .int .i64 4]) ∧ Below w.heap.size w w' by unfold LoadPost; rw [hE, hB, hV, kvv_zero])
    rw [HE.out]
    clear hE hB hV
    have cf := fun (W : World) (HS : Hid (StkAt W W.heap.size A1 c1 A2 c2 S)) => fits_any (A1 := A1) (A2 := A2) (c1 := c1) (c2 := c2) off n W hok
    rw [hf] at cf
    clear hf
    go_enter Tryz.func96, Tryz.ntmps96
    go_upto_region 1 with (fail)
    rw [HW0.out]
    have fX0 := RX0.out.cell (k := 0) rfl
    have fX1 := RX0.out.cell (k := 1) rfl
    have fX2 := RX0.out.cell (k := 2) rfl
    go_wp2_with fail
    refine (cf _ S0).mono ?_
    rintro e w1 ⟨rfl, hb1⟩
    have RX2 := hide (RX0.out.call hb1)
    clear RX0
    have RZ2 := hide (RZ0.out.call hb1)
    clear RZ0
    have S12 := hide (S0.out.call hb1)
    clear S0
    have B2 := hide (below_call B0.out hb1)
    clear B0
    clear hb1
    clear fX0 fX1 fX2
    have fX0 := RX2.out.cell (k := 0) rfl
    have fX1 := RX2.out.cell (k := 1) rfl
    have fX2 := RX2.out.cell (k := 2) rfl
    have fZ0 := RZ2.out.cell (k := 0) rfl
    have fZ1 := RZ2.out.cell (k := 1) rfl
    have yZ0 := RZ2.out.free 0
    have yZ1 := RZ2.out.free 1
    go_wp2_with fail
    obtain ⟨W3, hW3⟩ : ∃ W, (w1.setCell ⟨w.heap.size + 1, 0, none⟩ (.int .u64 0)).setCell ⟨w.heap.size + 1, 1, none⟩ (.int .u64 0) = W := ⟨_, rfl⟩
    have HW3 := hide hW3
    have RZ3 := hide (show Row W3 (w.heap.size + 1) 38 [.int .u64 0, .int .u64 0] by rw [← hW3]; exact ((RZ2.out).set_ 0 _).set_ 1 _)
    have RX3 := hide (show Row W3 (w.heap.size) 68 [.slice A1 S.bs.length c1, .slice A2 S.bs.length c2, .int .i64 (S.sp : Int)] by rw [← hW3]; exact ((RX2.out).far (p := ⟨w.heap.size + 1, 0, none⟩) (by simp) _).far (p := ⟨w.heap.size + 1, 1, none⟩) (by simp) _)
    clear RX2
    have B3 := hide (show Below w.heap.size w W3 by rw [← hW3]; exact below_put (below_put (B2.out) (by omega)) (by omega))
    clear hW3 RZ2
    clear fX0 fX1 fX2 fZ0 fZ1 yZ0 yZ1
    have fZ0 := RZ3.out.cell (k := 0) rfl
    have fZ1 := RZ3.out.cell (k := 1) rfl
    rw [HW3.out]
    refine bodyPost_ret (v := .tuple #[.agg #[.int .u64 0, .int .u64 0], .bool false, .int .i64 4]) (by simp [results, Tryz.results96, go_sem, fZ0, fZ1]) rfl ?_
    exact ⟨rfl, B3.out⟩
  | true =>
    obtain ⟨o, m, rfl, rfl, hm0, hm16, hfit⟩ := fit_nat hf
    have cf := fun (W : World) (HS : Hid (StkAt W W.heap.size A1 c1 A2 c2 S)) => fits_any (A1 := A1) (A2 := A2) (c1 := c1) (c2 := c2) (o : Int) (m : Int) W hok
    rw [hf] at cf
    have cu := fun (W : World) (HS : Hid (StkAt W W.heap.size A1 c1 A2 c2 S)) => used_any (S.sp + o) m W HS hm0 hfit
    rw [show ((S.sp + o : Nat) : Int) = (S.sp : Int) + (o : Int) by omega] at cu
    cases hu : usedB S (S.sp + o) m with
    | false =>
      obtain ⟨hE, hB, hV⟩ := load_undef hf hu
      have HE := hide (show LoadPost S o m w = fun e w' => e = .returned (.tuple #[.agg #[.int .u64 0, .int .u64 0], .bool false, .int .i64 0]) ∧ Below w.heap.size w w' by unfold LoadPost; rw [hE, hB, hV, kvv_zero])
      rw [HE.out]
      clear hE hB hV hf
      rw [hu] at cu
      clear hu
      go_enter Tryz.func96, Tryz.ntmps96
      go_upto_region 1 with (fail)
      rw [HW0.out]
      have fX0 := RX0.out.cell (k := 0) rfl
      have fX1 := RX0.out.cell (k := 1) rfl
      have fX2 := RX0.out.cell (k := 2) rfl
      go_wp2_with fail
      refine (cf _ S0).mono ?_
      rintro e w1 ⟨rfl, hb1⟩
      have RX2 := hide (RX0.out.call hb1)
      clear RX0
      have RZ2 := hide (RZ0.out.call hb1)
      clear RZ0
      have S12 := hide (S0.out.call hb1)
      clear S0
      have B2 := hide (below_call B0.out hb1)
      clear B0
      clear hb1
      clear fX0 fX1 fX2
      have fX0 := RX2.out.cell (k := 0) rfl
      have fX1 := RX2.out.cell (k := 1) rfl
      have fX2 := RX2.out.cell (k := 2) rfl
      go_wp2_with fail
      refine (cu _ S12).mono ?_
      rintro e w3 ⟨rfl, hb3⟩
      have RX4 := hide (RX2.out.call hb3)
      clear RX2
      have RZ4 := hide (RZ2.out.call hb3)
      clear RZ2
      have S14 := hide (S12.out.call hb3)
      clear S12
      have B4 := hide (below_call B2.out hb3)
      clear B2
      clear hb3
      clear fX0 fX1 fX2
      have fX0 := RX4.out.cell (k := 0) rfl
      have fX1 := RX4.out.cell (k := 1) rfl
      have fX2 := RX4.out.cell (k := 2) rfl
      have fZ0 := RZ4.out.cell (k := 0) rfl
      have fZ1 := RZ4.out.cell (k := 1) rfl
      have yZ0 := RZ4.out.free 0
      have yZ1 := RZ4.out.free 1
      go_wp2_with fail
      obtain ⟨W5, hW5⟩ : ∃ W, (w3.setCell ⟨w.heap.size + 1, 0, none⟩ (.int .u64 0)).setCell ⟨w.heap.size + 1, 1, none⟩ (.int .u64 0) = W := ⟨_, rfl⟩
      have HW5 := hide hW5
      have RZ5 := hide (show Row W5 (w.heap.size + 1) 38 [.int .u64 0, .int .u64 0] by rw [← hW5]; exact ((RZ4.out).set_ 0 _).set_ 1 _)
      have RX5 := hide (show Row W5 (w.heap.size) 68 [.slice A1 S.bs.length c1, .slice A2 S.bs.length c2, .int .i64 (S.sp : Int)] by rw [← hW5]; exact ((RX4.out).far (p := ⟨w.heap.size + 1, 0, none⟩) (by simp) _).far (p := ⟨w.heap.size + 1, 1, none⟩) (by simp) _)
      clear RX4
      have B5 := hide (show Below w.heap.size w W5 by rw [← hW5]; exact below_put (below_put (B4.out) (by omega)) (by omega))
      clear hW5 RZ4
      clear fX0 fX1 fX2 fZ0 fZ1 yZ0 yZ1
      have fZ0 := RZ5.out.cell (k := 0) rfl
      have fZ1 := RZ5.out.cell (k := 1) rfl
      rw [HW5.out]
      refine bodyPost_ret (v := .tuple #[.agg #[.int .u64 0, .int .u64 0], .bool false, .int .i64 0]) (by simp [results, Tryz.results96, go_sem, fZ0, fZ1]) rfl ?_
      exact ⟨rfl, B5.out⟩
    | true =>
      obtain ⟨hE, hB, hV⟩ := load_yes hf hu
      obtain ⟨V, hVV⟩ : ∃ V, valOf ((cutS S (S.sp + o) m).take 16) = V := ⟨_, rfl⟩
      rw [hVV] at hV
      have HE := hide (show LoadPost S o m w = fun e w' => e = .returned (.tuple #[.agg #[.int .u64 (lo V), .int .u64 (hi V)], .bool true, .int .i64 0]) ∧ Below w.heap.size w w' by unfold LoadPost; rw [hE, hB, hV])
      rw [HE.out]
      clear hE hB hV hf
      rw [hu] at cu
      clear hu
      obtain ⟨⟨b, off, hA, hbl⟩, _⟩ := hS.out.place (by omega)
      subst hA
      have hcl := hide (cut_len (S := S) (a := S.sp + o) (n := m) hfit)
      have hcb := hide (cut_byt hok.out (S.sp + o) m)
      have cm := fun (W : World) (HS : Hid (StkAt W W.heap.size (some ⟨b, off, none⟩) c1 A2 c2 S)) => from_any (some ⟨b, off + (S.sp + o), none⟩) m (c1 - (S.sp + o)) (cutS S (S.sp + o) m) W.heap.size W hcl (by omega) (by omega) (by have := HS.out.cut (S.sp + o) m; rwa [Option.map_some, WideShapes.add_plain] at this) (Nat.le_refl _) hcb
      rw [hVV] at cm
      clear hVV
      go_enter Tryz.func96, Tryz.ntmps96
      go_upto_region 1 with (fail)
      rw [HW0.out]
      have fX0 := RX0.out.cell (k := 0) rfl
      have fX1 := RX0.out.cell (k := 1) rfl
      have fX2 := RX0.out.cell (k := 2) rfl
      go_wp2_with fail
      refine (cf _ S0).mono ?_
      rintro e w1 ⟨rfl, hb1⟩
      have RX2 := hide (RX0.out.call hb1)
      clear RX0
      have RZ2 := hide (RZ0.out.call hb1)
      clear RZ0
      have S12 := hide (S0.out.call hb1)
      clear S0
      have B2 := hide (below_call B0.out hb1)
      clear B0
      clear hb1
      clear fX0 fX1 fX2
      have fX0 := RX2.out.cell (k := 0) rfl
      have fX1 := RX2.out.cell (k := 1) rfl
      have fX2 := RX2.out.cell (k := 2) rfl
      go_wp2_with fail
      refine (cu _ S12).mono ?_
      rintro e w3 ⟨rfl, hb3⟩
      have RX4 := hide (RX2.out.call hb3)
      clear RX2
      have RZ4 := hide (RZ2.out.call hb3)
      clear RZ2
      have S14 := hide (S12.out.call hb3)
      clear S12
      have B4 := hide (below_call B2.out hb3)
      clear B2
      clear hb3
      clear fX0 fX1 fX2
      have fX0 := RX4.out.cell (k := 0) rfl
      have fX1 := RX4.out.cell (k := 1) rfl
      have fX2 := RX4.out.cell (k := 2) rfl
      go_wp2_with fail
      refine (cm _ S14).mono ?_
      rintro e w5 ⟨rfl, hb5⟩
      have RX6 := hide (RX4.out.call hb5)
      clear RX4
      have RZ6 := hide (RZ4.out.call hb5)
      clear RZ4
      have S16 := hide (S14.out.call hb5)
      clear S14
      have B6 := hide (below_call B4.out hb5)
      clear B4
      clear hb5
      clear fX0 fX1 fX2
      have fX0 := RX6.out.cell (k := 0) rfl
      have fX1 := RX6.out.cell (k := 1) rfl
      have fX2 := RX6.out.cell (k := 2) rfl
      have fZ0 := RZ6.out.cell (k := 0) rfl
      have fZ1 := RZ6.out.cell (k := 1) rfl
      have yZ0 := RZ6.out.free 0
      have yZ1 := RZ6.out.free 1
      go_wp2_with fail
      obtain ⟨W7, hW7⟩ : ∃ W, (w5.setCell ⟨w.heap.size + 1, 0, none⟩ (.int .u64 (lo V))).setCell ⟨w.heap.size + 1, 1, none⟩ (.int .u64 (hi V)) = W := ⟨_, rfl⟩
      have HW7 := hide hW7
      have RZ7 := hide (show Row W7 (w.heap.size + 1) 38 [.int .u64 (lo V), .int .u64 (hi V)] by rw [← hW7]; exact ((RZ6.out).set_ 0 _).set_ 1 _)
      have RX7 := hide (show Row W7 (w.heap.size) 68 [.slice (some ⟨b, off, none⟩) S.bs.length c1, .slice A2 S.bs.length c2, .int .i64 (S.sp : Int)] by rw [← hW7]; exact ((RX6.out).far (p := ⟨w.heap.size + 1, 0, none⟩) (by simp) _).far (p := ⟨w.heap.size + 1, 1, none⟩) (by simp) _)
      clear RX6
      have B7 := hide (show Below w.heap.size w W7 by rw [← hW7]; exact below_put (below_put (B6.out) (by omega)) (by omega))
      clear hW7 RZ6
      clear fX0 fX1 fX2 fZ0 fZ1 yZ0 yZ1
      have fZ0 := RZ7.out.cell (k := 0) rfl
      have fZ1 := RZ7.out.cell (k := 1) rfl
      rw [HW7.out]
      refine bodyPost_ret (v := .tuple #[.agg #[.int .u64 (lo V), .int .u64 (hi V)], .bool true, .int .i64 0]) (by simp [results, Tryz.results96, go_sem, fZ0, fZ1]) rfl ?_
      exact ⟨rfl, B7.out⟩

end Go.Proofs.YtafegghdhdgioabGreat
end

section
/-
  The contract of Memory's write (chapter 9): bytes copied into a stack of the caller's own, and marked as used. Conditions: those of the types; the bytes lie on the stack; at least one.
-/
namespace Go.Proofs.YtafegghdhdgioabGreat
open Go.RowKit
attribute [local go_sem ↓] Go.wp_at_zero Go.wp_at_succ

section
variable {g o base : Nat} {T : TypeId} {cs : List Value} {A1 A2 : Option Addr} {c1 c2 : Nat} {S : Sk}
/-- What holds at the head of the loop. -/
def MwRel (S : Sk) (T : TypeId) (cs : List Value) (g g1 c1 g2 c2 : Nat) (zs : List Int) (w : World) (base a m : Nat) (i : Value) (wr : World) : Prop :=
  ∃ k : Nat, k ≤ m ∧ i = .int .i64 (k : Int) ∧ Hid (Row wr g T cs) ∧
    Hid (wr.ownsRow base 5 1 (.slice (some ⟨g1, 0, none⟩) S.bs.length c1) S.bs.length (splice (cellsU8 S.bs) a (cellsU8 zs))) ∧ Hid (wr.ownsRow base 4 1 (.slice (some ⟨g2, 0, none⟩) S.bs.length c2) S.bs.length (splice (cellsB S.us) a ((List.replicate m (Value.bool true)).take k))) ∧ Hid (MKp w wr g base)

set_option maxRecDepth 100000 in
set_option maxHeartbeats 4000000 in
theorem mwrite_any (a m : Nat) (A3 : Option Addr) (c3 : Nat) (zs : List Int) (w : World) (h : Hid (MemAt w g o base T cs A1 c1 A2 c2 S)) (hz : Hid (Sees w w.heap.size A3 (cellsU8 zs))) (hl : Hid (zs.length = m)) (hb : Hid (∀ z ∈ zs, 0 ≤ z ∧ z ≤ 255)) (hm : 1 ≤ m) (h16 : m ≤ 16) (ha : a + m ≤ S.bs.length) :
    Calls Tryz.prog 131 #[.pointer (some ⟨g, o, none⟩), .int .i64 (a : Int), .slice A3 m c3] w fun e w' => e = .returned (.tuple #[]) ∧ MemAt w' g o base T cs A1 c1 A2 c2 (putS S a zs) ∧ MKp w w' g base := by
  have hok := hide h.out.own.ok
  have hmost := hok.out.most
  obtain ⟨g1, q1, hv1, hg1, hgl1, hn1, hM1⟩ := own_block h.out.own.o1 (show 0 < S.bs.length by omega)
  injection hv1 with hv1 _ hv3
  subst hv1 hv3
  obtain ⟨g2, q2, hv1, hg2, hgl2, hn2, hM2⟩ := own_block h.out.own.o2 (show 0 < S.bs.length by omega)
  injection hv1 with hv1 _ hv3
  subst hv1 hv3
  obtain ⟨ad, hA3, hsrc⟩ := hz.out.src (show 0 < (cellsU8 zs).length by rw [cellsU8_length, hl.out]; omega)
  subst hA3
  have hne := hide (show g2 ≠ g1 from fun e => by
    rcases kown_apart h.out.own.o1 h.out.own.o2 (by decide) with h1 | h1
    · simp [Value.ownBlock] at h1
    · exact h1 (by simp [Value.ownBlock, e]))
  have hgg1 := hide (show g1 ≠ g from fun e => by
    rcases own_offR h.out.own.o1 h.out.row h.out.t1 with h1 | h1
    · simp [Value.ownBlock] at h1
    · exact h1 (by simp [Value.ownBlock, e]))
  have hgg2 := hide (show g2 ≠ g from fun e => by
    rcases own_offR h.out.own.o2 h.out.row h.out.t2 with h1 | h1
    · simp [Value.ownBlock] at h1
    · exact h1 (by simp [Value.ownBlock, e]))
  obtain ⟨cur, hh, hcl, hct, _⟩ := own_heap h.out.own.o1
  have HH := hide hh
  have HCL := hide hcl
  have HS := hide (show ∀ (j : Nat) (v : Value), (cellsU8 zs)[j]? = some v → w.cell? (ad.add j) = some v from fun j v hj => hsrc j v hj)
  have hlen := hide (show (cellsU8 zs).length = m by rw [cellsU8_length]; exact hl.out)
  have C1 := hide (own_copied (off := a) (cs := cellsU8 zs) (base := base) hh hcl hn1 hM1 hg1 (by rw [hlen.out]; exact ha))
  rw [hct] at C1
  obtain ⟨W1, hW1⟩ : ∃ W, w.setRow g1 (cur.take a ++ (cellsU8 zs ++ cur.drop (a + (cellsU8 zs).length))).toArray = W := ⟨_, rfl⟩
  have HW1 := hide hW1
  have T1 := hide (show w.grownBy W1 (some g1) by rw [← hW1]; exact row_turned w g1 _)
  rw [hW1] at C1
  have HCP : ∀ ty, (Builtin.copy_ #[22, 22] ty #[.slice (some ⟨g1, a, none⟩) (S.bs.length - a) (c1 - a), .slice (some ad) m c3]).run Tryz.prog w = .ok (goInt (cellsU8 zs).length) W1 := by
    intro ty
    rw [← hW1]
    have := run_copy_row (P := Tryz.prog) w 22 22 ty 5 g1 a (S.bs.length - a) (c1 - a) ad m c3 cur.toArray 5 (cellsU8 zs) Tryz.underlying22 size_u8 hh (by rw [hlen.out]; exact (Nat.min_eq_left (by omega)).symm) HS.out (by rw [hlen.out]; simp [hcl]; omega) (cellsU8_one zs)
    simpa using this
  have R1 := hide (h.out.row.grown T1.out (fun e => hgg1.out (by first | exact Option.some.inj e | exact (Option.some.inj e).symm)))
  have O21 := hide (h.out.own.o2.kept T1.out (.inr (by simp [Value.ownBlock]; exact hne.out)))
  have K1 := hide (MKp.of_row T1.out h.out.own.o1 (.inl rfl) g)
  clear hsrc hh hcl hW1
  have f0 := h.out.row.cell h.out.k0
  have f1 := R1.out.cell h.out.k1
  have hna : ¬ (c1 = a) := by omega
  go_enter Tryz.func131, Tryz.ntmps131
  go_wp2_with (simp only [HCP])
  go_loopw [18] (fun i wr => MwRel S T cs g g1 c1 g2 c2 zs w base a m i wr) (fun i _ => m - (intOf i).toNat)
  case atStart =>
    refine ⟨0, by omega, rfl, R1, C1, hide ?_, K1⟩
    rw [List.take_zero, splice_none _ _ (by rw [cellsB_length, hok.out.len]; omega)]
    exact O21.out
  case round =>
    obtain ⟨k, hk, rfl, RX', P1, P2, BB⟩ := hrel
    have hk1 := hide h.out.k1
    have HF := hide h.out
    clear f0 f1 C1 R1 T1 O21 K1 HCP HH HCL HS HW1 h
    have f1 := RX'.out.cell hk1.out
    by_cases hlt : k < m
    · have hlen2 := hide P2.out.1
      have hc : (wr.cell? ⟨g2, a + k, none⟩).isSome = true := by rw [P2.out.cellAt (a + k) (by omega), List.getElem?_eq_getElem (by rw [hlen2.out]; omega)]; rfl
      obtain ⟨u, hc⟩ := Option.isSome_iff_exists.1 hc
      have hf : wr.frozen? ⟨g2, a + k, none⟩ = false := P2.out.frozenAt (a + k)
      have hst := P2.out.stored (a + k) (.bool true)
      rw [splice_step _ _ _ _ (Value.bool true) (by rw [cellsB_length, hok.out.len]; simp; omega) (by rw [List.getElem?_replicate]; simp [hlt])] at hst
      have Hst1 := hide hst.1
      have Hst2 := hide hst.2
      clear hst
      go_wp2_with fail
      refine ⟨⟨k + 1, by omega, by go_num, ?_, ?_, Hst1, ?_⟩, by simp [intOf]; omega⟩
      · exact hide (RX'.out.grown Hst2.out (fun e => hgg2.out (by first | exact Option.some.inj e | exact (Option.some.inj e).symm)))
      · exact hide (P1.out.kept Hst2.out (.inr (by simp [Value.ownBlock]; exact fun h => hne.out h.symm)))
      · exact hide (BB.out.trans (MKp.of_row Hst2.out P2.out (.inr rfl) g))
    · obtain rfl : k = m := by omega
      rw [List.take_of_length_le (by simp)] at P2
      go_wp2_with fail
      go_end0
      have PL := put_len (S := S) (a := a) (zs := zs) (by rw [hl.out]; exact ha)
      refine ⟨rfl, ⟨RX'.out, by rw [PL]; exact HF.out.k0, by rw [PL]; exact HF.out.k1, HF.out.k2, ⟨hok.out.put (by rw [hl.out]; exact ha) hb.out, ?_, ?_⟩, HF.out.gb, HF.out.t1, HF.out.t2⟩, BB.out⟩
      · rw [PL, show (putS S a zs).bs = splice S.bs a zs from rfl, cellsU8_splice]
        exact P1.out
      · rw [PL, show (putS S a zs).us = splice S.us a (List.replicate zs.length true) from rfl, cellsB_splice, cellsB_all, hl.out]
        exact P2.out
end
end Go.Proofs.YtafegghdhdgioabGreat
end

section
/-
  The contracts of Memory's Store and Move (chapter 9): the stack behind each, or the stack as it was with the error. Conditions: those of the types; the stack is one for which Check is true.
-/
namespace Go.Proofs.YtafegghdhdgioabGreat
open Go.RowKit
attribute [local go_sem ↓] Go.wp_at_zero Go.wp_at_succ

theorem map_add0 (b k : Nat) : (some (⟨b, 0, none⟩ : Addr)).map (·.add k) = some ⟨b, k, none⟩ := by
  show some ((⟨b, 0, none⟩ : Addr).add k) = _
  congr 1
  unfold Addr.add
  split <;> simp_all
section
variable {g o base : Nat} {T : TypeId} {cs : List Value} {A1 A2 : Option Addr} {c1 c2 : Nat} {S : Sk}
/-- How Store returns. -/
def StPost (g o base : Nat) (T : TypeId) (cs : List Value) (A1 : Option Addr) (c1 : Nat) (A2 : Option Addr) (c2 : Nat) (S' : Sk) (r : Value) (w : World) (e : Ending) (w' : World) : Prop :=
  e = .returned r ∧ MemAt w' g o base T cs A1 c1 A2 c2 S' ∧ MKp w w' g base
set_option maxRecDepth 100000 in
set_option maxHeartbeats 4000000 in
theorem mstore_any (off n : Int) (X : Nat) (hX : X < two128) (w : World) (h : Hid (MemAt w g o base T cs A1 c1 A2 c2 S)) :
    Calls Tryz.prog 99 #[.pointer (some ⟨g, o, none⟩), .int .i64 off, .int .i64 n, vv X] w (StPost g o base T cs A1 c1 A2 c2 (storeR S off n X) (.int .i64 (fitE S off n)) w) := by
  have hok := hide h.out.own.ok
  have hmost := hok.out.most
  have hsp := hok.out.sp
  obtain ⟨W1, hW1⟩ : ∃ W, w.alloc (.cells #[.int .u64 (lo X), .int .u64 (hi X)] 38) = W := ⟨_, rfl⟩
  have HW1 := hide hW1
  have R1 := hide (show Row W1 w.heap.size 38 [.int .u64 (lo X), .int .u64 (hi X)] by rw [← hW1]; exact Row.new w _ _)
  have hb1 : Below w.heap.size w W1 := by rw [← hW1]; exact below1 w _
  have H1 := hide (h.out.call hb1)
  have K1 := hide (MKp.of_below hb1 g base)
  have hgX := hide (show w.heap.size ≠ g by have := h.out.row.lt; omega)
  have x0 := H1.out.row.cell H1.out.k0
  have x1 := H1.out.row.cell H1.out.k1
  have x2 := H1.out.row.cell H1.out.k2
  clear hW1 hb1
  cases hf : fitB S off n with
  | false =>
    obtain ⟨hE, hR⟩ := store_no (X := X) hf
    have cf := fits_any (A1 := A1) (A2 := A2) (c1 := c1) (c2 := c2) off n W1 hok
    rw [hf] at cf
    rw [hE, hR]
    clear hf hE hR
    go_enter Tryz.func99, Tryz.ntmps99
    go_upto_region 1 with (fail)
    rw [HW1.out]
    go_wp2_with fail
    refine cf.mono ?_
    rintro e w2 ⟨rfl, hb2⟩
    have H2 := hide (H1.out.call hb2)
    have K2 := hide (K1.out.trans (MKp.of_below hb2 g base))
    clear hb2 cf x0 x1 x2
    go_wp2_with fail
    go_ret
    exact ⟨rfl, H2.out, K2.out⟩
  | true =>
    obtain ⟨a, m, rfl, rfl, hm0, hm16, hfit⟩ := fit_nat hf
    obtain ⟨hE, hR⟩ := store_yes (X := X) hf
    have cf := fits_any (A1 := A1) (A2 := A2) (c1 := c1) (c2 := c2) (a : Int) (m : Int) W1 hok
    rw [hf] at cf
    have cb := bytes_any X (m : Int)
    rw [show szN (m : Int) = m from by have := szN_yes (fitB_iff.1 hf).1; omega] at cb
    rw [hE, hR]
    clear hf hE hR
    go_enter Tryz.func99, Tryz.ntmps99
    go_upto_region 1 with (fail)
    rw [HW1.out]
    go_wp2_with fail
    refine cf.mono ?_
    rintro e w2 ⟨rfl, hb2⟩
    have H2 := hide (H1.out.call hb2)
    have R2 := hide (R1.out.call hb2)
    have K2 := hide (K1.out.trans (MKp.of_below hb2 g base))
    clear hb2 cf x0 x1 x2
    have x2 := H2.out.row.cell H2.out.k2
    have v0 := R2.out.cell (k := 0) rfl
    have v1 := R2.out.cell (k := 1) rfl
    have hwr : IntKind.i64.wrap ((S.sp : Int) + (a : Int)) = (S.sp : Int) + (a : Int) := by rw [IntKind.wrap_i64]; omega
    have cw := fun (w5 : World) (A3 : Option Addr) (c3 B5 : Nat) (hb5 : Below w2.heap.size w2 w5) (ho5 : w5.ownsRow B5 5 1 (.slice A3 m c3) m (cellsU8 (bytesV X m))) => mwrite_any (S.sp + a) m A3 c3 (bytesV X m) w5 (hide (H2.out.call hb5)) (hide (Sees.own ho5)) (hide (bytesV_length X m)) (hide (bytesV_mem X m)) hm0 hm16 hfit
    rw [show ((S.sp + a : Nat) : Int) = (S.sp : Int) + (a : Int) by omega] at cw
    go_upto_region 3 with (fail)
    go_region_held3 (fun w' => w'.cell? ⟨g, o + 2, none⟩ = some (.int .i64 (S.sp : Int)) ∧ w'.cell? ⟨w.heap.size, 0, none⟩ = some (.int .u64 (lo X)) ∧ w'.cell? ⟨w.heap.size, 1, none⟩ = some (.int .u64 (hi X))) (first | go_keep | exact m5 | exact m6)
      (first
        | (go_at_call 132; go_fit (cb _ hX); rintro e w5 ⟨r5, rfl, ho5, hb5⟩; have b5 := hide (show Below w2.heap.size w2 w5 from Below.trans (below_draws (Below.refl w2.heap.size w2) _) hb5); have m5 := (⟨(H2.out.call b5.out).row.cell H2.out.k2, (R2.out.call b5.out).cell (k := 0) rfl, (R2.out.call b5.out).cell (k := 1) rfl⟩ : w5.cell? ⟨g, o + 2, none⟩ = some (.int .i64 (S.sp : Int)) ∧ w5.cell? ⟨w.heap.size, 0, none⟩ = some (.int .u64 (lo X)) ∧ w5.cell? ⟨w.heap.size, 1, none⟩ = some (.int .u64 (hi X))); obtain ⟨A3, c3, hr5, _⟩ := own_form ho5; subst hr5; clear hb5)
        | (go_at_call 131; go_fit (cw _ _ _ _ b5.out ho5); rintro e w6 ⟨rfl, h6, k6⟩; have H6 := hide h6; have K6 := hide (K2.out.trans ((MKp.of_below b5.out g base).trans k6)); have m6 := (⟨h6.row.cell h6.k2, (k6.row (R2.out.call b5.out) hgX.out (.inr (by decide))).cell (k := 0) rfl, (k6.row (R2.out.call b5.out) hgX.out (.inr (by decide))).cell (k := 1) rfl⟩ : w6.cell? ⟨g, o + 2, none⟩ = some (.int .i64 (S.sp : Int)) ∧ w6.cell? ⟨w.heap.size, 0, none⟩ = some (.int .u64 (lo X)) ∧ w6.cell? ⟨w.heap.size, 1, none⟩ = some (.int .u64 (hi X))); clear h6 k6))
    go_wp2_with fail
    go_ret
    exact ⟨rfl, H6.out, K6.out⟩
set_option maxRecDepth 100000 in
set_option maxHeartbeats 4000000 in
theorem mmove_any (dst src n : Int) (w : World) (h : Hid (MemAt w g o base T cs A1 c1 A2 c2 S)) :
    Calls Tryz.prog 100 #[.pointer (some ⟨g, o, none⟩), .int .i64 dst, .int .i64 src, .int .i64 n] w (StPost g o base T cs A1 c1 A2 c2 (moveR S dst src n) (.tuple #[.bool (moveB S dst src n), .int .i64 (moveE S dst src n)]) w) := by
  have hok := hide h.out.own.ok
  have hmost := hok.out.most
  have hsp := hok.out.sp
  have cf := fun (q : Int) (W : World) => fits_any (A1 := A1) (A2 := A2) (c1 := c1) (c2 := c2) q n W hok
  have x0 := h.out.row.cell h.out.k0
  have x1 := h.out.row.cell h.out.k1
  have x2 := h.out.row.cell h.out.k2
  cases hf : fitB S dst n with
  | false =>
    obtain ⟨hE, hB, hR⟩ := move_no (dst := dst) (src := src) (n := n) (S := S) (.inl hf)
    have cf := cf dst w
    rw [hf] at cf
    rw [hE, hB, hR]
    clear hf hE hB hR
    go_enter Tryz.func100, Tryz.ntmps100
    go_wp2_with fail
    refine cf.mono ?_
    rintro e w2 ⟨rfl, hb2⟩
    have H2 := hide (h.out.call hb2)
    have K2 := hide (MKp.of_below hb2 g base)
    clear hb2 cf x0 x1 x2
    go_wp2_with fail
    go_ret2
    exact ⟨rfl, H2.out, K2.out⟩
  | true =>
    have cf1 := cf dst w
    rw [hf] at cf1
    cases hf2 : fitB S src n with
    | false =>
      obtain ⟨hE, hB, hR⟩ := move_no (dst := dst) (src := src) (n := n) (S := S) (.inr hf2)
      have cf2 := fun W => cf src W
      rw [hf2] at cf2
      rw [hE, hB, hR]
      clear hf hf2 hE hB hR cf
      go_enter Tryz.func100, Tryz.ntmps100
      go_wp2_with fail
      refine cf1.mono ?_
      rintro e w2 ⟨rfl, hb2⟩
      have H2 := hide (h.out.call hb2)
      have K2 := hide (MKp.of_below hb2 g base)
      clear hb2 cf1 x0 x1 x2
      have x0 := H2.out.row.cell H2.out.k0
      have x1 := H2.out.row.cell H2.out.k1
      have x2 := H2.out.row.cell H2.out.k2
      go_wp2_with fail
      refine (cf2 w2).mono ?_
      rintro e w3 ⟨rfl, hb3⟩
      have H3 := hide (H2.out.call hb3)
      have K3 := hide (K2.out.trans (MKp.of_below hb3 g base))
      clear hb3 cf2 x0 x1 x2
      go_wp2_with fail
      go_ret2
      exact ⟨rfl, H3.out, K3.out⟩
    | true =>
      obtain ⟨a, m, rfl, rfl, hm0, hm16, hfit⟩ := fit_nat hf2
      obtain ⟨d, m', rfl, hmm, _, _, hfitd⟩ := fit_nat hf
      obtain rfl : m = m' := by omega
      clear hmm
      have cf2 := fun W => cf (a : Int) W
      rw [hf2] at cf2
      have hws : IntKind.i64.wrap ((S.sp : Int) + (a : Int)) = (S.sp : Int) + (a : Int) := by rw [IntKind.wrap_i64]; omega
      have hwd : IntKind.i64.wrap ((S.sp : Int) + (d : Int)) = (S.sp : Int) + (d : Int) := by rw [IntKind.wrap_i64]; omega
      have hwm : IntKind.i64.wrap ((S.sp : Int) + (a : Int) + (m : Int)) = (S.sp : Int) + (a : Int) + (m : Int) := by rw [IntKind.wrap_i64]; omega
      have cu := fun W (hW : StkAt W W.heap.size A1 c1 A2 c2 S) => used_any (S.sp + a) m W (hide hW) hm0 hfit
      rw [show ((S.sp + a : Nat) : Int) = (S.sp : Int) + (a : Int) by omega] at cu
      cases hu : usedB S (S.sp + a) m with
      | false =>
        obtain ⟨hE, hB, hR⟩ := move_undef hf hf2 hu
        rw [hu] at cu
        rw [hE, hB, hR]
        clear hf hf2 hE hB hR cf hu
        go_enter Tryz.func100, Tryz.ntmps100
        go_wp2_with fail
        refine cf1.mono ?_
        rintro e w2 ⟨rfl, hb2⟩
        have H2 := hide (h.out.call hb2)
        have K2 := hide (MKp.of_below hb2 g base)
        clear hb2 cf1 x0 x1 x2
        have x0 := H2.out.row.cell H2.out.k0
        have x1 := H2.out.row.cell H2.out.k1
        have x2 := H2.out.row.cell H2.out.k2
        go_wp2_with fail
        refine (cf2 w2).mono ?_
        rintro e w3 ⟨rfl, hb3⟩
        have H3 := hide (H2.out.call hb3)
        have K3 := hide (K2.out.trans (MKp.of_below hb3 g base))
        clear hb3 cf2 x0 x1 x2
        have x0 := H3.out.row.cell H3.out.k0
        have x1 := H3.out.row.cell H3.out.k1
        have x2 := H3.out.row.cell H3.out.k2
        have cu := cu w3 H3.out.own.at_
        go_wp2_with fail
        refine cu.mono ?_
        rintro e w4 ⟨rfl, hb4⟩
        have H4 := hide (H3.out.call hb4)
        have K4 := hide (K3.out.trans (MKp.of_below hb4 g base))
        clear hb4 cu x0 x1 x2
        go_wp2_with fail
        go_ret2
        exact ⟨rfl, H4.out, K4.out⟩
      | true =>
        obtain ⟨hE, hB, hR⟩ := move_yes hf hf2 hu
        rw [hu] at cu
        rw [hE, hB, hR]
        clear hf hf2 hE hB hR cf hu
        go_enter Tryz.func100, Tryz.ntmps100
        go_wp2_with fail
        refine cf1.mono ?_
        rintro e w2 ⟨rfl, hb2⟩
        have H2 := hide (h.out.call hb2)
        have K2 := hide (MKp.of_below hb2 g base)
        clear hb2 cf1 x0 x1 x2
        have x0 := H2.out.row.cell H2.out.k0
        have x1 := H2.out.row.cell H2.out.k1
        have x2 := H2.out.row.cell H2.out.k2
        go_wp2_with fail
        refine (cf2 w2).mono ?_
        rintro e w3 ⟨rfl, hb3⟩
        have H3 := hide (H2.out.call hb3)
        have K3 := hide (K2.out.trans (MKp.of_below hb3 g base))
        clear hb3 cf2 x0 x1 x2
        have x0 := H3.out.row.cell H3.out.k0
        have x1 := H3.out.row.cell H3.out.k1
        have x2 := H3.out.row.cell H3.out.k2
        have cu := cu w3 H3.out.own.at_
        go_wp2_with fail
        refine cu.mono ?_
        rintro e w4 ⟨rfl, hb4⟩
        have H4 := hide (H3.out.call hb4)
        have K4 := hide (K3.out.trans (MKp.of_below hb4 g base))
        clear hb4 cu x0 x1 x2
        obtain ⟨g1, q1, hv1, hg1, hgl1, hn1, hM1⟩ := own_block H4.out.own.o1 (show 0 < S.bs.length by omega)
        injection hv1 with hv1 _ hv3
        subst hv1 hv3
        have hcut : Sees w4 w4.heap.size (some ⟨g1, S.sp + a, none⟩) (cellsU8 (cutS S (S.sp + a) m)) := by
          have := (H4.out.own.at_).cut (S.sp + a) m
          rwa [map_add0] at this
        have hcl := hide (show (cutS S (S.sp + a) m).length = m from cut_len hfit)
        have x0 := fun p : After w4 => after_cell (H4.out.row.cell H4.out.k0) p
        have x2 := fun p : After w4 => after_cell (H4.out.row.cell H4.out.k2) p
        have cw := fun (p : After w4) => mwrite_any (S.sp + d) m (some ⟨g1, S.sp + a, none⟩) (c1 - (S.sp + a)) (cutS S (S.sp + a) m) p.w (hide (H4.out.call p.b)) (hide ((hcut.below p.b).more p.b.size)) hcl (hide (cut_byt hok.out _ _)) hm0 hm16 hfitd
        rw [show ((S.sp + d : Nat) : Int) = (S.sp : Int) + (d : Int) by omega] at cw
        have CW := hide cw
        have hz1 : (0 : Int) ≤ (S.sp : Int) + (a : Int) := by omega
        have hz2 : (S.sp : Int) + (a : Int) ≤ (S.sp : Int) + (a : Int) + (m : Int) := by omega
        have hz3 : (S.sp : Int) + (a : Int) + (m : Int) ≤ (c1 : Int) := by omega
        have hz4 : ¬ (c1 = S.sp + a) := by omega
        clear hcut cw
        go_upto_region 6 with (fail)
        refine wp_region_last 18 (by kernel_rfl) rfl rfl (by kernel_rfl) (by kernel_rfl) (by kernel_rfl) (C := fun w' => ∃ p : After w4, w' = p.w) ⟨⟨w4.drew, (Below.refl _ _).drew⟩, rfl⟩ ?_
        dsimp only [List.take_succ_cons, List.take_zero]
        repeat (go_big_quiet_step (fail))
        refine wpQuiet_nil ?_
        intro _ hw'
        obtain ⟨p1, hw''⟩ := hw'
        subst hw''
        go_wp2_with fail
        refine (CW.out p1).mono ?_
        rintro e w6 ⟨rfl, h6, k6⟩
        have H6 := hide h6
        have K6 := hide (K4.out.trans ((MKp.of_below p1.b g base).trans k6))
        clear h6 k6
        go_wp2_with fail
        go_ret2
        exact ⟨rfl, H6.out, K6.out⟩
end
end Go.Proofs.YtafegghdhdgioabGreat
end
