/-
  The contracts of stack.Push and Pop: the stack behind each, or the stack as it was with the error. Conditions: those of the types; the stack is one for which Check is true.
-/
import Derived.Test.YtlkikjgapingjaaKown
import Derived.Lib.SliceRun
namespace Go.Proofs.Ytlkikjgapingjaa
open Go.RowKit

def pushR (S : Sk) (n : Int) : Sk := if pushE S n = 0 then pushS S n.toNat else S
def popR (S : Sk) (n : Int) : Sk := if popE S n = 0 then popS S n.toNat else S
theorem clear_none {P : Program} {t e ty : TypeId} (ht : P.underlying t = some (.slice e)) (A : Option Addr) (c : Nat) (W : World) : (Builtin.clear_ #[t] ty #[.slice A 0 c]).run P W = .ok (.tuple #[]) W := by
  cases A <;> simp [Builtin.clear_, run_underlying ht]
theorem StkOwn.put_ {w : World} {base : Nat} {A1 : Option Addr} {c1 : Nat} {A2 : Option Addr} {c2 : Nat} {S : Sk} {t1 t2 : TypeId} (hok : S.Ok) (o1 : w.ownsRow base t1 1 (.slice A1 S.bs.length c1) S.bs.length (cellsU8 S.bs)) (o2 : w.ownsRow base t2 1 (.slice A2 S.bs.length c2) S.bs.length (cellsB S.us)) : StkAt w w.heap.size A1 c1 A2 c2 S :=
  StkOwn.at_ ⟨hok, o1, o2⟩
theorem own_apart {w : World} {base t1 t2 g n1 n2 c2 : Nat} {v1 : Value} {xs1 xs2 : List Value} (o1 : w.ownsRow base t1 1 v1 n1 xs1) (o2 : w.ownsRow base t2 1 (.slice (some ⟨g, 0, none⟩) n2 c2) n2 xs2) (ht : t1 ≠ t2) : v1.ownBlock = none ∨ v1.ownBlock ≠ some g := by
  rcases o1.2 with ⟨rfl, _⟩ | ⟨g1, cap, cur, rfl, _, hg1, _⟩
  · exact .inl rfl
  · right
    rintro h
    simp only [Value.ownBlock, Option.some.injEq] at h
    subst h
    rcases o2.2 with ⟨h2, _⟩ | ⟨g2, cap2, cur2, h2, _, hg2, _⟩
    · cases h2
    · injection h2 with h3
      injection h3 with h3
      injection h3 with h3
      subst h3
      have := hg1.symm.trans hg2
      injection this with this
      injection this with _ h5 _
      exact ht h5
theorem own_turned {w : World} {base t1 t2 g n1 n2 c2 off : Nat} {v1 : Value} {xs1 xs2 cs : List Value} (o1 : w.ownsRow base t1 1 v1 n1 xs1) (o2 : w.ownsRow base t2 1 (.slice (some ⟨g, 0, none⟩) n2 c2) n2 xs2) (ht : t1 ≠ t2) (h : off + cs.length ≤ n2) :
    (w.setCells g off cs).ownsRow base t1 1 v1 n1 xs1 ∧ (w.setCells g off cs).ownsRow base t2 1 (.slice (some ⟨g, 0, none⟩) n2 c2) n2 (splice xs2 off cs) ∧ w.grownBy (w.setCells g off cs) (some g) ∧ base ≤ g :=
  have h1 := own_spliced cs off w xs2 o2 h
  ⟨o1.kept h1.2 (own_apart o1 o2 ht), h1.1, h1.2, (o2.lt g rfl).1⟩
theorem cellsB_all (n : Nat) (b : Bool) : cellsB (List.replicate n b) = List.replicate n (.bool b) := by simp [cellsB]
theorem zero_bool : ∀ w, (zeroValue 4).run Try.prog w = .ok (.bool false) w := fun w => by kernel_rfl
theorem push_zero (S : Sk) (h : S.Ok) : pushS S 0 = S := by
  have := h.len; have := h.sp
  unfold pushS
  rw [List.replicate_zero, splice_none _ _ (by omega), Nat.sub_zero]

set_option maxRecDepth 100000 in
set_option maxHeartbeats 4000000 in
theorem push_any {A1 A2 : Option Addr} {c1 c2 : Nat} {S : Sk} (n : Int) (w : World) (hS : Hid (StkAt w w.heap.size A1 c1 A2 c2 S)) :
    Calls Try.prog 20 #[sv A1 c1 A2 c2 S, .int .i64 n] w (StkPost (pushR S n) (pushE S n) w) := by
  have hok := hide hS.out.ok
  have hmost := hS.out.ok.most
  have hsp := hS.out.ok.sp
  have hm1 := hS.out.m1
  have hm2 := hS.out.m2
  obtain ⟨W0, hW0⟩ : ∃ W, (w.alloc (.cells #[.slice A1 S.bs.length c1, .slice A2 S.bs.length c2, .int .i64 (S.sp : Int)] 25)).alloc (.cells #[.slice none 0 0, .slice none 0 0, .int .i64 0] 25) = W := ⟨_, rfl⟩
  have HW0 := hide hW0
  have RX0 := hide (show Row W0 (w.heap.size) 25 [.slice A1 S.bs.length c1, .slice A2 S.bs.length c2, .int .i64 (S.sp : Int)] by rw [← hW0]; exact ((Row.new w 25 [.slice A1 S.bs.length c1, .slice A2 S.bs.length c2, .int .i64 (S.sp : Int)]).alloc _))
  have RZ0 := hide (show Row W0 (w.heap.size + 1) 25 [.slice none 0 0, .slice none 0 0, .int .i64 0] by rw [← hW0]; exact (Row.new (w.alloc (.cells #[.slice A1 S.bs.length c1, .slice A2 S.bs.length c2, .int .i64 (S.sp : Int)] 25)) 25 [.slice none 0 0, .slice none 0 0, .int .i64 0]).at_ (by simp))
  have B0 := hide (show Below w.heap.size w W0 by rw [← hW0]; exact below2 w _ _)
  have Z0 := hide (show W0.heap.size = w.heap.size + 2 by rw [← hW0]; simp)
  clear hW0
  have hS0 := hide ((hS.out.below B0.out).more B0.out.size)
  have cc := clone_any A1 S.bs.length c1 A2 c2 (S.sp : Int) S.bs S.us W0 (hide hS0.out.k1) (hide hS0.out.k2) hm1 hm2 hmost (hide rfl) (hide hS0.out.ok.len) (hide hS0.out.s1) (hide hS0.out.s2)
  have ck := fun (a1 : Option Addr) (k1 : Nat) (a2 : Option Addr) (k2 : Nat) (W : World) => check_stk a1 S.bs.length k1 a2 S.bs.length k2 (S.sp : Int) W (by omega) (by omega)
  rw [ckB_ok hok.out] at ck
  go_enter Try.func20, Try.ntmps20
  go_upto_region 1 with (fail)
  rw [HW0.out]
  have fX0 := RX0.out.cell (k := 0) rfl
  have fX1 := RX0.out.cell (k := 1) rfl
  have fX2 := RX0.out.cell (k := 2) rfl
  go_wp2_with fail
  refine (cc).mono ?_
  rintro e w1 ⟨a1, k1, a2, k2, rfl, o1, o2, hb1⟩
  have RX2 := hide (RX0.out.call hb1)
  clear RX0
  have RZ2 := hide (RZ0.out.call hb1)
  clear RZ0
  have B2 := hide (below_call B0.out hb1)
  clear B0
  clear hb1
  have O11 := hide (own_raise o1 (show w.heap.size + 2 ≤ W0.heap.size + 2 by have := Z0.out; omega))
  have O21 := hide (own_raise o2 (show w.heap.size + 2 ≤ W0.heap.size + 2 by have := Z0.out; omega))
  clear o1 o2
  clear fX0 fX1 fX2
  have fX0 := RX2.out.cell (k := 0) rfl
  have fX1 := RX2.out.cell (k := 1) rfl
  have fX2 := RX2.out.cell (k := 2) rfl
  have yX0 := RX2.out.free 0
  have yX1 := RX2.out.free 1
  have yX2 := RX2.out.free 2
  obtain ⟨W3, hW3⟩ : ∃ W, ((w1.setCell ⟨w.heap.size, 0, none⟩ (.slice a1 S.bs.length k1)).setCell ⟨w.heap.size, 1, none⟩ (.slice a2 S.bs.length k2)).setCell ⟨w.heap.size, 2, none⟩ (.int .i64 (S.sp : Int)) = W := ⟨_, rfl⟩
  have HW3 := hide hW3
  have RX3 := hide (show Row W3 (w.heap.size) 25 [.slice a1 S.bs.length k1, .slice a2 S.bs.length k2, .int .i64 (S.sp : Int)] by rw [← hW3]; exact (((RX2.out).set_ 0 _).set_ 1 _).set_ 2 _)
  have RZ3 := hide (show Row W3 (w.heap.size + 1) 25 [.slice none 0 0, .slice none 0 0, .int .i64 0] by rw [← hW3]; exact (((RZ2.out).far (p := ⟨w.heap.size, 0, none⟩) (by simp) _).far (p := ⟨w.heap.size, 1, none⟩) (by simp) _).far (p := ⟨w.heap.size, 2, none⟩) (by simp) _)
  clear RZ2
  have O13 := hide (show W3.ownsRow (w.heap.size + 2) 5 1 (.slice a1 S.bs.length k1) S.bs.length (cellsU8 S.bs) by rw [← hW3]; exact own_put (own_put (own_put (O11.out) (by omega)) (by omega)) (by omega))
  clear O11
  have O23 := hide (show W3.ownsRow (w.heap.size + 2) 4 1 (.slice a2 S.bs.length k2) S.bs.length (cellsB S.us) by rw [← hW3]; exact own_put (own_put (own_put (O21.out) (by omega)) (by omega)) (by omega))
  clear O21
  have B3 := hide (show Below w.heap.size w W3 by rw [← hW3]; exact below_put (below_put (below_put (B2.out) (by omega)) (by omega)) (by omega))
  clear hW3 RX2
  by_cases h0 : n < 0
  · have hE := hide (show pushE S n = 4 by simp [pushE, h0])
    have hR := hide (show pushR S n = S by simp [pushR, hE.out])
    go_upto_region 2 with (fail)
    rw [HW3.out]
    clear fX0 fX1 fX2 yX0 yX1 yX2
    have fX0 := RX3.out.cell (k := 0) rfl
    have fX1 := RX3.out.cell (k := 1) rfl
    have fX2 := RX3.out.cell (k := 2) rfl
    go_wp2_with fail
    refine (ck _ _ _ _ _).mono ?_
    rintro e w4 ⟨rfl, hb4⟩
    have RX5 := hide (RX3.out.call hb4)
    clear RX3
    have RZ5 := hide (RZ3.out.call hb4)
    clear RZ3
    have O15 := hide (own_below O13.out hb4)
    clear O13
    have O25 := hide (own_below O23.out hb4)
    clear O23
    have B5 := hide (below_call B3.out hb4)
    clear B3
    clear hb4
    clear fX0 fX1 fX2
    have fX0 := RX5.out.cell (k := 0) rfl
    have fX1 := RX5.out.cell (k := 1) rfl
    have fX2 := RX5.out.cell (k := 2) rfl
    have fZ0 := RZ5.out.cell (k := 0) rfl
    have fZ1 := RZ5.out.cell (k := 1) rfl
    have fZ2 := RZ5.out.cell (k := 2) rfl
    have yZ0 := RZ5.out.free 0
    have yZ1 := RZ5.out.free 1
    have yZ2 := RZ5.out.free 2
    go_wp2_with fail
    obtain ⟨W6, hW6⟩ : ∃ W, ((w4.setCell ⟨w.heap.size + 1, 0, none⟩ (.slice a1 S.bs.length k1)).setCell ⟨w.heap.size + 1, 1, none⟩ (.slice a2 S.bs.length k2)).setCell ⟨w.heap.size + 1, 2, none⟩ (.int .i64 (S.sp : Int)) = W := ⟨_, rfl⟩
    have HW6 := hide hW6
    have RZ6 := hide (show Row W6 (w.heap.size + 1) 25 [.slice a1 S.bs.length k1, .slice a2 S.bs.length k2, .int .i64 (S.sp : Int)] by rw [← hW6]; exact (((RZ5.out).set_ 0 _).set_ 1 _).set_ 2 _)
    have RX6 := hide (show Row W6 (w.heap.size) 25 [.slice a1 S.bs.length k1, .slice a2 S.bs.length k2, .int .i64 (S.sp : Int)] by rw [← hW6]; exact (((RX5.out).far (p := ⟨w.heap.size + 1, 0, none⟩) (by simp) _).far (p := ⟨w.heap.size + 1, 1, none⟩) (by simp) _).far (p := ⟨w.heap.size + 1, 2, none⟩) (by simp) _)
    clear RX5
    have O16 := hide (show W6.ownsRow (w.heap.size + 2) 5 1 (.slice a1 S.bs.length k1) S.bs.length (cellsU8 S.bs) by rw [← hW6]; exact own_put (own_put (own_put (O15.out) (by omega)) (by omega)) (by omega))
    clear O15
    have O26 := hide (show W6.ownsRow (w.heap.size + 2) 4 1 (.slice a2 S.bs.length k2) S.bs.length (cellsB S.us) by rw [← hW6]; exact own_put (own_put (own_put (O25.out) (by omega)) (by omega)) (by omega))
    clear O25
    have B6 := hide (show Below w.heap.size w W6 by rw [← hW6]; exact below_put (below_put (below_put (B5.out) (by omega)) (by omega)) (by omega))
    clear hW6 RZ5
    clear fX0 fX1 fX2 fZ0 fZ1 fZ2 yZ0 yZ1 yZ2
    have fZ0 := RZ6.out.cell (k := 0) rfl
    have fZ1 := RZ6.out.cell (k := 1) rfl
    have fZ2 := RZ6.out.cell (k := 2) rfl
    rw [HW6.out]
    refine bodyPost_ret (v := .tuple #[.agg #[.slice a1 S.bs.length k1, .slice a2 S.bs.length k2, .int .i64 (S.sp : Int)], .int .i64 4]) (by simp [results, Try.results20, go_sem, fZ0, fZ1, fZ2]) rfl ?_
    exact ⟨a1, k1, a2, k2, by rw [hR.out, hE.out], by rw [hR.out]; exact StkOwn.put_ hok.out O16.out O26.out, B6.out⟩
  · by_cases h1 : (S.sp : Int) < n
    · have hE := hide (show pushE S n = 9 by simp [pushE, h0, h1])
      have hR := hide (show pushR S n = S by simp [pushR, hE.out])
      go_upto_region 2 with (fail)
      rw [HW3.out]
      clear fX0 fX1 fX2 yX0 yX1 yX2
      have fX0 := RX3.out.cell (k := 0) rfl
      have fX1 := RX3.out.cell (k := 1) rfl
      have fX2 := RX3.out.cell (k := 2) rfl
      go_wp2_with fail
      refine (ck _ _ _ _ _).mono ?_
      rintro e w4 ⟨rfl, hb4⟩
      have RX5 := hide (RX3.out.call hb4)
      clear RX3
      have RZ5 := hide (RZ3.out.call hb4)
      clear RZ3
      have O15 := hide (own_below O13.out hb4)
      clear O13
      have O25 := hide (own_below O23.out hb4)
      clear O23
      have B5 := hide (below_call B3.out hb4)
      clear B3
      clear hb4
      clear fX0 fX1 fX2
      have fX0 := RX5.out.cell (k := 0) rfl
      have fX1 := RX5.out.cell (k := 1) rfl
      have fX2 := RX5.out.cell (k := 2) rfl
      have fZ0 := RZ5.out.cell (k := 0) rfl
      have fZ1 := RZ5.out.cell (k := 1) rfl
      have fZ2 := RZ5.out.cell (k := 2) rfl
      have yZ0 := RZ5.out.free 0
      have yZ1 := RZ5.out.free 1
      have yZ2 := RZ5.out.free 2
      go_wp2_with fail
      obtain ⟨W6, hW6⟩ : ∃ W, ((w4.setCell ⟨w.heap.size + 1, 0, none⟩ (.slice a1 S.bs.length k1)).setCell ⟨w.heap.size + 1, 1, none⟩ (.slice a2 S.bs.length k2)).setCell ⟨w.heap.size + 1, 2, none⟩ (.int .i64 (S.sp : Int)) = W := ⟨_, rfl⟩
      have HW6 := hide hW6
      have RZ6 := hide (show Row W6 (w.heap.size + 1) 25 [.slice a1 S.bs.length k1, .slice a2 S.bs.length k2, .int .i64 (S.sp : Int)] by rw [← hW6]; exact (((RZ5.out).set_ 0 _).set_ 1 _).set_ 2 _)
      have RX6 := hide (show Row W6 (w.heap.size) 25 [.slice a1 S.bs.length k1, .slice a2 S.bs.length k2, .int .i64 (S.sp : Int)] by rw [← hW6]; exact (((RX5.out).far (p := ⟨w.heap.size + 1, 0, none⟩) (by simp) _).far (p := ⟨w.heap.size + 1, 1, none⟩) (by simp) _).far (p := ⟨w.heap.size + 1, 2, none⟩) (by simp) _)
      clear RX5
      have O16 := hide (show W6.ownsRow (w.heap.size + 2) 5 1 (.slice a1 S.bs.length k1) S.bs.length (cellsU8 S.bs) by rw [← hW6]; exact own_put (own_put (own_put (O15.out) (by omega)) (by omega)) (by omega))
      clear O15
      have O26 := hide (show W6.ownsRow (w.heap.size + 2) 4 1 (.slice a2 S.bs.length k2) S.bs.length (cellsB S.us) by rw [← hW6]; exact own_put (own_put (own_put (O25.out) (by omega)) (by omega)) (by omega))
      clear O25
      have B6 := hide (show Below w.heap.size w W6 by rw [← hW6]; exact below_put (below_put (below_put (B5.out) (by omega)) (by omega)) (by omega))
      clear hW6 RZ5
      clear fX0 fX1 fX2 fZ0 fZ1 fZ2 yZ0 yZ1 yZ2
      have fZ0 := RZ6.out.cell (k := 0) rfl
      have fZ1 := RZ6.out.cell (k := 1) rfl
      have fZ2 := RZ6.out.cell (k := 2) rfl
      rw [HW6.out]
      refine bodyPost_ret (v := .tuple #[.agg #[.slice a1 S.bs.length k1, .slice a2 S.bs.length k2, .int .i64 (S.sp : Int)], .int .i64 9]) (by simp [results, Try.results20, go_sem, fZ0, fZ1, fZ2]) rfl ?_
      exact ⟨a1, k1, a2, k2, by rw [hR.out, hE.out], by rw [hR.out]; exact StkOwn.put_ hok.out O16.out O26.out, B6.out⟩
    · obtain ⟨m, rfl⟩ : ∃ m : Nat, n = (m : Int) := ⟨n.toNat, by omega⟩
      have hE := hide (show pushE S (m : Int) = 0 by simp only [pushE]; rw [if_neg h0, if_neg h1])
      have hR := hide (show pushR S (m : Int) = pushS S m by simp [pushR, hE.out])
      have hms : m ≤ S.sp := by omega
      have hsub : ((S.sp : Int) - (m : Int)) = ((S.sp - m : Nat) : Int) := by omega
      obtain ⟨q, hq⟩ : ∃ q, S.sp - m = q := ⟨_, rfl⟩
      have hqm := hide (show q + m = S.sp by omega)
      have hql : q + m ≤ S.sp := by omega
      rw [hq] at hsub
      have hq := hide hq
      go_upto_region 2 with (fail)
      rw [HW3.out]
      clear fX0 fX1 fX2 yX0 yX1 yX2
      have fX0 := RX3.out.cell (k := 0) rfl
      have fX1 := RX3.out.cell (k := 1) rfl
      have fX2 := RX3.out.cell (k := 2) rfl
      go_wp2_with fail
      refine (ck _ _ _ _ _).mono ?_
      rintro e w4 ⟨rfl, hb4⟩
      have RX5 := hide (RX3.out.call hb4)
      clear RX3
      have RZ5 := hide (RZ3.out.call hb4)
      clear RZ3
      have O15 := hide (own_below O13.out hb4)
      clear O13
      have O25 := hide (own_below O23.out hb4)
      clear O23
      have B5 := hide (below_call B3.out hb4)
      clear B3
      clear hb4
      clear fX0 fX1 fX2
      have fX0 := RX5.out.cell (k := 0) rfl
      have fX1 := RX5.out.cell (k := 1) rfl
      have fX2 := RX5.out.cell (k := 2) rfl
      have yX0 := RX5.out.free 0
      have yX1 := RX5.out.free 1
      have yX2 := RX5.out.free 2
      go_upto_region 7 with (fail)
      obtain ⟨W6, hW6⟩ : ∃ W, w4.setCell ⟨w.heap.size, 2, none⟩ (.int .i64 (q : Int)) = W := ⟨_, rfl⟩
      have HW6 := hide hW6
      have RX6 := hide (show Row W6 (w.heap.size) 25 [.slice a1 S.bs.length k1, .slice a2 S.bs.length k2, .int .i64 (q : Int)] by rw [← hW6]; exact (RX5.out).set_ 2 _)
      have RZ6 := hide (show Row W6 (w.heap.size + 1) 25 [.slice none 0 0, .slice none 0 0, .int .i64 0] by rw [← hW6]; exact (RZ5.out).far (p := ⟨w.heap.size, 2, none⟩) (by simp) _)
      clear RZ5
      have O16 := hide (show W6.ownsRow (w.heap.size + 2) 5 1 (.slice a1 S.bs.length k1) S.bs.length (cellsU8 S.bs) by rw [← hW6]; exact own_put (O15.out) (by omega))
      clear O15
      have O26 := hide (show W6.ownsRow (w.heap.size + 2) 4 1 (.slice a2 S.bs.length k2) S.bs.length (cellsB S.us) by rw [← hW6]; exact own_put (O25.out) (by omega))
      clear O25
      have B6 := hide (show Below w.heap.size w W6 by rw [← hW6]; exact below_put (B5.out) (by omega))
      clear hW6 RX5
      rw [HW6.out]
      have HZ := hide zero_bool
      by_cases hm0 : m = 0
      · subst hm0
        have hcl := fun (A : Option Addr) (k : Nat) (W : World) (ty : TypeId) => clear_none (P := Try.prog) (ty := ty) Try.underlying23 A k W
        rw [show ((0 : Nat) : Int) = 0 from rfl]
        have hqs := hide (show q = S.sp by have := hqm.out; omega)
        have hql : q ≤ S.bs.length := by have := hqm.out; omega
        have HRS := hide (push_zero S hok.out)
        have hle := own_le O26.out
        clear fX0 fX1 fX2 yX0 yX1 yX2
        have fX0 := RX6.out.cell (k := 0) rfl
        have fX1 := RX6.out.cell (k := 1) rfl
        have fX2 := RX6.out.cell (k := 2) rfl
        have fZ0 := RZ6.out.cell (k := 0) rfl
        have fZ1 := RZ6.out.cell (k := 1) rfl
        have fZ2 := RZ6.out.cell (k := 2) rfl
        have yZ0 := RZ6.out.free 0
        have yZ1 := RZ6.out.free 1
        have yZ2 := RZ6.out.free 2
        cases a2 with
        | none =>
          obtain rfl : k2 = 0 := hle.1 rfl
          have hN := hide (show S.bs.length = 0 by omega)
          obtain rfl : q = 0 := by have := hN.out; omega
          clear hle
          have RX99 := hide (show Row W6 (w.heap.size) 25 [.slice a1 0 k1, .slice none 0 0, .int .i64 0] by have := RX6.out; rw [hN.out] at this; exact this)
          have hsv : sv a1 k1 none 0 (pushR S ((0 : Nat) : Int)) = .agg #[.slice a1 0 k1, .slice none 0 0, .int .i64 0] := by rw [hR.out, HRS.out]; show Value.agg #[.slice a1 S.bs.length k1, .slice none S.bs.length 0, .int .i64 (S.sp : Int)] = _; rw [← hqs.out, hN.out]; rfl
          have HSV := hide hsv
          clear hsv
          clear fX0 fX1 fX2 fZ0 fZ1 fZ2 yZ0 yZ1 yZ2
          have fX0 := RX99.out.cell (k := 0) rfl
          have fX1 := RX99.out.cell (k := 1) rfl
          have fX2 := RX99.out.cell (k := 2) rfl
          have fZ0 := RZ6.out.cell (k := 0) rfl
          have fZ1 := RZ6.out.cell (k := 1) rfl
          have fZ2 := RZ6.out.cell (k := 2) rfl
          have yZ0 := RZ6.out.free 0
          have yZ1 := RZ6.out.free 1
          have yZ2 := RZ6.out.free 2
          go_wp2_with (simp only [hcl])
          obtain ⟨W7, hW7⟩ : ∃ W, ((W6.setCell ⟨w.heap.size + 1, 0, none⟩ (.slice a1 0 k1)).setCell ⟨w.heap.size + 1, 1, none⟩ (.slice none 0 0)).setCell ⟨w.heap.size + 1, 2, none⟩ (.int .i64 0) = W := ⟨_, rfl⟩
          have HW7 := hide hW7
          have RZ7 := hide (show Row W7 (w.heap.size + 1) 25 [.slice a1 0 k1, .slice none 0 0, .int .i64 0] by rw [← hW7]; exact (((RZ6.out).set_ 0 _).set_ 1 _).set_ 2 _)
          have RX7 := hide (show Row W7 (w.heap.size) 25 [.slice a1 0 k1, .slice none 0 0, .int .i64 0] by rw [← hW7]; exact (((RX99.out).far (p := ⟨w.heap.size + 1, 0, none⟩) (by simp) _).far (p := ⟨w.heap.size + 1, 1, none⟩) (by simp) _).far (p := ⟨w.heap.size + 1, 2, none⟩) (by simp) _)
          clear RX99
          have O17 := hide (show W7.ownsRow (w.heap.size + 2) 5 1 (.slice a1 S.bs.length k1) S.bs.length (cellsU8 S.bs) by rw [← hW7]; exact own_put (own_put (own_put (O16.out) (by omega)) (by omega)) (by omega))
          clear O16
          have O27 := hide (show W7.ownsRow (w.heap.size + 2) 4 1 (.slice none S.bs.length 0) S.bs.length (cellsB S.us) by rw [← hW7]; exact own_put (own_put (own_put (O26.out) (by omega)) (by omega)) (by omega))
          clear O26
          have B7 := hide (show Below w.heap.size w W7 by rw [← hW7]; exact below_put (below_put (below_put (B6.out) (by omega)) (by omega)) (by omega))
          clear hW7 RZ6
          clear fX0 fX1 fX2 fZ0 fZ1 fZ2 yZ0 yZ1 yZ2
          have fZ0 := RZ7.out.cell (k := 0) rfl
          have fZ1 := RZ7.out.cell (k := 1) rfl
          have fZ2 := RZ7.out.cell (k := 2) rfl
          rw [HW7.out]
          refine bodyPost_ret (v := .tuple #[.agg #[.slice a1 0 k1, .slice none 0 0, .int .i64 0], .int .i64 0]) (by simp [results, Try.results20, go_sem, fZ0, fZ1, fZ2]) rfl ?_
          exact ⟨a1, k1, none, 0, by rw [hE.out, HSV.out], by rw [hR.out, HRS.out]; exact StkOwn.put_ hok.out O17.out O27.out, B7.out⟩
        | some ad =>
          by_cases hk : k2 = q
          · subst hk
            have hqk : k2 ≤ k2 := by omega
            clear hle
            clear fX0 fX1 fX2 fZ0 fZ1 fZ2 yZ0 yZ1 yZ2
            have fX0 := RX6.out.cell (k := 0) rfl
            have fX1 := RX6.out.cell (k := 1) rfl
            have fX2 := RX6.out.cell (k := 2) rfl
            have fZ0 := RZ6.out.cell (k := 0) rfl
            have fZ1 := RZ6.out.cell (k := 1) rfl
            have fZ2 := RZ6.out.cell (k := 2) rfl
            have yZ0 := RZ6.out.free 0
            have yZ1 := RZ6.out.free 1
            have yZ2 := RZ6.out.free 2
            go_wp2_with (simp only [hcl])
            obtain ⟨W7, hW7⟩ : ∃ W, ((W6.setCell ⟨w.heap.size + 1, 0, none⟩ (.slice a1 S.bs.length k1)).setCell ⟨w.heap.size + 1, 1, none⟩ (.slice (some ad) S.bs.length k2)).setCell ⟨w.heap.size + 1, 2, none⟩ (.int .i64 (k2 : Int)) = W := ⟨_, rfl⟩
            have HW7 := hide hW7
            have RZ7 := hide (show Row W7 (w.heap.size + 1) 25 [.slice a1 S.bs.length k1, .slice (some ad) S.bs.length k2, .int .i64 (k2 : Int)] by rw [← hW7]; exact (((RZ6.out).set_ 0 _).set_ 1 _).set_ 2 _)
            have RX7 := hide (show Row W7 (w.heap.size) 25 [.slice a1 S.bs.length k1, .slice (some ad) S.bs.length k2, .int .i64 (k2 : Int)] by rw [← hW7]; exact (((RX6.out).far (p := ⟨w.heap.size + 1, 0, none⟩) (by simp) _).far (p := ⟨w.heap.size + 1, 1, none⟩) (by simp) _).far (p := ⟨w.heap.size + 1, 2, none⟩) (by simp) _)
            clear RX6
            have O17 := hide (show W7.ownsRow (w.heap.size + 2) 5 1 (.slice a1 S.bs.length k1) S.bs.length (cellsU8 S.bs) by rw [← hW7]; exact own_put (own_put (own_put (O16.out) (by omega)) (by omega)) (by omega))
            clear O16
            have O27 := hide (show W7.ownsRow (w.heap.size + 2) 4 1 (.slice (some ad) S.bs.length k2) S.bs.length (cellsB S.us) by rw [← hW7]; exact own_put (own_put (own_put (O26.out) (by omega)) (by omega)) (by omega))
            clear O26
            have B7 := hide (show Below w.heap.size w W7 by rw [← hW7]; exact below_put (below_put (below_put (B6.out) (by omega)) (by omega)) (by omega))
            clear hW7 RZ6
            clear fX0 fX1 fX2 fZ0 fZ1 fZ2 yZ0 yZ1 yZ2
            have fZ0 := RZ7.out.cell (k := 0) rfl
            have fZ1 := RZ7.out.cell (k := 1) rfl
            have fZ2 := RZ7.out.cell (k := 2) rfl
            rw [HW7.out]
            refine bodyPost_ret (v := .tuple #[.agg #[.slice a1 S.bs.length k1, .slice (some ad) S.bs.length k2, .int .i64 (k2 : Int)], .int .i64 0]) (by simp [results, Try.results20, go_sem, fZ0, fZ1, fZ2]) rfl ?_
            exact ⟨a1, k1, some ad, k2, by rw [hR.out, hE.out, HRS.out, hqs.out], by rw [hR.out, HRS.out]; exact StkOwn.put_ hok.out O17.out O27.out, B7.out⟩
          · have hqk : q ≤ k2 := by omega
            clear hle
            clear fX0 fX1 fX2 fZ0 fZ1 fZ2 yZ0 yZ1 yZ2
            have fX0 := RX6.out.cell (k := 0) rfl
            have fX1 := RX6.out.cell (k := 1) rfl
            have fX2 := RX6.out.cell (k := 2) rfl
            have fZ0 := RZ6.out.cell (k := 0) rfl
            have fZ1 := RZ6.out.cell (k := 1) rfl
            have fZ2 := RZ6.out.cell (k := 2) rfl
            have yZ0 := RZ6.out.free 0
            have yZ1 := RZ6.out.free 1
            have yZ2 := RZ6.out.free 2
            go_wp2_with (simp only [hcl])
            obtain ⟨W7, hW7⟩ : ∃ W, ((W6.setCell ⟨w.heap.size + 1, 0, none⟩ (.slice a1 S.bs.length k1)).setCell ⟨w.heap.size + 1, 1, none⟩ (.slice (some ad) S.bs.length k2)).setCell ⟨w.heap.size + 1, 2, none⟩ (.int .i64 (q : Int)) = W := ⟨_, rfl⟩
            have HW7 := hide hW7
            have RZ7 := hide (show Row W7 (w.heap.size + 1) 25 [.slice a1 S.bs.length k1, .slice (some ad) S.bs.length k2, .int .i64 (q : Int)] by rw [← hW7]; exact (((RZ6.out).set_ 0 _).set_ 1 _).set_ 2 _)
            have RX7 := hide (show Row W7 (w.heap.size) 25 [.slice a1 S.bs.length k1, .slice (some ad) S.bs.length k2, .int .i64 (q : Int)] by rw [← hW7]; exact (((RX6.out).far (p := ⟨w.heap.size + 1, 0, none⟩) (by simp) _).far (p := ⟨w.heap.size + 1, 1, none⟩) (by simp) _).far (p := ⟨w.heap.size + 1, 2, none⟩) (by simp) _)
            clear RX6
            have O17 := hide (show W7.ownsRow (w.heap.size + 2) 5 1 (.slice a1 S.bs.length k1) S.bs.length (cellsU8 S.bs) by rw [← hW7]; exact own_put (own_put (own_put (O16.out) (by omega)) (by omega)) (by omega))
            clear O16
            have O27 := hide (show W7.ownsRow (w.heap.size + 2) 4 1 (.slice (some ad) S.bs.length k2) S.bs.length (cellsB S.us) by rw [← hW7]; exact own_put (own_put (own_put (O26.out) (by omega)) (by omega)) (by omega))
            clear O26
            have B7 := hide (show Below w.heap.size w W7 by rw [← hW7]; exact below_put (below_put (below_put (B6.out) (by omega)) (by omega)) (by omega))
            clear hW7 RZ6
            clear fX0 fX1 fX2 fZ0 fZ1 fZ2 yZ0 yZ1 yZ2
            have fZ0 := RZ7.out.cell (k := 0) rfl
            have fZ1 := RZ7.out.cell (k := 1) rfl
            have fZ2 := RZ7.out.cell (k := 2) rfl
            rw [HW7.out]
            refine bodyPost_ret (v := .tuple #[.agg #[.slice a1 S.bs.length k1, .slice (some ad) S.bs.length k2, .int .i64 (q : Int)], .int .i64 0]) (by simp [results, Try.results20, go_sem, fZ0, fZ1, fZ2]) rfl ?_
            exact ⟨a1, k1, some ad, k2, by rw [hR.out, hE.out, HRS.out, hqs.out], by rw [hR.out, HRS.out]; exact StkOwn.put_ hok.out O17.out O27.out, B7.out⟩
      · obtain ⟨b, k2', hv, hbb, hblt, hnk, _⟩ := own_block O26.out (show 0 < S.bs.length by omega)
        injection hv with hv1 hv2 hv3
        subst hv1 hv3
        clear hv2
        have hT := own_turned (cs := List.replicate m (.bool false)) (off := q) O16.out O26.out (by decide) (by simp; omega)
        have hcl := fun (ty : TypeId) => Lib.run_clear_slice W6 23 4 ty (.bool false) Try.underlying23 HZ.out rfl rfl b q m (k2 - q) (by omega) (fun j hj => by rw [O26.out.cellAt (q + j) (by omega)]; rw [List.getElem?_eq_getElem (by rw [cellsB_length, hok.out.len]; omega)]; rfl) (fun j hj => O26.out.frozenAt (q + j))
        obtain ⟨W9, hW9⟩ : ∃ W, W6.setCells b q (List.replicate m (.bool false)) = W := ⟨_, rfl⟩
        rw [hW9] at hcl hT
        obtain ⟨T1, T2, T3, T4⟩ := hT
        have T1 := hide T1
        have T2 := hide T2
        have RX9 := hide (RX6.out.grown T3 (by simp; omega))
        have RZ9 := hide (RZ6.out.grown T3 (by simp; omega))
        have B9 := hide (B6.out.grown T3 (by have := B6.out.size; omega) (fun k hk => by injection hk with hk; omega))
        clear T3 hW9
        skip
        have gX1 := RX6.out.cell (k := 1) rfl
        have gX2 := RX6.out.cell (k := 2) rfl
        clear fX0 fX1 fX2 yX0 yX1 yX2
        have fX0 := RX9.out.cell (k := 0) rfl
        have fX1 := RX9.out.cell (k := 1) rfl
        have fX2 := RX9.out.cell (k := 2) rfl
        have fZ0 := RZ9.out.cell (k := 0) rfl
        have fZ1 := RZ9.out.cell (k := 1) rfl
        have fZ2 := RZ9.out.cell (k := 2) rfl
        have yZ0 := RZ9.out.free 0
        have yZ1 := RZ9.out.free 1
        have yZ2 := RZ9.out.free 2
        go_wp2_with (simp only [hcl])
        obtain ⟨W7, hW7⟩ : ∃ W, ((W9.setCell ⟨w.heap.size + 1, 0, none⟩ (.slice a1 S.bs.length k1)).setCell ⟨w.heap.size + 1, 1, none⟩ (.slice (some ⟨b, 0, none⟩) S.bs.length k2)).setCell ⟨w.heap.size + 1, 2, none⟩ (.int .i64 (q : Int)) = W := ⟨_, rfl⟩
        have HW7 := hide hW7
        have RZ7 := hide (show Row W7 (w.heap.size + 1) 25 [.slice a1 S.bs.length k1, .slice (some ⟨b, 0, none⟩) S.bs.length k2, .int .i64 (q : Int)] by rw [← hW7]; exact (((RZ9.out).set_ 0 _).set_ 1 _).set_ 2 _)
        have RX7 := hide (show Row W7 (w.heap.size) 25 [.slice a1 S.bs.length k1, .slice (some ⟨b, 0, none⟩) S.bs.length k2, .int .i64 (q : Int)] by rw [← hW7]; exact (((RX9.out).far (p := ⟨w.heap.size + 1, 0, none⟩) (by simp) _).far (p := ⟨w.heap.size + 1, 1, none⟩) (by simp) _).far (p := ⟨w.heap.size + 1, 2, none⟩) (by simp) _)
        clear RX9
        have O17 := hide (show W7.ownsRow (w.heap.size + 2) 5 1 (.slice a1 S.bs.length k1) S.bs.length (cellsU8 S.bs) by rw [← hW7]; exact own_put (own_put (own_put (T1.out) (by omega)) (by omega)) (by omega))
        clear T1
        have O27 := hide (show W7.ownsRow (w.heap.size + 2) 4 1 (.slice (some ⟨b, 0, none⟩) S.bs.length k2) S.bs.length (splice (cellsB S.us) q (List.replicate m (.bool false))) by rw [← hW7]; exact own_put (own_put (own_put (T2.out) (by omega)) (by omega)) (by omega))
        clear T2
        have B7 := hide (show Below w.heap.size w W7 by rw [← hW7]; exact below_put (below_put (below_put (B9.out) (by omega)) (by omega)) (by omega))
        clear hW7 RZ9
        clear fX0 fX1 fX2 fZ0 fZ1 fZ2 yZ0 yZ1 yZ2
        have fZ0 := RZ7.out.cell (k := 0) rfl
        have fZ1 := RZ7.out.cell (k := 1) rfl
        have fZ2 := RZ7.out.cell (k := 2) rfl
        rw [HW7.out]
        refine bodyPost_ret (v := .tuple #[.agg #[.slice a1 S.bs.length k1, .slice (some ⟨b, 0, none⟩) S.bs.length k2, .int .i64 (q : Int)], .int .i64 0]) (by simp [results, Try.results20, go_sem, fZ0, fZ1, fZ2]) rfl ?_
        have hput := StkOwn.put_ (S := pushS S m) (hok.out.push hms) O17.out (by rw [show (pushS S m).us = splice S.us (S.sp - m) (List.replicate m false) from rfl, cellsB_splice, cellsB_all, hq.out]; exact O27.out)
        exact ⟨a1, k1, some ⟨b, 0, none⟩, k2, by rw [hR.out, hE.out, ← hq.out]; rfl, by rw [hR.out]; exact hput, B7.out⟩
end Go.Proofs.Ytlkikjgapingjaa
