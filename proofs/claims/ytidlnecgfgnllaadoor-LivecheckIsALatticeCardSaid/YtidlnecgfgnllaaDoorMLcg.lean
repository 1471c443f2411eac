import Derived.Test.YtidlnecgfgnllaaDoorMLcf
import Derived.Test.YtidlnecgfgnllaaDoorMLce1
import Derived.Test.YtidlnecgfgnllaaDoorMLcb
set_option linter.unusedVariables false
set_option linter.unusedSimpArgs false
section
/-
  The contracts of livecheck.first, First and Check. Conditions: those of the types; the function is right; the annotation can be read; the table of TrailingZeros64 lies as its initialiser lays it.
-/
namespace Go.Proofs.YtidlnecgfgnllaaDoor
open Go.RowKit

/-- An answer of First as a value. -/
def fval (p : Nat × Int × Bool) : Value := .tuple #[.int .i64 (p.1 : Int), .int .i64 p.2.1, .bool p.2.2]
section
variable {P : Int} {A1 : Option Addr} {n1 c1 : Nat} {A2 : Option Addr} {n2 c2 : Nat} {AL : Option Addr} {nL cL : Nat} {l : List Ins} {L : List (List Int)} {w : World}
set_option maxRecDepth 100000 in
set_option maxHeartbeats 4000000 in
theorem first_any (w : World) (hC : Hid (CdAt w A2 n2 l)) (hok : Hid (LvOk l n1)) (hL : Hid (Ann w AL n2 L)) (hLI : Hid (LvIn n2 n1 L)) (hT : Hid (Tab w)) :
    Calls Tryd.prog 28 #[fv P A1 n1 c1 A2 n2 c2, .agg #[.slice AL n2 cL]] w fun e w' => e = .returned (fval (fstV l L)) ∧ Below w.heap.size w w' := by
  obtain ⟨W5, hW5⟩ : ∃ W, ((((w.alloc (.cells #[.int .i64 P, .slice A1 n1 c1, .slice A2 n2 c2] 30)).alloc (.cells #[.slice AL n2 cL] 25)).alloc (.cells #[.int .i64 0] 3)).alloc (.cells #[.int .i64 0] 3)).alloc (.cells #[.bool false] 4) = W := ⟨_, rfl⟩
  have hs5 : W5.heap.size = w.heap.size + 5 := by rw [← hW5]; simp
  have hI5 : FcI w P A1 n1 c1 A2 n2 c2 AL cL 0 0 false W5 := by
    rw [← hW5]
    exact ⟨((((Row.new w _ _).alloc _).alloc _).alloc _).alloc _, ((((Row.new _ _ _).at_ (by simp)).alloc _).alloc _).alloc _, (((Row.new _ _ _).at_ (by simp)).alloc _).alloc _, ((Row.new _ _ _).at_ (by simp)).alloc _, (Row.new _ _ _).at_ (by simp), ((below3 w _ _ _).alloc (by simp; omega) _).alloc (by simp; omega) _⟩
  have hlen := hC.out.len
  have I5 := hide hI5
  have ce := each1_any (P := P) (A1 := A1) (n1 := n1) (c1 := c1) (c2 := c2) (w.heap.size + 4) (w.heap.size + 2) w.heap.size (w.heap.size + 1) (w.heap.size + 3) (FcGo w P A1 n1 c1 A2 n2 c2 AL cL l L) (FcEnd w P A1 n1 c1 A2 n2 c2 AL cL l L) W5 (hide hok.out.flow) hlen
    (hide ⟨0, 0, false, hI5, FSt.start l L⟩) (hide fun k i W ⟨_, _, _, h, _⟩ => hC.out.below h.bl) (hide fun k i W W' ⟨_, _, _, h, h'⟩ hb => ⟨_, _, _, h.call hb, h'⟩)
    (hide fun k W hk ⟨_, _, _, h, h'⟩ => ⟨_, _, _, h, h'.next hLI.out.asc (by omega)⟩)
    (hide fun k i j W hk hj hw ⟨_, _, _, h, h'⟩ => (fclos_any hC hok hL hLI hT hk (hide hj) (hide h) (hide h')).mono fun e W' q => ⟨q.1, q.2.mono (by omega)⟩)
  have HW5 := hide hW5
  have HS5 := hide hs5
  have HLEN := hide hlen
  have q0 := hI5.f.cell (k := 0) rfl
  have q1 := hI5.f.cell (k := 1) rfl
  have q2 := hI5.f.cell (k := 2) rfl
  clear hW5 hI5 hs5 hlen
  go_enter Tryd.func28, Tryd.ntmps28
  go_upto_region 1 with (fail)
  rw [HW5.out]
  clear HW5
  go_wp2_with fail
  refine ce.mono ?_
  rintro e w6 ⟨rfl, hJ⟩
  have hE : FcEnd w P A1 n1 c1 A2 n2 c2 AL cL l L w6 := by
    rcases hJ with ⟨kJ, t, b', h, h'⟩ | h
    · exact ⟨kJ, t, b', h, FSt.fin (by rw [HLEN.out]; exact h')⟩
    · exact h
  obtain ⟨kJ, t, b', h6, hF⟩ := hE
  have HV := hide (hF.val hLI.out.asc)
  have I6 := hide h6
  clear hJ hF h6 ce q0 q1 q2 I5 HS5
  have r2 := I6.out.k.cell (k := 0) rfl
  have r3 := I6.out.s.cell (k := 0) rfl
  have r4 := I6.out.b.cell (k := 0) rfl
  have f2 := I6.out.k.free 0
  have f3 := I6.out.s.free 0
  have f4 := I6.out.b.free 0
  go_wp2_with fail
  go_region
  all_goals
    obtain ⟨W9, hW9⟩ : ∃ W, (((w6.setCell ⟨w.heap.size + 2, 0, none⟩ (.int .i64 (kJ : Int))).setCell ⟨w.heap.size + 3, 0, none⟩ (.int .i64 t)).setCell ⟨w.heap.size + 4, 0, none⟩ (.bool b')).drew = W := ⟨_, rfl⟩
    have I9 := hide (show FcI w P A1 n1 c1 A2 n2 c2 AL cL kJ t b' W9 by rw [← hW9]; exact (((I6.out.setk kJ).sets t).setb b').call (Below.refl _ _).drew)
    rw [hW9]
    clear hW9 I6 r2 r3 r4 f2 f3 f4
    have r2 := I9.out.k.cell (k := 0) rfl
    have r3 := I9.out.s.cell (k := 0) rfl
    have r4 := I9.out.b.cell (k := 0) rfl
    go_wp2_with fail
    exact bodyPost_ret (v := .tuple #[.int .i64 (kJ : Int), .int .i64 t, .bool b']) (by simp [results, Tryd.results28, go_sem, r2, r3, r4]) rfl ⟨by rw [HV.out]; rfl, I9.out.bl⟩
set_option maxHeartbeats 2000000 in
theorem lfirst_any (w : World) (hC : Hid (CdAt w A2 n2 l)) (hok : Hid (LvOk l n1)) (hL : Hid (Ann w AL nL L)) (hT : Hid (Tab w)) :
    Calls Tryd.prog 10 #[fv P A1 n1 c1 A2 n2 c2, .agg #[.slice AL nL cL]] w fun e w' => e = .returned (fval (frV l n1 L)) ∧ Below w.heap.size w w' := by
  have hlen := hC.out.len
  have hn2 := hC.out.few
  have hn1 := hok.out.few
  obtain ⟨W2, hW2⟩ : ∃ W, (w.alloc (.cells #[.int .i64 P, .slice A1 n1 c1, .slice A2 n2 c2] 30)).alloc (.cells #[.slice AL nL cL] 25) = W := ⟨_, rfl⟩
  have F2 := hide (show Row W2 w.heap.size 30 [.int .i64 P, .slice A1 n1 c1, .slice A2 n2 c2] by rw [← hW2]; exact (Row.new w _ _).alloc _)
  have L2 := hide (show Row W2 (w.heap.size + 1) 25 [.slice AL nL cL] by rw [← hW2]; exact (Row.new _ _ _).at_ (by simp))
  have B2 := hide (show Below w.heap.size w W2 by rw [← hW2]; exact below2 w _ _)
  have HW2 := hide hW2
  have cb := belongs_any (P := P) (A1 := A1) (n1 := n1) (c1 := c1) (A2 := A2) (n2 := n2) (c2 := c2) (cL := cL) W2 hn2 (by omega) (hide (hL.out.below B2.out)) (hide (hT.out.below B2.out))
  have HE := hide (show frV l n1 L = if belB n2 n1 L = true then fstV l L else (0, 0, false) by unfold frV; rw [hlen])
  rw [HE.out]
  have q0 := F2.out.cell (k := 0) rfl
  have q1 := F2.out.cell (k := 1) rfl
  have q2 := F2.out.cell (k := 2) rfl
  have q3 := L2.out.cell (k := 0) rfl
  clear hW2 HE
  cases hb : belB n2 n1 L with
  | false =>
    rw [hb] at cb
    rw [if_neg (by decide)]
    clear hb
    go_enter Tryd.func10, Tryd.ntmps10
    go_upto_region 1 with (fail)
    rw [HW2.out]
    go_wp2_with fail
    refine cb.mono ?_
    rintro e w3 ⟨rfl, hb3⟩
    have HB3 := hide (below_call B2.out hb3)
    clear cb hb3 q0 q1 q2 q3
    go_wp2_with fail
    exact bodyPost_ret (v := fval (0, 0, false)) (by simp [results, Tryd.results10, go_sem, fval]) rfl ⟨rfl, HB3.out⟩
  | true =>
    rw [hb] at cb
    rw [if_pos rfl]
    have HLI := hide (belB_iff.1 hb)
    have hnl : nL = n2 := by have h1 := hL.out.len; have h2 := HLI.out.len; omega
    subst hnl
    clear hb
    obtain ⟨p, hp⟩ : ∃ p, fstV l L = p := ⟨_, rfl⟩
    rw [hp]
    have HP := hide hp
    clear hp
    go_enter Tryd.func10, Tryd.ntmps10
    go_upto_region 1 with (fail)
    rw [HW2.out]
    go_wp2_with fail
    refine cb.mono ?_
    rintro e w3 ⟨rfl, hb3⟩
    have HB3 := hide (below_call B2.out hb3)
    have cf := first_any (P := P) (A1 := A1) (c1 := c1) (c2 := c2) (cL := cL) w3 (hide (hC.out.below HB3.out)) hok (hide (hL.out.below HB3.out)) HLI (hide (hT.out.below HB3.out))
    rw [HP.out] at cf
    have F3 := hide (F2.out.call hb3)
    have L3 := hide (L2.out.call hb3)
    clear cb hb3 q0 q1 q2 q3
    have q0 := F3.out.cell (k := 0) rfl
    have q1 := F3.out.cell (k := 1) rfl
    have q2 := F3.out.cell (k := 2) rfl
    have q3 := L3.out.cell (k := 0) rfl
    go_wp2_with fail
    refine cf.mono ?_
    rintro e w4 ⟨rfl, hb4⟩
    have HB4 := hide (below_call HB3.out hb4)
    unfold fval
    clear cf hb4 q0 q1 q2 q3
    go_wp2_with fail
    exact bodyPost_ret (v := fval p) (by simp [results, Tryd.results10, go_sem, fval]) rfl ⟨rfl, HB4.out⟩
set_option maxHeartbeats 2000000 in
theorem lcheck_any (w : World) (hC : Hid (CdAt w A2 n2 l)) (hok : Hid (LvOk l n1)) (hL : Hid (Ann w AL nL L)) (hT : Hid (Tab w)) :
    Calls Tryd.prog 12 #[fv P A1 n1 c1 A2 n2 c2, .agg #[.slice AL nL cL]] w fun e w' => e = .returned (.int .i64 (if okL l n1 L then 0 else 11)) ∧ Below w.heap.size w w' := by
  have hlen := hC.out.len
  have hn2 := hC.out.few
  have hn1 := hok.out.few
  obtain ⟨W2, hW2⟩ : ∃ W, (w.alloc (.cells #[.int .i64 P, .slice A1 n1 c1, .slice A2 n2 c2] 30)).alloc (.cells #[.slice AL nL cL] 25) = W := ⟨_, rfl⟩
  have F2 := hide (show Row W2 w.heap.size 30 [.int .i64 P, .slice A1 n1 c1, .slice A2 n2 c2] by rw [← hW2]; exact (Row.new w _ _).alloc _)
  have L2 := hide (show Row W2 (w.heap.size + 1) 25 [.slice AL nL cL] by rw [← hW2]; exact (Row.new _ _ _).at_ (by simp))
  have B2 := hide (show Below w.heap.size w W2 by rw [← hW2]; exact below2 w _ _)
  have HW2 := hide hW2
  have cb := belongs_any (P := P) (A1 := A1) (n1 := n1) (c1 := c1) (A2 := A2) (n2 := n2) (c2 := c2) (cL := cL) W2 hn2 (by omega) (hide (hL.out.below B2.out)) (hide (hT.out.below B2.out))
  have HE := hide (show okL l n1 L = (belB n2 n1 L && !(fstV l L).2.2) by unfold okL; rw [hlen])
  rw [HE.out]
  have q0 := F2.out.cell (k := 0) rfl
  have q1 := F2.out.cell (k := 1) rfl
  have q2 := F2.out.cell (k := 2) rfl
  have q3 := L2.out.cell (k := 0) rfl
  clear hW2 HE
  cases hb : belB n2 n1 L with
  | false =>
    rw [hb] at cb
    rw [Bool.false_and, if_neg (by decide)]
    clear hb
    go_enter Tryd.func12, Tryd.ntmps12
    go_upto_region 1 with (fail)
    rw [HW2.out]
    go_wp2_with fail
    refine cb.mono ?_
    rintro e w3 ⟨rfl, hb3⟩
    have HB3 := hide (below_call B2.out hb3)
    clear cb hb3 q0 q1 q2 q3
    go_wp2_with fail
    go_ret
    exact ⟨rfl, HB3.out⟩
  | true =>
    rw [hb] at cb
    rw [Bool.true_and]
    have HLI := hide (belB_iff.1 hb)
    have hnl : nL = n2 := by have h1 := hL.out.len; have h2 := HLI.out.len; omega
    subst hnl
    clear hb
    obtain ⟨⟨k, s, b⟩, hp⟩ : ∃ p, fstV l L = p := ⟨_, rfl⟩
    rw [hp]
    have HP := hide hp
    clear hp
    go_enter Tryd.func12, Tryd.ntmps12
    go_upto_region 1 with (fail)
    rw [HW2.out]
    go_wp2_with fail
    refine cb.mono ?_
    rintro e w3 ⟨rfl, hb3⟩
    have HB3 := hide (below_call B2.out hb3)
    have cf := first_any (P := P) (A1 := A1) (c1 := c1) (c2 := c2) (cL := cL) w3 (hide (hC.out.below HB3.out)) hok (hide (hL.out.below HB3.out)) HLI (hide (hT.out.below HB3.out))
    rw [HP.out] at cf
    have F3 := hide (F2.out.call hb3)
    have L3 := hide (L2.out.call hb3)
    clear cb hb3 q0 q1 q2 q3
    have q0 := F3.out.cell (k := 0) rfl
    have q1 := F3.out.cell (k := 1) rfl
    have q2 := F3.out.cell (k := 2) rfl
    have q3 := L3.out.cell (k := 0) rfl
    go_wp2_with fail
    refine cf.mono ?_
    rintro e w4 ⟨rfl, hb4⟩
    have HB4 := hide (below_call HB3.out hb4)
    unfold fval
    clear cf hb4 q0 q1 q2 q3
    cases b with
    | false =>
      go_wp2_with fail
      go_ret
      exact ⟨rfl, HB4.out⟩
    | true =>
      go_wp2_with fail
      go_ret
      exact ⟨rfl, HB4.out⟩
end
end Go.Proofs.YtidlnecgfgnllaaDoor
end
