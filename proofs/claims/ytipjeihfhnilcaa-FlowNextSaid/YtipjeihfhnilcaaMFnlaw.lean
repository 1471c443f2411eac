import Derived.Test.YtipjeihfhnilcaaMFfun
import Derived.Test.YtipjeihfhnilcaaMFrbf
import Derived.Test.YtipjeihfhnilcaaMFsall
set_option linter.unusedVariables false
set_option linter.unusedSimpArgs false
section
/-
  FlowNext's law, walked: it returns true. Conditions: those of the types.
-/
namespace Go.Proofs.Ytipjeihfhnilcaa
open Go.RowKit

theorem sucZ_rng {l : List Ins} (h : FlowOk l) {z y : Int} (hy : y ∈ toI (sucZ l z)) : 0 ≤ y ∧ y ≤ 1024 := by
  obtain ⟨j, hj, rfl⟩ := List.mem_map.1 hy
  unfold sucZ at hj
  split at hj
  · have h1 := suc_lt h hj
    have h2 := h.few
    omega
  · cases hj
theorem LstN {l : List Ins} (hok : FlowOk l) {z : Int} {w w' : World} {A : Option Addr} {c : Nat} (h : w'.ownsRow w.heap.size 3 1 (.slice A (toI (sucZ l z)).length c) (toI (sucZ l z)).length (cellsI (toI (sucZ l z)))) : Lst w' A (toI (sucZ l z)).length (toI (sucZ l z)) := by
  refine ⟨rfl, ?_, Sees.ownN h, fun y hy => ?_⟩
  · rw [toI_len]
    unfold sucZ
    split
    · have := suc_len l z.toNat; omega
    · simp
  · have := sucZ_rng hok hy
    omega
/-- What Next hands back: a list that can be read. -/
def NxPost (xs : List Int) (w : World) (e : Ending) (w' : World) : Prop := ∃ A c, e = .returned (.slice A xs.length c) ∧ Lst w' A xs.length xs ∧ Below w.heap.size w w'
theorem NxPost.of {l : List Ins} (hok : FlowOk l) {z : Int} {w w' : World} {e : Ending} (h : OutPost (toI (sucZ l z)) w e w') : NxPost (toI (sucZ l z)) w e w' := by
  unfold OutPost at h
  obtain ⟨A, c, he, ho, hb⟩ := h
  exact ⟨A, c, he, LstN hok ho, hb⟩
set_option maxRecDepth 100000 in
set_option maxHeartbeats 2000000 in
theorem nextlaw_walk (A0 : Option Addr) (n0 c0 : Nat) (zs : List Int) (k : Int) (w : World)
    (hA : Hid (A0 = none → c0 = 0)) (hn : Hid (zs.length = n0)) (hnc : n0 ≤ c0) (hm : n0 ≤ 9223372036854775807) (hs : Hid (Sees w w.heap.size A0 (cellsU8 zs))) (hz : Hid (∀ z ∈ zs, 0 ≤ z ∧ z ≤ 255)) :
    Calls Try.prog 5 #[.slice A0 n0 c0, .int .i64 k] w fun e w' => e = .returned (.bool true) ∧ Below w.heap.size w w' := by
  go_enter Try.func5, Try.ntmps5
  go_wp2_with fail
  refine (awake13_any w).mono ?_
  rintro e w1 ⟨rfl, hb1⟩
  have HB1 := hide hb1
  have HS1 := hide ((hs.out.below hb1).more hb1.size)
  clear hb1
  go_wp2_with fail
  refine (function13_any A0 n0 c0 zs w1 hA hn hnc hm HS1 hz).mono ?_
  rintro e w2 ⟨P, A1, n1, c1, A2, n2, c2, l, gk, rfl, hC, hok, hn2, hb2⟩
  obtain ⟨W, hW⟩ : ∃ V, w2.alloc (.cells #[.int .i64 P, .slice A1 n1 c1, .slice A2 n2 c2] 53) = V := ⟨_, rfl⟩
  have HW := hide hW
  have hb3 : Below w2.heap.size w2 W := by rw [← hW]; exact below1 _ _
  obtain ⟨B, hB⟩ : ∃ B, w2.heap.size = B := ⟨_, rfl⟩
  have HBB := hide hB
  have RB := hide (show Row W B 53 [.int .i64 P, .slice A1 n1 c1, .slice A2 n2 c2] by rw [← hW, ← hB]; exact Row.new w2 _ _)
  have HC := hide (hC.below hb3)
  have HBW := hide (HB1.out.trans ((hb2.trans (hb3.mono hb2.size)).mono HB1.out.size))
  have hn3 := hC.few
  have NA := hide (fun (z : Int) (V : World) (hb : Below W.heap.size W V) => (fnext_any (P := P) (A1 := A1) (n1 := n1) (c1 := c1) (c2 := c2) z V (hide (HC.out.below hb)) hok).mono fun e w' q => NxPost.of hok q)
  have NB := hide (fun (z : Int) (V : World) (hb : Below W.heap.size W V) => (rnext_any (P := P) (A1 := A1) (n1 := n1) (c1 := c1) (c2 := c2) z V (hide (HC.out.below hb)) hok).mono fun e w' q => NxPost.of hok q)
  have BA := hide (fun (V : World) (hb : Below W.heap.size W V) => before_any (P := P) (A1 := A1) (n1 := n1) (c1 := c1) (c2 := c2) V (hide (HC.out.below hb)) (hide hok))
  have BB := hide (fun (V : World) (hb : Below W.heap.size W V) => rbefore_any (P := P) (A1 := A1) (n1 := n1) (c1 := c1) (c2 := c2) V (hide (HC.out.below hb)) (hide hok))
  have CS := hide (fun (xs : List Int) (A : Option Addr) (c : Nat) (A' : Option Addr) (c' : Nat) (V : World) (h : Hid (Lst V A xs.length xs)) (h' : Hid (Lst V A' xs.length xs)) => (show Calls Try.prog 24 #[.slice A xs.length c, .slice A' xs.length c'] V (BoolPost true V) by have h3 := lsame_any A xs.length c xs A' xs.length c' xs V h h'; rwa [show decide (xs = xs) = true from decide_eq_true rfl] at h3))
  clear hC hok hb2 hb3 hW hB HS1 HB1 hn2
  go_upto_region 4 with (fail)
  rw [HW.out, HBB.out]
  clear HW HBB
  go_upto_region 5 with (fail)
  go_loopw [7] (fun s wr => ∃ i : Nat, i ≤ n2 ∧ s = .int .i64 (i : Int) ∧ Hid (Below W.heap.size W wr)) (fun s _ => n2 - (intOf s).toNat)
  case atStart => exact ⟨0, by omega, rfl, hide (Below.refl _ _)⟩
  case round =>
    obtain ⟨i, hi, rfl, hbr⟩ := hrel
    have R2 := hide (RB.out.call hbr.out)
    have q2' := R2.out.cell (k := 2) rfl
    by_cases hlt : i < n2
    · have LA2 := hide (fun (V : World) (hb : Below wr.heap.size wr V) => NA.out (i : Int) V (below_call hbr.out hb))
      have LB2 := hide (fun (V : World) (hb : Below wr.heap.size wr V) => NB.out (i : Int) V (below_call hbr.out hb))
      obtain ⟨xs, hxs⟩ : ∃ xs, toI (sucZ l (i : Int)) = xs := ⟨_, rfl⟩
      rw [hxs] at LA2 LB2
      have CS2 := hide (CS.out xs)
      clear hxs
      go_upto_region 7 with (fail)
      have q0 := fun (w' : World) (hb : Below wr.heap.size wr w') => (R2.out.call hb).cell (k := 0) rfl
      have q1 := fun (w' : World) (hb : Below wr.heap.size wr w') => (R2.out.call hb).cell (k := 1) rfl
      have q2 := fun (w' : World) (hb : Below wr.heap.size wr w') => (R2.out.call hb).cell (k := 2) rfl
      go_region_held3 (fun w' => Below wr.heap.size wr w') (first | exact bb | exact below_draws (Below.refl _ _) 1 | exact below_draws bb _)
        (first
          | (go_at_call 25; with_reducible refine Calls.mono (LA2.out _ (by first | exact bb | exact bb.drew | exact (Below.refl _ _).drew)) ?_; intro e w5 h5; unfold NxPost at h5; obtain ⟨Aa, ca, rfl, hoa, hb5⟩ := h5; have HLa := hide hoa; have bb := below_call (show Below wr.heap.size wr _ from by first | exact bb | exact bb.drew | exact (Below.refl _ _).drew) hb5; clear hoa)
          | (go_at_call 26; with_reducible refine Calls.mono (LB2.out _ (by first | exact bb | exact bb.drew | exact (Below.refl _ _).drew)) ?_; intro e w6 h6; unfold NxPost at h6; obtain ⟨Ab, cb, rfl, hob, hb6⟩ := h6; have HLb := hide hob; have HLa := hide (HLa.out.below hb6); have bb := below_call bb hb6; clear hob)
          | (go_at_call 24; with_reducible refine Calls.mono (CS2.out _ _ _ _ _ HLa HLb) ?_; intro e w7 h7; unfold BoolPost at h7; obtain ⟨rfl, q, rfl⟩ := h7; have bb := below_draws bb q))
      all_goals
        have HF := hide (below_call hbr.out bb)
        clear bb q0 q1 q2 q2' LA2 LB2 CS2
        go_wp2_with fail
        go_roundw
        case rel => exact ⟨i + 1, by omega, by go_num, HF⟩
        case measure => simp [intOf]; omega
    · obtain rfl : i = n2 := by omega
      have LA2 := hide (fun (V : World) (hb : Below wr.heap.size wr V) => NA.out k V (below_call hbr.out hb))
      have LB2 := hide (fun (V : World) (hb : Below wr.heap.size wr V) => NB.out k V (below_call hbr.out hb))
      have BA2 := hide (fun (V : World) (hb : Below wr.heap.size wr V) => BA.out V (below_call hbr.out hb))
      have BB2 := hide (fun (V : World) (hb : Below wr.heap.size wr V) => BB.out V (below_call hbr.out hb))
      obtain ⟨xs, hxs⟩ : ∃ xs, toI (sucZ l k) = xs := ⟨_, rfl⟩
      rw [hxs] at LA2 LB2
      have CS2 := hide (CS.out xs)
      have HBL := hide (befL_len l i i 0)
      obtain ⟨zss, hzss⟩ : ∃ zss, befL l i i 0 = zss := ⟨_, rfl⟩
      rw [hzss] at BA2 BB2 HBL
      have hbl := HBL.out
      unfold ListsPost at BA2 BB2
      rw [hbl] at BA2 BB2
      clear hxs hzss hbl
      go_upto_region 9 with (fail)
      have q0 := fun (w' : World) (hb : Below wr.heap.size wr w') => (R2.out.call hb).cell (k := 0) rfl
      have q1 := fun (w' : World) (hb : Below wr.heap.size wr w') => (R2.out.call hb).cell (k := 1) rfl
      have q2 := fun (w' : World) (hb : Below wr.heap.size wr w') => (R2.out.call hb).cell (k := 2) rfl
      go_region_held3 (fun w' => Below wr.heap.size wr w') (first | exact bb | exact below_draws (Below.refl _ _) 1 | exact below_draws bb _)
        (first
          | (go_at_call 25; with_reducible refine Calls.mono (LA2.out _ (by first | exact bb | exact bb.drew | exact (Below.refl _ _).drew)) ?_; intro e w5 h5; unfold NxPost at h5; obtain ⟨Aa, ca, rfl, hoa, hb5⟩ := h5; have HLa := hide hoa; have bb := below_call (show Below wr.heap.size wr _ from by first | exact bb | exact bb.drew | exact (Below.refl _ _).drew) hb5; clear hoa)
          | (go_at_call 26; with_reducible refine Calls.mono (LB2.out _ (by first | exact bb | exact bb.drew | exact (Below.refl _ _).drew)) ?_; intro e w6 h6; unfold NxPost at h6; obtain ⟨Ab, cb, rfl, hob, hb6⟩ := h6; have HLb := hide hob; have HLa := hide (HLa.out.below hb6); have bb := below_call bb hb6; clear hob)
          | (go_at_call 24; with_reducible refine Calls.mono (CS2.out _ _ _ _ _ HLa HLb) ?_; intro e w7 h7; unfold BoolPost at h7; obtain ⟨rfl, q, rfl⟩ := h7; have bb := below_draws bb q)
          | (go_at_call 28; with_reducible refine Calls.mono (BA2.out _ bb) ?_; rintro e w8 ⟨ga, va, rfl, hla, hb8⟩; have HXa := hide hla; have bb := below_call bb hb8; clear hla)
          | (go_at_call 29; with_reducible refine Calls.mono (BB2.out _ bb) ?_; rintro e w9 ⟨gb, vb, rfl, hlb, hb9⟩; have HXb := hide hlb; have HXa := hide (HXa.out.below hb9); have bb := below_call bb hb9; clear hlb)
          | (go_at_call 27; with_reducible refine Calls.mono (sameall_any _ _ _ _ _ _ _ _ _ HXa HXb HBL (by omega)) ?_; rintro e w10 ⟨rfl, hb10⟩; have bb := below_call bb hb10))
      all_goals
        have HF := hide (HBW.out.trans ((below_call hbr.out bb).mono HBW.out.size))
        clear bb q0 q1 q2 q2' LA2 LB2 CS2 BA2 BB2
        go_wp2_with fail
        go_ret
        exact ⟨rfl, HF.out⟩
end Go.Proofs.Ytipjeihfhnilcaa
end
