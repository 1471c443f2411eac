/-
  The walk of the law BitsetSharesNoMemory: for all codes and n it returns true, and what was in memory before the call is as it was. Conditions: those of the types; the table of TrailingZeros64 lies as its initialiser lays it.
-/
import Derived.Test.YtfpdopfomagngaaDoorBlaws
namespace Go.Proofs.YtfpdopfomagngaaDoor
open Go.RowKit

/-- What an append to nil gives: a copy. -/
theorem copied {w w' : World} {l : List Int} {v : Value} (ha : Hid (Asc l)) (ho : w'.ownsRow w.heap.size 3 1 v l.length (cellsI l)) (hg : w.grownBy w' (Value.slice none 0 0).ownBlock) : ∃ A c, v = .slice A l.length c ∧ Lst w' A l.length l ∧ Below w.heap.size w w' := by
  obtain ⟨A, c, rfl, _, _⟩ := own_form ho
  exact ⟨A, c, rfl, ⟨rfl, by have := ha.out.length; omega, Sees.own ho, asc_rng ha.out⟩, (Below.refl _ _).grown hg (Nat.le_refl _) fun k hk => by cases hk⟩
theorem lst_nil (w : World) : Lst w none 0 [] := ⟨rfl, by omega, Sees.nil_ _ _ _, fun z h => by cases h⟩
/-- Rows that calls made behind w0. -/
structure Chain (w0 w : World) (vs : List Value) : Prop where
  b : Below w0.heap.size w0 w
  own : ∀ v ∈ vs, ∃ n xs, n ≤ 512 ∧ w.ownsRow w0.heap.size 3 1 v n xs
theorem Chain.next {w0 w w' : World} {vs : List Value} {r : List Int} {e : Ending} (h : Chain w0 w vs) (hP : OutPost r w e w') (ha : Hid (Asc r)) : ∃ A c, e = .returned (.slice A r.length c) ∧ Chain w0 w' (vs ++ [.slice A r.length c]) ∧ Below w.heap.size w w' := by
  obtain ⟨A, c, rfl, ho, hb⟩ := hP
  refine ⟨A, c, rfl, ⟨h.b.trans (hb.mono h.b.size), fun v hv => ?_⟩, hb⟩
  rcases List.mem_append.1 hv with h1 | h1
  · obtain ⟨n, xs, hn, h2⟩ := h.own v h1
    exact ⟨n, xs, hn, own_below h2 hb⟩
  · simp at h1
    subst h1
    exact ⟨_, _, ha.out.length, own_lower ho h.b.size⟩
/-- A row between block B and block G, or none. -/
def Can1 (B G : Nat) (A : Option Addr) (n : Nat) : Prop := n = 0 ∨ ∃ g, A = some ⟨g, 0, none⟩ ∧ B ≤ g ∧ g < G
/-- .. which can be written. -/
def Can2 (w : World) (A : Option Addr) (n : Nat) : Prop := ∀ g, A = some ⟨g, 0, none⟩ → ∃ cur, w.heap[g]? = some (.cells cur 3 (0, 0)) ∧ n ≤ cur.size
/-- What all loops keep: the row of slices, what was there before, that each slice can be written. -/
structure Inv (w0 : World) (G : Nat) (vs : List Value) (w : World) : Prop where
  row : Row w G 22 vs
  b : Below w0.heap.size w0 w
  can : ∀ v ∈ vs, ∃ A n c, v = .slice A n c ∧ n ≤ 512 ∧ Can1 w0.heap.size G A n ∧ Can2 w A n
theorem Chain.made {w0 w : World} {vs : List Value} (h : Chain w0 w vs) : Inv w0 w.heap.size vs (w.alloc (.cells vs.toArray 22)) := by
  refine ⟨Row.new w _ vs, h.b.alloc h.b.size _, fun v hv => ?_⟩
  obtain ⟨n, xs, hn, ho⟩ := h.own v hv
  obtain ⟨A, c, rfl, hA, _⟩ := own_form ho
  refine ⟨A, n, c, rfl, hn, ?_, fun g e => ?_⟩
  · rcases Nat.eq_zero_or_pos n with h0 | h0
    · exact .inl h0
    · obtain ⟨g, c', e, hb, hlt, _⟩ := own_block ho h0
      injection e with e1
      exact .inr ⟨g, e1, hb, hlt⟩
  · rcases ho.2 with ⟨e1, h0⟩ | ⟨g', cap, cur, e1, hb, hh, hc, _, hs, _⟩
    · injection e1 with e1
      rw [e] at e1
      cases e1
    · injection e1 with e1 _ e3
      rw [e] at e1
      injection e1 with e1
      injection e1 with e1
      subst e1
      refine ⟨cur, ?_, by omega⟩
      have hlt : g < w.heap.size := by
        rcases Nat.lt_or_ge g w.heap.size with h1 | h1
        · exact h1
        · rw [Array.getElem?_eq_none h1] at hh; simp at hh
      exact (Below.heap_alloc w _ g hlt).trans hh
theorem Inv.store {w0 w : World} {G g t : Nat} {vs : List Value} {u : Value} (h : Inv w0 G vs w) (hg : w0.heap.size ≤ g) (hG : g < G) : Inv w0 G vs (w.setCell ⟨g, t, none⟩ u) := by
  refine ⟨h.row.far (p := ⟨g, t, none⟩) (by show G ≠ g; omega) u, h.b.setCell (p := ⟨g, t, none⟩) hg u, fun v hv => ?_⟩
  obtain ⟨A, n, c, e, hn, h1, h2⟩ := h.can v hv
  refine ⟨A, n, c, e, hn, h1, fun g' e' => ?_⟩
  obtain ⟨cur, hh, hs⟩ := h2 g' e'
  by_cases hgg : g' = g
  · subst hgg
    refine ⟨cur.setIfInBounds t u, ?_, by simpa using hs⟩
    simp [World.setCell, Array.getElem?_modify, hh]
  · exact ⟨cur, (Below.heap_setCell w ⟨g, t, none⟩ u g' hgg).trans hh, hs⟩
theorem Inv.cell {w0 w : World} {G g n t : Nat} {A : Option Addr} (h2 : Can2 w A n) (e : A = some ⟨g, 0, none⟩) (ht : t < n) : ∃ v, w.cell? ⟨g, t, none⟩ = some v ∧ w.frozen? ⟨g, t, none⟩ = false := by
  obtain ⟨cur, hh, hs⟩ := h2 g e
  refine ⟨cur[t], ?_, ?_⟩
  · rw [cell_of_row w g t _ _ (0, 0) hh]
    exact Array.getElem?_eq_getElem (by omega)
  · simp [World.frozen?, hh]

set_option maxRecDepth 100000 in
set_option maxHeartbeats 4000000 in
theorem shlaw_walk (A : Option Addr) (n c : Nat) (zs : List Int) (m : Int) (w : World) (hA : Hid (A = none → c = 0)) (hn : Hid (zs.length = n)) (hnc : n ≤ c) (hm : n ≤ 9223372036854775807) (hs : Hid (Sees w w.heap.size A (cellsU8 zs))) (hz : Hid (∀ z ∈ zs, 0 ≤ z ∧ z ≤ 255)) (hT : Hid (Tab w)) (m0 : -9223372036854775808 ≤ m) (m1 : m ≤ 9223372036854775807) :
    Calls Tryd.prog 7 #[.slice A n c, .int .i64 m] w fun e w' => e = .returned (.bool true) ∧ Below w.heap.size w w' := by
  obtain ⟨i0, hi, hz0, hz1, hz2⟩ := info_parts infoI
  go_enter Tryd.func7, Tryd.ntmps7
  go_wp2_with fail
  refine (awake_any w hT).mono ?_
  rintro e w1 ⟨rfl, hb1⟩
  have HB1 := hide hb1
  clear hb1
  go_wp2_with fail
  refine (new_any A n c zs 120 w1 hA hn hnc hm (by omega) (hide ((hs.out.below HB1.out).more HB1.out.size)) hz).mono ?_
  rintro e w2 ⟨rfl, hC2, hb2⟩
  have HC2 := hide hC2
  have hg2 : w1.heap.size < w2.heap.size := hC2.lt
  have HB2 := hide (below_call HB1.out hb2)
  clear hC2 hb2
  go_wp2_with fail
  refine (set_any w1.heap.size w2 HC2).mono ?_
  rintro e w3 ⟨A_a, c_a, a, rfl, hA_, ho_, ha_, hC_, hG_⟩
  have HA_a := hide hA_
  have HO_a := hide ho_
  have HS_a := hide ha_
  have HC3 := hide hC_
  have hg3 : w1.heap.size < w3.heap.size := hC_.lt
  have HB3 := hide (below_turned HB2.out hG_ HB1.out.size HB2.out.size)
  clear hA_ ho_ ha_ hC_ hG_
  go_wp2_with fail
  refine (set_any w1.heap.size w3 HC3).mono ?_
  rintro e w4 ⟨A_b, c_b, b, rfl, hA_, ho_, ha_, hC_, hG_⟩
  have HA_b := hide hA_
  have HO_b := hide ho_
  have HS_b := hide ha_
  have HC4 := hide hC_
  have hg4 : w1.heap.size < w4.heap.size := hC_.lt
  have HB4 := hide (below_turned HB3.out hG_ HB1.out.size HB3.out.size)
  replace HO_a := hide (own_over HO_a.out hg2 hG_)
  clear hA_ ho_ ha_ hC_ hG_ HB3
  have HL_a : Hid (Lst w4 A_a a.length a) := hide ⟨rfl, by have := HS_a.out.length; omega, Sees.own HO_a.out, asc_rng HS_a.out⟩
  clear HO_a
  have HL_b : Hid (Lst w4 A_b b.length b) := hide ⟨rfl, by have := HS_b.out.length; omega, Sees.own HO_b.out, asc_rng HS_b.out⟩
  clear HO_b
  have na := HS_a.out.length
  have nb := HS_b.out.length
  have nil0 : w4.ownsRow w4.heap.size 3 1 (.slice none 0 0) 0 [] := ⟨rfl, .inl ⟨rfl, rfl⟩⟩
  have SA := hide HL_a.out.see
  have LA := hide (cellsI_length a)
  go_wp2_with (at_builtin; refine wpList_append_sees rfl (.const (.slice none 0 0)) (.tmp 21) 22 rfl w4.heap.size 3 i0 (.int .i64 0) 8 Tryd.underlying22 hi hz0 hz1 hz2 rfl _ 0 [] rfl nil0 w4.heap.size A_a a.length c_a (cellsI a) rfl HA_a LA.out SA.out (cellsI_one a) (by unfold maxLen; omega) (by omega) (Nat.le_refl _) ?_)
  intro vx w5 ho5 hg5
  obtain ⟨A_x, c_x, hvx, HL5x, hb5⟩ := copied HS_a ho5 hg5
  subst hvx
  have HL_x := hide HL5x
  have HB5 := hide (below_call HB4.out hb5)
  replace HL_a := hide (HL_a.out.below hb5)
  replace HL_b := hide (HL_b.out.below hb5)
  have nil5 : w5.ownsRow w5.heap.size 3 1 (.slice none 0 0) 0 [] := ⟨rfl, .inl ⟨rfl, rfl⟩⟩
  have SB := hide HL_b.out.see
  have LB := hide (cellsI_length b)
  clear ho5 hg5 HL5x hb5 nil0 SA LA HB4
  go_wp2_with (at_builtin; refine wpList_append_sees rfl (.const (.slice none 0 0)) (.tmp 23) 22 rfl w5.heap.size 3 i0 (.int .i64 0) 8 Tryd.underlying22 hi hz0 hz1 hz2 rfl _ 0 [] rfl nil5 w5.heap.size A_b b.length c_b (cellsI b) rfl HA_b LB.out SB.out (cellsI_one b) (by unfold maxLen; omega) (by omega) (Nat.le_refl _) ?_)
  intro vy w6 ho6 hg6
  obtain ⟨A_y, c_y, hvy, HL6y, hb6⟩ := copied HS_b ho6 hg6
  subst hvy
  have HL_y := hide HL6y
  have HB6 := hide (below_call HB5.out hb6)
  replace HL_a := hide (HL_a.out.below hb6)
  replace HL_b := hide (HL_b.out.below hb6)
  replace HL_x := hide (HL_x.out.below hb6)
  clear ho6 hg6 HL6y hb6 nil5 SB LB HB5
  have HE0 : Hid (Chain w6 w6 []) := hide ⟨Below.refl _ _, fun v h => by cases h⟩
  have HB0 := HB6
  have HK_a := HL_a
  have HK_b := HL_b
  have HK_x := HL_x
  have HK_y := HL_y
  clear HL_x HL_y
  obtain ⟨r1, e_⟩ : ∃ l, addL a m = l := ⟨_, rfl⟩
  have HE_r1 := hide e_
  have HS_r1 : Hid (Asc r1) := hide (e_ ▸ addL_asc HS_a.out)
  clear e_
  obtain ⟨r2, e_⟩ : ∃ l, removeL a m = l := ⟨_, rfl⟩
  have HE_r2 := hide e_
  have HS_r2 : Hid (Asc r2) := hide (e_ ▸ remove_asc HS_a.out)
  clear e_
  obtain ⟨r3, e_⟩ : ∃ l, unionL a b = l := ⟨_, rfl⟩
  have HE_r3 := hide e_
  have HS_r3 : Hid (Asc r3) := hide (e_ ▸ unionL_asc HS_a.out)
  clear e_
  obtain ⟨r4, e_⟩ : ∃ l, unionL b [] = l := ⟨_, rfl⟩
  have HE_r4 := hide e_
  have HS_r4 : Hid (Asc r4) := hide (e_ ▸ unionL_asc HS_b.out)
  clear e_
  obtain ⟨r5, e_⟩ : ∃ l, meetL a a = l := ⟨_, rfl⟩
  have HE_r5 := hide e_
  have HS_r5 : Hid (Asc r5) := hide (e_ ▸ meet_asc HS_a.out)
  clear e_
  obtain ⟨r6, e_⟩ : ∃ l, minusL a [] = l := ⟨_, rfl⟩
  have HE_r6 := hide e_
  have HS_r6 : Hid (Asc r6) := hide (e_ ▸ minus_asc HS_a.out)
  clear e_
  obtain ⟨r7, e_⟩ : ∃ l, unionL [] a = l := ⟨_, rfl⟩
  have HE_r7 := hide e_
  have HS_r7 : Hid (Asc r7) := hide (e_ ▸ unionL_asc .nil)
  clear e_
  go_wp2_with fail
  refine (t_add c_a HL_a HS_a m0 m1 (hide (hT.out.below HB6.out)) HE_r1).mono ?_
  rintro e w7 hP
  obtain ⟨A1, c1, rfl, hE_, hb_⟩ := HE0.out.next hP HS_r1
  have HE1 := hide hE_
  have HB7 := hide (below_call HB6.out hb_)
  replace HL_a := hide (HL_a.out.below hb_)
  replace HL_b := hide (HL_b.out.below hb_)
  clear hP hE_ hb_ HB6 HE0
  go_wp2_with fail
  refine (t_remove c_a HL_a HS_a m0 m1 (hide (hT.out.below HB7.out)) HE_r2).mono ?_
  rintro e w8 hP
  obtain ⟨A2, c2, rfl, hE_, hb_⟩ := HE1.out.next hP HS_r2
  have HE2 := hide hE_
  have HB8 := hide (below_call HB7.out hb_)
  replace HL_a := hide (HL_a.out.below hb_)
  replace HL_b := hide (HL_b.out.below hb_)
  clear hP hE_ hb_ HB7 HE1
  go_wp2_with fail
  refine (t_union c_a c_b HL_a HL_b HS_a HS_b (hide (hT.out.below HB8.out)) HE_r3).mono ?_
  rintro e w9 hP
  obtain ⟨A3, c3, rfl, hE_, hb_⟩ := HE2.out.next hP HS_r3
  have HE3 := hide hE_
  have HB9 := hide (below_call HB8.out hb_)
  replace HL_a := hide (HL_a.out.below hb_)
  replace HL_b := hide (HL_b.out.below hb_)
  clear hP hE_ hb_ HB8 HE2
  go_wp2_with fail
  refine (t_union c_b 0 HL_b (hide (lst_nil w9)) HS_b (hide Asc.nil) (hide (hT.out.below HB9.out)) HE_r4).mono ?_
  rintro e w10 hP
  obtain ⟨A4, c4, rfl, hE_, hb_⟩ := HE3.out.next hP HS_r4
  have HE4 := hide hE_
  have HB10 := hide (below_call HB9.out hb_)
  replace HL_a := hide (HL_a.out.below hb_)
  replace HL_b := hide (HL_b.out.below hb_)
  clear hP hE_ hb_ HB9 HE3
  go_wp2_with fail
  refine (t_meet c_a c_a HL_a HL_a HS_a (hide (hT.out.below HB10.out)) HE_r5).mono ?_
  rintro e w11 hP
  obtain ⟨A5, c5, rfl, hE_, hb_⟩ := HE4.out.next hP HS_r5
  have HE5 := hide hE_
  have HB11 := hide (below_call HB10.out hb_)
  replace HL_a := hide (HL_a.out.below hb_)
  replace HL_b := hide (HL_b.out.below hb_)
  clear hP hE_ hb_ HB10 HE4
  go_wp2_with fail
  refine (t_minus c_a 0 HL_a (hide (lst_nil w11)) HS_a (hide (hT.out.below HB11.out)) HE_r6).mono ?_
  rintro e w12 hP
  obtain ⟨A6, c6, rfl, hE_, hb_⟩ := HE5.out.next hP HS_r6
  have HE6 := hide hE_
  have HB12 := hide (below_call HB11.out hb_)
  replace HL_a := hide (HL_a.out.below hb_)
  replace HL_b := hide (HL_b.out.below hb_)
  clear hP hE_ hb_ HB11 HE5
  go_wp2_with fail
  refine (t_of c_a HL_a (hide (hT.out.below HB12.out)) HE_r7).mono ?_
  rintro e w13 hP
  obtain ⟨A7, c7, rfl, hE_, hb_⟩ := HE6.out.next hP HS_r7
  have HE7 := hide hE_
  have HB13 := hide (below_call HB12.out hb_)
  replace HL_a := hide (HL_a.out.below hb_)
  replace HL_b := hide (HL_b.out.below hb_)
  clear hP hE_ hb_ HB12 HE6
  go_wp2_with fail
  obtain ⟨W, eW⟩ : ∃ W, W = w13.alloc (.cells #[.slice A1 r1.length c1, .slice A2 r2.length c2, .slice A3 r3.length c3, .slice A4 r4.length c4, .slice A5 r5.length c5, .slice A6 r6.length c6, .slice A7 r7.length c7] 22) := ⟨_, rfl⟩
  rw [← eW]
  have HI : Hid (Inv w6 w13.heap.size [.slice A1 r1.length c1, .slice A2 r2.length c2, .slice A3 r3.length c3, .slice A4 r4.length c4, .slice A5 r5.length c5, .slice A6 r6.length c6, .slice A7 r7.length c7] W) := hide (by rw [eW]; exact HE7.out.made)
  clear eW HE7 HE_r1 HE_r2 HE_r3 HE_r4 HE_r5 HE_r6 HE_r7 HL_a HL_b
  have HV := hide (show ([.slice A1 r1.length c1, .slice A2 r2.length c2, .slice A3 r3.length c3, .slice A4 r4.length c4, .slice A5 r5.length c5, .slice A6 r6.length c6, .slice A7 r7.length c7] : List Value).length = 7 from rfl)
  obtain ⟨vs, evs⟩ : ∃ vs : List Value, vs = [.slice A1 r1.length c1, .slice A2 r2.length c2, .slice A3 r3.length c3, .slice A4 r4.length c4, .slice A5 r5.length c5, .slice A6 r6.length c6, .slice A7 r7.length c7] := ⟨_, rfl⟩
  rw [← evs] at HI HV
  clear evs
  go_loopw [45] (fun i wr => Hid (∃ j : Nat, j ≤ 7 ∧ i = .int .i64 j ∧ Inv w6 w13.heap.size vs wr)) (fun i _ => 7 - (intOf i).toNat)
  case atStart => exact hide ⟨0, by omega, rfl, HI.out⟩
  case round =>
    clear HI
    obtain ⟨j, hj, rfl, hi_⟩ := hrel.out
    have HI := hide hi_
    clear hrel hi_
    by_cases hlt : j < 7
    · have hvj : j < vs.length := by rw [HV.out]; exact hlt
      obtain ⟨A0, n0, c0, hv, hn0, hcan⟩ := HI.out.can vs[j] (List.getElem_mem hvj)
      have hc := HI.out.row.cell (List.getElem?_eq_getElem hvj)
      rw [hv] at hc
      have hd : decide ((j : Int) < 7) = true := decide_eq_true (by omega)
      have HM := hide (show Value.slice A0 n0 c0 ∈ vs by rw [← hv]; exact List.getElem_mem hvj)
      have HC := hide (show Can1 w6.heap.size w13.heap.size A0 n0 from hcan.1)
      clear hv hvj hcan
      go_wp2_with fail
      clear hc
      obtain ⟨wo, ewo⟩ : ∃ wo : World, wo = wr := ⟨_, rfl⟩
      rw [← ewo] at HI ⊢
      clear ewo
      go_loopw [12] (fun i w' => Hid (∃ t : Nat, t ≤ n0 ∧ i = .int .i64 t ∧ Inv w6 w13.heap.size vs w')) (fun i _ => n0 - (intOf i).toNat)
      case atStart => exact hide ⟨0, by omega, rfl, HI.out⟩
      case round =>
        clear HI
        obtain ⟨t, ht, rfl, hi_⟩ := hrel.out
        have HI2 := hide hi_
        clear hrel hi_
        by_cases htn : t < n0
        · obtain ⟨g, eg, hgB, hgG⟩ : ∃ g, A0 = some ⟨g, 0, none⟩ ∧ w6.heap.size ≤ g ∧ g < w13.heap.size := by
            rcases HC.out with h0 | h0
            · omega
            · exact h0
          subst eg
          obtain ⟨A', n', c', e, _, _, h2⟩ := HI2.out.can _ HM.out
          injection e with e1 e2 e3
          subst e1 e2 e3
          obtain ⟨v, hcell, hfree⟩ := Inv.cell (w0 := w6) (G := w13.heap.size) h2 rfl htn
          have R : Hid (∃ t' : Nat, t' ≤ n0 ∧ (Value.int .i64 ((t : Int) + 1)) = .int .i64 t' ∧ Inv w6 w13.heap.size vs (wr.setCell ⟨g, t, none⟩ (.int .i64 (-1)))) := hide ⟨t + 1, by omega, by go_num, HI2.out.store hgB hgG⟩
          clear h2
          go_wp2_with fail
          go_roundw
          case rel => exact R
          case measure => simp [intOf]; omega
        · obtain rfl : t = n0 := by omega
          have R : Hid (∃ j' : Nat, j' ≤ 7 ∧ (Value.int .i64 ((j : Int) + 1)) = .int .i64 j' ∧ Inv w6 w13.heap.size vs wr) := hide ⟨j + 1, by omega, by go_num, HI2.out⟩
          go_wp2_with fail
          go_roundw
          case rel => exact R
          case measure => simp [intOf]; omega
    · obtain rfl : j = 7 := by omega
      have S1 := hide (HK_a.out.below HI.out.b)
      have S2 := hide (HK_x.out.below HI.out.b)
      have HBe := hide (below_call HB0.out HI.out.b)
      go_wp2_with fail
      refine (s_same c_a c_x S1 S2 (hide (decide_eq_true rfl))).mono ?_
      rintro e w20 ⟨rfl, hb_⟩
      have S3 := hide ((HK_b.out.below HI.out.b).below hb_)
      have S4 := hide ((HK_y.out.below HI.out.b).below hb_)
      have HBf := hide (below_call HBe.out hb_)
      clear hb_ S1 S2
      go_wp2_with fail
      refine (s_same c_b c_y S3 S4 (hide (decide_eq_true rfl))).mono ?_
      rintro e w21 ⟨rfl, hb_⟩
      have HBg := hide (below_call HBf.out hb_)
      clear hb_ S3 S4
      go_wp2_with fail
      go_ret
      exact ⟨rfl, HBg.out⟩
end Go.Proofs.YtfpdopfomagngaaDoor
