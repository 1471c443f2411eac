import Derived.Test.YtlcmcmocjbeocaaMGfun
import Derived.Test.YtlcmcmocjbeocaaMBlists
set_option linter.unusedVariables false
set_option linter.unusedSimpArgs false
section
/-
  PostorderOrder's law, walked: it returns true. Conditions: those of the types.
-/
namespace Go.Proofs.Ytlcmcmocjbeocaa
open Go.RowKit

/-- The ranks of an order, as a list. -/
def rkL (n : Nat) (O : List Nat) : List Int := (List.range n).map fun k => if k ∈ O then ((O.idxOf k : Nat) : Int) else -1
theorem rkL_is {n : Nat} {O : List Nat} (h : O.Nodup) (hlt : ∀ x ∈ O, x < n) : IsRk n O (rkL n O) := by
  refine ⟨by simp [rkL], fun i k he => ?_, fun k hk hno => by simp [rkL, hk, hno]⟩
  have hm := List.mem_of_getElem? he
  have hk := hlt k hm
  have h1 : O[O.idxOf k]? = some k := by
    rw [List.getElem?_eq_getElem (List.idxOf_lt_length_iff.2 hm), List.getElem_idxOf]
  have h2 := nodup_at h h1 he
  simp [rkL, hk, hm, h2]
/-- What a function hands back: a list that can be read. -/
def LsPost (xs : List Int) (w : World) (e : Ending) (w' : World) : Prop := ∃ A c, e = .returned (.slice A xs.length c) ∧ Lst w' A xs.length xs ∧ Below w.heap.size w w'
theorem LsPost.own {xs : List Int} {w w' : World} {e : Ending} (h : OutPost xs w e w') (hl : xs.length ≤ 1024) (hr : ∀ x ∈ xs, -1 ≤ x ∧ x ≤ 1024) : LsPost xs w e w' := by
  obtain ⟨A, c, he, ho, hb⟩ := h
  exact ⟨A, c, he, ⟨rfl, by omega, Sees.ownN ho, fun x hx => by have := hr x hx; omega⟩, hb⟩
theorem LsPost.ints {xs : List Int} {w w' : World} {e : Ending} (h : IntsPost xs w e w') (hl : xs.length ≤ 1024) (hr : ∀ x ∈ xs, -1 ≤ x ∧ x ≤ 1024) : LsPost xs w e w' := by
  obtain ⟨G, he, hR, hG, hb⟩ := h
  exact ⟨_, _, he, ⟨rfl, by omega, fun k u hu => ⟨G, 0, rfl, hR.lt, by rw [Nat.zero_add]; exact hR.cell hu⟩, fun x hx => by have := hr x hx; omega⟩, hb⟩
/-- What the functions of chapter 14 give of a function f: the order O and the ranks Q. -/
structure Ord14 (l : List Ins) (n : Nat) (O : List Nat) (Q : List Int) : Prop where
  ord : IsOrd (suc l) n O
  rk : IsRk n O Q
  one : ∀ L, IsLft (suc l) n L → L.reverse = O
theorem ord14 {l : List Ins} (hok : FlowOk l) {n : Nat} (hn : l.length = n) (h1 : 1 ≤ n) : ∃ O Q, Ord14 l n O Q := by
  obtain ⟨L, hL⟩ := IsLft.ex (S := suc l) (n := n) (fun k j hj => by have := suc_lt hok hj; omega) (by omega)
  have ho := hL.ord (by omega)
  exact ⟨L.reverse, rkL n L.reverse, ho, rkL_is ho.nodup ho.lt, fun L' h' => by rw [h'.one hL]⟩
section
variable {l : List Ins} {n : Nat} {O : List Nat} {Q : List Int} {w w' : World} {e : Ending}
theorem Ord14.order (h : Ord14 l n O Q) (hn : n ≤ 1024) (hp : OrdPost l n w e w') : LsPost (toI O) w e w' := by
  obtain ⟨L, hL, hp⟩ := hp
  rw [h.one L hL] at hp
  refine LsPost.own hp (by rw [toI_len]; have := h.ord.len; omega) fun x hx => ?_
  obtain ⟨j, hj, rfl⟩ := List.mem_map.1 hx
  have := h.ord.lt j hj
  omega
theorem Ord14.rng (h : Ord14 l n O Q) (hn : n ≤ 1024) : ∀ x ∈ Q, -1 ≤ x ∧ x ≤ 1024 := fun x hx => by
  obtain ⟨k, hk, e⟩ := List.mem_iff_getElem.1 hx
  have hkn : k < n := by rw [← h.rk.len]; exact hk
  have e2 : Q[k]? = some x := by rw [← e]; exact List.getElem?_eq_getElem hk
  have := h.ord.len
  rcases h.rk.get hkn with ⟨q, -⟩ | ⟨i, q, -, hi⟩
  · rw [e2] at q; injection q with q; omega
  · rw [e2] at q; injection q with q; omega
theorem Ord14.ranks (h : Ord14 l n O Q) (hn : n ≤ 1024) (hp : RankPost l n w e w') : IntsPost Q w e w' := by
  obtain ⟨L, hL, Q', hQ', hp⟩ := hp
  rw [h.one L hL] at hQ'
  rw [h.rk.one hQ']
  exact hp
theorem Ord14.rank (h : Ord14 l n O Q) (hn : n ≤ 1024) (hp : RankPost l n w e w') : LsPost Q w e w' :=
  LsPost.ints (h.ranks hn hp) (by rw [h.rk.len]; omega) (h.rng hn)
end
set_option maxRecDepth 100000 in
set_option maxHeartbeats 2000000 in
theorem orderlaw_walk (A0 : Option Addr) (n0 c0 : Nat) (zs : List Int) (w : World)
    (hA : Hid (A0 = none → c0 = 0)) (hn : Hid (zs.length = n0)) (hnc : n0 ≤ c0) (hm : n0 ≤ 9223372036854775807) (hs : Hid (Sees w w.heap.size A0 (cellsU8 zs))) (hz : Hid (∀ z ∈ zs, 0 ≤ z ∧ z ≤ 255)) :
    Calls Try.prog 3 #[.slice A0 n0 c0] w fun e w' => e = .returned (.bool true) ∧ Below w.heap.size w w' := by
  go_enter Try.func3, Try.ntmps3
  go_wp2_with fail
  refine (awake14_any w).mono ?_
  rintro e w1 ⟨rfl, hb1⟩
  have HB1 := hide hb1
  have HS1 := hide ((hs.out.below hb1).more hb1.size)
  clear hb1
  go_wp2_with fail
  refine (function14_any A0 n0 c0 zs w1 hA hn hnc hm HS1 hz).mono ?_
  rintro e w2 ⟨P, A1, n1, c1, A2, n2, c2, l, rfl, hC, hok, hn2, hb2⟩
  obtain ⟨W, hW⟩ : ∃ V, w2.alloc (.cells #[.int .i64 P, .slice A1 n1 c1, .slice A2 n2 c2] 27) = V := ⟨_, rfl⟩
  have HW := hide hW
  have hb3 : Below w2.heap.size w2 W := by rw [← hW]; exact below1 _ _
  obtain ⟨B, hB⟩ : ∃ B, w2.heap.size = B := ⟨_, rfl⟩
  have HBB := hide hB
  have RB := hide (show Row W B 27 [.int .i64 P, .slice A1 n1 c1, .slice A2 n2 c2] by rw [← hW, ← hB]; exact Row.new w2 _ _)
  have HC := hide (hC.below hb3)
  have HBW := hide (HB1.out.trans ((hb2.trans (hb3.mono hb2.size)).mono HB1.out.size))
  have hn3 := hC.few
  obtain ⟨O, Q, hOQ⟩ := ord14 hok hC.len hn2
  have OA := hide (fun (V : World) (hb : Below W.heap.size W V) => (order_any (P := P) (A1 := A1) (n1 := n1) (c1 := c1) (c2 := c2) V (hide (HC.out.below hb)) (hide hok) hn2).mono fun e w' q => hOQ.order hn3 q)
  have OB := hide (fun (V : World) (hb : Below W.heap.size W V) => (rorder_any (P := P) (A1 := A1) (n1 := n1) (c1 := c1) (c2 := c2) V (hide (HC.out.below hb)) (hide hok) hn2).mono fun e w' q => hOQ.order hn3 q)
  have RA := hide (fun (V : World) (hb : Below W.heap.size W V) => (rank_any (P := P) (A1 := A1) (n1 := n1) (c1 := c1) (c2 := c2) V (hide (HC.out.below hb)) (hide hok) hn2).mono fun e w' q => hOQ.rank hn3 q)
  have RR := hide (fun (V : World) (hb : Below W.heap.size W V) => (rrank_any (P := P) (A1 := A1) (n1 := n1) (c1 := c1) (c2 := c2) V (hide (HC.out.below hb)) (hide hok) hn2).mono fun e w' q => hOQ.rank hn3 q)
  have CS := hide (fun (xs : List Int) (A : Option Addr) (c : Nat) (A' : Option Addr) (c' : Nat) (V : World) (h : Hid (Lst V A xs.length xs)) (h' : Hid (Lst V A' xs.length xs)) => (show Calls Try.prog 10 #[.slice A xs.length c, .slice A' xs.length c'] V (BoolPost true V) by have h3 := lsame_any A xs.length c xs A' xs.length c' xs V h h'; rwa [show decide (xs = xs) = true from decide_eq_true rfl] at h3))
  obtain ⟨xs, hxs⟩ : ∃ xs, toI O = xs := ⟨_, rfl⟩
  rw [hxs] at OA OB
  clear hC hok hb2 hb3 hW hB HS1 HB1 hn2 hxs hOQ
  go_upto_region 4 with (fail)
  rw [HW.out, HBB.out]
  clear HW HBB
  have q0 := fun (w' : World) (hb : Below W.heap.size W w') => (RB.out.call hb).cell (k := 0) rfl
  have q1 := fun (w' : World) (hb : Below W.heap.size W w') => (RB.out.call hb).cell (k := 1) rfl
  have q2 := fun (w' : World) (hb : Below W.heap.size W w') => (RB.out.call hb).cell (k := 2) rfl
  go_region_held3 (fun w' => Below W.heap.size W w') (first | exact bb | exact below_draws (Below.refl _ _) 1 | exact below_draws bb _)
    (first
      | (go_at_call 11; with_reducible refine Calls.mono (OA.out _ (by first | exact bb | exact bb.drew | exact (Below.refl _ _).drew)) ?_; intro e w5 h5; unfold LsPost at h5; obtain ⟨Aa, ca, rfl, hoa, hb5⟩ := h5; have HLa := hide hoa; have bb := below_call (show Below W.heap.size W _ from by first | exact bb | exact bb.drew | exact (Below.refl _ _).drew) hb5; clear hoa)
      | (go_at_call 12; with_reducible refine Calls.mono (OB.out _ bb) ?_; intro e w6 h6; unfold LsPost at h6; obtain ⟨Ab, cb, rfl, hob, hb6⟩ := h6; have HLb := hide hob; have HLa := hide (HLa.out.below hb6); have bb := below_call bb hb6; clear hob)
      | (go_at_call 13; with_reducible refine Calls.mono (RA.out _ bb) ?_; intro e w5 h5; unfold LsPost at h5; obtain ⟨Ac, cc, rfl, hoa, hb5⟩ := h5; have HLc := hide hoa; have bb := below_call bb hb5; clear hoa)
      | (go_at_call 14; with_reducible refine Calls.mono (RR.out _ bb) ?_; intro e w6 h6; unfold LsPost at h6; obtain ⟨Ad, cd, rfl, hob, hb6⟩ := h6; have HLd := hide hob; have HLc := hide (HLc.out.below hb6); have bb := below_call bb hb6; clear hob)
      | (go_at_call 10; with_reducible refine Calls.mono (CS.out _ _ _ _ _ _ HLc HLd) ?_; intro e w7 h7; unfold BoolPost at h7; obtain ⟨rfl, q, rfl⟩ := h7; have bb := below_draws bb q)
      | (go_at_call 10; with_reducible refine Calls.mono (CS.out _ _ _ _ _ _ HLa HLb) ?_; intro e w7 h7; unfold BoolPost at h7; obtain ⟨rfl, q, rfl⟩ := h7; have bb := below_draws bb q))
  all_goals
    have HF := hide (HBW.out.trans (bb.mono HBW.out.size))
    clear bb q0 q1 q2 OA OB RA RR
    go_wp2_with fail
    go_ret
    exact ⟨rfl, HF.out⟩
end Go.Proofs.Ytlcmcmocjbeocaa
end
