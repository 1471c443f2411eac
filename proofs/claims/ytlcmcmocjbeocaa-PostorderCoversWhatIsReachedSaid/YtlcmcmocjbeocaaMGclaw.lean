import Derived.Test.YtlcmcmocjbeocaaMGbk
import Derived.Test.YtlcmcmocjbeocaaMFrr
import Derived.Test.YtlcmcmocjbeocaaMLaw
set_option linter.unusedVariables false
set_option linter.unusedSimpArgs false
section
/-
  PostorderCoversWhatIsReached's law, walked: it returns true. Conditions: those of the types.
-/
namespace Go.Proofs.Ytlcmcmocjbeocaa
open Go.RowKit

theorem lft_count {S : Nat → List Nat} {n : Nat} {L : List Nat} {R : List Bool} (hn : 0 < n) (h : IsLft S n L) (hR : IsRch S n R) : L.length = R.count true := by
  have ho := h.ord hn
  obtain ⟨Rf, hV⟩ := h
  have hc := hV.cnt
  obtain ⟨M, e, m⟩ := hV.made
  rw [List.nil_append] at e
  subst e
  have h1 : IsRch S n Rf := ⟨by rw [hc.1, List.length_replicate], fun k hk => by
    rw [m.mem, ← ho.way k, List.mem_reverse]
    constructor
    · rintro (h | h)
      · rw [List.getElem?_replicate] at h
        split at h <;> cases h
      · exact h
    · exact .inr⟩
  rw [hR.one h1]
  have h2 := hc.2.1
  have h3 : Rf.count true + Rf.count false = Rf.length := by
    clear h1 h2 hR hc m hV ho
    induction Rf with
    | nil => rfl
    | cons b r ih => cases b <;> simp <;> omega
  simp at h2
  rw [h1.len] at h3
  omega
theorem lft_cnt14 {l : List Ins} {n : Nat} {O : List Nat} {Q : List Int} {R : List Bool} (h : Ord14 l n O Q) (hR : IsRch (suc l) n R) (hn : 1 ≤ n) (hl : l.length = n) (hok : FlowOk l) : O.length = R.count true := by
  obtain ⟨L, hL⟩ := IsLft.ex (S := suc l) (n := n) (fun k j hj => by have := suc_lt hok hj; omega) (by omega)
  rw [← h.one L hL, List.length_reverse]
  exact lft_count (by omega) hL hR
theorem count_take {R : List Bool} {k : Nat} {b : Bool} (h : R[k]? = some b) : (R.take (k + 1)).count true = (R.take k).count true + (if b = true then 1 else 0) := by
  rw [List.take_add_one, h, List.count_append]
  cases b <;> simp
/-- Whether a pair is among the first j. -/
def anyB (bs : List (Nat × Nat)) (u : Nat × Nat) (j : Nat) : Bool := (bs.take j).any fun x => (x.1 : Int) == (u.1 : Int) && (x.2 : Int) == (u.2 : Int)
theorem anyB_step {bs : List (Nat × Nat)} {u x : Nat × Nat} {j : Nat} (h : bs[j]? = some x) : anyB bs u (j + 1) = (anyB bs u j || ((x.1 : Int) == (u.1 : Int) && (x.2 : Int) == (u.2 : Int))) := by
  unfold anyB; rw [List.take_add_one, h, List.any_append]; simp
theorem anyB_all {bs : List (Nat × Nat)} {u : Nat × Nat} : anyB bs u bs.length = decide (u ∈ bs) := by
  unfold anyB
  rw [List.take_length, Bool.eq_iff_iff, List.any_eq_true, decide_eq_true_iff]
  constructor
  · rintro ⟨x, hx, he⟩
    simp at he
    obtain ⟨x1, x2⟩ := x
    obtain ⟨u1, u2⟩ := u
    have e1 : x1 = u1 := by have := he.1; simp only at this; omega
    have e2 : x2 = u2 := by have := he.2; simp only at this; omega
    rw [← e1, ← e2]
    exact hx
  · exact fun h => ⟨u, h, by simp⟩
/-- What the law's loops read. -/
structure CvA (w : World) (B : Nat) (P : Int) (A1 : Option Addr) (n1 c1 : Nat) (A2 : Option Addr) (n2 c2 : Nat) (bo oo : Nat) (O : List Nat) (bq oq : Nat) (Q : List Int) (Ab : Option Addr) (bs : List (Nat × Nat)) (Gr : Nat) (R : List Bool) : Prop where
  f : Row w B 27 [.int .i64 P, .slice A1 n1 c1, .slice A2 n2 c2]
  o : ∀ i x : Nat, O[i]? = some x → w.cell? ⟨bo, oo + i, none⟩ = some (.int .i64 (x : Int))
  q : ∀ (i : Nat) (x : Int), Q[i]? = some x → w.cell? ⟨bq, oq + i, none⟩ = some (.int .i64 x)
  b : Sees w w.heap.size Ab (bkcells bs)
  r : Row w Gr 4 (bcells R)
theorem CvA.below {w w2 : World} {B : Nat} {P : Int} {A1 : Option Addr} {n1 c1 : Nat} {A2 : Option Addr} {n2 c2 : Nat} {bo oo : Nat} {O : List Nat} {bq oq : Nat} {Q : List Int} {Ab : Option Addr} {bs : List (Nat × Nat)} {Gr : Nat} {R : List Bool} (h : CvA w B P A1 n1 c1 A2 n2 c2 bo oo O bq oq Q Ab bs Gr R) (hb : Below w.heap.size w w2) : CvA w2 B P A1 n1 c1 A2 n2 c2 bo oo O bq oq Q Ab bs Gr R :=
  ⟨h.f.call hb, fun i x hx => keep_cellB hb (h.o i x hx), fun i x hx => keep_cellB hb (h.q i x hx), (h.b.below hb).more hb.size, h.r.call hb⟩
set_option maxRecDepth 100000 in
set_option maxHeartbeats 2000000 in
theorem coverlaw_walk (A0 : Option Addr) (n0 c0 : Nat) (zs : List Int) (w : World)
    (hA : Hid (A0 = none → c0 = 0)) (hn : Hid (zs.length = n0)) (hnc : n0 ≤ c0) (hm : n0 ≤ 9223372036854775807) (hs : Hid (Sees w w.heap.size A0 (cellsU8 zs))) (hz : Hid (∀ z ∈ zs, 0 ≤ z ∧ z ≤ 255)) :
    Calls Try.prog 6 #[.slice A0 n0 c0] w fun e w' => e = .returned (.bool true) ∧ Below w.heap.size w w' := by
  go_enter Try.func6, Try.ntmps6
  go_wp2_with fail
  refine (awake14_any w).mono ?_
  rintro e w1 ⟨rfl, hb1⟩
  have HB1 := hide hb1
  have HS1 := hide ((hs.out.below hb1).more hb1.size)
  clear hb1
  go_wp2_with fail
  refine (function14_any A0 n0 c0 zs w1 hA hn hnc hm HS1 hz).mono ?_
  rintro e w2 ⟨P, A1, n1, c1, A2, n2, c2, l, rfl, hC, hok, hn2, hb2⟩
  obtain ⟨W, hW⟩ : ∃ V, w2.alloc (.cells #[.int .i64 P, .slice A1 n1 c1, .slice A2 n2 c2] 27) = V := ⟨_, rfl⟩
  have HW := hide hW
  have hb3 : Below w2.heap.size w2 W := by rw [← hW]; exact below1 _ _
  obtain ⟨B, hB⟩ : ∃ B, w2.heap.size = B := ⟨_, rfl⟩
  have HBB := hide hB
  have RB := hide (show Row W B 27 [.int .i64 P, .slice A1 n1 c1, .slice A2 n2 c2] by rw [← hW, ← hB]; exact Row.new w2 _ _)
  have HC := hide (hC.below hb3)
  have HBW := hide (HB1.out.trans ((hb2.trans (hb3.mono hb2.size)).mono HB1.out.size))
  have hn3 := hC.few
  obtain ⟨O, Q, hOQ⟩ := ord14 hok hC.len hn2
  have CO := hide (fun (V : World) (hb : Below W.heap.size W V) => (order_any (P := P) (A1 := A1) (n1 := n1) (c1 := c1) (c2 := c2) V (hide (HC.out.below hb)) (hide hok) hn2).mono fun e w' q => hOQ.order hn3 q)
  have CR := hide (fun (V : World) (hb : Below W.heap.size W V) => (rank_any (P := P) (A1 := A1) (n1 := n1) (c1 := c1) (c2 := c2) V (hide (HC.out.below hb)) (hide hok) hn2).mono fun e w' q => hOQ.rank hn3 q)
  have CB := hide (fun (V : World) (hb : Below W.heap.size W V) => (back_any (P := P) (A1 := A1) (n1 := n1) (c1 := c1) (c2 := c2) V (hide (HC.out.below hb)) (hide hok) hn2 (hide hOQ)).mono fun e w' q => PrPost.of q)
  have CH := hide (fun (V : World) (hb : Below W.heap.size W V) => rreached_any (P := P) (A1 := A1) (n1 := n1) (c1 := c1) (c2 := c2) V (hide (HC.out.below hb)) (hide hok) hn2)
  have CN := hide (fun (k : Nat) (V : World) (hb : Below W.heap.size W V) => rnext_any (P := P) (A1 := A1) (n1 := n1) (c1 := c1) (c2 := c2) (k : Int) V (hide (HC.out.below hb)) hok)
  have HMB := hide (fun (k j : Nat) => mem_bkL (S := suc l) (Q := Q) (m := n2) (k := k) (j := j))
  have hbl := bkL_len (S := suc l) (suc_len l) Q n2
  obtain ⟨bs, hbs⟩ : ∃ bs, bkL (suc l) Q n2 = bs := ⟨_, rfl⟩
  rw [hbs] at CB HMB hbl
  have HOK := hide hok
  have HOQ := hide hOQ
  have HCL := hide hC.len
  clear hC hok hb2 hb3 hW hB HS1 HB1 hbs hOQ
  go_upto_region 4 with (fail)
  rw [HW.out, HBB.out]
  clear HW HBB
  have q0 := fun (w' : World) (hb : Below W.heap.size W w') => (RB.out.call hb).cell (k := 0) rfl
  have q1 := fun (w' : World) (hb : Below W.heap.size W w') => (RB.out.call hb).cell (k := 1) rfl
  have q2 := fun (w' : World) (hb : Below W.heap.size W w') => (RB.out.call hb).cell (k := 2) rfl
  go_region_held3 (fun w' => Below W.heap.size W w') (first | exact bb | exact below_draws (Below.refl _ _) 1 | exact below_draws bb _)
    (first
      | (go_at_call 11; with_reducible refine Calls.mono (CO.out _ (by first | exact bb | exact bb.drew | exact (Below.refl _ _).drew)) ?_; intro e w5 h5; unfold LsPost at h5; obtain ⟨Aa, ca, rfl, hoa, hb5⟩ := h5; have HLa := hide hoa; have bb := below_call (show Below W.heap.size W _ from by first | exact bb | exact bb.drew | exact (Below.refl _ _).drew) hb5; clear hoa)
      | (go_at_call 13; with_reducible refine Calls.mono (CR.out _ bb) ?_; intro e w6 h6; unfold LsPost at h6; obtain ⟨Ab, cb, rfl, hob, hb6⟩ := h6; have HLb := hide hob; have HLa := hide (HLa.out.below hb6); have bb := below_call bb hb6; clear hob)
      | (go_at_call 15; with_reducible refine Calls.mono (CB.out _ bb) ?_; intro e w7 h7; unfold PrPost at h7; obtain ⟨Ac, cc, rfl, hoc, hb7⟩ := h7; have HLc := hide hoc; have HLa := hide (HLa.out.below hb7); have HLb := hide (HLb.out.below hb7); have bb := below_call bb hb7; clear hoc))
  all_goals
    have BW7 := hide bb
    have RB7 := hide (RB.out.call bb)
    have hQl := HOQ.out.rk.len
    have hOl := HOQ.out.ord.len
    have hO0 := HOQ.out.ord.pos
    have hOp := (List.getElem?_eq_some_iff.1 hO0).1
    obtain ⟨bo, oo, rfl, hco⟩ := sees_cells HLa.out.see (by rw [toI_len]; exact hOp)
    obtain ⟨bq, oq, rfl, hcq⟩ := sees_cells HLb.out.see (by omega)
    have HCQ := hide hcq
    have HCO := hide (fun (i x : Nat) (hx : O[i]? = some x) => hco i (x : Int) (by rw [toI_get, hx]; rfl))
    have ch := CH.out _ bb
    rw [toI_len, hQl]
    clear bb q0 q1 q2 hco hcq HLa HLb CO CR CB CH hb5 hb6 hb7
    have q0 := RB7.out.cell (k := 0) rfl
    have q1 := RB7.out.cell (k := 1) rfl
    have q2 := RB7.out.cell (k := 2) rfl
    go_wp2_with fail
    refine ch.mono ?_
    rintro e w8 ⟨R, hR, Gr, rfl, hRow, hGr, hb8⟩
    have HR := hide hR
    have hRl := hR.len
    have A8 := hide (show CvA w8 B P A1 n1 c1 A2 n2 c2 bo oo O bq oq Q Ac bs Gr R from ⟨RB7.out.call hb8, fun i x hx => keep_cellB hb8 (HCO.out i x hx), fun i x hx => keep_cellB hb8 (HCQ.out i x hx), (HLc.out.below hb8).more hb8.size, hRow⟩)
    have B8 := hide (below_call BW7.out hb8)
    rw [hRl]
    clear q0 q1 q2 hR hRow hGr hb8 ch HCO HCQ HLc RB7 BW7
    have q2 := A8.out.f.cell (k := 2) rfl
    have z0 := A8.out.o 0 0 hO0
    have hO1 : ¬ ((O.length : Int) < 1) := by omega
    have hd1 : decide ((O.length : Int) < 1) = false := decide_eq_false hO1
    have hO2 : (0 : Int) < (O.length : Int) := by omega
    rw [Nat.add_zero] at z0
    go_upto_region 9 with (fail)
    clear z0 q2 hd1 hO1
    go_upto_region 10 with (fail)
    go_loopw [8, 9] (fun s8 s9 wr => ∃ (k : Nat), s8 = .int .i64 (((R.take k).count true : Nat) : Int) ∧ s9 = .int .i64 (k : Int) ∧ k ≤ n2 ∧ Hid (CvA wr B P A1 n1 c1 A2 n2 c2 bo oo O bq oq Q Ac bs Gr R) ∧ Hid (Below W.heap.size W wr)) (fun _ s9 _ => n2 - (intOf s9).toNat)
    case atStart => exact ⟨0, by simp, rfl, by omega, A8, B8⟩
    case round =>
      obtain ⟨k, rfl, rfl, hkn, hA, hB⟩ := hrel
      clear A8 B8
      have q2 := hA.out.f.cell (k := 2) rfl
      by_cases hlt : k < n2
      · have hk0 : (0 : Int) ≤ (k : Int) := by omega
        have hk1 : (k : Int) < (n2 : Int) := by omega
        have q0 := hA.out.f.cell (k := 0) rfl
        have q1 := hA.out.f.cell (k := 1) rfl
        rcases HOQ.out.rk.get hlt with ⟨hq, hno⟩ | ⟨r, hq, ho, hrO⟩
        · have hRk : R[k]? = some false := by
            rcases bool_get (R := R) (k := k) (by omega) with h | h
            · exact absurd ((HOQ.out.ord.way k).2 ((HR.out.iff k hlt).1 h)) hno
            · exact h
          have y0 := hA.out.q k _ hq
          have y1 := hA.out.r.cell (bcells_at hRk)
          have hct := hide (count_take hRk)
          have hd : decide ((0 : Int) ≤ -1) = false := rfl
          have hd2 : decide ((O.length : Int) ≤ -1) = false := decide_eq_false (by omega)
          go_upto_region 12 with (fail)
          go_quiet (fail)
          obtain ⟨W2, hW2⟩ : ∃ W, wr.drewN nq = W := ⟨_, rfl⟩
          have A2 := hide (show CvA W2 B P A1 n1 c1 A2 n2 c2 bo oo O bq oq Q Ac bs Gr R by rw [← hW2]; exact hA.out.below (below_draws (Below.refl _ _) nq))
          have B2 := hide (show Below W.heap.size W W2 by rw [← hW2]; exact below_draws hB.out nq)
          have cn := CN.out k W2 B2.out
          rw [sucZ_nat] at cn
          obtain ⟨xs, hxs⟩ : ∃ xs, suc l k = xs := ⟨_, rfl⟩
          have hX2 := hide (suc_len l k)
          rw [hxs] at cn hX2
          rw [hW2]
          clear hA hB y0 y1 q0 q1 q2 hW2 hd hd2 hxs
          have q0 := A2.out.f.cell (k := 0) rfl
          have q1 := A2.out.f.cell (k := 1) rfl
          have q2 := A2.out.f.cell (k := 2) rfl
          have y1 := A2.out.r.cell (bcells_at hRk)
          go_wp2_with fail
          refine cn.mono ?_
          rintro e w5 ⟨A5, c5, rfl, ho5, hb5⟩
          have A5' := hide (A2.out.below hb5)
          have B5 := hide (below_call B2.out hb5)
          rw [toI_len]
          clear q0 q1 q2 y1 cn ho5 hb5 A2 B2
          have y1 := A5'.out.r.cell (bcells_at hRk)
          go_wp2_with fail
          go_loopw [11] (fun s11 wq => s11 = .int .i64 0 ∧ wq = w5) (fun _ _ => 0)
          case atStart => exact ⟨rfl, rfl⟩
          case round =>
            obtain ⟨rfl, rfl⟩ := hrel
            by_cases hx0 : 0 < xs.length
            · have hxz : (0 : Int) < (xs.length : Int) := by omega
              have hdx : decide ((0 : Int) < (xs.length : Int)) = true := decide_eq_true hxz
              go_wp2_with fail
              go_roundw
              case rel => exact ⟨k + 1, by rw [hct.out]; simp, by go_num, by omega, A5', B5⟩
              case measure => simp [intOf]; omega
            · obtain rfl : xs = [] := List.length_eq_zero_iff.1 (by omega)
              go_wp2_with fail
              go_roundw
              case rel => exact ⟨k + 1, by rw [hct.out]; simp, by go_num, by omega, A5', B5⟩
              case measure => simp [intOf]; omega
        · have hRk : R[k]? = some true := (HR.out.iff k hlt).2 ((HOQ.out.ord.way k).1 (List.mem_of_getElem? ho))
          have y0 := hA.out.q k _ hq
          have y1 := hA.out.r.cell (bcells_at hRk)
          have y3 := hA.out.o r k ho
          have hct := hide (count_take hRk)
          have hd : decide ((0 : Int) ≤ (r : Int)) = true := decide_eq_true (by omega)
          have hd2 : decide ((O.length : Int) ≤ (r : Int)) = false := decide_eq_false (by omega)
          have hr0 : (0 : Int) ≤ (r : Int) := by omega
          have hr1 : (r : Int) < (O.length : Int) := by omega
          go_upto_region 12 with (fail)
          go_quiet (fail)
          obtain ⟨W2, hW2⟩ : ∃ W, wr.drewN nq = W := ⟨_, rfl⟩
          have A2 := hide (show CvA W2 B P A1 n1 c1 A2 n2 c2 bo oo O bq oq Q Ac bs Gr R by rw [← hW2]; exact hA.out.below (below_draws (Below.refl _ _) nq))
          have B2 := hide (show Below W.heap.size W W2 by rw [← hW2]; exact below_draws hB.out nq)
          have cn := CN.out k W2 B2.out
          rw [sucZ_nat] at cn
          have hX2 := hide (suc_len l k)
          have hXS := hide (fun (j : Nat) (h : j ∈ suc l k) => suc_lt HOK.out h)
          have HM := hide (fun (x : Nat) (hx : x ∈ suc l k) => show decide ((k, x) ∈ bs) = decide ((Q[x]?).getD 0 ≤ (r : Int)) from decide_eq_decide.2 (by
            have h := HMB.out k x
            rw [hq, Option.getD_some] at h
            rw [h]
            exact ⟨fun h => h.2.2.2, fun h => ⟨hlt, by omega, hx, h⟩⟩))
          have HQK := hide hq
          have hcb : (R.take k).count true ≤ 1024 := by have h1 := List.count_le_length (a := true) (l := R.take k); rw [List.length_take] at h1; omega
          obtain ⟨cnt, hcnt⟩ : ∃ c, (R.take k).count true = c := ⟨_, rfl⟩
          have HCT := hide (show (R.take (k + 1)).count true = cnt + 1 by rw [hct.out, hcnt]; rfl)
          rw [hcnt] at hcb ⊢
          obtain ⟨xs, hxs⟩ : ∃ xs, suc l k = xs := ⟨_, rfl⟩
          rw [hxs] at cn hX2 hXS HM
          rw [hW2]
          clear hA hB y0 y1 y3 q0 q1 q2 hW2 hd hd2 hxs hq ho hr0 hr1 hct hcnt
          have q0 := A2.out.f.cell (k := 0) rfl
          have q1 := A2.out.f.cell (k := 1) rfl
          have q2 := A2.out.f.cell (k := 2) rfl
          have y1 := A2.out.r.cell (bcells_at hRk)
          go_wp2_with fail
          refine cn.mono ?_
          rintro e w5 ⟨A5, c5, rfl, ho5, hb5⟩
          have A5' := hide (A2.out.below hb5)
          have B5 := hide (below_call B2.out hb5)
          rw [toI_len] at ho5 ⊢
          have N5 := hide (own_lower ho5 B2.out.size)
          clear q0 q1 q2 y1 cn ho5 hb5 A2 B2
          go_wp2_with fail
          go_loopw [11] (fun s11 wq => ∃ (i : Nat), s11 = .int .i64 (i : Int) ∧ i ≤ xs.length ∧ Hid (CvA wq B P A1 n1 c1 A2 n2 c2 bo oo O bq oq Q Ac bs Gr R) ∧ Hid (Below W.heap.size W wq) ∧ Hid (wq.ownsRow W.heap.size 3 1 (.slice A5 xs.length c5) xs.length (cellsI (toI xs)))) (fun s11 _ => xs.length - (intOf s11).toNat)
          case atStart => exact ⟨0, rfl, by omega, A5', B5, N5⟩
          case round =>
            obtain ⟨i, rfl, hix, hA, hB, hN⟩ := hrel
            clear A5' B5 N5
            have hx2 : xs.length ≤ 2 := hX2.out
            have y1 := hA.out.r.cell (bcells_at hRk)
            by_cases hlt2 : i < xs.length
            · obtain ⟨g5, c5', he5, -, -, -, -⟩ := own_block hN.out (by omega)
              injection he5 with he5 _ he5c
              subst he5 he5c
              have hjx := List.getElem?_eq_getElem hlt2
              have hjc : (cellsI (toI xs))[i]? = some (.int .i64 ((xs[i] : Nat) : Int)) := by
                rw [cellsI, List.getElem?_map, toI_get, hjx]; rfl
              have hjn : xs[i] < n2 := by have h1 := hXS.out xs[i] (List.getElem_mem hlt2); have h2 := HCL.out; omega
              have HMX := hide (HM.out xs[i] (List.getElem_mem hlt2))
              generalize xs[i] = x at hjc hjn HMX
              have HJC := hide hjc
              obtain ⟨z, hz⟩ := int_get (zs := Q) (k := x) (by omega)
              have hmx := HMX.out
              rw [hz, Option.getD_some] at hmx
              have HZ := hide hz
              have HMX2 := hide hmx
              have hi0 : (0 : Int) ≤ (i : Int) := by omega
              have hi1 : (i : Int) < (xs.length : Int) := by omega
              have hdi : decide ((i : Int) < (xs.length : Int)) = true := decide_eq_true hi1
              clear hjx hjc hz HMX hmx
              go_upto_region 20 with (fail)
              clear y1 hdi
              go_upto_region 22 with (fail)
              go_loopw [12, 13] (fun s12 s13 wq => ∃ (j : Nat), s12 = .bool (anyB bs (k, x) j) ∧ s13 = .int .i64 (j : Int) ∧ j ≤ bs.length ∧ Hid (CvA wq B P A1 n1 c1 A2 n2 c2 bo oo O bq oq Q Ac bs Gr R) ∧ Hid (Below W.heap.size W wq) ∧ Hid (wq.ownsRow W.heap.size 3 1 (.slice (some ⟨g5, 0, none⟩) xs.length c5) xs.length (cellsI (toI xs)))) (fun _ s13 _ => bs.length - (intOf s13).toNat)
              case atStart => exact ⟨0, rfl, rfl, by omega, hA, hB, hN⟩
              case round =>
                obtain ⟨j, rfl, rfl, hjb, hA', hB', hN'⟩ := hrel
                by_cases hlt3 : j < bs.length
                · obtain ⟨b3, o3, rfl, p0, p1⟩ := pr_at hA'.out.b hlt3
                  have hbj := List.getElem?_eq_getElem hlt3
                  have HST := hide (anyB_step (u := (k, x)) hbj)
                  generalize bs[j] = pq at p0 p1 HST
                  obtain ⟨pa, pb⟩ := pq
                  have x0 : wr.cell? ⟨g5, i, none⟩ = some (.int .i64 (x : Int)) := (hN'.out.cellAt i (by omega)).trans HJC.out
                  have hj0 : (0 : Int) ≤ (j : Int) := by omega
                  have hj1 : (j : Int) < (bs.length : Int) := by omega
                  clear hbj
                  obtain ⟨gb, hgb⟩ : ∃ gb, anyB bs (k, x) j = gb := ⟨_, rfl⟩
                  have HGB := hide hgb
                  rw [hgb]
                  clear hgb
                  cases gb with
                  | true =>
                    go_upto_region 24 with (fail)
                    go_quiet (fail)
                    have A6 := hide (hA'.out.below (below_draws (Below.refl _ _) nq))
                    have B6 := hide (below_draws hB'.out nq)
                    have N6 := hide (own_draws hN'.out nq)
                    clear p0 p1 x0 hA' hB' hN' hA hB hN
                    go_wp2_with fail
                    go_roundw
                    case rel => exact ⟨j + 1, by rw [HST.out, HGB.out]; rfl, by go_num, by omega, A6, B6, N6⟩
                    case measure => simp [intOf]; omega
                  | false =>
                    go_upto_region 24 with (fail)
                    go_quiet (fail)
                    have A6 := hide (hA'.out.below (below_draws (Below.refl _ _) nq))
                    have B6 := hide (below_draws hB'.out nq)
                    have N6 := hide (own_draws hN'.out nq)
                    clear p0 p1 x0 hA' hB' hN' hA hB hN
                    go_wp2_with fail
                    go_roundw
                    case rel => exact ⟨j + 1, by rw [HST.out, HGB.out]; rfl, by go_num, by omega, A6, B6, N6⟩
                    case measure => simp [intOf]; omega
                · obtain rfl : j = bs.length := by omega
                  have x0 : wr.cell? ⟨g5, i, none⟩ = some (.int .i64 (x : Int)) := (hN'.out.cellAt i (by omega)).trans HJC.out
                  have y0 := hA'.out.q k _ HQK.out
                  have y2 := hA'.out.q x _ HZ.out
                  have hx0 : (0 : Int) ≤ (x : Int) := by omega
                  have hx1 : (x : Int) < (n2 : Int) := by omega
                  rw [anyB_all, HMX2.out]
                  by_cases hle : z ≤ (r : Int)
                  · have hd : decide (z ≤ (r : Int)) = true := decide_eq_true hle
                    rw [hd]
                    go_upto_region 25 with (fail)
                    go_region
                    have A6 := hide (hA'.out.below (below_draws (Below.refl _ _) 1))
                    have B6 := hide (below_draws hB'.out 1)
                    have N6 := hide (own_draws hN'.out 1)
                    clear x0 y0 y2 hA' hB' hN' hA hB hN
                    go_wp2_with fail
                    go_roundw
                    case rel => exact ⟨i + 1, by go_num, by omega, A6, B6, N6⟩
                    case measure => simp [intOf]; omega
                  · have hd : decide (z ≤ (r : Int)) = false := decide_eq_false hle
                    rw [hd]
                    go_upto_region 25 with (fail)
                    go_region
                    have A6 := hide (hA'.out.below (below_draws (Below.refl _ _) 1))
                    have B6 := hide (below_draws hB'.out 1)
                    have N6 := hide (own_draws hN'.out 1)
                    clear x0 y0 y2 hA' hB' hN' hA hB hN
                    go_wp2_with fail
                    go_roundw
                    case rel => exact ⟨i + 1, by go_num, by omega, A6, B6, N6⟩
                    case measure => simp [intOf]; omega
            · obtain rfl : i = xs.length := by omega
              go_wp2_with fail
              go_roundw
              case rel => exact ⟨k + 1, by rw [HCT.out]; simp, by go_num, by omega, hA, hB⟩
              case measure => simp [intOf]; omega
      · obtain rfl : k = n2 := by omega
        have hcnt := lft_cnt14 HOQ.out HR.out hn2 HCL.out HOK.out
        have FIN := hide (HBW.out.trans (hB.out.mono HBW.out.size))
        rw [show R.take k = R from List.take_of_length_le (by omega), ← hcnt]
        clear hA hB
        go_wp2_with fail
        go_ret
        exact ⟨rfl, FIN.out⟩
end Go.Proofs.Ytlcmcmocjbeocaa
end

section
/-
  PostorderCoversWhatIsReached: for every input the law returns true, and each argument reads behind the call as it did before. No condition: every input that the row speaks of.
-/
namespace Go.Proofs.Ytlcmcmocjbeocaa
open Go.ChangeShapes Go.WideShapes Go.ChangeAt Go.RowKit

namespace rowPostorderCoversWhatIsReached
theorem own_knob : ownKnob Try.prog.godebug = none := by kernel_rfl
theorem laid_out : laidOutB Try.prog = true := by kernel_rfl
theorem cells_u8 : Try.prog.cellsOf 5 = 1 := by kernel_rfl
set_option maxRecDepth 100000 in
theorem contract (H : Type) (enc : TypeId × Value → H) (W : World) (base : Nat) (args : Array Value) (ds gs : List (DataW H)) (before : List MemPlace)
    (hval : ∀ (j : Nat) t v, Try.f6.params[j]? = some t → args[j]? = some v → Value.okWide Try.prog W .any base t v)
    (hW : DataW.Whole enc Try.prog Try.f6.params.toList Rows.postorderCoversWhatIsReachedSpec.vars false W args.toList ds gs before) :
    Calls Try.prog 6 args W fun e W' => ∃ v, e = .returned v ∧ Rows.postorderCoversWhatIsReachedSpec.post enc Try.prog Try.f6 false true false false W args v W' := by
  have hW' := hW
  obtain ⟨p, q, hA, hV, rfl, hfz, hnd⟩ := hW
  have hA : DataW.TrodAll enc Try.prog W 0 (fun _ => true) true Try.f6.params.toList args.toList ds p := hA
  rw [Try.params6] at hA hval
  obtain ⟨v0, vs0, d0, ds0, p0, q0, hargs, rfl, rfl, h0, r0⟩ := trodAll_cons hA
  obtain ⟨rfl, rfl, rfl⟩ := trodAll_nil r0
  obtain rfl : args = #[v0] := by cases args; simp_all
  obtain ⟨A0, n0, c0, zs0, rfl, hA0, hn0, hm0, hs0, hz0, hc0⟩ := open_u8s Try.underlying22 Try.underlying5 cells_u8 (hval 0 22 v0 rfl rfl) h0
  refine (coverlaw_walk A0 n0 c0 zs0 W (hide hA0) (hide hn0) hc0 hm0 (hide hs0) (hide hz0)).mono fun e W' ⟨he, hB⟩ => ⟨_, he, ?_⟩
  exact law_post laid_out (by decide +kernel) rfl rfl Try.underlying4 rfl hW' hB

set_option maxRecDepth 100000 in
theorem lifted (os : Os) (started : os.Started) (H : Type) (enc : TypeId × Value → H) :
    ReturnsInHanded {} Try.checked os 6 .any (Rows.postorderCoversWhatIsReachedSpec.pre6 enc Try.prog Try.f6 Rows.postorderCoversWhatIsReachedRow.domain false) (Rows.postorderCoversWhatIsReachedSpec.post enc Try.prog Try.f6 false true false false) := by
  refine returnsInHanded_of_change (C := Try.checked) own_knob started (by kernel_rfl) Try.func6
    (ChangeSpec.witness6 (enc := enc) (C := Try.checked) false ⟨#[], #[.slice none 0 0], []⟩ 8 (by kernel_rfl) (by kernel_rfl) (by kernel_rfl) (by kernel_rfl)) ?_
  intro W base args ds gs before hval hW _ _
  exact contract H enc W base args ds gs before hval hW

theorem proved : Rows.PostorderCoversWhatIsReachedSaid :=
  OpenClaim.holds_of_wide 6 Try.f6 rfl rfl rfl rfl rfl rfl rfl ⟨rfl, rfl, rfl, rfl, rfl⟩ rfl rfl rfl rfl rfl (by kernel_rfl) Try.func6 (by kernel_rfl)
    (of_decide_eq_true (by kernel_rfl)) (by unfold Func.isWrapper; first | (rw [if_pos (by decide +kernel)]; kernel_rfl) | (rw [if_neg (by decide +kernel)]; exact ⟨rfl, rfl⟩))
    (fun os started H enc _ => lifted os started H enc)
end rowPostorderCoversWhatIsReached
end Go.Proofs.Ytlcmcmocjbeocaa
end
