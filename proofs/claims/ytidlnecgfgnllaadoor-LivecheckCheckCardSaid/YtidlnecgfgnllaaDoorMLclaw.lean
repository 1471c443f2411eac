import Derived.Test.YtidlnecgfgnllaaDoorMLawk
import Derived.Test.YtidlnecgfgnllaaDoorMLscn
import Derived.Test.YtidlnecgfgnllaaDoorMLce3
import Derived.Test.YtidlnecgfgnllaaDoorMLcz
set_option linter.unusedVariables false
set_option linter.unusedSimpArgs false
section
/-
  The walk of the law LivecheckCheck: for all annotations and all codes it returns true, and what was in memory before the call is as it was. Conditions: those of the types; the table of TrailingZeros64 lies as its initialiser lays it.
-/
namespace Go.Proofs.YtidlnecgfgnllaaDoor
open Go.RowKit

set_option maxRecDepth 100000 in
set_option maxHeartbeats 8000000 in
theorem lclaw_walk (A0 : Option Addr) (n0 c0 : Nat) (zs : List Int) (Aa : Option Addr) (na ca : Nat) (w : World)
    (hma : na ≤ 9223372036854775807) (hAa : Hid (na ≤ 1048576 → ∃ zss, Ann w Aa na zss))
    (hA : Hid (A0 = none → c0 = 0)) (hn : Hid (zs.length = n0)) (hnc : n0 ≤ c0) (hm : n0 ≤ 9223372036854775807) (hs : Hid (Sees w w.heap.size A0 (cellsU8 zs))) (hz : Hid (∀ z ∈ zs, 0 ≤ z ∧ z ≤ 255)) (hT : Hid (Tab w)) :
    Calls Tryd.prog 3 #[.slice A0 n0 c0, .agg #[.slice Aa na ca]] w fun e w' => e = .returned (.bool true) ∧ Below w.heap.size w w' := by
  obtain ⟨W0, hW0⟩ : ∃ V, w.alloc (.cells #[.slice Aa na ca] 25) = V := ⟨_, rfl⟩
  have hb0 : Below w.heap.size w W0 := by rw [← hW0]; exact below1 w _
  have R0 := hide (show Row W0 w.heap.size 25 [.slice Aa na ca] by rw [← hW0]; exact Row.new w _ _)
  have HB0 := hide hb0
  have HW0 := hide hW0
  clear hW0 hb0
  go_enter Tryd.func3, Tryd.ntmps3
  go_upto_region 1 with (fail)
  rw [HW0.out]
  clear HW0
  go_wp2_with fail
  refine (awake17_any W0 (hide (hT.out.below HB0.out))).mono ?_
  rintro e w1 ⟨rfl, hb1⟩
  have HB1 := hide (below_call HB0.out hb1)
  have R1 := hide (R0.out.call hb1)
  have HS1 := hide ((hs.out.below HB1.out).more HB1.out.size)
  clear hb1 R0 HB0
  have qa := R1.out.cell (k := 0) rfl
  by_cases ha : 100 < na
  · have ha' : (100 : Int) < (na : Int) := by omega
    go_wp2_with fail
    go_ret
    exact ⟨rfl, HB1.out⟩
  have ha' : ¬ ((100 : Int) < (na : Int)) := by omega
  obtain ⟨za, hza⟩ := hAa.out (by omega)
  have ZA := hide hza
  clear hza hAa hs
  go_wp2_with fail
  refine (scene17_any A0 n0 c0 zs w1 hA hn hnc hm HS1 hz).mono ?_
  rintro e w2 ⟨P, A1, n1, c1, A2, n2, c2, f, N, AL, nL, cL, L, g, lo, rfl, hH, hE, hF, hO, hCd, hgl, hwg, hb2⟩
  obtain ⟨W, hW⟩ : ∃ V, (w2.alloc (.cells #[.int .i64 P, .slice A1 n1 c1, .slice A2 n2 c2] 30)).alloc (.cells #[.slice AL nL cL] 25) = V := ⟨_, rfl⟩
  have hb3 : Below w2.heap.size w2 W := by rw [← hW]; exact below2 _ _ _
  obtain ⟨B, hB⟩ : ∃ B, w2.heap.size = B := ⟨_, rfl⟩
  have HBB := hide hB
  have RB := hide (show Row W B 30 [.int .i64 P, .slice A1 n1 c1, .slice A2 n2 c2] by rw [← hW, ← hB]; exact (Row.new w2 _ _).alloc _)
  have RL := hide (show Row W (B + 1) 25 [.slice AL nL cL] by rw [← hW, ← hB]; exact (Row.new _ _ _).at_ (by simp))
  have HCd := hide (show CdAt W A2 n2 f.code from (hH.calls hb3).cd (fnE_zero.1 hE).1)
  have hs1 : f.slots.length = n1 := hH.l1
  have hn6 : n1 ≤ 6 := by omega
  have h1 : 1 ≤ n2 := by have h := flow_one hE; have h2 : f.code.length = n2 := hH.l2; omega
  have HOK := hide (show LvOk f.code n1 by rw [← hs1]; exact lv_ok hE (by omega))
  have hlen := HCd.out.len
  have hn2 := HCd.out.few
  have HOL := hide (hO.ann.below hb3)
  have HW := hide hW
  have HB3 := hide (below_call (below_call HB1.out hb2) hb3)
  have HT3 := hide (hT.out.below HB3.out)
  have R3 := hide ((R1.out.call hb2).call hb3)
  have ZA3 := hide (ZA.out.below HB3.out)
  clear hW hb3 hb2 hO hCd hH hB hwg hgl hE HS1 R1 qa ZA hF HB1
  obtain ⟨W4, hW4⟩ : ∃ V, W.alloc (.cells #[.slice AL nL cL, .slice Aa na ca, .slice none 0 0] 25) = V := ⟨_, rfl⟩
  have hb4 : Below W.heap.size W W4 := by rw [← hW4]; exact below1 _ _
  obtain ⟨G, hG⟩ : ∃ X, W.heap.size = X := ⟨_, rfl⟩
  have RG := hide (show Row W4 G 25 [.slice AL nL cL, .slice Aa na ca, .slice none 0 0] by rw [← hW4, ← hG]; exact Row.new W _ _)
  have HB4 := hide (below_call HB3.out hb4)
  have HT4 := hide (HT3.out.below hb4)
  have RB4 := hide (RB.out.call hb4)
  have HC4 := hide (HCd.out.below hb4)
  have HX := hide (show ∀ k : Nat, k < 3 → ∃ (A : Option Addr) (n c : Nat) (zs : List (List Int)), W4.cell? ⟨G, k, none⟩ = some (.slice A n c) ∧ Ann W4 A n zs from fun k hk => by
    rcases k with _ | _ | _ | k
    · exact ⟨AL, nL, cL, L, RG.out.cell rfl, HOL.out.below hb4⟩
    · exact ⟨Aa, na, ca, za, RG.out.cell rfl, ZA3.out.below hb4⟩
    · exact ⟨none, 0, 0, [], RG.out.cell rfl, ⟨rfl, by omega, [], Sees.nil_ _ _ _, rfl, fun i v zs hv => by simp at hv⟩⟩
    · omega)
  have HW4 := hide hW4
  have HG := hide hG
  clear hW4 hb4 hG
  go_upto_region 4 with (fail)
  rw [HW.out, HBB.out]
  clear HW HBB
  have ql := RL.out.cell (k := 0) rfl
  have qr := R3.out.cell (k := 0) rfl
  go_wp2_with fail
  rw [HG.out, HW4.out]
  clear HW4 HG ql qr RL R3 RB HCd HT3 HB3 HOL ZA3
  go_loopw [9, 10, 11, 12, 13, 14, 15, 39] (fun _ _ _ _ _ _ _ s39 wr => ∃ k : Nat, s39 = .int .i64 (k : Int) ∧ k ≤ 3 ∧ Hid (Below W4.heap.size W4 wr)) (fun _ _ _ _ _ _ _ s39 _ => 3 - (intOf s39).toNat)
  case atStart => exact ⟨0, rfl, by omega, hide (Below.refl _ _)⟩
  case round =>
    obtain ⟨k, rfl, hk, hbr⟩ := hrel
    by_cases hlt : k < 3
    · have hk0 : (0 : Int) ≤ (k : Int) := by omega
      have hkn : (k : Int) < 3 := by omega
      obtain ⟨A, n, c, zx, y0, hzx⟩ := HX.out k hlt
      have yk := keep_cellB hbr.out y0
      obtain ⟨W6, hW6⟩ : ∃ V, wr.alloc (.cells #[.slice A n c] 25) = V := ⟨_, rfl⟩
      have hb6 : Below wr.heap.size wr W6 := by rw [← hW6]; exact below1 _ _
      obtain ⟨X, hX⟩ : ∃ X, wr.heap.size = X := ⟨_, rfl⟩
      have R6 := hide (show Row W6 X 25 [.slice A n c] by rw [← hW6, ← hX]; exact Row.new wr _ _)
      have B6 := hide (below_call hbr.out hb6)
      have F6 := hide (RB4.out.call B6.out)
      have Z6 := hide (hzx.below B6.out)
      have C6 := hide (HC4.out.below B6.out)
      have T6 := hide (HT4.out.below B6.out)
      have HW6 := hide hW6
      have HXX := hide hX
      clear hW6 hb6 hX y0 hzx
      go_upto_region 7 with (fail)
      rw [HXX.out, HW6.out]
      clear HXX HW6 yk
      have q0 := F6.out.cell (k := 0) rfl
      have q1 := F6.out.cell (k := 1) rfl
      have q2 := F6.out.cell (k := 2) rfl
      have q3 := R6.out.cell (k := 0) rfl
      have c1' := lfirst_any (P := P) (A1 := A1) (c1 := c1) (c2 := c2) (cL := c) W6 C6 HOK Z6 T6
      have c2' := hide (fun (V : World) (hb : Below W6.heap.size W6 V) => rfirst17_any (P := P) (A1 := A1) (n1 := n1) (c1 := c1) (c2 := c2) (cL := c) V (hide (C6.out.below hb)) HOK (hide (Z6.out.below hb)))
      have c3' := hide (fun (V : World) (hb : Below W6.heap.size W6 V) => lcheck_any (P := P) (A1 := A1) (n1 := n1) (c1 := c1) (c2 := c2) (cL := c) V (hide (C6.out.below hb)) HOK (hide (Z6.out.below hb)) (hide (T6.out.below hb)))
      have c4' := hide (fun (V : World) (hb : Below W6.heap.size W6 V) => rcheck17_any (P := P) (A1 := A1) (n1 := n1) (c1 := c1) (c2 := c2) (cL := c) V (hide (C6.out.below hb)) HOK (hide (Z6.out.below hb)))
      have c5' := hide (fun (V : World) (hb : Below W6.heap.size W6 V) => lslack_any (P := P) (A1 := A1) (n1 := n1) (c1 := c1) (c2 := c2) (cL := c) V (hide (C6.out.below hb)) HOK (hide (Z6.out.below hb)) (hide (T6.out.below hb)) h1)
      have c6' := hide (fun (V : World) (hb : Below W6.heap.size W6 V) => rslack_any (P := P) (A1 := A1) (n1 := n1) (c1 := c1) (c2 := c2) (cL := c) V (hide (C6.out.below hb)) HOK (hide (Z6.out.below hb)) h1)
      obtain ⟨⟨p1, p2, p3⟩, hp⟩ : ∃ p, frV f.code n1 zx = p := ⟨_, rfl⟩
      obtain ⟨ok, hok'⟩ : ∃ p : Int, (if okL f.code n1 zx then (0 : Int) else 11) = p := ⟨_, rfl⟩
      obtain ⟨sl, hsl⟩ : ∃ p, slV f.code n1 zx = p := ⟨_, rfl⟩
      rw [hp] at c1' c2'
      rw [hok'] at c3' c4'
      rw [hsl] at c5' c6'
      unfold fval at c1' c2'
      clear hp hok' hsl
      go_wp2_with fail
      refine c1'.mono ?_
      rintro e w7 ⟨rfl, hb7⟩
      have B7 := hide hb7
      have r0 := (F6.out.call hb7).cell (k := 0) rfl
      have r1 := (F6.out.call hb7).cell (k := 1) rfl
      have r2 := (F6.out.call hb7).cell (k := 2) rfl
      have r3 := (R6.out.call hb7).cell (k := 0) rfl
      have c2'' := c2'.out w7 hb7
      clear hb7 c1' c2' q0 q1 q2 q3
      go_wp2_with fail
      refine c2''.mono ?_
      rintro e w8 ⟨rfl, hb8⟩
      have B8 := hide (below_call B7.out hb8)
      clear hb8 c2'' r0 r1 r2 r3 B7
      go_upto_region 9 with (fail)
      have q0 := fun (w' : World) (hb : Below W6.heap.size W6 w') => (F6.out.call hb).cell (k := 0) rfl
      have q1 := fun (w' : World) (hb : Below W6.heap.size W6 w') => (F6.out.call hb).cell (k := 1) rfl
      have q2 := fun (w' : World) (hb : Below W6.heap.size W6 w') => (F6.out.call hb).cell (k := 2) rfl
      have q3 := fun (w' : World) (hb : Below W6.heap.size W6 w') => (R6.out.call hb).cell (k := 0) rfl
      have bw0 : Below W6.heap.size W6 w8.drew := below_call B8.out (Below.refl _ _).drew
      go_region_held3 (fun V => Below W6.heap.size W6 V) (first | exact bw0 | exact bb)
        (first
          | (go_at_call 12; with_reducible refine Calls.mono (c3'.out _ bw0) ?_; rintro e w9 ⟨rfl, hb9⟩; have bb := below_call bw0 hb9; clear hb9)
          | (go_at_call 13; with_reducible refine Calls.mono (c4'.out _ bb) ?_; rintro e w10 ⟨rfl, hb10⟩; have bb := below_call bb hb10; clear hb10)
          | (go_at_call 14; with_reducible refine Calls.mono (c5'.out _ bb) ?_; rintro e w11 ⟨rfl, hb11⟩; have bb := below_call bb hb11; clear hb11)
          | (go_at_call 15; with_reducible refine Calls.mono (c6'.out _ bb) ?_; rintro e w12 ⟨rfl, hb12⟩; have bb := below_call bb hb12; clear hb12))
      all_goals
        have BZ := hide (below_call B6.out bb)
        clear bb c3' c4' c5' c6' q0 q1 q2 q3 bw0
        go_wp2_with fail
        go_roundw
        case rel => exact ⟨k + 1, by go_num, by omega, BZ⟩
        case measure => simp [intOf]; omega
    · obtain rfl : k = 3 := by omega
      have HF := hide (below_call HB4.out hbr.out)
      go_wp2_with fail
      go_ret
      exact ⟨rfl, HF.out⟩
end Go.Proofs.YtidlnecgfgnllaaDoor
end
