import Derived.Test.YthaabgiefpfeaaaDoorMHin
import Derived.Test.YthaabgiefpfeaaaDoorMBdl
import Derived.Test.YthaabgiefpfeaaaDoorMHins
import Derived.Test.YthaabgiefpfeaaaDoorMBrsam
import Derived.Deep.RegionHeld3
import Derived.Deep.DeepCutAuto
set_option linter.unusedVariables false
set_option linter.unusedSimpArgs false
section
/-
  The walk of the law EffectIn: for all codes it returns true, and what was in memory before the call is as it was. Conditions: those of the types; the table of TrailingZeros64 lies as its initialiser lays it.
-/
namespace Go.Proofs.YthaabgiefpfeaaaDoor
open Go.RowKit

/-- The five cells of an instruction's box, behind calls. -/
theorem cells5 {W W' : World} {g : Nat} {o a b c m : Int} (R : Row W g 28 [.int .i64 o, .int .i64 a, .int .i64 b, .int .i64 c, .int .u64 m]) (hb : Below W.heap.size W W') : W'.cell? ⟨g, 0, none⟩ = some (.int .i64 o) ∧ W'.cell? ⟨g, 1, none⟩ = some (.int .i64 a) ∧ W'.cell? ⟨g, 2, none⟩ = some (.int .i64 b) ∧ W'.cell? ⟨g, 3, none⟩ = some (.int .i64 c) ∧ W'.cell? ⟨g, 4, none⟩ = some (.int .u64 m) :=
  ⟨(R.call hb).cell (k := 0) rfl, (R.call hb).cell (k := 1) rfl, (R.call hb).cell (k := 2) rfl, (R.call hb).cell (k := 3) rfl, (R.call hb).cell (k := 4) rfl⟩
set_option maxRecDepth 100000 in
set_option maxHeartbeats 4000000 in
theorem einlaw_walk (A : Option Addr) (n c : Nat) (zs : List Int) (w : World) (hA : Hid (A = none → c = 0)) (hn : Hid (zs.length = n)) (hnc : n ≤ c) (hm : n ≤ 9223372036854775807) (hs : Hid (Sees w w.heap.size A (cellsU8 zs))) (hz : Hid (∀ z ∈ zs, 0 ≤ z ∧ z ≤ 255)) (hT : Hid (Tab w)) :
    Calls Tryd.prog 3 #[.slice A n c] w fun e w' => e = .returned (.bool true) ∧ Below w.heap.size w w' := by
  go_enter Tryd.func3, Tryd.ntmps3
  go_wp2_with fail
  refine (awake15_any w).mono ?_
  rintro e w1 ⟨rfl, hb1⟩
  have HB1 := hide hb1
  clear hb1
  go_wp2_with fail
  refine (new_any A n c zs 60 w1 hA hn hnc hm (by omega) (hide ((hs.out.below HB1.out).more HB1.out.size)) hz).mono ?_
  rintro e w2 ⟨rfl, hC2, hb2⟩
  have HC2 := hide hC2
  have hg2 : w1.heap.size < w2.heap.size := hC2.lt
  have HB2 := hide (below_call HB1.out hb2)
  clear hC2 hb2
  go_wp2_with fail
  refine (instr15_any w1.heap.size w2 HC2).mono ?_
  rintro e w3 ⟨o, a, b, rfl, ho, ha, hb, hC3, hG3⟩
  have HC3 := hide hC3
  have hg3 : w1.heap.size < w3.heap.size := hC3.lt
  have HB3 := hide (below_grown HB2.out hG3 HB1.out.size HB2.out.size)
  have ha0 : -9223372036854775808 ≤ a := by omega
  have ha1 : a ≤ 9223372036854775807 := by omega
  have hb0 : 0 ≤ b := by omega
  have hb5 : b < 512 := by omega
  clear hC3 hG3 HB2
  go_wp2_with fail
  refine (set15_any w1.heap.size w3 HC3).mono ?_
  rintro e w4 ⟨A_s, c_s, s, rfl, hA_, ho_, ha_, hC_, hG_⟩
  have HA_s := hide hA_
  have HO_s := hide ho_
  have HS_s := hide ha_
  have HC4 := hide hC_
  have hg4 : w1.heap.size < w4.heap.size := hC_.lt
  have HB4 := hide (below_grown HB3.out hG_ HB1.out.size HB3.out.size)
  clear hA_ ho_ ha_ hC_ hG_ HB3
  go_upto_region 5 with (fail)
  obtain ⟨W, hW⟩ : ∃ V, w4.alloc (.cells #[.int .i64 o, .int .i64 a, .int .i64 b, .int .i64 0, .int .u64 0] 28) = V := ⟨_, rfl⟩
  have R0 := hide (show Row W w4.heap.size 28 [.int .i64 o, .int .i64 a, .int .i64 b, .int .i64 0, .int .u64 0] by rw [← hW]; exact Row.new w4 _ _)
  have hbw : Below w4.heap.size w4 W := by rw [← hW]; exact below1 _ _
  have HB := hide (below_call HB4.out hbw)
  have HL_s : Hid (Lst W A_s s.length s) := hide (Lst.below ⟨rfl, by have := HS_s.out.length; omega, Sees.own HO_s.out, asc_rng HS_s.out⟩ hbw)
  rw [hW]
  obtain ⟨gx, hgx⟩ : ∃ q, w4.heap.size = q := ⟨_, rfl⟩
  rw [hgx] at R0 ⊢
  have HT := hide (hT.out.below HB.out)
  clear hW hbw hgx HO_s HB4
  obtain ⟨i0, hi, hz0, hz1, hz2⟩ := info_parts infoI
  have hsl := HS_s.out.length
  have ho0 : W.ownsRow W.heap.size 3 1 (.slice none 0 0) 0 [] := ⟨rfl, .inl ⟨rfl, rfl⟩⟩
  have HLn := hide (show (cellsI s).length = s.length by rw [cellsI_length])
  have HSe := hide HL_s.out.see
  go_wp2_with (at_builtin; refine wpList_append_sees rfl (.const (.slice none 0 0)) (.tmp 15) 30 rfl W.heap.size 3 i0 (.int .i64 0) 8 Tryd.underlying30 hi hz0 hz1 hz2 rfl _ 0 [] rfl ho0 W.heap.size A_s s.length c_s (cellsI s) rfl HA_s HLn.out HSe.out (cellsI_one s) (by unfold maxLen; omega) (by omega) (Nat.le_refl _) ?_)
  intro v' W6 ho4 hg4
  have hb6 : Below W.heap.size W W6 := (Below.refl W.heap.size W).grown hg4 (Nat.le_refl _) (fun k hk => by cases hk)
  have HI : IntRel W s v' W6 := ⟨by simpa using ho4, hb6⟩
  obtain ⟨A1, c1, rfl, hA1, -⟩ := HI.out
  have HL1 := hide (HI.lst (by omega) (asc_rng HS_s.out))
  have HL_s6 := hide (HL_s.out.below hb6)
  have H6 := hide hb6
  have m6 := cells5 R0.out hb6
  obtain ⟨x0, x1, x2, x3, x4⟩ := m6
  clear ho0 ho4 hg4 HLn HSe HI hb6
  obtain ⟨I, hI⟩ : ∃ l, inL o a b s = l := ⟨_, rfl⟩
  have HI := hide hI
  have HSI := hide (hI ▸ inL_asc o a b HS_s.out)
  clear hI
  have CE := hide (fun W' (hb : Below W.heap.size W W') (A' : Option Addr) (n' c' : Nat) (hL : Lst W' A' n' s) => (show Calls Tryd.prog 10 #[iv o a b 0 0, .slice A' n' c'] W' (OutPost I W') from by rw [← HI.out]; exact ein_any o a b 0 0 A' n' c' s W' ha0 ha1 hb0 hb5 (hide hL) HS_s (hide (HT.out.below hb))))
  have CR := hide (fun W' (hb : Below W.heap.size W W') (A' : Option Addr) (n' c' : Nat) (hL : Lst W' A' n' s) (hAn : A' = none → c' = 0) => (show Calls Tryd.prog 11 #[iv o a b 0 0, .slice A' n' c'] W' (OutPost I W') from by rw [← HI.out]; exact rin_any o a b 0 0 A' n' c' s W' ha0 ha1 hb0 hb5 (hide hL) HS_s (hide hAn)))
  go_wp2_with fail
  go_region_held3 (fun w' => w'.cell? ⟨gx, 0, none⟩ = some (.int .i64 o) ∧ w'.cell? ⟨gx, 1, none⟩ = some (.int .i64 a) ∧ w'.cell? ⟨gx, 2, none⟩ = some (.int .i64 b) ∧ w'.cell? ⟨gx, 3, none⟩ = some (.int .i64 0) ∧ w'.cell? ⟨gx, 4, none⟩ = some (.int .u64 0))
    (first | go_keep | exact m10 | exact m9 | exact m8 | exact m7)
    (first
      | (go_at_call 9; refine (s_same c_s c1 (hide (HL_s9.out)) (hide (HL19.out)) (hide (decide_eq_true rfl))).mono ?_; rintro e w10 ⟨rfl, hb10⟩; have h10 := hide (below_call h9.out hb10); have m10 := cells5 R0.out h10.out)
      | (go_at_call 9; refine (s_same c7 c8 HL78 HL8 (hide (decide_eq_true rfl))).mono ?_; rintro e w9 ⟨rfl, hb9⟩; have h9 := hide (below_call h8.out hb9); have HL_s9 := hide (HL_s8.out.below hb9); have HL19 := hide (HL18.out.below hb9); have m9 := cells5 R0.out h9.out)
      | (go_at_call 11; refine (CR.out _ h7.out A_s s.length c_s HL_s7.out HA_s.out).mono ?_; rintro e w8 hP8; obtain ⟨A8, c8, rfl, HL8, HA8, hb8⟩ := hP8.open HSI; clear hP8; have h8 := hide (below_call h7.out hb8); have HL78 := hide (HL7.out.below hb8); have HL_s8 := hide (HL_s7.out.below hb8); have HL18 := hide (HL17.out.below hb8); have m8 := cells5 R0.out h8.out)
      | (go_at_call 10; refine (CE.out _ (below_call H6.out (Below.refl _ _).drew) A_s s.length c_s (HL_s6.out.below (Below.refl _ _).drew)).mono ?_; rintro e w7 hP7; obtain ⟨A7, c7, rfl, HL7, HA7, hb7⟩ := hP7.open HSI; clear hP7; have h7 := hide (below_call (below_call H6.out (Below.refl _ _).drew) hb7); have HL_s7 := hide ((HL_s6.out.below (Below.refl _ _).drew).below hb7); have HL17 := hide ((HL1.out.below (Below.refl _ _).drew).below hb7); have m7 := cells5 R0.out h7.out))
  go_wp2_with fail
  go_ret
  exact ⟨rfl, HB.out.trans (h10.out.mono HB.out.size)⟩
end Go.Proofs.YthaabgiefpfeaaaDoor
end
