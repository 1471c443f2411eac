import Derived.Test.YtlcmcmocjbeocaaMGwo
import Derived.Test.YtlcmcmocjbeocaaMFrr
import Derived.Test.YtlcmcmocjbeocaaMLaw
set_option linter.unusedVariables false
set_option linter.unusedSimpArgs false
section
/-
  PostorderDominatorsAreATree's law, walked: it returns true. Conditions: those of the types.
-/
namespace Go.Proofs.Ytlcmcmocjbeocaa
open Go.RowKit

/-- What the law's loop reads. -/
structure TrA (w : World) (B : Nat) (P : Int) (A1 : Option Addr) (n1 c1 : Nat) (A2 : Option Addr) (n2 c2 : Nat) (l : List Ins) (bd od : Nat) (D : List Int) (bq oq : Nat) (Q : List Int) (g : Nat) (vs : List Value) : Prop where
  f : Row w B 27 [.int .i64 P, .slice A1 n1 c1, .slice A2 n2 c2]
  d : ∀ (i : Nat) (x : Int), D[i]? = some x → w.cell? ⟨bd, od + i, none⟩ = some (.int .i64 x)
  q : ∀ (i : Nat) (x : Int), Q[i]? = some x → w.cell? ⟨bq, oq + i, none⟩ = some (.int .i64 x)
  m : DmsI (suc l) n2 g n2 w.heap.size vs w
theorem TrA.below {w w2 : World} {B : Nat} {P : Int} {A1 : Option Addr} {n1 c1 : Nat} {A2 : Option Addr} {n2 c2 : Nat} {l : List Ins} {bd od : Nat} {D : List Int} {bq oq : Nat} {Q : List Int} {g : Nat} {vs : List Value} (h : TrA w B P A1 n1 c1 A2 n2 c2 l bd od D bq oq Q g vs) (hb : Below w.heap.size w w2) : TrA w2 B P A1 n1 c1 A2 n2 c2 l bd od D bq oq Q g vs :=
  ⟨h.f.call hb, fun i x hx => keep_cellB hb (h.d i x hx), fun i x hx => keep_cellB hb (h.q i x hx), (h.m.call hb).more hb.size⟩
set_option maxRecDepth 100000 in
set_option maxHeartbeats 2000000 in
theorem treelaw_walk (A0 : Option Addr) (n0 c0 : Nat) (zs : List Int) (w : World)
    (hA : Hid (A0 = none → c0 = 0)) (hn : Hid (zs.length = n0)) (hnc : n0 ≤ c0) (hm : n0 ≤ 9223372036854775807) (hs : Hid (Sees w w.heap.size A0 (cellsU8 zs))) (hz : Hid (∀ z ∈ zs, 0 ≤ z ∧ z ≤ 255)) :
    Calls Try.prog 7 #[.slice A0 n0 c0] w fun e w' => e = .returned (.bool true) ∧ Below w.heap.size w w' := by
  go_enter Try.func7, Try.ntmps7
  go_wp2_with fail
  refine (awake14_any w).mono ?_
  rintro e w1 ⟨rfl, hb1⟩
  have HB1 := hide hb1
  have HS1 := hide ((hs.out.below hb1).more hb1.size)
  clear hb1
  go_wp2_with fail
  refine (function14_any A0 n0 c0 zs w1 hA hn hnc hm HS1 hz).mono ?_
  rintro e w2 ⟨P, A1, n1, c1, A2, n2, c2, l, rfl, hC, hok, hn2, hb2⟩
  obtain ⟨W, hW⟩ : ∃ V, w2.alloc (.cells #[.int .i64 P, .slice A1 n1 c1, .slice A2 n2 c2] 27) = V := ⟨_, rfl⟩
  have HW := hide hW
  have hb3 : Below w2.heap.size w2 W := by rw [← hW]; exact below1 _ _
  obtain ⟨B, hB⟩ : ∃ B, w2.heap.size = B := ⟨_, rfl⟩
  have HBB := hide hB
  have RB := hide (show Row W B 27 [.int .i64 P, .slice A1 n1 c1, .slice A2 n2 c2] by rw [← hW, ← hB]; exact Row.new w2 _ _)
  have HC := hide (hC.below hb3)
  have HBW := hide (HB1.out.trans ((hb2.trans (hb3.mono hb2.size)).mono HB1.out.size))
  have hn3 := hC.few
  have hS := fun (k : Nat) (hw : Way (suc l) k) => way_lt hok hC.len hn2 hw
  obtain ⟨xs, hxs⟩ := doms_ex hS
  obtain ⟨O, Q, hOQ⟩ := ord14 hok hC.len hn2
  have OA := hide (fun (V : World) (hb : Below W.heap.size W V) => (dominators_any (P := P) (A1 := A1) (n1 := n1) (c1 := c1) (c2 := c2) V (hide (HC.out.below hb)) (hide hok) hn2).mono fun e w' q => dom_post hxs hS hn3 q)
  have RA := hide (fun (V : World) (hb : Below W.heap.size W V) => (rank_any (P := P) (A1 := A1) (n1 := n1) (c1 := c1) (c2 := c2) V (hide (HC.out.below hb)) (hide hok) hn2).mono fun e w' q => hOQ.rank hn3 q)
  have DA := hide (fun (V : World) (hb : Below W.heap.size W V) => dominates_any (P := P) (A1 := A1) (n1 := n1) (c1 := c1) (c2 := c2) V (hide (HC.out.below hb)) (hide hok) hn2)
  have HXS := hide hxs
  have HS := hide hS
  have HOQ := hide hOQ
  clear hC hok hb2 hb3 hW hB HS1 HB1 hxs hS hOQ
  go_upto_region 4 with (fail)
  rw [HW.out, HBB.out]
  clear HW HBB
  have q0 := fun (w' : World) (hb : Below W.heap.size W w') => (RB.out.call hb).cell (k := 0) rfl
  have q1 := fun (w' : World) (hb : Below W.heap.size W w') => (RB.out.call hb).cell (k := 1) rfl
  have q2 := fun (w' : World) (hb : Below W.heap.size W w') => (RB.out.call hb).cell (k := 2) rfl
  go_region_held3 (fun w' => Below W.heap.size W w') (first | exact bb | exact below_draws (Below.refl _ _) 1 | exact below_draws bb _)
    (first
      | (go_at_call 17; with_reducible refine Calls.mono (OA.out _ (by first | exact bb | exact bb.drew | exact (Below.refl _ _).drew)) ?_; intro e w5 h5; unfold LsPost at h5; obtain ⟨Aa, ca, rfl, hoa, hb5⟩ := h5; have HLa := hide hoa; have bb := below_call (show Below W.heap.size W _ from by first | exact bb | exact bb.drew | exact (Below.refl _ _).drew) hb5; clear hoa)
      | (go_at_call 13; with_reducible refine Calls.mono (RA.out _ bb) ?_; intro e w6 h6; unfold LsPost at h6; obtain ⟨Ab, cb, rfl, hob, hb6⟩ := h6; have HLb := hide hob; have HLa := hide (HLa.out.below hb6); have bb := below_call bb hb6; clear hob))
  all_goals
    have BW7 := hide bb
    have RB7 := hide (RB.out.call bb)
    have hQl := HOQ.out.rk.len
    have hDl := HXS.out.len
    have hOl := HOQ.out.ord.len
    obtain ⟨bd, od, rfl, hcd⟩ := sees_cells HLa.out.see (by omega)
    obtain ⟨bq, oq, rfl, hcq⟩ := sees_cells HLb.out.see (by omega)
    have HCD := hide hcd
    have HCQ := hide hcq
    have cd := DA.out _ bb
    rw [hQl, hDl]
    clear bb q0 q1 q2 hcd hcq HLa HLb OA RA DA hb5 hb6
    have q0 := RB7.out.cell (k := 0) rfl
    have q1 := RB7.out.cell (k := 1) rfl
    have q2 := RB7.out.cell (k := 2) rfl
    go_wp2_with fail
    refine cd.mono ?_
    rintro e w8 ⟨g, vs, rfl, hDm, hb8⟩
    have A8 := hide (show TrA w8 B P A1 n1 c1 A2 n2 c2 l bd od xs bq oq Q g vs from ⟨RB7.out.call hb8, fun i x hx => keep_cellB hb8 (HCD.out i x hx), fun i x hx => keep_cellB hb8 (HCQ.out i x hx), hDm⟩)
    have B8 := hide (below_call BW7.out hb8)
    clear q0 q1 q2 hDm hb8 cd HCD HCQ RB7 BW7
    have q2 := A8.out.f.cell (k := 2) rfl
    go_upto_region 8 with (fail)
    clear q2
    go_upto_region 9 with (fail)
    go_loopw [7] (fun s7 wr => ∃ (k : Nat), s7 = .int .i64 (k : Int) ∧ k ≤ n2 ∧ Hid (TrA wr B P A1 n1 c1 A2 n2 c2 l bd od xs bq oq Q g vs) ∧ Hid (Below W.heap.size W wr)) (fun s7 _ => n2 - (intOf s7).toNat)
    case atStart => exact ⟨0, rfl, by omega, A8, B8⟩
    case round =>
      obtain ⟨k, rfl, hkn, hA, hB⟩ := hrel
      clear A8 B8
      have q2 := hA.out.f.cell (k := 2) rfl
      by_cases hlt : k < n2
      · have hk0 : (0 : Int) ≤ (k : Int) := by omega
        have hk1 : (k : Int) < (n2 : Int) := by omega
        by_cases hk : k = 0
        · subst hk
          have y0 := hA.out.d 0 _ (HXS.out.no 0 hlt (.inl rfl))
          rw [Nat.add_zero] at y0
          rw [show ((0 : Nat) : Int) = 0 from rfl] at hk0 hk1 ⊢
          go_wp2_with fail
          go_roundw
          case rel => exact ⟨1, rfl, by omega, hA, hB⟩
          case measure => simp [intOf]; omega
        · have hkz : ((k : Int) == 0) = false := by rw [beq_eq_false_iff_ne]; omega
          rcases HOQ.out.rk.get hlt with ⟨hq, hno⟩ | ⟨r, hq, ho, hrO⟩
          · have hnw : ¬ Way (suc l) k := fun h => hno ((HOQ.out.ord.way k).2 h)
            have y0 := hA.out.d k _ (HXS.out.no k hlt (.inr hnw))
            have y1 := hA.out.q k _ hq
            clear hq
            go_wp2_with fail
            go_roundw
            case rel => exact ⟨k + 1, by go_num, by omega, hA, hB⟩
            case measure => simp [intOf]; omega
          · have hw : Way (suc l) k := (HOQ.out.ord.way k).1 (List.mem_of_getElem? ho)
            obtain ⟨x, hx, hi⟩ := HXS.out.idom k hlt hk hw
            have hxn := HS.out x hi.dm.way
            obtain ⟨rx, hrx⟩ := HOQ.out.ord.at_mem hi.dm.way
            have hqx := HOQ.out.rk.at_ rx x hrx
            have hrr := dm_rank HOQ.out.ord hrx ho hi.dm hi.ne
            have y0 := hA.out.d k _ hx
            have y1 := hA.out.q k _ hq
            have y2 := hA.out.q x _ hqx
            obtain ⟨bx, t, z0, z1, ht⟩ := hA.out.m.at_ hxn hlt
            have htt : t = true := ht.2 hi.dm
            subst htt
            have hd1 : decide ((r : Int) < 0) = false := decide_eq_false (by omega)
            have hd2 : decide ((x : Int) < 0) = false := decide_eq_false (by omega)
            have hd3 : decide ((n2 : Int) ≤ (x : Int)) = false := decide_eq_false (by omega)
            have hd4 : decide ((r : Int) ≤ (rx : Int)) = false := decide_eq_false (by omega)
            have hrn : ¬ ((r : Int) < 0) := by omega
            have hx0 : (0 : Int) ≤ (x : Int) := by omega
            have hx1 : (x : Int) < (n2 : Int) := by omega
            clear hx hi hrx hqx hq ho ht
            go_upto_region 14 with (fail)
            go_quiet (fail)
            have A2 := hide (hA.out.below (below_draws (Below.refl _ _) nq))
            have B2 := hide (below_draws hB.out nq)
            clear hA hB y0 y1 y2 z0 z1 q2
            go_wp2_with fail
            go_roundw
            case rel => exact ⟨k + 1, by go_num, by omega, A2, B2⟩
            case measure => simp [intOf]; omega
      · obtain rfl : k = n2 := by omega
        have FIN := hide (HBW.out.trans (hB.out.mono HBW.out.size))
        clear hA hB
        go_wp2_with fail
        go_ret
        exact ⟨rfl, FIN.out⟩
end Go.Proofs.Ytlcmcmocjbeocaa
end

section
/-
  PostorderDominatorsAreATree: for every input the law returns true, and each argument reads behind the call as it did before. No condition: every input that the row speaks of.
-/
namespace Go.Proofs.Ytlcmcmocjbeocaa
open Go.ChangeShapes Go.WideShapes Go.ChangeAt Go.RowKit

namespace rowPostorderDominatorsAreATree
theorem own_knob : ownKnob Try.prog.godebug = none := by kernel_rfl
theorem laid_out : laidOutB Try.prog = true := by kernel_rfl
theorem cells_u8 : Try.prog.cellsOf 5 = 1 := by kernel_rfl
set_option maxRecDepth 100000 in
theorem contract (H : Type) (enc : TypeId × Value → H) (W : World) (base : Nat) (args : Array Value) (ds gs : List (DataW H)) (before : List MemPlace)
    (hval : ∀ (j : Nat) t v, Try.f7.params[j]? = some t → args[j]? = some v → Value.okWide Try.prog W .any base t v)
    (hW : DataW.Whole enc Try.prog Try.f7.params.toList Rows.postorderDominatorsAreATreeSpec.vars false W args.toList ds gs before) :
    Calls Try.prog 7 args W fun e W' => ∃ v, e = .returned v ∧ Rows.postorderDominatorsAreATreeSpec.post enc Try.prog Try.f7 false true false false W args v W' := by
  have hW' := hW
  obtain ⟨p, q, hA, hV, rfl, hfz, hnd⟩ := hW
  have hA : DataW.TrodAll enc Try.prog W 0 (fun _ => true) true Try.f7.params.toList args.toList ds p := hA
  rw [Try.params7] at hA hval
  obtain ⟨v0, vs0, d0, ds0, p0, q0, hargs, rfl, rfl, h0, r0⟩ := trodAll_cons hA
  obtain ⟨rfl, rfl, rfl⟩ := trodAll_nil r0
  obtain rfl : args = #[v0] := by cases args; simp_all
  obtain ⟨A0, n0, c0, zs0, rfl, hA0, hn0, hm0, hs0, hz0, hc0⟩ := open_u8s Try.underlying22 Try.underlying5 cells_u8 (hval 0 22 v0 rfl rfl) h0
  refine (treelaw_walk A0 n0 c0 zs0 W (hide hA0) (hide hn0) hc0 hm0 (hide hs0) (hide hz0)).mono fun e W' ⟨he, hB⟩ => ⟨_, he, ?_⟩
  exact law_post laid_out (by decide +kernel) rfl rfl Try.underlying4 rfl hW' hB

set_option maxRecDepth 100000 in
theorem lifted (os : Os) (started : os.Started) (H : Type) (enc : TypeId × Value → H) :
    ReturnsInHanded {} Try.checked os 7 .any (Rows.postorderDominatorsAreATreeSpec.pre6 enc Try.prog Try.f7 Rows.postorderDominatorsAreATreeRow.domain false) (Rows.postorderDominatorsAreATreeSpec.post enc Try.prog Try.f7 false true false false) := by
  refine returnsInHanded_of_change (C := Try.checked) own_knob started (by kernel_rfl) Try.func7
    (ChangeSpec.witness6 (enc := enc) (C := Try.checked) false ⟨#[], #[.slice none 0 0], []⟩ 8 (by kernel_rfl) (by kernel_rfl) (by kernel_rfl) (by kernel_rfl)) ?_
  intro W base args ds gs before hval hW _ _
  exact contract H enc W base args ds gs before hval hW

theorem proved : Rows.PostorderDominatorsAreATreeSaid :=
  OpenClaim.holds_of_wide 7 Try.f7 rfl rfl rfl rfl rfl rfl rfl ⟨rfl, rfl, rfl, rfl, rfl⟩ rfl rfl rfl rfl rfl (by kernel_rfl) Try.func7 (by kernel_rfl)
    (of_decide_eq_true (by kernel_rfl)) (by unfold Func.isWrapper; first | (rw [if_pos (by decide +kernel)]; kernel_rfl) | (rw [if_neg (by decide +kernel)]; exact ⟨rfl, rfl⟩))
    (fun os started H enc _ => lifted os started H enc)
end rowPostorderDominatorsAreATree
end Go.Proofs.Ytlcmcmocjbeocaa
end
