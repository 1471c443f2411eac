import Derived.Test.YtafegghdhdgioabGreatMNstp
set_option linter.unusedVariables false
set_option linter.unusedSimpArgs false
section
/-
  The contract of the machine's run (chapter 12). Conditions: those of the types; the target is right.
-/
namespace Go.Proofs.YtafegghdhdgioabGreat
open Go.RowKit

/-- How far the loop of a run still may go. -/
def measT (m : Nat) : Option Value → Option Value → Nat
  | some (.int _ n), some (.bool b) => if b then 0 else m + 2 - n.toNat
  | _, _ => 0
theorem measT_less {m a b : Nat} {x : Bool} (ha : a ≤ m) (hb : b = a + 1 ∨ x = true) : measT m (some (.int .i64 (b : Int))) (some (.bool x)) < measT m (some (.int .i64 (a : Int))) (some (.bool false)) := by
  cases x
  · simp [measT]; have : b = a + 1 := by simpa using hb
    omega
  · simp [measT]; omega
/-- Where the loop of a run stands. -/
inductive LoopT (F : Tg) (A : Nat) (inp : List Nat) (fu size : Nat) (S : Tm) : Prop
  | on (j : Nat) (hj : j ≤ fu) (e : S = iterT F (roomT A size) j (startT A F inp size)) (h : S.c.ended = false) (hs : S.c.steps = j) (v : VT F (roomT A size) S)
  | off (h : S.c.ended = true) (e : S = runT A F inp fu size)
section
variable {F : Tg} {A : Nat} {inp : List Nat} {fu size : Nat} {S : Tm} {Al : Int}
theorem iterT_stop {T0 j m : Nat} {s : Tm} (h : (iterT F T0 j s).c.ended = true) (hj : j ≤ m) : (iterT F T0 m s).fuelled = iterT F T0 j s := by
  have e : iterT F T0 m s = iterT F T0 j s := by
    rw [show m = j + (m - j) by omega, iterT_add, iterT_ended h]
  rw [e]
  unfold Tm.fuelled
  rw [if_pos h]
theorem LoopT.start (hR : RightT Al F) (hi : ∀ v ∈ inp, v < 18446744073709551616) (hs : size ≤ 1048576) (h0 : fu ≠ 0) : LoopT F A inp fu size (startT A F inp size) := by
  rcases vt_start hR hi hs (A := A) with h | h
  · refine .off h.1 ?_
    rw [runT_pos h0]
    exact (iterT_stop (j := 0) h.1 (Nat.zero_le _)).symm
  · exact .on 0 (Nat.zero_le _) rfl h.1 ((start_moves (F := F) (Al := A) (inp := inp) (size := size)).steps) h.2
theorem LoopT.fuel (h : LoopT F A inp fu size S) (h0 : fu ≠ 0) (he : S.c.ended = false) (hs : fu ≤ S.c.steps) : S.stop 4 = runT A F inp fu size := by
  rcases h with ⟨j, hj, e, _, hst, v⟩ | ⟨h1, _⟩
  · have : j = fu := by omega
    subst this
    rw [runT_pos h0, ← e]
    unfold Tm.fuelled
    rw [if_neg (by rw [he]; decide)]
  · rw [he] at h1; cases h1
theorem LoopT.vt (h : LoopT F A inp fu size S) (he : S.c.ended = false) : VT F (roomT A size) S ∧ S.c.steps ≤ fu := by
  rcases h with ⟨j, hj, e, _, hst, v⟩ | ⟨h1, _⟩
  · exact ⟨v, by omega⟩
  · rw [he] at h1; cases h1
theorem LoopT.step (hR : RightT Al F) (him : ImmT F) (h : LoopT F A inp fu size S) (h0 : fu ≠ 0) (he : S.c.ended = false) (hs : S.c.steps < fu) : LoopT F A inp fu size (S.step F (roomT A size)) ∧ (S.step F (roomT A size)).c.steps = S.c.steps + 1 := by
  have hm := stepT_moved (F := F) (T0 := roomT A size) he
  refine ⟨?_, hm.steps⟩
  rcases h with ⟨j, hj, e, _, hst, v⟩ | ⟨h1, _⟩
  · have e2 : S.step F (roomT A size) = iterT F (roomT A size) (j + 1) (startT A F inp size) := by rw [iterT_succ, ← e, if_neg (by rw [he]; decide)]
    rcases vt_step hR him v he with h2 | h2
    · refine .off h2.1 ?_
      have h3 := h2.1
      rw [e2] at h3 ⊢
      rw [runT_pos h0]
      exact (iterT_stop h3 (by omega)).symm
    · exact .on (j + 1) (by omega) e2 h2.1 (by rw [hm.steps, hst]) h2.2
  · rw [he] at h1; cases h1
end
section
variable {g base fu T0 : Nat} {vi vt vf vs : Value} {A1 A2 : Option Addr} {c1 c2 : Nat}
/-- What holds at the loop's head. -/
def RelLT (w : World) (F : Tg) (A : Nat) (inp : List Nat) (fu size g base : Nat) (vf : Value) (wr : World) : Prop :=
  ∃ (S : Tm) (vi vt : Value) (A1 : Option Addr) (c1 : Nat) (A2 : Option Addr) (c2 : Nat) (vs : Value), TmAt wr g base fu (roomT A size) vi vt vf A1 c1 A2 c2 vs S ∧ LoopT F A inp fu size S ∧ Below base w wr
set_option maxRecDepth 100000 in
set_option maxHeartbeats 4000000 in
theorem trun_any {F : Tg} {Al : Int} {A size : Nat} {inp : List Nat} {lo nF cF : Nat} {AF : Option Addr} {hs : List Fd} (w : World) (hR : Hid (RightT Al F)) (him : Hid (ImmT F)) (hi : Hid (∀ v ∈ inp, v < 18446744073709551616)) (hfu : fu ≤ 100000) (hsz : size ≤ 1048576) (hvf : vf = .slice AF nF cF) (hPg : Hid (TgAt w lo base AF nF cF hs F)) (h : Hid (TmAt w g base fu (roomT A size) vi vt vf A1 c1 A2 c2 vs (preT A inp size))) :
    Calls Tryz.prog 30 #[.pointer (some ⟨g, 0, none⟩)] w (TPost g base fu (roomT A size) vf (runT A F inp fu size) w) := by
  have hroom : roomT A size ≤ 1048576 := Nat.le_trans (Nat.sub_le _ _) hsz
  have cg := coGoes_any w (hide h.out.core) (by omega) (show (0 : Nat) ≤ 1000000 by omega)
  by_cases h0 : fu = 0
  · subst h0
    have ha : (preT A inp size).c.asked 0 = (preT A inp size).c.stop 4 := rfl
    rw [ha] at cg
    go_enter Tryz.func30, Tryz.ntmps30
    go_wp2_with fail
    refine cg.mono ?_
    rintro e w1 ⟨rfl, h1, k1⟩
    have H1 := hide (h.out.cored h1 (k1.weak h.out.core.tr))
    have B1 := hide (h.out.belowC (k1.weak h.out.core.tr))
    clear h1 k1 cg ha
    go_wp2_with fail
    go_loopw [] (fun wr => Hid (TmAt wr g base 0 (roomT A size) vi vt vf A1 c1 A2 c2 vs ((preT A inp size).stop 4)) ∧ Hid (Below base w wr)) (fun _ => 0)
    case atStart => exact ⟨H1, B1⟩
    case round =>
      obtain ⟨H, hB⟩ := hrel
      have cg2 := coGoes_any wr (hide H.out.core) (by omega) (show (0 : Nat) ≤ 1000000 by omega)
      have ha2 : ((preT A inp size).stop 4).c.asked 0 = ((preT A inp size).stop 4).c := rfl
      rw [ha2] at cg2
      go_wp2_with fail
      refine cg2.mono ?_
      rintro e w2 ⟨rfl, h2, k2⟩
      have H2 := hide (H.out.cored h2 (k2.weak H.out.core.tr))
      have B2 := hide (hB.out.trans (H.out.belowC (k2.weak H.out.core.tr)))
      clear h2 k2 cg2
      go_wp2_with fail
      go_end0
      exact ⟨rfl, H2.out.in_, B2.out⟩
  · have ha : (preT A inp size).c.asked fu = (preT A inp size).c := by
      unfold Co.asked
      rw [if_neg (fun hh => h0 (Nat.le_zero.1 hh.2))]
    rw [ha] at cg
    obtain ⟨f0, hf0, hp0⟩ := hR.out.z
    have hf0s := (shB_iff (hR.out.f f0 (List.mem_of_getElem? hf0)).1).2.2.1
    have hnF80 : nF ≤ 80 := by have h1 := hPg.out.len; have h2 := hR.out.n80; omega
    go_enter Tryz.func30, Tryz.ntmps30
    go_wp2_with fail
    refine cg.mono ?_
    rintro e w1 ⟨rfl, h1, k1⟩
    have H1 := hide (h.out.cored h1 (k1.weak h.out.core.tr))
    have B1 := hide (h.out.belowC (k1.weak h.out.core.tr))
    have he1 : (!(preT A inp size).c.ended) = true := rfl
    have ce := tenter_any (s := preT A inp size) (T0 := roomT A size) 0 w1 (hide hf0) hf0s.1 (show (0 : Nat) ≤ 1000000 by omega) hroom (show roomT A size ≤ roomT A size from Nat.le_refl _) (show (0 : Nat) ≤ 1048576 by omega) hvf hnF80 (hide (hPg.out.below B1.out)) H1
    rw [show ((0 : Nat) : Int) = 0 from rfl] at ce
    clear h1 k1 cg ha hf0 hp0 hf0s
    go_wp2_with fail
    go_fit ce
    rintro e w2 ⟨rfl, ⟨vi2, vt2, A12, c12, A22, c22, vs2, h2⟩, b2⟩
    have HR := hide (show RelLT w F A inp fu size g base vf w2 from ⟨_, _, _, _, _, _, _, _, h2, LoopT.start hR.out hi.out hsz h0, B1.out.trans b2⟩)
    clear h2 b2 ce he1
    go_wp2_with fail
    go_loopw [] (fun wr => Hid (RelLT w F A inp fu size g base vf wr)) (fun wr => measT fu (wr.cell? ⟨g, 7, none⟩) (wr.cell? ⟨g, 24, none⟩))
    case atStart => exact HR
    case round =>
      obtain ⟨S, vi, vt, A1, c1, A2, c2, vs, H, hL, hB⟩ := hrel.out
      clear hrel
      have H := hide H
      have hL := hide hL
      have hB := hide hB
      have c7 := H.out.core.far 7 rfl
      have c24 := H.out.core.ended
      cases hen : S.c.ended with
      | true =>
        have hS : S = runT A F inp fu size := by
          rcases hL.out with ⟨j, hj, e, hh, hs, v⟩ | ⟨hh, e⟩
          · rw [hen] at hh; cases hh
          · exact e
        have hmost : S.c.steps ≤ fu := by rw [hS]; exact runT_most fu
        have cg2 := coGoes_any wr (hide H.out.core) (by omega) (by omega)
        have ha2 : S.c.asked fu = S.c := by unfold Co.asked; rw [if_neg (by rw [hen]; simp)]
        rw [ha2, hen] at cg2
        rw [← hS]
        clear ha2 c7 c24
        go_wp2_with fail
        refine cg2.mono ?_
        rintro e w2 ⟨rfl, h2, k2⟩
        have H2 := hide (H.out.cored h2 (k2.weak H.out.core.tr))
        have B2 := hide (hB.out.trans (H.out.belowC (k2.weak H.out.core.tr)))
        clear h2 k2 cg2
        go_wp2_with fail
        go_end0
        exact ⟨rfl, H2.out.in_, B2.out⟩
      | false =>
        obtain ⟨hv, hmost⟩ := hL.out.vt hen
        have cg2 := coGoes_any wr (hide H.out.core) (by omega) (by omega)
        by_cases hge : fu ≤ S.c.steps
        · have ha2 : S.c.asked fu = S.c.stop 4 := by unfold Co.asked; rw [if_pos ⟨hen, hge⟩]
          rw [ha2] at cg2
          rw [← hL.out.fuel h0 hen hge]
          have hst : (!(S.c.stop 4).ended) = false := rfl
          rw [hst] at cg2
          clear ha2 c7 c24 hst
          go_wp2_with fail
          refine cg2.mono ?_
          rintro e w2 ⟨rfl, h2, k2⟩
          have H2 := hide (H.out.cored h2 (k2.weak H.out.core.tr))
          have B2 := hide (hB.out.trans (H.out.belowC (k2.weak H.out.core.tr)))
          clear h2 k2 cg2
          go_wp2_with fail
          go_end0
          exact ⟨rfl, H2.out.in_, B2.out⟩
        · have ha2 : S.c.asked fu = S.c := by unfold Co.asked; rw [if_neg (fun hh => hge hh.2)]
          rw [ha2, hen] at cg2
          rw [hen] at c24
          have HL2 := hide (hL.out.step hR.out him.out h0 hen (by omega))
          have hmf : S.c.steps ≤ fu := by omega
          have hV := hide hv
          have hst2 : S.c.steps ≤ 200000 := by omega
          clear ha2 hge hv
          go_wp2_with fail
          refine cg2.mono ?_
          rintro e w2 ⟨rfl, h2, k2⟩
          have H2 := hide (H.out.cored h2 (k2.weak H.out.core.tr))
          have B2 := hide (hB.out.trans (H.out.belowC (k2.weak H.out.core.tr)))
          clear h2 k2 cg2
          have cs := tstep_any w2 hR him hV hst2 hroom hvf (hide (hPg.out.below B2.out)) H2
          go_wp2_with fail
          go_fit cs
          rintro e w6 ⟨rfl, ⟨vi6, vt6, A16, c16, A26, c26, vs6, h6⟩, b6⟩
          have HR := hide (show RelLT w F A inp fu size g base vf w6 from ⟨_, _, _, _, _, _, _, _, h6, HL2.out.1, B2.out.trans b6⟩)
          have d7 := hide (h6.core.far 7 rfl)
          have d24 := hide h6.core.ended
          have h2 := HL2.out.2
          clear cs h6 b6 H hL hB HL2 hV H2 B2
          go_wp2_with fail
          go_roundw
          case rel => exact HR
          case measure =>
            rw [d7.out, d24.out]
            try rw [c7, c24]
            exact measT_less hmf (Or.inl h2)
end
end Go.Proofs.YtafegghdhdgioabGreat
end
