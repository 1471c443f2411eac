import Derived.Test.YtidlnecgfgnllaaDoorMPmath
import Derived.Test.YtidlnecgfgnllaaDoorMFrows
import Derived.Test.YtidlnecgfgnllaaDoorMBtrem
import Derived.Test.YtidlnecgfgnllaaDoorMBwmi
import Derived.BigQuiet
import Derived.Deep.RegionHeld3
import Derived.Deep.DeepCutAuto
set_option linter.unusedVariables false
set_option linter.unusedSimpArgs false
section
/-
  The contract of the closure that livecheck.first hands to eachConstraint. Conditions: those of the types; the function is right; the annotation belongs to it; the table of TrailingZeros64 lies as its initialiser lays it.
-/
namespace Go.Proofs.YtidlnecgfgnllaaDoor
open Go.RowKit

/-- The list that a call returns lies in a new block. -/
theorem OutPost.openF {r : List Int} {w w' : World} {e : Ending} (h : OutPost r w e w') (ha : Hid (Asc r)) : ∃ A c, e = .returned (.slice A r.length c) ∧ Hid (Lst w' A r.length r) ∧ Hid (∀ b off, A = some ⟨b, off, none⟩ → w.heap.size ≤ b) ∧ Below w.heap.size w w' := by
  obtain ⟨A, c, e1, hL, -, hb⟩ := h.open ha
  refine ⟨A, c, e1, hL, hide fun b off hA => ?_, hb⟩
  obtain ⟨A', c', e2, ho, -⟩ := h
  rw [e1] at e2
  injection e2 with e2
  injection e2 with e2 e3 e4
  subst e2 e4
  rcases ho.2 with ⟨q, -⟩ | ⟨g, cap, cur, q, hg, -⟩
  · injection q with q
    rw [hA] at q; cases q
  · injection q with q
    rw [hA] at q
    injection q with q
    injection q with q
    omega
/-- What livecheck.first keeps in memory: its parameters and its three results. -/
structure FcI (w : World) (P : Int) (A1 : Option Addr) (n1 c1 : Nat) (A2 : Option Addr) (n2 c2 : Nat) (AL : Option Addr) (cL kI : Nat) (s : Int) (b : Bool) (wr : World) : Prop where
  f : Row wr w.heap.size 30 [.int .i64 P, .slice A1 n1 c1, .slice A2 n2 c2]
  l : Row wr (w.heap.size + 1) 25 [.slice AL n2 cL]
  k : Row wr (w.heap.size + 2) 3 [.int .i64 (kI : Int)]
  s : Row wr (w.heap.size + 3) 3 [.int .i64 s]
  b : Row wr (w.heap.size + 4) 4 [.bool b]
  bl : Below w.heap.size w wr
section
variable {P : Int} {A1 : Option Addr} {n1 c1 : Nat} {A2 : Option Addr} {n2 c2 : Nat} {AL : Option Addr} {cL kI kJ k i j M : Nat} {s t : Int} {b b' : Bool} {l : List Ins} {L : List (List Int)} {w wr w2 : World}
theorem FcI.call (h : FcI w P A1 n1 c1 A2 n2 c2 AL cL kI s b wr) (hb : Below wr.heap.size wr w2) : FcI w P A1 n1 c1 A2 n2 c2 AL cL kI s b w2 := ⟨h.f.call hb, h.l.call hb, h.k.call hb, h.s.call hb, h.b.call hb, below_call h.bl hb⟩
theorem FcI.setk (h : FcI w P A1 n1 c1 A2 n2 c2 AL cL kI s b wr) (kJ : Nat) : FcI w P A1 n1 c1 A2 n2 c2 AL cL kJ s b (wr.setCell ⟨w.heap.size + 2, 0, none⟩ (.int .i64 (kJ : Int))) :=
  ⟨h.f.far (p := ⟨w.heap.size + 2, 0, none⟩) (by simp) _, h.l.far (p := ⟨w.heap.size + 2, 0, none⟩) (by simp) _, h.k.set_ 0 _, h.s.far (p := ⟨w.heap.size + 2, 0, none⟩) (by simp) _, h.b.far (p := ⟨w.heap.size + 2, 0, none⟩) (by simp) _, h.bl.setCell (p := ⟨w.heap.size + 2, 0, none⟩) (by simp) _⟩
theorem FcI.sets (h : FcI w P A1 n1 c1 A2 n2 c2 AL cL kI s b wr) (t : Int) : FcI w P A1 n1 c1 A2 n2 c2 AL cL kI t b (wr.setCell ⟨w.heap.size + 3, 0, none⟩ (.int .i64 t)) :=
  ⟨h.f.far (p := ⟨w.heap.size + 3, 0, none⟩) (by simp) _, h.l.far (p := ⟨w.heap.size + 3, 0, none⟩) (by simp) _, h.k.far (p := ⟨w.heap.size + 3, 0, none⟩) (by simp) _, h.s.set_ 0 _, h.b.far (p := ⟨w.heap.size + 3, 0, none⟩) (by simp) _, h.bl.setCell (p := ⟨w.heap.size + 3, 0, none⟩) (by simp) _⟩
theorem FcI.setb (h : FcI w P A1 n1 c1 A2 n2 c2 AL cL kI s b wr) (b' : Bool) : FcI w P A1 n1 c1 A2 n2 c2 AL cL kI s b' (wr.setCell ⟨w.heap.size + 4, 0, none⟩ (.bool b')) :=
  ⟨h.f.far (p := ⟨w.heap.size + 4, 0, none⟩) (by simp) _, h.l.far (p := ⟨w.heap.size + 4, 0, none⟩) (by simp) _, h.k.far (p := ⟨w.heap.size + 4, 0, none⟩) (by simp) _, h.s.far (p := ⟨w.heap.size + 4, 0, none⟩) (by simp) _, h.b.set_ 0 _, h.bl.setCell (p := ⟨w.heap.size + 4, 0, none⟩) (by simp) _⟩
def FcGo (w : World) (P : Int) (A1 : Option Addr) (n1 c1 : Nat) (A2 : Option Addr) (n2 c2 : Nat) (AL : Option Addr) (cL : Nat) (l : List Ins) (L : List (List Int)) (k i : Nat) (w' : World) : Prop := ∃ kJ t b', FcI w P A1 n1 c1 A2 n2 c2 AL cL kJ t b' w' ∧ FSt l L k i kJ t b'
def FcEnd (w : World) (P : Int) (A1 : Option Addr) (n1 c1 : Nat) (A2 : Option Addr) (n2 c2 : Nat) (AL : Option Addr) (cL : Nat) (l : List Ins) (L : List (List Int)) (w' : World) : Prop := ∃ kJ t b', FcI w P A1 n1 c1 A2 n2 c2 AL cL kJ t b' w' ∧ Fst l L kJ t b'
set_option maxRecDepth 100000 in
set_option maxHeartbeats 4000000 in
theorem fclos_any (hC : Hid (CdAt w A2 n2 l)) (hok : Hid (LvOk l M)) (hL : Hid (Ann w AL n2 L)) (hLI : Hid (LvIn n2 M L)) (hT : Hid (Tab w)) (hk : k < n2) (hj : Hid ((suc l k)[i]? = some j)) (hI : Hid (FcI w P A1 n1 c1 A2 n2 c2 AL cL kI s b wr)) (hS : Hid (FSt l L k i kI s b)) :
    Calls Tryd.prog 47 #[.int .i64 (k : Int), .int .i64 (j : Int), .pointer (some ⟨w.heap.size + 4, 0, none⟩), .pointer (some ⟨w.heap.size + 2, 0, none⟩), .pointer (some ⟨w.heap.size, 0, none⟩), .pointer (some ⟨w.heap.size + 1, 0, none⟩), .pointer (some ⟨w.heap.size + 3, 0, none⟩)] wr fun e w' =>
      ((e = .returned (.bool true) ∧ FcGo w P A1 n1 c1 A2 n2 c2 AL cL l L k (i + 1) w') ∨ (e = .returned (.bool false) ∧ FcEnd w P A1 n1 c1 A2 n2 c2 AL cL l L w')) ∧ OldK (w.heap.size + 5) wr w' := by
  have hkI := hS.out.le
  have hn2 := hC.out.few
  have p2 := hI.out.k.cell (k := 0) rfl
  have p4 := hI.out.b.cell (k := 0) rfl
  by_cases hcut : b = true ∧ kI < k
  · obtain ⟨rfl, hlt⟩ := hcut
    have hlt' : (kI : Int) < (k : Int) := by omega
    have HF := hide (show FcEnd w P A1 n1 c1 A2 n2 c2 AL cL l L wr from ⟨_, _, _, hI.out, hS.out.stop hlt rfl⟩)
    go_enter Tryd.func47, Tryd.ntmps47
    go_wp2_with fail
    go_ret
    exact ⟨.inr ⟨rfl, HF.out⟩, OldK.refl⟩
  have hne : b = true → kI = k := fun e => by
    refine Classical.byContradiction fun h => hcut ⟨e, by omega⟩
  have HNE := hide hne
  have hnl : ∀ _ : b = true, ¬ ((kI : Int) < (k : Int)) := fun e => by have := hne e; omega
  have hjl : j < l.length := suc_lt hok.out.flow (List.mem_of_getElem? hj.out)
  have hlen := hC.out.len
  obtain ⟨x, hx⟩ : ∃ x, l[j]? = some x := ⟨_, List.getElem?_eq_getElem hjl⟩
  obtain ⟨_, hxe⟩ := List.getElem?_eq_some_iff.1 hx
  obtain ⟨b2, o2, rfl, hb2, y0, y1, y2, y3, y4⟩ := ins_at hC.out.see hjl
  rw [hxe] at y0 y1 y2 y3 y4
  obtain ⟨b3, o3, A3, c3, rfl, hb3, y5, hl3, hn3⟩ := hL.out.at_ (i := j) (by omega)
  obtain ⟨b3', o3', A4, c4, he4, -, y6, hl4, hn4⟩ := hL.out.at_ (i := k) hk
  injection he4 with he4
  injection he4 with he4 he5
  subst he4 he5
  obtain ⟨zj, hzj⟩ : ∃ z, L.getD j [] = z := ⟨_, rfl⟩
  obtain ⟨zk, hzk⟩ : ∃ z, L.getD k [] = z := ⟨_, rfl⟩
  have hzA : Asc zj := by rw [← hzj]; exact hLI.out.asc j
  have hKJ : inK l L j = inX x zj := by rw [inK_some hx, hzj]
  rw [hzj] at y5 hl3
  rw [hzk] at y6 hl4
  have HVA := hide (inK_asc (l := l) (L := L) hLI.out.asc j)
  have HM1 := hide (fun (hm : minusL (inK l L j) zk = []) => hS.out.skip hne hj.out (by rw [hzk]; exact hm))
  have HM2 := hide (fun (t : Int) (r : List Int) (hm : minusL (inK l L j) zk = t :: r) (hlt : b = true → t < s) => hS.out.found hLI.out.asc hne hj.out (by rw [hzk]; exact hm) hlt)
  have HM3 := hide (fun (t : Int) (r : List Int) (hm : minusL (inK l L j) zk = t :: r) (hb : b = true) (hge : s ≤ t) => (show FSt l L k (i + 1) kI s b by subst hb; exact hS.out.kept hLI.out.asc (hne rfl) hj.out (by rw [hzk]; exact hm) hge))
  have CI := hide (fun (V : World) (h : Below w.heap.size w V) =>
    (show Calls Tryd.prog 35 #[iv x.op x.a x.b x.c x.imm, .slice A3 zj.length c3] V (OutPost (inK l L j) V) by
      have q := ein_use x.op x.a x.b x.c x.imm A3 zj.length c3 zj V (hide (fun hd => by have h1 := hok.out.dfn j x hx hd; have h2 := hok.out.few; omega)) (hide (hok.out.usAsc hx)) (hide (hl3.below h)) (hide hzA) (hide (hT.out.below h))
      rw [hKJ]
      exact q))
  obtain ⟨v, hv⟩ : ∃ v, inK l L j = v := ⟨_, rfl⟩
  rw [hv] at HVA CI HM1 HM2 HM3
  have CM := hide (fun (V : World) (A' : Option Addr) (c' : Nat) (h : Hid (Lst V A' v.length v)) (hb : Below w.heap.size w V) =>
    (t_minus c' c4 h (hide (hl4.below hb)) HVA (hide (hT.out.below hb)) (hide rfl) : Calls Tryd.prog 34 #[.slice A' v.length c', .slice A4 zk.length c4] V (OutPost (minusL v zk) V)))
  have HMA := hide (minusL_asc HVA.out zk)
  obtain ⟨m, hm⟩ : ∃ m, minusL v zk = m := ⟨_, rfl⟩
  rw [hm] at CM HM1 HM2 HM3 HMA
  have HB := hide hI.out.bl
  have z0 := keep_cellB hI.out.bl y0
  have KS := hide (fun (V : World) (h : Hid (FcI w P A1 n1 c1 (some ⟨b2, o2, none⟩) n2 c2 (some ⟨b3, o3, none⟩) cL kI s b V)) =>
    (⟨h.out.f.cell (k := 2) rfl, h.out.l.cell (k := 0) rfl, keep_cellB h.out.bl y0, keep_cellB h.out.bl y1, keep_cellB h.out.bl y2, keep_cellB h.out.bl y3, keep_cellB h.out.bl y4, keep_cellB h.out.bl y5, keep_cellB h.out.bl y6⟩ :
    _ ∧ _ ∧ _ ∧ _ ∧ _ ∧ _ ∧ _ ∧ _ ∧ _))
  have J0 := hide (hI.out.call (Below.refl _ _).drew)
  have HS0 := KS.out _ J0
  have O0 := hide (show OldK (w.heap.size + 5) wr wr.drew from OldK.below (Below.refl _ _).drew)
  have hk0 : (0 : Int) ≤ (k : Int) := by omega
  have hkn : (k : Int) < (n2 : Int) := by omega
  have hj0 : (0 : Int) ≤ (j : Int) := by omega
  have hjn : (j : Int) < (n2 : Int) := by omega
  clear hx hxe hzj hzk hzA hKJ hv hm y0 y1 y2 y3 y4 y5 y6 hl3 hl4 hn3 hn4 hb2 hb3 z0 hne
  go_enter Tryd.func47, Tryd.ntmps47
  go_upto_region 1 with (fail)
  go_cut [16] (fun v16 wc => v16 = .bool false ∧ wr = wc)
  case first =>
    cases b with
    | false =>
      go_wp2_with fail
      go_meet
      exact ⟨rfl, rfl⟩
    | true =>
      have hn' := hnl rfl
      go_wp2_with fail
      go_meet
      exact ⟨rfl, rfl⟩
  case rest =>
  obtain ⟨rfl, rfl⟩ := hcut
  clear p2 p4
  go_upto_region 3 with (fail)
  go_cut [10] (fun v10 wc => ∃ (A6 : Option Addr) (c6 : Nat), v10 = .slice A6 m.length c6 ∧ Hid (Lst wc A6 m.length m) ∧ Hid (∀ b off, A6 = some ⟨b, off, none⟩ → w.heap.size + 5 ≤ b) ∧ Hid (FcI w P A1 n1 c1 (some ⟨b2, o2, none⟩) n2 c2 (some ⟨b3, o3, none⟩) cL kI s b wc) ∧ Hid (OldK (w.heap.size + 5) wr wc))
  case first =>
    clear hI
    go_region_held3 (fun V => V.cell? ⟨w.heap.size, 2, none⟩ = some (.slice (some ⟨b2, o2, none⟩) n2 c2) ∧ V.cell? ⟨w.heap.size + 1, 0, none⟩ = some (.slice (some ⟨b3, o3, none⟩) n2 cL) ∧ V.cell? ⟨b2, o2 + j * 5, none⟩ = some (.int .i64 x.op) ∧ V.cell? ⟨b2, o2 + j * 5 + 1, none⟩ = some (.int .i64 x.a) ∧ V.cell? ⟨b2, o2 + j * 5 + 2, none⟩ = some (.int .i64 x.b) ∧ V.cell? ⟨b2, o2 + j * 5 + 3, none⟩ = some (.int .i64 x.c) ∧ V.cell? ⟨b2, o2 + j * 5 + 4, none⟩ = some (.int .u64 x.imm) ∧ V.cell? ⟨b3, o3 + j, none⟩ = some (.slice A3 zj.length c3) ∧ V.cell? ⟨b3, o3 + k, none⟩ = some (.slice A4 zk.length c4))
      (first | exact HS0 | exact HS6 | exact HS7)
      (first
        | (go_at_call 35; with_reducible refine Calls.mono (CI.out _ J0.out.bl) ?_; intro e w6 h6; obtain ⟨A6, c6, rfl, HL6, -, hb6⟩ := OutPost.open h6 HVA; have J6 := hide (J0.out.call hb6); have O6 := hide (O0.out.trans (OldK.below hb6)); have HS6 := KS.out _ J6; clear h6 hb6)
        | (go_at_call 34; with_reducible refine Calls.mono (CM.out _ A6 c6 HL6 J6.out.bl) ?_; intro e w7 h7; obtain ⟨A7, c7, rfl, HL7, HF7, hb7⟩ := OutPost.openF h7 HMA; have HF8 := hide (fun b off hA => (show w.heap.size + 5 ≤ b from Nat.le_trans J6.out.b.lt (HF7.out b off hA))); have J7 := hide (J6.out.call hb7); have O7 := hide (O6.out.trans (OldK.below hb7)); have HS7 := KS.out _ J7; clear h7 hb7))
    go_wp2_with fail
    go_meet
    exact ⟨A7, c7, rfl, HL7, HF8, J7, O7⟩
  case rest =>
    obtain ⟨A7, c7, rfl, HL7, HF8, J7, O7⟩ := hcut
    clear hI J0 O0 HS0 CI CM KS
    cases m with
    | nil =>
      have HF := hide (show FcGo w P A1 n1 c1 (some ⟨b2, o2, none⟩) n2 c2 (some ⟨b3, o3, none⟩) cL l L k (i + 1) _ from ⟨_, _, _, J7.out, HM1.out rfl⟩)
      clear HM1 HM2 HM3
      go_wp2_with fail
      go_ret
      exact ⟨.inl ⟨rfl, HF.out⟩, O7.out⟩
    | cons t r =>
      obtain ⟨b7, o7, rfl, hb7, x0⟩ := HL7.out.see 0 (.int .i64 t) rfl
      have hlr := HL7.out.le
      have hb8 := HF8.out b7 o7 rfl
      have hn2 : ¬ b7 = w.heap.size + 2 := by omega
      have hn3 : ¬ b7 = w.heap.size + 3 := by omega
      have hn4 : ¬ b7 = w.heap.size + 4 := by omega
      rw [Nat.add_zero] at x0
      have r2 := J7.out.k.cell (k := 0) rfl
      have r3 := J7.out.s.cell (k := 0) rfl
      have r4 := J7.out.b.cell (k := 0) rfl
      have f2 := J7.out.k.free 0
      have f3 := J7.out.s.free 0
      have f4 := J7.out.b.free 0
      have JD := hide (fun n => J7.out.call (below_draws (Below.refl _ _) n))
      have OD := hide (fun n => O7.out.trans (OldK.below (below_draws (Below.refl _ _) n)))
      clear HL7 J7 O7 HMA HVA hb7
      cases b with
      | false =>
        have HG := hide (HM2.out t r rfl (fun e => by cases e))
        clear HM1 HM2 HM3
        go_wp2_with fail
        go_quiet (fail)
        have JV := hide (JD.out nq)
        have OV := hide (OD.out nq)
        have xv := keep_cellB (below_draws (Below.refl _ _) nq) x0
        clear r2 r3 r4 f2 f3 f4 JD OD
        generalize World.drewN _ nq = V at JV OV xv ⊢
        have r2 := JV.out.k.cell (k := 0) rfl
        have r3 := JV.out.s.cell (k := 0) rfl
        have r4 := JV.out.b.cell (k := 0) rfl
        have f2 := JV.out.k.free 0
        have f3 := JV.out.s.free 0
        have f4 := JV.out.b.free 0
        go_wp2_with fail
        go_region
        all_goals
          obtain ⟨W9, hW9⟩ : ∃ W, (((V.setCell ⟨w.heap.size + 2, 0, none⟩ (.int .i64 (k : Int))).setCell ⟨w.heap.size + 3, 0, none⟩ (.int .i64 t)).setCell ⟨w.heap.size + 4, 0, none⟩ (.bool true)).drew = W := ⟨_, rfl⟩
          have HF := hide (show FcGo w P A1 n1 c1 (some ⟨b2, o2, none⟩) n2 c2 (some ⟨b3, o3, none⟩) cL l L k (i + 1) W9 from ⟨k, t, true, by rw [← hW9]; exact (((JV.out.setk k).sets t).setb true).call (Below.refl _ _).drew, HG.out⟩)
          have HO := hide (show OldK (w.heap.size + 5) wr W9 by rw [← hW9]; exact (((OV.out.trans (OldK.set_ (by omega) 0 _)).trans (OldK.set_ (by omega) 0 _)).trans (OldK.set_ (by omega) 0 _)).trans (OldK.below (Below.refl _ _).drew))
          rw [hW9]
          clear hW9 JV OV r2 r3 r4 f2 f3 f4 xv x0
          go_wp2_with fail
          go_ret
          exact ⟨.inl ⟨rfl, HF.out⟩, HO.out⟩
      | true =>
        by_cases hts : t < s
        · have HG := hide (HM2.out t r rfl (fun _ => hts))
          clear HM1 HM2 HM3
          go_wp2_with fail
          go_quiet (fail)
          have JV := hide (JD.out nq)
          have OV := hide (OD.out nq)
          have xv := keep_cellB (below_draws (Below.refl _ _) nq) x0
          clear r2 r3 r4 f2 f3 f4 JD OD
          generalize World.drewN _ nq = V at JV OV xv ⊢
          have r2 := JV.out.k.cell (k := 0) rfl
          have r3 := JV.out.s.cell (k := 0) rfl
          have r4 := JV.out.b.cell (k := 0) rfl
          have f2 := JV.out.k.free 0
          have f3 := JV.out.s.free 0
          have f4 := JV.out.b.free 0
          go_wp2_with fail
          go_region
          all_goals
            obtain ⟨W9, hW9⟩ : ∃ W, (((V.setCell ⟨w.heap.size + 2, 0, none⟩ (.int .i64 (k : Int))).setCell ⟨w.heap.size + 3, 0, none⟩ (.int .i64 t)).setCell ⟨w.heap.size + 4, 0, none⟩ (.bool true)).drew = W := ⟨_, rfl⟩
            have HF := hide (show FcGo w P A1 n1 c1 (some ⟨b2, o2, none⟩) n2 c2 (some ⟨b3, o3, none⟩) cL l L k (i + 1) W9 from ⟨k, t, true, by rw [← hW9]; exact (((JV.out.setk k).sets t).setb true).call (Below.refl _ _).drew, HG.out⟩)
            have HO := hide (show OldK (w.heap.size + 5) wr W9 by rw [← hW9]; exact (((OV.out.trans (OldK.set_ (by omega) 0 _)).trans (OldK.set_ (by omega) 0 _)).trans (OldK.set_ (by omega) 0 _)).trans (OldK.below (Below.refl _ _).drew))
            rw [hW9]
            clear hW9 JV OV r2 r3 r4 f2 f3 f4 xv x0
            go_wp2_with fail
            go_ret
            exact ⟨.inl ⟨rfl, HF.out⟩, HO.out⟩
        · have HG := hide (fun n => (show FcGo w P A1 n1 c1 (some ⟨b2, o2, none⟩) n2 c2 (some ⟨b3, o3, none⟩) cL l L k (i + 1) _ from ⟨kI, s, true, JD.out n, HM3.out t r rfl rfl (by omega)⟩))
          clear HM1 HM2 HM3 JD
          go_wp2_with fail
          go_quiet (fail)
          have HF := hide (HG.out nq)
          have HO := hide (OD.out nq)
          clear r2 r3 r4 f2 f3 f4 HG OD x0
          generalize World.drewN _ nq = V at HF HO ⊢
          go_wp2_with fail
          go_ret
          exact ⟨.inl ⟨rfl, HF.out⟩, HO.out⟩
end
end Go.Proofs.YtidlnecgfgnllaaDoor
end
