import Derived.Test.YtlcmcmocjbeocaaMFbo
import Derived.Test.YtlcmcmocjbeocaaMFrn
import Derived.Test.YtlcmcmocjbeocaaMGrnk
import Derived.Deep.LoopGhost
import Derived.Deep.DeepCutAuto
set_option linter.unusedVariables false
set_option linter.unusedSimpArgs false
section
/-
  The contract of the reference's Reached (chapter 13). Conditions: those of the types; the function is right and has an instruction.
-/
namespace Go.Proofs.Ytlcmcmocjbeocaa
open Go.RowKit

/-- What it keeps in memory. -/
structure RrI (w : World) (P : Int) (A1 : Option Addr) (n1 c1 : Nat) (A2 : Option Addr) (n2 c2 : Nat) (R : List Bool) (wr : World) : Prop where
  g : Row wr (w.heap.size + 1) 4 (bcells R)
  f : Row wr w.heap.size 27 [.int .i64 P, .slice A1 n1 c1, .slice A2 n2 c2]
  b : Below w.heap.size w wr
section
variable {P : Int} {A1 : Option Addr} {n1 c1 : Nat} {A2 : Option Addr} {n2 c2 : Nat} {l : List Ins} {w wr w2 : World} {R : List Bool}
theorem RrI.call (h : RrI w P A1 n1 c1 A2 n2 c2 R wr) (hb : Below wr.heap.size wr w2) : RrI w P A1 n1 c1 A2 n2 c2 R w2 := ⟨h.g.call hb, h.f.call hb, below_call h.b hb⟩
theorem RrI.set (h : RrI w P A1 n1 c1 A2 n2 c2 R wr) (j : Nat) : RrI w P A1 n1 c1 A2 n2 c2 (R.set j true) (wr.setCell ⟨w.heap.size + 1, j, none⟩ (.bool true)) :=
  ⟨by rw [← bcells_set]; exact h.g.set_ j (.bool true), h.f.far (p := ⟨w.heap.size + 1, j, none⟩) (by simp) _, h.b.setCell (p := ⟨w.heap.size + 1, j, none⟩) (by simp) _⟩
/-- What a pass keeps: R0 was there at its beginning. -/
structure Pas (S : Nat → List Nat) (n : Nat) (R0 R : List Bool) (ag : Bool) (k i : Nat) : Prop where
  fp : FpI S n R
  sh : ag = false → Shut S R k i
  le : R.count false ≤ R0.count false
  lt : ag = true → R.count false < R0.count false
set_option maxRecDepth 100000 in
set_option maxHeartbeats 4000000 in
theorem rreached_any (w : World) (hC : Hid (CdAt w A2 n2 l)) (hok : Hid (FlowOk l)) (hn1 : 1 ≤ n2) :
    Calls Try.prog 19 #[fv P A1 n1 c1 A2 n2 c2] w (RchPost l n2 w) := by
  obtain ⟨j0, ji, jz0, jz1, jz2⟩ := info_parts infoB
  have hlen := hC.out.len
  have hn2 := hC.out.few
  have hmk := fmade (P := Try.prog) Try.underlying36 ji jz0 jz1 (by omega) rfl n2 (by omega) (by rw [← bcells_rep])
  have HL := hide hlen
  obtain ⟨W1, hW1⟩ : ∃ W, w.alloc (.cells #[.int .i64 P, .slice A1 n1 c1, .slice A2 n2 c2] 27) = W := ⟨_, rfl⟩
  have R1 := hide (show Row W1 w.heap.size 27 [.int .i64 P, .slice A1 n1 c1, .slice A2 n2 c2] by rw [← hW1]; exact Row.new w _ _)
  have hsz1 : W1.heap.size = w.heap.size + 1 := by rw [← hW1]; simp
  obtain ⟨W2, hW2⟩ : ∃ W, W1.alloc (.cells (bcells (List.replicate n2 false)).toArray 4) = W := ⟨_, rfl⟩
  have I2 := hide (show RrI w P A1 n1 c1 A2 n2 c2 (List.replicate n2 false) W2 from
    ⟨by rw [← hW2]; exact (Row.new W1 _ _).at_ hsz1, by rw [← hW2]; exact R1.out.alloc _, by rw [← hW2, ← hW1]; exact below2 _ _ _⟩)
  obtain ⟨W3, hW3⟩ : ∃ W, W2.setCell ⟨w.heap.size + 1, 0, none⟩ (.bool true) = W := ⟨_, rfl⟩
  have I3 := hide (show RrI w P A1 n1 c1 A2 n2 c2 ((List.replicate n2 false).set 0 true) W3 by rw [← hW3]; exact I2.out.set 0)
  have HW1 := hide hW1
  have HW2 := hide hW2
  have HW3 := hide hW3
  have HS1 := hide hsz1
  have hnz : ((n2 : Int) == 0) = false := by rw [beq_eq_false_iff_ne]; omega
  have hn0 : (0 : Int) < (n2 : Int) := by omega
  have hn0d : decide (0 < n2) = true := decide_eq_true (by omega)
  have hcf : ((List.replicate n2 false).set 0 true).count false + 1 = n2 := by
    rw [count_set (by rw [List.getElem?_replicate, if_pos (by omega)])]; simp
  have HCF := hide hcf
  clear hW1 hW2 hW3 hlen hsz1 hcf
  go_enter Try.func19, Try.ntmps19
  go_upto_region 1 with (fail)
  rw [HW1.out]
  have q2 := R1.out.cell (k := 2) rfl
  go_upto_region 2 with (fail)
  rw [HS1.out, HW2.out]
  clear q2 hmk HW1 HS1 HW2 R1
  have z0 := I2.out.g.cell (k := 0) (bcells_at (l := List.replicate n2 false) (k := 0) (b := false) (by rw [List.getElem?_replicate, if_pos (by omega)]))
  have z1 := I2.out.g.free 0
  go_upto_region 4 with (fail)
  rw [HW3.out]
  clear z0 z1 HW3 I2
  go_upto_region 5 with (fail)
  go_loopg [4] (n2 + 1) (fun gg s4 wr => ∃ (R : List Bool) (ag : Bool), s4 = .bool ag ∧ Hid (FpI (suc l) n2 R) ∧ Hid (ag = false → Shut (suc l) R n2 0) ∧ Hid (RrI w P A1 n1 c1 A2 n2 c2 R wr) ∧ (ag = true → R.count false + 1 ≤ gg))
  case atStart => exact ⟨_, true, rfl, hide (FpI.start (by omega)), hide (fun e => by cases e), I3, fun _ => by have := HCF.out; omega⟩
  case round =>
    obtain ⟨R0, ag0, rfl, hF, hSh, hI, hgg⟩ := hrel
    clear I3
    cases ag0 with
    | false =>
      have FIN := hide (show RchPost l n2 w (.returned (.slice (some ⟨w.heap.size + 1, 0, none⟩) n2 n2)) wr from ⟨R0, hF.out.end_ (hSh.out rfl), w.heap.size + 1, by rw [hF.out.len], hI.out.g, by omega, hI.out.b⟩)
      clear hF hSh hI hgg
      go_wp2_with fail
      go_ret
      exact FIN.out
    | true =>
      have hg1 := hgg rfl
      clear hgg hSh
      have PS0 := hide (show Pas (suc l) n2 R0 R0 false 0 0 from ⟨hF.out, fun _ => Shut.start, Nat.le_refl _, fun e => by cases e⟩)
      go_wp2_with fail
      go_loopw [4, 5] (fun s4 s5 wr => ∃ (k : Nat) (R : List Bool) (ag : Bool), s4 = .bool ag ∧ s5 = .int .i64 (k : Int) ∧ k ≤ n2 ∧ Hid (Pas (suc l) n2 R0 R ag k 0) ∧ Hid (RrI w P A1 n1 c1 A2 n2 c2 R wr)) (fun _ s5 _ => n2 - (intOf s5).toNat)
      case atStart => exact ⟨0, R0, false, rfl, rfl, by omega, PS0, hI⟩
      case round =>
        obtain ⟨k, R, ag, rfl, rfl, hk, hP, hI⟩ := hrel
        clear PS0
        have q0 := hI.out.f.cell (k := 0) rfl
        have q1 := hI.out.f.cell (k := 1) rfl
        have q2 := hI.out.f.cell (k := 2) rfl
        by_cases hlt : k < n2
        · have cn := rnext_any (P := P) (A1 := A1) (n1 := n1) (c1 := c1) (c2 := c2) (k : Int) wr (hide (hC.out.below hI.out.b)) hok.out
          rw [sucZ_nat] at cn
          have hXS := hide (fun (j : Nat) (h : j ∈ suc l k) => suc_lt hok.out h)
          have hX2 := hide (suc_len l k)
          obtain ⟨xs, hxs⟩ : ∃ xs, suc l k = xs := ⟨_, rfl⟩
          rw [hxs] at cn hXS hX2
          have HXS := hide hxs
          have HSB := hide hI.out.b.size
          have hk0 : (0 : Int) ≤ (k : Int) := by omega
          have hkn : (k : Int) < (n2 : Int) := by omega
          clear hxs
          go_wp2_with fail
          refine cn.mono ?_
          rintro e w5 ⟨A5, c5, rfl, ho5, hb5⟩
          have I5 := hide (hI.out.call hb5)
          have N5 := hide (show w5.ownsRow w.heap.size 3 1 (.slice A5 xs.length c5) xs.length (cellsI (toI xs)) by rw [toI_len] at ho5; exact own_lower ho5 HSB.out)
          rw [toI_len]
          clear hb5 ho5 cn q0 q1 q2 hI HSB
          go_wp2_with fail
          go_loopw [4, 7] (fun s4 s7 wr => ∃ (i : Nat) (R : List Bool) (ag : Bool), s4 = .bool ag ∧ s7 = .int .i64 (i : Int) ∧ i ≤ xs.length ∧ Hid (Pas (suc l) n2 R0 R ag k i) ∧ Hid (RrI w P A1 n1 c1 A2 n2 c2 R wr) ∧
            Hid (wr.ownsRow w.heap.size 3 1 (.slice A5 xs.length c5) xs.length (cellsI (toI xs)))) (fun _ s7 _ => xs.length - (intOf s7).toNat)
          case atStart => exact ⟨0, R, ag, rfl, rfl, by omega, hP, I5, N5⟩
          case round =>
            obtain ⟨i, R, ag, rfl, rfl, hix, hP, hI, hN⟩ := hrel
            clear I5 N5
            have hx2 : xs.length ≤ 2 := hX2.out
            have hkR : k < R.length := by rw [hP.out.fp.len]; exact hlt
            by_cases hil : i < xs.length
            · obtain ⟨g5, c5', he5, -, -, -, -⟩ := own_block hN.out (by omega)
              injection he5 with he5 _ he5c
              subst he5 he5c
              have hjx := List.getElem?_eq_getElem hil
              have hjm := List.getElem_mem hil
              have x0 : wr.cell? ⟨g5, i, none⟩ = some (.int .i64 ((xs[i] : Nat) : Int)) := by
                rw [hN.out.cellAt i (by omega), cellsI, List.getElem?_map, toI_get, hjx]; rfl
              have hjn := hXS.out xs[i] hjm
              have HJ := hide (show (suc l k)[i]? = some xs[i] by rw [HXS.out]; exact hjx)
              generalize xs[i] = j at x0 hjn HJ
              have hj2 : j < R.length := by rw [hP.out.fp.len, ← HL.out]; exact hjn
              have hi0 : (0 : Int) ≤ (i : Int) := by omega
              have hin : (i : Int) < (xs.length : Int) := by omega
              have hjj0 : (0 : Int) ≤ (j : Int) := by omega
              have hjjn : (j : Int) < (n2 : Int) := by have := HL.out; omega
              clear hjx hjm hjn
              rcases bool_get hkR with hrk | hrk
              · have y0 := hI.out.g.cell (bcells_at hrk)
                rcases bool_get hj2 with hr | hr
                · have z0 := hI.out.g.cell (bcells_at hr)
                  have P2 := hide (show Pas (suc l) n2 R0 R ag k (i + 1) from ⟨hP.out.fp, fun e => (hP.out.sh e).old HJ.out hr, hP.out.le, hP.out.lt⟩)
                  clear hr hrk
                  go_wp2_with fail
                  go_roundw
                  case rel => exact ⟨i + 1, R, ag, rfl, by go_num, by omega, P2, hI, hN⟩
                  case measure => simp [intOf]; omega
                · have z0 := hI.out.g.cell (bcells_at hr)
                  have z1 := hI.out.g.free j
                  have hcs := count_set hr
                  have P2 := hide (show Pas (suc l) n2 R0 (R.set j true) true k (i + 1) from ⟨hP.out.fp.new hrk HJ.out hr, (fun e => by cases e), by have := hP.out.le; omega, fun _ => by have := hP.out.le; omega⟩)
                  have I6 := hide (hI.out.set j)
                  have N6 := hide (hN.out.kept (fgrown_set wr (w.heap.size + 1) j (.bool true)) (fown_apart hN.out hI.out.g fbt_ne))
                  clear hr hrk
                  go_wp2_with fail
                  go_roundw
                  case rel => exact ⟨i + 1, R.set j true, true, rfl, by go_num, by omega, P2, I6, N6⟩
                  case measure => simp [intOf]; omega
              · have y0 := hI.out.g.cell (bcells_at hrk)
                have P2 := hide (show Pas (suc l) n2 R0 R ag (k + 1) 0 from ⟨hP.out.fp, fun e => (hP.out.sh e).skip hrk, hP.out.le, hP.out.lt⟩)
                clear hrk
                go_wp2_with fail
                go_roundw
                case rel =>
                  first
                    | exact ⟨k + 1, R, ag, rfl, by go_num, by omega, P2, hI⟩
                    | (cases ag <;> first | exact ⟨k + 1, R, .inl ⟨rfl, by go_num, by omega, P2, hI⟩⟩ | exact ⟨k + 1, R, .inr ⟨rfl, by go_num, by omega, P2, hI⟩⟩)
                case measure => simp [intOf]; omega
            · obtain rfl : i = xs.length := by omega
              have P2 := hide (show Pas (suc l) n2 R0 R ag (k + 1) 0 from ⟨hP.out.fp, (fun e => by have h := hP.out.sh e; rw [← HXS.out] at h; exact h.full), hP.out.le, hP.out.lt⟩)
              go_wp2_with fail
              go_roundw
              case rel =>
                first
                  | exact ⟨k + 1, R, ag, rfl, by go_num, by omega, P2, hI⟩
                  | (cases ag <;> first | exact ⟨k + 1, R, .inl ⟨rfl, by go_num, by omega, P2, hI⟩⟩ | exact ⟨k + 1, R, .inr ⟨rfl, by go_num, by omega, P2, hI⟩⟩)
              case measure => simp [intOf]; omega
        · obtain rfl : k = n2 := by omega
          have HF2 := hide hP.out.fp
          have HS2 := hide hP.out.sh
          have hlt2 := hP.out.lt
          clear hP
          go_wp2_with fail
          go_roundg (gk - 1)
          case rel => exact ⟨R, ag, rfl, HF2, HS2, hI, fun e => by have := hlt2 e; omega⟩
          case measure => omega
end
end Go.Proofs.Ytlcmcmocjbeocaa
end

section
/-
  A list of ints that can be read, with the place where it stands. No function of the program is named here.
-/
namespace Go.Proofs.Ytlcmcmocjbeocaa
open Go.RowKit

theorem sees_cells {w : World} {A : Option Addr} {Q : List Int} (h : Sees w w.heap.size A (cellsI Q)) (h0 : 0 < Q.length) : ∃ b off, A = some ⟨b, off, none⟩ ∧ ∀ (i : Nat) (x : Int), Q[i]? = some x → w.cell? ⟨b, off + i, none⟩ = some (.int .i64 x) := by
  obtain ⟨b, off, e, _, _⟩ := h 0 _ (cellsI_at (List.getElem?_eq_getElem h0))
  refine ⟨b, off, e, fun i x hx => ?_⟩
  obtain ⟨b', off', e', _, hc⟩ := h i _ (cellsI_at hx)
  have he := e.symm.trans e'
  injection he with he
  injection he with e1 e2
  subst e1 e2
  exact hc
end Go.Proofs.Ytlcmcmocjbeocaa
end
