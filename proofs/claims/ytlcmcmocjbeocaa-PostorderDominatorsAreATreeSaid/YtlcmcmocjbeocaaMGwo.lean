import Derived.Test.YtlcmcmocjbeocaaMFrr
import Derived.Test.YtlcmcmocjbeocaaMGdom
import Derived.Test.YtlcmcmocjbeocaaMFnx
import Derived.Test.YtlcmcmocjbeocaaMFrn
import Derived.Test.YtlcmcmocjbeocaaMPown
import Derived.Test.YtlcmcmocjbeocaaMGrnk
import Derived.Test.YtlcmcmocjbeocaaMGolaw
import Derived.Test.YtlcmcmocjbeocaaMLaw
import Derived.Deep.AppendLies
import Derived.Laws.MakeOwn
import Derived.Maps.AppendAt
import Derived.ChangeAlike
import Derived.Deep.LoopGhost
import Derived.BigQuiet
set_option linter.unusedVariables false
set_option linter.unusedSimpArgs false
section
/-
  The contract of the reference's without (chapter 14): which instructions are reached without going through one of them. Conditions: those of the types; the function is right and has an instruction.
-/
namespace Go.Proofs.Ytlcmcmocjbeocaa
open Go.RowKit

/-- What without hands back. -/
def WoPost (l : List Ins) (d n : Nat) (w : World) (e : Ending) (w' : World) : Prop := ∃ R, IsWo (suc l) d n R ∧ BoolsPost R w e w'
section
variable {P : Int} {A1 : Option Addr} {n1 c1 : Nat} {A2 : Option Addr} {n2 c2 : Nat} {l : List Ins} {w wr w2 : World} {R : List Bool}
/-- What a pass keeps: R0 was there at its beginning. -/
structure PaW (S : Nat → List Nat) (d n : Nat) (R0 R : List Bool) (ag : Bool) (k i : Nat) : Prop where
  fp : WoI S d n R
  sh : ag = false → WoS S d R k i
  le : R.count false ≤ R0.count false
  lt : ag = true → R.count false < R0.count false
set_option maxRecDepth 100000 in
set_option maxHeartbeats 4000000 in
theorem without_pos (d : Nat) (w : World) (hC : Hid (CdAt w A2 n2 l)) (hok : Hid (FlowOk l)) (hn1 : 1 ≤ n2) (hd0 : d ≠ 0) :
    Calls Try.prog 33 #[fv P A1 n1 c1 A2 n2 c2, .int .i64 (d : Int)] w (WoPost l d n2 w) := by
  obtain ⟨j0, ji, jz0, jz1, jz2⟩ := info_parts infoB
  have hlen := hC.out.len
  have hn2 := hC.out.few
  have hmk := fmade (P := Try.prog) Try.underlying36 ji jz0 jz1 (by omega) rfl n2 (by omega) (by rw [← bcells_rep])
  have HL := hide hlen
  obtain ⟨W1, hW1⟩ : ∃ W, w.alloc (.cells #[.int .i64 P, .slice A1 n1 c1, .slice A2 n2 c2] 27) = W := ⟨_, rfl⟩
  have R1 := hide (show Row W1 w.heap.size 27 [.int .i64 P, .slice A1 n1 c1, .slice A2 n2 c2] by rw [← hW1]; exact Row.new w _ _)
  have hsz1 : W1.heap.size = w.heap.size + 1 := by rw [← hW1]; simp
  obtain ⟨W2, hW2⟩ : ∃ W, W1.alloc (.cells (bcells (List.replicate n2 false)).toArray 4) = W := ⟨_, rfl⟩
  have I2 := hide (show RrI w P A1 n1 c1 A2 n2 c2 (List.replicate n2 false) W2 from
    ⟨by rw [← hW2]; exact (Row.new W1 _ _).at_ hsz1, by rw [← hW2]; exact R1.out.alloc _, by rw [← hW2, ← hW1]; exact below2 _ _ _⟩)
  obtain ⟨W3, hW3⟩ : ∃ W, W2.setCell ⟨w.heap.size + 1, 0, none⟩ (.bool true) = W := ⟨_, rfl⟩
  have I3 := hide (show RrI w P A1 n1 c1 A2 n2 c2 ((List.replicate n2 false).set 0 true) W3 by rw [← hW3]; exact I2.out.set 0)
  have HW1 := hide hW1
  have HW2 := hide hW2
  have HW3 := hide hW3
  have HS1 := hide hsz1
  have hnz : ((n2 : Int) == 0) = false := by rw [beq_eq_false_iff_ne]; omega
  have hdz : ((d : Int) == 0) = false := by rw [beq_eq_false_iff_ne]; omega
  have hn0 : (0 : Int) < (n2 : Int) := by omega
  have hn0d : decide (0 < n2) = true := decide_eq_true (by omega)
  have hcf : ((List.replicate n2 false).set 0 true).count false + 1 = n2 := by
    rw [count_set (by rw [List.getElem?_replicate, if_pos (by omega)])]; simp
  have HCF := hide hcf
  clear hW1 hW2 hW3 hlen hsz1 hcf
  go_enter Try.func33, Try.ntmps33
  go_upto_region 1 with (fail)
  rw [HW1.out]
  have q2 := R1.out.cell (k := 2) rfl
  go_upto_region 2 with (fail)
  rw [HS1.out, HW2.out]
  clear q2 hmk HW1 HS1 HW2 R1
  have z0 := I2.out.g.cell (k := 0) (bcells_at (l := List.replicate n2 false) (k := 0) (b := false) (by rw [List.getElem?_replicate, if_pos (by omega)]))
  have z1 := I2.out.g.free 0
  go_upto_region 5 with (fail)
  rw [HW3.out]
  clear z0 z1 HW3 I2
  go_upto_region 6 with (fail)
  go_loopg [6] (n2 + 1) (fun gg s6 wr => ∃ (R : List Bool) (ag : Bool), s6 = .bool ag ∧ Hid (WoI (suc l) d n2 R) ∧ Hid (ag = false → WoS (suc l) d R n2 0) ∧ Hid (RrI w P A1 n1 c1 A2 n2 c2 R wr) ∧ (ag = true → R.count false + 1 ≤ gg))
  case atStart => exact ⟨_, true, rfl, hide (WoI.start (by omega) hd0), hide (fun e => by cases e), I3, fun _ => by have := HCF.out; omega⟩
  case round =>
    obtain ⟨R0, ag0, rfl, hF, hSh, hI, hgg⟩ := hrel
    clear I3
    cases ag0 with
    | false =>
      have FIN := hide (show WoPost l d n2 w (.returned (.slice (some ⟨w.heap.size + 1, 0, none⟩) n2 n2)) wr from ⟨R0, hF.out.end_ (hSh.out rfl), w.heap.size + 1, by rw [hF.out.len], hI.out.g, by omega, hI.out.b⟩)
      clear hF hSh hI hgg
      go_wp2_with fail
      go_ret
      exact FIN.out
    | true =>
      have hg1 := hgg rfl
      clear hgg hSh
      have PS0 := hide (show PaW (suc l) d n2 R0 R0 false 0 0 from ⟨hF.out, fun _ => WoS.start, Nat.le_refl _, fun e => by cases e⟩)
      go_wp2_with fail
      go_loopw [6, 7] (fun s6 s7 wr => ∃ (k : Nat) (R : List Bool) (ag : Bool), s6 = .bool ag ∧ s7 = .int .i64 (k : Int) ∧ k ≤ n2 ∧ Hid (PaW (suc l) d n2 R0 R ag k 0) ∧ Hid (RrI w P A1 n1 c1 A2 n2 c2 R wr)) (fun _ s7 _ => n2 - (intOf s7).toNat)
      case atStart => exact ⟨0, R0, false, rfl, rfl, by omega, PS0, hI⟩
      case round =>
        obtain ⟨k, R, ag, rfl, rfl, hk, hP, hI⟩ := hrel
        clear PS0
        have q0 := hI.out.f.cell (k := 0) rfl
        have q1 := hI.out.f.cell (k := 1) rfl
        have q2 := hI.out.f.cell (k := 2) rfl
        by_cases hlt : k < n2
        · have cn := rnext_any (P := P) (A1 := A1) (n1 := n1) (c1 := c1) (c2 := c2) (k : Int) wr (hide (hC.out.below hI.out.b)) hok.out
          rw [sucZ_nat] at cn
          have hXS := hide (fun (j : Nat) (h : j ∈ suc l k) => suc_lt hok.out h)
          have hX2 := hide (suc_len l k)
          obtain ⟨xs, hxs⟩ : ∃ xs, suc l k = xs := ⟨_, rfl⟩
          rw [hxs] at cn hXS hX2
          have HXS := hide hxs
          have HSB := hide hI.out.b.size
          have hk0 : (0 : Int) ≤ (k : Int) := by omega
          have hkn : (k : Int) < (n2 : Int) := by omega
          clear hxs
          go_wp2_with fail
          refine cn.mono ?_
          rintro e w5 ⟨A5, c5, rfl, ho5, hb5⟩
          have I5 := hide (hI.out.call hb5)
          have N5 := hide (show w5.ownsRow w.heap.size 3 1 (.slice A5 xs.length c5) xs.length (cellsI (toI xs)) by rw [toI_len] at ho5; exact own_lower ho5 HSB.out)
          rw [toI_len]
          clear hb5 ho5 cn q0 q1 q2 hI HSB
          go_wp2_with fail
          go_loopw [6, 9] (fun s6 s9 wr => ∃ (i : Nat) (R : List Bool) (ag : Bool), s6 = .bool ag ∧ s9 = .int .i64 (i : Int) ∧ i ≤ xs.length ∧ Hid (PaW (suc l) d n2 R0 R ag k i) ∧ Hid (RrI w P A1 n1 c1 A2 n2 c2 R wr) ∧
            Hid (wr.ownsRow w.heap.size 3 1 (.slice A5 xs.length c5) xs.length (cellsI (toI xs)))) (fun _ s9 _ => xs.length - (intOf s9).toNat)
          case atStart => exact ⟨0, R, ag, rfl, rfl, by omega, hP, I5, N5⟩
          case round =>
            obtain ⟨i, R, ag, rfl, rfl, hix, hP, hI, hN⟩ := hrel
            clear I5 N5
            have hx2 : xs.length ≤ 2 := hX2.out
            have hkR : k < R.length := by rw [hP.out.fp.len]; exact hlt
            by_cases hil : i < xs.length
            · obtain ⟨g5, c5', he5, -, -, -, -⟩ := own_block hN.out (by omega)
              injection he5 with he5 _ he5c
              subst he5 he5c
              have hjx := List.getElem?_eq_getElem hil
              have hjm := List.getElem_mem hil
              have x0 : wr.cell? ⟨g5, i, none⟩ = some (.int .i64 ((xs[i] : Nat) : Int)) := by
                rw [hN.out.cellAt i (by omega), cellsI, List.getElem?_map, toI_get, hjx]; rfl
              have hjn := hXS.out xs[i] hjm
              have HJ := hide (show (suc l k)[i]? = some xs[i] by rw [HXS.out]; exact hjx)
              generalize xs[i] = j at x0 hjn HJ
              have hj2 : j < R.length := by rw [hP.out.fp.len, ← HL.out]; exact hjn
              have hi0 : (0 : Int) ≤ (i : Int) := by omega
              have hin : (i : Int) < (xs.length : Int) := by omega
              have hjj0 : (0 : Int) ≤ (j : Int) := by omega
              have hjjn : (j : Int) < (n2 : Int) := by have := HL.out; omega
              clear hjx hjm hjn
              rcases bool_get hkR with hrk | hrk
              · have y0 := hI.out.g.cell (bcells_at hrk)
                have hil2 : decide ((i : Int) < (xs.length : Int)) = true := decide_eq_true hin
                by_cases hjd : j = d
                · subst hjd
                  have P2 := hide (show PaW (suc l) j n2 R0 R ag k (i + 1) from ⟨hP.out.fp, fun e => (hP.out.sh e).old HJ.out (fun h => absurd rfl h), hP.out.le, hP.out.lt⟩)
                  clear hrk
                  go_wp2_with fail
                  go_roundw
                  case rel => exact ⟨i + 1, R, ag, rfl, by go_num, by omega, P2, hI, hN⟩
                  case measure => simp [intOf]; omega
                · have hjne : ((j : Int) == (d : Int)) = false := by rw [beq_eq_false_iff_ne]; omega
                  have hjne2 : ¬ ((j : Int) = (d : Int)) := by omega
                  rcases bool_get hj2 with hr | hr
                  · have z0 := hI.out.g.cell (bcells_at hr)
                    have P2 := hide (show PaW (suc l) d n2 R0 R ag k (i + 1) from ⟨hP.out.fp, fun e => (hP.out.sh e).old HJ.out (fun _ => hr), hP.out.le, hP.out.lt⟩)
                    clear hr hrk
                    go_wp2_with fail
                    go_roundw
                    case rel => exact ⟨i + 1, R, ag, rfl, by go_num, by omega, P2, hI, hN⟩
                    case measure => simp [intOf]; omega
                  · have z0 := hI.out.g.cell (bcells_at hr)
                    have z1 := hI.out.g.free j
                    have hcs := count_set hr
                    have P2 := hide (show PaW (suc l) d n2 R0 (R.set j true) true k (i + 1) from ⟨hP.out.fp.new hrk HJ.out hjd hr, (fun e => by cases e), by have := hP.out.le; omega, fun _ => by have := hP.out.le; omega⟩)
                    have I6 := hide (hI.out.set j)
                    have N6 := hide (hN.out.kept (fgrown_set wr (w.heap.size + 1) j (.bool true)) (fown_apart hN.out hI.out.g fbt_ne))
                    clear hr hrk
                    go_wp2_with fail
                    go_roundw
                    case rel => exact ⟨i + 1, R.set j true, true, rfl, by go_num, by omega, P2, I6, N6⟩
                    case measure => simp [intOf]; omega
              · have y0 := hI.out.g.cell (bcells_at hrk)
                have P2 := hide (show PaW (suc l) d n2 R0 R ag (k + 1) 0 from ⟨hP.out.fp, fun e => (hP.out.sh e).skip hrk, hP.out.le, hP.out.lt⟩)
                clear hrk
                go_wp2_with fail
                go_roundw
                case rel =>
                  first
                    | exact ⟨k + 1, R, ag, rfl, by go_num, by omega, P2, hI⟩
                    | (cases ag <;> first | exact ⟨k + 1, R, .inl ⟨rfl, by go_num, by omega, P2, hI⟩⟩ | exact ⟨k + 1, R, .inr ⟨rfl, by go_num, by omega, P2, hI⟩⟩)
                case measure => simp [intOf]; omega
            · obtain rfl : i = xs.length := by omega
              have P2 := hide (show PaW (suc l) d n2 R0 R ag (k + 1) 0 from ⟨hP.out.fp, (fun e => by have h := hP.out.sh e; rw [← HXS.out] at h; exact h.full), hP.out.le, hP.out.lt⟩)
              go_wp2_with fail
              go_roundw
              case rel =>
                first
                  | exact ⟨k + 1, R, ag, rfl, by go_num, by omega, P2, hI⟩
                  | (cases ag <;> first | exact ⟨k + 1, R, .inl ⟨rfl, by go_num, by omega, P2, hI⟩⟩ | exact ⟨k + 1, R, .inr ⟨rfl, by go_num, by omega, P2, hI⟩⟩)
              case measure => simp [intOf]; omega
        · obtain rfl : k = n2 := by omega
          have HF2 := hide hP.out.fp
          have HS2 := hide hP.out.sh
          have hlt2 := hP.out.lt
          clear hP
          go_wp2_with fail
          go_roundg (gk - 1)
          case rel => exact ⟨R, ag, rfl, HF2, HS2, hI, fun e => by have := hlt2 e; omega⟩
          case measure => omega
end
end Go.Proofs.Ytlcmcmocjbeocaa
end

section
/-
  The contracts of flow.Before and of the reference's Before: for each instruction the ones that it may follow. Conditions: those of the types; the function is right.
-/
namespace Go.Proofs.Ytlcmcmocjbeocaa
open Go.RowKit

theorem fmade2 {P : Program} {t e : TypeId} {i : TypeInfo} {z : Value} {L : List Value} (ht : P.underlying t = some (.slice e)) (hi : P.info? e = some i) (hz : i.zero = some z) (hs : i.size = 1) (hb : i.bytes ≤ 64) (hc : z.cells = #[z])
    (n : Nat) (hm : n ≤ 1048576) (hL : List.replicate n z = L) (W : World) :
    (Instr.makeSlice t (.int .i64 (n : Int)) (.int .i64 (n : Int))).run P W = .ok (.slice (some ⟨W.heap.size, 0, none⟩) n n) (W.alloc (.cells L.toArray e)) := by
  have hbn : i.bytes * n ≤ 64 * 1048576 := Nat.mul_le_mul hb hm
  have h := run_make W t e i _ ht hi hz .i64 .i64 (n : Int) (n : Int) (by omega) (by omega) (by rw [← Int.natCast_mul]; omega) (by omega)
  rw [h, show ((n : Int)).toNat = n by omega, hs, Nat.mul_one, hc, madeCells_list z n, hL]
theorem Row.append2 {wr w2 : World} {base G t n : Nat} {v : Value} {xs cs : List Value} {o : Obj} (h : Row wr G t cs) (ho : wr.ownsRow base 3 1 v n xs) (ht : t ≠ 3) (hg : (wr.alloc o).grownBy w2 v.ownBlock) : Row w2 G t cs :=
  (h.alloc o).grown hg fun e => by
    rcases fown_apart ho h ht with h1 | h1
    · rw [h1] at e; cases e
    · exact h1 e.symm
theorem infoS : (Try.prog.info? 30).map (fun i => (i.zero, i.size, i.bytes)) = some (some (.slice none 0 0), 1, 24) := by kernel_rfl
section
variable {w w' : World} {base g : Nat} {vs : List Value} {zss : List (List Nat)}
theorem LLs.lt (h : LLs w base g vs zss) {i b : Nat} {u : Value} (h1 : vs[i]? = some u) (h2 : u.ownBlock = some b) : b < w.heap.size := by
  have hi : i < zss.length := by rw [← h.len]; exact (List.getElem?_eq_some_iff.1 h1).1
  exact ((h.own i u _ h1 (List.getElem?_eq_getElem hi)).lt b h2).2
theorem LLs.at2 (h : LLs w base g vs zss) {j : Nat} {zs : List Nat} (hz : zss[j]? = some zs) : ∃ (A : Option Addr) (c : Nat), vs[j]? = some (.slice A zs.length c) ∧ w.cell? ⟨g, j, none⟩ = some (.slice A zs.length c) ∧ w.ownsRow base 3 1 (.slice A zs.length c) zs.length (cellsI (toI zs)) := by
  obtain ⟨hj, hz⟩ := List.getElem?_eq_some_iff.1 hz
  obtain ⟨A, n, c, h1, h2, rfl, -, h3⟩ := h.at_ hj
  rw [hz] at h1 h2 h3
  exact ⟨A, c, h1, h2, h3⟩
end
/-- A list of n nils. -/
def nils (n : Nat) : List Value := List.replicate n (.slice none 0 0)
/-- What the loops keep in memory. -/
structure BfI (w : World) (P : Int) (A1 : Option Addr) (n1 c1 : Nat) (A2 : Option Addr) (n2 c2 : Nat) (vs : List Value) (zss : List (List Nat)) (wr : World) : Prop where
  l : LLs wr w.heap.size (w.heap.size + 1) vs zss
  f : Row wr w.heap.size 27 [.int .i64 P, .slice A1 n1 c1, .slice A2 n2 c2]
  b : Below w.heap.size w wr
/-- A row that none of the lists lies in. -/
def Dis (v : Value) (vs : List Value) : Prop := ∀ b, v.ownBlock = some b → ∀ (i : Nat) (u : Value), vs[i]? = some u → u.ownBlock ≠ some b
section
variable {P : Int} {A1 : Option Addr} {n1 c1 : Nat} {A2 : Option Addr} {n2 c2 : Nat} {l : List Ins} {w wr w2 : World} {vs : List Value} {zss : List (List Nat)}
theorem BfI.call (h : BfI w P A1 n1 c1 A2 n2 c2 vs zss wr) (hb : Below wr.heap.size wr w2) : BfI w P A1 n1 c1 A2 n2 c2 vs zss w2 := ⟨h.l.below hb, h.f.call hb, below_call h.b hb⟩
theorem BfI.apart (h : BfI w P A1 n1 c1 A2 n2 c2 vs zss wr) {v : Value} {n : Nat} {xs : List Value} (ho : w2.ownsRow wr.heap.size 3 1 v n xs) : Dis v vs := fun b hb i u hu e => by
  have h1 := (ho.lt b hb).1
  have h2 := h.l.lt hu e
  omega
theorem BfI.app {o : Obj} {j x n : Nat} {v v' y : Value} {zs : List Nat} {ys : List Value} (h : BfI w P A1 n1 c1 A2 n2 c2 vs zss wr) (hv : vs[j]? = some v) (hz : zss[j]? = some zs) (hx : x ≤ 1000000)
    (ho : w2.ownsRow w.heap.size 3 1 v' (zs.length + 1) (cellsI (toI zs) ++ [.int .i64 (x : Int)])) (hg : (wr.alloc o).grownBy w2 v.ownBlock) (hw : ∀ k, v'.ownBlock = some k → v.ownBlock = some k ∨ k = (wr.alloc o).heap.size)
    (hN : wr.ownsRow w.heap.size 3 1 y n ys) (hD : Dis y vs) :
    BfI w P A1 n1 c1 A2 n2 c2 (vs.set j v') (zss.set j (zs ++ [x])) (w2.setCell ⟨w.heap.size + 1, j, none⟩ v') ∧ (w2.setCell ⟨w.heap.size + 1, j, none⟩ v').ownsRow w.heap.size 3 1 y n ys ∧ Dis y (vs.set j v') ∧
      w2.frozen? ⟨w.heap.size + 1, j, none⟩ = false ∧ w2.cell? ⟨w.heap.size + 1, j, none⟩ = some v ∧ w2.ownsRow w.heap.size 3 1 y n ys := by
  have hvo := h.l.own j v zs hv hz
  have hR := h.l.row.append2 hvo fty_ne hg
  have hy : y.ownBlock = none ∨ y.ownBlock ≠ v.ownBlock := by
    cases hb : y.ownBlock with
    | none => exact .inl rfl
    | some b => exact .inr fun e => hD b hb j v hv e.symm
  have hN2 := (hN.alloc o).kept hg hy
  refine ⟨⟨h.l.app hv hz hx ho hg hw, (h.f.append2 hvo (by decide) hg).far (p := ⟨w.heap.size + 1, j, none⟩) (by simp) _, (below_append (h.b.alloc h.b.size o) (hvo.alloc o) (Nat.le_refl _) hg (Nat.le_trans h.b.size (by simp))).setCell (p := ⟨w.heap.size + 1, j, none⟩) (by simp) _⟩,
    hN2.kept (fgrown_set _ _ _ _) (fown_apart hN2 hR fty_ne), fun b hb i u hu e => ?_, hR.free j, hR.cell hv, hN2⟩
  rw [List.getElem?_set] at hu
  by_cases q : j = i
  · rw [if_pos q] at hu
    split at hu
    · injection hu with hu
      subst hu
      rcases hw b e with h1 | h1
      · exact hD b hb j v hv h1
      · have h2 := (hN.lt b hb).2
        have hs : (wr.alloc o).heap.size = wr.heap.size + 1 := by simp
        omega
    · cases hu
  · rw [if_neg q] at hu
    exact hD b hb i u hu e
set_option maxRecDepth 100000 in
set_option maxHeartbeats 2000000 in
theorem before_any (w : World) (hC : Hid (CdAt w A2 n2 l)) (hok : Hid (FlowOk l)) :
    Calls Try.prog 47 #[fv P A1 n1 c1 A2 n2 c2] w (ListsPost (befL l n2 n2 0) w) := by
  obtain ⟨i0, hi, hz0, hz1, hz2⟩ := info_parts infoI
  obtain ⟨j0, ji, jz0, jz1, jz2⟩ := info_parts infoS
  have hlen := hC.out.len
  have hn2 := hC.out.few
  have hmk := fmade2 (P := Try.prog) Try.underlying58 ji jz0 jz1 (by omega) rfl n2 (by omega) (L := nils n2) rfl
  have HL := hide hlen
  obtain ⟨W1, hW1⟩ : ∃ W, w.alloc (.cells #[.int .i64 P, .slice A1 n1 c1, .slice A2 n2 c2] 27) = W := ⟨_, rfl⟩
  have R1 := hide (show Row W1 w.heap.size 27 [.int .i64 P, .slice A1 n1 c1, .slice A2 n2 c2] by rw [← hW1]; exact Row.new w _ _)
  have hsz1 : W1.heap.size = w.heap.size + 1 := by rw [← hW1]; simp
  obtain ⟨W2, hW2⟩ : ∃ W, W1.alloc (.cells (nils n2).toArray 30) = W := ⟨_, rfl⟩
  have I2 := hide (show BfI w P A1 n1 c1 A2 n2 c2 (nils n2) (befL l n2 0 0) W2 by
    rw [befL_start, ← hW2]
    exact ⟨LLs.make ((Row.new W1 _ _).at_ hsz1) (by omega), R1.out.alloc _, by rw [← hW1]; exact below2 _ _ _⟩)
  have HW1 := hide hW1
  have HW2 := hide hW2
  have HS1 := hide hsz1
  clear hW1 hW2 hlen hsz1
  go_enter Try.func47, Try.ntmps47
  go_upto_region 1 with (fail)
  rw [HW1.out]
  have q2 := R1.out.cell (k := 2) rfl
  go_upto_region 2 with (fail)
  rw [HS1.out, HW2.out]
  clear q2 hmk HW1 HS1 HW2 R1
  have q2 := I2.out.f.cell (k := 2) rfl
  go_wp2_with fail
  clear q2
  go_loopw [14] (fun s14 wr => ∃ (m : Nat) (vs : List Value), s14 = .int .i64 (m : Int) ∧ m ≤ n2 ∧ Hid (BfI w P A1 n1 c1 A2 n2 c2 vs (befL l n2 m 0) wr)) (fun s14 _ => n2 - (intOf s14).toNat)
  case atStart => exact ⟨0, _, rfl, by omega, I2⟩
  case round =>
    obtain ⟨m, vs, rfl, hmn, hI⟩ := hrel
    by_cases hlt : m < n2
    · have hm64 : (m : Int) < (n2 : Int) := by omega
      have cn := fnext_any (P := P) (A1 := A1) (n1 := n1) (c1 := c1) (c2 := c2) (m : Int) wr (hide (hC.out.below hI.out.b)) hok.out
      rw [sucZ_nat] at cn
      have hXS := hide (fun (j : Nat) (h : j ∈ suc l m) => suc_lt hok.out h)
      have hX2 := hide (suc_len l m)
      have hNX := hide (befL_next l n2 m)
      obtain ⟨xs, hxs⟩ : ∃ xs, suc l m = xs := ⟨_, rfl⟩
      rw [hxs] at cn hXS hX2 hNX
      have HXS := hide hxs
      have q0 := hI.out.f.cell (k := 0) rfl
      have q1 := hI.out.f.cell (k := 1) rfl
      have q2 := hI.out.f.cell (k := 2) rfl
      clear hxs I2
      go_wp2_with fail
      refine cn.mono ?_
      rintro e w5 ⟨A5, c5, rfl, ho5, hb5⟩
      have I5 := hide (hI.out.call hb5)
      have N5 := hide (show w5.ownsRow wr.heap.size 3 1 (.slice A5 xs.length c5) xs.length (cellsI (toI xs)) by rw [toI_len] at ho5; exact ho5)
      have D5 := hide (hI.out.apart N5.out)
      have N5 := hide (own_lower N5.out (show w.heap.size ≤ wr.heap.size from hI.out.b.size))
      rw [toI_len]
      clear hb5 ho5 cn q0 q1 q2 hI
      go_wp2_with fail
      go_loopw [21] (fun s21 wq => ∃ (i : Nat) (vs : List Value), s21 = .int .i64 (i : Int) ∧ i ≤ xs.length ∧ Hid (BfI w P A1 n1 c1 A2 n2 c2 vs (befL l n2 m i) wq) ∧ Hid (wq.ownsRow w.heap.size 3 1 (.slice A5 xs.length c5) xs.length (cellsI (toI xs))) ∧ Hid (Dis (.slice A5 xs.length c5) vs)) (fun s21 _ => xs.length - (intOf s21).toNat)
      case atStart => exact ⟨0, vs, rfl, by omega, I5, N5, D5⟩
      case round =>
        obtain ⟨i, vs2, rfl, hix, hI, hN, hD⟩ := hrel
        clear I5 N5 D5
        have hx2 : xs.length ≤ 2 := hX2.out
        by_cases hlt2 : i < xs.length
        · obtain ⟨g5, c5', he5, -, -, -, -⟩ := own_block hN.out (by omega)
          injection he5 with he5 _ he5c
          subst he5 he5c
          have hjx := List.getElem?_eq_getElem hlt2
          have hjm := List.getElem_mem hlt2
          have x0 : wr.cell? ⟨g5, i, none⟩ = some (.int .i64 ((xs[i] : Nat) : Int)) := by
            rw [hN.out.cellAt i (by omega), cellsI, List.getElem?_map, toI_get, hjx]; rfl
          have hjn : xs[i] < n2 := by have h1 := hXS.out xs[i] hjm; have h2 := HL.out; omega
          have HJ := hide (show (suc l m)[i]? = some xs[i] by rw [HXS.out]; exact hjx)
          generalize xs[i] = j at x0 hjn HJ
          have hz := befL_fresh (l := l) (n := n2) HJ.out hjn
          obtain ⟨Aj, cj, hv, z0, hoj⟩ := hI.out.l.at2 hz
          have hnj := befN_len l m j
          have HAP := hide (fun (o : Obj) (w2 : World) (v' : Value) (ho : w2.ownsRow w.heap.size 3 1 v' ((befN l m j).length + 1) (cellsI (toI (befN l m j)) ++ [.int .i64 (m : Int)])) (hg : (wr.alloc o).grownBy w2 (Value.slice Aj (befN l m j).length cj).ownBlock) (hw : ∀ k, v'.ownBlock = some k → (Value.slice Aj (befN l m j).length cj).ownBlock = some k ∨ k = wr.heap.size + 1) =>
            hI.out.app hv hz (by omega) ho hg (fun k hk => by simpa using hw k hk) hN.out hD.out)
          rw [← befL_step HJ.out hjn] at HAP
          have HO := hide hoj
          obtain ⟨zs, hzs⟩ : ∃ zs, befN l m j = zs := ⟨_, rfl⟩
          rw [hzs] at hz hv z0 hnj HAP HO
          have HSZ := hide hI.out.b.size
          have hi0 : (0 : Int) ≤ (i : Int) := by omega
          have hin : (i : Int) < (xs.length : Int) := by omega
          have hjj0 : (0 : Int) ≤ (j : Int) := by omega
          have hjjn : (j : Int) < (n2 : Int) := by omega
          clear hjx hjm hz hzs hv hoj
          go_upto_region 9 with (at_builtin; refine wpList_append_where rfl (.tmp 30) (.tmp 32) 30 rfl w.heap.size 3 i0 (.int .i64 0) 1 8 Try.underlying30 hi hz0 hz1 hz2 rfl (by decide) _ zs.length (cellsI (toI zs)) rfl (HO.out.alloc _) ⟨wr.heap.size, 0, none⟩ 1 1 [.int .i64 (m : Int)] rfl rfl (one_new _ _ _) (one_cell _) (by unfold maxLen; omega) (by omega) (Nat.le_trans HSZ.out (by simp)) ?_)
          intro v7 w7 ho7 hg7 hw7
          obtain ⟨A7, c7, rfl, -, -⟩ := own_form ho7
          obtain ⟨ia, ib, ic, z1, z2, -⟩ := HAP.out _ w7 _ ho7 hg7 hw7
          have I7 := hide ia
          have N7 := hide ib
          have D7 := hide ic
          clear ia ib ic ho7 hg7 hw7 HAP hI hN hD z0 x0 HO
          go_wp2_with fail
          go_roundw
          case rel => exact ⟨i + 1, _, by go_num, by omega, I7, N7, D7⟩
          case measure => simp [intOf]; omega
        · obtain rfl : i = xs.length := by omega
          have I8 := hide (show BfI w P A1 n1 c1 A2 n2 c2 vs2 (befL l n2 (m + 1) 0) wr by rw [← hNX.out]; exact hI.out)
          clear hI hN hD
          go_wp2_with fail
          go_roundw
          case rel => exact ⟨m + 1, vs2, by go_num, by omega, I8⟩
          case measure => simp [intOf]; omega
    · obtain rfl : m = n2 := by omega
      have FIN := hide (show ListsPost (befL l m m 0) w (.returned (.slice (some ⟨w.heap.size + 1, 0, none⟩) m m)) wr from ⟨w.heap.size + 1, vs, by rw [befL_len], hI.out.l, hI.out.b⟩)
      clear hI I2
      go_wp2_with fail
      go_ret
      exact FIN.out
end
end Go.Proofs.Ytlcmcmocjbeocaa
end

section
/-
  The contracts of the reference's without (whatever instruction) and Dominates (chapter 14). Conditions: those of the types; the function is right and has an instruction.
-/
namespace Go.Proofs.Ytlcmcmocjbeocaa
open Go.RowKit

section
variable {P : Int} {A1 : Option Addr} {n1 c1 : Nat} {A2 : Option Addr} {n2 c2 : Nat} {l : List Ins} {w wr w2 : World} {R : List Bool}
set_option maxRecDepth 100000 in
set_option maxHeartbeats 2000000 in
theorem without_any (d : Nat) (w : World) (hC : Hid (CdAt w A2 n2 l)) (hok : Hid (FlowOk l)) (hn1 : 1 ≤ n2) :
    Calls Try.prog 33 #[fv P A1 n1 c1 A2 n2 c2, .int .i64 (d : Int)] w (WoPost l d n2 w) := by
  by_cases hd : d = 0
  · subst hd
    obtain ⟨j0, ji, jz0, jz1, jz2⟩ := info_parts infoB
    have hn2 := hC.out.few
    have hmk := fmade (P := Try.prog) Try.underlying36 ji jz0 jz1 (by omega) rfl n2 (by omega) (by rw [← bcells_rep])
    obtain ⟨W1, hW1⟩ : ∃ W, w.alloc (.cells #[.int .i64 P, .slice A1 n1 c1, .slice A2 n2 c2] 27) = W := ⟨_, rfl⟩
    have R1 := hide (show Row W1 w.heap.size 27 [.int .i64 P, .slice A1 n1 c1, .slice A2 n2 c2] by rw [← hW1]; exact Row.new w _ _)
    have hb1 : Below w.heap.size w W1 := by rw [← hW1]; exact below1 _ _
    obtain ⟨W2, hW2⟩ : ∃ W, W1.alloc (.cells (bcells (List.replicate n2 false)).toArray 4) = W := ⟨_, rfl⟩
    have FIN := hide (show WoPost l 0 n2 w (.returned (.slice (some ⟨W1.heap.size, 0, none⟩) n2 n2)) W2 from ⟨_, IsWo.zero, W1.heap.size, by simp, by rw [← hW2]; exact Row.new W1 _ _, hb1.size, by rw [← hW2]; exact hb1.alloc hb1.size _⟩)
    have HW1 := hide hW1
    have HW2 := hide hW2
    clear hW1 hW2 hb1
    rw [show ((0 : Nat) : Int) = 0 from rfl]
    go_enter Try.func33, Try.ntmps33
    go_upto_region 1 with (fail)
    rw [HW1.out]
    have q2 := R1.out.cell (k := 2) rfl
    go_wp2_with fail
    rw [HW2.out]
    go_ret
    exact FIN.out
  · exact without_pos d w hC hok hn1 hd
/-- A row of Dominates, when the first k are laid. -/
def fillB (R V : List Bool) (n k : Nat) : List Bool := (List.range n).map fun x => decide (x < k) && ((R[x]?).getD false && !(V[x]?).getD false)
theorem fillB_len (R V : List Bool) (n k : Nat) : (fillB R V n k).length = n := by simp [fillB]
theorem fillB_at {R V : List Bool} {n k x : Nat} (h : x < n) : (fillB R V n k)[x]? = some (decide (x < k) && ((R[x]?).getD false && !(V[x]?).getD false)) := by simp [fillB, h]
theorem fillB_zero (R V : List Bool) (n : Nat) : fillB R V n 0 = List.replicate n false := by
  refine List.ext_getElem? fun x => ?_
  by_cases h : x < n
  · rw [fillB_at h, List.getElem?_replicate, if_pos h]; simp
  · rw [List.getElem?_eq_none (by rw [fillB_len]; omega), List.getElem?_eq_none (by simp; omega)]
theorem fillB_step {R V : List Bool} {n k : Nat} (h : k < n) : (fillB R V n k).set k ((R[k]?).getD false && !(V[k]?).getD false) = fillB R V n (k + 1) := by
  refine List.ext_getElem? fun x => ?_
  by_cases hx : x < n
  · rw [List.getElem?_set, fillB_at hx, fillB_at hx, fillB_len]
    by_cases e : k = x
    · subst e; rw [if_pos rfl, if_pos h]; simp
    · rw [if_neg e, show decide (x < k + 1) = decide (x < k) from decide_eq_decide.2 (by omega)]
  · rw [List.getElem?_eq_none (by rw [List.length_set, fillB_len]; omega), List.getElem?_eq_none (by rw [fillB_len]; omega)]
theorem fillB_end {S : Nat → List Nat} {R V : List Bool} {n d : Nat} (hR : IsRch S n R) (hV : IsWo S d n V) : IsDmR S n d (fillB R V n n) := by
  refine ⟨fillB_len _ _ _ _, fun k hk => ?_⟩
  have h1 := hR.iff k hk
  have h2 := hV.iff k hk
  rw [fillB_at hk, decide_eq_true hk]
  rcases bool_get (R := R) (k := k) (by rw [hR.len]; exact hk) with a | a <;> rcases bool_get (R := V) (k := k) (by rw [hV.len]; exact hk) with b | b <;> rw [a, b] <;> rw [a] at h1 <;> rw [b] at h2 <;> simp at h1 h2 ⊢
  · exact fun h => h.2 h2
  · exact ⟨h1, h2⟩
  · exact fun h => h1 h.1
  · exact fun h => h1 h.1
/-- The rows of Dominates, each in a block of its own below b0, the first m of them. -/
def DmsI (S : Nat → List Nat) (n g m b0 : Nat) (vs : List Value) (w : World) : Prop :=
  vs.length = n ∧ Row w g 36 vs ∧ ∀ d, d < m → ∃ b B, b < b0 ∧ vs[d]? = some (.slice (some ⟨b, 0, none⟩) n n) ∧ Row w b 4 (bcells B) ∧ IsDmR S n d B
/-- What Dominates hands back. -/
def DmsPost (l : List Ins) (n : Nat) (w : World) (e : Ending) (w' : World) : Prop := ∃ g vs, e = .returned (.slice (some ⟨g, 0, none⟩) n n) ∧ DmsI (suc l) n g n w'.heap.size vs w' ∧ Below w.heap.size w w'
theorem DmsI.call {S : Nat → List Nat} {n g m b0 : Nat} {vs : List Value} (h : DmsI S n g m b0 vs wr) (hb : Below wr.heap.size wr w2) : DmsI S n g m b0 vs w2 :=
  ⟨h.1, h.2.1.call hb, fun d hd => by obtain ⟨b, B, q0, q1, q2, q3⟩ := h.2.2 d hd; exact ⟨b, B, q0, q1, q2.call hb, q3⟩⟩
theorem DmsI.more {S : Nat → List Nat} {n g m b0 b1 : Nat} {vs : List Value} (h : DmsI S n g m b0 vs wr) (hb : b0 ≤ b1) : DmsI S n g m b1 vs wr :=
  ⟨h.1, h.2.1, fun d hd => by obtain ⟨b, B, q0, q1, q2, q3⟩ := h.2.2 d hd; exact ⟨b, B, by omega, q1, q2, q3⟩⟩
theorem DmsI.fresh {S : Nat → List Nat} {n g m b0 : Nat} {vs : List Value} (h : DmsI S n g m b0 vs wr) : DmsI S n g m wr.heap.size vs wr :=
  ⟨h.1, h.2.1, fun d hd => by obtain ⟨b, B, q0, q1, q2, q3⟩ := h.2.2 d hd; exact ⟨b, B, q2.lt, q1, q2, q3⟩⟩
theorem dms_ty : 36 ≠ 4 := by decide
theorem DmsI.set {S : Nat → List Nat} {n g m b0 : Nat} {vs : List Value} (h : DmsI S n g m b0 vs wr) (hg : g ≠ b0) (k : Nat) (x : Value) : DmsI S n g m b0 vs (wr.setCell ⟨b0, k, none⟩ x) :=
  ⟨h.1, h.2.1.far (p := ⟨b0, k, none⟩) hg _, fun d hd => by obtain ⟨b, B, q0, q1, q2, q3⟩ := h.2.2 d hd; exact ⟨b, B, q0, q1, q2.far (p := ⟨b0, k, none⟩) (show b ≠ b0 by omega) _, q3⟩⟩
/-- One row more is laid (its slice is stored). -/
theorem DmsI.slot {S : Nat → List Nat} {n g m b0 : Nat} {vs : List Value} (h : DmsI S n g m b0 vs wr) (k : Nat) (hk : m ≤ k) (x : Value) : DmsI S n g m b0 (vs.set k x) (wr.setCell ⟨g, k, none⟩ x) :=
  ⟨by simpa using h.1, h.2.1.set_ k x, fun d hd => by
    obtain ⟨b, B, q0, q1, q2, q3⟩ := h.2.2 d hd
    refine ⟨b, B, q0, ?_, q2.far (p := ⟨g, k, none⟩) (q2.ne_ h.2.1 dms_ty.symm) _, q3⟩
    rw [List.getElem?_set, if_neg (by omega)]; exact q1⟩
/-- .. and is full. -/
theorem DmsI.full {S : Nat → List Nat} {n g m b0 b1 : Nat} {vs : List Value} {B : List Bool} (h : DmsI S n g m b0 vs wr) (hv : vs[m]? = some (.slice (some ⟨b0, 0, none⟩) n n)) (hr : Row wr b0 4 (bcells B)) (hB : IsDmR S n m B) (hb : b0 < b1) : DmsI S n g (m + 1) b1 vs wr :=
  ⟨h.1, h.2.1, fun d hd => by
    by_cases e : d = m
    · subst e; exact ⟨b0, B, hb, hv, hr, hB⟩
    · obtain ⟨b, B', q0, q⟩ := h.2.2 d (by omega)
      exact ⟨b, B', by omega, q⟩⟩
theorem infoSB : (Try.prog.info? 36).map (fun i => (i.zero, i.size, i.bytes)) = some (some (.slice none 0 0), 1, 24) := by kernel_rfl
set_option maxRecDepth 100000 in
set_option maxHeartbeats 4000000 in
theorem dominates_any (w : World) (hC : Hid (CdAt w A2 n2 l)) (hok : Hid (FlowOk l)) (hn1 : 1 ≤ n2) :
    Calls Try.prog 21 #[fv P A1 n1 c1 A2 n2 c2] w (DmsPost l n2 w) := by
  obtain ⟨i0, ii, iz0, iz1, iz2⟩ := info_parts infoSB
  obtain ⟨j0, ji, jz0, jz1, jz2⟩ := info_parts infoB
  have hn2 := hC.out.few
  have hmk := fmade2 (P := Try.prog) Try.underlying39 ii iz0 iz1 (by omega) rfl n2 (by omega) (L := nils n2) rfl
  have hmb := fmade (P := Try.prog) Try.underlying36 ji jz0 jz1 (by omega) rfl n2 (by omega) (by rw [← bcells_rep])
  obtain ⟨W1, hW1⟩ : ∃ W, w.alloc (.cells #[.int .i64 P, .slice A1 n1 c1, .slice A2 n2 c2] 27) = W := ⟨_, rfl⟩
  have R1 := hide (show Row W1 w.heap.size 27 [.int .i64 P, .slice A1 n1 c1, .slice A2 n2 c2] by rw [← hW1]; exact Row.new w _ _)
  have B1 := hide (show Below w.heap.size w W1 by rw [← hW1]; exact below1 _ _)
  have cr := rreached_any (P := P) (A1 := A1) (n1 := n1) (c1 := c1) (c2 := c2) W1 (hide (hC.out.below B1.out)) hok hn1
  have HW1 := hide hW1
  clear hW1
  go_enter Try.func21, Try.ntmps21
  go_upto_region 1 with (fail)
  rw [HW1.out]
  have q0 := R1.out.cell (k := 0) rfl
  have q1 := R1.out.cell (k := 1) rfl
  have q2 := R1.out.cell (k := 2) rfl
  go_wp2_with fail
  refine cr.mono ?_
  rintro e w2 ⟨R, hR, GR, rfl, hRr, hGR, hb2⟩
  have HR := hide hR
  have hRl := hR.len
  have RR2 := hide hRr
  have F2 := hide (R1.out.call hb2)
  have B2 := hide (below_call B1.out hb2)
  rw [hRl]
  clear hR hRr hGR hb2 cr q0 q1 q2 HW1 R1 B1
  have q2 := F2.out.cell (k := 2) rfl
  obtain ⟨W3, hW3⟩ : ∃ W, w2.alloc (.cells (nils n2).toArray 36) = W := ⟨_, rfl⟩
  have hb3 : Below w2.heap.size w2 W3 := by rw [← hW3]; exact below1 _ _
  have D3 := hide (show DmsI (suc l) n2 w2.heap.size 0 W3.heap.size (nils n2) W3 from ⟨by simp [nils], by rw [← hW3]; exact Row.new w2 _ _, fun d hd => by omega⟩)
  have RR3 := hide (RR2.out.call hb3)
  have F3 := hide (F2.out.call hb3)
  have B3 := hide (below_call B2.out hb3)
  have hgw : w.heap.size ≤ w2.heap.size := B2.out.size
  obtain ⟨g, hg⟩ : ∃ g, w2.heap.size = g := ⟨_, rfl⟩
  rw [hg] at D3 hgw
  have HG := hide hg
  have HW3 := hide hW3
  clear hW3 hb3
  go_upto_region 3 with (fail)
  rw [HW3.out]
  clear q2 hmk HW3 RR2 F2 B2 hg
  go_upto_region 4 with (fail)
  go_loopw [5] (fun s5 wr => ∃ (m : Nat) (vs : List Value), s5 = .int .i64 (m : Int) ∧ m ≤ n2 ∧ Hid (DmsI (suc l) n2 g m wr.heap.size vs wr) ∧ Hid (Row wr GR 4 (bcells R)) ∧ Hid (Row wr w.heap.size 27 [.int .i64 P, .slice A1 n1 c1, .slice A2 n2 c2]) ∧ Hid (Below w.heap.size w wr)) (fun s5 _ => n2 - (intOf s5).toNat)
  case atStart => exact ⟨0, _, rfl, by omega, D3, RR3, F3, B3⟩
  case round =>
    obtain ⟨m, vs, rfl, hmn, hD, hRR, hF, hB⟩ := hrel
    clear D3 RR3 F3 B3
    have q2 := hF.out.cell (k := 2) rfl
    by_cases hlt : m < n2
    · have cw := without_any (P := P) (A1 := A1) (n1 := n1) (c1 := c1) (c2 := c2) m wr (hide (hC.out.below hB.out)) hok hn1
      have q0 := hF.out.cell (k := 0) rfl
      have q1 := hF.out.cell (k := 1) rfl
      have hm0 : (0 : Int) ≤ (m : Int) := by omega
      have hm1 : (m : Int) < (n2 : Int) := by omega
      go_wp2_with fail
      refine cw.mono ?_
      rintro e w5 ⟨V, hV, GV, rfl, hVr, hGV, hb5⟩
      have HV := hide hV
      have hVl := hV.len
      have RV5 := hide hVr
      have D5 := hide ((hD.out.call hb5).more hb5.size)
      have RR5 := hide (hRR.out.call hb5)
      have F5 := hide (hF.out.call hb5)
      have B5 := hide (below_call hB.out hb5)
      rw [hVl]
      clear hV hVr hGV hb5 cw q0 q1 q2 hD hRR hF hB
      obtain ⟨W6, hW6⟩ : ∃ W, w5.alloc (.cells (bcells (List.replicate n2 false)).toArray 4) = W := ⟨_, rfl⟩
      have hb6 : Below w5.heap.size w5 W6 := by rw [← hW6]; exact below1 _ _
      obtain ⟨bm, hbm⟩ : ∃ bm, w5.heap.size = bm := ⟨_, rfl⟩
      have D6 := hide (show DmsI (suc l) n2 g m bm vs W6 by rw [← hbm]; exact D5.out.call hb6)
      have N6 := hide (show Row W6 bm 4 (bcells (fillB R V n2 0)) by rw [fillB_zero, ← hW6, ← hbm]; exact Row.new w5 _ _)
      obtain ⟨W7, hW7⟩ : ∃ W, W6.setCell ⟨g, m, none⟩ (.slice (some ⟨bm, 0, none⟩) n2 n2) = W := ⟨_, rfl⟩
      have D7 := hide (show DmsI (suc l) n2 g m bm (vs.set m (.slice (some ⟨bm, 0, none⟩) n2 n2)) W7 by rw [← hW7]; exact D6.out.slot m (Nat.le_refl _) _)
      have N7 := hide (show Row W7 bm 4 (bcells (fillB R V n2 0)) by rw [← hW7]; exact N6.out.far (p := ⟨g, m, none⟩) (N6.out.ne_ D6.out.2.1 dms_ty.symm) _)
      have RR7 := hide (show Row W7 GR 4 (bcells R) by rw [← hW7]; exact (RR5.out.call hb6).far (p := ⟨g, m, none⟩) ((RR5.out.call hb6).ne_ D6.out.2.1 dms_ty.symm) _)
      have RV7 := hide (show Row W7 GV 4 (bcells V) by rw [← hW7]; exact (RV5.out.call hb6).far (p := ⟨g, m, none⟩) ((RV5.out.call hb6).ne_ D6.out.2.1 dms_ty.symm) _)
      have F7 := hide (show Row W7 w.heap.size 27 [.int .i64 P, .slice A1 n1 c1, .slice A2 n2 c2] by rw [← hW7]; exact (F5.out.call hb6).far (p := ⟨g, m, none⟩) ((F5.out.call hb6).ne_ D6.out.2.1 (by decide)) _)
      have B7 := hide (show Below w.heap.size w W7 by rw [← hW7]; exact (below_call B5.out hb6).setCell (p := ⟨g, m, none⟩) hgw _)
      have hGRb : GR ≠ bm := by have := RR5.out.lt; omega
      have hGVb : GV ≠ bm := by have := RV5.out.lt; omega
      have hFb : w.heap.size ≠ bm := by have := F5.out.lt; omega
      have hgb : g ≠ bm := by have := D5.out.2.1.lt; omega
      have hbw : w.heap.size ≤ bm := by have := B5.out.size; omega
      have hvm := hide (show (vs.set m (.slice (some ⟨bm, 0, none⟩) n2 n2))[m]? = some (.slice (some ⟨bm, 0, none⟩) n2 n2) by rw [List.getElem?_set, if_pos rfl, if_pos (by rw [D5.out.1]; exact hlt)])
      have HBM := hide hbm
      have HW6 := hide hW6
      have HW7 := hide hW7
      have q2 := F5.out.cell (k := 2) rfl
      have q26 := (F5.out.call hb6).cell (k := 2) rfl
      obtain ⟨z, hz⟩ : ∃ z, vs[m]? = some z := ⟨_, List.getElem?_eq_getElem (by rw [D5.out.1]; exact hlt)⟩
      have y0 := keep_cellB (below1 w5 (.cells (bcells (List.replicate n2 false)).toArray 4)) (D5.out.2.1.cell hz)
      have y1 : (w5.alloc (.cells (bcells (List.replicate n2 false)).toArray 4)).frozen? ⟨g, m, none⟩ = false := (D5.out.2.1.alloc _).free m
      clear hbm hW6 hW7 hb6 hz
      go_upto_region 8 with (fail)
      rw [HW6.out, HBM.out, HW7.out]
      clear q2 q26 y0 y1 D5 N6 D6 RR5 RV5 F5 B5 HBM HW6 HW7
      go_upto_region 9 with (fail)
      go_loopw [7] (fun s7 wq => ∃ (k : Nat), s7 = .int .i64 (k : Int) ∧ k ≤ n2 ∧ Hid (DmsI (suc l) n2 g m bm (vs.set m (.slice (some ⟨bm, 0, none⟩) n2 n2)) wq) ∧ Hid (Row wq bm 4 (bcells (fillB R V n2 k))) ∧ Hid (Row wq GR 4 (bcells R)) ∧ Hid (Row wq GV 4 (bcells V)) ∧ Hid (Row wq w.heap.size 27 [.int .i64 P, .slice A1 n1 c1, .slice A2 n2 c2]) ∧ Hid (Below w.heap.size w wq)) (fun s7 _ => n2 - (intOf s7).toNat)
      case atStart => exact ⟨0, rfl, by omega, D7, N7, RR7, RV7, F7, B7⟩
      case round =>
        obtain ⟨k, rfl, hkn, hD, hN, hRR, hRV, hF, hB⟩ := hrel
        clear D7 N7 RR7 RV7 F7 B7
        have q2 := hF.out.cell (k := 2) rfl
        by_cases hlk : k < n2
        · have hk0 : (0 : Int) ≤ (k : Int) := by omega
          have hk1 : (k : Int) < (n2 : Int) := by omega
          have g0 := hD.out.2.1.cell hvm.out
          obtain ⟨b, hb⟩ : ∃ b, R[k]? = some b := ⟨_, List.getElem?_eq_getElem (by omega)⟩
          obtain ⟨v, hv⟩ : ∃ v, V[k]? = some v := ⟨_, List.getElem?_eq_getElem (by omega)⟩
          obtain ⟨f0, hf0⟩ : ∃ f0, (fillB R V n2 k)[k]? = some f0 := ⟨_, List.getElem?_eq_getElem (by rw [fillB_len]; exact hlk)⟩
          have x0 := hRR.out.cell (bcells_at hb)
          have x1 := hRV.out.cell (bcells_at hv)
          have n0 := hN.out.cell (bcells_at hf0)
          have n1' := hN.out.free k
          have HST := hide (fillB_step (R := R) (V := V) hlk)
          have hst := HST.out
          rw [hb, hv, Option.getD_some, Option.getD_some] at hst
          have HS2 := hide hst
          clear hb hv hf0 hst HST
          have HNX := hide (fun (r : Bool) (hr : (b && !v) = r) => show DmsI (suc l) n2 g m bm (vs.set m (.slice (some ⟨bm, 0, none⟩) n2 n2)) ((wr.setCell ⟨bm, k, none⟩ (.bool r)).drew) ∧ Row ((wr.setCell ⟨bm, k, none⟩ (.bool r)).drew) bm 4 (bcells (fillB R V n2 (k + 1))) ∧ Row ((wr.setCell ⟨bm, k, none⟩ (.bool r)).drew) GR 4 (bcells R) ∧ Row ((wr.setCell ⟨bm, k, none⟩ (.bool r)).drew) GV 4 (bcells V) ∧ Row ((wr.setCell ⟨bm, k, none⟩ (.bool r)).drew) w.heap.size 27 [.int .i64 P, .slice A1 n1 c1, .slice A2 n2 c2] ∧ Below w.heap.size w ((wr.setCell ⟨bm, k, none⟩ (.bool r)).drew) from by
            have h2 : Row (wr.setCell ⟨bm, k, none⟩ (.bool r)) bm 4 (bcells (fillB R V n2 (k + 1))) := by
              rw [← HS2.out, hr, ← bcells_set]; exact hN.out.set_ k _
            exact ⟨(hD.out.set hgb k _).call (Below.refl _ _).drew, h2, hRR.out.far (p := ⟨bm, k, none⟩) hGRb _, hRV.out.far (p := ⟨bm, k, none⟩) hGVb _, hF.out.far (p := ⟨bm, k, none⟩) hFb _, (hB.out.setCell (p := ⟨bm, k, none⟩) hbw _).drew⟩)
          cases b with
          | false =>
            go_upto_region 11 with (fail)
            go_region
            obtain ⟨W9, hW9⟩ : ∃ W, (wr.setCell ⟨bm, k, none⟩ (.bool false)).drew = W := ⟨_, rfl⟩
            have hnx := HNX.out (false) (by simp)
            rw [hW9] at hnx ⊢
            obtain ⟨ia, ib, ic, id, ie, iff⟩ := hnx
            have D8 := hide ia
            have N8 := hide ib
            have RR8 := hide ic
            have RV8 := hide id
            have F8 := hide ie
            have B8 := hide iff
            clear ia ib ic id ie iff hW9 HNX hD hN hRR hRV hF hB x0 x1 n0 n1' g0 q2
            go_wp2_with fail
            go_roundw
            case rel => exact ⟨k + 1, by go_num, by omega, D8, N8, RR8, RV8, F8, B8⟩
            case measure => simp [intOf]; omega
          | true =>
            go_upto_region 11 with (fail)
            go_region
            obtain ⟨W9, hW9⟩ : ∃ W, (wr.setCell ⟨bm, k, none⟩ (.bool (!v))).drew = W := ⟨_, rfl⟩
            have hnx := HNX.out (!v) (by simp)
            rw [hW9] at hnx ⊢
            obtain ⟨ia, ib, ic, id, ie, iff⟩ := hnx
            have D8 := hide ia
            have N8 := hide ib
            have RR8 := hide ic
            have RV8 := hide id
            have F8 := hide ie
            have B8 := hide iff
            clear ia ib ic id ie iff hW9 HNX hD hN hRR hRV hF hB x0 x1 n0 n1' g0 q2
            go_wp2_with fail
            go_roundw
            case rel => exact ⟨k + 1, by go_num, by omega, D8, N8, RR8, RV8, F8, B8⟩
            case measure => simp [intOf]; omega
        · obtain rfl : k = n2 := by omega
          have HSZ : bm < wr.heap.size := hN.out.lt
          have D9 := hide (hD.out.full hvm.out hN.out (fillB_end HR.out HV.out) HSZ)
          clear hD hN hRV
          go_wp2_with fail
          go_roundw
          case rel => exact ⟨m + 1, _, by go_num, by omega, D9, hRR, hF, hB⟩
          case measure => simp [intOf]; omega
    · obtain rfl : m = n2 := by omega
      have FIN := hide (show DmsPost l m w (.returned (.slice (some ⟨g, 0, none⟩) m m)) wr from ⟨g, vs, rfl, hD.out, hB.out⟩)
      clear hD hRR hF hB
      go_wp2_with fail
      go_ret
      exact FIN.out
end
end Go.Proofs.Ytlcmcmocjbeocaa
end

section
/-
  The contracts of postorder's meet, nearest and immediate: climbing in a tree of supposed dominators until nothing changes. Conditions: those of the types; the graph of ranks is one in which each rank but the first has a source of smaller rank.
-/
namespace Go.Proofs.Ytlcmcmocjbeocaa
open Go.RowKit

/-- Numbers that can be read in block G. -/
def Reads (w : World) (G : Nat) (U : List Int) : Prop := ∀ (i : Nat) (x : Int), U[i]? = some x → w.cell? ⟨G, i, none⟩ = some (.int .i64 x)
theorem Reads.below {w w2 : World} {G : Nat} {U : List Int} (h : Reads w G U) (hb : Below w.heap.size w w2) : Reads w2 G U := fun i x hx => keep_cellB hb (h i x hx)
theorem Row.reads {w : World} {G : Nat} {U : List Int} (h : Row w G 3 (cellsI U)) : Reads w G U := fun _ _ hx => h.cell (cellsI_at hx)
section
variable {w : World} {G N K a0 b0 i : Nat} {E : Nat → Nat → Prop} {U : List Int}
set_option maxRecDepth 100000 in
set_option maxHeartbeats 2000000 in
theorem meet_any (a0 b0 : Nat) (w : World) (hU : Hid (UpI N E U K)) (hR : Hid (Rk N E)) (hr : Hid (Reads w G U)) (ha : a0 < K) (hb : b0 < K) (hN : N ≤ 1024) :
    Calls Try.prog 54 #[.slice (some ⟨G, 0, none⟩) N N, .int .i64 (a0 : Int), .int .i64 (b0 : Int)] w fun e w' => ∃ c : Nat, e = .returned (.int .i64 (c : Int)) ∧ IsMt E U K a0 b0 c ∧ w = w' := by
  have hKN := hU.out.kN
  go_enter Try.func54, Try.ntmps54
  go_wp2_with fail
  go_loopg [1, 2] (a0 + b0) (fun gg s1 s2 wr => ∃ a b : Nat, s1 = .int .i64 (a : Int) ∧ s2 = .int .i64 (b : Int) ∧ Hid (MtI N E U K a0 b0 a b) ∧ a + b ≤ gg ∧ wr = w)
  case atStart => exact ⟨a0, b0, rfl, rfl, hide (.start ha hb), by omega, rfl⟩
  case round =>
    obtain ⟨a, b, rfl, rfl, hM, hgg, rfl⟩ := hrel
    have haK := hM.out.aK
    have hbK := hM.out.bK
    by_cases heq : a = b
    · subst heq
      have FIN := hide hM.out.end_
      clear hM
      go_wp2_with fail
      go_ret
      exact ⟨a, rfl, FIN.out, rfl⟩
    · have hne : ((a : Int) == (b : Int)) = false := by rw [beq_eq_false_iff_ne]; omega
      have hne2 : ¬ ((a : Int) = (b : Int)) := by omega
      by_cases hgt : b < a
      · have hd : ((b : Int) < (a : Int)) := by omega
        obtain ⟨u, hu, -⟩ := hU.out.kn a haK
        have x0 := hr.out a _ hu
        obtain ⟨hM2, hua⟩ := hM.out.left hU.out hR.out hgt hu
        have HM2 := hide hM2
        have ha0 : (0 : Int) ≤ (a : Int) := by omega
        have ha1 : (a : Int) < (N : Int) := by omega
        clear hu hM hM2
        go_wp2_with fail
        go_roundg (u + b)
        case rel => exact ⟨u, b, rfl, rfl, HM2, by omega, rfl⟩
        case measure => omega
      · have hd : ¬ ((b : Int) < (a : Int)) := by omega
        obtain ⟨u, hu, -⟩ := hU.out.kn b hbK
        have x0 := hr.out b _ hu
        obtain ⟨hM2, hub⟩ := hM.out.right hU.out hR.out (by omega) hu
        have HM2 := hide hM2
        have hb0 : (0 : Int) ≤ (b : Int) := by omega
        have hb1 : (b : Int) < (N : Int) := by omega
        clear hu hM hM2
        go_wp2_with fail
        go_roundg (a + u)
        case rel => exact ⟨a, u, rfl, rfl, HM2, by omega, rfl⟩
        case measure => omega
set_option maxRecDepth 100000 in
set_option maxHeartbeats 2000000 in
theorem nearest_any {base g cf : Nat} {vs : List Value} {zss : List (List Nat)} {F : List Nat} (i : Nat) (w : World) (hU : Hid (UpI N E U K)) (hR : Hid (Rk N E)) (hr : Hid (Reads w G U)) (hL : Hid (LLs w base g vs zss)) (hz : Hid (zss[i]? = some F)) (hF : Hid (∀ p, p ∈ F ↔ E p i)) (hi : i < N) (hiK : i ≤ K) (hN : N ≤ 1024) (hl : Hid (zss.length = N)) :
    Calls Try.prog 46 #[.slice (some ⟨G, 0, none⟩) N N, .slice (some ⟨g, 0, none⟩) N cf, .int .i64 (i : Int)] w fun e w' => ∃ v : Nat, e = .returned (.int .i64 (v : Int)) ∧ Nr N E U K i v ∧ w = w' := by
  have hKN := hU.out.kN
  have hUl := hU.out.len
  rcases Nat.eq_zero_or_pos i with rfl | h0
  · go_enter Try.func46, Try.ntmps46
    go_wp2_with fail
    go_ret
    exact ⟨0, rfl, .first, rfl⟩
  · have hi0 : (0 : Int) ≤ (i : Int) := by omega
    have hi1 : (i : Int) < (N : Int) := by omega
    have hne : ((i : Int) == 0) = false := by rw [beq_eq_false_iff_ne]; omega
    obtain ⟨A, c, -, x0, ho⟩ := hL.out.at2 hz.out
    have HO := hide ho
    have hFl : (F.length : Int) ≤ 9223372036854775807 := by have h := own_form ho; obtain ⟨_, _, _, _, hm⟩ := h; unfold maxLen at hm; omega
    go_enter Try.func46, Try.ntmps46
    go_wp2_with fail
    clear x0 ho
    go_loopw [7, 17] (fun s7 s17 wr => ∃ (o : Int) (t : Nat), s7 = .int .i64 o ∧ s17 = .int .i64 (t : Int) ∧ t ≤ F.length ∧ Hid (NsI E U K i F t o) ∧ wr = w) (fun _ s17 _ => F.length - (intOf s17).toNat)
    case atStart => exact ⟨-1, 0, rfl, rfl, by omega, hide .start, rfl⟩
    case round =>
      obtain ⟨o, t, rfl, rfl, htF, hS, rfl⟩ := hrel
      by_cases hlt : t < F.length
      · obtain ⟨g5, c5', he5, -, -, -, -⟩ := own_block HO.out (by omega)
        injection he5 with he5 _ he5c
        subst he5 he5c
        have hpx := List.getElem?_eq_getElem hlt
        have x0 : wr.cell? ⟨g5, t, none⟩ = some (.int .i64 ((F[t] : Nat) : Int)) := by
          rw [HO.out.cellAt t (by omega), cellsI, List.getElem?_map, toI_get, hpx]; rfl
        have hE := (hF.out _).1 (List.getElem_mem hlt)
        have HP := hide hpx
        generalize F[t] = p at x0 hE HP
        have hpN := (hR.out.inn _ _ hE).1
        have HE := hide hE
        have hp0 : (0 : Int) ≤ (p : Int) := by omega
        have hp1 : (p : Int) < (N : Int) := by omega
        have ht0 : (0 : Int) ≤ (t : Int) := by omega
        have ht1 : (t : Int) < (F.length : Int) := by omega
        have hwt : IntKind.i64.wrap ((t : Int) + 1) = (t : Int) + 1 := by rw [IntKind.wrap_i64]; omega
        clear hpx hE
        rcases Nat.lt_or_ge p K with hpK | hpK
        · obtain ⟨u, hu, -⟩ := hU.out.kn p hpK
          have y0 := hr.out p _ hu
          have hun : ((u : Int) == -1) = false := by rw [beq_eq_false_iff_ne]; omega
          clear hu
          rcases hS.out.cases with rfl | ⟨b, rfl, hbK⟩
          · have HS2 := hide (hS.out.first HP.out hpK HE.out)
            clear hS
            go_wp2_with fail
            go_roundw
            case rel => exact ⟨_, t + 1, rfl, by go_num, by omega, HS2, by first | trivial | rfl⟩
            case measure => simp [intOf]; omega
          · have hbn : ((b : Int) == -1) = false := by rw [beq_eq_false_iff_ne]; omega
            have cm := meet_any b p wr hU hR hr hbK hpK hN
            have HST := hide (fun (c : Nat) (hm : IsMt E U K b p c) => hS.out.meet HP.out HE.out hm)
            clear hS
            go_wp2_with fail
            refine cm.mono ?_
            rintro e w' ⟨c, rfl, hm, rfl⟩
            have HS2 := hide (HST.out c hm)
            clear cm hm
            go_wp2_with fail
            go_roundw
            case rel => exact ⟨_, t + 1, rfl, by go_num, by omega, HS2, by first | trivial | rfl⟩
            case measure => simp [intOf]; omega
        · have y0 := hr.out p _ (hU.out.un p hpK hpN)
          have HS2 := hide (hS.out.skip HP.out hpK)
          clear hS
          go_wp2_with fail
          go_roundw
          case rel => exact ⟨_, t + 1, rfl, by go_num, by omega, HS2, by first | trivial | rfl⟩
          case measure => simp [intOf]; omega
      · obtain rfl : t = F.length := by omega
        obtain ⟨v, rfl, hv⟩ := hS.out.end_ hF.out hU.out hR.out hi hiK h0
        have FIN := hide hv
        clear hv hS
        go_wp2_with fail
        go_ret
        exact ⟨v, rfl, FIN.out, rfl⟩
theorem RdI.same1 {U0 : List Int} {r v : Nat} {ch : Bool} (h : RdI N E U0 U r i ch) (hR : Rk N E) (hi : i < N) (hn : Nr N E U (if r = 0 then i else N) i v) (hu : U[i]? = some (v : Int)) : RdI N E U0 U r (i + 1) ch := by
  have h2 := h.step hR hi hn
  rw [hu, Option.getD_some, show decide ((v : Int) ≠ (v : Int)) = false by simp, Bool.or_false] at h2
  have hs : U.set i (v : Int) = U := by
    refine List.ext_getElem? fun j => ?_
    rw [set_getI (by rw [h.up.len]; exact hi)]
    by_cases e : i = j
    · subst e; rw [if_pos rfl, hu]
    · rw [if_neg e]
  rw [hs] at h2
  exact h2
theorem RdI.chg {U0 : List Int} {r v : Nat} {ch : Bool} {z : Int} (h : RdI N E U0 U r i ch) (hR : Rk N E) (hi : i < N) (hn : Nr N E U (if r = 0 then i else N) i v) (hu : U[i]? = some z) (hne : (v : Int) ≠ z) : RdI N E U0 (U.set i (v : Int)) r (i + 1) true := by
  have h2 := h.step hR hi hn
  rw [hu, Option.getD_some, show decide ((v : Int) ≠ z) = true by simpa using hne, Bool.or_true] at h2
  exact h2
/-- What immediate hands back. -/
def ImmPost (N : Nat) (E : Nat → Nat → Prop) (w : World) (e : Ending) (w' : World) : Prop := ∃ U, UpFin N E U ∧ IntsPost U w e w'
set_option maxRecDepth 100000 in
set_option maxHeartbeats 4000000 in
theorem immediate_any {base g cf : Nat} {vs : List Value} {zss : List (List Nat)} (w : World) (hR : Hid (Rk N E)) (hL : Hid (LLs w base g vs zss)) (hF : Hid (∀ (i : Nat) (F : List Nat), zss[i]? = some F → ∀ p, p ∈ F ↔ E p i)) (hl : Hid (zss.length = N)) (hN1 : 1 ≤ N) (hN : N ≤ 1024) :
    Calls Try.prog 30 #[.slice (some ⟨g, 0, none⟩) N cf] w (ImmPost N E w) := by
  obtain ⟨K0, hK0⟩ := wr_bound N E
  have HK0 := hide hK0
  obtain ⟨W1, hW1⟩ : ∃ W, w.alloc (.cells #[.int .i64 (-1)] 3) = W := ⟨_, rfl⟩
  have hb1 : Below w.heap.size w W1 := by rw [← hW1]; exact below1 _ _
  have x1 : W1.cell? ⟨w.heap.size, 0, none⟩ = some (.int .i64 (-1)) := by rw [← hW1]; exact (Row.new w _ [.int .i64 (-1)]).cell rfl
  have cr := repeat_any (-1) w.heap.size 0 1 N W1 (hide x1) hN1 (by omega)
  have B1 := hide hb1
  have HW1 := hide hW1
  clear hW1 hb1 x1 hK0
  go_enter Try.func30, Try.ntmps30
  go_wp2_with fail
  rw [HW1.out]
  refine cr.mono ?_
  rintro e w3 ⟨rfl, hr3, hb3⟩
  have HR3 := hide hr3
  have B3 := hide (below_call B1.out hb3)
  obtain ⟨G, hG⟩ : ∃ G, W1.heap.size = G := ⟨_, rfl⟩
  have hGb : w.heap.size ≤ G := by have := B1.out.size; omega
  rw [hG] at HR3 ⊢
  clear hr3 hb3 hG cr HW1 B1
  go_wp2_with fail
  go_loopg [4] (K0 + 2) (fun gg s4 wr => ∃ (ch : Bool) (U : List Int) (r : Nat), s4 = .bool ch ∧ Hid (Row wr G 3 (cellsI U)) ∧ Hid (Below w.heap.size w wr) ∧ Hid (ch = true → RdI N E U U r 0 false) ∧ Hid (ch = false → UpFin N E U) ∧ (ch = true → K0 + 2 ≤ gg + r ∧ r ≤ K0 + 1))
  case atStart => exact ⟨true, _, 0, rfl, HR3, B3, hide (fun _ => .start0 N E), hide (fun h => by cases h), fun _ => by omega⟩
  case round =>
    obtain ⟨ch, U, r, rfl, hRw, hB, hRd, hFin, hch⟩ := hrel
    clear HR3 B3
    cases ch with
    | false =>
      have hU := hFin.out rfl
      have FIN := hide (show ImmPost N E w (.returned (.slice (some ⟨G, 0, none⟩) N N)) wr from ⟨U, hU, G, by rw [hU.up.len], hRw.out, hGb, hB.out⟩)
      clear hU hRw hB hRd hFin
      go_wp2_with fail
      go_ret
      exact FIN.out
    | true =>
      have hrd := hide (hRd.out rfl)
      obtain ⟨hg1, hg2⟩ := hch rfl
      clear hRd hFin hch
      go_wp2_with fail
      go_loopw [4, 14] (fun s4 s14 wq => ∃ (ch : Bool) (U' : List Int) (i : Nat), s4 = .bool ch ∧ s14 = .int .i64 (i : Int) ∧ i ≤ N ∧ Hid (Row wq G 3 (cellsI U')) ∧ Hid (Below w.heap.size w wq) ∧ Hid (RdI N E U U' r i ch) ∧ (K0 + 1 ≤ r → ch = false)) (fun _ s14 _ => N - (intOf s14).toNat)
      case atStart => exact ⟨false, U, 0, rfl, rfl, by omega, hRw, hB, hrd, fun _ => rfl⟩
      case round =>
        obtain ⟨ch, U', i, rfl, rfl, hiN, hRw', hB', hD, hst⟩ := hrel
        by_cases hlt : i < N
        · have hz := List.getElem?_eq_getElem (l := zss) (i := i) (by rw [hl.out]; exact hlt)
          have cn := nearest_any (cf := cf) i wr (hide hD.out.up) hR (hide hRw'.out.reads) (hide (hL.out.below (hB'.out.mono (Nat.le_refl _)))) (hide hz) (hide (hF.out i _ hz)) hlt (by split <;> omega) hN hl
          have hUl := hD.out.up.len
          obtain ⟨z, hzU⟩ := int_get (zs := U') (k := i) (by omega)
          have y0 := hRw'.out.cell (cellsI_at hzU)
          have y1 := hRw'.out.free i
          have hi0 : (0 : Int) ≤ (i : Int) := by omega
          have hi1 : (i : Int) < (N : Int) := by omega
          have HZU := hide hzU
          clear hz hzU
          go_wp2_with fail
          refine cn.mono ?_
          rintro e w' ⟨v, rfl, hv, rfl⟩
          have HV := hide hv
          clear cn hv
          by_cases heq : (v : Int) = z
          · have he : ((v : Int) == z) = true := by rw [heq]; simp
            have HS2 := hide (hD.out.same1 hR.out hlt HV.out (by rw [heq]; exact HZU.out))
            subst heq
            clear hD
            go_wp2_with fail
            go_roundw
            case rel => exact ⟨ch, U', i + 1, rfl, by go_num, by omega, hRw', hB', HS2, hst⟩
            case measure => simp [intOf]; omega
          · have he : ((v : Int) == z) = false := by rw [beq_eq_false_iff_ne]; exact heq
            have HS2 := hide (hD.out.chg hR.out hlt HV.out HZU.out heq)
            have hlate : ¬ (K0 + 1 ≤ r) := fun hr => by
              have h := hD.out.still hR.out HK0.out hr hlt HV.out
              rw [HZU.out] at h
              injection h with h
              exact heq h.symm
            obtain ⟨W4, hW4⟩ : ∃ W, wr.setCell ⟨G, i, none⟩ (.int .i64 (v : Int)) = W := ⟨_, rfl⟩
            have R4 := hide (show Row W4 G 3 (cellsI (U'.set i (v : Int))) by rw [← hW4, ← cellsI_set]; exact hRw'.out.set_ i _)
            have B4 := hide (show Below w.heap.size w W4 by rw [← hW4]; exact hB'.out.setCell (p := ⟨G, i, none⟩) hGb _)
            have HW4 := hide hW4
            clear hD hW4 hRw' hB'
            go_upto_region 11 with (fail)
            rw [HW4.out]
            clear HW4 y0 y1
            go_wp2_with fail
            go_roundw
            case rel => exact ⟨true, _, i + 1, rfl, by go_num, by omega, R4, B4, HS2, fun h => absurd h hlate⟩
            case measure => simp [intOf]; omega
        · obtain rfl : i = N := by omega
          have HN := hide (show ch = true → RdI i E U' U' (r + 1) 0 false from fun _ => hD.out.next (by omega))
          have HFn := hide (show ch = false → UpFin i E U' from fun h => by subst h; exact hD.out.end_ hR.out)
          have hr2 : ch = true → r ≤ K0 := fun h => by
            rcases Nat.lt_or_ge r (K0 + 1) with c | c
            · omega
            · rw [hst c] at h; cases h
          clear hD
          go_wp2_with fail
          go_roundg (gk - 1)
          case rel => exact ⟨ch, U', r + 1, rfl, hRw', hB', HN, HFn, fun h => ⟨by omega, by have := hr2 h; omega⟩⟩
          case measure => omega
end
end Go.Proofs.Ytlcmcmocjbeocaa
end

section
/-
  The contract of postorder.sources: for each rank the ranks from which control may come to it. Conditions: those of the types; the function is right.
-/
namespace Go.Proofs.Ytlcmcmocjbeocaa
open Go.RowKit

/-- What sources hands back. -/
def SrcPost (l : List Ins) (n : Nat) (O : List Nat) (w : World) (e : Ending) (w' : World) : Prop := ∃ Q, IsRk n O Q ∧ ListsPost (frL l n O Q O.length 0) w e w'
theorem bef_row {l : List Ins} {n k : Nat} (h : k < n) : (befL l n n 0)[k]? = some (befN l n k) := by rw [befL_at h]; simp
section
variable {P : Int} {A1 : Option Addr} {n1 c1 : Nat} {A2 : Option Addr} {n2 c2 : Nat} {l : List Ins}
/-- One source more. -/
theorem sr_app {w wr w2 : World} {g : Nat} {vs : List Value} {zss : List (List Nat)} {o : Obj} {j x : Nat} {v v' : Value} {zs : List Nat} (h : LLs wr w.heap.size g vs zss) (hB : Below w.heap.size w wr) (hv : vs[j]? = some v) (hz : zss[j]? = some zs) (hx : x ≤ 1000000)
    (ho : w2.ownsRow w.heap.size 3 1 v' (zs.length + 1) (cellsI (toI zs) ++ [.int .i64 (x : Int)])) (hg : (wr.alloc o).grownBy w2 v.ownBlock) (hw : ∀ k, v'.ownBlock = some k → v.ownBlock = some k ∨ k = (wr.alloc o).heap.size) :
    LLs (w2.setCell ⟨g, j, none⟩ v') w.heap.size g (vs.set j v') (zss.set j (zs ++ [x])) ∧ Below w.heap.size w (w2.setCell ⟨g, j, none⟩ v') ∧ w2.frozen? ⟨g, j, none⟩ = false ∧ w2.cell? ⟨g, j, none⟩ = some v := by
  have hvo := h.own j v zs hv hz
  have hR := h.row.append2 hvo fty_ne hg
  exact ⟨h.app hv hz hx ho hg hw, (below_append (hB.alloc hB.size o) (hvo.alloc o) (Nat.le_refl _) hg (Nat.le_trans hB.size (by simp))).setCell (p := ⟨g, j, none⟩) h.gb _, hR.free j, hR.cell hv⟩
set_option maxRecDepth 100000 in
set_option maxHeartbeats 4000000 in
theorem sources_any (w : World) (hC : Hid (CdAt w A2 n2 l)) (hok : Hid (FlowOk l)) (hn1 : 1 ≤ n2) (A : Option Addr) (co : Nat) (O : List Nat) (hO : Hid (O.Nodup)) (hlt : Hid (∀ x ∈ O, x < n2)) (hS : Hid (Sees w w.heap.size A (cellsI (toI O)))) (hm : O.length ≤ n2) :
    Calls Try.prog 31 #[fv P A1 n1 c1 A2 n2 c2, .slice A O.length co] w (SrcPost l n2 O w) := by
  obtain ⟨i0, hi, hz0, hz1, hz2⟩ := info_parts infoI
  obtain ⟨j0, ji, jz0, jz1, jz2⟩ := info_parts infoS
  have hlen := hC.out.len
  have hn2 := hC.out.few
  have hmk := fmade2 (P := Try.prog) Try.underlying58 ji jz0 jz1 (by omega) rfl O.length (by omega) (L := nils O.length) rfl
  obtain ⟨W1, hW1⟩ : ∃ W, w.alloc (.cells #[.int .i64 P, .slice A1 n1 c1, .slice A2 n2 c2] 27) = W := ⟨_, rfl⟩
  have R1 := hide (show Row W1 w.heap.size 27 [.int .i64 P, .slice A1 n1 c1, .slice A2 n2 c2] by rw [← hW1]; exact Row.new w _ _)
  have B1 := hide (show Below w.heap.size w W1 by rw [← hW1]; exact below1 _ _)
  have cr := ranks_any (P := P) (A1 := A1) (n1 := n1) (c1 := c1) (A2 := A2) (c2 := c2) W1 hn1 hn2 A co O hO.out hlt.out (hide ((hS.out.below B1.out).more B1.out.size)) (by omega)
  have HW1 := hide hW1
  clear hW1 hlen
  go_enter Try.func31, Try.ntmps31
  go_upto_region 1 with (fail)
  rw [HW1.out]
  have q0 := R1.out.cell (k := 0) rfl
  have q1 := R1.out.cell (k := 1) rfl
  have q2 := R1.out.cell (k := 2) rfl
  go_wp2_with fail
  refine cr.mono ?_
  rintro e w2 ⟨Q, hQ, GQ, rfl, hrQ, hGQ, hb2⟩
  have HQ := hide hQ
  have RQ2 := hide hrQ
  have R2 := hide (R1.out.call hb2)
  have B2 := hide (below_call B1.out hb2)
  have hQl := hQ.len
  have cb := before_any (P := P) (A1 := A1) (n1 := n1) (c1 := c1) (c2 := c2) w2 (hide (hC.out.below B2.out)) hok
  rw [hQl]
  clear hQ hrQ hGQ hb2 cr q0 q1 q2 HW1 R1 B1
  have q0 := R2.out.cell (k := 0) rfl
  have q1 := R2.out.cell (k := 1) rfl
  have q2 := R2.out.cell (k := 2) rfl
  go_wp2_with fail
  refine cb.mono ?_
  rintro e w3 ⟨gB, vsB, rfl, hLB, hb3⟩
  have LB3 := hide hLB
  have RQ3 := hide (RQ2.out.call hb3).reads
  have B3 := hide (below_call B2.out hb3)
  have HS3 := hide ((hS.out.below B3.out).more B3.out.size)
  rw [befL_len]
  clear hLB hb3 cb q0 q1 q2 R2 B2 RQ2
  obtain ⟨W4, hW4⟩ : ∃ W, w3.alloc (.cells (nils O.length).toArray 30) = W := ⟨_, rfl⟩
  have L4 := hide (show LLs W4 w3.heap.size w3.heap.size (nils O.length) (frL l n2 O Q 0 0) by
    rw [frL_start, ← hW4]
    exact LLs.make (Row.new w3 _ _) (Nat.le_refl _))
  have B4 := hide (show Below w3.heap.size w3 W4 by rw [← hW4]; exact below1 _ _)
  have HW4 := hide hW4
  clear hW4
  go_upto_region 4 with (fail)
  rw [HW4.out]
  clear hmk HW4
  go_wp2_with fail
  go_loopw [22] (fun s22 wr => ∃ (m : Nat) (vs : List Value), s22 = .int .i64 (m : Int) ∧ m ≤ O.length ∧ Hid (LLs wr w3.heap.size w3.heap.size vs (frL l n2 O Q m 0)) ∧ Hid (Below w3.heap.size w3 wr)) (fun s22 _ => O.length - (intOf s22).toNat)
  case atStart => exact ⟨0, _, rfl, by omega, L4, B4⟩
  case round =>
    obtain ⟨m, vs, rfl, hmO, hL, hB⟩ := hrel
    clear L4 B4
    by_cases hlt1 : m < O.length
    · obtain ⟨b, off, rfl, hbb, x0⟩ := sees_at HS3.out hlt1
      have x0 := keep_cellB hB.out x0
      have hkx := List.getElem?_eq_getElem hlt1
      have hkn := hlt.out _ (List.getElem_mem hlt1)
      have HNX := hide (frL_next (l := l) (n := n2) (O := O) (Q := Q) (m := m) hkx)
      have HKX := hide hkx
      generalize O[m] = k at x0 hkn HNX HKX
      obtain ⟨Ab, cb, hvb, y0, hob⟩ := LB3.out.at2 (bef_row (l := l) hkn)
      have y0 := keep_cellB hB.out y0
      have OB := hide (Sees.ownN hob)
      have hbl := befN_len l n2 k
      obtain ⟨xs, hxs⟩ : ∃ xs, befN l n2 k = xs := ⟨_, rfl⟩
      rw [hxs] at HNX y0 OB hbl
      have HXS := hide hxs
      have hXn := hide (fun (j : Nat) (hj : j ∈ xs) => show j < n2 from by rw [← HXS.out] at hj; exact (mem_bef.1 hj).1)
      have hm0 : (0 : Int) ≤ (m : Int) := by omega
      have hm1 : (m : Int) < (O.length : Int) := by omega
      have hk0 : (0 : Int) ≤ (k : Int) := by omega
      have hk1 : (k : Int) < (n2 : Int) := by omega
      clear hkx hxs hvb hob
      go_wp2_with fail
      clear x0 y0
      go_loopw [32] (fun s32 wq => ∃ (t : Nat) (vs : List Value), s32 = .int .i64 (t : Int) ∧ t ≤ xs.length ∧ Hid (LLs wq w3.heap.size w3.heap.size vs (frL l n2 O Q m t)) ∧ Hid (Below w3.heap.size w3 wq)) (fun s32 _ => xs.length - (intOf s32).toNat)
      case atStart => exact ⟨0, vs, rfl, by omega, hL, hB⟩
      case round =>
        obtain ⟨t, vs2, rfl, htx, hL2, hB2⟩ := hrel
        by_cases hlt2 : t < xs.length
        · obtain ⟨b5, o5, rfl, hb5, x0⟩ := sees_at OB.out hlt2
          have x0 := keep_cellB hB2.out x0
          have hjx := List.getElem?_eq_getElem hlt2
          have hjn := hXn.out _ (List.getElem_mem hlt2)
          have HJ := hide (show (befN l n2 k)[t]? = some xs[t] by rw [HXS.out]; exact hjx)
          generalize xs[t] = j at x0 hjn HJ
          have ht0 : (0 : Int) ≤ (t : Int) := by omega
          have ht1 : (t : Int) < (xs.length : Int) := by omega
          have hj0 : (0 : Int) ≤ (j : Int) := by omega
          have hj1 : (j : Int) < (n2 : Int) := by omega
          clear hjx
          rcases HQ.out.get hjn with ⟨hq, -⟩ | ⟨r, hq, -, hrO⟩
          · have y0 := keep_cellB hB2.out (RQ3.out j _ hq)
            have L6 := hide (show LLs wr w3.heap.size w3.heap.size vs2 (frL l n2 O Q m (t + 1)) by rw [frL_none HKX.out HJ.out hq]; exact hL2.out)
            clear hq
            go_wp2_with fail
            go_roundw
            case rel => exact ⟨t + 1, vs2, by go_num, by omega, L6, hB2⟩
            case measure => simp [intOf]; omega
          · have y0 := keep_cellB hB2.out (RQ3.out j _ hq)
            have hrn : ((r : Int) == -1) = false := by rw [beq_eq_false_iff_ne]; omega
            have hz := frL_row (l := l) (n := n2) (Q := Q) (t := t) HKX.out
            obtain ⟨Aj, cj, hv, z0, hoj⟩ := hL2.out.at2 hz
            have z1 := hL2.out.row.free m
            have hsl := srcP_len Q ((befN l n2 k).take t)
            have hzl : (srcP Q ((befN l n2 k).take t)).length ≤ 1024 := by
              have h2 : ((befN l n2 k).take t).length ≤ t := by rw [List.length_take]; exact Nat.min_le_left _ _
              omega
            have hB3 := hide (show Below w3.heap.size w3 wr.drew from hB2.out.drew)
            have HAP := hide (fun (w2 : World) (g' cap' : Nat) (ho : w2.ownsRow w3.heap.size 3 1 (.slice (some ⟨g', 0, none⟩) ((srcP Q ((befN l n2 k).take t)).length + 1) cap') ((srcP Q ((befN l n2 k).take t)).length + 1) (cellsI (toI (srcP Q ((befN l n2 k).take t))) ++ [.int .i64 (r : Int)])) (hg : (wr.drew.alloc (.cells #[.int .i64 (r : Int)] 3)).grownBy w2 (Value.slice Aj (srcP Q ((befN l n2 k).take t)).length cj).ownBlock) (hw : (Value.slice Aj (srcP Q ((befN l n2 k).take t)).length cj).ownBlock = some g' ∨ g' = wr.heap.size + 1) =>
              sr_app (hL2.out.drewN 1) hB3.out hv hz (show r ≤ 1000000 by omega) ho hg (fun k hk => by
                simp only [Value.ownBlock, Option.some.injEq] at hk
                subst hk
                simpa using hw))
            rw [← frL_some HKX.out HJ.out hq] at HAP
            have HO2 := hide (show (wr.drew.alloc (.cells #[.int .i64 (r : Int)] 3)).ownsRow w3.heap.size 3 1 (.slice Aj (srcP Q ((befN l n2 k).take t)).length cj) (srcP Q ((befN l n2 k).take t)).length (cellsI (toI (srcP Q ((befN l n2 k).take t)))) from (show wr.drew.ownsRow w3.heap.size 3 1 _ _ _ from hoj).alloc _)
            obtain ⟨zs, hzs⟩ : ∃ zs, srcP Q ((befN l n2 k).take t) = zs := ⟨_, rfl⟩
            rw [hzs] at z0 hzl HAP HO2
            have HSZ := hide hB2.out.size
            have NW := hide (one_new wr.drew (.int .i64 (r : Int)) 3)
            clear hz hv hoj hsl hzs hq
            go_upto_region 11 with (fail)
            have za := keep_cellB (below1 wr (.cells #[.int .i64 (r : Int)] 3)) z0
            go_region_law (refine step_append_lies _ rfl (.tmp 46) (.tmp 51) 30 rfl w3.heap.size 3 i0 (.int .i64 0) 1 8 Try.underlying30 hi hz0 hz1 hz2 rfl (by decide) (.slice Aj zs.length cj) zs.length (cellsI (toI zs)) (by simp [Act.eval, Act.put]) HO2.out ⟨wr.heap.size, 0, none⟩ 1 1 [.int .i64 (r : Int)] (by simp [Act.eval, Act.put]) rfl NW.out (one_cell _) (by decide) (by unfold maxLen; omega) (by omega) (Nat.le_trans HSZ.out (by simp)) _ rfl ?_; intro g7 cap7 w7 ho7 hg7 hw7 hlt7; obtain ⟨ia, ib, y1, y2⟩ := HAP.out w7 g7 cap7 ho7 hg7 (by simpa using hw7))
            all_goals
              have I7 := hide ia
              have B7 := hide ib
              clear ia ib y1 y2 ho7 hg7 hw7 HAP hL2 hB2 z0 z1 x0 za y0 HO2 NW
              go_wp2_with fail
              go_roundw
              case rel => exact ⟨t + 1, _, by go_num, by omega, I7, B7⟩
              case measure => simp [intOf]; omega
        · obtain rfl : t = xs.length := by omega
          have L8 := hide (show LLs wr w3.heap.size w3.heap.size vs2 (frL l n2 O Q (m + 1) 0) by rw [← HNX.out]; exact hL2.out)
          clear hL2
          go_wp2_with fail
          go_roundw
          case rel => exact ⟨m + 1, vs2, by go_num, by omega, L8, hB2⟩
          case measure => simp [intOf]; omega
    · obtain rfl : m = O.length := by omega
      have FIN := hide (show SrcPost l n2 O w (.returned (.slice (some ⟨w3.heap.size, 0, none⟩) O.length O.length)) wr from ⟨Q, HQ.out, w3.heap.size, vs, by rw [frL_len], hL.out.lower B3.out.size, below_call B3.out hB.out⟩)
      clear hL hB
      go_wp2_with fail
      go_ret
      exact FIN.out
end
end Go.Proofs.Ytlcmcmocjbeocaa
end

section
/-
  The contract of postorder.Dominators: the immediate dominators. Conditions: those of the types; the function is right and has an instruction.
-/
namespace Go.Proofs.Ytlcmcmocjbeocaa
open Go.RowKit

/-- What Dominators hands back. -/
def DomPost (l : List Ins) (n : Nat) (w : World) (e : Ending) (w' : World) : Prop := ∃ D, IsDoms (suc l) n D ∧ IntsPost D w e w'
section
variable {P : Int} {A1 : Option Addr} {n1 c1 : Nat} {A2 : Option Addr} {n2 c2 : Nat} {l : List Ins}
set_option maxRecDepth 100000 in
set_option maxHeartbeats 4000000 in
theorem dominators_any (w : World) (hC : Hid (CdAt w A2 n2 l)) (hok : Hid (FlowOk l)) (hn1 : 1 ≤ n2) :
    Calls Try.prog 17 #[fv P A1 n1 c1 A2 n2 c2] w (DomPost l n2 w) := by
  have hn2 := hC.out.few
  have hlen := hC.out.len
  obtain ⟨W1, hW1⟩ : ∃ W, w.alloc (.cells #[.int .i64 P, .slice A1 n1 c1, .slice A2 n2 c2] 27) = W := ⟨_, rfl⟩
  have R1 := hide (show Row W1 w.heap.size 27 [.int .i64 P, .slice A1 n1 c1, .slice A2 n2 c2] by rw [← hW1]; exact Row.new w _ _)
  have B1 := hide (show Below w.heap.size w W1 by rw [← hW1]; exact below1 _ _)
  have co := order_any (P := P) (A1 := A1) (n1 := n1) (c1 := c1) (c2 := c2) W1 (hide (hC.out.below B1.out)) hok hn1
  have HW1 := hide hW1
  have HL := hide hlen
  clear hW1 hlen
  go_enter Try.func17, Try.ntmps17
  go_upto_region 1 with (fail)
  rw [HW1.out]
  have q0 := R1.out.cell (k := 0) rfl
  have q1 := R1.out.cell (k := 1) rfl
  have q2 := R1.out.cell (k := 2) rfl
  go_wp2_with fail
  refine co.mono ?_
  rintro e w2 ⟨L, hL, A5, c5, rfl, ho2, hb2⟩
  have hord := hL.ord (by omega)
  have HORD := hide hord
  have R2 := hide (R1.out.call hb2)
  have B2 := hide (below_call B1.out hb2)
  rw [toI_len] at ho2 ⊢
  obtain ⟨O, hO⟩ : ∃ O, L.reverse = O := ⟨_, rfl⟩
  rw [hO] at HORD ho2 ⊢
  have hOl := HORD.out.len
  have hO1 := (List.getElem?_eq_some_iff.1 HORD.out.pos).1
  obtain ⟨g5, c5', he5, -, -, -, -⟩ := own_block ho2 (by omega)
  injection he5 with he5 _ he5c
  subst he5 he5c
  have HSO := hide (fun (i x : Nat) (hx : O[i]? = some x) => show w2.cell? ⟨g5, i, none⟩ = some (.int .i64 (x : Int)) from by
    have hil := (List.getElem?_eq_some_iff.1 hx).1
    rw [ho2.cellAt i (by omega), cellsI, List.getElem?_map, toI_get, hx]; rfl)
  have cs := sources_any (P := P) (A1 := A1) (n1 := n1) (c1 := c1) (A2 := A2) (c2 := c2) w2 (hide (hC.out.below B2.out)) hok hn1 (some ⟨g5, 0, none⟩) c5 O (hide HORD.out.nodup) (hide HORD.out.lt) (hide (Sees.ownN ho2)) hOl
  clear hL hord ho2 hb2 co q0 q1 q2 HW1 R1 B1 hO
  have q0 := R2.out.cell (k := 0) rfl
  have q1 := R2.out.cell (k := 1) rfl
  have q2 := R2.out.cell (k := 2) rfl
  go_wp2_with fail
  refine cs.mono ?_
  rintro e w3 ⟨Q, hQ, g3, vs3, rfl, hL3, hb3⟩
  have R3 := hide (R2.out.call hb3)
  have B3 := hide (below_call B2.out hb3)
  have HSO3 := hide (fun (i x : Nat) (hx : O[i]? = some x) => keep_cellB hb3 (HSO.out i x hx))
  have ci := immediate_any (N := O.length) (E := ER (suc l) O) (cf := O.length) w3 (hide (rk_of HORD.out)) (hide hL3) (hide (fun i F hF p => by
    have hi : i < O.length := by have := (List.getElem?_eq_some_iff.1 hF).1; rw [frL_len] at this; exact this
    have hx := List.getElem?_eq_getElem hi
    rw [frL_at hx, if_pos hi] at hF
    injection hF with hF
    rw [← hF]
    exact src_mem hQ HL.out.symm hx)) (hide frL_len) hO1 (by omega)
  rw [frL_len]
  clear hQ hL3 hb3 cs q0 q1 q2 R2 B2 HSO
  go_wp2_with fail
  refine ci.mono ?_
  rintro e w4 ⟨U, hU, GU, rfl, hrU, hGU, hb4⟩
  have HU := hide hU
  have hUl := hU.up.len
  have R4 := hide (R3.out.call hb4)
  have B4 := hide (below_call B3.out hb4)
  have HSO4 := hide (fun (i x : Nat) (hx : O[i]? = some x) => keep_cellB hb4 (HSO3.out i x hx))
  have RU4 := hide hrU.reads
  rw [hUl]
  obtain ⟨W5, hW5⟩ : ∃ W, w4.alloc (.cells #[.int .i64 (-1)] 3) = W := ⟨_, rfl⟩
  have hb5 : Below w4.heap.size w4 W5 := by rw [← hW5]; exact below1 _ _
  have x5 : W5.cell? ⟨w4.heap.size, 0, none⟩ = some (.int .i64 (-1)) := by rw [← hW5]; exact (Row.new w4 _ [.int .i64 (-1)]).cell rfl
  have cr := repeat_any (-1) w4.heap.size 0 1 n2 W5 (hide x5) hn1 (by omega)
  have B5 := hide (below_call B4.out hb5)
  have HSO5 := hide (fun (i x : Nat) (hx : O[i]? = some x) => keep_cellB hb5 (HSO4.out i x hx))
  have RU5 := hide (RU4.out.below hb5)
  have q2 := keep_cellB (below1 w4 (.cells #[.int .i64 (-1)] 3)) (R4.out.cell (k := 2) rfl)
  have HW5 := hide hW5
  have q2' := R4.out.cell (k := 2) rfl
  clear hU hrU hGU hb4 ci R3 B3 HSO3 RU4 HSO4 hW5 x5 B4 hb5
  go_wp2_with fail
  rw [HW5.out]
  refine cr.mono ?_
  rintro e w6 ⟨rfl, hr6, hb6⟩
  have HD6 := hide hr6
  have B6 := hide (below_call B5.out hb6)
  have HSO6 := hide (fun (i x : Nat) (hx : O[i]? = some x) => keep_cellB hb6 (HSO5.out i x hx))
  have RU6 := hide (RU5.out.below hb6)
  obtain ⟨G, hG⟩ : ∃ G, W5.heap.size = G := ⟨_, rfl⟩
  have hGb : w.heap.size ≤ G := by have := B5.out.size; omega
  have hOne : ∀ i x : Nat, O[i]? = some x → g5 ≠ G := fun i x hx => by have := World.block_lt_of_cell? _ _ (HSO5.out i x hx); simp only at this; omega
  have hUne : ∀ (i : Nat) (x : Int), U[i]? = some x → GU ≠ G := fun i x hx => by have := World.block_lt_of_cell? _ _ (RU5.out i x hx); simp only at this; omega
  have HOne := hide hOne
  have HUne := hide hUne
  rw [hG] at HD6 ⊢
  clear hr6 hb6 cr q2 q2' HW5 B5 HSO5 RU5 hG R4 hOne hUne
  go_wp2_with fail
  go_loopw [21] (fun s21 wr => ∃ (m : Nat) (D : List Int), s21 = .int .i64 (m : Int) ∧ m ≤ O.length ∧ Hid (DlI n2 O U m D) ∧ Hid (Row wr G 3 (cellsI D)) ∧ Hid (∀ i x : Nat, O[i]? = some x → wr.cell? ⟨g5, i, none⟩ = some (.int .i64 (x : Int))) ∧ Hid (Reads wr GU U) ∧ Hid (Below w.heap.size w wr)) (fun s21 _ => O.length - (intOf s21).toNat)
  case atStart => exact ⟨0, _, rfl, by omega, hide (.start n2 O U), HD6, HSO6, RU6, B6⟩
  case round =>
    obtain ⟨m, D, rfl, hmO, hD, hRw, hSO, hRU, hB⟩ := hrel
    clear HD6 HSO6 RU6 B6
    by_cases hlt : m < O.length
    · have hkx := List.getElem?_eq_getElem hlt
      have x0 := hSO.out m _ hkx
      have hkn := HORD.out.lt _ (List.getElem_mem hlt)
      have HKX := hide hkx
      generalize O[m] = k at x0 hkn HKX
      have hm0 : (0 : Int) ≤ (m : Int) := by omega
      have hm1 : (m : Int) < (O.length : Int) := by omega
      have hk0 : (0 : Int) ≤ (k : Int) := by omega
      have hk1 : (k : Int) < (n2 : Int) := by omega
      clear hkx
      rcases Nat.eq_zero_or_pos m with rfl | h0
      · have D2 := hide hD.out.zero
        rw [show ((0 : Nat) : Int) = 0 from rfl] at hm0 hm1 ⊢
        clear hD
        go_wp2_with fail
        go_roundw
        case rel => exact ⟨1, D, rfl, by omega, D2, hRw, hSO, hRU, hB⟩
        case measure => simp [intOf]; omega
      · have hgt : (0 : Int) < (m : Int) := by omega
        obtain ⟨u, hu, -, hum, -⟩ := HU.out.up.kn m hlt
        have hum := hum h0
        have y0 := hRU.out m _ hu
        have hxx := List.getElem?_eq_getElem (l := O) (i := u) (by omega)
        have y1 := hSO.out u _ hxx
        have D2 := hide (hD.out.step HORD.out.nodup h0 HKX.out hkn hu hxx)
        generalize O[u] = x at y1 D2
        obtain ⟨z, hz⟩ := int_get (zs := D) (k := k) (by rw [hD.out.len]; exact hkn)
        have y2 := hRw.out.cell (cellsI_at hz)
        have y3 := hRw.out.free k
        have hu0 : (0 : Int) ≤ (u : Int) := by omega
        have hu1 : (u : Int) < (O.length : Int) := by omega
        obtain ⟨W7, hW7⟩ : ∃ W, wr.setCell ⟨G, k, none⟩ (.int .i64 (x : Int)) = W := ⟨_, rfl⟩
        have R7 := hide (show Row W7 G 3 (cellsI (D.set k (x : Int))) by rw [← hW7, ← cellsI_set]; exact hRw.out.set_ k _)
        have S7 := hide (fun (i x : Nat) (hx : O[i]? = some x) => show W7.cell? ⟨g5, i, none⟩ = some (.int .i64 (x : Int)) from by
          rw [← hW7, World.cell?_setCell_other _ _ _ _ (fun e => HOne.out i x hx (by have := congrArg Addr.block e; simp only at this; omega))]
          exact hSO.out i x hx)
        have U7 := hide (show Reads W7 GU U from fun i x hx => by
          rw [← hW7, World.cell?_setCell_other _ _ _ _ (fun e => HUne.out i x hx (by have := congrArg Addr.block e; simp only at this; omega))]
          exact hRU.out i x hx)
        have B7 := hide (show Below w.heap.size w W7 by rw [← hW7]; exact hB.out.setCell (p := ⟨G, k, none⟩) hGb _)
        have HW7 := hide hW7
        clear hu hxx hz hW7 hD hum
        go_upto_region 9 with (fail)
        rw [HW7.out]
        clear HW7 hRw hSO hRU hB x0 y0 y1 y2 y3
        go_wp2_with fail
        go_roundw
        case rel => exact ⟨m + 1, _, by go_num, by omega, D2, R7, S7, U7, B7⟩
        case measure => simp [intOf]; omega
    · obtain rfl : m = O.length := by omega
      have FIN := hide (show DomPost l n2 w (.returned (.slice (some ⟨G, 0, none⟩) n2 n2)) wr from ⟨D, hD.out.end_ HORD.out HU.out, G, by rw [hD.out.len], hRw.out, hGb, hB.out⟩)
      clear hD hRw hSO hRU hB
      go_wp2_with fail
      go_ret
      exact FIN.out
end
end Go.Proofs.Ytlcmcmocjbeocaa
end

section
/-
  The contract of the reference's Dominators (chapter 14). Conditions: those of the types; the function is right and has an instruction.
-/
namespace Go.Proofs.Ytlcmcmocjbeocaa
open Go.RowKit

theorem DmsI.far {S : Nat → List Nat} {n g m b0 : Nat} {vs : List Value} {wr : World} {G : Nat} {cs : List Value} (h : DmsI S n g m b0 vs wr) (hr : Row wr G 3 cs) (k : Nat) (x : Value) : DmsI S n g m b0 vs (wr.setCell ⟨G, k, none⟩ x) :=
  ⟨h.1, h.2.1.far (p := ⟨G, k, none⟩) (h.2.1.ne_ hr (by decide)) _, fun d hd => by obtain ⟨b, B, q0, q1, q2, q3⟩ := h.2.2 d hd; exact ⟨b, B, q0, q1, q2.far (p := ⟨G, k, none⟩) (q2.ne_ hr (by decide)) _, q3⟩⟩
/-- What d dominates, as the cells say. -/
theorem DmsI.at_ {S : Nat → List Nat} {n g b0 d k : Nat} {vs : List Value} {wr : World} (h : DmsI S n g n b0 vs wr) (hd : d < n) (hk : k < n) : ∃ b t, wr.cell? ⟨g, d, none⟩ = some (.slice (some ⟨b, 0, none⟩) n n) ∧ wr.cell? ⟨b, k, none⟩ = some (.bool t) ∧ (t = true ↔ Dm S d k) := by
  obtain ⟨b, B, -, q1, q2, q3⟩ := h.2.2 d hd
  have h1 := q3.iff k hk
  rcases bool_get (R := B) (k := k) (by rw [q3.len]; exact hk) with a | a
  · exact ⟨b, true, h.2.1.cell q1, q2.cell (bcells_at a), by rw [a] at h1; simp at h1; simp [h1]⟩
  · exact ⟨b, false, h.2.1.cell q1, q2.cell (bcells_at a), by rw [a] at h1; simp at h1; simp [h1]⟩
/-- The first k dominators are found. -/
structure RdmI (S : Nat → List Nat) (n k : Nat) (D : List Int) : Prop where
  len : D.length = n
  no : ∀ x, x < k → x = 0 ∨ ¬ Way S x → D[x]? = some (-1)
  idom : ∀ x, x < k → x ≠ 0 → Way S x → ∃ y : Nat, D[x]? = some (y : Int) ∧ IsIdom S x y
theorem RdmI.start (S : Nat → List Nat) (n : Nat) : RdmI S n 0 (List.replicate n 0) := ⟨by simp, fun x hx => by omega, fun x hx => by omega⟩
theorem RdmI.set {S : Nat → List Nat} {n k : Nat} {D : List Int} (h : RdmI S n k D) (hk : k < n) (z : Int) : RdmI S n k (D.set k z) ∧ (D.set k z)[k]? = some z := by
  have hl : k < D.length := by rw [h.len]; exact hk
  refine ⟨⟨by simpa using h.len, fun x hx hc => ?_, fun x hx h0 hw => ?_⟩, by rw [set_getI hl, if_pos rfl]⟩
  · rw [set_getI hl, if_neg (by omega)]; exact h.no x hx hc
  · rw [set_getI hl, if_neg (by omega)]; exact h.idom x hx h0 hw
theorem RdmI.next {S : Nat → List Nat} {n k : Nat} {D : List Int} {o : Int} (h : RdmI S n k D) (ho : D[k]? = some o) (hd : DmI S k n o) (hS : ∀ k, Way S k → k < n) : RdmI S n (k + 1) D := by
  obtain ⟨e1, e2⟩ := hd.end_ hS
  refine ⟨h.len, fun x hx hc => ?_, fun x hx h0 hw => ?_⟩
  · by_cases e : x = k
    · subst e; rw [ho, e1 hc]
    · exact h.no x (by omega) hc
  · by_cases e : x = k
    · subst e
      obtain ⟨y, rfl, hy⟩ := e2 h0 hw
      exact ⟨y, ho, hy⟩
    · exact h.idom x (by omega) h0 hw
theorem RdmI.end_ {S : Nat → List Nat} {n : Nat} {D : List Int} (h : RdmI S n n D) : IsDoms S n D := ⟨h.len, fun k hk hc => h.no k hk hc, fun k hk h0 hw => h.idom k hk h0 hw⟩
section
variable {P : Int} {A1 : Option Addr} {n1 c1 : Nat} {A2 : Option Addr} {n2 c2 : Nat} {l : List Ins}
set_option maxRecDepth 100000 in
set_option maxHeartbeats 4000000 in
theorem rdominators_any (w : World) (hC : Hid (CdAt w A2 n2 l)) (hok : Hid (FlowOk l)) (hn1 : 1 ≤ n2) :
    Calls Try.prog 18 #[fv P A1 n1 c1 A2 n2 c2] w (DomPost l n2 w) := by
  obtain ⟨i0, hi, hz0, hz1, hz2⟩ := info_parts infoI
  have hn2 := hC.out.few
  have hmk := fmade (P := Try.prog) Try.underlying30 hi hz0 hz1 (by omega) rfl n2 (by omega) (L := cellsI (List.replicate n2 0)) (by simp [cellsI])
  have HWL := hide (fun (k : Nat) (hw : Way (suc l) k) => show k < n2 from by
    cases hw with
    | start => omega
    | step _ hj => have := suc_lt hok.out hj; have := hC.out.len; omega)
  obtain ⟨W1, hW1⟩ : ∃ W, w.alloc (.cells #[.int .i64 P, .slice A1 n1 c1, .slice A2 n2 c2] 27) = W := ⟨_, rfl⟩
  have R1 := hide (show Row W1 w.heap.size 27 [.int .i64 P, .slice A1 n1 c1, .slice A2 n2 c2] by rw [← hW1]; exact Row.new w _ _)
  have B1 := hide (show Below w.heap.size w W1 by rw [← hW1]; exact below1 _ _)
  have cd := dominates_any (P := P) (A1 := A1) (n1 := n1) (c1 := c1) (c2 := c2) W1 (hide (hC.out.below B1.out)) hok hn1
  have HW1 := hide hW1
  clear hW1
  go_enter Try.func18, Try.ntmps18
  go_upto_region 1 with (fail)
  rw [HW1.out]
  have q0 := R1.out.cell (k := 0) rfl
  have q1 := R1.out.cell (k := 1) rfl
  have q2 := R1.out.cell (k := 2) rfl
  go_wp2_with fail
  refine cd.mono ?_
  rintro e w2 ⟨g, vs, rfl, hD2, hb2⟩
  have D2 := hide hD2
  have F2 := hide (R1.out.call hb2)
  have B2 := hide (below_call B1.out hb2)
  clear hD2 hb2 cd q0 q1 q2 HW1 R1 B1
  have q2 := F2.out.cell (k := 2) rfl
  obtain ⟨W3, hW3⟩ : ∃ W, w2.alloc (.cells (cellsI (List.replicate n2 0)).toArray 3) = W := ⟨_, rfl⟩
  have hb3 : Below w2.heap.size w2 W3 := by rw [← hW3]; exact below1 _ _
  obtain ⟨b0, hb0⟩ : ∃ b0, w2.heap.size = b0 := ⟨_, rfl⟩
  have HB0 := hide hb0
  have D3 := hide (show DmsI (suc l) n2 g n2 b0 vs W3 by rw [← hb0]; exact D2.out.call hb3)
  have F3 := hide (F2.out.call hb3)
  have B3 := hide (below_call B2.out hb3)
  have N3 := hide (show Row W3 b0 3 (cellsI (List.replicate n2 0)) by rw [← hW3, ← hb0]; exact Row.new w2 _ _)
  have hbw : w.heap.size ≤ b0 := by rw [← hb0]; exact B2.out.size
  have hFb : w.heap.size ≠ b0 := by have := F2.out.lt; omega
  have HW3 := hide hW3
  clear hW3 hb3 hb0
  go_upto_region 3 with (fail)
  rw [HW3.out, HB0.out]
  clear q2 hmk HW3 D2 F2 B2 HB0
  go_upto_region 4 with (fail)
  go_loopw [5] (fun s5 wr => ∃ (k : Nat) (D : List Int), s5 = .int .i64 (k : Int) ∧ k ≤ n2 ∧ Hid (RdmI (suc l) n2 k D) ∧ Hid (DmsI (suc l) n2 g n2 b0 vs wr) ∧ Hid (Row wr b0 3 (cellsI D)) ∧ Hid (Row wr w.heap.size 27 [.int .i64 P, .slice A1 n1 c1, .slice A2 n2 c2]) ∧ Hid (Below w.heap.size w wr)) (fun s5 _ => n2 - (intOf s5).toNat)
  case atStart => exact ⟨0, _, rfl, by omega, hide (.start _ _), D3, N3, F3, B3⟩
  case round =>
    obtain ⟨k, D, rfl, hkn, hI, hD, hN, hF, hB⟩ := hrel
    clear D3 N3 F3 B3
    have q2 := hF.out.cell (k := 2) rfl
    by_cases hlt : k < n2
    · have hk0 : (0 : Int) ≤ (k : Int) := by omega
      have hk1 : (k : Int) < (n2 : Int) := by omega
      obtain ⟨z, hz⟩ := int_get (zs := D) (k := k) (by rw [hI.out.len]; exact hlt)
      have y0 := hN.out.cell (cellsI_at hz)
      have y1 := hN.out.free k
      obtain ⟨W4, hW4⟩ : ∃ W, wr.setCell ⟨b0, k, none⟩ (.int .i64 (-1)) = W := ⟨_, rfl⟩
      have I4 := hide (hI.out.set hlt (-1))
      have D4 := hide (show DmsI (suc l) n2 g n2 b0 vs W4 by rw [← hW4]; exact hD.out.far hN.out k _)
      have N4 := hide (show Row W4 b0 3 (cellsI (D.set k (-1))) by rw [← hW4, ← cellsI_set]; exact hN.out.set_ k _)
      have F4 := hide (show Row W4 w.heap.size 27 [.int .i64 P, .slice A1 n1 c1, .slice A2 n2 c2] by rw [← hW4]; exact hF.out.far (p := ⟨b0, k, none⟩) hFb _)
      have B4 := hide (show Below w.heap.size w W4 by rw [← hW4]; exact hB.out.setCell (p := ⟨b0, k, none⟩) hbw _)
      have HW4 := hide hW4
      clear hz hW4
      go_upto_region 7 with (fail)
      rw [HW4.out]
      clear HW4 y0 y1 q2 hI hD hN hF hB
      go_upto_region 8 with (fail)
      go_loopw [6] (fun s6 wq => ∃ (d : Nat) (D : List Int) (o : Int), s6 = .int .i64 (d : Int) ∧ d ≤ n2 ∧ Hid (RdmI (suc l) n2 k D ∧ D[k]? = some o) ∧ Hid (DmI (suc l) k d o) ∧ Hid (DmsI (suc l) n2 g n2 b0 vs wq) ∧ Hid (Row wq b0 3 (cellsI D)) ∧ Hid (Row wq w.heap.size 27 [.int .i64 P, .slice A1 n1 c1, .slice A2 n2 c2]) ∧ Hid (Below w.heap.size w wq)) (fun s6 _ => n2 - (intOf s6).toNat)
      case atStart => exact ⟨0, _, -1, rfl, by omega, I4, hide .start, D4, N4, F4, B4⟩
      case round =>
        obtain ⟨d, D', o, rfl, hdn, hI, hM, hD, hN, hF, hB⟩ := hrel
        clear I4 D4 N4 F4 B4
        have q2 := hF.out.cell (k := 2) rfl
        by_cases hld : d < n2
        · have hd0 : (0 : Int) ≤ (d : Int) := by omega
          have hd1 : (d : Int) < (n2 : Int) := by omega
          have y0 := hN.out.cell (cellsI_at hI.out.2)
          have y1 := hN.out.free k
          obtain ⟨bd, t, x0, x1, ht⟩ := hD.out.at_ hld hlt
          have HT := hide ht
          clear ht
          by_cases hdk : d = k
          · have M2 := hide (hM.out.skip (.inl hdk))
            subst hdk
            clear hM
            go_wp2_with fail
            go_roundw
            case rel => exact ⟨d + 1, D', o, by go_num, by omega, hI, M2, hD, hN, hF, hB⟩
            case measure => simp [intOf]; omega
          have hne : ((d : Int) == (k : Int)) = false := by rw [beq_eq_false_iff_ne]; omega
          have hne2 : ¬ ((d : Int) = (k : Int)) := by omega
          cases t with
          | false =>
            have M2 := hide (hM.out.skip (.inr fun h => by have := HT.out.2 h; cases this))
            clear hM
            go_wp2_with fail
            go_roundw
            case rel => exact ⟨d + 1, D', o, by go_num, by omega, hI, M2, hD, hN, hF, hB⟩
            case measure => simp [intOf]; omega
          | true =>
          have hdm := HT.out.1 rfl
          rcases hM.out.cases with rfl | ⟨x, rfl, hxd⟩
          · have M2 := hide (hM.out.first hdk hdm)
            clear hdm
            obtain ⟨W6, hW6⟩ : ∃ W, wr.setCell ⟨b0, k, none⟩ (.int .i64 (d : Int)) = W := ⟨_, rfl⟩
            have I6 := hide (hI.out.1.set hlt (d : Int))
            have D6 := hide (show DmsI (suc l) n2 g n2 b0 vs W6 by rw [← hW6]; exact hD.out.far hN.out k _)
            have N6 := hide (show Row W6 b0 3 (cellsI (D'.set k (d : Int))) by rw [← hW6, ← cellsI_set]; exact hN.out.set_ k _)
            have F6 := hide (show Row W6 w.heap.size 27 [.int .i64 P, .slice A1 n1 c1, .slice A2 n2 c2] by rw [← hW6]; exact hF.out.far (p := ⟨b0, k, none⟩) hFb _)
            have B6 := hide (show Below w.heap.size w W6 by rw [← hW6]; exact hB.out.setCell (p := ⟨b0, k, none⟩) hbw _)
            have HW6 := hide hW6
            clear hW6
            go_upto_region 9 with (fail)
            rw [HW6.out]
            clear HW6 y0 y1 x0 x1 q2 hI hM hD hN hF hB
            go_wp2_with fail
            go_roundw
            case rel => exact ⟨d + 1, _, _, by go_num, by omega, I6, M2, D6, N6, F6, B6⟩
            case measure => simp [intOf]; omega
          have hx0 : (0 : Int) ≤ (x : Int) := by omega
          have hx1 : (x : Int) < (n2 : Int) := by omega
          have hxn : ¬ ((x : Int) < 0) := by omega
          have hxd2 : decide ((x : Int) < 0) = false := decide_eq_false hxn
          obtain ⟨bx, tx, z0, z1, htx⟩ := hD.out.at_ (d := x) (k := d) (by omega) hld
          cases tx with
          | true =>
            have M2 := hide (hM.out.next hdk hdm (htx.1 rfl))
            clear hdm htx
            obtain ⟨W6, hW6⟩ : ∃ W, wr.setCell ⟨b0, k, none⟩ (.int .i64 (d : Int)) = W := ⟨_, rfl⟩
            have I6 := hide (hI.out.1.set hlt (d : Int))
            have D6 := hide (show DmsI (suc l) n2 g n2 b0 vs W6 by rw [← hW6]; exact hD.out.far hN.out k _)
            have N6 := hide (show Row W6 b0 3 (cellsI (D'.set k (d : Int))) by rw [← hW6, ← cellsI_set]; exact hN.out.set_ k _)
            have F6 := hide (show Row W6 w.heap.size 27 [.int .i64 P, .slice A1 n1 c1, .slice A2 n2 c2] by rw [← hW6]; exact hF.out.far (p := ⟨b0, k, none⟩) hFb _)
            have B6 := hide (show Below w.heap.size w W6 by rw [← hW6]; exact hB.out.setCell (p := ⟨b0, k, none⟩) hbw _)
            have HW6 := hide hW6
            clear hW6
            go_upto_region 9 with (fail)
            rw [HW6.out]
            clear HW6 y0 y1 x0 x1 z0 z1 q2 hI hM hD hN hF hB
            go_wp2_with fail
            go_roundw
            case rel => exact ⟨d + 1, _, _, by go_num, by omega, I6, M2, D6, N6, F6, B6⟩
            case measure => simp [intOf]; omega
          | false =>
            have M2 := hide (hM.out.keep hdm (fun h => by have := htx.2 h; cases this))
            clear hM hdm htx
            go_wp2_with fail
            go_roundw
            case rel => exact ⟨d + 1, D', _, by go_num, by omega, hI, M2, hD, hN, hF, hB⟩
            case measure => simp [intOf]; omega
        · obtain rfl : d = n2 := by omega
          have I9 := hide (hI.out.1.next hI.out.2 hM.out HWL.out)
          clear hI hM
          go_wp2_with fail
          go_roundw
          case rel => exact ⟨k + 1, D', by go_num, by omega, I9, hD, hN, hF, hB⟩
          case measure => simp [intOf]; omega
    · obtain rfl : k = n2 := by omega
      have FIN := hide (show DomPost l k w (.returned (.slice (some ⟨b0, 0, none⟩) k k)) wr from ⟨D, hI.out.end_, b0, by rw [hI.out.len], hN.out, hbw, hB.out⟩)
      clear hI hD hN hF hB
      go_wp2_with fail
      go_ret
      exact FIN.out
end
end Go.Proofs.Ytlcmcmocjbeocaa
end

section
/-
  PostorderDominators' and PostorderDominatorsAreATree's laws, walked: they return true. Conditions: those of the types.
-/
namespace Go.Proofs.Ytlcmcmocjbeocaa
open Go.RowKit

theorem dmI_ex (S : Nat → List Nat) (k : Nat) : ∀ m, ∃ o, DmI S k m o := by
  intro m
  induction m with
  | zero => exact ⟨-1, .start⟩
  | succ m ih =>
    obtain ⟨o, h⟩ := ih
    by_cases hm : m = k ∨ ¬ Dm S m k
    · exact ⟨o, h.skip hm⟩
    · have h1 : m ≠ k := fun e => hm (.inl e)
      have h2 : Dm S m k := by
        by_cases q : Dm S m k
        · exact q
        · exact absurd (.inr q) hm
      rcases h.cases with rfl | ⟨x, rfl, -⟩
      · exact ⟨_, h.first h1 h2⟩
      · by_cases hx : Dm S x m
        · exact ⟨_, h.next h1 h2 hx⟩
        · exact ⟨_, h.keep h2 hx⟩
theorem list_ex {f : Nat → Int → Prop} (h : ∀ k, ∃ z, f k z) : ∀ n, ∃ D : List Int, D.length = n ∧ ∀ k, k < n → ∃ z, D[k]? = some z ∧ f k z := by
  intro n
  induction n with
  | zero => exact ⟨[], rfl, fun k hk => by omega⟩
  | succ n ih =>
    obtain ⟨D, hl, hD⟩ := ih
    obtain ⟨z, hz⟩ := h n
    refine ⟨D ++ [z], by simp [hl], fun k hk => ?_⟩
    by_cases e : k = n
    · subst e
      exact ⟨z, by rw [List.getElem?_append_right (by omega), hl, Nat.sub_self]; rfl, hz⟩
    · obtain ⟨y, h1, h2⟩ := hD k (by omega)
      exact ⟨y, by rw [List.getElem?_append_left (by omega)]; exact h1, h2⟩
theorem doms_ex {S : Nat → List Nat} {n : Nat} (hS : ∀ k, Way S k → k < n) : ∃ D, IsDoms S n D := by
  obtain ⟨D, hl, hD⟩ := list_ex (f := fun k o => DmI S k n o) (fun k => dmI_ex S k n) n
  refine ⟨D, hl, fun k hk hc => ?_, fun k hk h0 hw => ?_⟩
  · obtain ⟨z, e, h⟩ := hD k hk
    rw [e, (h.end_ hS).1 hc]
  · obtain ⟨z, e, h⟩ := hD k hk
    obtain ⟨x, rfl, hx⟩ := (h.end_ hS).2 h0 hw
    exact ⟨x, e, hx⟩
theorem way_lt {l : List Ins} (hok : FlowOk l) {n : Nat} (hn : l.length = n) (h1 : 1 ≤ n) {k : Nat} (hw : Way (suc l) k) : k < n := by
  cases hw with
  | start => omega
  | step _ hj => have := suc_lt hok hj; omega
theorem doms_rng {l : List Ins} {n : Nat} {D : List Int} (h : IsDoms (suc l) n D) (hS : ∀ k, Way (suc l) k → k < n) (hn : n ≤ 1024) : ∀ x ∈ D, -1 ≤ x ∧ x ≤ 1024 := fun x hx => by
  obtain ⟨k, hk, e⟩ := List.mem_iff_getElem.1 hx
  have hkn : k < n := by rw [← h.len]; exact hk
  have e2 : D[k]? = some x := by rw [← e]; exact List.getElem?_eq_getElem hk
  by_cases hc : k = 0 ∨ ¬ Way (suc l) k
  · have q := h.no k hkn hc
    rw [e2] at q; injection q with q; omega
  · have h1 : k ≠ 0 := fun e => hc (.inl e)
    have h2 : Way (suc l) k := by
      by_cases q : Way (suc l) k
      · exact q
      · exact absurd (.inr q) hc
    obtain ⟨y, q, hy⟩ := h.idom k hkn h1 h2
    have := hS y hy.dm.way
    rw [e2] at q; injection q with q; omega
theorem dom_post {l : List Ins} {n : Nat} {D : List Int} (h : IsDoms (suc l) n D) (hS : ∀ k, Way (suc l) k → k < n) (hn : n ≤ 1024) {w w' : World} {e : Ending} (hp : DomPost l n w e w') : LsPost D w e w' := by
  obtain ⟨D', hD', hp⟩ := hp
  rw [hD'.one h] at hp
  exact LsPost.ints hp (by rw [h.len]; omega) (doms_rng h hS hn)
set_option maxRecDepth 100000 in
set_option maxHeartbeats 2000000 in
theorem domlaw_walk (A0 : Option Addr) (n0 c0 : Nat) (zs : List Int) (w : World)
    (hA : Hid (A0 = none → c0 = 0)) (hn : Hid (zs.length = n0)) (hnc : n0 ≤ c0) (hm : n0 ≤ 9223372036854775807) (hs : Hid (Sees w w.heap.size A0 (cellsU8 zs))) (hz : Hid (∀ z ∈ zs, 0 ≤ z ∧ z ≤ 255)) :
    Calls Try.prog 5 #[.slice A0 n0 c0] w fun e w' => e = .returned (.bool true) ∧ Below w.heap.size w w' := by
  go_enter Try.func5, Try.ntmps5
  go_wp2_with fail
  refine (awake14_any w).mono ?_
  rintro e w1 ⟨rfl, hb1⟩
  have HB1 := hide hb1
  have HS1 := hide ((hs.out.below hb1).more hb1.size)
  clear hb1
  go_wp2_with fail
  refine (function14_any A0 n0 c0 zs w1 hA hn hnc hm HS1 hz).mono ?_
  rintro e w2 ⟨P, A1, n1, c1, A2, n2, c2, l, rfl, hC, hok, hn2, hb2⟩
  obtain ⟨W, hW⟩ : ∃ V, w2.alloc (.cells #[.int .i64 P, .slice A1 n1 c1, .slice A2 n2 c2] 27) = V := ⟨_, rfl⟩
  have HW := hide hW
  have hb3 : Below w2.heap.size w2 W := by rw [← hW]; exact below1 _ _
  obtain ⟨B, hB⟩ : ∃ B, w2.heap.size = B := ⟨_, rfl⟩
  have HBB := hide hB
  have RB := hide (show Row W B 27 [.int .i64 P, .slice A1 n1 c1, .slice A2 n2 c2] by rw [← hW, ← hB]; exact Row.new w2 _ _)
  have HC := hide (hC.below hb3)
  have HBW := hide (HB1.out.trans ((hb2.trans (hb3.mono hb2.size)).mono HB1.out.size))
  have hn3 := hC.few
  have hS := fun (k : Nat) (hw : Way (suc l) k) => way_lt hok hC.len hn2 hw
  obtain ⟨xs, hxs⟩ := doms_ex hS
  have OA := hide (fun (V : World) (hb : Below W.heap.size W V) => (dominators_any (P := P) (A1 := A1) (n1 := n1) (c1 := c1) (c2 := c2) V (hide (HC.out.below hb)) (hide hok) hn2).mono fun e w' q => dom_post hxs hS hn3 q)
  have OB := hide (fun (V : World) (hb : Below W.heap.size W V) => (rdominators_any (P := P) (A1 := A1) (n1 := n1) (c1 := c1) (c2 := c2) V (hide (HC.out.below hb)) (hide hok) hn2).mono fun e w' q => dom_post hxs hS hn3 q)
  have CS := hide (fun (xs : List Int) (A : Option Addr) (c : Nat) (A' : Option Addr) (c' : Nat) (V : World) (h : Hid (Lst V A xs.length xs)) (h' : Hid (Lst V A' xs.length xs)) => (show Calls Try.prog 10 #[.slice A xs.length c, .slice A' xs.length c'] V (BoolPost true V) by have h3 := lsame_any A xs.length c xs A' xs.length c' xs V h h'; rwa [show decide (xs = xs) = true from decide_eq_true rfl] at h3))
  clear hC hok hb2 hb3 hW hB HS1 HB1 hn2 hxs hS
  go_upto_region 4 with (fail)
  rw [HW.out, HBB.out]
  clear HW HBB
  have q0 := fun (w' : World) (hb : Below W.heap.size W w') => (RB.out.call hb).cell (k := 0) rfl
  have q1 := fun (w' : World) (hb : Below W.heap.size W w') => (RB.out.call hb).cell (k := 1) rfl
  have q2 := fun (w' : World) (hb : Below W.heap.size W w') => (RB.out.call hb).cell (k := 2) rfl
  go_region_held3 (fun w' => Below W.heap.size W w') (first | exact bb | exact below_draws (Below.refl _ _) 1 | exact below_draws bb _)
    (first
      | (go_at_call 17; with_reducible refine Calls.mono (OA.out _ (by first | exact bb | exact bb.drew | exact (Below.refl _ _).drew)) ?_; intro e w5 h5; unfold LsPost at h5; obtain ⟨Aa, ca, rfl, hoa, hb5⟩ := h5; have HLa := hide hoa; have bb := below_call (show Below W.heap.size W _ from by first | exact bb | exact bb.drew | exact (Below.refl _ _).drew) hb5; clear hoa)
      | (go_at_call 18; with_reducible refine Calls.mono (OB.out _ bb) ?_; intro e w6 h6; unfold LsPost at h6; obtain ⟨Ab, cb, rfl, hob, hb6⟩ := h6; have HLb := hide hob; have HLa := hide (HLa.out.below hb6); have bb := below_call bb hb6; clear hob)
      | (go_at_call 10; with_reducible refine Calls.mono (CS.out _ _ _ _ _ _ HLa HLb) ?_; intro e w7 h7; unfold BoolPost at h7; obtain ⟨rfl, q, rfl⟩ := h7; have bb := below_draws bb q))
  all_goals
    have HF := hide (HBW.out.trans (bb.mono HBW.out.size))
    clear bb q0 q1 q2 OA OB
    go_wp2_with fail
    go_ret
    exact ⟨rfl, HF.out⟩
end Go.Proofs.Ytlcmcmocjbeocaa
end

section
/-
  PostorderDominators: for every input the law returns true, and each argument reads behind the call as it did before. No condition: every input that the row speaks of.
-/
namespace Go.Proofs.Ytlcmcmocjbeocaa
open Go.ChangeShapes Go.WideShapes Go.ChangeAt Go.RowKit

namespace rowPostorderDominators
theorem own_knob : ownKnob Try.prog.godebug = none := by kernel_rfl
theorem laid_out : laidOutB Try.prog = true := by kernel_rfl
theorem cells_u8 : Try.prog.cellsOf 5 = 1 := by kernel_rfl
set_option maxRecDepth 100000 in
theorem contract (H : Type) (enc : TypeId × Value → H) (W : World) (base : Nat) (args : Array Value) (ds gs : List (DataW H)) (before : List MemPlace)
    (hval : ∀ (j : Nat) t v, Try.f5.params[j]? = some t → args[j]? = some v → Value.okWide Try.prog W .any base t v)
    (hW : DataW.Whole enc Try.prog Try.f5.params.toList Rows.postorderDominatorsSpec.vars false W args.toList ds gs before) :
    Calls Try.prog 5 args W fun e W' => ∃ v, e = .returned v ∧ Rows.postorderDominatorsSpec.post enc Try.prog Try.f5 false true false false W args v W' := by
  have hW' := hW
  obtain ⟨p, q, hA, hV, rfl, hfz, hnd⟩ := hW
  have hA : DataW.TrodAll enc Try.prog W 0 (fun _ => true) true Try.f5.params.toList args.toList ds p := hA
  rw [Try.params5] at hA hval
  obtain ⟨v0, vs0, d0, ds0, p0, q0, hargs, rfl, rfl, h0, r0⟩ := trodAll_cons hA
  obtain ⟨rfl, rfl, rfl⟩ := trodAll_nil r0
  obtain rfl : args = #[v0] := by cases args; simp_all
  obtain ⟨A0, n0, c0, zs0, rfl, hA0, hn0, hm0, hs0, hz0, hc0⟩ := open_u8s Try.underlying22 Try.underlying5 cells_u8 (hval 0 22 v0 rfl rfl) h0
  refine (domlaw_walk A0 n0 c0 zs0 W (hide hA0) (hide hn0) hc0 hm0 (hide hs0) (hide hz0)).mono fun e W' ⟨he, hB⟩ => ⟨_, he, ?_⟩
  exact law_post laid_out (by decide +kernel) rfl rfl Try.underlying4 rfl hW' hB

set_option maxRecDepth 100000 in
theorem lifted (os : Os) (started : os.Started) (H : Type) (enc : TypeId × Value → H) :
    ReturnsInHanded {} Try.checked os 5 .any (Rows.postorderDominatorsSpec.pre6 enc Try.prog Try.f5 Rows.postorderDominatorsRow.domain false) (Rows.postorderDominatorsSpec.post enc Try.prog Try.f5 false true false false) := by
  refine returnsInHanded_of_change (C := Try.checked) own_knob started (by kernel_rfl) Try.func5
    (ChangeSpec.witness6 (enc := enc) (C := Try.checked) false ⟨#[], #[.slice none 0 0], []⟩ 8 (by kernel_rfl) (by kernel_rfl) (by kernel_rfl) (by kernel_rfl)) ?_
  intro W base args ds gs before hval hW _ _
  exact contract H enc W base args ds gs before hval hW

theorem proved : Rows.PostorderDominatorsSaid :=
  OpenClaim.holds_of_wide 5 Try.f5 rfl rfl rfl rfl rfl rfl rfl ⟨rfl, rfl, rfl, rfl, rfl⟩ rfl rfl rfl rfl rfl (by kernel_rfl) Try.func5 (by kernel_rfl)
    (of_decide_eq_true (by kernel_rfl)) (by unfold Func.isWrapper; first | (rw [if_pos (by decide +kernel)]; kernel_rfl) | (rw [if_neg (by decide +kernel)]; exact ⟨rfl, rfl⟩))
    (fun os started H enc _ => lifted os started H enc)
end rowPostorderDominators
end Go.Proofs.Ytlcmcmocjbeocaa
end
