import Derived.Test.YtipjeihfhnilcabMFsm
import Derived.Test.YtipjeihfhnilcabMBmath
import Derived.Laws.MakeOwn
import Derived.Maps.AppendAt
import Derived.ChangeAlike
set_option linter.unusedVariables false
set_option linter.unusedSimpArgs false
section
/-
  The contracts of flow.endsBlock, flow.leading and flow.Leaders. Conditions: those of the types.
-/
namespace Go.Proofs.Ytipjeihfhnilcab
open Go.RowKit

theorem fmade {P : Program} {t e : TypeId} {i : TypeInfo} {z : Value} {L : List Value} (ht : P.underlying t = some (.slice e)) (hi : P.info? e = some i) (hz : i.zero = some z) (hs : i.size = 1) (hb : i.bytes ≤ 64) (hc : z.cells = #[z])
    (n : Nat) (hm : n ≤ 1048576) (hL : List.replicate n z = L) (W : World) :
    (Instr.makeSlice t (.int .i64 (n : Int)) (.int .i64 (n : Int))).run P W = .ok (.slice (some ⟨W.heap.size, 0, none⟩) n n) (W.alloc (.cells L.toArray e)) := by
  have hbn : i.bytes * n ≤ 64 * 1048576 := Nat.mul_le_mul hb hm
  have h := run_make W t e i _ ht hi hz .i64 .i64 (n : Int) (n : Int) (by omega) (by omega) (by rw [← Int.natCast_mul]; omega) (by omega)
  rw [h, show ((n : Int)).toNat = n by omega, hs, Nat.mul_one, hc, madeCells_list z n, hL]
/-- Bools as cells. -/
def bcells (l : List Bool) : List Value := l.map Value.bool
theorem bcells_at {l : List Bool} {k : Nat} {b : Bool} (h : l[k]? = some b) : (bcells l)[k]? = some (.bool b) := by simp [bcells, h]
theorem bcells_set (l : List Bool) (k : Nat) (b : Bool) : (bcells l).set k (.bool b) = bcells (l.set k b) := by simp [bcells, List.map_set]
theorem bcells_rep (n : Nat) (b : Bool) : bcells (List.replicate n b) = List.replicate n (.bool b) := by simp [bcells]
/-- What a function that hands back bools leaves. -/
def BoolsPost (R : List Bool) (w : World) (e : Ending) (w' : World) : Prop :=
  ∃ G, e = .returned (.slice (some ⟨G, 0, none⟩) R.length R.length) ∧ Row w' G 4 (bcells R) ∧ w.heap.size ≤ G ∧ Below w.heap.size w w'
theorem infoB : (Try.prog.info? 4).map (fun i => (i.zero, i.size, i.bytes)) = some (some (.bool false), 1, 1) := by kernel_rfl

theorem endsb_any (op : Int) (w : World) : Calls Try.prog 29 #[.int .i64 op] w fun e w' => e = .returned (.bool (endB op)) ∧ w = w' := by
  have ct := fun W => term_any op W
  by_cases h : op = 21
  · subst h
    go_enter Try.func29, Try.ntmps29
    go_wp2_with fail
    go_ret
    exact ⟨rfl, rfl⟩
  · have hb : (op == 21) = false := by rw [beq_eq_false_iff_ne]; exact h
    have he := hide (show endB op = termB op by unfold endB; rw [hb, Bool.false_or])
    clear h
    go_enter Try.func29, Try.ntmps29
    go_wp2_with fail
    refine (ct w).mono ?_
    rintro e w' ⟨rfl, rfl⟩
    go_wp2_with fail
    go_ret
    exact ⟨ret_bool he.out.symm, rfl⟩
/-- What the loop of leading keeps. -/
def LdR (w : World) (P : Int) (A1 : Option Addr) (n1 c1 : Nat) (A2 : Option Addr) (n2 c2 : Nat) (l : List Ins) (m : Nat) (wr : World) : Prop :=
  Row wr (w.heap.size + 1) 4 (bcells (ldrL l m)) ∧ Row wr w.heap.size 27 [.int .i64 P, .slice A1 n1 c1, .slice A2 n2 c2] ∧ Below w.heap.size w wr
theorem mark_out (R : List Bool) {z : Int} {n : Nat} (hl : R.length = n) (h : withB z n = false) : mark R z = R := by
  unfold mark; rw [if_neg (by have := withB_false.1 h; omega)]
theorem mark_in (R : List Bool) {z : Int} {n : Nat} (hl : R.length = n) (h : withB z n = true) : mark R z = R.set z.toNat true := by
  unfold mark; rw [if_pos (by have := withB_true.1 h; omega)]
set_option maxRecDepth 100000 in
set_option maxHeartbeats 2000000 in
theorem leading_any {P : Int} {A1 : Option Addr} {n1 c1 : Nat} {A2 : Option Addr} {n2 c2 : Nat} {l : List Ins} (w : World) (hC : Hid (CdAt w A2 n2 l)) :
    Calls Try.prog 21 #[fv P A1 n1 c1 A2 n2 c2] w (BoolsPost (ldrL l l.length) w) := by
  obtain ⟨i0, hi, hz0, hz1, hz2⟩ := info_parts infoB
  have hlen := hC.out.len
  have hn2 := hC.out.few
  have hmk := fmade (P := Try.prog) Try.underlying31 hi hz0 hz1 (by omega) rfl n2 (by omega) (by rw [← bcells_rep])
  rw [← hlen, ← ldrL_start l, hlen] at hmk
  have HL := hide hlen
  obtain ⟨W1, hW1⟩ : ∃ W, w.alloc (.cells #[.int .i64 P, .slice A1 n1 c1, .slice A2 n2 c2] 27) = W := ⟨_, rfl⟩
  have R1 := hide (show Row W1 w.heap.size 27 [.int .i64 P, .slice A1 n1 c1, .slice A2 n2 c2] by rw [← hW1]; exact Row.new w _ _)
  have hsz1 : W1.heap.size = w.heap.size + 1 := by rw [← hW1]; simp
  have LD0 := hide (show LdR w P A1 n1 c1 A2 n2 c2 l 0 (W1.alloc (.cells (bcells (ldrL l 0)).toArray 4)) from
    ⟨(Row.new W1 4 (bcells (ldrL l 0))).at_ hsz1, R1.out.alloc _, by rw [← hW1]; exact below2 _ _ _⟩)
  have HW1 := hide hW1
  have HS1 := hide hsz1
  clear hW1 hlen hsz1
  go_enter Try.func21, Try.ntmps21
  go_upto_region 1 with (fail)
  rw [HW1.out]
  have q0 := R1.out.cell (k := 0) rfl
  have q1 := R1.out.cell (k := 1) rfl
  have q2 := R1.out.cell (k := 2) rfl
  go_upto_region 2 with (fail)
  rw [HS1.out]
  obtain ⟨W2, hW2⟩ : ∃ W, W1.alloc (.cells (bcells (ldrL l 0)).toArray 4) = W := ⟨_, rfl⟩
  rw [hW2] at LD0 ⊢
  clear q0 q1 q2 hmk HW1 HS1 R1 hW2 hi hz0 hz1 hz2
  have q2 := LD0.out.2.1.cell (k := 2) rfl
  go_wp2_with fail
  clear q2
  go_loopw [14] (fun s wr => ∃ m : Nat, m ≤ n2 ∧ s = .int .i64 m ∧ Hid (LdR w P A1 n1 c1 A2 n2 c2 l m wr)) (fun s _ => n2 - (intOf s).toNat)
  case atStart => exact ⟨0, by omega, rfl, LD0⟩
  case round =>
    obtain ⟨m, hm, rfl, hR⟩ := hrel
    clear LD0
    by_cases hlt : m < n2
    · have hml : m < l.length := by have := HL.out; omega
      obtain ⟨x, hx⟩ : ∃ x, l[m]? = some x := ⟨_, List.getElem?_eq_getElem hml⟩
      have HX := hide hx
      have cg := fun (W : World) (hb : Below w.heap.size w W) => target_any P A1 n1 c1 A2 n2 c2 l m x W (hide (hC.out.below hb)) HX
      have ce := fun op W => endsb_any op W
      obtain ⟨t, ht⟩ : ∃ t, tgtX x = t := ⟨_, rfl⟩
      rw [ht] at cg
      have HT := hide ht
      have q0 := hR.out.2.1.cell (k := 0) rfl
      have q1 := hR.out.2.1.cell (k := 1) rfl
      have q2 := hR.out.2.1.cell (k := 2) rfl
      have hm0 : (0 : Int) ≤ (m : Int) := by omega
      have hmn : (m : Int) < (n2 : Int) := by omega
      have CG := hide cg
      clear hx ht hml cg
      obtain ⟨R3, hR3⟩ : ∃ R, (if ldrA l m = true then (ldrL l m).set m true else ldrL l m) = R := ⟨_, rfl⟩
      have HL3 := hide (show R3.length = n2 by rw [← hR3, ← HL.out]; split <;> simp [ldrL_len])
      have HST := hide (show ldrL l (m + 1) = mark R3 t by rw [ldrL_step HX.out, hR3, HT.out])
      have HR3 := hide hR3
      clear hR3
      rcases Nat.eq_zero_or_pos m with h0 | h0
      · have HA := hide (show ldrA l m = true by rw [h0]; rfl)
        have h00 : ((m : Int) == 0) = true := by rw [h0]; rfl
        have hz0 : (m : Int) = 0 := by omega
        clear h0 hz0 ce
        have z0 := hR.out.1.cell (bcells_at (ldrL_at (m := m) (k := m) (l := l) (by have := HL.out; omega)))
        have f0 := hR.out.1.free m
        go_upto_region 7 with (fail)
        obtain ⟨W3, hW3⟩ : ∃ W, wr.setCell ⟨w.heap.size + 1, m, none⟩ (.bool true) = W := ⟨_, rfl⟩
        have H3 := hide (show Row W3 (w.heap.size + 1) 4 (bcells R3) ∧ Row W3 w.heap.size 27 [.int .i64 P, .slice A1 n1 c1, .slice A2 n2 c2] ∧ Below w.heap.size w W3 by
          rw [← hW3, ← HR3.out, HA.out, if_pos rfl, ← bcells_set]
          exact ⟨hR.out.1.set_ m (.bool true), hR.out.2.1.far (p := ⟨w.heap.size + 1, m, none⟩) (by simp) _, hR.out.2.2.setCell (p := ⟨w.heap.size + 1, m, none⟩) (by simp) _⟩)
        rw [hW3]
        clear hW3 z0 f0 q0 q1 q2
        have q0 := H3.out.2.1.cell (k := 0) rfl
        have q1 := H3.out.2.1.cell (k := 1) rfl
        have q2 := H3.out.2.1.cell (k := 2) rfl
        go_wp2_with fail
        refine (CG.out W3 H3.out.2.2).mono ?_
        rintro e w5 ⟨rfl, hb5⟩
        have H5 := hide (show Row w5 (w.heap.size + 1) 4 (bcells R3) ∧ Row w5 w.heap.size 27 [.int .i64 P, .slice A1 n1 c1, .slice A2 n2 c2] ∧ Below w.heap.size w w5 from ⟨H3.out.1.call hb5, H3.out.2.1.call hb5, below_call H3.out.2.2 hb5⟩)
        clear hb5 q0 q1 q2 H3 CG
        cases hB : withB t (n2 : Int) with
        | false =>
          have HB := hide hB
          clear hB
          go_wp2_with fail
          go_roundw
          case rel => exact ⟨m + 1, by omega, by go_num, hide ⟨by rw [HST.out, mark_out _ HL3.out HB.out]; exact H5.out.1, H5.out.2⟩⟩
          case measure => simp [intOf]; omega
        | true =>
          obtain ⟨b0, b1⟩ := withB_true.1 hB
          obtain ⟨t', rfl⟩ : ∃ k : Nat, t = (k : Int) := ⟨t.toNat, by omega⟩
          have HB := hide hB
          have z0 := H5.out.1.cell (bcells_at (List.getElem?_eq_getElem (show t' < R3.length by have := HL3.out; omega)))
          have f0 := H5.out.1.free t'
          have HF := hide (show LdR w P A1 n1 c1 A2 n2 c2 l (m + 1) (w5.setCell ⟨w.heap.size + 1, t', none⟩ (.bool true)) from
            ⟨by rw [HST.out, mark_in _ HL3.out HB.out, Int.toNat_natCast, ← bcells_set]; exact H5.out.1.set_ t' (.bool true), H5.out.2.1.far (p := ⟨w.heap.size + 1, t', none⟩) (by simp) _, H5.out.2.2.setCell (p := ⟨w.heap.size + 1, t', none⟩) (by simp) _⟩)
          clear hB H5
          go_wp2_with fail
          go_roundw
          case rel => exact ⟨m + 1, by omega, by go_num, HF⟩
          case measure => simp [intOf]; omega

      · obtain ⟨j, rfl⟩ : ∃ j, m = j + 1 := ⟨m - 1, by omega⟩
        have hj : j < l.length := by have := HL.out; omega
        obtain ⟨b, off, rfl, hb, y0, -, -, -, -⟩ := ins_at (hC.out.below hR.out.2.2).see hj
        have HA := hide (show ldrA l (j + 1) = endB l[j].op by simp [ldrA, List.getElem?_eq_getElem hj])
        obtain ⟨op, hop⟩ : ∃ o, l[j].op = o := ⟨_, rfl⟩
        rw [hop] at y0 HA
        have hwj : IntKind.i64.wrap ((j : Int) + 1 - 1) = (j : Int) := by rw [IntKind.wrap_i64]; omega
        have hj0 : (0 : Int) ≤ (j : Int) := by omega
        have hjn : (j : Int) < (n2 : Int) := by omega
        have hne : ((j : Int) + 1 == 0) = false := by rw [beq_eq_false_iff_ne]; omega
        have ce := ce op
        clear hop hj h0
        cases hE : endB op with
        | true =>
          rw [hE] at ce HA
          clear hE
          go_wp2_with fail
          refine (ce _).mono ?_
          rintro e w' ⟨rfl, rfl⟩
          clear ce y0
          have z0 := hR.out.1.cell (bcells_at (ldrL_at (m := j + 1) (k := j + 1) (l := l) (by have := HL.out; omega)))
          have f0 := hR.out.1.free (j + 1)
          go_upto_region 7 with (fail)
          obtain ⟨W3, hW3⟩ : ∃ W, wr.setCell ⟨w.heap.size + 1, j + 1, none⟩ (.bool true) = W := ⟨_, rfl⟩
          have H3 := hide (show Row W3 (w.heap.size + 1) 4 (bcells R3) ∧ Row W3 w.heap.size 27 [.int .i64 P, .slice A1 n1 c1, .slice (some ⟨b, off, none⟩) n2 c2] ∧ Below w.heap.size w W3 by
            rw [← hW3, ← HR3.out, HA.out, if_pos rfl, ← bcells_set]
            exact ⟨hR.out.1.set_ (j + 1) (.bool true), hR.out.2.1.far (p := ⟨w.heap.size + 1, j + 1, none⟩) (by simp) _, hR.out.2.2.setCell (p := ⟨w.heap.size + 1, j + 1, none⟩) (by simp) _⟩)
          rw [hW3]
          clear hW3 z0 f0 q0 q1 q2
          have q0 := H3.out.2.1.cell (k := 0) rfl
          have q1 := H3.out.2.1.cell (k := 1) rfl
          have q2 := H3.out.2.1.cell (k := 2) rfl
          go_wp2_with fail
          refine (CG.out W3 H3.out.2.2).mono ?_
          rintro e w5 ⟨rfl, hb5⟩
          have H5 := hide (show Row w5 (w.heap.size + 1) 4 (bcells R3) ∧ Row w5 w.heap.size 27 [.int .i64 P, .slice A1 n1 c1, .slice (some ⟨b, off, none⟩) n2 c2] ∧ Below w.heap.size w w5 from ⟨H3.out.1.call hb5, H3.out.2.1.call hb5, below_call H3.out.2.2 hb5⟩)
          clear hb5 q0 q1 q2 H3 CG
          cases hB : withB t (n2 : Int) with
          | false =>
            have HB := hide hB
            clear hB
            go_wp2_with fail
            go_roundw
            case rel => exact ⟨j + 1 + 1, by omega, by go_num, hide ⟨by rw [HST.out, mark_out _ HL3.out HB.out]; exact H5.out.1, H5.out.2⟩⟩
            case measure => simp [intOf]; omega
          | true =>
            obtain ⟨b0, b1⟩ := withB_true.1 hB
            obtain ⟨t', rfl⟩ : ∃ k : Nat, t = (k : Int) := ⟨t.toNat, by omega⟩
            have HB := hide hB
            have z0 := H5.out.1.cell (bcells_at (List.getElem?_eq_getElem (show t' < R3.length by have := HL3.out; omega)))
            have f0 := H5.out.1.free t'
            have HF := hide (show LdR w P A1 n1 c1 (some ⟨b, off, none⟩) n2 c2 l (j + 1 + 1) (w5.setCell ⟨w.heap.size + 1, t', none⟩ (.bool true)) from
              ⟨by rw [HST.out, mark_in _ HL3.out HB.out, Int.toNat_natCast, ← bcells_set]; exact H5.out.1.set_ t' (.bool true), H5.out.2.1.far (p := ⟨w.heap.size + 1, t', none⟩) (by simp) _, H5.out.2.2.setCell (p := ⟨w.heap.size + 1, t', none⟩) (by simp) _⟩)
            clear hB H5
            go_wp2_with fail
            go_roundw
            case rel => exact ⟨j + 1 + 1, by omega, by go_num, HF⟩
            case measure => simp [intOf]; omega

        | false =>
          rw [hE] at ce HA
          clear hE
          go_wp2_with fail
          refine (ce _).mono ?_
          rintro e w' ⟨rfl, rfl⟩
          clear ce y0
          go_upto_region 7 with (fail)
          obtain ⟨W3, hW3⟩ : ∃ W, wr = W := ⟨_, rfl⟩
          have H3 := hide (show Row W3 (w.heap.size + 1) 4 (bcells R3) ∧ Row W3 w.heap.size 27 [.int .i64 P, .slice A1 n1 c1, .slice (some ⟨b, off, none⟩) n2 c2] ∧ Below w.heap.size w W3 by
            rw [← hW3, ← HR3.out, HA.out]
            exact hR.out)
          rw [hW3]
          clear hW3 q0 q1 q2
          have q0 := H3.out.2.1.cell (k := 0) rfl
          have q1 := H3.out.2.1.cell (k := 1) rfl
          have q2 := H3.out.2.1.cell (k := 2) rfl
          go_wp2_with fail
          refine (CG.out W3 H3.out.2.2).mono ?_
          rintro e w5 ⟨rfl, hb5⟩
          have H5 := hide (show Row w5 (w.heap.size + 1) 4 (bcells R3) ∧ Row w5 w.heap.size 27 [.int .i64 P, .slice A1 n1 c1, .slice (some ⟨b, off, none⟩) n2 c2] ∧ Below w.heap.size w w5 from ⟨H3.out.1.call hb5, H3.out.2.1.call hb5, below_call H3.out.2.2 hb5⟩)
          clear hb5 q0 q1 q2 H3 CG
          cases hB : withB t (n2 : Int) with
          | false =>
            have HB := hide hB
            clear hB
            go_wp2_with fail
            go_roundw
            case rel => exact ⟨j + 1 + 1, by omega, by go_num, hide ⟨by rw [HST.out, mark_out _ HL3.out HB.out]; exact H5.out.1, H5.out.2⟩⟩
            case measure => simp [intOf]; omega
          | true =>
            obtain ⟨b0, b1⟩ := withB_true.1 hB
            obtain ⟨t', rfl⟩ : ∃ k : Nat, t = (k : Int) := ⟨t.toNat, by omega⟩
            have HB := hide hB
            have z0 := H5.out.1.cell (bcells_at (List.getElem?_eq_getElem (show t' < R3.length by have := HL3.out; omega)))
            have f0 := H5.out.1.free t'
            have HF := hide (show LdR w P A1 n1 c1 (some ⟨b, off, none⟩) n2 c2 l (j + 1 + 1) (w5.setCell ⟨w.heap.size + 1, t', none⟩ (.bool true)) from
              ⟨by rw [HST.out, mark_in _ HL3.out HB.out, Int.toNat_natCast, ← bcells_set]; exact H5.out.1.set_ t' (.bool true), H5.out.2.1.far (p := ⟨w.heap.size + 1, t', none⟩) (by simp) _, H5.out.2.2.setCell (p := ⟨w.heap.size + 1, t', none⟩) (by simp) _⟩)
            clear hB H5
            go_wp2_with fail
            go_roundw
            case rel => exact ⟨j + 1 + 1, by omega, by go_num, HF⟩
            case measure => simp [intOf]; omega

    · obtain rfl : m = n2 := by omega
      go_wp2_with fail
      go_ret
      have e1 := ldrL_len l l.length
      rw [HL.out] at e1
      exact ⟨w.heap.size + 1, by rw [HL.out, e1]; rfl, by rw [HL.out]; exact hR.out.1, by omega, hR.out.2.2⟩
end Go.Proofs.Ytipjeihfhnilcab
end
