/-
  The contract of spillframelaw05.fine: whether a program is small. Conditions: those of the types.
-/
import Derived.Test.YtlfifdpklmnmpaaPmem
import Derived.Test.YtlfifdpklmnmpaaLeaf
import Derived.IntWalk
import Derived.Deep.QuietTactic
import Derived.BigQuiet
namespace Go.Proofs.Ytlfifdpklmnmpaa
open Go.RowKit

/-- The sum that fine reckons, from s on. -/
def fineV : Int → Pg → Int
  | s, [] => s
  | s, f :: r => if s ≤ 500 then fineV (s + (f.code.length + f.slots.length)) r else s
def fineB (F : Pg) : Bool := decide (fineV F.length F ≤ 500)
theorem fineV_stop {s : Int} {l : Pg} (h : ¬ s ≤ 500) : fineV s l = s := by cases l <;> simp [fineV, h]
theorem drop_cons {F : Pg} {k : Nat} {f : Fn} (h : F[k]? = some f) : F.drop k = f :: F.drop (k + 1) := by
  have hk := (List.getElem?_eq_some_iff.1 h).1
  rw [List.drop_eq_getElem_cons hk]
  rw [List.getElem?_eq_getElem hk] at h
  injection h with h
  rw [h]

set_option maxHeartbeats 1000000 in
theorem fine_any (A : Option Addr) (n c : Nat) (hs : List Hd) (F : Pg) (lo B : Nat) (w : World) (H : Hid (PgAt w lo B A n c hs F)) (hB : B ≤ w.heap.size) :
    Calls Try.prog 5 #[gv A n c] w (BoolBelow (fineB F) w) := by
  have hn := cap_le H.out.cap
  have HL := hide H.out.len
  have HB1 := hide (below1 w (.cells #[.slice A n c] 24))
  have H1 := hide (H.out.below ((below1 w (.cells #[.slice A n c] 24)).mono hB))
  have HR := hide (Row.new w 24 [.slice A n c])
  obtain ⟨W, hW⟩ : ∃ W, w.alloc (.cells #[.slice A n c] 24) = W := ⟨_, rfl⟩
  rw [hW] at HB1 H1 HR
  have HW := hide hW
  clear hW
  have x0 := HR.out.cell (k := 0) rfl
  obtain ⟨V, hV⟩ : ∃ V, fineV F.length F = V := ⟨_, rfl⟩
  have HV := hide (show fineB F = decide (V ≤ 500) by unfold fineB; rw [hV])
  have HV0 := hide (show fineV (n : Int) (F.drop 0) = V by rw [List.drop_zero, ← HL.out]; exact hV)
  clear hV
  go_enter Try.func5, Try.ntmps5
  go_wp2_with fail
  rw [HW.out]
  go_loopw [3, 4] (fun m i wr => ∃ (k : Nat) (x : Int) (q : Nat), k ≤ n ∧ i = .int .i64 k ∧ m = .int .i64 x ∧ 0 ≤ x ∧ x ≤ 18446744073709551615 ∧ Hid (fineV x (F.drop k) = V) ∧ wr = W.drewN q) (fun _ i _ => n - (intOf i).toNat)
  case atStart => exact ⟨0, n, 0, by omega, rfl, rfl, by omega, by omega, HV0, rfl⟩
  case round =>
    obtain ⟨k, x, q, hk, rfl, rfl, hx0, hx1, hx, rfl⟩ := hrel
    by_cases hsm : x ≤ 500
    · by_cases hlt : k < n
      · have hltz : (k : Int) < (n : Int) := by omega
        have hkz : (0 : Int) ≤ (k : Int) := by omega
        obtain ⟨b, off, P, A1, n1, c1, A2, n2, c2, f, rfl, hbB, hf, _, hd, p0, p1, p2⟩ := fn_at H1.out hlt
        have l1 : f.slots.length = n1 := hd.l1
        have l2 : f.code.length = n2 := hd.l2
        have b1 : n1 ≤ 8796093022208 := hd.k1.2.2
        have b2 : n2 ≤ 8796093022208 := hd.k2.2.2
        have hst : fineV (x + ((n2 : Int) + (n1 : Int))) (F.drop (k + 1)) = V := by
          rw [← hx.out, drop_cons hf]
          simp only [fineV]
          rw [if_pos hsm, l1, l2]
        have HST := hide hst
        have e1 : IntKind.i64.wrap ((n2 : Int) + (n1 : Int)) = (n2 : Int) + (n1 : Int) := IntWalk.i64_in _ (by omega)
        have e2 : IntKind.i64.wrap (x + ((n2 : Int) + (n1 : Int))) = x + ((n2 : Int) + (n1 : Int)) := IntWalk.i64_in _ (by omega)
        clear hst l1 l2 hd hf
        go_wp2_with fail
        go_quiet (fail)
        clear e1 e2
        go_wp2_with fail
        go_roundw
        case rel => exact ⟨k + 1, _, _, by omega, by go_num, rfl, by omega, by omega, HST, rfl⟩
        case measure => simp [intOf]; omega
      · obtain rfl : k = n := by omega
        have hfin := hide (show x = V by
          have := hx.out
          rw [List.drop_of_length_le (by have := HL.out; omega)] at this
          exact this)
        go_wp2_with fail
        go_ret
        exact ⟨ret_bool (by rw [HV.out, ← hfin.out]; exact (decide_eq_true hsm).symm), drewN_below HB1.out _⟩
    · have hfin := hide (show x = V by have := hx.out; rw [fineV_stop hsm] at this; exact this)
      by_cases hlt : k < n
      · have hltz : (k : Int) < (n : Int) := by omega
        go_wp2_with fail
        go_ret
        exact ⟨ret_bool (by rw [HV.out, ← hfin.out]; exact (decide_eq_false (by omega)).symm), drewN_below HB1.out _⟩
      · obtain rfl : k = n := by omega
        go_wp2_with fail
        go_ret
        exact ⟨ret_bool (by rw [HV.out, ← hfin.out]; exact (decide_eq_false (by omega)).symm), drewN_below HB1.out _⟩
end Go.Proofs.Ytlfifdpklmnmpaa
