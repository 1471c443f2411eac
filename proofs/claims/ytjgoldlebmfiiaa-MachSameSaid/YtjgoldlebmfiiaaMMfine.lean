import Derived.Test.YtjgoldlebmfiiaaMKb
import Derived.Test.YtjgoldlebmfiiaaMKa
import Derived.IntWalk
import Derived.Deep.QuietTactic
import Derived.BigQuiet
set_option linter.unusedVariables false
set_option linter.unusedSimpArgs false
section
/-
  The contract of spillframelaw10.fine: whether a target is small. Conditions: those of the types.
-/
namespace Go.Proofs.Ytjgoldlebmfiiaa
open Go.RowKit

/-- The sum that fine reckons, from s on. -/
def mfineV : Int → Tg → Int
  | s, [] => s
  | s, f :: r => if s ≤ 500 then mfineV (s + f.code.length) r else s
def mfineB (F : Tg) : Bool := decide (mfineV F.length F ≤ 500)
theorem mfineV_stop {s : Int} {l : Tg} (h : ¬ s ≤ 500) : mfineV s l = s := by cases l <;> simp [mfineV, h]
theorem mdrop_cons {F : Tg} {k : Nat} {f : Fm} (h : F[k]? = some f) : F.drop k = f :: F.drop (k + 1) := by
  have hk := (List.getElem?_eq_some_iff.1 h).1
  rw [List.drop_eq_getElem_cons hk]
  rw [List.getElem?_eq_getElem hk] at h
  injection h with h
  rw [h]

set_option maxHeartbeats 1000000 in
theorem mfine_any (Al : Int) (A : Option Addr) (n c : Nat) (hs : List Fd) (F : Tg) (lo B : Nat) (w : World) (H : Hid (TgAt w lo B A n c hs F)) (hB : B ≤ w.heap.size) :
    Calls Try.prog 17 #[tv Al A n c] w (BoolBelow (mfineB F) w) := by
  have hn := cap_le H.out.cap
  have HL := hide H.out.len
  have HB1 := hide (below1 w (.cells #[.int .i64 Al, .slice A n c] 39))
  have H1 := hide (H.out.below ((below1 w (.cells #[.int .i64 Al, .slice A n c] 39)).mono hB))
  have HR := hide (Row.new w 39 [.int .i64 Al, .slice A n c])
  obtain ⟨W, hW⟩ : ∃ W, w.alloc (.cells #[.int .i64 Al, .slice A n c] 39) = W := ⟨_, rfl⟩
  rw [hW] at HB1 H1 HR
  have HW := hide hW
  clear hW
  have x0 := HR.out.cell (k := 1) rfl
  obtain ⟨V, hV⟩ : ∃ V, mfineV F.length F = V := ⟨_, rfl⟩
  have HV := hide (show mfineB F = decide (V ≤ 500) by unfold mfineB; rw [hV])
  have HV0 := hide (show mfineV (n : Int) (F.drop 0) = V by rw [List.drop_zero, ← HL.out]; exact hV)
  clear hV
  go_enter Try.func17, Try.ntmps17
  go_wp2_with fail
  rw [HW.out]
  go_loopw [3, 4] (fun m i wr => ∃ (k : Nat) (x : Int) (q : Nat), k ≤ n ∧ i = .int .i64 k ∧ m = .int .i64 x ∧ 0 ≤ x ∧ x ≤ 18446744073709551615 ∧ Hid (mfineV x (F.drop k) = V) ∧ wr = W.drewN q) (fun _ i _ => n - (intOf i).toNat)
  case atStart => exact ⟨0, n, 0, by omega, rfl, rfl, by omega, by omega, HV0, rfl⟩
  case round =>
    obtain ⟨k, x, q, hk, rfl, rfl, hx0, hx1, hx, rfl⟩ := hrel
    by_cases hsm : x ≤ 500
    · by_cases hlt : k < n
      · have hltz : (k : Int) < (n : Int) := by omega
        have hkz : (0 : Int) ≤ (k : Int) := by omega
        obtain ⟨b, off, P, S, A2, n2, c2, f, rfl, hbB, hf, _, hd, p0, p1, p2⟩ := fm_at H1.out hlt
        have l2 : f.code.length = n2 := hd.l
        have b2 : n2 ≤ 8796093022208 := hd.k.2.2
        have hst : mfineV (x + (n2 : Int)) (F.drop (k + 1)) = V := by
          rw [← hx.out, mdrop_cons hf]
          simp only [mfineV]
          rw [if_pos hsm, l2]
        have HST := hide hst
        have e2 : IntKind.i64.wrap (x + (n2 : Int)) = x + (n2 : Int) := IntWalk.i64_in _ (by omega)
        clear hst l2 hd hf
        go_wp2_with fail
        go_roundw
        case rel => exact ⟨k + 1, _, _, by omega, by go_num, rfl, by omega, by omega, HST, rfl⟩
        case measure => simp [intOf]; omega
      · obtain rfl : k = n := by omega
        have hfin := hide (show x = V by
          have := hx.out
          rw [List.drop_of_length_le (by have := HL.out; omega)] at this
          exact this)
        go_wp2_with fail
        go_ret
        exact ⟨ret_bool (by rw [HV.out, ← hfin.out]; exact (decide_eq_true hsm).symm), drewN_below HB1.out _⟩
    · have hfin := hide (show x = V by have := hx.out; rw [mfineV_stop hsm] at this; exact this)
      by_cases hlt : k < n
      · have hltz : (k : Int) < (n : Int) := by omega
        go_wp2_with fail
        go_ret
        exact ⟨ret_bool (by rw [HV.out, ← hfin.out]; exact (decide_eq_false (by omega)).symm), drewN_below HB1.out _⟩
      · obtain rfl : k = n := by omega
        go_wp2_with fail
        go_ret
        exact ⟨ret_bool (by rw [HV.out, ← hfin.out]; exact (decide_eq_false (by omega)).symm), drewN_below HB1.out _⟩
end Go.Proofs.Ytjgoldlebmfiiaa
end
