import Derived.Test.YtipjeihfhnilcaaMKmm
import Derived.Test.YtipjeihfhnilcaaMKmem
import Derived.Test.YtipjeihfhnilcaaMEins
import Derived.Test.YtipjeihfhnilcaaMVrszo
import Derived.Deep.RegionHeld3
import Derived.Deep.DrawnRows
set_option linter.unusedVariables false
set_option linter.unusedSimpArgs false
section
/-
  The contracts of the small functions of package stack: Check, used, fits, clone; slices.Index, Contains and Clone at truth values; the reference's Check, Copy, right, used. Conditions: those of the types; the stack is one for which Check is true.
-/
namespace Go.Proofs.Ytipjeihfhnilcaa
open Go.RowKit
attribute [local go_sem ↓] Go.wp_at_zero Go.wp_at_succ

/-- Check, of anything. -/
def ckB (n1 n2 : Nat) (p : Int) : Bool := decide (n1 = n2 ∧ n1 ≤ 1048576 ∧ 0 ≤ p ∧ p ≤ (n1 : Int))
theorem ckB_ok {S : Sk} (h : S.Ok) : ckB S.bs.length S.bs.length (S.sp : Int) = true := by
  simp only [ckB, decide_eq_true_eq]
  exact ⟨trivial, h.most, by omega, by have := h.sp; omega⟩

set_option maxHeartbeats 1000000 in
theorem check_stk (A1 : Option Addr) (n1 c1 : Nat) (A2 : Option Addr) (n2 c2 : Nat) (p : Int) (w : World) (h1 : n1 ≤ 9223372036854775807) (h2 : n2 ≤ 9223372036854775807) :
    Calls Try.prog 14 #[kv A1 n1 c1 A2 n2 c2 p] w fun e w' => e = .returned (.bool (ckB n1 n2 p)) ∧ Below w.heap.size w w' := by
  have f0 := (Row.new w 29 [.slice A1 n1 c1, .slice A2 n2 c2, .int .i64 p]).cell (k := 0) rfl
  have f1 := (Row.new w 29 [.slice A1 n1 c1, .slice A2 n2 c2, .int .i64 p]).cell (k := 1) rfl
  have f2 := (Row.new w 29 [.slice A1 n1 c1, .slice A2 n2 c2, .int .i64 p]).cell (k := 2) rfl
  go_enter Try.func14, Try.ntmps14
  by_cases e1 : n1 = n2
  · subst e1
    by_cases e2 : (n1 : Int) ≤ 1048576
    · by_cases e3 : 0 ≤ p
      · go_wp2_with fail
        go_ret
        exact ⟨ret_bool (by simp [ckB, e3]; omega), below1 _ _⟩
      · go_wp2_with fail
        go_ret
        exact ⟨ret_bool (by simp only [ckB]; symm; simp only [decide_eq_false_iff_not]; omega), below1 _ _⟩
    · go_wp2_with fail
      go_ret
      exact ⟨ret_bool (by simp only [ckB]; symm; simp only [decide_eq_false_iff_not]; omega), below1 _ _⟩
  · have e1' : ¬ ((n1 : Int) = (n2 : Int)) := by omega
    go_wp2_with fail
    go_ret
    exact ⟨ret_bool (by simp [ckB, e1]), below1 _ _⟩

set_option maxHeartbeats 1000000 in
theorem index_any (A : Option Addr) (n c : Nat) (bs : List Bool) (B : Nat) (w : World) (hn : Hid (bs.length = n)) (hm : n ≤ 1048576) (hs : Hid (Sees w B A (cellsB bs))) :
    Calls Try.prog 72 #[.slice A n c, .bool false] w fun e w' => (∃ v : Int, e = .returned (.int .i64 v) ∧ Hid (decide (0 ≤ v) = !(bs.all id))) ∧ w = w' := by
  go_enter Try.func72, Try.ntmps72
  go_wp2_with fail
  go_loop [8] (fun i => ∃ k : Nat, k ≤ n ∧ i = .int .i64 (k : Int) ∧ Hid (∀ j, j < k → bs[j]? = some true)) (fun i => n - (intOf i).toNat)
  case atStart => exact ⟨0, by omega, rfl, hide (fun j h => by omega)⟩
  case round =>
    obtain ⟨k, hk, rfl, hb⟩ := hrel
    by_cases hlt : k < n
    · have hlb : k < bs.length := by have := hn.out; omega
      obtain ⟨b, off, rfl, hbB, hcell⟩ := hs.out k (.bool bs[k]) (cellsB_at (List.getElem?_eq_getElem hlb))
      obtain ⟨z, hz⟩ : ∃ z, bs[k] = z := ⟨_, rfl⟩
      rw [hz] at hcell
      have hx : bs[k]? = some z := by rw [List.getElem?_eq_getElem hlb, hz]
      have HX := hide hx
      clear hz hx
      cases z with
      | true =>
        have hnext := hide (show ∀ j, j < k + 1 → bs[j]? = some true from fun j hj => by
          rcases Nat.lt_or_ge j k with h | h
          · exact hb.out j h
          · rw [show j = k by omega]; exact HX.out)
        go_wp2_with fail
        exact ⟨⟨k + 1, by omega, by go_num, hnext⟩, by simp [intOf]; omega⟩
      | false =>
        have hall : bs.all id = false := by
          rw [List.all_eq_false]
          exact ⟨false, List.mem_of_getElem? HX.out, by simp⟩
        have HA := hide hall
        clear hall
        go_wp2_with fail
        go_ret
        exact ⟨⟨_, rfl, hide (by rw [HA.out]; simp)⟩, rfl⟩
    · have hall : bs.all id = true := by
        rw [List.all_eq_true]
        intro x hx
        obtain ⟨j, hj, e⟩ := List.getElem_of_mem hx
        have := hb.out j (by have := hn.out; omega)
        rw [List.getElem?_eq_getElem hj, e] at this
        injection this
      have HA := hide hall
      clear hall
      go_wp2_with fail
      go_ret
      exact ⟨⟨_, rfl, hide (by rw [HA.out]; simp)⟩, rfl⟩
theorem contains_any (A : Option Addr) (n c : Nat) (bs : List Bool) (B : Nat) (w : World) (hn : Hid (bs.length = n)) (hm : n ≤ 1048576) (hs : Hid (Sees w B A (cellsB bs))) :
    Calls Try.prog 65 #[.slice A n c, .bool false] w fun e w' => e = .returned (.bool (!(bs.all id))) ∧ w = w' := by
  have ci := index_any A n c bs B w hn hm hs
  go_enter Try.func65, Try.ntmps65
  go_wp2_with fail
  refine ci.mono ?_
  rintro e w' ⟨⟨v, rfl, hv⟩, rfl⟩
  go_wp2_with fail
  go_ret
  exact ⟨ret_bool hv.out, rfl⟩
end Go.Proofs.Ytipjeihfhnilcaa
end
