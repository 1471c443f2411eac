/-
  The contract of slices.Clone at slices of intervals: a row of the call's own that holds the same intervals. Condition: at most 2^40 intervals.
-/
import Derived.Test.YtmfklggjcggoeaaEused
import Derived.Lib.SliceRun
import Derived.OwnWalk
namespace Go.Proofs.Ytmfklggjcggoeaa
open Go.RowKit

/-- An empty row that was just made. -/
theorem own_empty (w : World) (e : TypeId) (size : Nat) : (w.alloc (.cells #[] e)).ownsRow w.heap.size e size (.slice (some ⟨w.heap.size, 0, none⟩) 0 0) 0 [] :=
  ⟨by simp, .inr ⟨w.heap.size, 0, #[], rfl, Nat.le_refl _, heap_alloc_new w _, Nat.le_refl _, by unfold maxLen; omega, by simp, by simp⟩⟩

set_option maxHeartbeats 400000 in
theorem clone_any (A : Option Addr) (n c : Nat) (l : List (Int × Int)) (w : World) (hA : Hid (A = none → c = 0)) (hn : Hid (l.length = n)) (hnc : n ≤ c) (hm : n ≤ 1099511627776) (hs : Hid (Sees w w.heap.size A (pcells l))) :
    Calls Try.prog 43 #[.slice A n c] w fun e w' => ∃ (A2 : Option Addr) (c2 : Nat), e = .returned (.slice A2 n c2) ∧ w'.ownsRow w.heap.size 32 2 (.slice A2 n c2) n (pcells l) ∧ Below w.heap.size w w' := by
  have hq := fun w => Lib.run_eql_slice_nil (P := Try.prog) w 48 32 A n c 0 0 Try.underlying48
  cases A with
  | none =>
    obtain rfl : c = 0 := hA.out rfl
    obtain rfl : n = 0 := by omega
    have hl : l = [] := List.eq_nil_of_length_eq_zero hn.out
    subst hl
    go_enter Try.func43, Try.ntmps43
    go_wp2_with fail
    go_ret
    exact ⟨none, 0, rfl, ⟨by simp [pcells], .inl ⟨rfl, rfl⟩⟩, Below.refl _ _⟩
  | some ad =>
    obtain ⟨i0, hi, hz0, hz1, hz2⟩ := info_parts Try.info32
    have hsrc : ∀ (j : Nat) (u : Value), (pcells l)[j]? = some u → (w.alloc (.cells #[] 32)).cell? (ad.add j) = some u := by
      intro j u hu
      have hj : 0 < (pcells l).length := by
        rcases Nat.eq_zero_or_pos (pcells l).length with h0 | h0
        · rw [List.getElem?_eq_none (by omega)] at hu; simp at hu
        · exact h0
      obtain ⟨ad', he, hc⟩ := (hs.out.alloc (Nat.le_refl _) (.cells #[] 32)).src hj
      injection he with he
      subst he
      exact hc j u hu
    have HS := hide hsrc
    have hlen := hide (show (pcells l).length = n * 2 by rw [pcells_length, hn.out])
    clear hsrc hs
    go_enter Try.func43, Try.ntmps43
    go_wp2_with (at_builtin; refine wpList_append_own _ rfl (.tmp 5) (.tmp 6) 48 rfl w.heap.size 32 i0 (.agg #[.int .i64 0, .int .i64 0]) 2 16 Try.underlying48 hi hz0 hz1 hz2 rfl (by decide) _ 0 [] rfl (own_empty w _ 2) ad n c (pcells l) rfl hlen.out HS.out (pcells_oneCell l) (by unfold maxLen; omega) (by omega) (by simp) ?_)
    intro v' w2 ho2 hg2 _
    obtain ⟨A2, c2, rfl, _, _⟩ := own_form ho2
    have HO := hide ho2
    have hB := hide (below_append (below1 w (.cells #[] 32)) (own_empty w 32 2) (Nat.le_refl _) hg2 (by simp))
    clear ho2 hg2
    go_wp2_with fail
    go_ret
    exact ⟨A2, c2, rfl, HO.out, hB.out⟩
end Go.Proofs.Ytmfklggjcggoeaa
