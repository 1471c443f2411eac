import Derived.Test.YtipjeihfhnilcaaMVrfrom
set_option linter.unusedVariables false
set_option linter.unusedSimpArgs false
section
/-
  The contracts of FromBytes at the bytes of a value, on both sides, and of the reference's Truncate. Conditions: those of the types.
-/
namespace Go.Proofs.Ytipjeihfhnilcaa
open Go.RowKit

theorem own_form2 {w : World} {base : Nat} {e : TypeId} {size n : Nat} {v : Value} {xs : List Value} (h : w.ownsRow base e size v n xs) : ∃ A c, v = .slice A n c ∧ n ≤ c ∧ n ≤ maxLen := by
  rcases h.2 with ⟨rfl, rfl⟩ | ⟨g, cap, cur, rfl, _, _, hc, hm, _⟩
  · exact ⟨none, 0, rfl, by omega, by omega⟩
  · exact ⟨some ⟨g, 0, none⟩, cap, rfl, hc, by omega⟩
theorem back_val (X m : Nat) (hm : m ≤ 16) : valOf ((bytesV X m).take 16) = X % 2 ^ (8 * m) := by
  rw [List.take_of_length_le (by rw [bytesV_length]; exact hm), valOf_bytesV]

theorem from_own {base : Nat} {r : Value} {X m : Nat} {w : World} (hm : m ≤ 16) (h : w.ownsRow base 5 1 r m (cellsU8 (bytesV X m))) :
    Calls Try.prog 46 #[r] w fun e w' => e = .returned (vv (X % 2 ^ (8 * m))) ∧ Below w.heap.size w w' := by
  obtain ⟨A, c, rfl, hc, _⟩ := own_form2 h
  have := from_any A m c (bytesV X m) w.heap.size w (bytesV_length X m) hc (by omega) (Sees.own h) (Nat.le_refl _) (bytesV_mem X m)
  rwa [back_val X m hm] at this
theorem rfrom_own {base : Nat} {r : Value} {X m : Nat} {w : World} (hm : m ≤ 16) (h : w.ownsRow base 5 1 r m (cellsU8 (bytesV X m))) :
    Calls Try.prog 47 #[r] w fun e w' => e = .returned (vv (X % 2 ^ (8 * m))) ∧ Below w.heap.size w w' := by
  obtain ⟨A, c, rfl, hc, _⟩ := own_form2 h
  have := rfrom_any A m c (bytesV X m) w.heap.size w (bytesV_length X m) hc (by omega) (Sees.own h) (Nat.le_refl _) (bytesV_mem X m)
  rwa [back_val X m hm] at this
theorem bytes_at (X : Nat) (n : Int) (m : Nat) (hX : X < two128) (hm : m = szN n) : ∀ w, Calls Try.prog 48 #[vv X, .int .i64 n] w (BytesPost X m w) := by
  subst hm; exact fun w => rbytes_any X n w hX

set_option maxRecDepth 100000 in
set_option maxHeartbeats 1000000 in
theorem rtrunc_any (X : Nat) (n : Int) (w : World) (hX : X < two128) : Calls Try.prog 20 #[vv X, .int .i64 n] w fun e w' => e = .returned (vv (truncV X n)) ∧ Below w.heap.size w w' := by
  have hle := szN_le n
  have HV := hide (show X % 2 ^ (8 * szN n) = truncV X n from rfl)
  obtain ⟨m, hm⟩ : ∃ m, m = szN n := ⟨_, rfl⟩
  have hB := bytes_at X n m hX hm
  rw [← hm] at hle HV
  have HB := hide hB
  clear hB hm
  obtain ⟨V, hV⟩ : ∃ V, V = truncV X n := ⟨_, rfl⟩
  rw [← hV] at HV ⊢
  clear hV
  go_enter Try.func20, Try.ntmps20
  go_wp2_with fail
  refine (HB.out _).mono ?_
  rintro e w1 ⟨r, rfl, hown, hb1⟩
  have bx := ((Box.new w X).alloc (.cells #[.int .u64 0, .int .u64 0] 39)).call hb1
  have br := ((Box.new (w.alloc (.cells #[.int .u64 (lo X), .int .u64 (hi X)] 39)) 0).at_ (show _ = w.heap.size + 1 by simp)).call hb1
  have hb := below_call (below2 w _ _) hb1
  clear hb1
  go_wp2_with fail
  refine (rfrom_own hle hown).mono ?_
  rw [HV.out]
  rintro e w2 ⟨rfl, hb1⟩
  have br := br.call hb1
  have hb := below_call hb hb1
  clear hb1 hown bx
  obtain ⟨r0, r1, rz0, rz1⟩ := br.facts
  go_wp2_with fail
  clear r0 r1 rz0 rz1
  have br := br.set_ V
  have hb := below_set (g := w.heap.size + 1) hb (by omega) (.int .u64 (lo V)) (.int .u64 (hi V))
  obtain ⟨W9, hW9⟩ : ∃ W, W = (w2.setCell ⟨w.heap.size + 1, 0, none⟩ (.int .u64 (lo V))).setCell ⟨w.heap.size + 1, 1, none⟩ (.int .u64 (hi V)) := ⟨_, rfl⟩
  rw [← hW9] at br hb ⊢
  clear hW9
  obtain ⟨r0, r1, rz0, rz1⟩ := br.facts
  exact bodyPost_ret (v := vv V) (by simp [results, Try.results20, go_sem, r0, r1]) rfl ⟨rfl, hb⟩
end Go.Proofs.Ytipjeihfhnilcaa
end
