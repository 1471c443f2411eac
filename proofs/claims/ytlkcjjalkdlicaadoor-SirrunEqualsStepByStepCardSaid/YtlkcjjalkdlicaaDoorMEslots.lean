import Derived.Test.YtlkcjjalkdlicaaDoorMScont
import Derived.Test.YtlkcjjalkdlicaaDoorMKit
import Derived.Test.YtlkcjjalkdlicaaDoorMPmath
import Derived.Outline
set_option linter.unusedVariables false
set_option linter.unusedSimpArgs false
section
/-
  The contract of extent.Slots; what it and Align give. Conditions: those of the types; fewer than 2^62 slots.
-/
namespace Go.Proofs.YtlkcjjalkdlicaaDoor
open Go.RowKit

set_option maxHeartbeats 400000 in
theorem slots_any' (A : Option Addr) (n c : Nat) (l : List (Int × Int)) (w : World) (hn : Hid (l.length = n)) (hm : n ≤ 4611686018427387904) (hs : Hid (Sees w w.heap.size A (pcells l))) :
    Calls Tryd.prog 106 #[.slice A n c] w fun e w' => e = .returned (.int .i64 (slotsE l)) ∧ Below w.heap.size w w' := by
  by_cases h : n ≤ 512
  · have hc := scont_any A n c l w hn hm hs
    have he := hide (slotsE_few (l := l) (by have := hn.out; omega))
    obtain ⟨b, hb⟩ : ∃ b, l.any (fun u => !slotB u.1 u.2) = b := ⟨_, rfl⟩
    rw [hb] at hc he
    clear hb
    cases b with
    | true =>
      go_enter Tryd.func106, Tryd.ntmps106
      go_wp2_with fail
      refine hc.mono ?_
      rintro e w1 ⟨rfl, hb1⟩
      go_wp2_with fail
      go_ret
      exact ⟨ret_int (by rw [he.out]; rfl), hb1⟩
    | false =>
      go_enter Tryd.func106, Tryd.ntmps106
      go_wp2_with fail
      refine hc.mono ?_
      rintro e w1 ⟨rfl, hb1⟩
      go_wp2_with fail
      go_ret
      exact ⟨ret_int (by rw [he.out]; rfl), hb1⟩
  · have he := hide (slotsE_many (l := l) (by have := hn.out; omega))
    go_enter Tryd.func106, Tryd.ntmps106
    go_wp2_with fail
    go_ret
    exact ⟨ret_int he.out.symm, Below.refl _ _⟩

end Go.Proofs.YtlkcjjalkdlicaaDoor
end

section
/-
  The contract of sir.Terminator. No condition.
-/
namespace Go.Proofs.YtlkcjjalkdlicaaDoor
open Go.RowKit

theorem term_any (op : Int) (w : World) : Calls Tryd.prog 124 #[.int .i64 op] w fun e w' => e = .returned (.bool (termB op)) ∧ w = w' := by
  by_cases h1 : op = 20
  · subst h1
    go_enter Tryd.func124, Tryd.ntmps124
    go_wp2_with fail
    go_ret
    exact ⟨rfl, rfl⟩
  · by_cases h2 : op = 23
    · subst h2
      go_enter Tryd.func124, Tryd.ntmps124
      go_wp2_with fail
      go_ret
      exact ⟨rfl, rfl⟩
    · have b1 : (op == 20) = false := by simpa using h1
      have b2 : (op == 23) = false := by simpa using h2
      have e := hide (show termB op = (op == 24) by simp [termB, b1, b2])
      clear h1 h2
      go_enter Tryd.func124, Tryd.ntmps124
      go_wp2_with fail
      go_ret
      exact ⟨ret_bool e.out.symm, rfl⟩
end Go.Proofs.YtlkcjjalkdlicaaDoor
end

section
/-
  The contracts of slices.Index and slices.Contains at error codes. Conditions: those of the types.
-/
namespace Go.Proofs.YtlkcjjalkdlicaaDoor
open Go.RowKit

/-- Ints as cells. -/
def cellsE (zs : List Int) : List Value := zs.map (Value.int .i64)
theorem cellsE_length (zs : List Int) : (cellsE zs).length = zs.length := by simp [cellsE]
theorem err_at {w : World} {B : Nat} {A : Option Addr} {zs : List Int} {k : Nat} (h : Sees w B A (cellsE zs)) (hk : k < zs.length) : ∃ b off, A = some ⟨b, off, none⟩ ∧ b < B ∧ w.cell? ⟨b, off + k, none⟩ = some (.int .i64 zs[k]) :=
  h k (.int .i64 zs[k]) (by simp [cellsE, List.getElem?_map, List.getElem?_eq_getElem hk])
def IdxPost (zs : List Int) (x : Int) (w : World) (e : Ending) (w' : World) : Prop := ∃ i : Int, e = .returned (.int .i64 i) ∧ decide (0 ≤ i) = zs.contains x ∧ w = w'
set_option maxHeartbeats 400000 in
theorem eidx_any (A : Option Addr) (n c : Nat) (zs : List Int) (x : Int) (B : Nat) (w : World) (hn : Hid (zs.length = n)) (hm : n ≤ 4611686018427387904) (h : Hid (Sees w B A (cellsE zs))) :
    Calls Tryd.prog 139 #[.slice A n c, .int .i64 x] w (IdxPost zs x w) := by
  go_enter Tryd.func139, Tryd.ntmps139
  go_wp2_with fail
  go_loop [8] (fun i => ∃ k : Nat, k ≤ n ∧ i = .int .i64 k ∧ Hid (∀ j (hj : j < zs.length), j < k → zs[j] ≠ x)) (fun i => n - (intOf i).toNat)
  case atStart => exact ⟨0, by omega, rfl, hide fun j hj h => by omega⟩
  case round =>
    obtain ⟨k, hk, rfl, hno⟩ := hrel
    by_cases hlt : k < n
    · have hltz : (k : Int) < (n : Int) := by omega
      have hkz : (0 : Int) ≤ (k : Int) := by omega
      have hkl : k < zs.length := by have := hn.out; omega
      obtain ⟨b, off, rfl, _, c0⟩ := err_at h.out hkl
      have hit : Hid (zs[k] = x → zs.contains x = true) := hide fun e => by rw [List.contains_iff_mem]; exact e ▸ List.getElem_mem hkl
      obtain ⟨y, hy⟩ : ∃ y, zs[k] = y := ⟨_, rfl⟩
      rw [hy] at c0 hit
      have HY := hide hy
      clear hy
      by_cases hxy : x = y
      · subst hxy
        have hh := hide (hit.out rfl)
        go_wp2_with fail
        go_ret
        exact ⟨_, rfl, by rw [hh.out]; simp, rfl⟩
      · have hne : (x == y) = false := by simpa using hxy
        have hne' : Hid (y ≠ x) := hide fun e => hxy e.symm
        clear hxy hit
        go_wp2_with fail
        go_round
        case rel =>
          refine ⟨k + 1, by omega, by go_num, hide fun j hj hjk => ?_⟩
          by_cases e : j = k
          · subst e; rw [HY.out]; exact hne'.out
          · exact hno.out j hj (by omega)
        case measure => simp [intOf]; omega
    · obtain rfl : k = n := by omega
      have hh : Hid (zs.contains x = false) := hide (by
        rw [Bool.eq_false_iff, ne_eq, List.contains_iff_mem]
        intro hx
        obtain ⟨j, hj, e⟩ := List.mem_iff_getElem.1 hx
        exact hno.out j hj (by have := hn.out; omega) e)
      go_wp2_with fail
      go_ret
      exact ⟨_, rfl, by rw [hh.out]; rfl, rfl⟩
theorem econt_any (A : Option Addr) (n c : Nat) (zs : List Int) (x : Int) (B : Nat) (w : World) (hn : Hid (zs.length = n)) (hm : n ≤ 4611686018427387904) (h : Hid (Sees w B A (cellsE zs))) :
    Calls Tryd.prog 122 #[.slice A n c, .int .i64 x] w fun e w' => e = .returned (.bool (zs.contains x)) ∧ w = w' := by
  go_enter Tryd.func122, Tryd.ntmps122
  go_wp2_with fail
  refine (eidx_any A n c zs x B _ hn hm h).mono ?_
  rintro e w' ⟨i, rfl, hi, rfl⟩
  have HI := hide hi
  clear hi
  go_wp2_with fail
  go_ret
  exact ⟨ret_bool HI.out, rfl⟩
end Go.Proofs.YtlkcjjalkdlicaaDoor
end
