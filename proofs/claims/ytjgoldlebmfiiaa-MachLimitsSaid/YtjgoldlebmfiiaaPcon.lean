/-
  The contracts of slices.Index and slices.Contains at error codes. Conditions: those of the types.
-/
import Derived.Test.YtjgoldlebmfiiaaPmem
import Derived.Test.YtjgoldlebmfiiaaLeaf
import Derived.Outline
namespace Go.Proofs.Ytjgoldlebmfiiaa
open Go.RowKit

/-- Ints as cells. -/
def cellsE (zs : List Int) : List Value := zs.map (Value.int .i64)
theorem cellsE_length (zs : List Int) : (cellsE zs).length = zs.length := by simp [cellsE]
theorem err_at {w : World} {B : Nat} {A : Option Addr} {zs : List Int} {k : Nat} (h : Sees w B A (cellsE zs)) (hk : k < zs.length) : ∃ b off, A = some ⟨b, off, none⟩ ∧ b < B ∧ w.cell? ⟨b, off + k, none⟩ = some (.int .i64 zs[k]) :=
  h k (.int .i64 zs[k]) (by simp [cellsE, List.getElem?_map, List.getElem?_eq_getElem hk])
def IdxPost (zs : List Int) (x : Int) (w : World) (e : Ending) (w' : World) : Prop := ∃ i : Int, e = .returned (.int .i64 i) ∧ decide (0 ≤ i) = zs.contains x ∧ w = w'
set_option maxHeartbeats 400000 in
theorem eidx_any (A : Option Addr) (n c : Nat) (zs : List Int) (x : Int) (B : Nat) (w : World) (hn : Hid (zs.length = n)) (hm : n ≤ 4611686018427387904) (h : Hid (Sees w B A (cellsE zs))) :
    Calls Try.prog 74 #[.slice A n c, .int .i64 x] w (IdxPost zs x w) := by
  go_enter Try.func74, Try.ntmps74
  go_wp2_with fail
  go_loop [8] (fun i => ∃ k : Nat, k ≤ n ∧ i = .int .i64 k ∧ Hid (∀ j (hj : j < zs.length), j < k → zs[j] ≠ x)) (fun i => n - (intOf i).toNat)
  case atStart => exact ⟨0, by omega, rfl, hide fun j hj h => by omega⟩
  case round =>
    obtain ⟨k, hk, rfl, hno⟩ := hrel
    by_cases hlt : k < n
    · have hltz : (k : Int) < (n : Int) := by omega
      have hkz : (0 : Int) ≤ (k : Int) := by omega
      have hkl : k < zs.length := by have := hn.out; omega
      obtain ⟨b, off, rfl, _, c0⟩ := err_at h.out hkl
      have hit : Hid (zs[k] = x → zs.contains x = true) := hide fun e => by rw [List.contains_iff_mem]; exact e ▸ List.getElem_mem hkl
      obtain ⟨y, hy⟩ : ∃ y, zs[k] = y := ⟨_, rfl⟩
      rw [hy] at c0 hit
      have HY := hide hy
      clear hy
      by_cases hxy : x = y
      · subst hxy
        have hh := hide (hit.out rfl)
        go_wp2_with fail
        go_ret
        exact ⟨_, rfl, by rw [hh.out]; simp, rfl⟩
      · have hne : (x == y) = false := by simpa using hxy
        have hne' : Hid (y ≠ x) := hide fun e => hxy e.symm
        clear hxy hit
        go_wp2_with fail
        go_round
        case rel =>
          refine ⟨k + 1, by omega, by go_num, hide fun j hj hjk => ?_⟩
          by_cases e : j = k
          · subst e; rw [HY.out]; exact hne'.out
          · exact hno.out j hj (by omega)
        case measure => simp [intOf]; omega
    · obtain rfl : k = n := by omega
      have hh : Hid (zs.contains x = false) := hide (by
        rw [Bool.eq_false_iff, ne_eq, List.contains_iff_mem]
        intro hx
        obtain ⟨j, hj, e⟩ := List.mem_iff_getElem.1 hx
        exact hno.out j hj (by have := hn.out; omega) e)
      go_wp2_with fail
      go_ret
      exact ⟨_, rfl, by rw [hh.out]; rfl, rfl⟩
theorem econt_any (A : Option Addr) (n c : Nat) (zs : List Int) (x : Int) (B : Nat) (w : World) (hn : Hid (zs.length = n)) (hm : n ≤ 4611686018427387904) (h : Hid (Sees w B A (cellsE zs))) :
    Calls Try.prog 61 #[.slice A n c, .int .i64 x] w fun e w' => e = .returned (.bool (zs.contains x)) ∧ w = w' := by
  go_enter Try.func61, Try.ntmps61
  go_wp2_with fail
  refine (eidx_any A n c zs x B _ hn hm h).mono ?_
  rintro e w' ⟨i, rfl, hi, rfl⟩
  have HI := hide hi
  clear hi
  go_wp2_with fail
  go_ret
  exact ⟨ret_bool HI.out, rfl⟩
end Go.Proofs.Ytjgoldlebmfiiaa
