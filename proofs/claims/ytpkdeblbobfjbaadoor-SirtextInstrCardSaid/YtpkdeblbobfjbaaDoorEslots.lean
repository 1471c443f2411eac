/-
  The contract of extent.Slots; what it and Align give. Conditions: those of the types; fewer than 2^62 slots.
-/
import Derived.Test.YtpkdeblbobfjbaaDoorScont
namespace Go.Proofs.YtpkdeblbobfjbaaDoor
open Go.RowKit

/-- The error of a list of slots. -/
def slotsE (l : List (Int × Int)) : Int := if 512 < l.length then 3 else if l.any (fun u => !slotB u.1 u.2) then 5 else 0
theorem slotsE_many {l : List (Int × Int)} (h : 512 < l.length) : slotsE l = 3 := by simp [slotsE, h]
theorem slotsE_few {l : List (Int × Int)} (h : l.length ≤ 512) : slotsE l = if l.any (fun u => !slotB u.1 u.2) then 5 else 0 := by simp only [slotsE]; rw [if_neg (by omega)]
/-- The greatest alignment of the first k slots, at least 16. -/
def alM (l : List (Int × Int)) (k : Nat) : Int := (l.take k).foldl (fun m u => max m u.2) 16
theorem alM_zero (l : List (Int × Int)) : alM l 0 = 16 := rfl
theorem alM_succ (l : List (Int × Int)) (k : Nat) (hk : k < l.length) : alM l (k + 1) = max (alM l k) l[k].2 := by
  unfold alM
  rw [List.take_add_one, List.getElem?_eq_getElem hk, List.foldl_append]
  rfl
/-- What Align gives. -/
def alignV (l : List (Int × Int)) : Int := if slotsE l = 0 then alM l l.length else 16

set_option maxHeartbeats 400000 in
theorem slots_any' (A : Option Addr) (n c : Nat) (l : List (Int × Int)) (w : World) (hn : Hid (l.length = n)) (hm : n ≤ 4611686018427387904) (hs : Hid (Sees w w.heap.size A (pcells l))) :
    Calls Tryd.prog 50 #[.slice A n c] w fun e w' => e = .returned (.int .i64 (slotsE l)) ∧ Below w.heap.size w w' := by
  by_cases h : n ≤ 512
  · have hc := scont_any A n c l w hn hm hs
    have he := hide (slotsE_few (l := l) (by have := hn.out; omega))
    obtain ⟨b, hb⟩ : ∃ b, l.any (fun u => !slotB u.1 u.2) = b := ⟨_, rfl⟩
    rw [hb] at hc he
    clear hb
    cases b with
    | true =>
      go_enter Tryd.func50, Tryd.ntmps50
      go_wp2_with fail
      refine hc.mono ?_
      rintro e w1 ⟨rfl, hb1⟩
      go_wp2_with fail
      go_ret
      exact ⟨ret_int (by rw [he.out]; rfl), hb1⟩
    | false =>
      go_enter Tryd.func50, Tryd.ntmps50
      go_wp2_with fail
      refine hc.mono ?_
      rintro e w1 ⟨rfl, hb1⟩
      go_wp2_with fail
      go_ret
      exact ⟨ret_int (by rw [he.out]; rfl), hb1⟩
  · have he := hide (slotsE_many (l := l) (by have := hn.out; omega))
    go_enter Tryd.func50, Tryd.ntmps50
    go_wp2_with fail
    go_ret
    exact ⟨ret_int he.out.symm, Below.refl _ _⟩

theorem slotsE_cases (l : List (Int × Int)) : slotsE l = 0 ∨ slotsE l = 3 ∨ slotsE l = 5 := by unfold slotsE; split <;> (try split) <;> simp

end Go.Proofs.YtpkdeblbobfjbaaDoor
