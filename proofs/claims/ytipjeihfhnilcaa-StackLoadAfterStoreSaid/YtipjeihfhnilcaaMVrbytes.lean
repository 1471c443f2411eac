import Derived.Test.YtipjeihfhnilcaaMKmm
import Derived.Test.YtipjeihfhnilcaaMVbytes
import Derived.Test.YtipjeihfhnilcaaMVrszo
set_option linter.unusedVariables false
set_option linter.unusedSimpArgs false
section
/-
  The contract of the reference's Bytes: the lowest bytes of a value, or none. Conditions: those of the types.
-/
namespace Go.Proofs.Ytipjeihfhnilcaa
open Go.RowKit

theorem one_byteB (x : Int) : ∀ u ∈ [Value.int .u8 x], u.oneCell' = true := by
  intro u hu
  simp only [List.mem_singleton] at hu
  subst hu
  rfl
theorem own_mono {w : World} {base base' : Nat} {e : TypeId} {size n : Nat} {v : Value} {xs : List Value} (h : w.ownsRow base e size v n xs) (hb : base' ≤ base) : w.ownsRow base' e size v n xs := by
  refine ⟨h.1, ?_⟩
  rcases h.2 with h2 | ⟨g, cap, cur, hv, hg, hr⟩
  · exact .inl h2
  · exact .inr ⟨g, cap, cur, hv, by omega, hr⟩
theorem Box.grown {w w' : World} {g V : Nat} {row : Option Nat} (h : Box w g V) (hb : w.grownBy w' row) (hg : some g ≠ row) : Box w' g V := (hb.block g h.lt hg).trans h

/-- What holds at the head of the loop. -/
def RBRel (w0 : World) (gx X m : Nat) (out i : Value) (wr : World) : Prop :=
  ∃ k : Nat, k ≤ m ∧ i = .int .i64 k ∧ Box wr gx X ∧ wr.ownsRow (w0.heap.size + 1) 5 1 out k (cellsU8 (bytesV X k)) ∧ Below w0.heap.size w0 wr
theorem RBRel.next {w0 : World} {gx X m : Nat} {out : Value} {wr : World} {k : Nat} {b : Int} (hk : k < m) (bx : Box wr gx X) (ho : wr.ownsRow (w0.heap.size + 1) 5 1 out (k + 1) (cellsU8 (bytesV X k) ++ [.int .u8 b])) (hb : Below w0.heap.size w0 wr) (e : b = byteOf X k) :
    RBRel w0 gx X m out (.int .i64 ((k : Int) + 1)) wr := by
  subst e
  refine ⟨k + 1, by omega, by go_num, bx, ?_, hb⟩
  simpa [bytesV, cellsU8] using ho

set_option maxRecDepth 100000 in
set_option maxHeartbeats 2000000 in
theorem rbytes_yes (X m : Nat) (w : World) (hX : X < two128) (hm : m ≤ 16) (hs : szB (m : Int) = true) :
    Calls Try.prog 48 #[vv X, .int .i64 m] w (BytesPost X m w) := by
  obtain ⟨i0, hi0, hz0, hz1, hz2⟩ := info_parts Try.binfo5
  obtain ⟨l0, l1⟩ := lo_b X
  obtain ⟨h0, h1⟩ := hi_b X
  go_enter Try.func48, Try.ntmps48
  go_wp2_with fail
  go_loopw [5, 6] (fun out i wr => RBRel w w.heap.size X m out i wr) (fun _ i _ => m - (intOf i).toNat)
  case atStart => exact ⟨0, by omega, rfl, Box.new w X, World.ownsRow_nil _ _ _ _, (Below.refl _ _).alloc (Nat.le_refl _) _⟩
  case round =>
    obtain ⟨k, hk, rfl, bx, hown, hb⟩ := hrel
    have hbs : w.heap.size ≤ wr.heap.size := hb.size
    by_cases hlt : k < m
    · have hg : decide ((k : Int) < (m : Int)) = true := by simpa using hlt
      go_wp2_with fail
      refine (rsz_any (m : Int) _).mono ?_
      rw [hs]
      rintro e w' ⟨rfl, rfl⟩
      obtain ⟨x0, x1, xz0, xz1⟩ := bx.facts
      have lx := bx.lt
      by_cases h8 : k < 8
      · skip
        go_wp2_with (at_builtin; refine wpList_append_own _ rfl (.tmp 18) (.tmp 25) 22 rfl (w.heap.size + 1) 5 i0 (.int .u8 0) 1 1 Try.underlying22 hi0 hz0 hz1 hz2 rfl (by decide) _ k (cellsU8 (bytesV X k)) rfl (hown.alloc _) ⟨wr.heap.size, 0, none⟩ 1 1 [.int .u8 (lo X / 2 ^ (8 * k) % 256)] rfl rfl (one_new _ _ _) (one_byteB _) (by unfold maxLen; omega) (by omega) (by simp; omega) ?_)
        intro v' w' hown' hg' _
        have hb' := below_append (hb.alloc hbs _) (hown.alloc _) (by omega) hg' (by simp; omega)
        have hR := RBRel.next hlt ((bx.alloc _).grown hg' (fun e => by have := (hown.lt _ e.symm).1; omega)) hown' hb' (byte_lo X k h8)
        clear hown' hb' hown hb hg' x0 x1 xz0 xz1
        go_wp2_with fail
        go_roundw
        case rel => exact hR
        case measure => simp [intOf]; omega
      · skip
        go_wp2_with (at_builtin; refine wpList_append_own _ rfl (.tmp 27) (.tmp 35) 22 rfl (w.heap.size + 1) 5 i0 (.int .u8 0) 1 1 Try.underlying22 hi0 hz0 hz1 hz2 rfl (by decide) _ k (cellsU8 (bytesV X k)) rfl (hown.alloc _) ⟨wr.heap.size, 0, none⟩ 1 1 [.int .u8 (hi X / 2 ^ (8 * (k - 8)) % 256)] rfl rfl (one_new _ _ _) (one_byteB _) (by unfold maxLen; omega) (by omega) (by simp; omega) ?_)
        intro v' w' hown' hg' _
        have hb' := below_append (hb.alloc hbs _) (hown.alloc _) (by omega) hg' (by simp; omega)
        have hR := RBRel.next hlt ((bx.alloc _).grown hg' (fun e => by have := (hown.lt _ e.symm).1; omega)) hown' hb' (byte_hi X k hX (by omega))
        clear hown' hb' hown hb hg' x0 x1 xz0 xz1
        go_wp2_with fail
        go_roundw
        case rel => exact hR
        case measure => simp [intOf]; omega
    · obtain rfl : k = m := by omega
      have hg : decide ((k : Int) < (k : Int)) = false := by simp
      go_wp2_with fail
      refine (rsz_any (k : Int) _).mono ?_
      rw [hs]
      rintro e w' ⟨rfl, rfl⟩
      go_wp2_with fail
      go_ret
      exact ⟨_, rfl, own_mono hown (by omega), hb⟩

set_option maxRecDepth 100000 in
set_option maxHeartbeats 1000000 in
theorem rbytes_no (X : Nat) (n : Int) (w : World) (hs : szB n = false) :
    Calls Try.prog 48 #[vv X, .int .i64 n] w (BytesPost X 0 w) := by
  go_enter Try.func48, Try.ntmps48
  go_wp2_with fail
  refine wp_loop_rounds 1 ?_
  rw [rounds_succ]
  go_wp2_with fail
  refine (rsz_any n _).mono ?_
  rw [hs]
  rintro e w' ⟨rfl, rfl⟩
  go_wp2_with fail
  go_ret
  exact ⟨_, rfl, World.ownsRow_nil _ _ _ _, (Below.refl _ _).alloc (Nat.le_refl _) _⟩

theorem rbytes_any (X : Nat) (n : Int) (w : World) (hX : X < two128) : Calls Try.prog 48 #[vv X, .int .i64 n] w (BytesPost X (szN n) w) := by
  by_cases h : szB n = true
  · have e := szN_yes h
    have := rbytes_yes X (szN n) w hX (szN_le n) (by rw [e]; exact h)
    rwa [e] at this
  · have h : szB n = false := by simpa using h
    rw [szN_no h]; exact rbytes_no X n w h
end Go.Proofs.Ytipjeihfhnilcaa
end
