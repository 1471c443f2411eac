/-
  The contracts of sir.Align and of the reference's Align: the greatest alignment of a program's slots. Conditions: those of the types.
-/
import Derived.Test.YtlfifdpklmnmpaaPmem
import Derived.Test.YtlfifdpklmnmpaaEalign
namespace Go.Proofs.Ytlfifdpklmnmpaa
open Go.RowKit

/-- The greatest alignment of the first k functions. -/
def alP (F : Pg) (k : Nat) : Int := (F.take k).foldl (fun m f => max m (alignV f.slots)) 16
theorem alP_succ {F : Pg} {k : Nat} {f : Fn} (h : F[k]? = some f) : alP F (k + 1) = max (alP F k) (alignV f.slots) := by
  unfold alP
  rw [List.take_add_one, h, List.foldl_append]
  rfl

set_option maxHeartbeats 1000000 in
theorem palign_any (A : Option Addr) (n c : Nat) (hs : List Hd) (F : Pg) (lo B : Nat) (w : World) (H : Hid (PgAt w lo B A n c hs F)) (hB : B ≤ w.heap.size) :
    Calls Try.prog 11 #[gv A n c] w fun e w' => e = .returned (.int .i64 (alP F n)) ∧ Below w.heap.size w w' := by
  have hn := cap_le H.out.cap
  have HB1 := hide (below1 w (.cells #[.slice A n c] 24))
  go_enter Try.func11, Try.ntmps11
  go_wp2_with fail
  go_loopw [3, 9] (fun m i wr => ∃ (k : Nat) (x : Int), k ≤ n ∧ i = .int .i64 k ∧ m = .int .i64 x ∧ Hid (x = alP F k) ∧ Hid (Below w.heap.size w wr)) (fun _ i _ => n - (intOf i).toNat)
  case atStart => exact ⟨0, 16, by omega, rfl, rfl, hide rfl, HB1⟩
  case round =>
    obtain ⟨k, x, hk, rfl, rfl, hx, hb⟩ := hrel
    by_cases hlt : k < n
    · have hltz : (k : Int) < (n : Int) := by omega
      have hkz : (0 : Int) ≤ (k : Int) := by omega
      have G := H.out.below (hb.out.mono hB)
      obtain ⟨b, off, P, A1, n1, c1, A2, n2, c2, f, rfl, hbB, hf, _, hd, p0, p1, p2⟩ := fn_at G hlt
      have hbw : b < wr.heap.size := by have := hb.out.size; omega
      have hst := alP_succ hf
      rw [← hx.out] at hst
      have HST := hide hst
      have hwr := hb.out.size
      have ca : ∀ W, Below wr.heap.size wr W → Calls Try.prog 22 #[.slice A1 n1 c1] W fun e w' => e = .returned (.int .i64 (alignV f.slots)) ∧ Below W.heap.size W w' := fun W hW => align_any A1 n1 c1 f.slots W (hide hd.l1) (cap_le hd.k1) (hide ((hd.s1.below (hW.mono (Nat.le_trans hB hwr))).more (Nat.le_trans hB (Nat.le_trans hwr hW.size))))
      obtain ⟨y, hy⟩ : ∃ y, alignV f.slots = y := ⟨_, rfl⟩
      simp only [hy] at ca
      have HST2 := hide (hy ▸ HST.out)
      have CA := hide ca
      have HB := hb
      clear hst HST hy ca hd hf G hb
      go_wp2_with fail
      refine (CA.out _ (below1 _ _)).mono ?_
      rintro e w2 ⟨rfl, hb2⟩
      have HB2 := hide (below_call (HB.out.alloc HB.out.size (.cells #[.int .i64 P, .slice A1 n1 c1, .slice A2 n2 c2] 40)) hb2)
      clear hb2
      go_wp2_with fail
      all_goals
        go_roundw
        case rel => exact ⟨k + 1, _, by omega, by go_num, rfl, hide (by rw [HST2.out]; omega), HB2⟩
        case measure => simp [intOf]; omega
    · obtain rfl : k = n := by omega
      go_wp2_with fail
      go_ret
      exact ⟨ret_int (by rw [hx.out]), hb.out⟩

set_option maxHeartbeats 1000000 in
theorem rpalign_any (A : Option Addr) (n c : Nat) (hs : List Hd) (F : Pg) (lo B : Nat) (w : World) (H : Hid (PgAt w lo B A n c hs F)) (hB : B ≤ w.heap.size) :
    Calls Try.prog 12 #[gv A n c] w fun e w' => e = .returned (.int .i64 (alP F n)) ∧ Below w.heap.size w w' := by
  have hn := cap_le H.out.cap
  have HB1 := hide (below1 w (.cells #[.slice A n c] 24))
  have H1 := hide (H.out.below ((below1 w (.cells #[.slice A n c] 24)).mono hB))
  have HR := hide (Row.new w 24 [.slice A n c])
  obtain ⟨W, hW⟩ : ∃ W, w.alloc (.cells #[.slice A n c] 24) = W := ⟨_, rfl⟩
  rw [hW] at HB1 H1 HR
  have HW := hide hW
  clear hW
  have x0 := HR.out.cell (k := 0) rfl
  have hBW : B ≤ W.heap.size := Nat.le_trans hB HB1.out.size
  go_enter Try.func12, Try.ntmps12
  go_wp2_with fail
  rw [HW.out]
  go_loop [3, 4] (fun m i => ∃ (k : Nat) (x : Int), k ≤ n ∧ i = .int .i64 k ∧ m = .int .i64 x ∧ Hid (x = alP F k)) (fun _ i => n - (intOf i).toNat)
  case atStart => exact ⟨0, 16, by omega, rfl, rfl, hide rfl⟩
  case round =>
    obtain ⟨k, x, hk, rfl, rfl, hx⟩ := hrel
    by_cases hlt : k < n
    · have hltz : (k : Int) < (n : Int) := by omega
      have hkz : (0 : Int) ≤ (k : Int) := by omega
      obtain ⟨b, off, P, A1, n1, c1, A2, n2, c2, f, rfl, hbB, hf, _, hd, p0, p1, p2⟩ := fn_at H1.out hlt
      have hst := alP_succ hf
      rw [← hx.out] at hst
      have ca := ralign_any A1 n1 c1 f.slots B W (hide hd.l1) (cap_le hd.k1) (hide hd.s1)
      obtain ⟨y, hy⟩ : ∃ y, alignV f.slots = y := ⟨_, rfl⟩
      rw [hy] at ca hst
      have HST := hide hst
      have CA := hide ca
      clear hst hy ca hd hf
      go_wp2_with fail
      refine (CA.out).mono ?_
      rintro e w2 ⟨rfl, rfl⟩
      go_wp2_with fail
      all_goals
        go_round
        case rel => exact ⟨k + 1, _, by omega, by go_num, rfl, hide (by rw [HST.out]; omega)⟩
        case measure => simp [intOf]; omega
    · obtain rfl : k = n := by omega
      go_wp2_with fail
      go_ret
      exact ⟨ret_int (by rw [hx.out]), HB1.out⟩
end Go.Proofs.Ytlfifdpklmnmpaa
