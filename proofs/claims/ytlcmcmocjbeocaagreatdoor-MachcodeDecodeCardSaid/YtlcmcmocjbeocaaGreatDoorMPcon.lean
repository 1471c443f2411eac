import Derived.Test.YtlcmcmocjbeocaaGreatDoorMPmem
import Derived.Test.YtlcmcmocjbeocaaGreatDoorMBitsm
import Derived.Test.YtlcmcmocjbeocaaGreatDoorMEpow
import Derived.Test.YtlcmcmocjbeocaaGreatDoorMMops
import Derived.Outline
import Derived.Laws.AppendOwn
import Derived.Deep.RegionHeld3
import Derived.Deep.DrawnRows
set_option linter.unusedVariables false
set_option linter.unusedSimpArgs false
section
/-
  The contracts of slices.Index and slices.Contains at error codes. Conditions: those of the types.
-/
namespace Go.Proofs.YtlcmcmocjbeocaaGreatDoor
open Go.RowKit

/-- Ints as cells. -/
def cellsE (zs : List Int) : List Value := zs.map (Value.int .i64)
theorem cellsE_length (zs : List Int) : (cellsE zs).length = zs.length := by simp [cellsE]
theorem err_at {w : World} {B : Nat} {A : Option Addr} {zs : List Int} {k : Nat} (h : Sees w B A (cellsE zs)) (hk : k < zs.length) : ∃ b off, A = some ⟨b, off, none⟩ ∧ b < B ∧ w.cell? ⟨b, off + k, none⟩ = some (.int .i64 zs[k]) :=
  h k (.int .i64 zs[k]) (by simp [cellsE, List.getElem?_map, List.getElem?_eq_getElem hk])
def IdxPost (zs : List Int) (x : Int) (w : World) (e : Ending) (w' : World) : Prop := ∃ i : Int, e = .returned (.int .i64 i) ∧ decide (0 ≤ i) = zs.contains x ∧ w = w'
set_option maxHeartbeats 400000 in
theorem eidx_any (A : Option Addr) (n c : Nat) (zs : List Int) (x : Int) (B : Nat) (w : World) (hn : Hid (zs.length = n)) (hm : n ≤ 4611686018427387904) (h : Hid (Sees w B A (cellsE zs))) :
    Calls Tryz.prog 176 #[.slice A n c, .int .i64 x] w (IdxPost zs x w) := by
  go_enter Tryz.func176, Tryz.ntmps176
  go_wp2_with fail
  go_loop [8] (fun i => ∃ k : Nat, k ≤ n ∧ i = .int .i64 k ∧ Hid (∀ j (hj : j < zs.length), j < k → zs[j] ≠ x)) (fun i => n - (intOf i).toNat)
  case atStart => exact ⟨0, by omega, rfl, hide fun j hj h => by omega⟩
  case round =>
    obtain ⟨k, hk, rfl, hno⟩ := hrel
    by_cases hlt : k < n
    · have hltz : (k : Int) < (n : Int) := by omega
      have hkz : (0 : Int) ≤ (k : Int) := by omega
      have hkl : k < zs.length := by have := hn.out; omega
      obtain ⟨b, off, rfl, _, c0⟩ := err_at h.out hkl
      have hit : Hid (zs[k] = x → zs.contains x = true) := hide fun e => by rw [List.contains_iff_mem]; exact e ▸ List.getElem_mem hkl
      obtain ⟨y, hy⟩ : ∃ y, zs[k] = y := ⟨_, rfl⟩
      rw [hy] at c0 hit
      have HY := hide hy
      clear hy
      by_cases hxy : x = y
      · subst hxy
        have hh := hide (hit.out rfl)
        go_wp2_with fail
        go_ret
        exact ⟨_, rfl, by rw [hh.out]; simp, rfl⟩
      · have hne : (x == y) = false := by simpa using hxy
        have hne' : Hid (y ≠ x) := hide fun e => hxy e.symm
        clear hxy hit
        go_wp2_with fail
        go_round
        case rel =>
          refine ⟨k + 1, by omega, by go_num, hide fun j hj hjk => ?_⟩
          by_cases e : j = k
          · subst e; rw [HY.out]; exact hne'.out
          · exact hno.out j hj (by omega)
        case measure => simp [intOf]; omega
    · obtain rfl : k = n := by omega
      have hh : Hid (zs.contains x = false) := hide (by
        rw [Bool.eq_false_iff, ne_eq, List.contains_iff_mem]
        intro hx
        obtain ⟨j, hj, e⟩ := List.mem_iff_getElem.1 hx
        exact hno.out j hj (by have := hn.out; omega) e)
      go_wp2_with fail
      go_ret
      exact ⟨_, rfl, by rw [hh.out]; rfl, rfl⟩
theorem econt_any (A : Option Addr) (n c : Nat) (zs : List Int) (x : Int) (B : Nat) (w : World) (hn : Hid (zs.length = n)) (hm : n ≤ 4611686018427387904) (h : Hid (Sees w B A (cellsE zs))) :
    Calls Tryz.prog 153 #[.slice A n c, .int .i64 x] w fun e w' => e = .returned (.bool (zs.contains x)) ∧ w = w' := by
  go_enter Tryz.func153, Tryz.ntmps153
  go_wp2_with fail
  refine (eidx_any A n c zs x B _ hn hm h).mono ?_
  rintro e w' ⟨i, rfl, hi, rfl⟩
  have HI := hide hi
  clear hi
  go_wp2_with fail
  go_ret
  exact ⟨ret_bool HI.out, rfl⟩
end Go.Proofs.YtlcmcmocjbeocaaGreatDoor
end

section
/-
  Lists of error codes of a call's own. No function of the program is named here.
-/
namespace Go.Proofs.YtlcmcmocjbeocaaGreatDoor
open Go.RowKit

theorem Tryz.info41 : (Tryz.prog.info? 41).map (fun i => (i.zero, i.size, i.bytes)) = some (some (.int .i64 0), 1, 8) := by kernel_rfl
/-- A list of error codes of the call's own. -/
def ErrsPost (zs : List Int) (w : World) (e : Ending) (w' : World) : Prop := ∃ (A : Option Addr) (c : Nat), e = .returned (.slice A zs.length c) ∧ Sees w' w'.heap.size A (cellsE zs) ∧ Below w.heap.size w w'
theorem three_new (w : World) (x y z : Value) (t : TypeId) (B : Nat) (hB : B ≤ w.heap.size) : (w.alloc (.cells #[x, y, z] t)).ownsRow B t 1 (.slice (some ⟨w.heap.size, 0, none⟩) 3 3) 3 [x, y, z] :=
  ⟨rfl, .inr ⟨w.heap.size, 3, #[x, y, z], rfl, hB, heap_alloc_new w _, by omega, by unfold maxLen; omega, rfl, rfl⟩⟩
theorem own_sees {w : World} {B : Nat} {t : TypeId} {v : Value} {n : Nat} {xs : List Value} (h : w.ownsRow B t 1 v n xs) : ∃ A c, v = .slice A n c ∧ Sees w w.heap.size A xs := by
  obtain ⟨A, c, rfl, _, _⟩ := own_form h
  exact ⟨A, c, rfl, Sees.own h⟩

theorem sees_grown (w : World) (xs : List Value) (t : TypeId) (r : Array Value) {k : Nat} (hk : k = w.heap.size) : Sees (w.alloc (.cells (xs.toArray ++ r) t)).drew (w.alloc (.cells (xs.toArray ++ r) t)).drew.heap.size (some ⟨k, 0, none⟩) xs := fun j u hj => by
  subst hk
  refine ⟨w.heap.size, 0, rfl, by show w.heap.size < (w.alloc _).heap.size; simp, ?_⟩
  show (w.alloc (.cells (xs.toArray ++ r) t)).cell? _ = _
  have h := (Row.new w t (xs ++ r.toList)).cell (k := 0 + j) (v := u) (by
    rw [Nat.zero_add]
    have hl : j < xs.length := by
      rcases Nat.lt_or_ge j xs.length with h1 | h1
      · exact h1
      · rw [List.getElem?_eq_none h1] at hj; cases hj
    rw [List.getElem?_append_left hl]; exact hj)
  have e : (xs ++ r.toList).toArray = xs.toArray ++ r := by simp
  rw [e] at h
  exact h
end Go.Proofs.YtlcmcmocjbeocaaGreatDoor
end

section
/-
  The contract of mach's method operandErrors: what is wrong with the operands of an instruction. Condition: the operation is one of the 25.
-/
namespace Go.Proofs.YtlcmcmocjbeocaaGreatDoor
open Go.RowKit

set_option maxRecDepth 100000 in
set_option maxHeartbeats 2000000 in
theorem operrm_any (P S : Int) (A : Option Addr) (n cp : Nat) (N : Int) (o a b d m : Int) (w : World) (h0 : 0 ≤ o) (h1 : o < 25) :
    Calls Tryz.prog 169 #[xv P S A n cp N, iv o a b d m] w (ErrsPost (mfound N n ⟨o, a, b, d, m⟩) w) := by
  have HF := hide (show mfound N n ⟨o, a, b, d, m⟩ = foundE (mopE N n (mshpOf o).1 a) (mopE N n (mshpOf o).2.1 b) (mopE N n (mshpOf o).2.2.1 d) (mshpOf o).2.2.2 m from rfl)
  rw [HF.out]
  clear HF
  obtain ⟨W2, hW2, hb2, hs2, r0, r1⟩ := boxes2q w [.int .i64 P, .int .i64 S, .slice A n cp, .int .i64 N] [.int .i64 o, .int .i64 a, .int .i64 b, .int .i64 d, .int .u64 m] 187 64
  have co := opsof_any o W2 h0 h1
  obtain ⟨k, hk⟩ : ∃ k, mshpOf o = k := ⟨_, rfl⟩
  rw [hk] at co ⊢
  obtain ⟨k1, k2, k3, im⟩ := k
  clear hk
  have HW2 := hide hW2
  have HB2 := hide hb2
  have HS2 := hide hs2
  have R0 := hide r0
  have R1 := hide r1
  have z0 := r1.cell (k := 0) rfl
  clear hW2 hb2 hs2 r0 r1
  go_enter Tryz.func169, Tryz.ntmps169
  go_upto_region 1 with (fail)
  rw [HW2.out]
  clear HW2
  go_upto_region 2 with (go_at_call 172; refine co.mono ?_; rintro e W3 ⟨rfl, hb3⟩)
  obtain ⟨W, hW⟩ : ∃ V, W3.alloc (.cells #[.int .i64 k1, .int .i64 k2, .int .i64 k3, .bool im] 216) = V := ⟨_, rfl⟩
  have r0 : Row W w.heap.size 187 [.int .i64 P, .int .i64 S, .slice A n cp, .int .i64 N] := by rw [← hW]; exact (R0.out.call hb3).alloc _
  have r1 : Row W (w.heap.size + 1) 64 [.int .i64 o, .int .i64 a, .int .i64 b, .int .i64 d, .int .u64 m] := by rw [← hW]; exact (R1.out.call hb3).alloc _
  have r3 : Row W W3.heap.size 216 [.int .i64 k1, .int .i64 k2, .int .i64 k3, .bool im] := by rw [← hW]; exact Row.new W3 _ _
  have HB := hide (show Below w.heap.size w W by rw [← hW]; have h := below_call HB2.out hb3; exact h.alloc h.size _)
  rw [hW]
  obtain ⟨g, hg⟩ : ∃ g, W3.heap.size = g := ⟨_, rfl⟩
  rw [hg] at r3 ⊢
  have x0 := r0.cell (k := 0) rfl
  have x1 := r0.cell (k := 1) rfl
  have x2 := r0.cell (k := 2) rfl
  have x3 := r0.cell (k := 3) rfl
  have z1 := r1.cell (k := 1) rfl
  have z2 := r1.cell (k := 2) rfl
  have z3 := r1.cell (k := 3) rfl
  have z4 := r1.cell (k := 4) rfl
  have u0 := r3.cell (k := 0) rfl
  have u1 := r3.cell (k := 1) rfl
  have u2 := r3.cell (k := 2) rfl
  have u3 := r3.cell (k := 3) rfl
  have c' := fun k x W => chkopm_any P S A n cp N k x W
  have C := hide c'
  clear c' co z0 hb3 R0 R1 HB2 HS2 hW hg r0 r1 r3
  go_region_held3 (fun w' => w'.cell? ⟨w.heap.size, 0, none⟩ = some (.int .i64 P) ∧ w'.cell? ⟨w.heap.size, 1, none⟩ = some (.int .i64 S) ∧ w'.cell? ⟨w.heap.size, 2, none⟩ = some (.slice A n cp) ∧ w'.cell? ⟨w.heap.size, 3, none⟩ = some (.int .i64 N) ∧
      w'.cell? ⟨w.heap.size + 1, 1, none⟩ = some (.int .i64 a) ∧ w'.cell? ⟨w.heap.size + 1, 2, none⟩ = some (.int .i64 b) ∧ w'.cell? ⟨w.heap.size + 1, 3, none⟩ = some (.int .i64 d) ∧ w'.cell? ⟨w.heap.size + 1, 4, none⟩ = some (.int .u64 m) ∧
      w'.cell? ⟨g, 0, none⟩ = some (.int .i64 k1) ∧ w'.cell? ⟨g, 1, none⟩ = some (.int .i64 k2) ∧ w'.cell? ⟨g, 2, none⟩ = some (.int .i64 k3) ∧ w'.cell? ⟨g, 3, none⟩ = some (.bool im))
    (first | go_keep | (refine ⟨keep_cellB hb1 ?_, keep_cellB hb1 ?_, keep_cellB hb1 ?_, keep_cellB hb1 ?_, keep_cellB hb1 ?_, keep_cellB hb1 ?_, keep_cellB hb1 ?_, keep_cellB hb1 ?_, keep_cellB hb1 ?_, keep_cellB hb1 ?_, keep_cellB hb1 ?_, keep_cellB hb1 ?_⟩ <;> go_keep))
    (first | (go_at_call 187; refine (C.out _ _ _).mono ?_; rintro e w2 ⟨rfl, hb1⟩))
  rename_i a1 a2 a3 a4 hh
  have hB4 : Below W.heap.size W w2 := (Below.refl W.heap.size W).drew.trans (below_call (below_call a2 a4) hb1)
  have hB0 := hide (HB.out.trans (hB4.mono HB.out.size))
  obtain ⟨-, -, -, -, -, -, -, hz4, -, -, -, hu3⟩ := hh
  have ho := three_new w2 (.int .i64 (mopE N n k1 a)) (.int .i64 (mopE N n k2 b)) (.int .i64 (mopE N n k3 d)) 41 w2.heap.size (Nat.le_refl _)
  have HO := hide ho
  clear hB4 a2 a4 hb1 x0 x1 x2 x3 z1 z2 z3 z4 u0 u1 u2 u3 C ho
  cases im with
  | true =>
    go_wp2_with fail
    go_ret
    exact ⟨some ⟨w2.heap.size, 0, none⟩, 3, rfl, Sees.own HO.out, hB0.out.alloc hB0.out.size _⟩
  | false =>
    by_cases hm : m = 0
    · subst hm
      go_wp2_with fail
      go_ret
      exact ⟨some ⟨w2.heap.size, 0, none⟩, 3, rfl, Sees.own HO.out, hB0.out.alloc hB0.out.size _⟩
    · have hne : (m != 0) = true := by simpa using hm
      have HF := hide (show foundE (mopE N n k1 a) (mopE N n k2 b) (mopE N n k3 d) false m = [mopE N n k1 a, mopE N n k2 b, mopE N n k3 d] ++ [2] by unfold foundE; rw [if_pos ⟨rfl, hm⟩])
      clear hm
      go_wp2_with fail
      go_ret
      unfold ErrsPost
      simp only
      rw [HF.out]
      refine ⟨some ⟨w2.heap.size + 1 + 1, 0, none⟩, _, rfl, sees_grown _ [_, _, _, _] _ _ ?_, ?_⟩
      · simp
      exact (((hB0.out.alloc hB0.out.size _).alloc (by have := hB0.out.size; simp; omega) _).alloc (by have := hB0.out.size; simp; omega) _).drew
end Go.Proofs.YtlcmcmocjbeocaaGreatDoor
end
