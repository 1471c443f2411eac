import Derived.Test.YtipjeihfhnilcaaDoorMVbox
import Derived.Test.YtipjeihfhnilcaaDoorMVbits
import Derived.Test.YtipjeihfhnilcaaDoorMKit
import Derived.Deep.DeepFit
import Derived.Deep.DeepCutAuto
import Derived.BigQuiet
import Derived.Outline
set_option linter.unusedVariables false
set_option linter.unusedSimpArgs false
section
/-
  The contracts of slices.Equal at values, of the reference's SameTrace, and of Same and Ends on both sides. Conditions: those of the types; every value is one of 128 bits.
-/
namespace Go.Proofs.YtipjeihfhnilcaaDoor
open Go.RowKit

/-- A trace in memory. -/
structure TrAt (w : World) (B : Nat) (A : Option Addr) (n c : Nat) (l : List Nat) : Prop where
  len : l.length = n
  cap : n ≤ c
  most : n ≤ 9223372036854775807
  nil_ : A = none → c = 0
  see : Sees w B A (vcells l)
  lt : ∀ v ∈ l, v < two128
theorem TrAt.keep {w w' : World} {B n c : Nat} {A : Option Addr} {l : List Nat} (h : TrAt w B A n c l) (hk : ∀ p : Addr, p.block < B → w'.cell? p = w.cell? p) : TrAt w' B A n c l := ⟨h.len, h.cap, h.most, h.nil_, h.see.keep hk, h.lt⟩
theorem TrAt.below {w w' : World} {B n c : Nat} {A : Option Addr} {l : List Nat} (h : TrAt w B A n c l) (hb : Below B w w') : TrAt w' B A n c l := h.keep fun _ hp => hb.cell hp
theorem TrAt.call {w w' : World} {n c : Nat} {A : Option Addr} {l : List Nat} (h : TrAt w w.heap.size A n c l) (hb : Below w.heap.size w w') : TrAt w' w'.heap.size A n c l := ⟨h.len, h.cap, h.most, h.nil_, (h.see.below hb).more hb.size, h.lt⟩
theorem vcells_two (l : List Nat) (k V : Nat) (h : l[k]? = some V) : (vcells l)[k * 2]? = some (.int .u64 (lo V)) ∧ (vcells l)[k * 2 + 1]? = some (.int .u64 (hi V)) := by
  induction l generalizing k with
  | nil => simp at h
  | cons x r ih =>
    cases k with
    | zero =>
      simp at h
      subst h
      exact ⟨rfl, rfl⟩
    | succ k =>
      have := ih k (by simpa using h)
      have e : vcells (x :: r) = .int .u64 (lo x) :: .int .u64 (hi x) :: vcells r := rfl
      rw [e, show (k + 1) * 2 = k * 2 + 1 + 1 by omega, show k * 2 + 1 + 1 + 1 = (k * 2 + 1) + 1 + 1 by omega]
      simpa using this
theorem tr_at {w : World} {B n c k : Nat} {A : Option Addr} {l : List Nat} (h : TrAt w B A n c l) (hk : k < n) : ∃ b off V, A = some ⟨b, off, none⟩ ∧ l[k]? = some V ∧ V < two128 ∧ w.cell? ⟨b, off + k * 2, none⟩ = some (.int .u64 (lo V)) ∧ w.cell? ⟨b, off + k * 2 + 1, none⟩ = some (.int .u64 (hi V)) := by
  obtain ⟨V, hV⟩ : ∃ V, l[k]? = some V := ⟨_, List.getElem?_eq_getElem (show k < l.length by rw [h.len]; exact hk)⟩
  obtain ⟨h0, h1⟩ := vcells_two l k V hV
  obtain ⟨b, off, e, _, c0⟩ := h.see _ _ h0
  obtain ⟨b', off', e', _, c1⟩ := h.see _ _ h1
  rw [e] at e'
  injection e' with e'
  injection e' with e1 e2
  subst e1 e2
  exact ⟨b, off, V, e, hV, h.lt V (List.mem_of_getElem? hV), c0, by rw [Nat.add_assoc]; exact c1⟩
theorem take_eq {l l' : List Nat} {k V : Nat} (h : l.take k = l'.take k) (h1 : l[k]? = some V) (h2 : l'[k]? = some V) : l.take (k + 1) = l'.take (k + 1) := by
  rw [List.take_add_one, List.take_add_one, h, h1, h2]
theorem trace_ne {l l' : List Nat} {k V U : Nat} (h1 : l[k]? = some V) (h2 : l'[k]? = some U) (h : V ≠ U) : decide (l = l') = false := by
  rw [decide_eq_false_iff_not]
  rintro rfl
  rw [h1] at h2
  injection h2 with h2
  exact h h2

set_option maxRecDepth 100000 in
set_option maxHeartbeats 2000000 in
theorem strace_any (A : Option Addr) (n c : Nat) (l : List Nat) (A' : Option Addr) (n' c' : Nat) (l' : List Nat) (B : Nat) (w : World) (h : Hid (TrAt w B A n c l)) (h' : Hid (TrAt w B A' n' c' l')) (hB : B ≤ w.heap.size) :
    Calls Tryd.prog 12 #[.slice A n c, .slice A' n' c'] w fun e w' => e = .returned (.bool (decide (l = l'))) ∧ Below w.heap.size w w' := by
  obtain ⟨b, hb⟩ : ∃ b, decide (l = l') = b := ⟨_, rfl⟩
  rw [hb]
  have HB := hide hb
  clear hb
  have hm := h.out.most
  have hm' := h'.out.most
  by_cases hnn : n = n'
  · subst hnn
    go_enter Tryd.func12, Tryd.ntmps12
    go_wp2_with fail
    go_loopw [5] (fun i wr => ∃ k : Nat, k ≤ n ∧ i = .int .i64 k ∧ Hid (l.take k = l'.take k) ∧ Hid (Below w.heap.size w wr)) (fun i _ => n - (intOf i).toNat)
    case atStart => exact ⟨0, by omega, rfl, hide rfl, hide (Below.refl _ _)⟩
    case round =>
      obtain ⟨k, hk, rfl, hT, BB⟩ := hrel
      by_cases hlt : k < n
      · have hd : decide ((k : Int) < (n : Int)) = true := by simp; omega
        obtain ⟨g1, o1, V, rfl, hV, v2, c0, c1⟩ := tr_at (h.out.below (BB.out.mono hB)) hlt
        obtain ⟨g2, o2, U, rfl, hU, u2, d0, d1⟩ := tr_at (h'.out.below (BB.out.mono hB)) hlt
        have y0 := fun p : After wr => after_cell c0 p
        have y1 := fun p : After wr => after_cell c1 p
        have z0 := fun p : After wr => after_cell d0 p
        have z1 := fun p : After wr => after_cell d1 p
        have i0 : (0 : Int) ≤ (k : Int) := by omega
        have i1 : (k : Int) < (n : Int) := by omega
        by_cases hVU : V = U
        · subst hVU
          have HN := hide (take_eq hT.out hV hU)
          have hq := fun W => run_ne_same V V W rfl
          clear c0 c1 d0 d1 hV hU
          go_upto_region 6 with (fail)
          refine wp_region_after (by kernel_rfl) (by kernel_rfl) ?_
          repeat (go_big_quiet_step (fail))
          refine wpQuiet_nil ?_
          intro _ hw'
          obtain ⟨p1, hw''⟩ := hw'
          subst hw''
          have HB9 := hide (below_call BB.out p1.b)
          go_wp2_with fail
          go_roundw
          case rel => exact ⟨k + 1, by omega, by go_num, HN, HB9⟩
          case measure => simp [intOf]; omega
        · have hE := hide (HB.out.symm.trans (trace_ne hV hU hVU))
          have hq := fun W => run_ne_vv V U W v2 u2
          rw [decide_eq_false hVU] at hq
          clear c0 c1 d0 d1 hV hU
          go_upto_region 6 with (fail)
          refine wp_region_after (by kernel_rfl) (by kernel_rfl) ?_
          repeat (go_big_quiet_step (fail))
          refine wpQuiet_nil ?_
          intro _ hw'
          obtain ⟨p1, hw''⟩ := hw'
          subst hw''
          have HB9 := hide (below_call BB.out p1.b)
          go_wp2_with fail
          go_ret
          exact ⟨by rw [hE.out]; rfl, HB9.out⟩
      · obtain rfl : k = n := by omega
        have hE := hide (HB.out.symm.trans (decide_eq_true (by
          have := hT.out
          rwa [List.take_of_length_le (by rw [h.out.len]; omega), List.take_of_length_le (by rw [h'.out.len]; omega)] at this)))
        go_wp2_with fail
        go_ret
        exact ⟨by rw [hE.out]; rfl, BB.out⟩
  · have hE := hide (HB.out.symm.trans (decide_eq_false (fun e => hnn (by rw [← h.out.len, ← h'.out.len, e]))))
    have hne : ((n : Int) != (n' : Int)) = true := by rw [bne_iff_ne]; exact fun e => hnn (Int.ofNat.inj e)
    go_enter Tryd.func12, Tryd.ntmps12
    go_wp2_with fail
    go_ret
    exact ⟨by rw [hE.out]; rfl, Below.refl _ _⟩

/-- An outcome by value. -/
abbrev ov (k c : Int) (r : Nat) (A : Option Addr) (n cap : Nat) (s : Int) : Value := .agg #[.int .i64 k, .int .u64 c, .int .u64 (lo r), .int .u64 (hi r), .slice A n cap, .int .i64 s]
abbrev ovl (k c : Int) (r : Nat) (A : Option Addr) (n cap : Nat) (s : Int) : List Value := [.int .i64 k, .int .u64 c, .int .u64 (lo r), .int .u64 (hi r), .slice A n cap, .int .i64 s]
def outB (k c : Int) (r : Nat) (l : List Nat) (s : Int) (k' c' : Int) (r' : Nat) (l' : List Nat) (s' : Int) : Bool := decide (k = k') && decide (c = c') && decide (r = r') && decide (l = l') && decide (s = s')
def endB (k : Int) : Bool := decide (k = 0 ∨ k = 1 ∨ k = 2)
theorem eqi (x y : Int) : (x == y) = decide (x = y) := by by_cases h : x = y <;> simp [h]

set_option maxRecDepth 100000 in
set_option maxHeartbeats 4000000 in
theorem rsame_out (k c : Int) (r : Nat) (A : Option Addr) (n cap : Nat) (l : List Nat) (s : Int) (k' c' : Int) (r' : Nat) (A' : Option Addr) (n' cap' : Nat) (l' : List Nat) (s' : Int) (w : World) (h : Hid (TrAt w w.heap.size A n cap l)) (h' : Hid (TrAt w w.heap.size A' n' cap' l')) (hr : r < two128) (hr' : r' < two128) :
    Calls Tryd.prog 11 #[ov k c r A n cap s, ov k' c' r' A' n' cap' s'] w fun e w' => e = .returned (.bool (outB k c r l s k' c' r' l' s')) ∧ Below w.heap.size w w' := by
  obtain ⟨W0, hW0⟩ : ∃ W, (w.alloc (.cells #[.int .i64 k, .int .u64 c, .int .u64 (lo r), .int .u64 (hi r), .slice A n cap, .int .i64 s] 36)).alloc (.cells #[.int .i64 k', .int .u64 c', .int .u64 (lo r'), .int .u64 (hi r'), .slice A' n' cap', .int .i64 s'] 36) = W := ⟨_, rfl⟩
  have HW0 := hide hW0
  have RX := hide (show Row W0 w.heap.size 36 (ovl k c r A n cap s) by rw [← hW0]; exact (Row.new w _ _).alloc _)
  have RY := hide (show Row W0 (w.heap.size + 1) 36 (ovl k' c' r' A' n' cap' s') by rw [← hW0]; exact (Row.new _ _ _).at_ (by simp))
  have B0 := hide (show Below w.heap.size w W0 by rw [← hW0]; exact below2 w _ _)
  have H := hide (h.out.call B0.out)
  have H' := hide (h'.out.call B0.out)
  clear hW0
  have x0 := RX.out.cell (k := 0) rfl
  have x1 := RX.out.cell (k := 1) rfl
  have x2 := RX.out.cell (k := 2) rfl
  have x3 := RX.out.cell (k := 3) rfl
  have x4 := RX.out.cell (k := 4) rfl
  have x5 := RX.out.cell (k := 5) rfl
  have y0 := RY.out.cell (k := 0) rfl
  have y1 := RY.out.cell (k := 1) rfl
  have y2 := RY.out.cell (k := 2) rfl
  have y3 := RY.out.cell (k := 3) rfl
  have y4 := RY.out.cell (k := 4) rfl
  have y5 := RY.out.cell (k := 5) rfl
  have hv := fun W => run_eq_vv r r' W hr hr'
  have ct := fun W (HS : Hid (TrAt W W.heap.size A n cap l)) (HT : Hid (TrAt W W.heap.size A' n' cap' l')) => strace_any A n cap l A' n' cap' l' W.heap.size W HS HT (Nat.le_refl _)
  by_cases hk : k = k'
  · subst hk
    by_cases hc : c = c'
    · subst hc
      by_cases hrr : r = r'
      · subst hrr
        rw [decide_eq_true rfl] at hv
        by_cases hs : s = s'
        · subst hs
          by_cases hll : l = l'
          · have hB := hide (show outB k c r l s k c r l' s = true by simp [outB, hll])
            rw [decide_eq_true hll] at ct
            go_enter Tryd.func11, Tryd.ntmps11
            go_upto_region 1 with (fail)
            rw [HW0.out]
            go_wp2_with fail
            go_fit (ct _ H H')
            rintro e w1 ⟨rfl, hb1⟩
            go_wp2_with fail
            go_ret
            exact ⟨by rw [hB.out]; rfl, below_call B0.out hb1⟩
          · have hB := hide (show outB k c r l s k c r l' s = false by simp [outB, hll])
            rw [decide_eq_false hll] at ct
            go_enter Tryd.func11, Tryd.ntmps11
            go_upto_region 1 with (fail)
            rw [HW0.out]
            go_wp2_with fail
            go_fit (ct _ H H')
            rintro e w1 ⟨rfl, hb1⟩
            go_wp2_with fail
            go_ret
            exact ⟨by rw [hB.out]; rfl, below_call B0.out hb1⟩
        · have hB := hide (show outB k c r l s k c r l' s' = false by simp [outB, hs])
          have hse : (s == s') = false := by simpa using hs
          go_enter Tryd.func11, Tryd.ntmps11
          go_upto_region 1 with (fail)
          rw [HW0.out]
          go_wp2_with fail
          go_ret
          exact ⟨by rw [hB.out]; rfl, B0.out⟩
      · have hB := hide (show outB k c r l s k c r' l' s' = false by simp [outB, hrr])
        rw [decide_eq_false hrr] at hv
        go_enter Tryd.func11, Tryd.ntmps11
        go_upto_region 1 with (fail)
        rw [HW0.out]
        go_wp2_with fail
        go_ret
        exact ⟨by rw [hB.out]; rfl, B0.out⟩
    · have hB := hide (show outB k c r l s k c' r' l' s' = false by simp [outB, hc])
      have hce : (c == c') = false := by simpa using hc
      go_enter Tryd.func11, Tryd.ntmps11
      go_upto_region 1 with (fail)
      rw [HW0.out]
      go_wp2_with fail
      go_ret
      exact ⟨by rw [hB.out]; rfl, B0.out⟩
  · have hB := hide (show outB k c r l s k' c' r' l' s' = false by simp [outB, hk])
    have hke : (k == k') = false := by simpa using hk
    go_enter Tryd.func11, Tryd.ntmps11
    go_upto_region 1 with (fail)
    rw [HW0.out]
    go_wp2_with fail
    go_ret
    exact ⟨by rw [hB.out]; rfl, B0.out⟩

end Go.Proofs.YtipjeihfhnilcaaDoor
end

section
/-
  Traces that a call owns, and the beginnings of traces.
-/
namespace Go.Proofs.YtipjeihfhnilcaaDoor
open Go.RowKit

theorem own_cap {w : World} {base e size n c : Nat} {A : Option Addr} {xs : List Value} (h : w.ownsRow base e size (.slice A n c) n xs) : c ≤ 9223372036854775807 := by
  rcases h.2 with ⟨h1, _⟩ | ⟨g, cap, cur, h1, _, _, _, h5, _⟩
  · injection h1 with _ _ h1; omega
  · injection h1 with _ _ h1; unfold maxLen at h5; omega
theorem tr_own {w : World} {base n c : Nat} {A : Option Addr} {l : List Nat} (h : w.ownsRow base 33 2 (.slice A n c) n (vcells l)) (hl : l.length = n) (hv : ∀ v ∈ l, v < two128) : TrAt w w.heap.size A n c l := by
  obtain ⟨A', c', e, hA, hc, _, hs⟩ := own_seen h
  injection e with e1 e2 e3
  subst e1 e3
  exact ⟨hl, hc, by have := own_cap h; omega, hA, hs, hv⟩
theorem vcells_take (l : List Nat) (k : Nat) : (vcells l).take (k * 2) = vcells (l.take k) := by
  induction l generalizing k with
  | nil => simp [vcells]
  | cons a s ih =>
    cases k with
    | zero => simp [vcells]
    | succ k =>
      have := ih k
      unfold vcells at this ⊢
      simp only [List.flatMap_cons, List.take_succ_cons]
      have h2 : (vcell a).length = 2 := rfl
      rw [List.take_append, h2, show (k + 1) * 2 - 2 = k * 2 by omega, this, List.take_of_length_le (by rw [h2]; omega)]
theorem tr_take {w : World} {B n c m : Nat} {A : Option Addr} {l : List Nat} (h : TrAt w B A n c l) (hm : m ≤ n) : TrAt w B A m c (l.take m) :=
  ⟨by rw [List.length_take, h.len]; omega, by have := h.cap; omega, by have := h.most; omega, h.nil_, by rw [← vcells_take]; exact h.see.take _, fun v hv => h.lt v (List.mem_of_mem_take hv)⟩
end Go.Proofs.YtipjeihfhnilcaaDoor
end
