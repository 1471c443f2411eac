/-
  The contracts of bitset.Of, Has, Add, Remove, Union, Meet, Minus, Within. 'Lst w A n zs': at the slice's address lie the ints zs. Conditions: those of the types; the table of TrailingZeros64 lies as its initialiser lays it.
-/
import Derived.Test.YtfpdopfomagngaaDoorBlist
namespace Go.Proofs.YtfpdopfomagngaaDoor
open Go.RowKit

/-- A slice of ints that can be read: at A stand the n ints zs. -/
structure Lst (w : World) (A : Option Addr) (n : Nat) (zs : List Int) : Prop where
  len : zs.length = n
  le : n ≤ 9223372036854775807
  see : Sees w w.heap.size A (cellsI zs)
  rng : ∀ z ∈ zs, -9223372036854775808 ≤ z ∧ z ≤ 9223372036854775807
theorem Lst.below {w w' : World} {A : Option Addr} {n : Nat} {zs : List Int} (h : Lst w A n zs) (hb : Below w.heap.size w w') : Lst w' A n zs := ⟨h.len, h.le, (h.see.below hb).more hb.size, h.rng⟩
theorem Lst.of {w : World} {A : Option Addr} {n : Nat} {zs : List Int} (h : Lst w A n zs) (c : Nat) : Calls Tryd.prog 32 #[.slice A n c] w fun e w' => e = .returned (sv (wd (bs zs))) ∧ Below w.heap.size w w' :=
  of_any A n c zs w.heap.size w (hide h.len) h.le (hide h.see) (Nat.le_refl _) (hide h.rng)
theorem SetB.made (w : World) (N : Nat) : SetB (w.alloc (.cells #[.int .u64 (wd N 0 : Nat), .int .u64 (wd N 1 : Nat), .int .u64 (wd N 2 : Nat), .int .u64 (wd N 3 : Nat), .int .u64 (wd N 4 : Nat), .int .u64 (wd N 5 : Nat), .int .u64 (wd N 6 : Nat), .int .u64 (wd N 7 : Nat)] 42)) w.heap.size N := Row.new w _ (w8 (wd N))
theorem own_lower {w : World} {base base' : Nat} {e : TypeId} {size n : Nat} {v : Value} {xs : List Value} (h : w.ownsRow base e size v n xs) (hb : base' ≤ base) : w.ownsRow base' e size v n xs := by
  refine ⟨h.1, ?_⟩
  rcases h.2 with h2 | ⟨g, cap, cur, hv, hg, hh, hr⟩
  · exact .inl h2
  · exact .inr ⟨g, cap, cur, hv, by omega, hh, hr⟩
theorem OutPost.lift {l : List Int} {w w1 w' : World} {e : Ending} (h : OutPost l w1 e w') (hb : Below w.heap.size w w1) : OutPost l w e w' := by
  obtain ⟨A, c, he, ho, hb'⟩ := h
  exact ⟨A, c, he, own_lower ho hb.size, below_call hb hb'⟩
theorem below_write {w w1 w2 : World} {g N : Nat} {e : Ending} (hb : Below w.heap.size w w1) (h : WritePost g N w1 e w2) (hg : w.heap.size ≤ g) : Below w.heap.size w w2 := below_turned hb h.2.2 hg hb.size

set_option maxHeartbeats 400000 in
theorem top_of_any (A : Option Addr) (n c : Nat) (zs : List Int) (w : World) (h : Hid (Lst w A n zs)) (hT : Hid (Tab w)) : Calls Tryd.prog 9 #[.slice A n c] w (OutPost (els (bs zs)) w) := by
  have c0 := h.out.of c
  generalize bs zs = N0 at c0 ⊢
  go_enter Tryd.func9, Tryd.ntmps9
  go_wp2_with fail
  refine c0.mono ?_
  rintro e w1 ⟨rfl, hb1⟩
  clear c0
  have HB1 := hide hb1
  clear hb1
  go_wp2_with fail
  have hS1 := hide (SetB.made w1 N0)
  have HB2 := hide (below_call HB1.out (below1 w1 (.cells #[.int .u64 (wd N0 0 : Nat), .int .u64 (wd N0 1 : Nat), .int .u64 (wd N0 2 : Nat), .int .u64 (wd N0 3 : Nat), .int .u64 (wd N0 4 : Nat), .int .u64 (wd N0 5 : Nat), .int .u64 (wd N0 6 : Nat), .int .u64 (wd N0 7 : Nat)] 42)))
  have hg1 : w.heap.size ≤ w1.heap.size := HB1.out.size
  refine (list_any w1.heap.size (N0) _ hS1 (hide (hT.out.below HB2.out))).mono ?_
  rintro e w' hP
  obtain ⟨A2, c2, rfl, -, -⟩ := id hP
  have HP := hide (hP.lift HB2.out)
  clear hP hS1
  go_wp2_with fail
  go_ret
  exact HP.out

set_option maxHeartbeats 400000 in
theorem top_has_any (A : Option Addr) (n c : Nat) (zs : List Int) (x : Int) (w : World) (h : Hid (Lst w A n zs)) (x0 : -9223372036854775808 ≤ x) (x1 : x ≤ 9223372036854775807) : Calls Tryd.prog 18 #[.slice A n c, .int .i64 x] w (fun e w' => e = .returned (.bool (decide (0 ≤ x ∧ x < 512 ∧ (bs zs).testBit x.toNat = true))) ∧ Below w.heap.size w w') := by
  have c0 := h.out.of c
  generalize bs zs = N0 at c0 ⊢
  generalize hB : decide (0 ≤ x ∧ x < 512 ∧ N0.testBit x.toNat = true) = B
  have HB' := hide hB
  clear hB
  go_enter Tryd.func18, Tryd.ntmps18
  go_wp2_with fail
  refine c0.mono ?_
  rintro e w1 ⟨rfl, hb1⟩
  clear c0
  have HB1 := hide hb1
  clear hb1
  go_wp2_with fail
  have hS1 := hide (SetB.made w1 N0)
  have HB2 := hide (below_call HB1.out (below1 w1 (.cells #[.int .u64 (wd N0 0 : Nat), .int .u64 (wd N0 1 : Nat), .int .u64 (wd N0 2 : Nat), .int .u64 (wd N0 3 : Nat), .int .u64 (wd N0 4 : Nat), .int .u64 (wd N0 5 : Nat), .int .u64 (wd N0 6 : Nat), .int .u64 (wd N0 7 : Nat)] 42)))
  have hg1 : w.heap.size ≤ w1.heap.size := HB1.out.size
  have cm := mhas_any w1.heap.size N0 x _ hS1 x0 x1
  rw [HB'.out] at cm
  refine cm.mono ?_
  rintro e w' ⟨rfl, rfl⟩
  clear cm
  go_wp2_with fail
  go_ret
  exact ⟨rfl, HB2.out⟩

set_option maxHeartbeats 400000 in
theorem top_add_any (A : Option Addr) (n c : Nat) (zs : List Int) (x : Int) (w : World) (h : Hid (Lst w A n zs)) (x0 : -9223372036854775808 ≤ x) (x1 : x ≤ 9223372036854775807) (hT : Hid (Tab w)) : Calls Tryd.prog 20 #[.slice A n c, .int .i64 x] w (OutPost (els (bs zs ||| one x)) w) := by
  have c0 := h.out.of c
  generalize bs zs = N0 at c0 ⊢
  go_enter Tryd.func20, Tryd.ntmps20
  go_wp2_with fail
  refine c0.mono ?_
  rintro e w1 ⟨rfl, hb1⟩
  clear c0
  have HB1 := hide hb1
  clear hb1
  go_wp2_with fail
  have hS1 := hide (SetB.made w1 N0)
  have HB2 := hide (below_call HB1.out (below1 w1 (.cells #[.int .u64 (wd N0 0 : Nat), .int .u64 (wd N0 1 : Nat), .int .u64 (wd N0 2 : Nat), .int .u64 (wd N0 3 : Nat), .int .u64 (wd N0 4 : Nat), .int .u64 (wd N0 5 : Nat), .int .u64 (wd N0 6 : Nat), .int .u64 (wd N0 7 : Nat)] 42)))
  have hg1 : w.heap.size ≤ w1.heap.size := HB1.out.size
  refine (add_any w1.heap.size N0 x _ hS1 x0 x1).mono ?_
  rintro e w5 hP
  have HS5 := hide hP.2.1
  have HB5 := hide (below_write HB2.out hP hg1)
  obtain ⟨rfl, -, -⟩ := hP
  clear hS1 HB2
  go_wp2_with fail
  refine (list_any w1.heap.size (N0 ||| one x) _ HS5 (hide (hT.out.below HB5.out))).mono ?_
  rintro e w' hP
  obtain ⟨A2, c2, rfl, -, -⟩ := id hP
  have HP := hide (hP.lift HB5.out)
  clear hP HS5
  go_wp2_with fail
  go_ret
  exact HP.out

set_option maxHeartbeats 400000 in
theorem top_remove_any (A : Option Addr) (n c : Nat) (zs : List Int) (x : Int) (w : World) (h : Hid (Lst w A n zs)) (x0 : -9223372036854775808 ≤ x) (x1 : x ≤ 9223372036854775807) (hT : Hid (Tab w)) : Calls Tryd.prog 22 #[.slice A n c, .int .i64 x] w (OutPost (els (diff (bs zs) (one x))) w) := by
  have c0 := h.out.of c
  generalize bs zs = N0 at c0 ⊢
  go_enter Tryd.func22, Tryd.ntmps22
  go_wp2_with fail
  refine c0.mono ?_
  rintro e w1 ⟨rfl, hb1⟩
  clear c0
  have HB1 := hide hb1
  clear hb1
  go_wp2_with fail
  have hS1 := hide (SetB.made w1 N0)
  have HB2 := hide (below_call HB1.out (below1 w1 (.cells #[.int .u64 (wd N0 0 : Nat), .int .u64 (wd N0 1 : Nat), .int .u64 (wd N0 2 : Nat), .int .u64 (wd N0 3 : Nat), .int .u64 (wd N0 4 : Nat), .int .u64 (wd N0 5 : Nat), .int .u64 (wd N0 6 : Nat), .int .u64 (wd N0 7 : Nat)] 42)))
  have hg1 : w.heap.size ≤ w1.heap.size := HB1.out.size
  refine (remove_any w1.heap.size N0 x _ hS1 x0 x1).mono ?_
  rintro e w5 hP
  have HS5 := hide hP.2.1
  have HB5 := hide (below_write HB2.out hP hg1)
  obtain ⟨rfl, -, -⟩ := hP
  clear hS1 HB2
  go_wp2_with fail
  refine (list_any w1.heap.size (diff (N0) (one x)) _ HS5 (hide (hT.out.below HB5.out))).mono ?_
  rintro e w' hP
  obtain ⟨A2, c2, rfl, -, -⟩ := id hP
  have HP := hide (hP.lift HB5.out)
  clear hP HS5
  go_wp2_with fail
  go_ret
  exact HP.out

set_option maxHeartbeats 400000 in
theorem top_union_any (A : Option Addr) (n c : Nat) (zs : List Int) (A' : Option Addr) (n' c' : Nat) (ys : List Int) (w : World) (h : Hid (Lst w A n zs)) (h' : Hid (Lst w A' n' ys)) (hT : Hid (Tab w)) : Calls Tryd.prog 24 #[.slice A n c, .slice A' n' c'] w (OutPost (els (bs zs ||| bs ys)) w) := by
  have c0 := h.out.of c
  obtain ⟨N0, eN⟩ : ∃ N0, bs zs = N0 := ⟨_, rfl⟩
  obtain ⟨M0, eM⟩ : ∃ M0, bs ys = M0 := ⟨_, rfl⟩
  rw [eN] at c0 ⊢
  rw [eM]
  have EM := hide eM
  clear eN eM
  go_enter Tryd.func24, Tryd.ntmps24
  go_wp2_with fail
  refine c0.mono ?_
  rintro e w1 ⟨rfl, hb1⟩
  clear c0
  have HB1 := hide hb1
  clear hb1
  go_wp2_with fail
  have hS1 := hide (SetB.made w1 N0)
  have HB2 := hide (below_call HB1.out (below1 w1 (.cells #[.int .u64 (wd N0 0 : Nat), .int .u64 (wd N0 1 : Nat), .int .u64 (wd N0 2 : Nat), .int .u64 (wd N0 3 : Nat), .int .u64 (wd N0 4 : Nat), .int .u64 (wd N0 5 : Nat), .int .u64 (wd N0 6 : Nat), .int .u64 (wd N0 7 : Nat)] 42)))
  have hg1 : w.heap.size ≤ w1.heap.size := HB1.out.size
  have h2 := h'.out.below HB2.out
  have c1 := h2.of c'
  rw [EM.out] at c1
  refine c1.mono ?_
  rintro e w2 ⟨rfl, hb2⟩
  have hS2 := hide (hS1.out.call hb2)
  have HB3 := hide (below_call HB2.out hb2)
  clear c1 hb2 h2 hS1 HB2
  go_wp2_with fail
  refine (munion_any w1.heap.size N0 M0 _ hS2).mono ?_
  rintro e w5 hP
  have HS5 := hide hP.2.1
  have HB5 := hide (below_write HB3.out hP hg1)
  obtain ⟨rfl, -, -⟩ := hP
  clear hS2 HB3
  go_wp2_with fail
  refine (list_any w1.heap.size (N0 ||| M0) _ HS5 (hide (hT.out.below HB5.out))).mono ?_
  rintro e w' hP
  obtain ⟨A2, c2, rfl, -, -⟩ := id hP
  have HP := hide (hP.lift HB5.out)
  clear hP HS5
  go_wp2_with fail
  go_ret
  exact HP.out

set_option maxHeartbeats 400000 in
theorem top_meet_any (A : Option Addr) (n c : Nat) (zs : List Int) (A' : Option Addr) (n' c' : Nat) (ys : List Int) (w : World) (h : Hid (Lst w A n zs)) (h' : Hid (Lst w A' n' ys)) (hT : Hid (Tab w)) : Calls Tryd.prog 26 #[.slice A n c, .slice A' n' c'] w (OutPost (els (bs zs &&& bs ys)) w) := by
  have c0 := h.out.of c
  obtain ⟨N0, eN⟩ : ∃ N0, bs zs = N0 := ⟨_, rfl⟩
  obtain ⟨M0, eM⟩ : ∃ M0, bs ys = M0 := ⟨_, rfl⟩
  rw [eN] at c0 ⊢
  rw [eM]
  have EM := hide eM
  clear eN eM
  go_enter Tryd.func26, Tryd.ntmps26
  go_wp2_with fail
  refine c0.mono ?_
  rintro e w1 ⟨rfl, hb1⟩
  clear c0
  have HB1 := hide hb1
  clear hb1
  go_wp2_with fail
  have hS1 := hide (SetB.made w1 N0)
  have HB2 := hide (below_call HB1.out (below1 w1 (.cells #[.int .u64 (wd N0 0 : Nat), .int .u64 (wd N0 1 : Nat), .int .u64 (wd N0 2 : Nat), .int .u64 (wd N0 3 : Nat), .int .u64 (wd N0 4 : Nat), .int .u64 (wd N0 5 : Nat), .int .u64 (wd N0 6 : Nat), .int .u64 (wd N0 7 : Nat)] 42)))
  have hg1 : w.heap.size ≤ w1.heap.size := HB1.out.size
  have h2 := h'.out.below HB2.out
  have c1 := h2.of c'
  rw [EM.out] at c1
  refine c1.mono ?_
  rintro e w2 ⟨rfl, hb2⟩
  have hS2 := hide (hS1.out.call hb2)
  have HB3 := hide (below_call HB2.out hb2)
  clear c1 hb2 h2 hS1 HB2
  go_wp2_with fail
  refine (mmeet_any w1.heap.size N0 M0 _ hS2).mono ?_
  rintro e w5 hP
  have HS5 := hide hP.2.1
  have HB5 := hide (below_write HB3.out hP hg1)
  obtain ⟨rfl, -, -⟩ := hP
  clear hS2 HB3
  go_wp2_with fail
  refine (list_any w1.heap.size (N0 &&& M0) _ HS5 (hide (hT.out.below HB5.out))).mono ?_
  rintro e w' hP
  obtain ⟨A2, c2, rfl, -, -⟩ := id hP
  have HP := hide (hP.lift HB5.out)
  clear hP HS5
  go_wp2_with fail
  go_ret
  exact HP.out

set_option maxHeartbeats 400000 in
theorem top_minus_any (A : Option Addr) (n c : Nat) (zs : List Int) (A' : Option Addr) (n' c' : Nat) (ys : List Int) (w : World) (h : Hid (Lst w A n zs)) (h' : Hid (Lst w A' n' ys)) (hT : Hid (Tab w)) : Calls Tryd.prog 28 #[.slice A n c, .slice A' n' c'] w (OutPost (els (diff (bs zs) (bs ys))) w) := by
  have c0 := h.out.of c
  obtain ⟨N0, eN⟩ : ∃ N0, bs zs = N0 := ⟨_, rfl⟩
  obtain ⟨M0, eM⟩ : ∃ M0, bs ys = M0 := ⟨_, rfl⟩
  rw [eN] at c0 ⊢
  rw [eM]
  have EM := hide eM
  clear eN eM
  go_enter Tryd.func28, Tryd.ntmps28
  go_wp2_with fail
  refine c0.mono ?_
  rintro e w1 ⟨rfl, hb1⟩
  clear c0
  have HB1 := hide hb1
  clear hb1
  go_wp2_with fail
  have hS1 := hide (SetB.made w1 N0)
  have HB2 := hide (below_call HB1.out (below1 w1 (.cells #[.int .u64 (wd N0 0 : Nat), .int .u64 (wd N0 1 : Nat), .int .u64 (wd N0 2 : Nat), .int .u64 (wd N0 3 : Nat), .int .u64 (wd N0 4 : Nat), .int .u64 (wd N0 5 : Nat), .int .u64 (wd N0 6 : Nat), .int .u64 (wd N0 7 : Nat)] 42)))
  have hg1 : w.heap.size ≤ w1.heap.size := HB1.out.size
  have h2 := h'.out.below HB2.out
  have c1 := h2.of c'
  rw [EM.out] at c1
  refine c1.mono ?_
  rintro e w2 ⟨rfl, hb2⟩
  have hS2 := hide (hS1.out.call hb2)
  have HB3 := hide (below_call HB2.out hb2)
  clear c1 hb2 h2 hS1 HB2
  go_wp2_with fail
  refine (mminus_any w1.heap.size N0 M0 _ hS2).mono ?_
  rintro e w5 hP
  have HS5 := hide hP.2.1
  have HB5 := hide (below_write HB3.out hP hg1)
  obtain ⟨rfl, -, -⟩ := hP
  clear hS2 HB3
  go_wp2_with fail
  refine (list_any w1.heap.size (diff (N0) (M0)) _ HS5 (hide (hT.out.below HB5.out))).mono ?_
  rintro e w' hP
  obtain ⟨A2, c2, rfl, -, -⟩ := id hP
  have HP := hide (hP.lift HB5.out)
  clear hP HS5
  go_wp2_with fail
  go_ret
  exact HP.out

set_option maxHeartbeats 400000 in
theorem top_within_any (A : Option Addr) (n c : Nat) (zs : List Int) (A' : Option Addr) (n' c' : Nat) (ys : List Int) (w : World) (h : Hid (Lst w A n zs)) (h' : Hid (Lst w A' n' ys)) : Calls Tryd.prog 30 #[.slice A n c, .slice A' n' c'] w (fun e w' => e = .returned (.bool (decide (els (diff (bs zs) (bs ys)) = []))) ∧ Below w.heap.size w w') := by
  have c0 := h.out.of c
  obtain ⟨N0, eN⟩ : ∃ N0, bs zs = N0 := ⟨_, rfl⟩
  obtain ⟨M0, eM⟩ : ∃ M0, bs ys = M0 := ⟨_, rfl⟩
  rw [eN] at c0 ⊢
  rw [eM]
  have EM := hide eM
  clear eN eM
  generalize hB : decide (els (diff (N0) (M0)) = []) = B
  have HB' := hide hB
  clear hB
  go_enter Tryd.func30, Tryd.ntmps30
  go_wp2_with fail
  refine c0.mono ?_
  rintro e w1 ⟨rfl, hb1⟩
  clear c0
  have HB1 := hide hb1
  clear hb1
  go_wp2_with fail
  have hS1 := hide (SetB.made w1 N0)
  have HB2 := hide (below_call HB1.out (below1 w1 (.cells #[.int .u64 (wd N0 0 : Nat), .int .u64 (wd N0 1 : Nat), .int .u64 (wd N0 2 : Nat), .int .u64 (wd N0 3 : Nat), .int .u64 (wd N0 4 : Nat), .int .u64 (wd N0 5 : Nat), .int .u64 (wd N0 6 : Nat), .int .u64 (wd N0 7 : Nat)] 42)))
  have hg1 : w.heap.size ≤ w1.heap.size := HB1.out.size
  have h2 := h'.out.below HB2.out
  have c1 := h2.of c'
  rw [EM.out] at c1
  refine c1.mono ?_
  rintro e w2 ⟨rfl, hb2⟩
  have hS2 := hide (hS1.out.call hb2)
  have HB3 := hide (below_call HB2.out hb2)
  clear c1 hb2 h2 hS1 HB2
  go_wp2_with fail
  refine (mminus_any w1.heap.size N0 M0 _ hS2).mono ?_
  rintro e w5 hP
  have HS5 := hide hP.2.1
  have HB5 := hide (below_write HB3.out hP hg1)
  obtain ⟨rfl, -, -⟩ := hP
  clear hS2 HB3
  go_wp2_with fail
  have cc := count_any w1.heap.size (diff (N0) (M0)) w5 HS5
  have hb : (((cnt (diff (N0) (M0)) 8 : Nat) : Int) == 0) = B := by
    rw [← HB'.out, Bool.eq_iff_iff, decide_eq_true_iff, beq_iff_eq]
    exact ⟨fun h => cnt_eq (by omega), fun h => by rw [cnt_zero h 8 (Nat.le_refl _)]; rfl⟩
  generalize cnt (diff (N0) (M0)) 8 = m at cc hb
  refine cc.mono ?_
  rintro e w' ⟨rfl, rfl⟩
  clear cc
  go_wp2_with fail
  go_ret
  exact ⟨rfl, HB5.out⟩

end Go.Proofs.YtfpdopfomagngaaDoor
