import Derived.Test.YtlcmcmocjbeocaaMGolaw
import Derived.Test.YtlcmcmocjbeocaaMLaw
import Derived.BigQuiet
import Derived.Laws.StructEq
set_option linter.unusedVariables false
set_option linter.unusedSimpArgs false
section
/-
  The contracts of postorder.Back and of the reference's Back (chapter 14): the pairs that go back. Conditions: those of the types; the function is right and has an instruction.
-/
namespace Go.Proofs.Ytlcmcmocjbeocaa
open Go.RowKit

/-- Pairs of numbers as cells. -/
def bkcell (u : Nat × Nat) : List Value := [.int .i64 (u.1 : Int), .int .i64 (u.2 : Int)]
def bkcells (l : List (Nat × Nat)) : List Value := l.flatMap bkcell
theorem bkcell_len (u : Nat × Nat) : (bkcell u).length = 2 := rfl
theorem bkcells_len (l : List (Nat × Nat)) : (bkcells l).length = l.length * 2 := flat_len bkcell_len l
theorem bkcells_app (l m : List (Nat × Nat)) : bkcells (l ++ m) = bkcells l ++ bkcells m := by simp [bkcells]
theorem bkcells_at {l : List (Nat × Nat)} {k : Nat} {u : Nat × Nat} (h : l[k]? = some u) : (bkcells l)[k * 2]? = some (.int .i64 (u.1 : Int)) ∧ (bkcells l)[k * 2 + 1]? = some (.int .i64 (u.2 : Int)) :=
  ⟨flat_at bkcell_len l k u h 0 (by omega), flat_at bkcell_len l k u h 1 (by omega)⟩
theorem infoP2 : (Try.prog.info? 35).map (fun i => (i.zero, i.size, i.bytes)) = some (some (.agg #[.int .i64 0, .int .i64 0]), 2, 16) := by kernel_rfl
/-- What Back hands back. -/
def BackPost (bs : List (Nat × Nat)) (w : World) (e : Ending) (w' : World) : Prop :=
  ∃ A c, e = .returned (.slice A bs.length c) ∧ w'.ownsRow w.heap.size 35 2 (.slice A bs.length c) bs.length (bkcells bs) ∧ Below w.heap.size w w'
/-- What its loops keep in memory. -/
structure BkI (w : World) (P : Int) (A1 : Option Addr) (n1 c1 : Nat) (A2 : Option Addr) (n2 c2 : Nat) (G : Nat) (Q : List Int) (bs : List (Nat × Nat)) (v : Value) (wr : World) : Prop where
  f : Row wr w.heap.size 27 [.int .i64 P, .slice A1 n1 c1, .slice A2 n2 c2]
  q : Row wr G 3 (cellsI Q)
  o : wr.ownsRow w.heap.size 35 2 v bs.length (bkcells bs)
  b : Below w.heap.size w wr
section
variable {w wr w2 : World} {P : Int} {A1 : Option Addr} {n1 c1 : Nat} {A2 : Option Addr} {n2 c2 : Nat} {l : List Ins} {G : Nat} {O : List Nat} {Q : List Int} {bs : List (Nat × Nat)} {v v2 : Value}
theorem BkI.call (h : BkI w P A1 n1 c1 A2 n2 c2 G Q bs v wr) (hb : Below wr.heap.size wr w2) : BkI w P A1 n1 c1 A2 n2 c2 G Q bs v w2 := ⟨h.f.call hb, h.q.call hb, own_below h.o hb, below_call h.b hb⟩
theorem BkI.row {t : Nat} {g : Nat} {cs : List Value} {o : Obj} (h : BkI w P A1 n1 c1 A2 n2 c2 G Q bs v wr) (hr : Row wr g t cs) (ht : t ≠ 35) (hg : (wr.alloc o).grownBy w2 v.ownBlock) : Row w2 g t cs :=
  (hr.alloc o).grown hg fun e => by
    rcases fown_apart h.o hr ht with q | q
    · rw [q] at e; cases e
    · exact q e.symm
theorem BkI.app {o : Obj} {k j : Nat} (h : BkI w P A1 n1 c1 A2 n2 c2 G Q bs v wr) (ho : w2.ownsRow w.heap.size 35 2 v2 (bs.length + 1) (bkcells bs ++ [.int .i64 (k : Int), .int .i64 (j : Int)])) (hg : (wr.alloc o).grownBy w2 v.ownBlock) : BkI w P A1 n1 c1 A2 n2 c2 G Q (bs ++ [(k, j)]) v2 w2 :=
  ⟨h.row h.f (by decide) hg, h.row h.q (by decide) hg, by rw [bkcells_app, List.length_append]; exact ho, below_append (h.b.alloc h.b.size o) (h.o.alloc o) (Nat.le_refl _) hg (Nat.le_trans h.b.size (by simp))⟩
/-- A row of ints of the call's own, over such an append. -/
theorem BkI.own {o : Obj} {base n : Nat} {u : Value} {xs : List Value} (h : BkI w P A1 n1 c1 A2 n2 c2 G Q bs v wr) (hN : wr.ownsRow base 3 1 u n xs) (hg : (wr.alloc o).grownBy w2 v.ownBlock) : w2.ownsRow base 3 1 u n xs := by
  refine ⟨hN.1, ?_⟩
  rcases hN.2 with q | ⟨g, cap, cur, e, hG, hh, r⟩
  · exact .inl q
  · exact .inr ⟨g, cap, cur, e, hG, h.row (cs := cur.toList) hh (by decide) hg, r⟩
theorem bk_cells (a b : Int) : ∀ u ∈ [Value.int .i64 a, .int .i64 b], u.oneCell' = true := by
  intro u hu; simp at hu; rcases hu with rfl | rfl <;> rfl
theorem bk_new (w : World) (x y : Value) (t : TypeId) : ∀ (j : Nat) (u : Value), [x, y][j]? = some u → (w.alloc (.cells #[x, y] t)).cell? ((⟨w.heap.size, 0, none⟩ : Addr).add j) = some u :=
  World.news_of_block (t := t) (fr := (0, 0)) (heap_alloc_new w _)
theorem rk_nat (h : IsRk n2 O Q) {k : Nat} (hk : k < n2) : Q[k]? = some (-1) ∨ ∃ r : Nat, Q[k]? = some (r : Int) ∧ r < O.length := by
  rcases h.get hk with ⟨e, -⟩ | ⟨i, e, -, hi⟩
  · exact .inl e
  · exact .inr ⟨i, e, hi⟩
set_option maxRecDepth 100000 in
set_option maxHeartbeats 4000000 in
theorem back_any (w : World) (hC : Hid (CdAt w A2 n2 l)) (hok : Hid (FlowOk l)) (hn1 : 1 ≤ n2) (hOQ : Hid (Ord14 l n2 O Q)) :
    Calls Try.prog 15 #[fv P A1 n1 c1 A2 n2 c2] w (BackPost (bkL (suc l) Q n2) w) := by
  obtain ⟨i0, hi, hz0, hz1, hz2⟩ := info_parts infoP2
  have hn2 := hC.out.few
  have HL := hide hC.out.len
  have HOL := hide hOQ.out.ord.len
  obtain ⟨W1, hW1⟩ : ∃ W, w.alloc (.cells #[.int .i64 P, .slice A1 n1 c1, .slice A2 n2 c2] 27) = W := ⟨_, rfl⟩
  have R1 := hide (show Row W1 w.heap.size 27 [.int .i64 P, .slice A1 n1 c1, .slice A2 n2 c2] by rw [← hW1]; exact Row.new w _ _)
  have B1 := hide (show Below w.heap.size w W1 by rw [← hW1]; exact below1 _ _)
  have HW1 := hide hW1
  have cr := (rank_any (P := P) (A1 := A1) (n1 := n1) (c1 := c1) (c2 := c2) W1 (hide (hC.out.below B1.out)) hok hn1).mono fun e w' q => hOQ.out.ranks hn2 q
  clear hW1
  go_enter Try.func15, Try.ntmps15
  go_upto_region 1 with (fail)
  rw [HW1.out]
  have q0 := R1.out.cell (k := 0) rfl
  have q1 := R1.out.cell (k := 1) rfl
  have q2 := R1.out.cell (k := 2) rfl
  go_wp2_with fail
  refine cr.mono ?_
  rintro e w2 ⟨G, rfl, hr2, hG, hb2⟩
  have I2 := hide (show BkI w P A1 n1 c1 A2 n2 c2 G Q [] (.slice none 0 0) w2 from ⟨R1.out.call hb2, hr2, World.ownsRow_nil _ _ _ _, below_call B1.out hb2⟩)
  have hQl := hOQ.out.rk.len
  rw [hQl]
  clear hr2 hG hb2 cr q0 q1 q2 HW1 R1 B1 hQl
  have q2 := I2.out.f.cell (k := 2) rfl
  go_wp2_with fail
  clear q2
  go_loopw [4, 13] (fun s4 s13 wr => ∃ (k : Nat), s13 = .int .i64 (k : Int) ∧ k ≤ n2 ∧ Hid (BkI w P A1 n1 c1 A2 n2 c2 G Q (bkL (suc l) Q k) s4 wr)) (fun _ s13 _ => n2 - (intOf s13).toNat)
  case atStart => exact ⟨0, rfl, by omega, I2⟩
  case round =>
    obtain ⟨k, rfl, hkn, hI⟩ := hrel
    clear I2
    by_cases hlt : k < n2
    · have hk0 : (0 : Int) ≤ (k : Int) := by omega
      have hk1 : (k : Int) < (n2 : Int) := by omega
      have hbl := bkL_len (S := suc l) (suc_len l) Q k
      rcases rk_nat hOQ.out.rk hlt with hq | ⟨r, hq, hr⟩
      · have y0 := hI.out.q.cell (cellsI_at hq)
        have I3 := hide (show BkI w P A1 n1 c1 A2 n2 c2 G Q (bkL (suc l) Q (k + 1)) u4 wr by rw [bkL_no hq]; exact hI.out)
        clear hq hI
        go_wp2_with fail
        go_roundw
        case rel => exact ⟨k + 1, by go_num, by omega, I3⟩
        case measure => simp [intOf]; omega
      · have y0 := hI.out.q.cell (cellsI_at hq)
        have hrne : ((r : Int) == -1) = false := by rw [beq_eq_false_iff_ne]; omega
        have q0 := hI.out.f.cell (k := 0) rfl
        have q1 := hI.out.f.cell (k := 1) rfl
        have q2 := hI.out.f.cell (k := 2) rfl
        have cn := fnext_any (P := P) (A1 := A1) (n1 := n1) (c1 := c1) (c2 := c2) (k : Int) wr (hide (hC.out.below hI.out.b)) hok.out
        rw [sucZ_nat] at cn
        have hXS := hide (fun (j : Nat) (h : j ∈ suc l k) => suc_lt hok.out h)
        have hX2 := hide (suc_len l k)
        have HQ := hide hq
        have HBY := hide (show bkL (suc l) Q (k + 1) = bkL (suc l) Q k ++ bkK Q k (suc l k) from bkL_yes hq)
        obtain ⟨xs, hxs⟩ : ∃ xs, suc l k = xs := ⟨_, rfl⟩
        rw [hxs] at cn hX2 hXS HBY
        obtain ⟨bs, hbs⟩ : ∃ bs, bkL (suc l) Q k = bs := ⟨_, rfl⟩
        rw [hbs] at hI HBY hbl
        clear hxs hq hbs
        go_wp2_with fail
        refine cn.mono ?_
        rintro e w5 ⟨A5, c5, rfl, ho5, hb5⟩
        have I5 := hide (hI.out.call hb5)
        rw [toI_len] at ho5 ⊢
        have N5 := hide (own_lower ho5 hI.out.b.size)
        clear ho5 hb5 cn q0 q1 q2 y0 hI
        go_wp2_with fail
        go_loopw [4, 25] (fun s4 s25 wq => ∃ (i : Nat), s25 = .int .i64 (i : Int) ∧ i ≤ xs.length ∧ Hid (BkI w P A1 n1 c1 A2 n2 c2 G Q (bs ++ bkK Q k (xs.take i)) s4 wq) ∧ Hid (wq.ownsRow w.heap.size 3 1 (.slice A5 xs.length c5) xs.length (cellsI (toI xs)))) (fun _ s25 _ => xs.length - (intOf s25).toNat)
        case atStart => exact ⟨0, rfl, by omega, by rw [List.take_zero]; simpa [bkK] using I5, N5⟩
        case round =>
          obtain ⟨i, rfl, hix, hI, hN⟩ := hrel
          clear I5 N5
          have hx2 : xs.length ≤ 2 := hX2.out
          by_cases hlt2 : i < xs.length
          · obtain ⟨g5, c5', he5, -, -, -, -⟩ := own_block hN.out (by omega)
            injection he5 with he5 _ he5c
            subst he5 he5c
            have hjx := List.getElem?_eq_getElem hlt2
            have x0 : wr.cell? ⟨g5, i, none⟩ = some (.int .i64 ((xs[i] : Nat) : Int)) := by
              rw [hN.out.cellAt i (by omega), cellsI, List.getElem?_map, toI_get, hjx]; rfl
            have hjn : xs[i] < n2 := by have h1 := hXS.out xs[i] (List.getElem_mem hlt2); have h2 := HL.out; omega
            have HST := hide (bkK_step (Q := Q) (k := k) hjx)
            generalize xs[i] = j at x0 hjn HST
            obtain ⟨z, hz⟩ := int_get (zs := Q) (k := j) (by rw [hOQ.out.rk.len]; exact hjn)
            have hst := HST.out
            rw [hz, HQ.out, Option.getD_some, Option.getD_some] at hst
            have y1 := hI.out.q.cell (cellsI_at HQ.out)
            have y2 := hI.out.q.cell (cellsI_at hz)
            have hi0 : (0 : Int) ≤ (i : Int) := by omega
            have hi1 : (i : Int) < (xs.length : Int) := by omega
            have hj0 : (0 : Int) ≤ (j : Int) := by omega
            have hj1 : (j : Int) < (n2 : Int) := by omega
            have HST2 := hide hst
            obtain ⟨W6, hW6⟩ : ∃ W, wr.drew = W := ⟨_, rfl⟩
            have I6 := hide (show BkI w P A1 n1 c1 A2 n2 c2 G Q (bs ++ bkK Q k (xs.take i)) u4 W6 by rw [← hW6]; exact hI.out.call (Below.refl _ _).drew)
            have N6 := hide (show W6.ownsRow w.heap.size 3 1 (.slice (some ⟨g5, 0, none⟩) xs.length c5) xs.length (cellsI (toI xs)) by rw [← hW6]; exact hN.out)
            have HW6 := hide hW6
            have hkl : (bkK Q k (xs.take i)).length ≤ 2 := by have h1 := bkK_len Q k (xs.take i); rw [List.length_take] at h1; omega
            have hal : (bs ++ bkK Q k (xs.take i)).length ≤ 4096 := by rw [List.length_append]; omega
            clear hjx hz hst HST hW6
            by_cases hle : z ≤ (r : Int)
            · have hle2 := hide hle
              have hd : decide (z ≤ (r : Int)) = true := decide_eq_true hle
              have HSZ := hide I6.out.b.size
              go_upto_region 10 with (fail)
              go_region
              rw [HW6.out]
              clear HW6 x0 y1 y2 hI hN hle
              go_upto_region 12 with (at_builtin; refine wpList_append_own _ rfl (.tmp 38) (.tmp 42) 33 rfl w.heap.size 35 i0 (.agg #[.int .i64 0, .int .i64 0]) 2 16 Try.underlying33 hi hz0 hz1 hz2 rfl (by decide) _ (bs ++ bkK Q k (xs.take i)).length (bkcells (bs ++ bkK Q k (xs.take i))) rfl (I6.out.o.alloc _) ⟨W6.heap.size, 0, none⟩ 1 1 [.int .i64 (k : Int), .int .i64 (j : Int)] rfl rfl (bk_new _ _ _ _) (bk_cells _ _) (by unfold maxLen; omega) (by omega) (Nat.le_trans HSZ.out (by simp)) ?_)
              intro v7 w7 ho7 hg7 _
              have I7 := hide (show BkI w P A1 n1 c1 A2 n2 c2 G Q (bs ++ bkK Q k (xs.take (i + 1))) v7 w7 by
                have h := HST2.out
                rw [if_pos hle2.out] at h
                rw [h, ← List.append_assoc]
                exact I6.out.app (by rw [List.length_append]; exact ho7) hg7)
              have N7 := hide (I6.out.own N6.out hg7)
              clear ho7 hg7 I6 N6
              go_wp2_with fail
              go_roundw
              case rel => exact ⟨i + 1, by go_num, by omega, I7, N7⟩
              case measure => simp [intOf]; omega
            · have hd : decide (z ≤ (r : Int)) = false := decide_eq_false hle
              have I7 := hide (show BkI w P A1 n1 c1 A2 n2 c2 G Q (bs ++ bkK Q k (xs.take (i + 1))) u4 W6 by
                have h := HST2.out
                rw [if_neg hle, List.append_nil] at h
                rw [h]
                exact I6.out)
              go_upto_region 10 with (fail)
              go_region
              rw [HW6.out]
              clear HW6 x0 y1 y2 hI hN
              go_wp2_with fail
              go_roundw
              case rel => exact ⟨i + 1, by go_num, by omega, I7, N6⟩
              case measure => simp [intOf]; omega
          · obtain rfl : i = xs.length := by omega
            have I8 := hide (show BkI w P A1 n1 c1 A2 n2 c2 G Q (bkL (suc l) Q (k + 1)) u4 wr by rw [HBY.out]; have h := hI.out; rw [List.take_length] at h; exact h)
            clear hI hN
            go_wp2_with fail
            go_roundw
            case rel => exact ⟨k + 1, by go_num, by omega, I8⟩
            case measure => simp [intOf]; omega
    · obtain rfl : k = n2 := by omega
      obtain ⟨A4, c4, rfl, -, -⟩ := own_form hI.out.o
      have FIN := hide (show BackPost (bkL (suc l) Q k) w (.returned (.slice A4 (bkL (suc l) Q k).length c4)) wr from ⟨A4, c4, rfl, hI.out.o, hI.out.b⟩)
      clear hI
      go_wp2_with fail
      go_ret
      exact FIN.out
end
end Go.Proofs.Ytlcmcmocjbeocaa
end

section
/-
  The contract of the reference's Back (chapter 14): the pairs that go back. Conditions: those of the types; the function is right and has an instruction.
-/
namespace Go.Proofs.Ytlcmcmocjbeocaa
open Go.RowKit
section
variable {w wr w2 : World} {P : Int} {A1 : Option Addr} {n1 c1 : Nat} {A2 : Option Addr} {n2 c2 : Nat} {l : List Ins} {G : Nat} {O : List Nat} {Q : List Int} {bs : List (Nat × Nat)} {v v2 : Value}
set_option maxRecDepth 100000 in
set_option maxHeartbeats 4000000 in
theorem rback_any (w : World) (hC : Hid (CdAt w A2 n2 l)) (hok : Hid (FlowOk l)) (hn1 : 1 ≤ n2) (hOQ : Hid (Ord14 l n2 O Q)) :
    Calls Try.prog 16 #[fv P A1 n1 c1 A2 n2 c2] w (BackPost (bkL (suc l) Q n2) w) := by
  obtain ⟨i0, hi, hz0, hz1, hz2⟩ := info_parts infoP2
  have hn2 := hC.out.few
  have HL := hide hC.out.len
  have HOL := hide hOQ.out.ord.len
  obtain ⟨W1, hW1⟩ : ∃ W, w.alloc (.cells #[.int .i64 P, .slice A1 n1 c1, .slice A2 n2 c2] 27) = W := ⟨_, rfl⟩
  have R1 := hide (show Row W1 w.heap.size 27 [.int .i64 P, .slice A1 n1 c1, .slice A2 n2 c2] by rw [← hW1]; exact Row.new w _ _)
  have B1 := hide (show Below w.heap.size w W1 by rw [← hW1]; exact below1 _ _)
  have HW1 := hide hW1
  have cr := (rrank_any (P := P) (A1 := A1) (n1 := n1) (c1 := c1) (c2 := c2) W1 (hide (hC.out.below B1.out)) hok hn1).mono fun e w' q => hOQ.out.ranks hn2 q
  clear hW1
  go_enter Try.func16, Try.ntmps16
  go_upto_region 1 with (fail)
  rw [HW1.out]
  have q0 := R1.out.cell (k := 0) rfl
  have q1 := R1.out.cell (k := 1) rfl
  have q2 := R1.out.cell (k := 2) rfl
  go_wp2_with fail
  refine cr.mono ?_
  rintro e w2 ⟨G, rfl, hr2, hG, hb2⟩
  have I2 := hide (show BkI w P A1 n1 c1 A2 n2 c2 G Q [] (.slice none 0 0) w2 from ⟨R1.out.call hb2, hr2, World.ownsRow_nil _ _ _ _, below_call B1.out hb2⟩)
  have hQl := hOQ.out.rk.len
  rw [hQl]
  clear hr2 hG hb2 cr q0 q1 q2 HW1 R1 B1 hQl
  go_wp2_with fail
  go_loopw [4, 5] (fun s4 s5 wr => ∃ (k : Nat), s5 = .int .i64 (k : Int) ∧ k ≤ n2 ∧ Hid (BkI w P A1 n1 c1 A2 n2 c2 G Q (bkL (suc l) Q k) s4 wr)) (fun _ s5 _ => n2 - (intOf s5).toNat)
  case atStart => exact ⟨0, rfl, by omega, I2⟩
  case round =>
    obtain ⟨k, rfl, hkn, hI⟩ := hrel
    clear I2
    have q2' := hI.out.f.cell (k := 2) rfl
    by_cases hlt : k < n2
    · have hk0 : (0 : Int) ≤ (k : Int) := by omega
      have hk1 : (k : Int) < (n2 : Int) := by omega
      have hbl := bkL_len (S := suc l) (suc_len l) Q k
      have q0 := hI.out.f.cell (k := 0) rfl
      have q1 := hI.out.f.cell (k := 1) rfl
      have q2 := hI.out.f.cell (k := 2) rfl
      have cn := rnext_any (P := P) (A1 := A1) (n1 := n1) (c1 := c1) (c2 := c2) (k : Int) wr (hide (hC.out.below hI.out.b)) hok.out
      rw [sucZ_nat] at cn
      have hXS := hide (fun (j : Nat) (h : j ∈ suc l k) => suc_lt hok.out h)
      have hX2 := hide (suc_len l k)
      rcases rk_nat hOQ.out.rk hlt with hq | ⟨r, hq, hr⟩
      · have HQ := hide hq
        have HBY := hide (show bkL (suc l) Q (k + 1) = bkL (suc l) Q k from bkL_no hq)
        obtain ⟨xs, hxs⟩ : ∃ xs, suc l k = xs := ⟨_, rfl⟩
        rw [hxs] at cn hX2 hXS
        obtain ⟨bs, hbs⟩ : ∃ bs, bkL (suc l) Q k = bs := ⟨_, rfl⟩
        rw [hbs] at hI HBY hbl
        clear hxs hq hbs
        go_wp2_with fail
        refine cn.mono ?_
        rintro e w5 ⟨A5, c5, rfl, ho5, hb5⟩
        have I5 := hide (hI.out.call hb5)
        rw [toI_len] at ho5 ⊢
        have N5 := hide (own_lower ho5 hI.out.b.size)
        clear ho5 hb5 cn q0 q1 q2 hI
        go_wp2_with fail
        go_loopw [4, 7] (fun s4 s7 wq => ∃ (i : Nat), s7 = .int .i64 (i : Int) ∧ i ≤ xs.length ∧ Hid (BkI w P A1 n1 c1 A2 n2 c2 G Q bs s4 wq)) (fun _ s7 _ => xs.length - (intOf s7).toNat)
        case atStart => exact ⟨0, rfl, by omega, I5⟩
        case round =>
          obtain ⟨i, rfl, hix, hI⟩ := hrel
          clear I5 N5
          have hx2 : xs.length ≤ 2 := hX2.out
          by_cases hlt2 : i < xs.length
          · have y1 := hI.out.q.cell (cellsI_at HQ.out)
            have hi0 : (0 : Int) ≤ (i : Int) := by omega
            have hi1 : (i : Int) < (xs.length : Int) := by omega
            have hd : decide ((0 : Int) ≤ -1) = false := rfl
            go_upto_region 10 with (fail)
            go_quiet (fail)
            have I7 := hide (hI.out.call (below_draws (Below.refl _ _) nq))
            clear hI y1
            go_wp2_with fail
            go_roundw
            case rel => exact ⟨i + 1, by go_num, by omega, I7⟩
            case measure => simp [intOf]; omega
          · obtain rfl : i = xs.length := by omega
            have I8 := hide (show BkI w P A1 n1 c1 A2 n2 c2 G Q (bkL (suc l) Q (k + 1)) u4 wr by rw [HBY.out]; exact hI.out)
            clear hI
            go_wp2_with fail
            go_roundw
            case rel => exact ⟨k + 1, by go_num, by omega, I8⟩
            case measure => simp [intOf]; omega
      · have HQ := hide hq
        have HBY := hide (show bkL (suc l) Q (k + 1) = bkL (suc l) Q k ++ bkK Q k (suc l k) from bkL_yes hq)
        obtain ⟨xs, hxs⟩ : ∃ xs, suc l k = xs := ⟨_, rfl⟩
        rw [hxs] at cn hX2 hXS HBY
        obtain ⟨bs, hbs⟩ : ∃ bs, bkL (suc l) Q k = bs := ⟨_, rfl⟩
        rw [hbs] at hI HBY hbl
        clear hxs hq hbs
        go_wp2_with fail
        refine cn.mono ?_
        rintro e w5 ⟨A5, c5, rfl, ho5, hb5⟩
        have I5 := hide (hI.out.call hb5)
        rw [toI_len] at ho5 ⊢
        have N5 := hide (own_lower ho5 hI.out.b.size)
        clear ho5 hb5 cn q0 q1 q2 hI
        go_wp2_with fail
        go_loopw [4, 7] (fun s4 s7 wq => ∃ (i : Nat), s7 = .int .i64 (i : Int) ∧ i ≤ xs.length ∧ Hid (BkI w P A1 n1 c1 A2 n2 c2 G Q (bs ++ bkK Q k (xs.take i)) s4 wq) ∧ Hid (wq.ownsRow w.heap.size 3 1 (.slice A5 xs.length c5) xs.length (cellsI (toI xs)))) (fun _ s7 _ => xs.length - (intOf s7).toNat)
        case atStart => exact ⟨0, rfl, by omega, by rw [List.take_zero]; simpa [bkK] using I5, N5⟩
        case round =>
          obtain ⟨i, rfl, hix, hI, hN⟩ := hrel
          clear I5 N5
          have hx2 : xs.length ≤ 2 := hX2.out
          by_cases hlt2 : i < xs.length
          · obtain ⟨g5, c5', he5, -, -, -, -⟩ := own_block hN.out (by omega)
            injection he5 with he5 _ he5c
            subst he5 he5c
            have hjx := List.getElem?_eq_getElem hlt2
            have x0 : wr.cell? ⟨g5, i, none⟩ = some (.int .i64 ((xs[i] : Nat) : Int)) := by
              rw [hN.out.cellAt i (by omega), cellsI, List.getElem?_map, toI_get, hjx]; rfl
            have hjn : xs[i] < n2 := by have h1 := hXS.out xs[i] (List.getElem_mem hlt2); have h2 := HL.out; omega
            have HST := hide (bkK_step (Q := Q) (k := k) hjx)
            generalize xs[i] = j at x0 hjn HST
            obtain ⟨z, hz⟩ := int_get (zs := Q) (k := j) (by rw [hOQ.out.rk.len]; exact hjn)
            have hst := HST.out
            rw [hz, HQ.out, Option.getD_some, Option.getD_some] at hst
            have y1 := hI.out.q.cell (cellsI_at HQ.out)
            have y2 := hI.out.q.cell (cellsI_at hz)
            have hi0 : (0 : Int) ≤ (i : Int) := by omega
            have hi1 : (i : Int) < (xs.length : Int) := by omega
            have hj0 : (0 : Int) ≤ (j : Int) := by omega
            have hj1 : (j : Int) < (n2 : Int) := by omega
            have HST2 := hide hst
            have hkl : (bkK Q k (xs.take i)).length ≤ 2 := by have h1 := bkK_len Q k (xs.take i); rw [List.length_take] at h1; omega
            have hal : (bs ++ bkK Q k (xs.take i)).length ≤ 4096 := by rw [List.length_append]; omega
            clear hjx hz hst HST
            by_cases hle : z ≤ (r : Int)
            · have hle2 := hide hle
              have hd : decide (z ≤ (r : Int)) = true := decide_eq_true hle
              go_upto_region 10 with (fail)
              go_quiet (fail)
              obtain ⟨W6, hW6⟩ : ∃ W, wr.drewN nq = W := ⟨_, rfl⟩
              have I6 := hide (show BkI w P A1 n1 c1 A2 n2 c2 G Q (bs ++ bkK Q k (xs.take i)) u4 W6 by rw [← hW6]; exact hI.out.call (below_draws (Below.refl _ _) nq))
              have N6 := hide (show W6.ownsRow w.heap.size 3 1 (.slice (some ⟨g5, 0, none⟩) xs.length c5) xs.length (cellsI (toI xs)) by rw [← hW6]; exact hN.out)
              have HW6 := hide hW6
              have x6 : W6.cell? ⟨g5, i, none⟩ = some (.int .i64 (j : Int)) := by rw [← hW6]; exact x0
              clear hW6
              rw [HW6.out]
              have HSZ := hide I6.out.b.size
              clear HW6 x0 y1 y2 hI hN hle
              go_upto_region 9 with (at_builtin; refine wpList_append_own _ rfl (.tmp 45) (.tmp 52) 33 rfl w.heap.size 35 i0 (.agg #[.int .i64 0, .int .i64 0]) 2 16 Try.underlying33 hi hz0 hz1 hz2 rfl (by decide) _ (bs ++ bkK Q k (xs.take i)).length (bkcells (bs ++ bkK Q k (xs.take i))) rfl (I6.out.o.alloc _) ⟨W6.heap.size, 0, none⟩ 1 1 [.int .i64 (k : Int), .int .i64 (j : Int)] rfl rfl (bk_new _ _ _ _) (bk_cells _ _) (by unfold maxLen; omega) (by omega) (Nat.le_trans HSZ.out (by simp)) ?_)
              intro v7 w7 ho7 hg7 _
              have I7 := hide (show BkI w P A1 n1 c1 A2 n2 c2 G Q (bs ++ bkK Q k (xs.take (i + 1))) v7 w7 by
                have h := HST2.out
                rw [if_pos hle2.out] at h
                rw [h, ← List.append_assoc]
                exact I6.out.app (by rw [List.length_append]; exact ho7) hg7)
              have N7 := hide (I6.out.own N6.out hg7)
              clear ho7 hg7 I6 N6
              go_wp2_with fail
              go_roundw
              case rel => exact ⟨i + 1, by go_num, by omega, I7, N7⟩
              case measure => simp [intOf]; omega
            · have hd : decide (z ≤ (r : Int)) = false := decide_eq_false hle
              go_upto_region 10 with (fail)
              go_quiet (fail)
              obtain ⟨W6, hW6⟩ : ∃ W, wr.drewN nq = W := ⟨_, rfl⟩
              have I6 := hide (show BkI w P A1 n1 c1 A2 n2 c2 G Q (bs ++ bkK Q k (xs.take i)) u4 W6 by rw [← hW6]; exact hI.out.call (below_draws (Below.refl _ _) nq))
              have N6 := hide (show W6.ownsRow w.heap.size 3 1 (.slice (some ⟨g5, 0, none⟩) xs.length c5) xs.length (cellsI (toI xs)) by rw [← hW6]; exact hN.out)
              have HW6 := hide hW6
              clear hW6
              rw [HW6.out]
              have I7 := hide (show BkI w P A1 n1 c1 A2 n2 c2 G Q (bs ++ bkK Q k (xs.take (i + 1))) u4 W6 by
                have h := HST2.out
                rw [if_neg hle, List.append_nil] at h
                rw [h]
                exact I6.out)
              clear HW6 x0 y1 y2 hI hN
              go_wp2_with fail
              go_roundw
              case rel => exact ⟨i + 1, by go_num, by omega, I7, N6⟩
              case measure => simp [intOf]; omega
          · obtain rfl : i = xs.length := by omega
            have I8 := hide (show BkI w P A1 n1 c1 A2 n2 c2 G Q (bkL (suc l) Q (k + 1)) u4 wr by rw [HBY.out]; have h := hI.out; rw [List.take_length] at h; exact h)
            clear hI hN
            go_wp2_with fail
            go_roundw
            case rel => exact ⟨k + 1, by go_num, by omega, I8⟩
            case measure => simp [intOf]; omega
    · obtain rfl : k = n2 := by omega
      obtain ⟨A4, c4, rfl, -, -⟩ := own_form hI.out.o
      have FIN := hide (show BackPost (bkL (suc l) Q k) w (.returned (.slice A4 (bkL (suc l) Q k).length c4)) wr from ⟨A4, c4, rfl, hI.out.o, hI.out.b⟩)
      clear hI
      go_wp2_with fail
      go_ret
      exact FIN.out
end
end Go.Proofs.Ytlcmcmocjbeocaa
end

section
/-
  PostorderBack's law, walked: it returns true. Conditions: those of the types.
-/
namespace Go.Proofs.Ytlcmcmocjbeocaa
open Go.RowKit

/-- What a function hands back: pairs that can be read. -/
def PrPost (bs : List (Nat × Nat)) (w : World) (e : Ending) (w' : World) : Prop := ∃ A c, e = .returned (.slice A bs.length c) ∧ Sees w' w'.heap.size A (bkcells bs) ∧ Below w.heap.size w w'
theorem PrPost.of {bs : List (Nat × Nat)} {w w' : World} {e : Ending} (h : BackPost bs w e w') : PrPost bs w e w' := by
  obtain ⟨A, c, he, ho, hb⟩ := h
  exact ⟨A, c, he, Sees.ownN ho, hb⟩
/-- What '==' says of two pairs. -/
@[go_sem] theorem eq_pair (a b c d : Int) (w : World) : (Op.equalIn 10000 35 (.agg #[.int .i64 a, .int .i64 b]) (.agg #[.int .i64 c, .int .i64 d])).run Try.prog w = .ok (a == c && b == d) w := by
  have u3 := Try.underlying3
  have a3 := Try.isAgg3
  have z3 := Try.sizeOf3
  rw [show (10000 : Nat) = 9999 + 1 from rfl, Op.equalIn]
  simp only [Sem.run_bind, run_underlying Try.underlying35, Result.andThen_ok]
  simp only [Std.Legacy.Range.forIn_eq_forIn_range', Std.Legacy.Range.size, Nat.sub_zero, Nat.add_sub_cancel, Nat.div_one, List.range'_succ, List.range'_zero, List.forIn_cons, List.forIn_nil]
  go_simp
  by_cases h1 : a = c <;> by_cases h2 : b = d <;> simp [h1, h2]
/-- One pair. -/
theorem pr_at {w : World} {B : Nat} {A : Option Addr} {bs : List (Nat × Nat)} (h : Sees w B A (bkcells bs)) {i : Nat} (hi : i < bs.length) : ∃ b off, A = some ⟨b, off, none⟩ ∧ w.cell? ⟨b, off + i * 2, none⟩ = some (.int .i64 (bs[i].1 : Int)) ∧ w.cell? ⟨b, off + i * 2 + 1, none⟩ = some (.int .i64 (bs[i].2 : Int)) := by
  obtain ⟨h1, h2⟩ := bkcells_at (List.getElem?_eq_getElem hi)
  obtain ⟨b, off, e, _, hc⟩ := h _ _ h1
  obtain ⟨b', off', e', _, hc'⟩ := h _ _ h2
  have he := e.symm.trans e'
  injection he with he
  injection he with e1 e2
  subst e1 e2
  exact ⟨b, off, e, hc, hc'⟩
set_option maxRecDepth 100000 in
set_option maxHeartbeats 2000000 in
theorem backlaw_walk (A0 : Option Addr) (n0 c0 : Nat) (zs : List Int) (w : World)
    (hA : Hid (A0 = none → c0 = 0)) (hn : Hid (zs.length = n0)) (hnc : n0 ≤ c0) (hm : n0 ≤ 9223372036854775807) (hs : Hid (Sees w w.heap.size A0 (cellsU8 zs))) (hz : Hid (∀ z ∈ zs, 0 ≤ z ∧ z ≤ 255)) :
    Calls Try.prog 4 #[.slice A0 n0 c0] w fun e w' => e = .returned (.bool true) ∧ Below w.heap.size w w' := by
  go_enter Try.func4, Try.ntmps4
  go_wp2_with fail
  refine (awake14_any w).mono ?_
  rintro e w1 ⟨rfl, hb1⟩
  have HB1 := hide hb1
  have HS1 := hide ((hs.out.below hb1).more hb1.size)
  clear hb1
  go_wp2_with fail
  refine (function14_any A0 n0 c0 zs w1 hA hn hnc hm HS1 hz).mono ?_
  rintro e w2 ⟨P, A1, n1, c1, A2, n2, c2, l, rfl, hC, hok, hn2, hb2⟩
  obtain ⟨W, hW⟩ : ∃ V, w2.alloc (.cells #[.int .i64 P, .slice A1 n1 c1, .slice A2 n2 c2] 27) = V := ⟨_, rfl⟩
  have HW := hide hW
  have hb3 : Below w2.heap.size w2 W := by rw [← hW]; exact below1 _ _
  obtain ⟨B, hB⟩ : ∃ B, w2.heap.size = B := ⟨_, rfl⟩
  have HBB := hide hB
  have RB := hide (show Row W B 27 [.int .i64 P, .slice A1 n1 c1, .slice A2 n2 c2] by rw [← hW, ← hB]; exact Row.new w2 _ _)
  have HC := hide (hC.below hb3)
  have HBW := hide (HB1.out.trans ((hb2.trans (hb3.mono hb2.size)).mono HB1.out.size))
  have hn3 := hC.few
  obtain ⟨O, Q, hOQ⟩ := ord14 hok hC.len hn2
  have OA := hide (fun (V : World) (hb : Below W.heap.size W V) => (back_any (P := P) (A1 := A1) (n1 := n1) (c1 := c1) (c2 := c2) V (hide (HC.out.below hb)) (hide hok) hn2 (hide hOQ)).mono fun e w' q => PrPost.of q)
  have OB := hide (fun (V : World) (hb : Below W.heap.size W V) => (rback_any (P := P) (A1 := A1) (n1 := n1) (c1 := c1) (c2 := c2) V (hide (HC.out.below hb)) (hide hok) hn2 (hide hOQ)).mono fun e w' q => PrPost.of q)
  have hbl := bkL_len (S := suc l) (suc_len l) Q n2
  obtain ⟨bs, hbs⟩ : ∃ bs, bkL (suc l) Q n2 = bs := ⟨_, rfl⟩
  rw [hbs] at OA OB hbl
  clear hC hok hb2 hb3 hW hB HS1 HB1 hn2 hbs hOQ
  go_upto_region 4 with (fail)
  rw [HW.out, HBB.out]
  clear HW HBB
  have q0 := fun (w' : World) (hb : Below W.heap.size W w') => (RB.out.call hb).cell (k := 0) rfl
  have q1 := fun (w' : World) (hb : Below W.heap.size W w') => (RB.out.call hb).cell (k := 1) rfl
  have q2 := fun (w' : World) (hb : Below W.heap.size W w') => (RB.out.call hb).cell (k := 2) rfl
  go_region_held3 (fun w' => Below W.heap.size W w') (first | exact bb | exact below_draws (Below.refl _ _) 1 | exact below_draws bb _)
    (first
      | (go_at_call 15; with_reducible refine Calls.mono (OA.out _ (by first | exact bb | exact bb.drew | exact (Below.refl _ _).drew)) ?_; intro e w5 h5; unfold PrPost at h5; obtain ⟨Aa, ca, rfl, hoa, hb5⟩ := h5; have HLa := hide hoa; have bb := below_call (show Below W.heap.size W _ from by first | exact bb | exact bb.drew | exact (Below.refl _ _).drew) hb5; clear hoa)
      | (go_at_call 16; with_reducible refine Calls.mono (OB.out _ bb) ?_; intro e w6 h6; unfold PrPost at h6; obtain ⟨Ab, cb, rfl, hob, hb6⟩ := h6; have HLb := hide hob; have HLa := hide ((HLa.out.below hb6).more hb6.size); have bb := below_call bb hb6; clear hob))
  all_goals
    have HF := hide (HBW.out.trans (bb.mono HBW.out.size))
    clear bb q0 q1 q2 OA OB
    go_wp2_with fail
    go_loopw [6] (fun s6 wr => ∃ (i : Nat), s6 = .int .i64 (i : Int) ∧ i ≤ bs.length ∧ Hid (Below w6.heap.size w6 wr)) (fun s6 _ => bs.length - (intOf s6).toNat)
    case atStart => exact ⟨0, rfl, by omega, hide (Below.refl _ _)⟩
    case round =>
      obtain ⟨i, rfl, hib, hB⟩ := hrel
      by_cases hlt : i < bs.length
      · obtain ⟨b1, o1, rfl, x0, x1⟩ := pr_at HLa.out hlt
        obtain ⟨b2, o2, rfl, y0, y1⟩ := pr_at HLb.out hlt
        have x0 := keep_cellB hB.out x0
        have x1 := keep_cellB hB.out x1
        have y0 := keep_cellB hB.out y0
        have y1 := keep_cellB hB.out y1
        generalize bs[i] = u at x0 x1 y0 y1
        obtain ⟨ua, ub⟩ := u
        have hi0 : (0 : Int) ≤ (i : Int) := by omega
        have hi1 : (i : Int) < (bs.length : Int) := by omega
        have B2 := hide (show Below w6.heap.size w6 wr.drew from hB.out.drew)
        go_upto_region 10 with (fail)
        go_region
        clear x0 x1 y0 y1 hB
        go_wp2_with fail
        go_roundw
        case rel => exact ⟨i + 1, by go_num, by omega, B2⟩
        case measure => simp [intOf]; omega
      · obtain rfl : i = bs.length := by omega
        have FIN := hide (HF.out.trans (hB.out.mono HF.out.size))
        clear hB
        go_wp2_with fail
        go_ret
        exact ⟨rfl, FIN.out⟩
end Go.Proofs.Ytlcmcmocjbeocaa
end

section
/-
  PostorderBack: for every input the law returns true, and each argument reads behind the call as it did before. No condition: every input that the row speaks of.
-/
namespace Go.Proofs.Ytlcmcmocjbeocaa
open Go.ChangeShapes Go.WideShapes Go.ChangeAt Go.RowKit

namespace rowPostorderBack
theorem own_knob : ownKnob Try.prog.godebug = none := by kernel_rfl
theorem laid_out : laidOutB Try.prog = true := by kernel_rfl
theorem cells_u8 : Try.prog.cellsOf 5 = 1 := by kernel_rfl
set_option maxRecDepth 100000 in
theorem contract (H : Type) (enc : TypeId × Value → H) (W : World) (base : Nat) (args : Array Value) (ds gs : List (DataW H)) (before : List MemPlace)
    (hval : ∀ (j : Nat) t v, Try.f4.params[j]? = some t → args[j]? = some v → Value.okWide Try.prog W .any base t v)
    (hW : DataW.Whole enc Try.prog Try.f4.params.toList Rows.postorderBackSpec.vars false W args.toList ds gs before) :
    Calls Try.prog 4 args W fun e W' => ∃ v, e = .returned v ∧ Rows.postorderBackSpec.post enc Try.prog Try.f4 false true false false W args v W' := by
  have hW' := hW
  obtain ⟨p, q, hA, hV, rfl, hfz, hnd⟩ := hW
  have hA : DataW.TrodAll enc Try.prog W 0 (fun _ => true) true Try.f4.params.toList args.toList ds p := hA
  rw [Try.params4] at hA hval
  obtain ⟨v0, vs0, d0, ds0, p0, q0, hargs, rfl, rfl, h0, r0⟩ := trodAll_cons hA
  obtain ⟨rfl, rfl, rfl⟩ := trodAll_nil r0
  obtain rfl : args = #[v0] := by cases args; simp_all
  obtain ⟨A0, n0, c0, zs0, rfl, hA0, hn0, hm0, hs0, hz0, hc0⟩ := open_u8s Try.underlying22 Try.underlying5 cells_u8 (hval 0 22 v0 rfl rfl) h0
  refine (backlaw_walk A0 n0 c0 zs0 W (hide hA0) (hide hn0) hc0 hm0 (hide hs0) (hide hz0)).mono fun e W' ⟨he, hB⟩ => ⟨_, he, ?_⟩
  exact law_post laid_out (by decide +kernel) rfl rfl Try.underlying4 rfl hW' hB

set_option maxRecDepth 100000 in
theorem lifted (os : Os) (started : os.Started) (H : Type) (enc : TypeId × Value → H) :
    ReturnsInHanded {} Try.checked os 4 .any (Rows.postorderBackSpec.pre6 enc Try.prog Try.f4 Rows.postorderBackRow.domain false) (Rows.postorderBackSpec.post enc Try.prog Try.f4 false true false false) := by
  refine returnsInHanded_of_change (C := Try.checked) own_knob started (by kernel_rfl) Try.func4
    (ChangeSpec.witness6 (enc := enc) (C := Try.checked) false ⟨#[], #[.slice none 0 0], []⟩ 8 (by kernel_rfl) (by kernel_rfl) (by kernel_rfl) (by kernel_rfl)) ?_
  intro W base args ds gs before hval hW _ _
  exact contract H enc W base args ds gs before hval hW

theorem proved : Rows.PostorderBackSaid :=
  OpenClaim.holds_of_wide 4 Try.f4 rfl rfl rfl rfl rfl rfl rfl ⟨rfl, rfl, rfl, rfl, rfl⟩ rfl rfl rfl rfl rfl (by kernel_rfl) Try.func4 (by kernel_rfl)
    (of_decide_eq_true (by kernel_rfl)) (by unfold Func.isWrapper; first | (rw [if_pos (by decide +kernel)]; kernel_rfl) | (rw [if_neg (by decide +kernel)]; exact ⟨rfl, rfl⟩))
    (fun os started H enc _ => lifted os started H enc)
end rowPostorderBack
end Go.Proofs.Ytlcmcmocjbeocaa
end
