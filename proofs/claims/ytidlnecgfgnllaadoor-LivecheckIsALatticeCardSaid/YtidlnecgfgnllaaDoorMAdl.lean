import Derived.Test.YtidlnecgfgnllaaDoorMAliv
import Derived.Test.YtidlnecgfgnllaaDoorMDprog
import Derived.Test.YtidlnecgfgnllaaDoorMBrrem
set_option linter.unusedVariables false
set_option linter.unusedSimpArgs false
section
/-
  The contract of spillframedraw's Live: an annotation that can be read. Conditions: those of the types; the function is right; the list of choices is one; it has an instruction.
-/
namespace Go.Proofs.YtidlnecgfgnllaaDoor
open Go.RowKit

theorem own_newA {W : World} {base n : Nat} {e : TypeId} {L : List Value} (hl : L.length = n) (hb : base ≤ W.heap.size) (hm : n ≤ 1048576) : (W.alloc (.cells L.toArray e)).ownsRow base e 1 (.slice (some ⟨W.heap.size, 0, none⟩) n n) n L := by
  refine ⟨by omega, .inr ⟨W.heap.size, n, _, rfl, hb, heap_alloc_new W _, Nat.le_refl _, by unfold maxLen; omega, by simp [hl], ?_⟩⟩
  simp only [Nat.mul_one]
  rw [List.take_of_length_le (by omega)]
theorem own_two (w : World) (a b : Int) {base : Nat} (hb : base ≤ w.heap.size) : (w.alloc (.cells #[.int .i64 a, .int .i64 b] 3)).ownsRow base 3 1 (.slice (some ⟨w.heap.size, 0, none⟩) 2 2) [a, b].length (cellsI [a, b]) := own_newA (L := cellsI [a, b]) rfl hb (by omega)
theorem int_two {a b : Int} (ha : -9223372036854775808 ≤ a ∧ a ≤ 9223372036854775807) (hb : -9223372036854775808 ≤ b ∧ b ≤ 9223372036854775807) : IntOk [a, b] := fun z hz => by
  rcases List.mem_cons.1 hz with h | h
  · omega
  · have := List.mem_singleton.1 h
    omega
theorem rmL_asc {l : List Int} {x : Int} (h : Asc l) : Asc (removeL l x) := ⟨List.Pairwise.filter _ h.1, fun z hz => h.2 z (List.mem_filter.1 hz).1⟩
theorem rmL_mem {l : List Int} {x z : Int} (h : z ∈ removeL l x) : z ∈ l := (List.mem_filter.1 h).1
theorem lvin_set {n M k : Nat} {L : List (List Int)} {r : List Int} (h : LvIn n M L) (ha : Asc r) (hr : ∀ z ∈ r, z < M) : LvIn n M (L.set k r) := by
  have key : ∀ m : Nat, (L.set k r).getD m [] = L.getD m [] ∨ (L.set k r).getD m [] = r := fun m => by
    rw [List.getD_eq_getElem?_getD, List.getD_eq_getElem?_getD, List.getElem?_set]
    split
    · split
      · exact .inr rfl
      · rename_i h1 h2
        subst h1
        rw [List.getElem?_eq_none (by omega)]
        exact .inl rfl
    · exact .inl rfl
  refine ⟨by rw [List.length_set]; exact h.len, fun m => ?_, fun m z hz => ?_⟩
  · rcases key m with e | e
    · rw [e]; exact h.asc m
    · rw [e]; exact ha
  · rcases key m with e | e
    · rw [e] at hz; exact h.lt m z hz
    · rw [e] at hz; exact hr z hz
theorem Anw.tail {w : World} {base g n : Nat} {vs sp : List Value} {zss : List (List Int)} (h : Anw w base g vs sp zss) (hn : zss.length = n + 1) (hm : n ≤ 1048576) : Ann w (some ⟨g, 1, none⟩) n (zss.drop 1) := by
  refine ⟨by rw [List.length_drop]; omega, hm, vs.drop 1, fun k u hu => ⟨g, 1, rfl, h.row.lt, ?_⟩, by rw [List.length_drop, h.len]; omega, fun i v zs hv hz => ?_⟩
  · rw [List.getElem?_drop] at hu
    exact h.row.cell (by rw [List.getElem?_append_left (List.getElem?_eq_some_iff.1 hu).1]; exact hu)
  · rw [List.getElem?_drop] at hv hz
    have ho := h.own (1 + i) v zs hv hz
    obtain ⟨A, c, rfl, hA, -⟩ := own_form ho
    exact ⟨A, c, rfl, lst_own ho (h.rng (1 + i) zs hz), hA⟩
/-- A row of lists that a call made: whole, or without its first. -/
def AnwD (w : World) (base : Nat) (A : Option Addr) (n : Nat) (zss : List (List Int)) : Prop :=
  ∃ (G : Nat) (vs sp : List Value) (zs0 : List (List Int)), Anw w base G vs sp zs0 ∧ zs0.length ≤ 1048576 ∧ ((A = some ⟨G, 0, none⟩ ∧ n = zs0.length ∧ zss = zs0) ∨ (n + 1 = zs0.length ∧ A = some ⟨G, 1, none⟩ ∧ zss = zs0.drop 1) ∨ (n = 0 ∧ zss = []))
section
variable {w w' : World} {base g : Nat} {A : Option Addr} {n : Nat} {zss : List (List Int)}
theorem AnwD.ann (h : AnwD w base A n zss) : Ann w A n zss := by
  obtain ⟨G, vs, sp, zs0, ho, hm, ⟨rfl, rfl, rfl⟩ | ⟨hn, rfl, rfl⟩ | ⟨rfl, rfl⟩⟩ := h
  · exact ho.ann rfl hm
  · exact ho.tail (by omega) (by omega)
  · exact ⟨rfl, by omega, [], Sees.nil_ _ _ _, rfl, fun i v zs hv => by simp at hv⟩
theorem AnwD.below (h : AnwD w base A n zss) (hb : Below w.heap.size w w') : AnwD w' base A n zss := by
  obtain ⟨G, vs, sp, zs0, ho, hm, hq⟩ := h
  exact ⟨G, vs, sp, zs0, ho.below hb, hm, hq⟩
theorem AnwD.lower {base' : Nat} (h : AnwD w base A n zss) (hb : base' ≤ base) : AnwD w base' A n zss := by
  obtain ⟨G, vs, sp, zs0, ho, hm, hq⟩ := h
  exact ⟨G, vs, sp, zs0, ho.lower hb, hm, hq⟩
theorem AnwD.grown (h : AnwD w base A n zss) (hG : w.grownBy w' (some g)) (hg : g < base) : AnwD w' base A n zss := by
  obtain ⟨G, vs, sp, zs0, ho, hm, hq⟩ := h
  exact ⟨G, vs, sp, zs0, ho.grown hG hg, hm, hq⟩
theorem AnwD.away {k : Nat} {u : Value} (h : AnwD w base A n zss) (hg : g < base) : AnwD (w.setCell ⟨g, k, none⟩ u) base A n zss := h.grown (fgrown_set w g k u) hg
end
/-- What Live hands back. -/
def DlPost (g : Nat) (w : World) (e : Ending) (w' : World) : Prop :=
  ∃ (A : Option Addr) (n c : Nat) (zss : List (List Int)), e = .returned (.agg #[.slice A n c]) ∧ AnwD w' w.heap.size A n zss ∧ Codes w' g ∧ w.grownBy w' (some g)
section
variable {g : Nat} {P : Int} {A1 : Option Addr} {n1 c1 : Nat} {A2 : Option Addr} {n2 c2 X G c : Nat} {l : List Ins} {zss : List (List Int)} {w wr w2 : World} {vs sp : List Value}
theorem LiI.fin (h : LiI w g P A1 n1 c1 A2 n2 c2 X G c vs sp zss wr) (hl : zss.length = n2) (hn : n2 ≤ 1048576) :
    DlPost g w (.returned (.agg #[.slice (some ⟨G, 0, none⟩) n2 c])) (wr.setCell ⟨w.heap.size + 1, 0, none⟩ (.slice (some ⟨G, 0, none⟩) n2 c)) :=
  ⟨_, n2, c, zss, rfl, ⟨G, vs, sp, zss, h.o.farc (p := ⟨w.heap.size + 1, 0, none⟩) h.res rfl (by decide) (by decide), by omega, .inl ⟨rfl, hl.symm, rfl⟩⟩, h.cd.kept (fgrown_set wr (w.heap.size + 1) 0 _) (fun k e => by injection e with e; have := h.gs; omega), grown_new1 h.gr (by omega) 0 _⟩
theorem LiI.fin1 {n : Nat} {A : Option Addr} {c' : Nat} (h : LiI w g P A1 n1 c1 A2 n2 c2 X G c vs sp zss wr) (hl : zss.length = n2) (hn : n2 ≤ 1048576) (he : n + 1 = n2) (hA : A = some ⟨G, 1, none⟩ ∨ n = 0) :
    DlPost g w (.returned (.agg #[.slice A n c'])) ((wr.setCell ⟨X, 0, none⟩ (.slice A n c')).setCell ⟨w.heap.size + 1, 0, none⟩ (.slice A n c')) := by
  have hx := h.xs
  have o1 := h.o.farc (p := ⟨X, 0, none⟩) (u := .slice A n c') h.x rfl (by decide) (by decide)
  have r1 := h.res.far (p := ⟨X, 0, none⟩) (by simp; omega) (.slice A n c')
  have o2 := o1.farc (p := ⟨w.heap.size + 1, 0, none⟩) (u := .slice A n c') r1 rfl (by decide) (by decide)
  refine ⟨A, n, c', if A = some ⟨G, 1, none⟩ then zss.drop 1 else [], rfl, ⟨G, vs, sp, zss, o2, by omega, ?_⟩, (h.cd.kept (fgrown_set wr X 0 _) (fun k e => by injection e with e; have := h.gs; omega)).kept (fgrown_set _ (w.heap.size + 1) 0 _) (fun k e => by injection e with e; have := h.gs; omega), grown_new1 (grown_new1 h.gr (by omega) 0 _) (by omega) 0 _⟩
  split
  · rename_i e
    subst e
    exact .inr (.inl ⟨by omega, rfl, rfl⟩)
  · rename_i e
    obtain rfl : n = 0 := hA.resolve_left e
    exact .inr (.inr ⟨rfl, rfl⟩)
set_option maxRecDepth 100000 in
set_option maxHeartbeats 8000000 in
theorem dlive_any (w : World) (hC : Hid (CdAt w A2 n2 l)) (hok : Hid (LvOk l n1)) (hCd : Hid (Codes w g)) (hn2 : 1 ≤ n2) :
    Calls Tryd.prog 26 #[.pointer (some ⟨g, 0, none⟩), fv P A1 n1 c1 A2 n2 c2] w (DlPost g w) := by
  obtain ⟨j0, ji, jz0, jz1, jz2⟩ := info_parts infoS
  have hlen := hC.out.len
  have hnf := hC.out.few
  have hMf := hok.out.few
  have hgs := hCd.out.lt
  obtain ⟨W2, hW2⟩ : ∃ W, (w.alloc (.cells #[.int .i64 P, .slice A1 n1 c1, .slice A2 n2 c2] 30)).alloc (.cells #[.slice none 0 0] 25) = W := ⟨_, rfl⟩
  have F2 := hide (show Row W2 w.heap.size 30 [.int .i64 P, .slice A1 n1 c1, .slice A2 n2 c2] by rw [← hW2]; exact (Row.new w _ _).alloc _)
  have R2 := hide (show Row W2 (w.heap.size + 1) 25 [.slice none 0 0] by rw [← hW2]; exact (Row.new _ _ _).at_ (by simp))
  have B2 := hide (show Below w.heap.size w W2 by rw [← hW2]; exact below2 w _ _)
  have hs2 : W2.heap.size = w.heap.size + 2 := by rw [← hW2]; simp
  have HW2 := hide hW2
  have HS2 := hide hs2
  have csol := rsolve_any (P := P) (A1 := A1) (n1 := n1) (c1 := c1) (c2 := c2) W2 (hide (hC.out.below B2.out)) hok
  have hsl : (solL l n1).length = n2 := by rw [(sol_in hok.out).len, hlen]
  have HSI := hide (show LvIn n2 n1 (solL l n1) by rw [← hlen]; exact sol_in hok.out)
  obtain ⟨sol, hsol⟩ : ∃ s, solL l n1 = s := ⟨_, rfl⟩
  rw [hsol] at csol hsl HSI
  clear hsol
  have q0 := F2.out.cell (k := 0) rfl
  have q1 := F2.out.cell (k := 1) rfl
  have q2 := F2.out.cell (k := 2) rfl
  clear hW2 hs2
  go_enter Tryd.func26, Tryd.ntmps26
  go_upto_region 1 with (fail)
  rw [HW2.out]
  clear HW2
  go_wp2_with fail
  refine csol.mono ?_
  rintro e w3 ⟨g3, c3, us, up, rfl, ho3, hb3⟩
  rw [hsl]
  obtain ⟨W4, hW4⟩ : ∃ W, w3.alloc (.cells #[.slice (some ⟨g3, 0, none⟩) n2 c3] 25) = W := ⟨_, rfl⟩
  have hb4 : Below w3.heap.size w3 W4 := by rw [← hW4]; exact below1 _ _
  have hx1 : w.heap.size + 2 ≤ w3.heap.size := by have := hb3.size; have := HS2.out; omega
  have I4 := hide (show LiI w g P A1 n1 c1 A2 n2 c2 w3.heap.size g3 c3 us up sol W4 from
    ⟨(F2.out.call hb3).call hb4, (R2.out.call hb3).call hb4, by rw [← hW4]; exact Row.new w3 _ _, (ho3.below hb4).lower (show w.heap.size ≤ W2.heap.size from B2.out.size),
      hCd.out.below (below_call (below_call B2.out hb3) hb4), grown_below (below_call (below_call B2.out hb3) hb4) _, hgs, by omega⟩)
  have HW4 := hide hW4
  obtain ⟨X1, hX1⟩ : ∃ X, w3.heap.size = X := ⟨_, rfl⟩
  rw [hX1] at I4 hx1
  have HX1 := hide hX1
  clear hb3 hb4 hW4 ho3 hX1 q0 q1 q2 csol F2 R2 B2 HS2
  go_upto_region 2 with (fail)
  rw [HW4.out, HX1.out]
  clear HW4 HX1
  have cn := next_any g 3 W4 (hide I4.out.cd) (by omega) (by omega)
  go_wp2_with fail
  refine cn.mono ?_
  rintro e w5 ⟨v5, rfl, v0, v1, hC5, hG5, -⟩
  have I5 := hide (I4.out.next hG5 hC5)
  clear hC5 hG5 cn I4
  by_cases hz5 : v5 = 0
  · subst hz5
    have x0 := I5.out.x.cell (k := 0) rfl
    have z1 := I5.out.res.cell (k := 0) rfl
    have z2 := I5.out.res.free 0
    have HF := hide (I5.out.fin hsl (by omega))
    have R9 := I5.out.res.set_ 0 (.slice (some ⟨g3, 0, none⟩) n2 c3)
    obtain ⟨W9, hW9⟩ : ∃ W, w5.setCell ⟨w.heap.size + 1, 0, none⟩ (.slice (some ⟨g3, 0, none⟩) n2 c3) = W := ⟨_, rfl⟩
    rw [hW9] at R9 HF
    have HW9 := hide hW9
    have hld := load_row (agg_live (w := W9)) (size_live (w := W9)) rfl R9
    clear hW9 R9 I5
    go_wp2_with fail
    rw [HW9.out]
    exact bodyPost_ret (results_cell1 (fn := Tryd.f26) (t := 4) (T := 25) rfl _ W9 _ _ _ rfl hld) rfl HF.out
  have hz5' : (v5 == 0) = false := by simpa using hz5
  have y0 := I5.out.x.cell (k := 0) rfl
  have ho0 : w5.ownsRow w5.heap.size 42 1 (.slice none 0 0) 0 [] := ⟨rfl, .inl ⟨rfl, rfl⟩⟩
  have hul : us.length = n2 := by rw [I5.out.o.len, hsl]
  have HSe := hide (show Sees w5 w5.heap.size (some ⟨g3, 0, none⟩) us from fun k u hu => ⟨g3, 0, rfl, I5.out.o.row.lt, by rw [Nat.zero_add]; exact I5.out.o.row.cell (by rw [List.getElem?_append_left (List.getElem?_eq_some_iff.1 hu).1]; exact hu)⟩)
  have H1 := hide (slices_one I5.out.o)
  go_upto_region 4 with (fail)
  go_wp2_with (at_builtin; refine wpList_append_sees rfl (.const (.slice none 0 0)) (.tmp 18) 23 rfl w5.heap.size 42 j0 (.slice none 0 0) 24 Tryd.underlying23 ji jz0 jz1 jz2 rfl _ 0 [] rfl ho0 w5.heap.size (some ⟨g3, 0, none⟩) n2 c3 us rfl (hide (fun e => by cases e)) hul HSe.out H1.out (by unfold maxLen; omega) (by omega) (Nat.le_refl _) ?_)
  intro v6 w6 ho6 hg6
  have hb6 : Below w5.heap.size w5 w6 := (Below.refl w5.heap.size w5).grown hg6 (Nat.le_refl _) (fun k hk => by cases hk)
  obtain ⟨G, c5, sp, rfl, hG6, hR6⟩ := own_row ho6 (by omega)
  have hGB : w.heap.size ≤ G := by have := I5.out.gr.size; omega
  have hcap : n2 ≤ c5 := by
    rcases ho6.2 with ⟨e, h0⟩ | ⟨g', cap, cur, hv, -, -, hn, -, -, -⟩
    · omega
    · injection hv with e1 e2 e3
      omega
  obtain ⟨W6, hW6⟩ : ∃ W, w6.alloc (.cells #[.slice (some ⟨G, 0, none⟩) n2 c5] 25) = W := ⟨_, rfl⟩
  have hb7 : Below w6.heap.size w6 W6 := by rw [← hW6]; exact below1 _ _
  have hx2 : w.heap.size + 1 < w6.heap.size := by have := hb6.size; have := I5.out.res.lt; omega
  have I6 := hide (show LiI w g P A1 n1 c1 A2 n2 c2 w6.heap.size G c5 us sp sol W6 from
    ⟨((I5.out.f).call hb6).call hb7, ((I5.out.res).call hb6).call hb7, by rw [← hW6]; exact Row.new w6 _ _,
      ⟨I5.out.o.len, hR6.call hb7, hGB, fun i v zs hv hz => own_below (own_below (I5.out.o.own i v zs hv hz) hb6) hb7, I5.out.o.rng⟩,
      (I5.out.cd.below hb6).below hb7, I5.out.gr.trans (grown_below (below_call hb6 hb7) _), hgs, hx2⟩)
  have HW6 := hide hW6
  obtain ⟨X, hX⟩ : ∃ X, w6.heap.size = X := ⟨_, rfl⟩
  rw [hX] at I6
  have HX := hide hX
  clear hb6 hb7 hW6 ho6 hg6 hX hR6 hx2 y0 I5 HSe H1 ho0 hul hG6 hGB hx1
  go_upto_region 5 with (fail)
  rw [HW6.out, HX.out]
  clear HW6 HX
  have cn := next_any g 4 W6 (hide I6.out.cd) (by omega) (by omega)
  go_wp2_with fail
  refine cn.mono ?_
  rintro e w7 ⟨v7, rfl, v0, v1, hC7, hG7, -⟩
  have I7 := hide (I6.out.next hG7 hC7)
  clear hC7 hG7 cn I6
  go_wp2_with fail
  obtain ⟨cnt, rfl⟩ := Int.eq_ofNat_of_zero_le v0
  go_loopw [7] (fun s7 wr => ∃ (d : Nat) (L : List (List Int)) (vs : List Value), s7 = .int .i64 (d : Int) ∧ d ≤ 4 ∧ Hid (LvIn n2 n1 L) ∧ Hid (LiI w g P A1 n1 c1 A2 n2 c2 X G c5 vs sp L wr)) (fun s7 _ => (intOf s7).toNat)
  case atStart => exact ⟨cnt, _, _, rfl, by omega, HSI, I7⟩
  case round =>
    obtain ⟨d, L, vs, rfl, hd3, hLI, hI⟩ := hrel
    clear I7
    have HLL := hide hLI.out.len
    have q1 := hI.out.f.cell (k := 1) rfl
    by_cases hgo : 0 < d ∧ 0 < n1
    · obtain ⟨hd0, hm0⟩ := hgo
      have hd0' : (0 : Int) < (d : Int) := by omega
      have hm0' : (0 : Int) < (n1 : Int) := by omega
      have cn := next_any g (n1 : Int) wr (hide hI.out.cd) (by omega) (by omega)
      go_wp2_with fail
      refine cn.mono ?_
      rintro e w8 ⟨s, rfl, s0, s1, hC8, hG8, -⟩
      have I8 := hide (hI.out.next hG8 hC8)
      clear hC8 hG8 cn hI q1
      go_upto_region 9 with (fail)
      have cn := next_any g 2 w8 (hide I8.out.cd) (by omega) (by omega)
      go_wp2_with fail
      refine cn.mono ?_
      rintro e w9 ⟨b9, rfl, b0, b1, hC9, hG9, -⟩
      have I9 := hide (I8.out.next hG9 hC9)
      clear hC9 hG9 cn I8
      by_cases hb9 : b9 = 0
      · subst hb9
        have HLA := hide (adI_in hLI.out s1 n2)
        have I9 := hide (show LiI w g P A1 n1 c1 A2 n2 c2 X G c5 vs sp (adI L s 0) w9 by rw [adI_start]; exact I9.out)
        go_wp2_with fail
        go_loopw [9] (fun s9 wr => ∃ (k : Nat) (vs : List Value), s9 = .int .i64 (k : Int) ∧ k ≤ n2 ∧ Hid (LiI w g P A1 n1 c1 A2 n2 c2 X G c5 vs sp (adI L s k) wr)) (fun s9 _ => n2 - (intOf s9).toNat)
        case atStart => exact ⟨0, vs, rfl, by omega, I9⟩
        case round =>
          obtain ⟨k, vs2, rfl, hk, hI⟩ := hrel
          clear I9
          have x0 := hI.out.x.cell (k := 0) rfl
          by_cases hlt : k < n2
          · have hkl : k < L.length := by have := HLL.out; omega
            obtain ⟨Ak, ck, hvk, z0, hlk, hnk, -⟩ := hI.out.o.vat (adI_at (s := s) hkl)
            have HUA := hide (hLI.out.asc k)
            have HST := hide (adI_step (s := s) hkl)
            have HAL := hide (show k < (adI L s k).length by rw [adI_len]; exact hkl)
            obtain ⟨u, hu⟩ : ∃ u, L.getD k [] = u := ⟨_, rfl⟩
            rw [hu] at HUA hlk hvk z0 HST
            have CU := hide (fun (V : World) (hb : Below wr.heap.size wr V) => (s_add ck (x := s) (hide (hlk.below hb)) HUA (hide rfl) : Calls Tryd.prog 17 #[.slice Ak u.length ck, .int .i64 s] V (OutPost (addL u s) V)))
            have HRA := hide (IntOk.asc (addL_asc (n := s) HUA.out))
            obtain ⟨r, hr⟩ : ∃ r, addL u s = r := ⟨_, rfl⟩
            rw [hr] at HST CU HRA
            have HPT := hide (fun (V : World) (A' : Option Addr) (c' : Nat) (h : Hid (LiI w g P A1 n1 c1 A2 n2 c2 X G c5 vs2 sp (adI L s k) V)) (ho : V.ownsRow w.heap.size 3 1 (.slice A' r.length c') r.length (cellsI r)) =>
              (show LiI w g P A1 n1 c1 A2 n2 c2 X G c5 (vs2.set k (.slice A' r.length c')) sp (adI L s (k + 1)) (V.setCell ⟨G, k, none⟩ (.slice A' r.length c')) by
                rw [HST.out]; exact h.out.put HAL.out ho HRA.out))
            have HZ := hide (fun (V : World) (h : Hid (LiI w g P A1 n1 c1 A2 n2 c2 X G c5 vs2 sp (adI L s k) V)) => (show V.cell? ⟨G, k, none⟩ = some (.slice Ak u.length ck) ∧ V.frozen? ⟨G, k, none⟩ = false from
              ⟨h.out.o.row.cell (by rw [List.getElem?_append_left (List.getElem?_eq_some_iff.1 hvk).1]; exact hvk), h.out.o.free k⟩))
            have KS := hide (fun (V : World) (h : Hid (LiI w g P A1 n1 c1 A2 n2 c2 X G c5 vs2 sp (adI L s k) V)) => (⟨h.out.x.cell (k := 0) rfl, (HZ.out V h).1⟩ : _ ∧ _))
            have HSZ := hide (show w.heap.size ≤ wr.heap.size from hI.out.gr.size)
            have J0 := hide (hI.out.call (Below.refl _ _).drew)
            have HS0 := KS.out _ J0
            have B0 := hide (show Below wr.heap.size wr wr.drew from (Below.refl _ _).drew)
            have hk0 : (0 : Int) ≤ (k : Int) := by omega
            have hkn : (k : Int) < (n2 : Int) := by omega
            clear hu hr hvk hlk hnk hkl
            go_upto_region 13 with (fail)
            refine wp_region_lastH (S := (fun V => V.cell? ⟨X, 0, none⟩ = some (.slice (some ⟨G, 0, none⟩) n2 c5) ∧ V.cell? ⟨G, k, none⟩ = some (.slice Ak u.length ck))) 11 (by kernel_rfl) rfl rfl (by kernel_rfl) ?_
            have hHeld := HS0
            refine wpAnyH_take (i := 0) (v := ?_) tk_0 (by kernel_rfl) (by kernel_rfl) (by kernel_rfl) (fun _ _ _ h => h) (Or.inl ⟨by rfl, ?_⟩) hHeld ?_
            rotate_left
            · intro V hSw
              try dsimp only at hSw
              go_simp
              all_goals with_reducible rfl
            try simp only [Act.put, List.setIfInBounds_toArray, List.set_cons_zero, List.set_cons_succ]
            refine wpAnyH_take (i := 1) (v := ?_) tk_1 (by kernel_rfl) (by kernel_rfl) (by kernel_rfl) (fun _ _ _ h => h) (Or.inl ⟨by rfl, ?_⟩) hHeld ?_
            rotate_left
            · intro V hSw
              try dsimp only at hSw
              go_simp
              all_goals with_reducible rfl
            try simp only [Act.put, List.setIfInBounds_toArray, List.set_cons_zero, List.set_cons_succ]
            refine wpAnyH_take (i := 2) (v := ?_) tk_2 (by kernel_rfl) (by kernel_rfl) (by kernel_rfl) (fun _ _ _ h => h) (Or.inl ⟨by rfl, ?_⟩) hHeld ?_
            rotate_left
            · intro V hSw
              try dsimp only at hSw
              go_simp
              all_goals with_reducible rfl
            try simp only [Act.put, List.setIfInBounds_toArray, List.set_cons_zero, List.set_cons_succ]
            refine wpAnyH_take (i := 3) (v := ?_) tk_3 (by kernel_rfl) (by kernel_rfl) (by kernel_rfl) (fun _ _ _ h => h) (Or.inl ⟨by rfl, ?_⟩) hHeld ?_
            rotate_left
            · intro V hSw
              try dsimp only at hSw
              go_simp
              all_goals with_reducible rfl
            try simp only [Act.put, List.setIfInBounds_toArray, List.set_cons_zero, List.set_cons_succ]
            refine wpAnyH_take (i := 4) (v := ?_) tk_4 (by kernel_rfl) (by kernel_rfl) (by kernel_rfl) (fun _ _ _ h => h) (Or.inl ⟨by rfl, ?_⟩) hHeld ?_
            rotate_left
            · intro V hSw
              try dsimp only at hSw
              go_simp
              all_goals with_reducible rfl
            try simp only [Act.put, List.setIfInBounds_toArray, List.set_cons_zero, List.set_cons_succ]
            refine wpAnyH_take (i := 5) (v := ?_) tk_5 (by kernel_rfl) (by kernel_rfl) (by kernel_rfl) (fun _ _ _ h => h) (Or.inl ⟨by rfl, ?_⟩) hHeld ?_
            rotate_left
            · intro V hSw
              try dsimp only at hSw
              go_simp
              all_goals with_reducible rfl
            try simp only [Act.put, List.setIfInBounds_toArray, List.set_cons_zero, List.set_cons_succ]
            refine wpAnyH_take (i := 6) (v := ?_) tk_6 (by kernel_rfl) (by kernel_rfl) (by kernel_rfl) (fun _ _ _ h => h) (Or.inl ⟨by rfl, ?_⟩) hHeld ?_
            rotate_left
            · intro V hSw
              try dsimp only at hSw
              go_simp
              all_goals with_reducible rfl
            try simp only [Act.put, List.setIfInBounds_toArray, List.set_cons_zero, List.set_cons_succ]
            refine wpAnyH_take (i := 7) (v := ?_) tk_7 (by kernel_rfl) (by kernel_rfl) (by kernel_rfl) (fun _ _ _ h => h) (Or.inl ⟨by rfl, ?_⟩) hHeld ?_
            rotate_left
            · intro V hSw
              try dsimp only at hSw
              go_simp
              all_goals with_reducible rfl
            try simp only [Act.put, List.setIfInBounds_toArray, List.set_cons_zero, List.set_cons_succ]
            refine wpAnyH_take (i := 8) (v := ?_) tk_8 (by kernel_rfl) (by kernel_rfl) (by kernel_rfl) (fun _ _ _ h => h) (Or.inl ⟨by rfl, ?_⟩) hHeld ?_
            rotate_left
            · intro V hSw
              try dsimp only at hSw
              go_simp
              all_goals with_reducible rfl
            try simp only [Act.put, List.setIfInBounds_toArray, List.set_cons_zero, List.set_cons_succ]
            refine wpAnyH_ready (rs := [9]) (by kernel_rfl) (by simp) ?_
            refine AllReadyH.cons tk_9 (fun K hK => ?_) AllReadyH.nil
            go_simp
            go_at_call 17
            with_reducible refine Calls.mono (CU.out _ B0.out) ?_
            intro e w6 h6
            unfold OutPost at h6
            obtain ⟨A6, c6, rfl, ho6, hb6⟩ := h6
            have J6 := hide (J0.out.call hb6)
            have HS6 := KS.out _ J6
            obtain ⟨z6, f6⟩ := HZ.out _ J6
            have J7 := hide (HPT.out _ _ _ J6 (own_lower ho6 (Nat.le_trans HSZ.out B0.out.size)))
            clear ho6 hb6
            refine hK.out _ _ HS6 (fun hHeld => ?_)
            clear hK K
            try simp only [Act.put, List.setIfInBounds_toArray, List.set_cons_zero, List.set_cons_succ]
            refine wpAnyH_take (i := 10) (v := ?_) tk_10 (by kernel_rfl) (by kernel_rfl) (by kernel_rfl) (fun _ _ _ h => h) (Or.inl ⟨by rfl, ?_⟩) hHeld ?_
            rotate_left
            · intro V hSw
              try dsimp only at hSw
              go_simp
              all_goals with_reducible rfl
            try simp only [Act.put, List.setIfInBounds_toArray, List.set_cons_zero, List.set_cons_succ]
            refine wpAnyH_done (by kernel_rfl) ?_ _
            unfold LastQ
            clear HS0 HS6 CU HZ KS J0 HPT HST HUA HRA hI x0 HAL
            go_wp2_with fail
            go_roundw
            case rel => exact ⟨k + 1, _, by go_num, by omega, J7⟩
            case measure => simp [intOf]; omega
          · obtain rfl : k = n2 := by omega
            clear x0
            have x0 := hI.out.x.cell (k := 0) rfl
            go_wp2_with fail
            go_roundw
            case rel => exact ⟨d - 1, _, vs2, by go_num, by omega, HLA, hI⟩
            case measure => simp [intOf]; omega
      · have hb9' : (b9 == 0) = false := by simpa using hb9
        have hn20 : (1 : Int) ≤ (n2 : Int) := by omega
        have x0 := I9.out.x.cell (k := 0) rfl
        go_upto_region 14 with (fail)
        have cn := next_any g (n2 : Int) w9 (hide I9.out.cd) (by omega) (by omega)
        go_wp2_with fail
        refine cn.mono ?_
        rintro e w10 ⟨k, rfl, k0, k1, hC10, hG10, -⟩
        have I10 := hide (I9.out.next hG10 hC10)
        clear hC10 hG10 cn I9 x0
        obtain ⟨k, rfl⟩ := Int.eq_ofNat_of_zero_le k0
        go_upto_region 15 with (fail)
        have cn := next_any g 2 w10 (hide I10.out.cd) (by omega) (by omega)
        go_wp2_with fail
        refine cn.mono ?_
        rintro e wr ⟨b11, rfl, b0, b1, hC11, hG11, -⟩
        have hI := hide (I10.out.next hG11 hC11)
        clear hC11 hG11 cn I10
        have hkl : k < L.length := by have := HLL.out; omega
        have hLk : L[k]? = some (L.getD k []) := by rw [List.getD_eq_getElem?_getD, List.getElem?_eq_getElem hkl]; rfl
        obtain ⟨Ak, ck, hvk, z0, hlk, hnk, -⟩ := hI.out.o.vat hLk
        have x0 := hI.out.x.cell (k := 0) rfl
        clear hLk
        by_cases hb11 : b11 = 0
        · subst hb11
          have HLA := hide (show LvIn n2 n1 (L.set k (addL (L.getD k []) s)) from lvin_set hLI.out (addL_asc (hLI.out.asc k)) (fun z hz => (mem_addL.1 hz).elim (fun h => by have := h.1; omega) (fun e => hLI.out.lt k z e)))
          have HUA := hide (hLI.out.asc k)
          have HAL := hide hkl
          obtain ⟨u, hu⟩ : ∃ u, L.getD k [] = u := ⟨_, rfl⟩
          rw [hu] at HUA hlk hvk z0 HLA
          have CU := hide (fun (V : World) (hb : Below wr.heap.size wr V) => (s_add ck (x := s) (hide (hlk.below hb)) HUA (hide rfl) : Calls Tryd.prog 17 #[.slice Ak u.length ck, .int .i64 s] V (OutPost (addL u s) V)))
          have HRA := hide (IntOk.asc (addL_asc (n := s) HUA.out))
          obtain ⟨r, hr⟩ : ∃ r, addL u s = r := ⟨_, rfl⟩
          rw [hr] at HLA CU HRA
          have HPT := hide (fun (V : World) (A' : Option Addr) (c' : Nat) (h : Hid (LiI w g P A1 n1 c1 A2 n2 c2 X G c5 vs sp (L) V)) (ho : V.ownsRow w.heap.size 3 1 (.slice A' r.length c') r.length (cellsI r)) =>
            (show LiI w g P A1 n1 c1 A2 n2 c2 X G c5 (vs.set k (.slice A' r.length c')) sp (L.set k r) (V.setCell ⟨G, k, none⟩ (.slice A' r.length c')) by
              exact h.out.put HAL.out ho HRA.out))
          have HZ := hide (fun (V : World) (h : Hid (LiI w g P A1 n1 c1 A2 n2 c2 X G c5 vs sp (L) V)) => (show V.cell? ⟨G, k, none⟩ = some (.slice Ak u.length ck) ∧ V.frozen? ⟨G, k, none⟩ = false from
            ⟨h.out.o.row.cell (by rw [List.getElem?_append_left (List.getElem?_eq_some_iff.1 hvk).1]; exact hvk), h.out.o.free k⟩))
          have KS := hide (fun (V : World) (h : Hid (LiI w g P A1 n1 c1 A2 n2 c2 X G c5 vs sp (L) V)) => (⟨h.out.x.cell (k := 0) rfl, (HZ.out V h).1⟩ : _ ∧ _))
          have HSZ := hide (show w.heap.size ≤ wr.heap.size from hI.out.gr.size)
          have J0 := hide (hI.out.call (Below.refl _ _).drew)
          have HS0 := KS.out _ J0
          have B0 := hide (show Below wr.heap.size wr wr.drew from (Below.refl _ _).drew)
          have hk0 : (0 : Int) ≤ (k : Int) := by omega
          have hkn : (k : Int) < (n2 : Int) := by omega
          clear hu hr hvk hlk hnk hkl
          go_upto_region 16 with (fail)
          refine wp_region_lastH (S := (fun V => V.cell? ⟨X, 0, none⟩ = some (.slice (some ⟨G, 0, none⟩) n2 c5) ∧ V.cell? ⟨G, k, none⟩ = some (.slice Ak u.length ck))) 11 (by kernel_rfl) rfl rfl (by kernel_rfl) ?_
          have hHeld := HS0
          refine wpAnyH_take (i := 0) (v := ?_) tk_0 (by kernel_rfl) (by kernel_rfl) (by kernel_rfl) (fun _ _ _ h => h) (Or.inl ⟨by rfl, ?_⟩) hHeld ?_
          rotate_left
          · intro V hSw
            try dsimp only at hSw
            go_simp
            all_goals with_reducible rfl
          try simp only [Act.put, List.setIfInBounds_toArray, List.set_cons_zero, List.set_cons_succ]
          refine wpAnyH_take (i := 1) (v := ?_) tk_1 (by kernel_rfl) (by kernel_rfl) (by kernel_rfl) (fun _ _ _ h => h) (Or.inl ⟨by rfl, ?_⟩) hHeld ?_
          rotate_left
          · intro V hSw
            try dsimp only at hSw
            go_simp
            all_goals with_reducible rfl
          try simp only [Act.put, List.setIfInBounds_toArray, List.set_cons_zero, List.set_cons_succ]
          refine wpAnyH_take (i := 2) (v := ?_) tk_2 (by kernel_rfl) (by kernel_rfl) (by kernel_rfl) (fun _ _ _ h => h) (Or.inl ⟨by rfl, ?_⟩) hHeld ?_
          rotate_left
          · intro V hSw
            try dsimp only at hSw
            go_simp
            all_goals with_reducible rfl
          try simp only [Act.put, List.setIfInBounds_toArray, List.set_cons_zero, List.set_cons_succ]
          refine wpAnyH_take (i := 3) (v := ?_) tk_3 (by kernel_rfl) (by kernel_rfl) (by kernel_rfl) (fun _ _ _ h => h) (Or.inl ⟨by rfl, ?_⟩) hHeld ?_
          rotate_left
          · intro V hSw
            try dsimp only at hSw
            go_simp
            all_goals with_reducible rfl
          try simp only [Act.put, List.setIfInBounds_toArray, List.set_cons_zero, List.set_cons_succ]
          refine wpAnyH_take (i := 4) (v := ?_) tk_4 (by kernel_rfl) (by kernel_rfl) (by kernel_rfl) (fun _ _ _ h => h) (Or.inl ⟨by rfl, ?_⟩) hHeld ?_
          rotate_left
          · intro V hSw
            try dsimp only at hSw
            go_simp
            all_goals with_reducible rfl
          try simp only [Act.put, List.setIfInBounds_toArray, List.set_cons_zero, List.set_cons_succ]
          refine wpAnyH_take (i := 5) (v := ?_) tk_5 (by kernel_rfl) (by kernel_rfl) (by kernel_rfl) (fun _ _ _ h => h) (Or.inl ⟨by rfl, ?_⟩) hHeld ?_
          rotate_left
          · intro V hSw
            try dsimp only at hSw
            go_simp
            all_goals with_reducible rfl
          try simp only [Act.put, List.setIfInBounds_toArray, List.set_cons_zero, List.set_cons_succ]
          refine wpAnyH_take (i := 6) (v := ?_) tk_6 (by kernel_rfl) (by kernel_rfl) (by kernel_rfl) (fun _ _ _ h => h) (Or.inl ⟨by rfl, ?_⟩) hHeld ?_
          rotate_left
          · intro V hSw
            try dsimp only at hSw
            go_simp
            all_goals with_reducible rfl
          try simp only [Act.put, List.setIfInBounds_toArray, List.set_cons_zero, List.set_cons_succ]
          refine wpAnyH_take (i := 7) (v := ?_) tk_7 (by kernel_rfl) (by kernel_rfl) (by kernel_rfl) (fun _ _ _ h => h) (Or.inl ⟨by rfl, ?_⟩) hHeld ?_
          rotate_left
          · intro V hSw
            try dsimp only at hSw
            go_simp
            all_goals with_reducible rfl
          try simp only [Act.put, List.setIfInBounds_toArray, List.set_cons_zero, List.set_cons_succ]
          refine wpAnyH_take (i := 8) (v := ?_) tk_8 (by kernel_rfl) (by kernel_rfl) (by kernel_rfl) (fun _ _ _ h => h) (Or.inl ⟨by rfl, ?_⟩) hHeld ?_
          rotate_left
          · intro V hSw
            try dsimp only at hSw
            go_simp
            all_goals with_reducible rfl
          try simp only [Act.put, List.setIfInBounds_toArray, List.set_cons_zero, List.set_cons_succ]
          refine wpAnyH_ready (rs := [9]) (by kernel_rfl) (by simp) ?_
          refine AllReadyH.cons tk_9 (fun K hK => ?_) AllReadyH.nil
          go_simp
          go_at_call 17
          with_reducible refine Calls.mono (CU.out _ B0.out) ?_
          intro e w6 h6
          unfold OutPost at h6
          obtain ⟨A6, c6, rfl, ho6, hb6⟩ := h6
          have J6 := hide (J0.out.call hb6)
          have HS6 := KS.out _ J6
          obtain ⟨z6, f6⟩ := HZ.out _ J6
          have J7 := hide (HPT.out _ _ _ J6 (own_lower ho6 (Nat.le_trans HSZ.out B0.out.size)))
          clear ho6 hb6
          refine hK.out _ _ HS6 (fun hHeld => ?_)
          clear hK K
          try simp only [Act.put, List.setIfInBounds_toArray, List.set_cons_zero, List.set_cons_succ]
          refine wpAnyH_take (i := 10) (v := ?_) tk_10 (by kernel_rfl) (by kernel_rfl) (by kernel_rfl) (fun _ _ _ h => h) (Or.inl ⟨by rfl, ?_⟩) hHeld ?_
          rotate_left
          · intro V hSw
            try dsimp only at hSw
            go_simp
            all_goals with_reducible rfl
          try simp only [Act.put, List.setIfInBounds_toArray, List.set_cons_zero, List.set_cons_succ]
          refine wpAnyH_done (by kernel_rfl) ?_ _
          unfold LastQ
          clear HS0 HS6 CU HZ KS J0 HPT  HUA HRA hI x0 HAL
          go_wp2_with fail
          go_roundw
          case rel => exact ⟨d - 1, _, _, by go_num, by omega, HLA, J7⟩
          case measure => simp [intOf]; omega
        · have hb11' : (b11 == 0) = false := by simpa using hb11
          have HLA := hide (show LvIn n2 n1 (L.set k (removeL (L.getD k []) s)) from lvin_set hLI.out (rmL_asc (hLI.out.asc k)) (fun z hz => hLI.out.lt k z (rmL_mem hz)))
          have HUA := hide (hLI.out.asc k)
          have HAL := hide hkl
          obtain ⟨u, hu⟩ : ∃ u, L.getD k [] = u := ⟨_, rfl⟩
          rw [hu] at HUA hlk hvk z0 HLA
          have CU := hide (fun (V : World) (hb : Below wr.heap.size wr V) => (s_remove ck (x := s) (hide (hlk.below hb)) HUA (hide rfl) : Calls Tryd.prog 22 #[.slice Ak u.length ck, .int .i64 s] V (OutPost (removeL u s) V)))
          have HRA := hide (IntOk.asc (rmL_asc (x := s) HUA.out))
          obtain ⟨r, hr⟩ : ∃ r, removeL u s = r := ⟨_, rfl⟩
          rw [hr] at HLA CU HRA
          have HPT := hide (fun (V : World) (A' : Option Addr) (c' : Nat) (h : Hid (LiI w g P A1 n1 c1 A2 n2 c2 X G c5 vs sp (L) V)) (ho : V.ownsRow w.heap.size 3 1 (.slice A' r.length c') r.length (cellsI r)) =>
            (show LiI w g P A1 n1 c1 A2 n2 c2 X G c5 (vs.set k (.slice A' r.length c')) sp (L.set k r) (V.setCell ⟨G, k, none⟩ (.slice A' r.length c')) by
              exact h.out.put HAL.out ho HRA.out))
          have HZ := hide (fun (V : World) (h : Hid (LiI w g P A1 n1 c1 A2 n2 c2 X G c5 vs sp (L) V)) => (show V.cell? ⟨G, k, none⟩ = some (.slice Ak u.length ck) ∧ V.frozen? ⟨G, k, none⟩ = false from
            ⟨h.out.o.row.cell (by rw [List.getElem?_append_left (List.getElem?_eq_some_iff.1 hvk).1]; exact hvk), h.out.o.free k⟩))
          have KS := hide (fun (V : World) (h : Hid (LiI w g P A1 n1 c1 A2 n2 c2 X G c5 vs sp (L) V)) => (⟨h.out.x.cell (k := 0) rfl, (HZ.out V h).1⟩ : _ ∧ _))
          have HSZ := hide (show w.heap.size ≤ wr.heap.size from hI.out.gr.size)
          have J0 := hide (hI.out.call (Below.refl _ _).drew)
          have HS0 := KS.out _ J0
          have B0 := hide (show Below wr.heap.size wr wr.drew from (Below.refl _ _).drew)
          have hk0 : (0 : Int) ≤ (k : Int) := by omega
          have hkn : (k : Int) < (n2 : Int) := by omega
          clear hu hr hvk hlk hnk hkl
          go_upto_region 17 with (fail)
          refine wp_region_lastH (S := (fun V => V.cell? ⟨X, 0, none⟩ = some (.slice (some ⟨G, 0, none⟩) n2 c5) ∧ V.cell? ⟨G, k, none⟩ = some (.slice Ak u.length ck))) 11 (by kernel_rfl) rfl rfl (by kernel_rfl) ?_
          have hHeld := HS0
          refine wpAnyH_take (i := 0) (v := ?_) tk_0 (by kernel_rfl) (by kernel_rfl) (by kernel_rfl) (fun _ _ _ h => h) (Or.inl ⟨by rfl, ?_⟩) hHeld ?_
          rotate_left
          · intro V hSw
            try dsimp only at hSw
            go_simp
            all_goals with_reducible rfl
          try simp only [Act.put, List.setIfInBounds_toArray, List.set_cons_zero, List.set_cons_succ]
          refine wpAnyH_take (i := 1) (v := ?_) tk_1 (by kernel_rfl) (by kernel_rfl) (by kernel_rfl) (fun _ _ _ h => h) (Or.inl ⟨by rfl, ?_⟩) hHeld ?_
          rotate_left
          · intro V hSw
            try dsimp only at hSw
            go_simp
            all_goals with_reducible rfl
          try simp only [Act.put, List.setIfInBounds_toArray, List.set_cons_zero, List.set_cons_succ]
          refine wpAnyH_take (i := 2) (v := ?_) tk_2 (by kernel_rfl) (by kernel_rfl) (by kernel_rfl) (fun _ _ _ h => h) (Or.inl ⟨by rfl, ?_⟩) hHeld ?_
          rotate_left
          · intro V hSw
            try dsimp only at hSw
            go_simp
            all_goals with_reducible rfl
          try simp only [Act.put, List.setIfInBounds_toArray, List.set_cons_zero, List.set_cons_succ]
          refine wpAnyH_take (i := 3) (v := ?_) tk_3 (by kernel_rfl) (by kernel_rfl) (by kernel_rfl) (fun _ _ _ h => h) (Or.inl ⟨by rfl, ?_⟩) hHeld ?_
          rotate_left
          · intro V hSw
            try dsimp only at hSw
            go_simp
            all_goals with_reducible rfl
          try simp only [Act.put, List.setIfInBounds_toArray, List.set_cons_zero, List.set_cons_succ]
          refine wpAnyH_take (i := 4) (v := ?_) tk_4 (by kernel_rfl) (by kernel_rfl) (by kernel_rfl) (fun _ _ _ h => h) (Or.inl ⟨by rfl, ?_⟩) hHeld ?_
          rotate_left
          · intro V hSw
            try dsimp only at hSw
            go_simp
            all_goals with_reducible rfl
          try simp only [Act.put, List.setIfInBounds_toArray, List.set_cons_zero, List.set_cons_succ]
          refine wpAnyH_take (i := 5) (v := ?_) tk_5 (by kernel_rfl) (by kernel_rfl) (by kernel_rfl) (fun _ _ _ h => h) (Or.inl ⟨by rfl, ?_⟩) hHeld ?_
          rotate_left
          · intro V hSw
            try dsimp only at hSw
            go_simp
            all_goals with_reducible rfl
          try simp only [Act.put, List.setIfInBounds_toArray, List.set_cons_zero, List.set_cons_succ]
          refine wpAnyH_take (i := 6) (v := ?_) tk_6 (by kernel_rfl) (by kernel_rfl) (by kernel_rfl) (fun _ _ _ h => h) (Or.inl ⟨by rfl, ?_⟩) hHeld ?_
          rotate_left
          · intro V hSw
            try dsimp only at hSw
            go_simp
            all_goals with_reducible rfl
          try simp only [Act.put, List.setIfInBounds_toArray, List.set_cons_zero, List.set_cons_succ]
          refine wpAnyH_take (i := 7) (v := ?_) tk_7 (by kernel_rfl) (by kernel_rfl) (by kernel_rfl) (fun _ _ _ h => h) (Or.inl ⟨by rfl, ?_⟩) hHeld ?_
          rotate_left
          · intro V hSw
            try dsimp only at hSw
            go_simp
            all_goals with_reducible rfl
          try simp only [Act.put, List.setIfInBounds_toArray, List.set_cons_zero, List.set_cons_succ]
          refine wpAnyH_take (i := 8) (v := ?_) tk_8 (by kernel_rfl) (by kernel_rfl) (by kernel_rfl) (fun _ _ _ h => h) (Or.inl ⟨by rfl, ?_⟩) hHeld ?_
          rotate_left
          · intro V hSw
            try dsimp only at hSw
            go_simp
            all_goals with_reducible rfl
          try simp only [Act.put, List.setIfInBounds_toArray, List.set_cons_zero, List.set_cons_succ]
          refine wpAnyH_ready (rs := [9]) (by kernel_rfl) (by simp) ?_
          refine AllReadyH.cons tk_9 (fun K hK => ?_) AllReadyH.nil
          go_simp
          go_at_call 22
          with_reducible refine Calls.mono (CU.out _ B0.out) ?_
          intro e w6 h6
          unfold OutPost at h6
          obtain ⟨A6, c6, rfl, ho6, hb6⟩ := h6
          have J6 := hide (J0.out.call hb6)
          have HS6 := KS.out _ J6
          obtain ⟨z6, f6⟩ := HZ.out _ J6
          have J7 := hide (HPT.out _ _ _ J6 (own_lower ho6 (Nat.le_trans HSZ.out B0.out.size)))
          clear ho6 hb6
          refine hK.out _ _ HS6 (fun hHeld => ?_)
          clear hK K
          try simp only [Act.put, List.setIfInBounds_toArray, List.set_cons_zero, List.set_cons_succ]
          refine wpAnyH_take (i := 10) (v := ?_) tk_10 (by kernel_rfl) (by kernel_rfl) (by kernel_rfl) (fun _ _ _ h => h) (Or.inl ⟨by rfl, ?_⟩) hHeld ?_
          rotate_left
          · intro V hSw
            try dsimp only at hSw
            go_simp
            all_goals with_reducible rfl
          try simp only [Act.put, List.setIfInBounds_toArray, List.set_cons_zero, List.set_cons_succ]
          refine wpAnyH_done (by kernel_rfl) ?_ _
          unfold LastQ
          clear HS0 HS6 CU HZ KS J0 HPT  HUA HRA hI x0 HAL
          go_wp2_with fail
          go_roundw
          case rel => exact ⟨d - 1, _, _, by go_num, by omega, HLA, J7⟩
          case measure => simp [intOf]; omega
    · by_cases hd : 0 < d
      · obtain rfl : n1 = 0 := by omega
        have hd0 : (0 : Int) < (d : Int) := by omega
        have cn := next_any g 12 wr (hide hI.out.cd) (by omega) (by omega)
        go_wp2_with fail
        refine cn.mono ?_
        rintro e w12 ⟨v12, rfl, v0, v1, hC12, hG12, -⟩
        have I12 := hide (hI.out.next hG12 hC12)
        clear hC12 hG12 cn hI q1
        by_cases h10 : v12 = 10
        · subst h10
          have hn21 : (1 : Int) ≤ (n2 : Int) := by omega
          have x0 := I12.out.x.cell (k := 0) rfl
          have xf := I12.out.x.free 0
          have hA : (if c5 = 1 then (some ⟨G, 0, none⟩ : Option Addr) else some ⟨G, 1, none⟩) = some ⟨G, 1, none⟩ ∨ n2 - 1 = 0 := by
            by_cases hc : c5 = 1
            · exact .inr (by omega)
            · exact .inl (by rw [if_neg hc])
          go_upto_region 23 with (fail)
          obtain ⟨S, hS⟩ : ∃ S, (if c5 = 1 then (some ⟨G, 0, none⟩ : Option Addr) else some ⟨G, 1, none⟩) = S := ⟨_, rfl⟩
          rw [hS] at hA ⊢
          obtain ⟨WX, hWX⟩ : ∃ W, w12.setCell ⟨X, 0, none⟩ (.slice S (n2 - 1) (c5 - 1)) = W := ⟨_, rfl⟩
          have RX := I12.out.x.set_ 0 (.slice S (n2 - 1) (c5 - 1))
          have RR := I12.out.res.far (p := ⟨X, 0, none⟩) (by simp; have := I12.out.xs; omega) (.slice S (n2 - 1) (c5 - 1))
          have hf := I12.out.fin1 (n := n2 - 1) (A := S) (c' := c5 - 1) HLL.out (by omega) (by omega) hA
          rw [hWX] at RX RR hf
          rw [hWX]
          have R9 := RR.set_ 0 (.slice S (n2 - 1) (c5 - 1))
          obtain ⟨W9, hW9⟩ : ∃ W, (WX).setCell ⟨w.heap.size + 1, 0, none⟩ (.slice S (n2 - 1) (c5 - 1)) = W := ⟨_, rfl⟩
          have HF := hide hf
          rw [hW9] at R9 HF
          have HW9 := hide hW9
          have hld := load_row (agg_live (w := W9)) (size_live (w := W9)) rfl R9
          have x1 := RX.cell (k := 0) rfl
          have z1 := RR.cell (k := 0) rfl
          have z2 := RR.free 0
          clear x0 xf hW9 R9 hf hS hWX RX RR I12
          go_wp2_with fail
          rw [HW9.out]
          exact bodyPost_ret (results_cell1 (fn := Tryd.f26) (t := 4) (T := 25) rfl _ W9 _ _ _ rfl hld) rfl HF.out
        have h10' : (v12 == 10) = false := by simpa using h10
        by_cases h11 : v12 = 11
        · subst h11
          have x0 := I12.out.x.cell (k := 0) rfl
          have xf := I12.out.x.free 0
          have CI := hide (fun (V : World) (h : Hid (LiI w g P A1 0 c1 A2 n2 c2 X G c5 vs sp L V)) => intr_any g V (hide h.out.cd))
          have J0 := hide (I12.out.call (Below.refl _ _).drew)
          have hvl : 0 < vs.length := by have := I12.out.o.len; have := HLL.out; omega
          obtain ⟨u0, hu0⟩ : ∃ u, (vs ++ sp)[0]? = some u := ⟨_, List.getElem?_eq_getElem (by simp; omega)⟩
          have hn21 : (0 : Int) < (n2 : Int) := by omega
          have hn22 : 0 < n2 := by omega
          go_upto_region 22 with (fail)
          go_region_held3 (fun V => V.cell? ⟨X, 0, none⟩ = some (.slice (some ⟨G, 0, none⟩) n2 c5))
            (first | exact s6 | exact J0.out.x.cell (k := 0) rfl | exact J1.out.x.cell (k := 0) rfl | exact J2.out.x.cell (k := 0) rfl | exact (J2.out.call (below1 _ _)).x.cell (k := 0) rfl)
            (first
              | (go_at_call 44; with_reducible refine Calls.mono (CI.out _ J0) ?_; intro e w13 h13; unfold IntPostR at h13; obtain ⟨a, rfl, ha, hCa, hGa⟩ := h13; have J1 := hide (J0.out.next hGa hCa); clear hCa hGa)
              | (go_at_call 44; with_reducible refine Calls.mono (CI.out _ J1) ?_; intro e w14 h14; unfold IntPostR at h14; obtain ⟨b, rfl, hb, hCb, hGb⟩ := h14; have J2 := hide (J1.out.next hGb hCb); have z6 := fun (o : Obj) => (J2.out.call (below1 w14 o)).o.row.cell (k := 0) hu0; have f6 := fun (o : Obj) => (J2.out.call (below1 w14 o)).o.free 0; have J4 := hide ((J2.out.call (below1 w14 (.cells #[.int .i64 a, .int .i64 b] 3))).put (j := 0) (zs := [a, b]) (v := .slice (some ⟨w14.heap.size, 0, none⟩) 2 2) (by have := HLL.out; omega) (own_two w14 a b J2.out.gr.size) (int_two ha hb)); have s6 := J4.out.x.cell (k := 0) rfl; clear hCb hGb))
          all_goals
            clear x0 xf z6 f6 s6
            obtain ⟨W15, hW15⟩ : ∃ V, (w14.alloc (.cells #[.int .i64 a, .int .i64 b] 3)).setCell ⟨G, 0, none⟩ (.slice (some ⟨w14.heap.size, 0, none⟩) 2 2) = V := ⟨_, rfl⟩
            rw [hW15] at J4
            have HW15 := hide hW15
            clear hW15 J0 J1 J2 I12 CI
            go_upto_region 23 with (fail)
            rw [HW15.out]
            have x0 := J4.out.x.cell (k := 0) rfl
            have z1 := J4.out.res.cell (k := 0) rfl
            have z2 := J4.out.res.free 0
            have R9 := J4.out.res.set_ 0 (.slice (some ⟨G, 0, none⟩) n2 c5)
            obtain ⟨W9, hW9⟩ : ∃ W, (W15).setCell ⟨w.heap.size + 1, 0, none⟩ (.slice (some ⟨G, 0, none⟩) n2 c5) = W := ⟨_, rfl⟩
            have HF := hide (J4.out.fin (by rw [List.length_set]; exact HLL.out) (by omega))
            rw [hW9] at R9 HF
            have HW9 := hide hW9
            have hld := load_row (agg_live (w := W9)) (size_live (w := W9)) rfl R9
            clear hW9 R9 J4
            go_wp2_with fail
            rw [HW9.out]
            exact bodyPost_ret (results_cell1 (fn := Tryd.f26) (t := 4) (T := 25) rfl _ W9 _ _ _ rfl hld) rfl HF.out
        have h11' : (v12 == 11) = false := by simpa using h11
        have x0 := I12.out.x.cell (k := 0) rfl
        have z1 := I12.out.res.cell (k := 0) rfl
        have z2 := I12.out.res.free 0
        have R9 := I12.out.res.set_ 0 (.slice (some ⟨G, 0, none⟩) n2 c5)
        obtain ⟨W9, hW9⟩ : ∃ W, (w12).setCell ⟨w.heap.size + 1, 0, none⟩ (.slice (some ⟨G, 0, none⟩) n2 c5) = W := ⟨_, rfl⟩
        have HF := hide (I12.out.fin HLL.out (by omega))
        rw [hW9] at R9 HF
        have HW9 := hide hW9
        have hld := load_row (agg_live (w := W9)) (size_live (w := W9)) rfl R9
        clear hW9 R9 I12
        go_wp2_with fail
        rw [HW9.out]
        exact bodyPost_ret (results_cell1 (fn := Tryd.f26) (t := 4) (T := 25) rfl _ W9 _ _ _ rfl hld) rfl HF.out
      · obtain rfl : d = 0 := by omega
        have cn := next_any g 12 wr (hide hI.out.cd) (by omega) (by omega)
        go_wp2_with fail
        refine cn.mono ?_
        rintro e w12 ⟨v12, rfl, v0, v1, hC12, hG12, -⟩
        have I12 := hide (hI.out.next hG12 hC12)
        clear hC12 hG12 cn hI q1
        by_cases h10 : v12 = 10
        · subst h10
          have hn21 : (1 : Int) ≤ (n2 : Int) := by omega
          have x0 := I12.out.x.cell (k := 0) rfl
          have xf := I12.out.x.free 0
          have hA : (if c5 = 1 then (some ⟨G, 0, none⟩ : Option Addr) else some ⟨G, 1, none⟩) = some ⟨G, 1, none⟩ ∨ n2 - 1 = 0 := by
            by_cases hc : c5 = 1
            · exact .inr (by omega)
            · exact .inl (by rw [if_neg hc])
          go_upto_region 23 with (fail)
          obtain ⟨S, hS⟩ : ∃ S, (if c5 = 1 then (some ⟨G, 0, none⟩ : Option Addr) else some ⟨G, 1, none⟩) = S := ⟨_, rfl⟩
          rw [hS] at hA ⊢
          obtain ⟨WX, hWX⟩ : ∃ W, w12.setCell ⟨X, 0, none⟩ (.slice S (n2 - 1) (c5 - 1)) = W := ⟨_, rfl⟩
          have RX := I12.out.x.set_ 0 (.slice S (n2 - 1) (c5 - 1))
          have RR := I12.out.res.far (p := ⟨X, 0, none⟩) (by simp; have := I12.out.xs; omega) (.slice S (n2 - 1) (c5 - 1))
          have hf := I12.out.fin1 (n := n2 - 1) (A := S) (c' := c5 - 1) HLL.out (by omega) (by omega) hA
          rw [hWX] at RX RR hf
          rw [hWX]
          have R9 := RR.set_ 0 (.slice S (n2 - 1) (c5 - 1))
          obtain ⟨W9, hW9⟩ : ∃ W, (WX).setCell ⟨w.heap.size + 1, 0, none⟩ (.slice S (n2 - 1) (c5 - 1)) = W := ⟨_, rfl⟩
          have HF := hide hf
          rw [hW9] at R9 HF
          have HW9 := hide hW9
          have hld := load_row (agg_live (w := W9)) (size_live (w := W9)) rfl R9
          have x1 := RX.cell (k := 0) rfl
          have z1 := RR.cell (k := 0) rfl
          have z2 := RR.free 0
          clear x0 xf hW9 R9 hf hS hWX RX RR I12
          go_wp2_with fail
          rw [HW9.out]
          exact bodyPost_ret (results_cell1 (fn := Tryd.f26) (t := 4) (T := 25) rfl _ W9 _ _ _ rfl hld) rfl HF.out
        have h10' : (v12 == 10) = false := by simpa using h10
        by_cases h11 : v12 = 11
        · subst h11
          have x0 := I12.out.x.cell (k := 0) rfl
          have xf := I12.out.x.free 0
          have CI := hide (fun (V : World) (h : Hid (LiI w g P A1 n1 c1 A2 n2 c2 X G c5 vs sp L V)) => intr_any g V (hide h.out.cd))
          have J0 := hide (I12.out.call (Below.refl _ _).drew)
          have hvl : 0 < vs.length := by have := I12.out.o.len; have := HLL.out; omega
          obtain ⟨u0, hu0⟩ : ∃ u, (vs ++ sp)[0]? = some u := ⟨_, List.getElem?_eq_getElem (by simp; omega)⟩
          have hn21 : (0 : Int) < (n2 : Int) := by omega
          have hn22 : 0 < n2 := by omega
          go_upto_region 22 with (fail)
          go_region_held3 (fun V => V.cell? ⟨X, 0, none⟩ = some (.slice (some ⟨G, 0, none⟩) n2 c5))
            (first | exact s6 | exact J0.out.x.cell (k := 0) rfl | exact J1.out.x.cell (k := 0) rfl | exact J2.out.x.cell (k := 0) rfl | exact (J2.out.call (below1 _ _)).x.cell (k := 0) rfl)
            (first
              | (go_at_call 44; with_reducible refine Calls.mono (CI.out _ J0) ?_; intro e w13 h13; unfold IntPostR at h13; obtain ⟨a, rfl, ha, hCa, hGa⟩ := h13; have J1 := hide (J0.out.next hGa hCa); clear hCa hGa)
              | (go_at_call 44; with_reducible refine Calls.mono (CI.out _ J1) ?_; intro e w14 h14; unfold IntPostR at h14; obtain ⟨b, rfl, hb, hCb, hGb⟩ := h14; have J2 := hide (J1.out.next hGb hCb); have z6 := fun (o : Obj) => (J2.out.call (below1 w14 o)).o.row.cell (k := 0) hu0; have f6 := fun (o : Obj) => (J2.out.call (below1 w14 o)).o.free 0; have J4 := hide ((J2.out.call (below1 w14 (.cells #[.int .i64 a, .int .i64 b] 3))).put (j := 0) (zs := [a, b]) (v := .slice (some ⟨w14.heap.size, 0, none⟩) 2 2) (by have := HLL.out; omega) (own_two w14 a b J2.out.gr.size) (int_two ha hb)); have s6 := J4.out.x.cell (k := 0) rfl; clear hCb hGb))
          all_goals
            clear x0 xf z6 f6 s6
            obtain ⟨W15, hW15⟩ : ∃ V, (w14.alloc (.cells #[.int .i64 a, .int .i64 b] 3)).setCell ⟨G, 0, none⟩ (.slice (some ⟨w14.heap.size, 0, none⟩) 2 2) = V := ⟨_, rfl⟩
            rw [hW15] at J4
            have HW15 := hide hW15
            clear hW15 J0 J1 J2 I12 CI
            go_upto_region 23 with (fail)
            rw [HW15.out]
            have x0 := J4.out.x.cell (k := 0) rfl
            have z1 := J4.out.res.cell (k := 0) rfl
            have z2 := J4.out.res.free 0
            have R9 := J4.out.res.set_ 0 (.slice (some ⟨G, 0, none⟩) n2 c5)
            obtain ⟨W9, hW9⟩ : ∃ W, (W15).setCell ⟨w.heap.size + 1, 0, none⟩ (.slice (some ⟨G, 0, none⟩) n2 c5) = W := ⟨_, rfl⟩
            have HF := hide (J4.out.fin (by rw [List.length_set]; exact HLL.out) (by omega))
            rw [hW9] at R9 HF
            have HW9 := hide hW9
            have hld := load_row (agg_live (w := W9)) (size_live (w := W9)) rfl R9
            clear hW9 R9 J4
            go_wp2_with fail
            rw [HW9.out]
            exact bodyPost_ret (results_cell1 (fn := Tryd.f26) (t := 4) (T := 25) rfl _ W9 _ _ _ rfl hld) rfl HF.out
        have h11' : (v12 == 11) = false := by simpa using h11
        have x0 := I12.out.x.cell (k := 0) rfl
        have z1 := I12.out.res.cell (k := 0) rfl
        have z2 := I12.out.res.free 0
        have R9 := I12.out.res.set_ 0 (.slice (some ⟨G, 0, none⟩) n2 c5)
        obtain ⟨W9, hW9⟩ : ∃ W, (w12).setCell ⟨w.heap.size + 1, 0, none⟩ (.slice (some ⟨G, 0, none⟩) n2 c5) = W := ⟨_, rfl⟩
        have HF := hide (I12.out.fin HLL.out (by omega))
        rw [hW9] at R9 HF
        have HW9 := hide hW9
        have hld := load_row (agg_live (w := W9)) (size_live (w := W9)) rfl R9
        clear hW9 R9 I12
        go_wp2_with fail
        rw [HW9.out]
        exact bodyPost_ret (results_cell1 (fn := Tryd.f26) (t := 4) (T := 25) rfl _ W9 _ _ _ rfl hld) rfl HF.out
end
end Go.Proofs.YtidlnecgfgnllaaDoor
end
