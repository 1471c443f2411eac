import Derived.Test.YtjbgepjdohfhkaaMDraw
import Derived.Test.YtjbgepjdohfhkaaMKit
import Derived.Test.YtjbgepjdohfhkaaMAliv
import Derived.Test.YtjbgepjdohfhkaaMBrf
import Derived.Test.YtjbgepjdohfhkaaMAwk
import Derived.Test.YtjbgepjdohfhkaaMAscn
import Derived.Test.YtjbgepjdohfhkaaMAsam
import Derived.Test.YtjbgepjdohfhkaaMFrows
import Derived.Test.YtjbgepjdohfhkaaMLaw
import Derived.Lib.SmallJoins
import Derived.Deep.Slices
import Derived.Deep.Fields
import Derived.ChangeSame
set_option linter.unusedVariables false
set_option linter.unusedSimpArgs false
section
/-
  The contract of spillframedraw's Int: an int within the type's bounds. Condition: the receiver is a list of choices.
-/
namespace Go.Proofs.Ytjbgepjdohfhkaa
open Go.RowKit

/-- An int is drawn. -/
def IntPostR (g : Nat) (w : World) (e : Ending) (w' : World) : Prop := ∃ v : Int, e = .returned (.int .i64 v) ∧ (-9223372036854775808 ≤ v ∧ v ≤ 9223372036854775807) ∧ Codes w' g ∧ w.grownBy w' (some g)

set_option maxHeartbeats 2000000 in
theorem intr_any (g : Nat) (w : World) (h : Hid (Codes w g)) : Calls Try.prog 31 #[.pointer (some ⟨g, 0, none⟩)] w (IntPostR g w) := by
  have c := next_any g
  have hgl := h.out.lt
  go_enter Try.func31, Try.ntmps31
  go_wp2_with fail
  refine (c 12 _ h (by omega) (by omega)).mono ?_
  rintro e w1 ⟨k, rfl, k0, k1, hC, hG, hz⟩
  have HC := hide hC
  have HG := hide hG
  have hw1 : w.heap.size ≤ w1.heap.size := hG.size
  clear hC hG hz
  by_cases hk : k = 11
  · subst hk
    obtain ⟨w2, hw2⟩ : ∃ w2, w1.alloc (.cells #[.int .i64 9223372036854775807, .int .i64 (-9223372036854775808), .int .i64 2147483648, .int .i64 2147483647, .int .i64 (-1), .int .i64 16777216, .int .i64 33554432, .int .i64 1048577, .int .i64 512, .int .i64 80] 3) = w2 := ⟨_, rfl⟩
    have HW2 := hide hw2
    have hr : Row w2 w1.heap.size 3 [.int .i64 9223372036854775807, .int .i64 (-9223372036854775808), .int .i64 2147483648, .int .i64 2147483647, .int .i64 (-1), .int .i64 16777216, .int .i64 33554432, .int .i64 1048577, .int .i64 512, .int .i64 80] := hw2 ▸ Row.new w1 _ _
    have HR := hide hr
    have HC2 : Hid (Codes w2 g) := hide (hw2 ▸ HC.out.alloc _)
    have HG2 : Hid (w.grownBy w2 (some g)) := hide (hw2 ▸ HG.out.trans (World.grownBy_alloc _ _ _))
    clear hw2 hr
    go_wp2_with fail
    rw [HW2.out]
    refine (c 10 _ HC2 (by omega) (by omega)).mono ?_
    rintro e w3 ⟨v, rfl, v0, v1, hC3, hG3, hz3⟩
    have HC3 := hide hC3
    have HG3 := hide (HG2.out.trans hG3)
    have hr3 := HR.out.grown hG3 (fun e => by injection e with e; omega)
    obtain ⟨v, rfl⟩ := Int.eq_ofNat_of_zero_le v0
    have hx : ∃ x : Int, (-9223372036854775808 ≤ x ∧ x ≤ 9223372036854775807) ∧ w3.cell? ⟨w1.heap.size, v, none⟩ = some (.int .i64 x) := by
      rcases (show v = 0 ∨ v = 1 ∨ v = 2 ∨ v = 3 ∨ v = 4 ∨ v = 5 ∨ v = 6 ∨ v = 7 ∨ v = 8 ∨ v = 9 by omega) with rfl | rfl | rfl | rfl | rfl | rfl | rfl | rfl | rfl | rfl <;> exact ⟨_, by omega, hr3.cell rfl⟩
    obtain ⟨x, hxr, hx⟩ := hx
    clear hC3 hG3 hz3 hr3 HR HW2
    go_wp2_with fail
    go_ret
    exact ⟨x, rfl, hxr, HC3.out, HG3.out⟩
  · have hk' : (k == 11) = false := by simpa using hk
    go_wp2_with fail
    refine (c 256 _ HC (by omega) (by omega)).mono ?_
    rintro e w2 ⟨u, rfl, u0, u1, hC2, hG2, hz2⟩
    have HC2 := hide hC2
    have HG2 := hide (HG.out.trans hG2)
    clear hC2 hG2 hz2
    go_wp2_with fail
    refine (c 7 _ HC2 (by omega) (by omega)).mono ?_
    rintro e w3 ⟨v, rfl, v0, v1, hC3, hG3, hz3⟩
    have HC3 := hide hC3
    have HG3 := hide (HG2.out.trans hG3)
    clear hC3 hG3 hz3
    go_wp2_with fail
    go_ret
    exact ⟨_, rfl, by (generalize u / 2 ^ v.toNat - k / 9 = z; unfold wrap64; omega), HC3.out, HG3.out⟩
end Go.Proofs.Ytjbgepjdohfhkaa
end

section
/-
  The contract of spillframedraw's Live: an annotation that can be read. Conditions: those of the types; the function is right; the list of choices is one; it has an instruction.
-/
namespace Go.Proofs.Ytjbgepjdohfhkaa
open Go.RowKit

theorem own_newA {W : World} {base n : Nat} {e : TypeId} {L : List Value} (hl : L.length = n) (hb : base ≤ W.heap.size) (hm : n ≤ 1048576) : (W.alloc (.cells L.toArray e)).ownsRow base e 1 (.slice (some ⟨W.heap.size, 0, none⟩) n n) n L := by
  refine ⟨by omega, .inr ⟨W.heap.size, n, _, rfl, hb, heap_alloc_new W _, Nat.le_refl _, by unfold maxLen; omega, by simp [hl], ?_⟩⟩
  simp only [Nat.mul_one]
  rw [List.take_of_length_le (by omega)]
theorem own_two (w : World) (a b : Int) {base : Nat} (hb : base ≤ w.heap.size) : (w.alloc (.cells #[.int .i64 a, .int .i64 b] 3)).ownsRow base 3 1 (.slice (some ⟨w.heap.size, 0, none⟩) 2 2) [a, b].length (cellsI [a, b]) := own_newA (L := cellsI [a, b]) rfl hb (by omega)
theorem int_two {a b : Int} (ha : -9223372036854775808 ≤ a ∧ a ≤ 9223372036854775807) (hb : -9223372036854775808 ≤ b ∧ b ≤ 9223372036854775807) : IntOk [a, b] := fun z hz => by
  rcases List.mem_cons.1 hz with h | h
  · omega
  · have := List.mem_singleton.1 h
    omega
theorem rmL_asc {l : List Int} {x : Int} (h : Asc l) : Asc (removeL l x) := ⟨List.Pairwise.filter _ h.1, fun z hz => h.2 z (List.mem_filter.1 hz).1⟩
theorem rmL_mem {l : List Int} {x z : Int} (h : z ∈ removeL l x) : z ∈ l := (List.mem_filter.1 h).1
theorem lvin_set {n M k : Nat} {L : List (List Int)} {r : List Int} (h : LvIn n M L) (ha : Asc r) (hr : ∀ z ∈ r, z < M) : LvIn n M (L.set k r) := by
  have key : ∀ m : Nat, (L.set k r).getD m [] = L.getD m [] ∨ (L.set k r).getD m [] = r := fun m => by
    rw [List.getD_eq_getElem?_getD, List.getD_eq_getElem?_getD, List.getElem?_set]
    split
    · split
      · exact .inr rfl
      · rename_i h1 h2
        subst h1
        rw [List.getElem?_eq_none (by omega)]
        exact .inl rfl
    · exact .inl rfl
  refine ⟨by rw [List.length_set]; exact h.len, fun m => ?_, fun m z hz => ?_⟩
  · rcases key m with e | e
    · rw [e]; exact h.asc m
    · rw [e]; exact ha
  · rcases key m with e | e
    · rw [e] at hz; exact h.lt m z hz
    · rw [e] at hz; exact hr z hz
theorem Anw.tail {w : World} {base g n : Nat} {vs sp : List Value} {zss : List (List Int)} (h : Anw w base g vs sp zss) (hn : zss.length = n + 1) (hm : n ≤ 1048576) : Ann w (some ⟨g, 1, none⟩) n (zss.drop 1) := by
  refine ⟨by rw [List.length_drop]; omega, hm, vs.drop 1, fun k u hu => ⟨g, 1, rfl, h.row.lt, ?_⟩, by rw [List.length_drop, h.len]; omega, fun i v zs hv hz => ?_⟩
  · rw [List.getElem?_drop] at hu
    exact h.row.cell (by rw [List.getElem?_append_left (List.getElem?_eq_some_iff.1 hu).1]; exact hu)
  · rw [List.getElem?_drop] at hv hz
    have ho := h.own (1 + i) v zs hv hz
    obtain ⟨A, c, rfl, hA, -⟩ := own_form ho
    exact ⟨A, c, rfl, lst_own ho (h.rng (1 + i) zs hz), hA⟩
/-- What Live hands back. -/
def DlPost (g : Nat) (w : World) (e : Ending) (w' : World) : Prop :=
  ∃ (A : Option Addr) (n c : Nat) (zss : List (List Int)), e = .returned (.agg #[.slice A n c]) ∧ Ann w' A n zss ∧ w.grownBy w' (some g)
section
variable {g : Nat} {P : Int} {A1 : Option Addr} {n1 c1 : Nat} {A2 : Option Addr} {n2 c2 X G c : Nat} {l : List Ins} {zss : List (List Int)} {w wr w2 : World} {vs sp : List Value}
theorem LiI.fin (h : LiI w g P A1 n1 c1 A2 n2 c2 X G c vs sp zss wr) (hl : zss.length = n2) (hn : n2 ≤ 1048576) :
    DlPost g w (.returned (.agg #[.slice (some ⟨G, 0, none⟩) n2 c])) (wr.setCell ⟨w.heap.size + 1, 0, none⟩ (.slice (some ⟨G, 0, none⟩) n2 c)) :=
  ⟨_, n2, c, zss, rfl, (h.o.farc (p := ⟨w.heap.size + 1, 0, none⟩) h.res rfl (by decide) (by decide)).ann hl hn, grown_new1 h.gr (by omega) 0 _⟩
theorem LiI.fin1 {n : Nat} {A : Option Addr} {c' : Nat} (h : LiI w g P A1 n1 c1 A2 n2 c2 X G c vs sp zss wr) (hl : zss.length = n2) (hn : n2 ≤ 1048576) (he : n + 1 = n2) (hA : A = some ⟨G, 1, none⟩ ∨ n = 0) :
    DlPost g w (.returned (.agg #[.slice A n c'])) ((wr.setCell ⟨X, 0, none⟩ (.slice A n c')).setCell ⟨w.heap.size + 1, 0, none⟩ (.slice A n c')) := by
  have hx := h.xs
  have o1 := h.o.farc (p := ⟨X, 0, none⟩) (u := .slice A n c') h.x rfl (by decide) (by decide)
  have r1 := h.res.far (p := ⟨X, 0, none⟩) (by simp; omega) (.slice A n c')
  have o2 := o1.farc (p := ⟨w.heap.size + 1, 0, none⟩) (u := .slice A n c') r1 rfl (by decide) (by decide)
  refine ⟨A, n, c', if A = some ⟨G, 1, none⟩ then zss.drop 1 else [], rfl, ?_, grown_new1 (grown_new1 h.gr (by omega) 0 _) (by omega) 0 _⟩
  split
  · rename_i e
    subst e
    exact o2.tail (by omega) (by omega)
  · rename_i e
    obtain rfl : n = 0 := hA.resolve_left e
    exact ⟨rfl, by omega, [], Sees.nil_ _ _ _, rfl, fun i v zs hv => by simp at hv⟩
set_option maxRecDepth 100000 in
set_option maxHeartbeats 8000000 in
theorem dlive_any (w : World) (hC : Hid (CdAt w A2 n2 l)) (hok : Hid (LvOk l n1)) (hCd : Hid (Codes w g)) (hn2 : 1 ≤ n2) :
    Calls Try.prog 14 #[.pointer (some ⟨g, 0, none⟩), fv P A1 n1 c1 A2 n2 c2] w (DlPost g w) := by
  obtain ⟨j0, ji, jz0, jz1, jz2⟩ := info_parts infoS
  have hlen := hC.out.len
  have hnf := hC.out.few
  have hMf := hok.out.few
  have hgs := hCd.out.lt
  obtain ⟨W2, hW2⟩ : ∃ W, (w.alloc (.cells #[.int .i64 P, .slice A1 n1 c1, .slice A2 n2 c2] 27)).alloc (.cells #[.slice none 0 0] 30) = W := ⟨_, rfl⟩
  have F2 := hide (show Row W2 w.heap.size 27 [.int .i64 P, .slice A1 n1 c1, .slice A2 n2 c2] by rw [← hW2]; exact (Row.new w _ _).alloc _)
  have R2 := hide (show Row W2 (w.heap.size + 1) 30 [.slice none 0 0] by rw [← hW2]; exact (Row.new _ _ _).at_ (by simp))
  have B2 := hide (show Below w.heap.size w W2 by rw [← hW2]; exact below2 w _ _)
  have hs2 : W2.heap.size = w.heap.size + 2 := by rw [← hW2]; simp
  have HW2 := hide hW2
  have HS2 := hide hs2
  have csol := rsolve_any (P := P) (A1 := A1) (n1 := n1) (c1 := c1) (c2 := c2) W2 (hide (hC.out.below B2.out)) hok
  have hsl : (solL l n1).length = n2 := by rw [(sol_in hok.out).len, hlen]
  have HSI := hide (show LvIn n2 n1 (solL l n1) by rw [← hlen]; exact sol_in hok.out)
  obtain ⟨sol, hsol⟩ : ∃ s, solL l n1 = s := ⟨_, rfl⟩
  rw [hsol] at csol hsl HSI
  clear hsol
  have q0 := F2.out.cell (k := 0) rfl
  have q1 := F2.out.cell (k := 1) rfl
  have q2 := F2.out.cell (k := 2) rfl
  clear hW2 hs2
  go_enter Try.func14, Try.ntmps14
  go_upto_region 1 with (fail)
  rw [HW2.out]
  clear HW2
  go_wp2_with fail
  refine csol.mono ?_
  rintro e w3 ⟨g3, c3, us, up, rfl, ho3, hb3⟩
  rw [hsl]
  obtain ⟨W4, hW4⟩ : ∃ W, w3.alloc (.cells #[.slice (some ⟨g3, 0, none⟩) n2 c3] 30) = W := ⟨_, rfl⟩
  have hb4 : Below w3.heap.size w3 W4 := by rw [← hW4]; exact below1 _ _
  have hx1 : w.heap.size + 2 ≤ w3.heap.size := by have := hb3.size; have := HS2.out; omega
  have I4 := hide (show LiI w g P A1 n1 c1 A2 n2 c2 w3.heap.size g3 c3 us up sol W4 from
    ⟨(F2.out.call hb3).call hb4, (R2.out.call hb3).call hb4, by rw [← hW4]; exact Row.new w3 _ _, (ho3.below hb4).lower (show w.heap.size ≤ W2.heap.size from B2.out.size),
      hCd.out.below (below_call (below_call B2.out hb3) hb4), grown_below (below_call (below_call B2.out hb3) hb4) _, hgs, by omega⟩)
  have HW4 := hide hW4
  obtain ⟨X1, hX1⟩ : ∃ X, w3.heap.size = X := ⟨_, rfl⟩
  rw [hX1] at I4 hx1
  have HX1 := hide hX1
  clear hb3 hb4 hW4 ho3 hX1 q0 q1 q2 csol F2 R2 B2 HS2
  go_upto_region 2 with (fail)
  rw [HW4.out, HX1.out]
  clear HW4 HX1
  have cn := next_any g 3 W4 (hide I4.out.cd) (by omega) (by omega)
  go_wp2_with fail
  refine cn.mono ?_
  rintro e w5 ⟨v5, rfl, v0, v1, hC5, hG5, -⟩
  have I5 := hide (I4.out.next hG5 hC5)
  clear hC5 hG5 cn I4
  by_cases hz5 : v5 = 0
  · subst hz5
    have x0 := I5.out.x.cell (k := 0) rfl
    have z1 := I5.out.res.cell (k := 0) rfl
    have z2 := I5.out.res.free 0
    have HF := hide (I5.out.fin hsl (by omega))
    have R9 := I5.out.res.set_ 0 (.slice (some ⟨g3, 0, none⟩) n2 c3)
    obtain ⟨W9, hW9⟩ : ∃ W, w5.setCell ⟨w.heap.size + 1, 0, none⟩ (.slice (some ⟨g3, 0, none⟩) n2 c3) = W := ⟨_, rfl⟩
    rw [hW9] at R9 HF
    have HW9 := hide hW9
    have hld := load_row (agg_live (w := W9)) (size_live (w := W9)) rfl R9
    clear hW9 R9 I5
    go_wp2_with fail
    rw [HW9.out]
    exact bodyPost_ret (results_cell1 (fn := Try.f14) (t := 4) (T := 30) rfl _ W9 _ _ _ rfl hld) rfl HF.out
  have hz5' : (v5 == 0) = false := by simpa using hz5
  have y0 := I5.out.x.cell (k := 0) rfl
  have ho0 : w5.ownsRow w5.heap.size 38 1 (.slice none 0 0) 0 [] := ⟨rfl, .inl ⟨rfl, rfl⟩⟩
  have hul : us.length = n2 := by rw [I5.out.o.len, hsl]
  have HSe := hide (show Sees w5 w5.heap.size (some ⟨g3, 0, none⟩) us from fun k u hu => ⟨g3, 0, rfl, I5.out.o.row.lt, by rw [Nat.zero_add]; exact I5.out.o.row.cell (by rw [List.getElem?_append_left (List.getElem?_eq_some_iff.1 hu).1]; exact hu)⟩)
  have H1 := hide (slices_one I5.out.o)
  go_upto_region 4 with (fail)
  go_wp2_with (at_builtin; refine wpList_append_sees rfl (.const (.slice none 0 0)) (.tmp 18) 28 rfl w5.heap.size 38 j0 (.slice none 0 0) 24 Try.underlying28 ji jz0 jz1 jz2 rfl _ 0 [] rfl ho0 w5.heap.size (some ⟨g3, 0, none⟩) n2 c3 us rfl (hide (fun e => by cases e)) hul HSe.out H1.out (by unfold maxLen; omega) (by omega) (Nat.le_refl _) ?_)
  intro v6 w6 ho6 hg6
  have hb6 : Below w5.heap.size w5 w6 := (Below.refl w5.heap.size w5).grown hg6 (Nat.le_refl _) (fun k hk => by cases hk)
  obtain ⟨G, c5, sp, rfl, hG6, hR6⟩ := own_row ho6 (by omega)
  have hGB : w.heap.size ≤ G := by have := I5.out.gr.size; omega
  have hcap : n2 ≤ c5 := by
    rcases ho6.2 with ⟨e, h0⟩ | ⟨g', cap, cur, hv, -, -, hn, -, -, -⟩
    · omega
    · injection hv with e1 e2 e3
      omega
  obtain ⟨W6, hW6⟩ : ∃ W, w6.alloc (.cells #[.slice (some ⟨G, 0, none⟩) n2 c5] 30) = W := ⟨_, rfl⟩
  have hb7 : Below w6.heap.size w6 W6 := by rw [← hW6]; exact below1 _ _
  have hx2 : w.heap.size + 1 < w6.heap.size := by have := hb6.size; have := I5.out.res.lt; omega
  have I6 := hide (show LiI w g P A1 n1 c1 A2 n2 c2 w6.heap.size G c5 us sp sol W6 from
    ⟨((I5.out.f).call hb6).call hb7, ((I5.out.res).call hb6).call hb7, by rw [← hW6]; exact Row.new w6 _ _,
      ⟨I5.out.o.len, hR6.call hb7, hGB, fun i v zs hv hz => own_below (own_below (I5.out.o.own i v zs hv hz) hb6) hb7, I5.out.o.rng⟩,
      (I5.out.cd.below hb6).below hb7, I5.out.gr.trans (grown_below (below_call hb6 hb7) _), hgs, hx2⟩)
  have HW6 := hide hW6
  obtain ⟨X, hX⟩ : ∃ X, w6.heap.size = X := ⟨_, rfl⟩
  rw [hX] at I6
  have HX := hide hX
  clear hb6 hb7 hW6 ho6 hg6 hX hR6 hx2 y0 I5 HSe H1 ho0 hul hG6 hGB hx1
  go_upto_region 5 with (fail)
  rw [HW6.out, HX.out]
  clear HW6 HX
  have cn := next_any g 4 W6 (hide I6.out.cd) (by omega) (by omega)
  go_wp2_with fail
  refine cn.mono ?_
  rintro e w7 ⟨v7, rfl, v0, v1, hC7, hG7, -⟩
  have I7 := hide (I6.out.next hG7 hC7)
  clear hC7 hG7 cn I6
  go_wp2_with fail
  obtain ⟨cnt, rfl⟩ := Int.eq_ofNat_of_zero_le v0
  go_loopw [7] (fun s7 wr => ∃ (d : Nat) (L : List (List Int)) (vs : List Value), s7 = .int .i64 (d : Int) ∧ d ≤ 4 ∧ Hid (LvIn n2 n1 L) ∧ Hid (LiI w g P A1 n1 c1 A2 n2 c2 X G c5 vs sp L wr)) (fun s7 _ => (intOf s7).toNat)
  case atStart => exact ⟨cnt, _, _, rfl, by omega, HSI, I7⟩
  case round =>
    obtain ⟨d, L, vs, rfl, hd3, hLI, hI⟩ := hrel
    clear I7
    have HLL := hide hLI.out.len
    have q1 := hI.out.f.cell (k := 1) rfl
    by_cases hgo : 0 < d ∧ 0 < n1
    · obtain ⟨hd0, hm0⟩ := hgo
      have hd0' : (0 : Int) < (d : Int) := by omega
      have hm0' : (0 : Int) < (n1 : Int) := by omega
      have cn := next_any g (n1 : Int) wr (hide hI.out.cd) (by omega) (by omega)
      go_wp2_with fail
      refine cn.mono ?_
      rintro e w8 ⟨s, rfl, s0, s1, hC8, hG8, -⟩
      have I8 := hide (hI.out.next hG8 hC8)
      clear hC8 hG8 cn hI q1
      go_upto_region 9 with (fail)
      have cn := next_any g 2 w8 (hide I8.out.cd) (by omega) (by omega)
      go_wp2_with fail
      refine cn.mono ?_
      rintro e w9 ⟨b9, rfl, b0, b1, hC9, hG9, -⟩
      have I9 := hide (I8.out.next hG9 hC9)
      clear hC9 hG9 cn I8
      by_cases hb9 : b9 = 0
      · subst hb9
        have HLA := hide (adI_in hLI.out s1 n2)
        have I9 := hide (show LiI w g P A1 n1 c1 A2 n2 c2 X G c5 vs sp (adI L s 0) w9 by rw [adI_start]; exact I9.out)
        go_wp2_with fail
        go_loopw [9] (fun s9 wr => ∃ (k : Nat) (vs : List Value), s9 = .int .i64 (k : Int) ∧ k ≤ n2 ∧ Hid (LiI w g P A1 n1 c1 A2 n2 c2 X G c5 vs sp (adI L s k) wr)) (fun s9 _ => n2 - (intOf s9).toNat)
        case atStart => exact ⟨0, vs, rfl, by omega, I9⟩
        case round =>
          obtain ⟨k, vs2, rfl, hk, hI⟩ := hrel
          clear I9
          have x0 := hI.out.x.cell (k := 0) rfl
          by_cases hlt : k < n2
          · have hkl : k < L.length := by have := HLL.out; omega
            obtain ⟨Ak, ck, hvk, z0, hlk, hnk, -⟩ := hI.out.o.vat (adI_at (s := s) hkl)
            have HUA := hide (hLI.out.asc k)
            have HST := hide (adI_step (s := s) hkl)
            have HAL := hide (show k < (adI L s k).length by rw [adI_len]; exact hkl)
            obtain ⟨u, hu⟩ : ∃ u, L.getD k [] = u := ⟨_, rfl⟩
            rw [hu] at HUA hlk hvk z0 HST
            have CU := hide (fun (V : World) (hb : Below wr.heap.size wr V) => (s_add ck (x := s) (hide (hlk.below hb)) HUA (hide rfl) : Calls Try.prog 29 #[.slice Ak u.length ck, .int .i64 s] V (OutPost (addL u s) V)))
            have HRA := hide (IntOk.asc (addL_asc (n := s) HUA.out))
            obtain ⟨r, hr⟩ : ∃ r, addL u s = r := ⟨_, rfl⟩
            rw [hr] at HST CU HRA
            have HPT := hide (fun (V : World) (A' : Option Addr) (c' : Nat) (h : Hid (LiI w g P A1 n1 c1 A2 n2 c2 X G c5 vs2 sp (adI L s k) V)) (ho : V.ownsRow w.heap.size 3 1 (.slice A' r.length c') r.length (cellsI r)) =>
              (show LiI w g P A1 n1 c1 A2 n2 c2 X G c5 (vs2.set k (.slice A' r.length c')) sp (adI L s (k + 1)) (V.setCell ⟨G, k, none⟩ (.slice A' r.length c')) by
                rw [HST.out]; exact h.out.put HAL.out ho HRA.out))
            have HZ := hide (fun (V : World) (h : Hid (LiI w g P A1 n1 c1 A2 n2 c2 X G c5 vs2 sp (adI L s k) V)) => (show V.cell? ⟨G, k, none⟩ = some (.slice Ak u.length ck) ∧ V.frozen? ⟨G, k, none⟩ = false from
              ⟨h.out.o.row.cell (by rw [List.getElem?_append_left (List.getElem?_eq_some_iff.1 hvk).1]; exact hvk), h.out.o.free k⟩))
            have KS := hide (fun (V : World) (h : Hid (LiI w g P A1 n1 c1 A2 n2 c2 X G c5 vs2 sp (adI L s k) V)) => (⟨h.out.x.cell (k := 0) rfl, (HZ.out V h).1⟩ : _ ∧ _))
            have HSZ := hide (show w.heap.size ≤ wr.heap.size from hI.out.gr.size)
            have J0 := hide (hI.out.call (Below.refl _ _).drew)
            have HS0 := KS.out _ J0
            have B0 := hide (show Below wr.heap.size wr wr.drew from (Below.refl _ _).drew)
            have hk0 : (0 : Int) ≤ (k : Int) := by omega
            have hkn : (k : Int) < (n2 : Int) := by omega
            clear hu hr hvk hlk hnk hkl
            go_upto_region 13 with (fail)
            refine wp_region_lastH (S := (fun V => V.cell? ⟨X, 0, none⟩ = some (.slice (some ⟨G, 0, none⟩) n2 c5) ∧ V.cell? ⟨G, k, none⟩ = some (.slice Ak u.length ck))) 11 (by kernel_rfl) rfl rfl (by kernel_rfl) ?_
            have hHeld := HS0
            refine wpAnyH_take (i := 0) (v := ?_) tk_0 (by kernel_rfl) (by kernel_rfl) (by kernel_rfl) (fun _ _ _ h => h) (Or.inl ⟨by rfl, ?_⟩) hHeld ?_
            rotate_left
            · intro V hSw
              try dsimp only at hSw
              go_simp
              all_goals with_reducible rfl
            try simp only [Act.put, List.setIfInBounds_toArray, List.set_cons_zero, List.set_cons_succ]
            refine wpAnyH_take (i := 1) (v := ?_) tk_1 (by kernel_rfl) (by kernel_rfl) (by kernel_rfl) (fun _ _ _ h => h) (Or.inl ⟨by rfl, ?_⟩) hHeld ?_
            rotate_left
            · intro V hSw
              try dsimp only at hSw
              go_simp
              all_goals with_reducible rfl
            try simp only [Act.put, List.setIfInBounds_toArray, List.set_cons_zero, List.set_cons_succ]
            refine wpAnyH_take (i := 2) (v := ?_) tk_2 (by kernel_rfl) (by kernel_rfl) (by kernel_rfl) (fun _ _ _ h => h) (Or.inl ⟨by rfl, ?_⟩) hHeld ?_
            rotate_left
            · intro V hSw
              try dsimp only at hSw
              go_simp
              all_goals with_reducible rfl
            try simp only [Act.put, List.setIfInBounds_toArray, List.set_cons_zero, List.set_cons_succ]
            refine wpAnyH_take (i := 3) (v := ?_) tk_3 (by kernel_rfl) (by kernel_rfl) (by kernel_rfl) (fun _ _ _ h => h) (Or.inl ⟨by rfl, ?_⟩) hHeld ?_
            rotate_left
            · intro V hSw
              try dsimp only at hSw
              go_simp
              all_goals with_reducible rfl
            try simp only [Act.put, List.setIfInBounds_toArray, List.set_cons_zero, List.set_cons_succ]
            refine wpAnyH_take (i := 4) (v := ?_) tk_4 (by kernel_rfl) (by kernel_rfl) (by kernel_rfl) (fun _ _ _ h => h) (Or.inl ⟨by rfl, ?_⟩) hHeld ?_
            rotate_left
            · intro V hSw
              try dsimp only at hSw
              go_simp
              all_goals with_reducible rfl
            try simp only [Act.put, List.setIfInBounds_toArray, List.set_cons_zero, List.set_cons_succ]
            refine wpAnyH_take (i := 5) (v := ?_) tk_5 (by kernel_rfl) (by kernel_rfl) (by kernel_rfl) (fun _ _ _ h => h) (Or.inl ⟨by rfl, ?_⟩) hHeld ?_
            rotate_left
            · intro V hSw
              try dsimp only at hSw
              go_simp
              all_goals with_reducible rfl
            try simp only [Act.put, List.setIfInBounds_toArray, List.set_cons_zero, List.set_cons_succ]
            refine wpAnyH_take (i := 6) (v := ?_) tk_6 (by kernel_rfl) (by kernel_rfl) (by kernel_rfl) (fun _ _ _ h => h) (Or.inl ⟨by rfl, ?_⟩) hHeld ?_
            rotate_left
            · intro V hSw
              try dsimp only at hSw
              go_simp
              all_goals with_reducible rfl
            try simp only [Act.put, List.setIfInBounds_toArray, List.set_cons_zero, List.set_cons_succ]
            refine wpAnyH_take (i := 7) (v := ?_) tk_7 (by kernel_rfl) (by kernel_rfl) (by kernel_rfl) (fun _ _ _ h => h) (Or.inl ⟨by rfl, ?_⟩) hHeld ?_
            rotate_left
            · intro V hSw
              try dsimp only at hSw
              go_simp
              all_goals with_reducible rfl
            try simp only [Act.put, List.setIfInBounds_toArray, List.set_cons_zero, List.set_cons_succ]
            refine wpAnyH_take (i := 8) (v := ?_) tk_8 (by kernel_rfl) (by kernel_rfl) (by kernel_rfl) (fun _ _ _ h => h) (Or.inl ⟨by rfl, ?_⟩) hHeld ?_
            rotate_left
            · intro V hSw
              try dsimp only at hSw
              go_simp
              all_goals with_reducible rfl
            try simp only [Act.put, List.setIfInBounds_toArray, List.set_cons_zero, List.set_cons_succ]
            refine wpAnyH_ready (rs := [9]) (by kernel_rfl) (by simp) ?_
            refine AllReadyH.cons tk_9 (fun K hK => ?_) AllReadyH.nil
            go_simp
            go_at_call 29
            with_reducible refine Calls.mono (CU.out _ B0.out) ?_
            intro e w6 h6
            unfold OutPost at h6
            obtain ⟨A6, c6, rfl, ho6, hb6⟩ := h6
            have J6 := hide (J0.out.call hb6)
            have HS6 := KS.out _ J6
            obtain ⟨z6, f6⟩ := HZ.out _ J6
            have J7 := hide (HPT.out _ _ _ J6 (own_lower ho6 (Nat.le_trans HSZ.out B0.out.size)))
            clear ho6 hb6
            refine hK.out _ _ HS6 (fun hHeld => ?_)
            clear hK K
            try simp only [Act.put, List.setIfInBounds_toArray, List.set_cons_zero, List.set_cons_succ]
            refine wpAnyH_take (i := 10) (v := ?_) tk_10 (by kernel_rfl) (by kernel_rfl) (by kernel_rfl) (fun _ _ _ h => h) (Or.inl ⟨by rfl, ?_⟩) hHeld ?_
            rotate_left
            · intro V hSw
              try dsimp only at hSw
              go_simp
              all_goals with_reducible rfl
            try simp only [Act.put, List.setIfInBounds_toArray, List.set_cons_zero, List.set_cons_succ]
            refine wpAnyH_done (by kernel_rfl) ?_ _
            unfold LastQ
            clear HS0 HS6 CU HZ KS J0 HPT HST HUA HRA hI x0 HAL
            go_wp2_with fail
            go_roundw
            case rel => exact ⟨k + 1, _, by go_num, by omega, J7⟩
            case measure => simp [intOf]; omega
          · obtain rfl : k = n2 := by omega
            clear x0
            have x0 := hI.out.x.cell (k := 0) rfl
            go_wp2_with fail
            go_roundw
            case rel => exact ⟨d - 1, _, vs2, by go_num, by omega, HLA, hI⟩
            case measure => simp [intOf]; omega
      · have hb9' : (b9 == 0) = false := by simpa using hb9
        have hn20 : (1 : Int) ≤ (n2 : Int) := by omega
        have x0 := I9.out.x.cell (k := 0) rfl
        go_upto_region 14 with (fail)
        have cn := next_any g (n2 : Int) w9 (hide I9.out.cd) (by omega) (by omega)
        go_wp2_with fail
        refine cn.mono ?_
        rintro e w10 ⟨k, rfl, k0, k1, hC10, hG10, -⟩
        have I10 := hide (I9.out.next hG10 hC10)
        clear hC10 hG10 cn I9 x0
        obtain ⟨k, rfl⟩ := Int.eq_ofNat_of_zero_le k0
        go_upto_region 15 with (fail)
        have cn := next_any g 2 w10 (hide I10.out.cd) (by omega) (by omega)
        go_wp2_with fail
        refine cn.mono ?_
        rintro e wr ⟨b11, rfl, b0, b1, hC11, hG11, -⟩
        have hI := hide (I10.out.next hG11 hC11)
        clear hC11 hG11 cn I10
        have hkl : k < L.length := by have := HLL.out; omega
        have hLk : L[k]? = some (L.getD k []) := by rw [List.getD_eq_getElem?_getD, List.getElem?_eq_getElem hkl]; rfl
        obtain ⟨Ak, ck, hvk, z0, hlk, hnk, -⟩ := hI.out.o.vat hLk
        have x0 := hI.out.x.cell (k := 0) rfl
        clear hLk
        by_cases hb11 : b11 = 0
        · subst hb11
          have HLA := hide (show LvIn n2 n1 (L.set k (addL (L.getD k []) s)) from lvin_set hLI.out (addL_asc (hLI.out.asc k)) (fun z hz => (mem_addL.1 hz).elim (fun h => by have := h.1; omega) (fun e => hLI.out.lt k z e)))
          have HUA := hide (hLI.out.asc k)
          have HAL := hide hkl
          obtain ⟨u, hu⟩ : ∃ u, L.getD k [] = u := ⟨_, rfl⟩
          rw [hu] at HUA hlk hvk z0 HLA
          have CU := hide (fun (V : World) (hb : Below wr.heap.size wr V) => (s_add ck (x := s) (hide (hlk.below hb)) HUA (hide rfl) : Calls Try.prog 29 #[.slice Ak u.length ck, .int .i64 s] V (OutPost (addL u s) V)))
          have HRA := hide (IntOk.asc (addL_asc (n := s) HUA.out))
          obtain ⟨r, hr⟩ : ∃ r, addL u s = r := ⟨_, rfl⟩
          rw [hr] at HLA CU HRA
          have HPT := hide (fun (V : World) (A' : Option Addr) (c' : Nat) (h : Hid (LiI w g P A1 n1 c1 A2 n2 c2 X G c5 vs sp (L) V)) (ho : V.ownsRow w.heap.size 3 1 (.slice A' r.length c') r.length (cellsI r)) =>
            (show LiI w g P A1 n1 c1 A2 n2 c2 X G c5 (vs.set k (.slice A' r.length c')) sp (L.set k r) (V.setCell ⟨G, k, none⟩ (.slice A' r.length c')) by
              exact h.out.put HAL.out ho HRA.out))
          have HZ := hide (fun (V : World) (h : Hid (LiI w g P A1 n1 c1 A2 n2 c2 X G c5 vs sp (L) V)) => (show V.cell? ⟨G, k, none⟩ = some (.slice Ak u.length ck) ∧ V.frozen? ⟨G, k, none⟩ = false from
            ⟨h.out.o.row.cell (by rw [List.getElem?_append_left (List.getElem?_eq_some_iff.1 hvk).1]; exact hvk), h.out.o.free k⟩))
          have KS := hide (fun (V : World) (h : Hid (LiI w g P A1 n1 c1 A2 n2 c2 X G c5 vs sp (L) V)) => (⟨h.out.x.cell (k := 0) rfl, (HZ.out V h).1⟩ : _ ∧ _))
          have HSZ := hide (show w.heap.size ≤ wr.heap.size from hI.out.gr.size)
          have J0 := hide (hI.out.call (Below.refl _ _).drew)
          have HS0 := KS.out _ J0
          have B0 := hide (show Below wr.heap.size wr wr.drew from (Below.refl _ _).drew)
          have hk0 : (0 : Int) ≤ (k : Int) := by omega
          have hkn : (k : Int) < (n2 : Int) := by omega
          clear hu hr hvk hlk hnk hkl
          go_upto_region 16 with (fail)
          refine wp_region_lastH (S := (fun V => V.cell? ⟨X, 0, none⟩ = some (.slice (some ⟨G, 0, none⟩) n2 c5) ∧ V.cell? ⟨G, k, none⟩ = some (.slice Ak u.length ck))) 11 (by kernel_rfl) rfl rfl (by kernel_rfl) ?_
          have hHeld := HS0
          refine wpAnyH_take (i := 0) (v := ?_) tk_0 (by kernel_rfl) (by kernel_rfl) (by kernel_rfl) (fun _ _ _ h => h) (Or.inl ⟨by rfl, ?_⟩) hHeld ?_
          rotate_left
          · intro V hSw
            try dsimp only at hSw
            go_simp
            all_goals with_reducible rfl
          try simp only [Act.put, List.setIfInBounds_toArray, List.set_cons_zero, List.set_cons_succ]
          refine wpAnyH_take (i := 1) (v := ?_) tk_1 (by kernel_rfl) (by kernel_rfl) (by kernel_rfl) (fun _ _ _ h => h) (Or.inl ⟨by rfl, ?_⟩) hHeld ?_
          rotate_left
          · intro V hSw
            try dsimp only at hSw
            go_simp
            all_goals with_reducible rfl
          try simp only [Act.put, List.setIfInBounds_toArray, List.set_cons_zero, List.set_cons_succ]
          refine wpAnyH_take (i := 2) (v := ?_) tk_2 (by kernel_rfl) (by kernel_rfl) (by kernel_rfl) (fun _ _ _ h => h) (Or.inl ⟨by rfl, ?_⟩) hHeld ?_
          rotate_left
          · intro V hSw
            try dsimp only at hSw
            go_simp
            all_goals with_reducible rfl
          try simp only [Act.put, List.setIfInBounds_toArray, List.set_cons_zero, List.set_cons_succ]
          refine wpAnyH_take (i := 3) (v := ?_) tk_3 (by kernel_rfl) (by kernel_rfl) (by kernel_rfl) (fun _ _ _ h => h) (Or.inl ⟨by rfl, ?_⟩) hHeld ?_
          rotate_left
          · intro V hSw
            try dsimp only at hSw
            go_simp
            all_goals with_reducible rfl
          try simp only [Act.put, List.setIfInBounds_toArray, List.set_cons_zero, List.set_cons_succ]
          refine wpAnyH_take (i := 4) (v := ?_) tk_4 (by kernel_rfl) (by kernel_rfl) (by kernel_rfl) (fun _ _ _ h => h) (Or.inl ⟨by rfl, ?_⟩) hHeld ?_
          rotate_left
          · intro V hSw
            try dsimp only at hSw
            go_simp
            all_goals with_reducible rfl
          try simp only [Act.put, List.setIfInBounds_toArray, List.set_cons_zero, List.set_cons_succ]
          refine wpAnyH_take (i := 5) (v := ?_) tk_5 (by kernel_rfl) (by kernel_rfl) (by kernel_rfl) (fun _ _ _ h => h) (Or.inl ⟨by rfl, ?_⟩) hHeld ?_
          rotate_left
          · intro V hSw
            try dsimp only at hSw
            go_simp
            all_goals with_reducible rfl
          try simp only [Act.put, List.setIfInBounds_toArray, List.set_cons_zero, List.set_cons_succ]
          refine wpAnyH_take (i := 6) (v := ?_) tk_6 (by kernel_rfl) (by kernel_rfl) (by kernel_rfl) (fun _ _ _ h => h) (Or.inl ⟨by rfl, ?_⟩) hHeld ?_
          rotate_left
          · intro V hSw
            try dsimp only at hSw
            go_simp
            all_goals with_reducible rfl
          try simp only [Act.put, List.setIfInBounds_toArray, List.set_cons_zero, List.set_cons_succ]
          refine wpAnyH_take (i := 7) (v := ?_) tk_7 (by kernel_rfl) (by kernel_rfl) (by kernel_rfl) (fun _ _ _ h => h) (Or.inl ⟨by rfl, ?_⟩) hHeld ?_
          rotate_left
          · intro V hSw
            try dsimp only at hSw
            go_simp
            all_goals with_reducible rfl
          try simp only [Act.put, List.setIfInBounds_toArray, List.set_cons_zero, List.set_cons_succ]
          refine wpAnyH_take (i := 8) (v := ?_) tk_8 (by kernel_rfl) (by kernel_rfl) (by kernel_rfl) (fun _ _ _ h => h) (Or.inl ⟨by rfl, ?_⟩) hHeld ?_
          rotate_left
          · intro V hSw
            try dsimp only at hSw
            go_simp
            all_goals with_reducible rfl
          try simp only [Act.put, List.setIfInBounds_toArray, List.set_cons_zero, List.set_cons_succ]
          refine wpAnyH_ready (rs := [9]) (by kernel_rfl) (by simp) ?_
          refine AllReadyH.cons tk_9 (fun K hK => ?_) AllReadyH.nil
          go_simp
          go_at_call 29
          with_reducible refine Calls.mono (CU.out _ B0.out) ?_
          intro e w6 h6
          unfold OutPost at h6
          obtain ⟨A6, c6, rfl, ho6, hb6⟩ := h6
          have J6 := hide (J0.out.call hb6)
          have HS6 := KS.out _ J6
          obtain ⟨z6, f6⟩ := HZ.out _ J6
          have J7 := hide (HPT.out _ _ _ J6 (own_lower ho6 (Nat.le_trans HSZ.out B0.out.size)))
          clear ho6 hb6
          refine hK.out _ _ HS6 (fun hHeld => ?_)
          clear hK K
          try simp only [Act.put, List.setIfInBounds_toArray, List.set_cons_zero, List.set_cons_succ]
          refine wpAnyH_take (i := 10) (v := ?_) tk_10 (by kernel_rfl) (by kernel_rfl) (by kernel_rfl) (fun _ _ _ h => h) (Or.inl ⟨by rfl, ?_⟩) hHeld ?_
          rotate_left
          · intro V hSw
            try dsimp only at hSw
            go_simp
            all_goals with_reducible rfl
          try simp only [Act.put, List.setIfInBounds_toArray, List.set_cons_zero, List.set_cons_succ]
          refine wpAnyH_done (by kernel_rfl) ?_ _
          unfold LastQ
          clear HS0 HS6 CU HZ KS J0 HPT  HUA HRA hI x0 HAL
          go_wp2_with fail
          go_roundw
          case rel => exact ⟨d - 1, _, _, by go_num, by omega, HLA, J7⟩
          case measure => simp [intOf]; omega
        · have hb11' : (b11 == 0) = false := by simpa using hb11
          have HLA := hide (show LvIn n2 n1 (L.set k (removeL (L.getD k []) s)) from lvin_set hLI.out (rmL_asc (hLI.out.asc k)) (fun z hz => hLI.out.lt k z (rmL_mem hz)))
          have HUA := hide (hLI.out.asc k)
          have HAL := hide hkl
          obtain ⟨u, hu⟩ : ∃ u, L.getD k [] = u := ⟨_, rfl⟩
          rw [hu] at HUA hlk hvk z0 HLA
          have CU := hide (fun (V : World) (hb : Below wr.heap.size wr V) => (s_remove ck (x := s) (hide (hlk.below hb)) HUA (hide rfl) : Calls Try.prog 30 #[.slice Ak u.length ck, .int .i64 s] V (OutPost (removeL u s) V)))
          have HRA := hide (IntOk.asc (rmL_asc (x := s) HUA.out))
          obtain ⟨r, hr⟩ : ∃ r, removeL u s = r := ⟨_, rfl⟩
          rw [hr] at HLA CU HRA
          have HPT := hide (fun (V : World) (A' : Option Addr) (c' : Nat) (h : Hid (LiI w g P A1 n1 c1 A2 n2 c2 X G c5 vs sp (L) V)) (ho : V.ownsRow w.heap.size 3 1 (.slice A' r.length c') r.length (cellsI r)) =>
            (show LiI w g P A1 n1 c1 A2 n2 c2 X G c5 (vs.set k (.slice A' r.length c')) sp (L.set k r) (V.setCell ⟨G, k, none⟩ (.slice A' r.length c')) by
              exact h.out.put HAL.out ho HRA.out))
          have HZ := hide (fun (V : World) (h : Hid (LiI w g P A1 n1 c1 A2 n2 c2 X G c5 vs sp (L) V)) => (show V.cell? ⟨G, k, none⟩ = some (.slice Ak u.length ck) ∧ V.frozen? ⟨G, k, none⟩ = false from
            ⟨h.out.o.row.cell (by rw [List.getElem?_append_left (List.getElem?_eq_some_iff.1 hvk).1]; exact hvk), h.out.o.free k⟩))
          have KS := hide (fun (V : World) (h : Hid (LiI w g P A1 n1 c1 A2 n2 c2 X G c5 vs sp (L) V)) => (⟨h.out.x.cell (k := 0) rfl, (HZ.out V h).1⟩ : _ ∧ _))
          have HSZ := hide (show w.heap.size ≤ wr.heap.size from hI.out.gr.size)
          have J0 := hide (hI.out.call (Below.refl _ _).drew)
          have HS0 := KS.out _ J0
          have B0 := hide (show Below wr.heap.size wr wr.drew from (Below.refl _ _).drew)
          have hk0 : (0 : Int) ≤ (k : Int) := by omega
          have hkn : (k : Int) < (n2 : Int) := by omega
          clear hu hr hvk hlk hnk hkl
          go_upto_region 17 with (fail)
          refine wp_region_lastH (S := (fun V => V.cell? ⟨X, 0, none⟩ = some (.slice (some ⟨G, 0, none⟩) n2 c5) ∧ V.cell? ⟨G, k, none⟩ = some (.slice Ak u.length ck))) 11 (by kernel_rfl) rfl rfl (by kernel_rfl) ?_
          have hHeld := HS0
          refine wpAnyH_take (i := 0) (v := ?_) tk_0 (by kernel_rfl) (by kernel_rfl) (by kernel_rfl) (fun _ _ _ h => h) (Or.inl ⟨by rfl, ?_⟩) hHeld ?_
          rotate_left
          · intro V hSw
            try dsimp only at hSw
            go_simp
            all_goals with_reducible rfl
          try simp only [Act.put, List.setIfInBounds_toArray, List.set_cons_zero, List.set_cons_succ]
          refine wpAnyH_take (i := 1) (v := ?_) tk_1 (by kernel_rfl) (by kernel_rfl) (by kernel_rfl) (fun _ _ _ h => h) (Or.inl ⟨by rfl, ?_⟩) hHeld ?_
          rotate_left
          · intro V hSw
            try dsimp only at hSw
            go_simp
            all_goals with_reducible rfl
          try simp only [Act.put, List.setIfInBounds_toArray, List.set_cons_zero, List.set_cons_succ]
          refine wpAnyH_take (i := 2) (v := ?_) tk_2 (by kernel_rfl) (by kernel_rfl) (by kernel_rfl) (fun _ _ _ h => h) (Or.inl ⟨by rfl, ?_⟩) hHeld ?_
          rotate_left
          · intro V hSw
            try dsimp only at hSw
            go_simp
            all_goals with_reducible rfl
          try simp only [Act.put, List.setIfInBounds_toArray, List.set_cons_zero, List.set_cons_succ]
          refine wpAnyH_take (i := 3) (v := ?_) tk_3 (by kernel_rfl) (by kernel_rfl) (by kernel_rfl) (fun _ _ _ h => h) (Or.inl ⟨by rfl, ?_⟩) hHeld ?_
          rotate_left
          · intro V hSw
            try dsimp only at hSw
            go_simp
            all_goals with_reducible rfl
          try simp only [Act.put, List.setIfInBounds_toArray, List.set_cons_zero, List.set_cons_succ]
          refine wpAnyH_take (i := 4) (v := ?_) tk_4 (by kernel_rfl) (by kernel_rfl) (by kernel_rfl) (fun _ _ _ h => h) (Or.inl ⟨by rfl, ?_⟩) hHeld ?_
          rotate_left
          · intro V hSw
            try dsimp only at hSw
            go_simp
            all_goals with_reducible rfl
          try simp only [Act.put, List.setIfInBounds_toArray, List.set_cons_zero, List.set_cons_succ]
          refine wpAnyH_take (i := 5) (v := ?_) tk_5 (by kernel_rfl) (by kernel_rfl) (by kernel_rfl) (fun _ _ _ h => h) (Or.inl ⟨by rfl, ?_⟩) hHeld ?_
          rotate_left
          · intro V hSw
            try dsimp only at hSw
            go_simp
            all_goals with_reducible rfl
          try simp only [Act.put, List.setIfInBounds_toArray, List.set_cons_zero, List.set_cons_succ]
          refine wpAnyH_take (i := 6) (v := ?_) tk_6 (by kernel_rfl) (by kernel_rfl) (by kernel_rfl) (fun _ _ _ h => h) (Or.inl ⟨by rfl, ?_⟩) hHeld ?_
          rotate_left
          · intro V hSw
            try dsimp only at hSw
            go_simp
            all_goals with_reducible rfl
          try simp only [Act.put, List.setIfInBounds_toArray, List.set_cons_zero, List.set_cons_succ]
          refine wpAnyH_take (i := 7) (v := ?_) tk_7 (by kernel_rfl) (by kernel_rfl) (by kernel_rfl) (fun _ _ _ h => h) (Or.inl ⟨by rfl, ?_⟩) hHeld ?_
          rotate_left
          · intro V hSw
            try dsimp only at hSw
            go_simp
            all_goals with_reducible rfl
          try simp only [Act.put, List.setIfInBounds_toArray, List.set_cons_zero, List.set_cons_succ]
          refine wpAnyH_take (i := 8) (v := ?_) tk_8 (by kernel_rfl) (by kernel_rfl) (by kernel_rfl) (fun _ _ _ h => h) (Or.inl ⟨by rfl, ?_⟩) hHeld ?_
          rotate_left
          · intro V hSw
            try dsimp only at hSw
            go_simp
            all_goals with_reducible rfl
          try simp only [Act.put, List.setIfInBounds_toArray, List.set_cons_zero, List.set_cons_succ]
          refine wpAnyH_ready (rs := [9]) (by kernel_rfl) (by simp) ?_
          refine AllReadyH.cons tk_9 (fun K hK => ?_) AllReadyH.nil
          go_simp
          go_at_call 30
          with_reducible refine Calls.mono (CU.out _ B0.out) ?_
          intro e w6 h6
          unfold OutPost at h6
          obtain ⟨A6, c6, rfl, ho6, hb6⟩ := h6
          have J6 := hide (J0.out.call hb6)
          have HS6 := KS.out _ J6
          obtain ⟨z6, f6⟩ := HZ.out _ J6
          have J7 := hide (HPT.out _ _ _ J6 (own_lower ho6 (Nat.le_trans HSZ.out B0.out.size)))
          clear ho6 hb6
          refine hK.out _ _ HS6 (fun hHeld => ?_)
          clear hK K
          try simp only [Act.put, List.setIfInBounds_toArray, List.set_cons_zero, List.set_cons_succ]
          refine wpAnyH_take (i := 10) (v := ?_) tk_10 (by kernel_rfl) (by kernel_rfl) (by kernel_rfl) (fun _ _ _ h => h) (Or.inl ⟨by rfl, ?_⟩) hHeld ?_
          rotate_left
          · intro V hSw
            try dsimp only at hSw
            go_simp
            all_goals with_reducible rfl
          try simp only [Act.put, List.setIfInBounds_toArray, List.set_cons_zero, List.set_cons_succ]
          refine wpAnyH_done (by kernel_rfl) ?_ _
          unfold LastQ
          clear HS0 HS6 CU HZ KS J0 HPT  HUA HRA hI x0 HAL
          go_wp2_with fail
          go_roundw
          case rel => exact ⟨d - 1, _, _, by go_num, by omega, HLA, J7⟩
          case measure => simp [intOf]; omega
    · by_cases hd : 0 < d
      · obtain rfl : n1 = 0 := by omega
        have hd0 : (0 : Int) < (d : Int) := by omega
        have cn := next_any g 12 wr (hide hI.out.cd) (by omega) (by omega)
        go_wp2_with fail
        refine cn.mono ?_
        rintro e w12 ⟨v12, rfl, v0, v1, hC12, hG12, -⟩
        have I12 := hide (hI.out.next hG12 hC12)
        clear hC12 hG12 cn hI q1
        by_cases h10 : v12 = 10
        · subst h10
          have hn21 : (1 : Int) ≤ (n2 : Int) := by omega
          have x0 := I12.out.x.cell (k := 0) rfl
          have xf := I12.out.x.free 0
          have hA : (if c5 = 1 then (some ⟨G, 0, none⟩ : Option Addr) else some ⟨G, 1, none⟩) = some ⟨G, 1, none⟩ ∨ n2 - 1 = 0 := by
            by_cases hc : c5 = 1
            · exact .inr (by omega)
            · exact .inl (by rw [if_neg hc])
          go_upto_region 23 with (fail)
          obtain ⟨S, hS⟩ : ∃ S, (if c5 = 1 then (some ⟨G, 0, none⟩ : Option Addr) else some ⟨G, 1, none⟩) = S := ⟨_, rfl⟩
          rw [hS] at hA ⊢
          obtain ⟨WX, hWX⟩ : ∃ W, w12.setCell ⟨X, 0, none⟩ (.slice S (n2 - 1) (c5 - 1)) = W := ⟨_, rfl⟩
          have RX := I12.out.x.set_ 0 (.slice S (n2 - 1) (c5 - 1))
          have RR := I12.out.res.far (p := ⟨X, 0, none⟩) (by simp; have := I12.out.xs; omega) (.slice S (n2 - 1) (c5 - 1))
          have hf := I12.out.fin1 (n := n2 - 1) (A := S) (c' := c5 - 1) HLL.out (by omega) (by omega) hA
          rw [hWX] at RX RR hf
          rw [hWX]
          have R9 := RR.set_ 0 (.slice S (n2 - 1) (c5 - 1))
          obtain ⟨W9, hW9⟩ : ∃ W, (WX).setCell ⟨w.heap.size + 1, 0, none⟩ (.slice S (n2 - 1) (c5 - 1)) = W := ⟨_, rfl⟩
          have HF := hide hf
          rw [hW9] at R9 HF
          have HW9 := hide hW9
          have hld := load_row (agg_live (w := W9)) (size_live (w := W9)) rfl R9
          have x1 := RX.cell (k := 0) rfl
          have z1 := RR.cell (k := 0) rfl
          have z2 := RR.free 0
          clear x0 xf hW9 R9 hf hS hWX RX RR I12
          go_wp2_with fail
          rw [HW9.out]
          exact bodyPost_ret (results_cell1 (fn := Try.f14) (t := 4) (T := 30) rfl _ W9 _ _ _ rfl hld) rfl HF.out
        have h10' : (v12 == 10) = false := by simpa using h10
        by_cases h11 : v12 = 11
        · subst h11
          have x0 := I12.out.x.cell (k := 0) rfl
          have xf := I12.out.x.free 0
          have CI := hide (fun (V : World) (h : Hid (LiI w g P A1 0 c1 A2 n2 c2 X G c5 vs sp L V)) => intr_any g V (hide h.out.cd))
          have J0 := hide (I12.out.call (Below.refl _ _).drew)
          have hvl : 0 < vs.length := by have := I12.out.o.len; have := HLL.out; omega
          obtain ⟨u0, hu0⟩ : ∃ u, (vs ++ sp)[0]? = some u := ⟨_, List.getElem?_eq_getElem (by simp; omega)⟩
          have hn21 : (0 : Int) < (n2 : Int) := by omega
          have hn22 : 0 < n2 := by omega
          go_upto_region 22 with (fail)
          go_region_held3 (fun V => V.cell? ⟨X, 0, none⟩ = some (.slice (some ⟨G, 0, none⟩) n2 c5))
            (first | exact s6 | exact J0.out.x.cell (k := 0) rfl | exact J1.out.x.cell (k := 0) rfl | exact J2.out.x.cell (k := 0) rfl | exact (J2.out.call (below1 _ _)).x.cell (k := 0) rfl)
            (first
              | (go_at_call 31; with_reducible refine Calls.mono (CI.out _ J0) ?_; intro e w13 h13; unfold IntPostR at h13; obtain ⟨a, rfl, ha, hCa, hGa⟩ := h13; have J1 := hide (J0.out.next hGa hCa); clear hCa hGa)
              | (go_at_call 31; with_reducible refine Calls.mono (CI.out _ J1) ?_; intro e w14 h14; unfold IntPostR at h14; obtain ⟨b, rfl, hb, hCb, hGb⟩ := h14; have J2 := hide (J1.out.next hGb hCb); have z6 := fun (o : Obj) => (J2.out.call (below1 w14 o)).o.row.cell (k := 0) hu0; have f6 := fun (o : Obj) => (J2.out.call (below1 w14 o)).o.free 0; have J4 := hide ((J2.out.call (below1 w14 (.cells #[.int .i64 a, .int .i64 b] 3))).put (j := 0) (zs := [a, b]) (v := .slice (some ⟨w14.heap.size, 0, none⟩) 2 2) (by have := HLL.out; omega) (own_two w14 a b J2.out.gr.size) (int_two ha hb)); have s6 := J4.out.x.cell (k := 0) rfl; clear hCb hGb))
          all_goals
            clear x0 xf z6 f6 s6
            obtain ⟨W15, hW15⟩ : ∃ V, (w14.alloc (.cells #[.int .i64 a, .int .i64 b] 3)).setCell ⟨G, 0, none⟩ (.slice (some ⟨w14.heap.size, 0, none⟩) 2 2) = V := ⟨_, rfl⟩
            rw [hW15] at J4
            have HW15 := hide hW15
            clear hW15 J0 J1 J2 I12 CI
            go_upto_region 23 with (fail)
            rw [HW15.out]
            have x0 := J4.out.x.cell (k := 0) rfl
            have z1 := J4.out.res.cell (k := 0) rfl
            have z2 := J4.out.res.free 0
            have R9 := J4.out.res.set_ 0 (.slice (some ⟨G, 0, none⟩) n2 c5)
            obtain ⟨W9, hW9⟩ : ∃ W, (W15).setCell ⟨w.heap.size + 1, 0, none⟩ (.slice (some ⟨G, 0, none⟩) n2 c5) = W := ⟨_, rfl⟩
            have HF := hide (J4.out.fin (by rw [List.length_set]; exact HLL.out) (by omega))
            rw [hW9] at R9 HF
            have HW9 := hide hW9
            have hld := load_row (agg_live (w := W9)) (size_live (w := W9)) rfl R9
            clear hW9 R9 J4
            go_wp2_with fail
            rw [HW9.out]
            exact bodyPost_ret (results_cell1 (fn := Try.f14) (t := 4) (T := 30) rfl _ W9 _ _ _ rfl hld) rfl HF.out
        have h11' : (v12 == 11) = false := by simpa using h11
        have x0 := I12.out.x.cell (k := 0) rfl
        have z1 := I12.out.res.cell (k := 0) rfl
        have z2 := I12.out.res.free 0
        have R9 := I12.out.res.set_ 0 (.slice (some ⟨G, 0, none⟩) n2 c5)
        obtain ⟨W9, hW9⟩ : ∃ W, (w12).setCell ⟨w.heap.size + 1, 0, none⟩ (.slice (some ⟨G, 0, none⟩) n2 c5) = W := ⟨_, rfl⟩
        have HF := hide (I12.out.fin HLL.out (by omega))
        rw [hW9] at R9 HF
        have HW9 := hide hW9
        have hld := load_row (agg_live (w := W9)) (size_live (w := W9)) rfl R9
        clear hW9 R9 I12
        go_wp2_with fail
        rw [HW9.out]
        exact bodyPost_ret (results_cell1 (fn := Try.f14) (t := 4) (T := 30) rfl _ W9 _ _ _ rfl hld) rfl HF.out
      · obtain rfl : d = 0 := by omega
        have cn := next_any g 12 wr (hide hI.out.cd) (by omega) (by omega)
        go_wp2_with fail
        refine cn.mono ?_
        rintro e w12 ⟨v12, rfl, v0, v1, hC12, hG12, -⟩
        have I12 := hide (hI.out.next hG12 hC12)
        clear hC12 hG12 cn hI q1
        by_cases h10 : v12 = 10
        · subst h10
          have hn21 : (1 : Int) ≤ (n2 : Int) := by omega
          have x0 := I12.out.x.cell (k := 0) rfl
          have xf := I12.out.x.free 0
          have hA : (if c5 = 1 then (some ⟨G, 0, none⟩ : Option Addr) else some ⟨G, 1, none⟩) = some ⟨G, 1, none⟩ ∨ n2 - 1 = 0 := by
            by_cases hc : c5 = 1
            · exact .inr (by omega)
            · exact .inl (by rw [if_neg hc])
          go_upto_region 23 with (fail)
          obtain ⟨S, hS⟩ : ∃ S, (if c5 = 1 then (some ⟨G, 0, none⟩ : Option Addr) else some ⟨G, 1, none⟩) = S := ⟨_, rfl⟩
          rw [hS] at hA ⊢
          obtain ⟨WX, hWX⟩ : ∃ W, w12.setCell ⟨X, 0, none⟩ (.slice S (n2 - 1) (c5 - 1)) = W := ⟨_, rfl⟩
          have RX := I12.out.x.set_ 0 (.slice S (n2 - 1) (c5 - 1))
          have RR := I12.out.res.far (p := ⟨X, 0, none⟩) (by simp; have := I12.out.xs; omega) (.slice S (n2 - 1) (c5 - 1))
          have hf := I12.out.fin1 (n := n2 - 1) (A := S) (c' := c5 - 1) HLL.out (by omega) (by omega) hA
          rw [hWX] at RX RR hf
          rw [hWX]
          have R9 := RR.set_ 0 (.slice S (n2 - 1) (c5 - 1))
          obtain ⟨W9, hW9⟩ : ∃ W, (WX).setCell ⟨w.heap.size + 1, 0, none⟩ (.slice S (n2 - 1) (c5 - 1)) = W := ⟨_, rfl⟩
          have HF := hide hf
          rw [hW9] at R9 HF
          have HW9 := hide hW9
          have hld := load_row (agg_live (w := W9)) (size_live (w := W9)) rfl R9
          have x1 := RX.cell (k := 0) rfl
          have z1 := RR.cell (k := 0) rfl
          have z2 := RR.free 0
          clear x0 xf hW9 R9 hf hS hWX RX RR I12
          go_wp2_with fail
          rw [HW9.out]
          exact bodyPost_ret (results_cell1 (fn := Try.f14) (t := 4) (T := 30) rfl _ W9 _ _ _ rfl hld) rfl HF.out
        have h10' : (v12 == 10) = false := by simpa using h10
        by_cases h11 : v12 = 11
        · subst h11
          have x0 := I12.out.x.cell (k := 0) rfl
          have xf := I12.out.x.free 0
          have CI := hide (fun (V : World) (h : Hid (LiI w g P A1 n1 c1 A2 n2 c2 X G c5 vs sp L V)) => intr_any g V (hide h.out.cd))
          have J0 := hide (I12.out.call (Below.refl _ _).drew)
          have hvl : 0 < vs.length := by have := I12.out.o.len; have := HLL.out; omega
          obtain ⟨u0, hu0⟩ : ∃ u, (vs ++ sp)[0]? = some u := ⟨_, List.getElem?_eq_getElem (by simp; omega)⟩
          have hn21 : (0 : Int) < (n2 : Int) := by omega
          have hn22 : 0 < n2 := by omega
          go_upto_region 22 with (fail)
          go_region_held3 (fun V => V.cell? ⟨X, 0, none⟩ = some (.slice (some ⟨G, 0, none⟩) n2 c5))
            (first | exact s6 | exact J0.out.x.cell (k := 0) rfl | exact J1.out.x.cell (k := 0) rfl | exact J2.out.x.cell (k := 0) rfl | exact (J2.out.call (below1 _ _)).x.cell (k := 0) rfl)
            (first
              | (go_at_call 31; with_reducible refine Calls.mono (CI.out _ J0) ?_; intro e w13 h13; unfold IntPostR at h13; obtain ⟨a, rfl, ha, hCa, hGa⟩ := h13; have J1 := hide (J0.out.next hGa hCa); clear hCa hGa)
              | (go_at_call 31; with_reducible refine Calls.mono (CI.out _ J1) ?_; intro e w14 h14; unfold IntPostR at h14; obtain ⟨b, rfl, hb, hCb, hGb⟩ := h14; have J2 := hide (J1.out.next hGb hCb); have z6 := fun (o : Obj) => (J2.out.call (below1 w14 o)).o.row.cell (k := 0) hu0; have f6 := fun (o : Obj) => (J2.out.call (below1 w14 o)).o.free 0; have J4 := hide ((J2.out.call (below1 w14 (.cells #[.int .i64 a, .int .i64 b] 3))).put (j := 0) (zs := [a, b]) (v := .slice (some ⟨w14.heap.size, 0, none⟩) 2 2) (by have := HLL.out; omega) (own_two w14 a b J2.out.gr.size) (int_two ha hb)); have s6 := J4.out.x.cell (k := 0) rfl; clear hCb hGb))
          all_goals
            clear x0 xf z6 f6 s6
            obtain ⟨W15, hW15⟩ : ∃ V, (w14.alloc (.cells #[.int .i64 a, .int .i64 b] 3)).setCell ⟨G, 0, none⟩ (.slice (some ⟨w14.heap.size, 0, none⟩) 2 2) = V := ⟨_, rfl⟩
            rw [hW15] at J4
            have HW15 := hide hW15
            clear hW15 J0 J1 J2 I12 CI
            go_upto_region 23 with (fail)
            rw [HW15.out]
            have x0 := J4.out.x.cell (k := 0) rfl
            have z1 := J4.out.res.cell (k := 0) rfl
            have z2 := J4.out.res.free 0
            have R9 := J4.out.res.set_ 0 (.slice (some ⟨G, 0, none⟩) n2 c5)
            obtain ⟨W9, hW9⟩ : ∃ W, (W15).setCell ⟨w.heap.size + 1, 0, none⟩ (.slice (some ⟨G, 0, none⟩) n2 c5) = W := ⟨_, rfl⟩
            have HF := hide (J4.out.fin (by rw [List.length_set]; exact HLL.out) (by omega))
            rw [hW9] at R9 HF
            have HW9 := hide hW9
            have hld := load_row (agg_live (w := W9)) (size_live (w := W9)) rfl R9
            clear hW9 R9 J4
            go_wp2_with fail
            rw [HW9.out]
            exact bodyPost_ret (results_cell1 (fn := Try.f14) (t := 4) (T := 30) rfl _ W9 _ _ _ rfl hld) rfl HF.out
        have h11' : (v12 == 11) = false := by simpa using h11
        have x0 := I12.out.x.cell (k := 0) rfl
        have z1 := I12.out.res.cell (k := 0) rfl
        have z2 := I12.out.res.free 0
        have R9 := I12.out.res.set_ 0 (.slice (some ⟨G, 0, none⟩) n2 c5)
        obtain ⟨W9, hW9⟩ : ∃ W, (w12).setCell ⟨w.heap.size + 1, 0, none⟩ (.slice (some ⟨G, 0, none⟩) n2 c5) = W := ⟨_, rfl⟩
        have HF := hide (I12.out.fin HLL.out (by omega))
        rw [hW9] at R9 HF
        have HW9 := hide hW9
        have hld := load_row (agg_live (w := W9)) (size_live (w := W9)) rfl R9
        clear hW9 R9 I12
        go_wp2_with fail
        rw [HW9.out]
        exact bodyPost_ret (results_cell1 (fn := Try.f14) (t := 4) (T := 30) rfl _ W9 _ _ _ rfl hld) rfl HF.out
end
end Go.Proofs.Ytjbgepjdohfhkaa
end

section
/-
  The walk of the law LivenessSame: for all annotations and all codes it returns true, and what was in memory before the call is as it was. Conditions: those of the types.
-/
namespace Go.Proofs.Ytjbgepjdohfhkaa
open Go.RowKit

set_option maxRecDepth 100000 in
set_option maxHeartbeats 8000000 in
theorem samelaw_walk (Aa : Option Addr) (na ca : Nat) (Ab : Option Addr) (nb cb : Nat) (A0 : Option Addr) (n0 c0 : Nat) (zs : List Int) (w : World)
    (hma : na ≤ 9223372036854775807) (hmb : nb ≤ 9223372036854775807) (hAa : Hid (na ≤ 1048576 → ∃ zss, Ann w Aa na zss)) (hAb : Hid (nb ≤ 1048576 → ∃ zss, Ann w Ab nb zss))
    (hA : Hid (A0 = none → c0 = 0)) (hn : Hid (zs.length = n0)) (hnc : n0 ≤ c0) (hm : n0 ≤ 9223372036854775807) (hs : Hid (Sees w w.heap.size A0 (cellsU8 zs))) (hz : Hid (∀ z ∈ zs, 0 ≤ z ∧ z ≤ 255)) :
    Calls Try.prog 5 #[.agg #[.slice Aa na ca], .agg #[.slice Ab nb cb], .slice A0 n0 c0] w fun e w' => e = .returned (.bool true) ∧ Below w.heap.size w w' := by
  obtain ⟨W2, hW2⟩ : ∃ V, (w.alloc (.cells #[.slice Aa na ca] 30)).alloc (.cells #[.slice Ab nb cb] 30) = V := ⟨_, rfl⟩
  have hb2 : Below w.heap.size w W2 := by rw [← hW2]; exact below2 w _ _
  have R0 := hide (show Row W2 w.heap.size 30 [.slice Aa na ca] by rw [← hW2]; exact (Row.new w _ _).alloc _)
  have R1 := hide (show Row W2 (w.heap.size + 1) 30 [.slice Ab nb cb] by rw [← hW2]; exact (Row.new _ _ _).at_ (by simp))
  have HB2 := hide hb2
  have HW2 := hide hW2
  clear hW2 hb2
  go_enter Try.func5, Try.ntmps5
  go_upto_region 1 with (fail)
  rw [HW2.out]
  clear HW2
  go_wp2_with fail
  refine (awake16_any W2).mono ?_
  rintro e w3 ⟨rfl, hb3⟩
  have HB3 := hide (below_call HB2.out hb3)
  have R03 := hide (R0.out.call hb3)
  have R13 := hide (R1.out.call hb3)
  clear hb3 HB2 R0 R1
  have qa := R03.out.cell (k := 0) rfl
  have qb := R13.out.cell (k := 0) rfl
  by_cases ha : 200 < na
  · have ha' : (200 : Int) < (na : Int) := by omega
    go_wp2_with fail
    go_ret
    exact ⟨rfl, HB3.out⟩
  have ha' : ¬ ((200 : Int) < (na : Int)) := by omega
  by_cases hbb : 200 < nb
  · have hb' : (200 : Int) < (nb : Int) := by omega
    go_wp2_with fail
    go_ret
    exact ⟨rfl, HB3.out⟩
  have hb' : ¬ ((200 : Int) < (nb : Int)) := by omega
  obtain ⟨za, hza⟩ := hAa.out (by omega)
  obtain ⟨zb, hzb⟩ := hAb.out (by omega)
  have ZA := hide hza
  have ZB := hide hzb
  have HS3 := hide ((hs.out.below HB3.out).more HB3.out.size)
  clear hza hzb hAa hAb hs
  go_wp2_with fail
  refine (scene16_any A0 n0 c0 zs w3 hA hn hnc hm HS3 hz).mono ?_
  rintro e w4 ⟨P, A1, n1, c1, A2, n2, c2, f, N, L, gL, cL, vs, sp, g, lo, rfl, hH, hE, hF, hLI, hLS, hO, hCd, hgl, hwg, hb4⟩
  obtain ⟨W, hW⟩ : ∃ V, (w4.alloc (.cells #[.int .i64 P, .slice A1 n1 c1, .slice A2 n2 c2] 27)).alloc (.cells #[.slice (some ⟨gL, 0, none⟩) n2 cL] 30) = V := ⟨_, rfl⟩
  have hb5 : Below w4.heap.size w4 W := by rw [← hW]; exact below2 _ _ _
  obtain ⟨B, hB⟩ : ∃ B, w4.heap.size = B := ⟨_, rfl⟩
  have HBB := hide hB
  have RF := hide (show Row W B 27 [.int .i64 P, .slice A1 n1 c1, .slice A2 n2 c2] by rw [← hW, ← hB]; exact (Row.new w4 _ _).alloc _)
  have RL := hide (show Row W (B + 1) 30 [.slice (some ⟨gL, 0, none⟩) n2 cL] by rw [← hW, ← hB]; exact (Row.new _ _ _).at_ (by simp))
  have HCd := hide (show CdAt W A2 n2 f.code from (hH.calls hb5).cd (fnE_zero.1 hE).1)
  have hs1 : f.slots.length = n1 := hH.l1
  have hn21 : 1 ≤ n2 := by have h := flow_one hE; have h2 : f.code.length = n2 := hH.l2; omega
  have HOK := hide (show LvOk f.code n1 by rw [← hs1]; exact lv_ok hE (by omega))
  have hlen := HCd.out.len
  have hn2 := HCd.out.few
  have hLl : L.length = n2 := hLI.len
  have OL := hide (hO.below hb5)
  have CD := hide (hCd.below hb5)
  have hgB : g < B := by have := hCd.lt; omega
  have R04 := hide ((R03.out.call hb4).call hb5)
  have R14 := hide ((R13.out.call hb4).call hb5)
  have hr0 : w.heap.size < w3.heap.size := R03.out.lt
  have hr1 : w.heap.size + 1 < w3.heap.size := R13.out.lt
  have HB5 := hide (below_call (below_call HB3.out hb4) hb5)
  have HW := hide hW
  have DL := dlive_any (P := P) (A1 := A1) (n1 := n1) (c1 := c1) (c2 := c2) (g := g) W HCd HOK CD hn21
  clear hW hb4 hb5 hB qa qb hH hE hF hLI hLS hO hCd R03 R13 HS3
  go_upto_region 4 with (fail)
  rw [HW.out, HBB.out]
  clear HW HBB
  have q0 := RF.out.cell (k := 0) rfl
  have q1 := RF.out.cell (k := 1) rfl
  have q2 := RF.out.cell (k := 2) rfl
  go_wp2_with fail
  refine DL.mono ?_
  rintro e w6 ⟨Am, nm, cm, zm, rfl, hzm, hG6⟩
  obtain ⟨W7, hW7⟩ : ∃ V, w6.alloc (.cells #[.slice Am nm cm] 30) = V := ⟨_, rfl⟩
  have hb7 : Below w6.heap.size w6 W7 := by rw [← hW7]; exact below1 _ _
  have HB6 := hide (HB5.out.grown hG6 HB5.out.size (fun k hk => by injection hk with hk; omega))
  have HB7 := hide (below_call HB6.out hb7)
  obtain ⟨X, hX⟩ : ∃ X, w6.heap.size = X := ⟨_, rfl⟩
  have S0 := hide ((R04.out.grown hG6 (fun e => by injection e with e; omega)).call hb7)
  have S1 := hide ((R14.out.grown hG6 (fun e => by injection e with e; omega)).call hb7)
  have SL := hide ((RL.out.grown hG6 (fun e => by injection e with e; omega)).call hb7)
  have SM := hide (show Row W7 X 30 [.slice Am nm cm] by rw [← hW7, ← hX]; exact Row.new w6 _ _)
  have ZA7 := hide (ZA.out.below HB7.out)
  have ZB7 := hide (ZB.out.below HB7.out)
  have ZL7 := hide (((OL.out.grown hG6 (by omega)).below hb7).ann hLl (by omega))
  have ZM7 := hide (hzm.below hb7)
  have HW7 := hide hW7
  have HX := hide hX
  clear hW7 hX hb7 hG6 hzm DL q0 q1 q2 ZA ZB OL CD HCd HOK R04 R14 RF RL HB5 HB6
  go_upto_region 5 with (fail)
  rw [HW7.out, HX.out]
  clear HW7 HX
  obtain ⟨p, hp⟩ : ∃ p, decide (za = zb) = p := ⟨_, rfl⟩
  obtain ⟨q, hq⟩ : ∃ q, decide (L = zm) = q := ⟨_, rfl⟩
  have AB := hide (fun (V : World) (hb : Below W7.heap.size W7 V) => (show Calls Try.prog 11 #[.agg #[.slice Aa na ca], .agg #[.slice Ab nb cb]] V (fun e w' => e = .returned (.bool p) ∧ Below V.heap.size V w') by
    have h := lsame16_any Aa na ca Ab nb cb za zb V (hide (ZA7.out.below hb)) (hide (ZB7.out.below hb)); rwa [hp] at h))
  have AB2 := hide (fun (V : World) (hb : Below W7.heap.size W7 V) => (show Calls Try.prog 10 #[.agg #[.slice Aa na ca], .agg #[.slice Ab nb cb]] V (fun e w' => e = .returned (.bool p) ∧ Below V.heap.size V w') by
    have h := rsame16_any Aa na ca Ab nb cb za zb V (hide (ZA7.out.below hb)) (hide (ZB7.out.below hb)); rwa [hp] at h))
  have LM := hide (fun (V : World) (hb : Below W7.heap.size W7 V) => (show Calls Try.prog 11 #[.agg #[.slice (some ⟨gL, 0, none⟩) n2 cL], .agg #[.slice Am nm cm]] V (fun e w' => e = .returned (.bool q) ∧ Below V.heap.size V w') by
    have h := lsame16_any (some ⟨gL, 0, none⟩) n2 cL Am nm cm L zm V (hide (ZL7.out.below hb)) (hide (ZM7.out.below hb)); rwa [hq] at h))
  have LM2 := hide (fun (V : World) (hb : Below W7.heap.size W7 V) => (show Calls Try.prog 10 #[.agg #[.slice (some ⟨gL, 0, none⟩) n2 cL], .agg #[.slice Am nm cm]] V (fun e w' => e = .returned (.bool q) ∧ Below V.heap.size V w') by
    have h := rsame16_any (some ⟨gL, 0, none⟩) n2 cL Am nm cm L zm V (hide (ZL7.out.below hb)) (hide (ZM7.out.below hb)); rwa [hq] at h))
  have AA := hide (fun (V : World) (hb : Below W7.heap.size W7 V) => (show Calls Try.prog 11 #[.agg #[.slice Aa na ca], .agg #[.slice Aa na ca]] V (fun e w' => e = .returned (.bool true) ∧ Below V.heap.size V w') by
    have h := lsame16_any Aa na ca Aa na ca za za V (hide (ZA7.out.below hb)) (hide (ZA7.out.below hb)); rwa [decide_eq_true (rfl : za = za)] at h))
  have LL := hide (fun (V : World) (hb : Below W7.heap.size W7 V) => (show Calls Try.prog 11 #[.agg #[.slice (some ⟨gL, 0, none⟩) n2 cL], .agg #[.slice (some ⟨gL, 0, none⟩) n2 cL]] V (fun e w' => e = .returned (.bool true) ∧ Below V.heap.size V w') by
    have h := lsame16_any (some ⟨gL, 0, none⟩) n2 cL (some ⟨gL, 0, none⟩) n2 cL L L V (hide (ZL7.out.below hb)) (hide (ZL7.out.below hb)); rwa [decide_eq_true (rfl : L = L)] at h))
  clear hp hq ZA7 ZB7 ZL7 ZM7
  have q0 := fun (w' : World) (hb : Below W7.heap.size W7 w') => (S0.out.call hb).cell (k := 0) rfl
  have q1 := fun (w' : World) (hb : Below W7.heap.size W7 w') => (S1.out.call hb).cell (k := 0) rfl
  have q2 := fun (w' : World) (hb : Below W7.heap.size W7 w') => (SL.out.call hb).cell (k := 0) rfl
  have q3 := fun (w' : World) (hb : Below W7.heap.size W7 w') => (SM.out.call hb).cell (k := 0) rfl
  have bw0 : Below W7.heap.size W7 W7.drew := (Below.refl _ _).drew
  go_region_held3 (fun V => Below W7.heap.size W7 V) (first | exact bw0 | exact bb)
    (first
      | (go_at_call 11; with_reducible refine Calls.mono (AB.out _ bw0) ?_; rintro e w8 ⟨rfl, hb8⟩; have bb := below_call bw0 hb8; clear hb8)
      | (go_at_call 10; with_reducible refine Calls.mono (AB2.out _ bb) ?_; rintro e w9 ⟨rfl, hb9⟩; have bb := below_call bb hb9; clear hb9)
      | (go_at_call 11; with_reducible refine Calls.mono (LM.out _ bb) ?_; rintro e w10 ⟨rfl, hb10⟩; have bb := below_call bb hb10; clear hb10)
      | (go_at_call 10; with_reducible refine Calls.mono (LM2.out _ bb) ?_; rintro e w11 ⟨rfl, hb11⟩; have bb := below_call bb hb11; clear hb11)
      | (go_at_call 11; with_reducible refine Calls.mono (AA.out _ bb) ?_; rintro e w12 ⟨rfl, hb12⟩; have bb := below_call bb hb12; clear hb12)
      | (go_at_call 11; with_reducible refine Calls.mono (LL.out _ bb) ?_; rintro e w13 ⟨rfl, hb13⟩; have bb := below_call bb hb13; clear hb13))
  all_goals
    have HBZ := hide (below_call HB7.out bb)
    clear bb AB AB2 LM LM2 AA LL q0 q1 q2 q3 bw0
    go_wp2_with fail
    go_ret
    exact ⟨rfl, HBZ.out⟩
end Go.Proofs.Ytjbgepjdohfhkaa
end

section
/-
  What an annotation that came in by value gives: rows of ints that can be read. No function of the program is named here.
-/
namespace Go.Proofs.Ytjbgepjdohfhkaa
open Go.Joins Go.ChangeShapes Go.WideShapes Go.ChangeAt Go.RowKit Go.Deep

section
variable {H : Type} {enc : TypeId × Value → H} {P : Program} {W : World} {spare : Nat → Bool} {held : Bool}
/-- A row of cells at an address, read as a list. -/
theorem sees_of {a : Addr} {k m : Nat} {V : Nat → Value} (hk : k ≤ m) (hc : ∀ i, i < m → W.cell? (a.add i) = some (V i)) : Sees W W.heap.size (some a) ((List.range k).map V) := by
  intro i u hu
  have hi : i < k := by
    rcases Nat.lt_or_ge i k with h | h
    · exact h
    · rw [List.getElem?_eq_none (by simpa using h)] at hu; simp at hu
  have hu' : V i = u := by simpa [List.getElem?_map, List.getElem?_range hi] using hu
  subst hu'
  obtain ⟨ab, ao, spot⟩ := a
  have h0 := hc 0 (by omega)
  have hspot : spot = none := by simpa [Addr.add] using World.cell?_spot h0
  subst hspot
  have hck := hc i (by omega)
  rw [WideShapes.add_plain] at hck
  exact ⟨ab, ao, rfl, World.block_lt_of_cell? _ _ hck, hck⟩
theorem row_ints {e i : TypeId} {n : Nat} {v : Value} {y : DataW H × List MemPlace} (he : P.underlying e = some (.slice i)) (hi : P.underlying i = some (.int .i64)) (hc : P.cellsOf i = 1)
    (h : DataW.trod enc P W 0 spare held n e [v] = some y) : ∃ (A : Option Addr) (k c : Nat) (zs : List Int), v = .slice A k c ∧ Lst W A k zs ∧ (A = none → c = 0) := by
  rcases open_slice1 he hc h with ⟨hcs, -⟩ | ⟨a, len, cap, m, n', V, D, Pl, hcs, -, hl, hm, hmm, -, hx⟩
  · injection hcs with hcs _
    subst hcs
    exact ⟨none, 0, 0, [], rfl, ⟨rfl, by omega, Sees.nil_ _ _ _, fun z hz => by cases hz⟩, fun _ => rfl⟩
  · injection hcs with hcs _
    subst hcs
    have hlm : len ≤ m := by rw [hmm]; split <;> omega
    obtain ⟨f, hf⟩ := choose_lt (α := Int) (n := m) (p := fun j x => V j = .int .i64 x ∧ -9223372036854775808 ≤ x ∧ x ≤ 9223372036854775807) (fun j hj => by
      obtain ⟨x, e0, _, wz⟩ := DataW.trod_int hi (hx j hj).2
      simp only [List.cons.injEq, and_true] at e0
      exact ⟨x, e0, bounds_i64 wz⟩)
    refine ⟨some a, len, cap, (List.range len).map f, rfl, ⟨by simp, by unfold maxLen at hm; omega, ?_, fun z hz => ?_⟩, fun hn => by cases hn⟩
    · have hs := sees_of hlm (fun j hj => (hx j hj).1)
      have he2 : cellsI ((List.range len).map f) = (List.range len).map V := by
        unfold cellsI
        rw [List.map_map]
        refine List.map_congr_left fun j hj => ?_
        exact ((hf j (by have := List.mem_range.1 hj; omega)).1).symm
      rw [he2]
      exact hs
    · obtain ⟨j, hj, rfl⟩ := List.mem_map.1 hz
      exact (hf j (by have := List.mem_range.1 hj; omega)).2
theorem row_rows {t e i : TypeId} {n : Nat} {v : Value} {y : DataW H × List MemPlace} (ht : P.underlying t = some (.slice e)) (hce : P.cellsOf e = 1) (he : P.underlying e = some (.slice i)) (hi : P.underlying i = some (.int .i64)) (hc : P.cellsOf i = 1)
    (h : DataW.trod enc P W 0 spare held n t [v] = some y) : ∃ (A : Option Addr) (k c : Nat), v = .slice A k c ∧ k ≤ 9223372036854775807 ∧ (k ≤ 1048576 → ∃ zss, Ann W A k zss) := by
  rcases open_slice1 ht hce h with ⟨hcs, -⟩ | ⟨a, len, cap, m, n', V, D, Pl, hcs, -, hl, hm, hmm, -, hx⟩
  · injection hcs with hcs _
    subst hcs
    exact ⟨none, 0, 0, rfl, by omega, fun _ => ⟨[], rfl, by omega, [], Sees.nil_ _ _ _, rfl, fun i v zs hv => by simp at hv⟩⟩
  · injection hcs with hcs _
    subst hcs
    have hlm : len ≤ m := by rw [hmm]; split <;> omega
    obtain ⟨f, hf⟩ := choose_lt (α := List Int) (n := m) (p := fun j zs => ∃ (A' : Option Addr) (c' : Nat), V j = .slice A' zs.length c' ∧ Lst W A' zs.length zs ∧ (A' = none → c' = 0)) (fun j hj => by
      obtain ⟨A, k, c, zs, e0, hL, hA⟩ := row_ints he hi hc (hx j hj).2
      have hk := hL.len
      subst hk
      exact ⟨zs, A, c, e0, hL, hA⟩)
    refine ⟨some a, len, cap, rfl, by unfold maxLen at hm; omega, fun hle => ⟨(List.range len).map f, by simp, hle, (List.range len).map V, sees_of hlm (fun j hj => (hx j hj).1), by simp, fun j v zs hv hz => ?_⟩⟩
    have hj : j < len := by
      rcases Nat.lt_or_ge j len with h | h
      · exact h
      · rw [List.getElem?_eq_none (by simpa using h)] at hv; simp at hv
    have hv' : V j = v := by simpa [List.getElem?_map, List.getElem?_range hj] using hv
    have hz' : f j = zs := by simpa [List.getElem?_map, List.getElem?_range hj] using hz
    subst hv' hz'
    exact hf j (by omega)
/-- A struct of one slice of slices of ints, by value. -/
theorem open_live {t e i : TypeId} {f0 : Field} {b0 : Nat} {r : Reach} {v : Value} {d : DataW H} {p : List MemPlace} (hs : P.underlying t = some (.struct #[f0])) (hone : oneCellFields P #[f0] = true) (hC : P.cellsOf t = 1)
    (h0 : P.underlying f0.type = some (.slice e)) (hce : P.cellsOf e = 1) (he : P.underlying e = some (.slice i)) (hi : P.underlying i = some (.int .i64)) (hc : P.cellsOf i = 1)
    (hval : Value.okWide P W r b0 t v) (h : DataW.Trod enc P W 0 spare held t v d p) :
    ∃ (A : Option Addr) (k c : Nat), v = .agg #[.slice A k c] ∧ k ≤ 9223372036854775807 ∧ (k ≤ 1048576 → ∃ zss, Ann W A k zss) := by
  obtain ⟨cs, rfl, hsz⟩ := okWide_struct hs hval
  have h1 : cs.size = 1 := hsz.trans hC
  obtain ⟨l⟩ := cs
  match l, h1 with
  | [c0], _ =>
    obtain ⟨fuel, hf⟩ := h
    obtain ⟨y0, n, hx, _, g0⟩ := trod_struct1 hs hf
    obtain ⟨o0, k0⟩ := hone_of hone 0 f0 rfl
    have g1 : DataW.trod enc P W 0 spare held n f0.type [c0] = some y0 := by simpa [Value.cells, o0, k0] using g0
    obtain ⟨A, k, c, rfl, hk, hA⟩ := row_rows h0 hce he hi hc g1
    exact ⟨A, k, c, rfl, hk, hA⟩
end
end Go.Proofs.Ytjbgepjdohfhkaa
end

section
/-
  LivenessSame: for every input the law returns true, and each argument reads behind the call as it did before. No condition: every input that the row speaks of.
-/
namespace Go.Proofs.Ytjbgepjdohfhkaa
open Go.ChangeShapes Go.WideShapes Go.ChangeAt Go.RowKit

namespace rowLivenessSame
theorem own_knob : ownKnob Try.prog.godebug = none := by kernel_rfl
theorem laid_out : laidOutB Try.prog = true := by kernel_rfl
theorem cells_live : Try.prog.cellsOf 30 = 1 := by kernel_rfl
theorem cells_row : Try.prog.cellsOf 38 = 1 := by kernel_rfl
theorem cells_i : Try.prog.cellsOf 3 = 1 := by kernel_rfl
theorem cells_u8 : Try.prog.cellsOf 5 = 1 := by kernel_rfl
set_option maxRecDepth 100000 in
theorem contract (H : Type) (enc : TypeId × Value → H) (W : World) (base : Nat) (args : Array Value) (ds gs : List (DataW H)) (before : List MemPlace)
    (hval : ∀ (j : Nat) t v, Try.f5.params[j]? = some t → args[j]? = some v → Value.okWide Try.prog W .any base t v)
    (hW : DataW.Whole enc Try.prog Try.f5.params.toList Rows.livenessSameSpec.vars false W args.toList ds gs before) :
    Calls Try.prog 5 args W fun e W' => ∃ v, e = .returned v ∧ Rows.livenessSameSpec.post enc Try.prog Try.f5 false true false false W args v W' := by
  have hW' := hW
  obtain ⟨p, q, hA, hV, rfl, hfz, hnd⟩ := hW
  have hA : DataW.TrodAll enc Try.prog W 0 (fun _ => true) true Try.f5.params.toList args.toList ds p := hA
  rw [Try.params5] at hA hval
  obtain ⟨v0, vs0, d0, ds0, p0, q0, hargs, rfl, rfl, h0, r0⟩ := trodAll_cons hA
  obtain ⟨v1, vs1, d1, ds1, p1, q1, rfl, rfl, rfl, h1, r1⟩ := trodAll_cons r0
  obtain ⟨v2, vs2, d2, ds2, p2, q2, rfl, rfl, rfl, h2, r2⟩ := trodAll_cons r1
  obtain ⟨rfl, rfl, rfl⟩ := trodAll_nil r2
  obtain rfl : args = #[v0, v1, v2] := by cases args; simp_all
  obtain ⟨A0, n0, c0, rfl, m0, hz0⟩ := open_live Try.underlying30 (by kernel_rfl) cells_live Try.underlying28 cells_row Try.underlying38 Try.underlying3 cells_i (hval 0 30 v0 rfl rfl) h0
  obtain ⟨A1, n1, c1, rfl, m1, hz1⟩ := open_live Try.underlying30 (by kernel_rfl) cells_live Try.underlying28 cells_row Try.underlying38 Try.underlying3 cells_i (hval 1 30 v1 rfl rfl) h1
  obtain ⟨A2, n2, c2, zs2, rfl, hA2, hn2, hm2, hs2, hz2, hc2⟩ := open_u8s Try.underlying22 Try.underlying5 cells_u8 (hval 2 22 v2 rfl rfl) h2
  refine (samelaw_walk A0 n0 c0 A1 n1 c1 A2 n2 c2 zs2 W m0 m1 (hide hz0) (hide hz1) (hide hA2) (hide hn2) hc2 hm2 (hide hs2) (hide hz2)).mono fun e W' ⟨he, hB⟩ => ⟨_, he, ?_⟩
  exact law_post laid_out (by decide +kernel) rfl rfl Try.underlying4 rfl hW' hB

set_option maxRecDepth 100000 in
theorem lifted (os : Os) (started : os.Started) (H : Type) (enc : TypeId × Value → H) :
    ReturnsInHanded {} Try.checked os 5 .any (Rows.livenessSameSpec.pre6 enc Try.prog Try.f5 Rows.livenessSameRow.domain false) (Rows.livenessSameSpec.post enc Try.prog Try.f5 false true false false) := by
  refine returnsInHanded_of_change (C := Try.checked) own_knob started (by kernel_rfl) Try.func5
    (ChangeSpec.witness6 (enc := enc) (C := Try.checked) false ⟨#[], #[.agg #[.slice none 0 0], .agg #[.slice none 0 0], .slice none 0 0], []⟩ 8 (by kernel_rfl) (by kernel_rfl) (by kernel_rfl) (by kernel_rfl)) ?_
  intro W base args ds gs before hval hW _ _
  exact contract H enc W base args ds gs before hval hW

theorem proved : Rows.LivenessSameSaid :=
  OpenClaim.holds_of_wide 5 Try.f5 rfl rfl rfl rfl rfl rfl rfl ⟨rfl, rfl, rfl, rfl, rfl⟩ rfl rfl rfl rfl rfl (by kernel_rfl) Try.func5 (by kernel_rfl)
    (of_decide_eq_true (by kernel_rfl)) (by unfold Func.isWrapper; first | (rw [if_pos (by decide +kernel)]; kernel_rfl) | (rw [if_neg (by decide +kernel)]; exact ⟨rfl, rfl⟩))
    (fun os started H enc _ => lifted os started H enc)
end rowLivenessSame
end Go.Proofs.Ytjbgepjdohfhkaa
end
