import Derived.Test.YtgcjckbndkddmaaDoorMYapp
import Derived.Test.YtgcjckbndkddmaaDoorMGs
import Derived.Lib.SmallJoins
set_option linter.unusedVariables false
set_option linter.unusedSimpArgs false
section
/-
  The walk of the law on Parse and Decode. Conditions: those of the types; the listed tables lie as their initialisers lay them.
-/
namespace Go.Proofs.YtgcjckbndkddmaaDoor
open Go.RowKit

/-- Bytes, wherever. -/
def BV (w : World) (x : Value) : Prop := ∃ (A : Option Addr) (n c : Nat) (zs : List Int), x = .slice A n c ∧ BsAt w w.heap.size A n c zs
def BVn (w : World) (n : Nat) (x : Value) : Prop := ∃ (A : Option Addr) (c : Nat) (zs : List Int), x = .slice A n c ∧ BsAt w w.heap.size A n c zs
/-- One byte, zero. -/
def Z1 (w : World) (x : Value) : Prop := ∃ b : Nat, x = .slice (some ⟨b, 0, none⟩) 1 1 ∧ Row w b 5 [.int .u8 0]
/-- Eight slices of bytes in a row. -/
def Eight (w : World) (x : Value) : Prop := ∃ (Z : Nat) (u0 u1 u2 u3 u4 u5 u6 u7 : Value), x = .slice (some ⟨Z, 0, none⟩) 8 8 ∧ Row w Z 22 [u0, u1, u2, u3, u4, u5, u6, u7] ∧ BV w u0 ∧ BV w u1 ∧ BV w u2 ∧ BV w u3 ∧ BV w u4 ∧ BV w u5 ∧ BV w u6 ∧ BV w u7
section
variable {w w' : World} {x : Value} {n : Nat}
theorem BV.call (h : BV w x) (hb : Below w.heap.size w w') : BV w' x := by
  obtain ⟨A, n, c, zs, e, h⟩ := h
  exact ⟨A, n, c, zs, e, h.call hb⟩
theorem BVn.call (h : BVn w n x) (hb : Below w.heap.size w w') : BVn w' n x := by
  obtain ⟨A, c, zs, e, h⟩ := h
  exact ⟨A, c, zs, e, h.call hb⟩
theorem Z1.call (h : Z1 w x) (hb : Below w.heap.size w w') : Z1 w' x := by
  obtain ⟨b, e, h⟩ := h
  exact ⟨b, e, h.call hb⟩
theorem Eight.call (h : Eight w x) (hb : Below w.heap.size w w') : Eight w' x := by
  obtain ⟨Z, u0, u1, u2, u3, u4, u5, u6, u7, e, r, h0, h1, h2, h3, h4, h5, h6, h7⟩ := h
  exact ⟨Z, u0, u1, u2, u3, u4, u5, u6, u7, e, r.call hb, h0.call hb, h1.call hb, h2.call hb, h3.call hb, h4.call hb, h5.call hb, h6.call hb, h7.call hb⟩
end
/-- What each operation keeps: which of them have come up, and what they have left. -/
def DecR (A1 : Option Addr) (n1 c1 g5 n5 c5 g c9 j : Nat) (A11 : Option Addr) (n11 c11 : Nat) (v1 v2 v3 v8 v10 v24 v25 v26 v27 v28 v29 v30 v34 v35 v36 v37 v38 v39 v40 v41 v42 v43 v44 v45 v46 v47 v48 v49 v50 v51 v52 v53 v54 v55 v56 v57 v58 v59 v60 v61 v62 v63 v64 : Value) (w0 : World) (l : Array Bool) (a : Act) (wr : World) : Prop :=
  ∃ (b0 b1 b2 b3 b4 b5 b6 b7 b8 b9 b10 b11 b12 b13 b14 b15 b16 b17 b18 b19 b20 b21 : Bool) (x65 x66 x67 x68 x69 x70 x71 x72 x73 x74 x75 x76 x77 x78 x79 x80 x81 x82 x83 x84 x85 x86 : Value), l = #[b0, b1, b2, b3, b4, b5, b6, b7, b8, b9, b10, b11, b12, b13, b14, b15, b16, b17, b18, b19, b20, b21] ∧ a = ⟨#[.slice A1 n1 c1, v1, v2, v3, undef, undef, undef, undef, v8, .slice (some ⟨g5, 0, none⟩) n5 c5, v10, .slice (some ⟨g, 0, none⟩) n5 c9, .slice (some ⟨g5, 0, none⟩) j c5, .slice A11 n11 c11, undef, undef, undef, undef, undef, undef, undef, undef, undef, undef, v24, v25, v26, v27, v28, v29, v30, undef, undef, undef, v34, v35, v36, v37, v38, v39, v40, v41, v42, v43, v44, v45, v46, v47, v48, v49, v50, v51, v52, v53, v54, v55, v56, v57, v58, v59, v60, v61, v62, v63, v64, x65, x66, x67, x68, x69, x70, x71, x72, x73, x74, x75, x76, x77, x78, x79, x80, x81, x82, x83, x84, x85, x86, undef, undef, undef, undef, undef, undef, undef, undef, undef, undef, undef, undef, undef, undef, undef, undef, undef, undef, undef, undef, undef, undef, undef, undef, undef, undef, undef, undef, undef, undef, undef, undef, undef, undef, undef, undef, undef, undef, undef, undef, undef, undef, undef, undef], []⟩ ∧ Below w0.heap.size w0 wr ∧
    (b0 = true → x65 = .slice A1 n1 c1) ∧
    (b1 = true → x66 = .slice (some ⟨g5, 0, none⟩) n5 c5) ∧
    (b2 = true → x67 = .slice (some ⟨g, 0, none⟩) n5 c9) ∧
    (b3 = true → x68 = .slice (some ⟨g, 0, none⟩) n5 c9) ∧
    (b4 = true → BV wr x69) ∧
    (b5 = true → x70 = .slice (some ⟨g5, 0, none⟩) j c5) ∧
    (b6 = true → x71 = .slice (some ⟨g5, 0, none⟩) j c5) ∧
    (b7 = true → BV wr x72) ∧
    (b8 = true → x73 = .slice A11 n11 c11) ∧
    (b9 = true → BV wr x74) ∧
    (b10 = true → x75 = .slice (some ⟨g5, 0, none⟩) n5 c5) ∧
    (b11 = true → x76 = .slice (some ⟨g5, 0, none⟩) n5 c5) ∧
    (b12 = true → x77 = .int .i64 (n5 : Int)) ∧
    (b13 = true → x78 = .slice (some ⟨g5, 0, none⟩) n5 c5) ∧
    (b14 = true → x79 = .int .i64 (n5 : Int)) ∧
    (b15 = true → x80 = .slice (some ⟨g5, 0, none⟩) n5 n5) ∧
    (b16 = true → Z1 wr x81) ∧
    (b17 = true → BVn wr (n5 + 1) x82) ∧
    (b18 = true → BV wr x83) ∧
    (b19 = true → Eight wr x84) ∧
    (b20 = true → x85 = .int .i64 8) ∧
    (b21 = true → x86 = .int .i64 0)

theorem DecR.elim {A1 : Option Addr} {n1 c1 g5 n5 c5 g c9 j : Nat} {A11 : Option Addr} {n11 c11 : Nat} {v1 v2 v3 v8 v10 v24 v25 v26 v27 v28 v29 v30 v34 v35 v36 v37 v38 v39 v40 v41 v42 v43 v44 v45 v46 v47 v48 v49 v50 v51 v52 v53 v54 v55 v56 v57 v58 v59 v60 v61 v62 v63 v64 : Value} {w0 : World} {l : Array Bool} {a : Act} {wr : World} {C : Prop} (h : DecR A1 n1 c1 g5 n5 c5 g c9 j A11 n11 c11 v1 v2 v3 v8 v10 v24 v25 v26 v27 v28 v29 v30 v34 v35 v36 v37 v38 v39 v40 v41 v42 v43 v44 v45 v46 v47 v48 v49 v50 v51 v52 v53 v54 v55 v56 v57 v58 v59 v60 v61 v62 v63 v64 w0 l a wr)
    (f : ∀ (b0 b1 b2 b3 b4 b5 b6 b7 b8 b9 b10 b11 b12 b13 b14 b15 b16 b17 b18 b19 b20 b21 : Bool) (x65 x66 x67 x68 x69 x70 x71 x72 x73 x74 x75 x76 x77 x78 x79 x80 x81 x82 x83 x84 x85 x86 : Value), l = #[b0, b1, b2, b3, b4, b5, b6, b7, b8, b9, b10, b11, b12, b13, b14, b15, b16, b17, b18, b19, b20, b21] → a = ⟨#[.slice A1 n1 c1, v1, v2, v3, undef, undef, undef, undef, v8, .slice (some ⟨g5, 0, none⟩) n5 c5, v10, .slice (some ⟨g, 0, none⟩) n5 c9, .slice (some ⟨g5, 0, none⟩) j c5, .slice A11 n11 c11, undef, undef, undef, undef, undef, undef, undef, undef, undef, undef, v24, v25, v26, v27, v28, v29, v30, undef, undef, undef, v34, v35, v36, v37, v38, v39, v40, v41, v42, v43, v44, v45, v46, v47, v48, v49, v50, v51, v52, v53, v54, v55, v56, v57, v58, v59, v60, v61, v62, v63, v64, x65, x66, x67, x68, x69, x70, x71, x72, x73, x74, x75, x76, x77, x78, x79, x80, x81, x82, x83, x84, x85, x86, undef, undef, undef, undef, undef, undef, undef, undef, undef, undef, undef, undef, undef, undef, undef, undef, undef, undef, undef, undef, undef, undef, undef, undef, undef, undef, undef, undef, undef, undef, undef, undef, undef, undef, undef, undef, undef, undef, undef, undef, undef, undef, undef, undef], []⟩ → Below w0.heap.size w0 wr →
      (b0 = true → x65 = .slice A1 n1 c1) → (b1 = true → x66 = .slice (some ⟨g5, 0, none⟩) n5 c5) → (b2 = true → x67 = .slice (some ⟨g, 0, none⟩) n5 c9) → (b3 = true → x68 = .slice (some ⟨g, 0, none⟩) n5 c9) → (b4 = true → BV wr x69) → (b5 = true → x70 = .slice (some ⟨g5, 0, none⟩) j c5) → (b6 = true → x71 = .slice (some ⟨g5, 0, none⟩) j c5) → (b7 = true → BV wr x72) → (b8 = true → x73 = .slice A11 n11 c11) → (b9 = true → BV wr x74) → (b10 = true → x75 = .slice (some ⟨g5, 0, none⟩) n5 c5) → (b11 = true → x76 = .slice (some ⟨g5, 0, none⟩) n5 c5) → (b12 = true → x77 = .int .i64 (n5 : Int)) → (b13 = true → x78 = .slice (some ⟨g5, 0, none⟩) n5 c5) → (b14 = true → x79 = .int .i64 (n5 : Int)) → (b15 = true → x80 = .slice (some ⟨g5, 0, none⟩) n5 n5) → (b16 = true → Z1 wr x81) → (b17 = true → BVn wr (n5 + 1) x82) → (b18 = true → BV wr x83) → (b19 = true → Eight wr x84) → (b20 = true → x85 = .int .i64 8) → (b21 = true → x86 = .int .i64 0) → C) : C := by
  obtain ⟨b0, b1, b2, b3, b4, b5, b6, b7, b8, b9, b10, b11, b12, b13, b14, b15, b16, b17, b18, b19, b20, b21, x65, x66, x67, x68, x69, x70, x71, x72, x73, x74, x75, x76, x77, x78, x79, x80, x81, x82, x83, x84, x85, x86, e1, e2, hb, q0, q1, q2, q3, q4, q5, q6, q7, q8, q9, q10, q11, q12, q13, q14, q15, q16, q17, q18, q19, q20, q21⟩ := h
  exact f _ _ _ _ _ _ _ _ _ _ _ _ _ _ _ _ _ _ _ _ _ _ _ _ _ _ _ _ _ _ _ _ _ _ _ _ _ _ _ _ _ _ _ _ e1 e2 hb q0 q1 q2 q3 q4 q5 q6 q7 q8 q9 q10 q11 q12 q13 q14 q15 q16 q17 q18 q19 q20 q21

set_option maxRecDepth 100000 in
set_option maxHeartbeats 8000000 in
theorem declaw_walk (A1 : Option Addr) (n1 c1 : Nat) (bs : List Int) (A0 : Option Addr) (n0 c0 : Nat) (zs : List Int) (x y : Int) (w : World) (h' : Hid (BsAt w w.heap.size A1 n1 c1 bs)) (h : Hid (BsAt w w.heap.size A0 n0 c0 zs)) (y0 : 0 ≤ y) (y1 : y ≤ 255) (hT : Hid (Tab w)) (hS : Hid (Shapes w)) :
    Calls Tryd.prog 4 #[.slice A1 n1 c1, .slice A0 n0 c0, .int .i64 x, .int .u8 y] w fun e w' => e = .returned (.bool true) ∧ Below w.heap.size w w' := by
  by_cases h500 : 500 < n1
  · have hz : (500 : Int) < (n1 : Int) := by omega
    go_enter Tryd.func4, Tryd.ntmps4
    go_wp2_with fail
    refine (awake_any w hT hS).mono ?_
    rintro e w1 ⟨rfl, hb1⟩
    have B1 := hide hb1
    clear hb1
    go_wp2_with fail
    go_ret
    exact ⟨rfl, B1.out⟩
  · have hz : ¬ ((500 : Int) < (n1 : Int)) := by omega
    have H500 := hide h500
    obtain ⟨i0, hi, hz0, hz1, hz2⟩ := info_parts Tryd.info5
    clear h500
    go_enter Tryd.func4, Tryd.ntmps4
    go_wp2_with fail
    refine (awake_any w hT hS).mono ?_
    rintro e w1 ⟨rfl, hb1⟩
    have B1 := hide hb1
    have C1 := hide (h.out.call hb1)
    clear hb1
    go_wp2_with fail
    refine (new_any A0 n0 c0 zs 200 w1 (hide C1.out.nil_) (hide C1.out.len) C1.out.nc (by have := C1.out.cm; have := C1.out.nc; omega) (by omega) (hide C1.out.see) (hide C1.out.byt)).mono ?_
    rintro e w2 ⟨rfl, hC2, hb2⟩
    have HC2 := hide hC2
    have B2 := hide (below_call B1.out hb2)
    have hg2 : w1.heap.size < w2.heap.size := hC2.lt
    have hgw : w.heap.size ≤ w1.heap.size := B1.out.size
    clear hC2 hb2
    go_wp2_with fail
    refine (prog_any w1.heap.size 3 8 w2 HC2 (by omega) (by omega) (by omega)).mono ?_
    rintro e w3 ⟨AP, nP, cP, hsP, F, rfl, hpg, hgood, hC3, hG3⟩
    obtain ⟨hW, hE, hL, hL14, him⟩ := drawn_small hgood (by omega) (by omega)
    have HW := hide hW
    have HE := hide hE
    have HL := hide hL
    have HL14 := hide hL14
    have HIM := hide him
    have B3 := hide (below_inner B2.out hG3 (by omega))
    have G3 := hide hpg
    clear hpg hgood hC3 hG3 hW hE hL hL14 him
    go_wp2_with fail
    refine (rencode_any w3 w2.heap.size AP nP cP hsP F G3 HIM).mono ?_
    rintro e w5 ⟨r5, n5, rfl, ho5, hb5⟩
    rw [HE.out] at ho5 ⊢
    rw [if_pos rfl] at ho5
    have hn5 : (encY F).length = n5 := by have := own_len ho5; simpa [cellsU8] using this
    have B5 := hide (below_call B3.out hb5)
    have E5 := hide (h'.out.call B5.out)
    have hn5a : n5 ≤ 20000 := by have := HL.out; omega
    have hn5b : 14 ≤ n5 := by have := HL14.out; omega
    have HN5 := hide hn5
    obtain ⟨g5, c5, rfl, hg5, hg5', hnc5, -⟩ := own_block ho5 (by omega)
    have D5 := hide (BsAt.own ho5 (encY_byt HW.out))
    clear ho5 hb5 hn5
    go_wp2_with (at_builtin; refine wpList_append_seesN rfl (.const (.slice none 0 0)) (.tmp 41) 22 rfl w5.heap.size 5 i0 (.int .u8 0) 1 1 Tryd.underlying22 hi hz0 hz1 hz2 rfl (by decide) (.slice none 0 0) 0 [] rfl (World.ownsRow_nil _ _ _ _) w5.heap.size (some ⟨g5, 0, none⟩) n5 c5 (cellsU8 (encY F)) rfl (hide D5.out.nil_) (hide (by have := D5.out.len; simp [cellsU8]; omega)) (hide D5.out.see) (hide D5.out.nc) (one_u8 _) (by unfold maxLen; omega) (by omega) (Nat.le_refl _) ?_)
    intro v9 w9 ho0 hg9
    have ho9 : w9.ownsRow w5.heap.size 5 1 v9 n5 (cellsU8 (encY F)) := by simpa using ho0
    have b9 : Below w5.heap.size w5 w9 := (Below.refl w5.heap.size w5).grown hg9 (Nat.le_refl _) (fun k hk => by cases hk)
    have B9 := hide (below_call B5.out b9)
    have b9s := b9.size
    have D9 := hide (D5.out.below b9)
    have E9 := hide (E5.out.below b9)
    obtain ⟨g, c9, rfl, hg8, hg9', -, -⟩ := own_block ho9 (by omega)
    have O9 := hide ho9
    clear ho0 hg9 ho9 b9 D5 E5
    go_wp2_with fail
    refine (mod_nat x n5 _ (by omega) (by omega)).mono ?_
    rintro e w' ⟨⟨i, hin, rfl⟩, rfl⟩
    have hil : i < (encY F).length := by rw [HN5.out]; exact hin
    have hzi := hide (List.getElem?_eq_getElem hil)
    obtain ⟨z, hzz⟩ : ∃ z, (encY F)[i] = z := ⟨_, rfl⟩
    have hzb := encY_byt HW.out z (by rw [← hzz]; exact List.getElem_mem _)
    rw [hzz] at hzi
    have hc : w9.cell? ⟨g, i, none⟩ = some (.int .u8 z) := by rw [O9.out.cellAt i (by omega)]; simp [cellsU8, hzi.out]
    have hf : w9.frozen? ⟨g, i, none⟩ = false := O9.out.frozenAt i
    have hiz : (0 : Int) ≤ (i : Int) := by omega
    have hiz2 : (i : Int) < (n5 : Int) := by omega
    have hx8 := xor_byte z y hzb.1 hzb.2 y0 y1
    obtain ⟨z', hz'⟩ : ∃ z', bits BinOp.xor IntKind.u8 z y = z' := ⟨_, rfl⟩
    rw [hz'] at hx8
    have HX8 := hide hx8
    have HZ' := hide hz'
    obtain ⟨W10, hW10⟩ : ∃ W10, w9.setCell ⟨g, i, none⟩ (.int .u8 z') = W10 := ⟨_, rfl⟩
    have O10 := hide (show W10.ownsRow w5.heap.size 5 1 (.slice (some ⟨g, 0, none⟩) n5 c9) n5 (cellsU8 ((encY F).set i z')) by
      have := (O9.out.stored i (.int .u8 z')).1
      rw [hW10] at this
      rwa [show (cellsU8 (encY F)).set i (.int .u8 z') = cellsU8 ((encY F).set i z') by simp [cellsU8, List.map_set]] at this)
    have b10 : Below w5.heap.size w9 W10 := by rw [← hW10]; exact below_put (Below.refl _ _) (by omega) (by omega) i _
    have B10 := hide (show Below w.heap.size w W10 by rw [← hW10]; exact below_put B9.out B9.out.size (by have := B5.out.size; omega) i _)
    have D10 := hide (BsAt.own O10.out ((encY_byt HW.out).set i HX8.out.1 HX8.out.2.1))
    have hs10 : w5.heap.size ≤ W10.heap.size := Nat.le_trans b9s b10.size
    have P10 := hide ((D9.out.below b10).more hs10)
    have E10 := hide ((E9.out.below b10).more hs10)
    have HW10 := hide hW10
    clear hzz hx8 hz' hW10 hzb b10 hs10 D9 E9
    have hnc : n5 ≤ c5 := P10.out.nc
    go_upto_region 6 with (fail)
    rw [HZ'.out, HW10.out]
    clear hc hf HZ' HW10
    go_wp2_with fail
    refine (mod_nat x n5 _ (by omega) (by omega)).mono ?_
    rintro e w' ⟨⟨j, hjn, rfl⟩, rfl⟩
    have hjz : (0 : Int) ≤ (j : Int) := by omega
    have hjz2 : (j : Int) ≤ (c5 : Int) := by omega
    have K10 := hide (P10.out.take (k := j) (by omega))
    go_upto_region 7 with (fail)
    have kc := Joins.run_convert_bytes_const_at (P := Tryd.prog) W10 22 5 #[.int .u8 83, .int .u8 73, .int .u8 82, .int .u8 49] 4 4 W10.heap.size rfl Tryd.underlying22 Tryd.underlying5
    obtain ⟨wm, hwm⟩ : ∃ wm, W10.alloc (.cells #[.int .u8 83, .int .u8 73, .int .u8 82, .int .u8 49] 5 ((#[.int .u8 83, .int .u8 73, .int .u8 82, .int .u8 49] : Array Value).size, (#[.int .u8 83, .int .u8 73, .int .u8 82, .int .u8 49] : Array Value).size + 1)) = wm := ⟨_, rfl⟩
    rw [hwm] at kc
    have hsm := hide (show Sees wm (W10.heap.size + 1) (some ⟨W10.heap.size, 0, none⟩) (cellsU8 magic) from fun k u hu => ⟨W10.heap.size, 0, rfl, by omega, by
      rw [← hwm, Nat.zero_add, Joins.cell_alloc_mark_at _ _ _ _ _ _ rfl]
      rw [← hu]
      simp [cellsU8, magic]⟩)
    have bm : Below W10.heap.size W10 wm := by rw [← hwm]; exact below1 W10 _
    have hwms : W10.heap.size + 1 ≤ wm.heap.size := by rw [← hwm]; simp
    have Bm := hide (below_call B10.out bm)
    have Pm := hide (P10.out.call bm)
    have Km := hide (K10.out.call bm)
    have Em := hide (E10.out.call bm)
    have Mm := hide (D10.out.call bm)
    have hn1m : n1 ≤ 1048576 := by have := H500.out; omega
    clear hwm bm P10 E10 D10
    go_wp2_with (at_builtin; refine wpList_append_lit rfl (.tmp 60) (.tmp 61) 22 rfl i0 Tryd.underlying22 hi hz0 hz1 hz2 W10.heap.size 4 magic (W10.heap.size + 1) rfl hwms rfl hsm (by omega) A1 n1 c1 bs rfl Em hn1m ?_)
    intro v7 w7 hx7 hb7
    have X7 := hide hx7
    have B7 := hide (below_call Bm.out hb7)
    have P7 := hide (Pm.out.below hb7)
    have K7 := hide (Km.out.below hb7)
    have E7 := hide (Em.out.below hb7)
    have M7 := hide (Mm.out.below hb7)
    have hs7 := hb7.size
    clear hx7 hb7 kc Pm Em Mm hsm
    obtain ⟨W8, hW8⟩ : ∃ W8, w7.alloc (.cells #[.int .u8 0, .int .u8 0, .int .u8 0, .int .u8 0] 5) = W8 := ⟨_, rfl⟩
    obtain ⟨gz, hgz⟩ : ∃ gz, w7.heap.size = gz := ⟨_, rfl⟩
    have b8 : Below w7.heap.size w7 W8 := by rw [← hW8]; exact below1 w7 _
    have RZ8 := show Row W8 gz 5 [.int .u8 0, .int .u8 0, .int .u8 0, .int .u8 0] by rw [← hW8, ← hgz]; exact Row.new w7 5 [.int .u8 0, .int .u8 0, .int .u8 0, .int .u8 0]
    have Z8 := hide (show ∀ (j : Nat) (u : Value), (cellsU8 [0, 0, 0, 0])[j]? = some u → W8.cell? ⟨gz, j, none⟩ = some u from fun j u hu => RZ8.cell (k := j) hu)
    have X8 := hide (show Ext wm.heap.size W8 v7 (4 + n1) (magic ++ bs) by rw [← hW8]; exact X7.out.alloc _)
    have hs8 : wm.heap.size ≤ W8.heap.size := Nat.le_trans hs7 b8.size
    have B8 := hide (below_call B7.out b8)
    have P8 := hide (P7.out.below (b8.mono hs7))
    have K8 := hide (K7.out.below (b8.mono hs7))
    have E8 := hide (E7.out.below (b8.mono hs7))
    have M8 := hide (M7.out.below (b8.mono hs7))
    have HW8 := hide hW8
    have HGZ := hide hgz
    clear hW8 hgz RZ8 P7 E7 M7 X7 b8
    go_wp2_with (at_builtin; rw [HW8.out, HGZ.out]; refine wpList_append_ext rfl (.tmp 62) (.tmp 63) 22 rfl i0 Tryd.underlying22 hi hz0 hz1 hz2 wm.heap.size (4 + n1) v7 (magic ++ bs) rfl X8 hs8 (by omega) gz 4 4 [0, 0, 0, 0] rfl rfl (by omega) Z8 ?_)
    intro v11 w11 ho11 hb11
    have hs11 : wm.heap.size ≤ w11.heap.size := Nat.le_trans hs8 hb11.size
    have hbz : Byt ((magic ++ bs) ++ [0, 0, 0, 0]) := ((show Byt magic from fun z hz => by simp [magic] at hz; omega).app h'.out.byt).app (show Byt [0, 0, 0, 0] from fun z hz => by simp at hz; omega)
    obtain ⟨A11, c11, rfl, -, -, -, -⟩ := own_seen ho11
    have D11 := hide (BsAt.own ho11 hbz)
    have B11 := hide (B8.out.trans (hb11.mono Bm.out.size))
    have P11 := hide ((P8.out.below hb11).more hs11)
    have K11 := hide ((K8.out.below hb11).more hs11)
    have E11 := hide ((E8.out.below hb11).more hs11)
    have M11 := hide ((M8.out.below hb11).more hs11)
    clear ho11 hb11 P8 E8 M8 K8 X8 Z8 hbz HW8 HGZ
    clear K7 Km
    go_upto_region 8 with (fail)
    have h8 : n5 ≤ c5 := P11.out.nc
    generalize hn11 : 4 + n1 + 4 = n11 at D11 ⊢
    have hn11s : n11 ≤ 1048576 := by omega
    clear hn11
    refine wp_region_inv (by kernel_rfl) (DecR A1 n1 c1 g5 n5 c5 g c9 j A11 n11 c11 (.slice A0 n0 c0) (.int .i64 x) (.int .u8 y) (.bool false) (.int .i64 0) (.bool true) (.bool false) (.bool false) (.slice A1 n1 c1) (.int .i64 (n1 : Int)) (.bool (decide ((500 : Int) < (n1 : Int)))) (.bool (decide ((500 : Int) < (n1 : Int)))) (.tuple #[.slice (some ⟨g5, 0, none⟩) n5 c5, .int .i64 0]) (.slice A0 n0 c0) (.pointer (some ⟨w1.heap.size, 0, none⟩)) (gv AP nP cP) (.tuple #[.slice (some ⟨g5, 0, none⟩) n5 c5, .int .i64 0]) (.slice (some ⟨g5, 0, none⟩) n5 c5) (.int .i64 0) (.slice (some ⟨g5, 0, none⟩) n5 c5) (.slice (some ⟨g, 0, none⟩) n5 c9) (.slice (some ⟨g, 0, none⟩) n5 c9) (.int .i64 x) (.slice (some ⟨g, 0, none⟩) n5 c9) (.int .i64 (n5 : Int)) (.int .i64 (i : Int)) (.pointer (some ⟨g, i, none⟩)) (.int .u8 z) (.int .u8 y) (.int .u8 z') (.pointer (some ⟨g, i, none⟩)) (.slice (some ⟨g5, 0, none⟩) n5 c5) (.int .i64 x) (.slice (some ⟨g5, 0, none⟩) n5 c5) (.int .i64 (n5 : Int)) (.int .i64 (j : Int)) (.slice (some ⟨g5, 0, none⟩) j c5) (.slice (some ⟨W10.heap.size, 0, none⟩) 4 4) (.slice (some ⟨W10.heap.size, 0, none⟩) 4 4) (.slice A1 n1 c1) (v7) (.slice (some ⟨gz, 0, none⟩) 4 4) (.slice A11 n11 c11) w11) ⟨false, false, false, false, false, false, false, false, false, false, false, false, false, false, false, false, false, false, false, false, false, false, undef, undef, undef, undef, undef, undef, undef, undef, undef, undef, undef, undef, undef, undef, undef, undef, undef, undef, undef, undef, undef, undef, rfl, rfl, below_draws (Below.refl _ _) 1, (fun e => by cases e), (fun e => by cases e), (fun e => by cases e), (fun e => by cases e), (fun e => by cases e), (fun e => by cases e), (fun e => by cases e), (fun e => by cases e), (fun e => by cases e), (fun e => by cases e), (fun e => by cases e), (fun e => by cases e), (fun e => by cases e), (fun e => by cases e), (fun e => by cases e), (fun e => by cases e), (fun e => by cases e), (fun e => by cases e), (fun e => by cases e), (fun e => by cases e), (fun e => by cases e), (fun e => by cases e)⟩ ?_ ?_
    · intro l a wr hI k hi K hK
      refine hI.elim fun b0 b1 b2 b3 b4 b5 b6 b7 b8 b9 b10 b11 b12 b13 b14 b15 b16 b17 b18 b19 b20 b21 x65 x66 x67 x68 x69 x70 x71 x72 x73 x74 x75 x76 x77 x78 x79 x80 x81 x82 x83 x84 x85 x86 e1 e2 hb q0 q1 q2 q3 q4 q5 q6 q7 q8 q9 q10 q11 q12 q13 q14 q15 q16 q17 q18 q19 q20 q21 => ?_
      clear hI
      subst e1 e2
      have hlt := ready_lt hi
      obtain ⟨hf, o, ho, ha⟩ := ready_of hi
      clear hi
      have hlt' : k < 22 := hlt
      clear hlt
      have HB := hide hb
      clear hb
      rcases (show k = 0 ∨ k = 1 ∨ k = 2 ∨ k = 3 ∨ k = 4 ∨ k = 5 ∨ k = 6 ∨ k = 7 ∨ k = 8 ∨ k = 9 ∨ k = 10 ∨ k = 11 ∨ k = 12 ∨ k = 13 ∨ k = 14 ∨ k = 15 ∨ k = 16 ∨ k = 17 ∨ k = 18 ∨ k = 19 ∨ k = 20 ∨ k = 21 by omega) with rfl | rfl | rfl | rfl | rfl | rfl | rfl | rfl | rfl | rfl | rfl | rfl | rfl | rfl | rfl | rfl | rfl | rfl | rfl | rfl | rfl | rfl
      · obtain rfl := Option.some.inj ho
        simp [Region.binds] at ha
        clear ha hf ho hlt'
        refine wpOp_plain rfl rfl ?_
        go_simp
        refine hK _ _ ⟨true, b1, b2, b3, b4, b5, b6, b7, b8, b9, b10, b11, b12, b13, b14, b15, b16, b17, b18, b19, b20, b21, _, _, _, _, _, _, _, _, _, _, _, _, _, _, _, _, _, _, _, _, _, _, rfl, rfl, HB.out, (fun _ => rfl), q1, q2, q3, q4, q5, q6, q7, q8, q9, q10, q11, q12, q13, q14, q15, q16, q17, q18, q19, q20, q21⟩
      · obtain rfl := Option.some.inj ho
        simp [Region.binds] at ha
        clear ha hf ho hlt'
        refine wpOp_plain rfl rfl ?_
        go_simp
        refine hK _ _ ⟨b0, true, b2, b3, b4, b5, b6, b7, b8, b9, b10, b11, b12, b13, b14, b15, b16, b17, b18, b19, b20, b21, _, _, _, _, _, _, _, _, _, _, _, _, _, _, _, _, _, _, _, _, _, _, rfl, rfl, HB.out, q0, (fun _ => rfl), q2, q3, q4, q5, q6, q7, q8, q9, q10, q11, q12, q13, q14, q15, q16, q17, q18, q19, q20, q21⟩
      · obtain rfl := Option.some.inj ho
        simp [Region.binds] at ha
        clear ha hf ho hlt'
        refine wpOp_plain rfl rfl ?_
        go_simp
        refine hK _ _ ⟨b0, b1, true, b3, b4, b5, b6, b7, b8, b9, b10, b11, b12, b13, b14, b15, b16, b17, b18, b19, b20, b21, _, _, _, _, _, _, _, _, _, _, _, _, _, _, _, _, _, _, _, _, _, _, rfl, rfl, HB.out, q0, q1, (fun _ => rfl), q3, q4, q5, q6, q7, q8, q9, q10, q11, q12, q13, q14, q15, q16, q17, q18, q19, q20, q21⟩
      · obtain rfl := Option.some.inj ho
        simp [Region.binds] at ha
        clear ha hf ho hlt'
        refine wpOp_plain rfl rfl ?_
        go_simp
        refine hK _ _ ⟨b0, b1, b2, true, b4, b5, b6, b7, b8, b9, b10, b11, b12, b13, b14, b15, b16, b17, b18, b19, b20, b21, _, _, _, _, _, _, _, _, _, _, _, _, _, _, _, _, _, _, _, _, _, _, rfl, rfl, HB.out, q0, q1, q2, (fun _ => rfl), q4, q5, q6, q7, q8, q9, q10, q11, q12, q13, q14, q15, q16, q17, q18, q19, q20, q21⟩
      · obtain rfl := Option.some.inj ho
        simp [Region.binds] at ha
        have d3 : b3 = true := by first | exact ha | exact ha.1 | exact ha.2 | exact ha.2.1 | exact ha.2.2 | exact ha.2.2.1 | exact ha.2.2.2 | exact ha.2.2.2.1 | exact ha.2.2.2.2 | exact ha.2.2.2.2.1 | exact ha.2.2.2.2.2 | exact ha.2.2.2.2.2.1 | exact ha.2.2.2.2.2.2 | exact ha.2.2.2.2.2.2.1 | exact ha.2.2.2.2.2.2.2 | exact ha.2.2.2.2.2.2.2.1 | exact ha.2.2.2.2.2.2.2.2 | exact ha.2.2.2.2.2.2.2.2.1 | exact ha.2.2.2.2.2.2.2.2.2 | exact ha.2.2.2.2.2.2.2.2.2.1 | exact ha.2.2.2.2.2.2.2.2.2.2 | exact ha.2.2.2.2.2.2.2.2.2.2.1
        obtain rfl := q3 d3
        have HD := hide (M11.out.call HB.out)
        clear ha hf ho hlt'
        refine wpOp_plain rfl rfl ?_
        go_simp
        refine (mended_any _ _ _ _ wr HD (by omega)).mono ?_
        rintro e w' ⟨A', n', c', rfl, hm, hbm⟩
        refine hK _ _ ⟨b0, b1, b2, b3, true, b5, b6, b7, b8, b9, b10, b11, b12, b13, b14, b15, b16, b17, b18, b19, b20, b21, _, _, _, _, _, _, _, _, _, _, _, _, _, _, _, _, _, _, _, _, _, _, rfl, rfl, below_call HB.out hbm, q0, q1, q2, q3, (fun _ => ⟨_, _, _, _, rfl, hm⟩), q5, q6, (fun e => (q7 e).call hbm), q8, (fun e => (q9 e).call hbm), q10, q11, q12, q13, q14, q15, (fun e => (q16 e).call hbm), (fun e => (q17 e).call hbm), (fun e => (q18 e).call hbm), (fun e => (q19 e).call hbm), q20, q21⟩
      · obtain rfl := Option.some.inj ho
        simp [Region.binds] at ha
        clear ha hf ho hlt'
        refine wpOp_plain rfl rfl ?_
        go_simp
        refine hK _ _ ⟨b0, b1, b2, b3, b4, true, b6, b7, b8, b9, b10, b11, b12, b13, b14, b15, b16, b17, b18, b19, b20, b21, _, _, _, _, _, _, _, _, _, _, _, _, _, _, _, _, _, _, _, _, _, _, rfl, rfl, HB.out, q0, q1, q2, q3, q4, (fun _ => rfl), q6, q7, q8, q9, q10, q11, q12, q13, q14, q15, q16, q17, q18, q19, q20, q21⟩
      · obtain rfl := Option.some.inj ho
        simp [Region.binds] at ha
        clear ha hf ho hlt'
        refine wpOp_plain rfl rfl ?_
        go_simp
        refine hK _ _ ⟨b0, b1, b2, b3, b4, b5, true, b7, b8, b9, b10, b11, b12, b13, b14, b15, b16, b17, b18, b19, b20, b21, _, _, _, _, _, _, _, _, _, _, _, _, _, _, _, _, _, _, _, _, _, _, rfl, rfl, HB.out, q0, q1, q2, q3, q4, q5, (fun _ => rfl), q7, q8, q9, q10, q11, q12, q13, q14, q15, q16, q17, q18, q19, q20, q21⟩
      · obtain rfl := Option.some.inj ho
        simp [Region.binds] at ha
        have d6 : b6 = true := by first | exact ha | exact ha.1 | exact ha.2 | exact ha.2.1 | exact ha.2.2 | exact ha.2.2.1 | exact ha.2.2.2 | exact ha.2.2.2.1 | exact ha.2.2.2.2 | exact ha.2.2.2.2.1 | exact ha.2.2.2.2.2 | exact ha.2.2.2.2.2.1 | exact ha.2.2.2.2.2.2 | exact ha.2.2.2.2.2.2.1 | exact ha.2.2.2.2.2.2.2 | exact ha.2.2.2.2.2.2.2.1 | exact ha.2.2.2.2.2.2.2.2 | exact ha.2.2.2.2.2.2.2.2.1 | exact ha.2.2.2.2.2.2.2.2.2 | exact ha.2.2.2.2.2.2.2.2.2.1 | exact ha.2.2.2.2.2.2.2.2.2.2 | exact ha.2.2.2.2.2.2.2.2.2.2.1
        obtain rfl := q6 d6
        have HD := hide (K11.out.call HB.out)
        clear ha hf ho hlt'
        refine wpOp_plain rfl rfl ?_
        go_simp
        refine (mended_any _ _ _ _ wr HD (by omega)).mono ?_
        rintro e w' ⟨A', n', c', rfl, hm, hbm⟩
        refine hK _ _ ⟨b0, b1, b2, b3, b4, b5, b6, true, b8, b9, b10, b11, b12, b13, b14, b15, b16, b17, b18, b19, b20, b21, _, _, _, _, _, _, _, _, _, _, _, _, _, _, _, _, _, _, _, _, _, _, rfl, rfl, below_call HB.out hbm, q0, q1, q2, q3, (fun e => (q4 e).call hbm), q5, q6, (fun _ => ⟨_, _, _, _, rfl, hm⟩), q8, (fun e => (q9 e).call hbm), q10, q11, q12, q13, q14, q15, (fun e => (q16 e).call hbm), (fun e => (q17 e).call hbm), (fun e => (q18 e).call hbm), (fun e => (q19 e).call hbm), q20, q21⟩
      · obtain rfl := Option.some.inj ho
        simp [Region.binds] at ha
        clear ha hf ho hlt'
        refine wpOp_plain rfl rfl ?_
        go_simp
        refine hK _ _ ⟨b0, b1, b2, b3, b4, b5, b6, b7, true, b9, b10, b11, b12, b13, b14, b15, b16, b17, b18, b19, b20, b21, _, _, _, _, _, _, _, _, _, _, _, _, _, _, _, _, _, _, _, _, _, _, rfl, rfl, HB.out, q0, q1, q2, q3, q4, q5, q6, q7, (fun _ => rfl), q9, q10, q11, q12, q13, q14, q15, q16, q17, q18, q19, q20, q21⟩
      · obtain rfl := Option.some.inj ho
        simp [Region.binds] at ha
        have d8 : b8 = true := by first | exact ha | exact ha.1 | exact ha.2 | exact ha.2.1 | exact ha.2.2 | exact ha.2.2.1 | exact ha.2.2.2 | exact ha.2.2.2.1 | exact ha.2.2.2.2 | exact ha.2.2.2.2.1 | exact ha.2.2.2.2.2 | exact ha.2.2.2.2.2.1 | exact ha.2.2.2.2.2.2 | exact ha.2.2.2.2.2.2.1 | exact ha.2.2.2.2.2.2.2 | exact ha.2.2.2.2.2.2.2.1 | exact ha.2.2.2.2.2.2.2.2 | exact ha.2.2.2.2.2.2.2.2.1 | exact ha.2.2.2.2.2.2.2.2.2 | exact ha.2.2.2.2.2.2.2.2.2.1 | exact ha.2.2.2.2.2.2.2.2.2.2 | exact ha.2.2.2.2.2.2.2.2.2.2.1
        obtain rfl := q8 d8
        have HD := hide (D11.out.call HB.out)
        clear ha hf ho hlt'
        refine wpOp_plain rfl rfl ?_
        go_simp
        refine (mended_any _ _ _ _ wr HD (by omega)).mono ?_
        rintro e w' ⟨A', n', c', rfl, hm, hbm⟩
        refine hK _ _ ⟨b0, b1, b2, b3, b4, b5, b6, b7, b8, true, b10, b11, b12, b13, b14, b15, b16, b17, b18, b19, b20, b21, _, _, _, _, _, _, _, _, _, _, _, _, _, _, _, _, _, _, _, _, _, _, rfl, rfl, below_call HB.out hbm, q0, q1, q2, q3, (fun e => (q4 e).call hbm), q5, q6, (fun e => (q7 e).call hbm), q8, (fun _ => ⟨_, _, _, _, rfl, hm⟩), q10, q11, q12, q13, q14, q15, (fun e => (q16 e).call hbm), (fun e => (q17 e).call hbm), (fun e => (q18 e).call hbm), (fun e => (q19 e).call hbm), q20, q21⟩
      · obtain rfl := Option.some.inj ho
        simp [Region.binds] at ha
        clear ha hf ho hlt'
        refine wpOp_plain rfl rfl ?_
        go_simp
        refine hK _ _ ⟨b0, b1, b2, b3, b4, b5, b6, b7, b8, b9, true, b11, b12, b13, b14, b15, b16, b17, b18, b19, b20, b21, _, _, _, _, _, _, _, _, _, _, _, _, _, _, _, _, _, _, _, _, _, _, rfl, rfl, HB.out, q0, q1, q2, q3, q4, q5, q6, q7, q8, q9, (fun _ => rfl), q11, q12, q13, q14, q15, q16, q17, q18, q19, q20, q21⟩
      · obtain rfl := Option.some.inj ho
        simp [Region.binds] at ha
        clear ha hf ho hlt'
        refine wpOp_plain rfl rfl ?_
        go_simp
        refine hK _ _ ⟨b0, b1, b2, b3, b4, b5, b6, b7, b8, b9, b10, true, b12, b13, b14, b15, b16, b17, b18, b19, b20, b21, _, _, _, _, _, _, _, _, _, _, _, _, _, _, _, _, _, _, _, _, _, _, rfl, rfl, HB.out, q0, q1, q2, q3, q4, q5, q6, q7, q8, q9, q10, (fun _ => rfl), q12, q13, q14, q15, q16, q17, q18, q19, q20, q21⟩
      · obtain rfl := Option.some.inj ho
        simp [Region.binds] at ha
        have d11 : b11 = true := by first | exact ha | exact ha.1 | exact ha.2 | exact ha.2.1 | exact ha.2.2 | exact ha.2.2.1 | exact ha.2.2.2 | exact ha.2.2.2.1 | exact ha.2.2.2.2 | exact ha.2.2.2.2.1 | exact ha.2.2.2.2.2 | exact ha.2.2.2.2.2.1 | exact ha.2.2.2.2.2.2 | exact ha.2.2.2.2.2.2.1 | exact ha.2.2.2.2.2.2.2 | exact ha.2.2.2.2.2.2.2.1 | exact ha.2.2.2.2.2.2.2.2 | exact ha.2.2.2.2.2.2.2.2.1 | exact ha.2.2.2.2.2.2.2.2.2 | exact ha.2.2.2.2.2.2.2.2.2.1 | exact ha.2.2.2.2.2.2.2.2.2.2 | exact ha.2.2.2.2.2.2.2.2.2.2.1
        obtain rfl := q11 d11
        clear ha hf ho hlt'
        refine wpOp_plain rfl rfl ?_
        go_simp
        refine hK _ _ ⟨b0, b1, b2, b3, b4, b5, b6, b7, b8, b9, b10, b11, true, b13, b14, b15, b16, b17, b18, b19, b20, b21, _, _, _, _, _, _, _, _, _, _, _, _, _, _, _, _, _, _, _, _, _, _, rfl, rfl, HB.out, q0, q1, q2, q3, q4, q5, q6, q7, q8, q9, q10, q11, (fun _ => rfl), q13, q14, q15, q16, q17, q18, q19, q20, q21⟩
      · obtain rfl := Option.some.inj ho
        simp [Region.binds] at ha
        clear ha hf ho hlt'
        refine wpOp_plain rfl rfl ?_
        go_simp
        refine hK _ _ ⟨b0, b1, b2, b3, b4, b5, b6, b7, b8, b9, b10, b11, b12, true, b14, b15, b16, b17, b18, b19, b20, b21, _, _, _, _, _, _, _, _, _, _, _, _, _, _, _, _, _, _, _, _, _, _, rfl, rfl, HB.out, q0, q1, q2, q3, q4, q5, q6, q7, q8, q9, q10, q11, q12, (fun _ => rfl), q14, q15, q16, q17, q18, q19, q20, q21⟩
      · obtain rfl := Option.some.inj ho
        simp [Region.binds] at ha
        have d13 : b13 = true := by first | exact ha | exact ha.1 | exact ha.2 | exact ha.2.1 | exact ha.2.2 | exact ha.2.2.1 | exact ha.2.2.2 | exact ha.2.2.2.1 | exact ha.2.2.2.2 | exact ha.2.2.2.2.1 | exact ha.2.2.2.2.2 | exact ha.2.2.2.2.2.1 | exact ha.2.2.2.2.2.2 | exact ha.2.2.2.2.2.2.1 | exact ha.2.2.2.2.2.2.2 | exact ha.2.2.2.2.2.2.2.1 | exact ha.2.2.2.2.2.2.2.2 | exact ha.2.2.2.2.2.2.2.2.1 | exact ha.2.2.2.2.2.2.2.2.2 | exact ha.2.2.2.2.2.2.2.2.2.1 | exact ha.2.2.2.2.2.2.2.2.2.2 | exact ha.2.2.2.2.2.2.2.2.2.2.1
        obtain rfl := q13 d13
        clear ha hf ho hlt'
        refine wpOp_plain rfl rfl ?_
        go_simp
        refine hK _ _ ⟨b0, b1, b2, b3, b4, b5, b6, b7, b8, b9, b10, b11, b12, b13, true, b15, b16, b17, b18, b19, b20, b21, _, _, _, _, _, _, _, _, _, _, _, _, _, _, _, _, _, _, _, _, _, _, rfl, rfl, HB.out, q0, q1, q2, q3, q4, q5, q6, q7, q8, q9, q10, q11, q12, q13, (fun _ => rfl), q15, q16, q17, q18, q19, q20, q21⟩
      · obtain rfl := Option.some.inj ho
        simp [Region.binds] at ha
        have d10 : b10 = true := by first | exact ha | exact ha.1 | exact ha.2 | exact ha.2.1 | exact ha.2.2 | exact ha.2.2.1 | exact ha.2.2.2 | exact ha.2.2.2.1 | exact ha.2.2.2.2 | exact ha.2.2.2.2.1 | exact ha.2.2.2.2.2 | exact ha.2.2.2.2.2.1 | exact ha.2.2.2.2.2.2 | exact ha.2.2.2.2.2.2.1 | exact ha.2.2.2.2.2.2.2 | exact ha.2.2.2.2.2.2.2.1 | exact ha.2.2.2.2.2.2.2.2 | exact ha.2.2.2.2.2.2.2.2.1 | exact ha.2.2.2.2.2.2.2.2.2 | exact ha.2.2.2.2.2.2.2.2.2.1 | exact ha.2.2.2.2.2.2.2.2.2.2 | exact ha.2.2.2.2.2.2.2.2.2.2.1
        have d12 : b12 = true := by first | exact ha | exact ha.1 | exact ha.2 | exact ha.2.1 | exact ha.2.2 | exact ha.2.2.1 | exact ha.2.2.2 | exact ha.2.2.2.1 | exact ha.2.2.2.2 | exact ha.2.2.2.2.1 | exact ha.2.2.2.2.2 | exact ha.2.2.2.2.2.1 | exact ha.2.2.2.2.2.2 | exact ha.2.2.2.2.2.2.1 | exact ha.2.2.2.2.2.2.2 | exact ha.2.2.2.2.2.2.2.1 | exact ha.2.2.2.2.2.2.2.2 | exact ha.2.2.2.2.2.2.2.2.1 | exact ha.2.2.2.2.2.2.2.2.2 | exact ha.2.2.2.2.2.2.2.2.2.1 | exact ha.2.2.2.2.2.2.2.2.2.2 | exact ha.2.2.2.2.2.2.2.2.2.2.1
        have d14 : b14 = true := by first | exact ha | exact ha.1 | exact ha.2 | exact ha.2.1 | exact ha.2.2 | exact ha.2.2.1 | exact ha.2.2.2 | exact ha.2.2.2.1 | exact ha.2.2.2.2 | exact ha.2.2.2.2.1 | exact ha.2.2.2.2.2 | exact ha.2.2.2.2.2.1 | exact ha.2.2.2.2.2.2 | exact ha.2.2.2.2.2.2.1 | exact ha.2.2.2.2.2.2.2 | exact ha.2.2.2.2.2.2.2.1 | exact ha.2.2.2.2.2.2.2.2 | exact ha.2.2.2.2.2.2.2.2.1 | exact ha.2.2.2.2.2.2.2.2.2 | exact ha.2.2.2.2.2.2.2.2.2.1 | exact ha.2.2.2.2.2.2.2.2.2.2 | exact ha.2.2.2.2.2.2.2.2.2.2.1
        obtain rfl := q10 d10
        obtain rfl := q12 d12
        obtain rfl := q14 d14
        have hz5 : (0 : Int) ≤ (n5 : Int) := by omega
        have hz6 : (n5 : Int) ≤ (c5 : Int) := by omega
        clear ha hf ho hlt'
        refine wpOp_plain rfl rfl ?_
        go_simp
        refine hK _ _ ⟨b0, b1, b2, b3, b4, b5, b6, b7, b8, b9, b10, b11, b12, b13, b14, true, b16, b17, b18, b19, b20, b21, _, _, _, _, _, _, _, _, _, _, _, _, _, _, _, _, _, _, _, _, _, _, rfl, rfl, HB.out, q0, q1, q2, q3, q4, q5, q6, q7, q8, q9, q10, q11, q12, q13, q14, (fun _ => rfl), q16, q17, q18, q19, q20, q21⟩
      · obtain rfl := Option.some.inj ho
        simp [Region.binds] at ha
        clear ha hf ho hlt'
        refine wpOp_plain rfl rfl ?_
        go_simp
        refine hK _ _ ⟨b0, b1, b2, b3, b4, b5, b6, b7, b8, b9, b10, b11, b12, b13, b14, b15, true, b17, b18, b19, b20, b21, _, _, _, _, _, _, _, _, _, _, _, _, _, _, _, _, _, _, _, _, _, _, rfl, rfl, below_call HB.out (below1 wr _), q0, q1, q2, q3, (fun e => (q4 e).call (below1 wr _)), q5, q6, (fun e => (q7 e).call (below1 wr _)), q8, (fun e => (q9 e).call (below1 wr _)), q10, q11, q12, q13, q14, q15, (fun _ => ⟨wr.heap.size, rfl, Row.new wr 5 [.int .u8 0]⟩), (fun e => (q17 e).call (below1 wr _)), (fun e => (q18 e).call (below1 wr _)), (fun e => (q19 e).call (below1 wr _)), q20, q21⟩
      · obtain rfl := Option.some.inj ho
        simp [Region.binds] at ha
        have d15 : b15 = true := by first | exact ha | exact ha.1 | exact ha.2 | exact ha.2.1 | exact ha.2.2 | exact ha.2.2.1 | exact ha.2.2.2 | exact ha.2.2.2.1 | exact ha.2.2.2.2 | exact ha.2.2.2.2.1 | exact ha.2.2.2.2.2 | exact ha.2.2.2.2.2.1 | exact ha.2.2.2.2.2.2 | exact ha.2.2.2.2.2.2.1 | exact ha.2.2.2.2.2.2.2 | exact ha.2.2.2.2.2.2.2.1 | exact ha.2.2.2.2.2.2.2.2 | exact ha.2.2.2.2.2.2.2.2.1 | exact ha.2.2.2.2.2.2.2.2.2 | exact ha.2.2.2.2.2.2.2.2.2.1 | exact ha.2.2.2.2.2.2.2.2.2.2 | exact ha.2.2.2.2.2.2.2.2.2.2.1
        have d16 : b16 = true := by first | exact ha | exact ha.1 | exact ha.2 | exact ha.2.1 | exact ha.2.2 | exact ha.2.2.1 | exact ha.2.2.2 | exact ha.2.2.2.1 | exact ha.2.2.2.2 | exact ha.2.2.2.2.1 | exact ha.2.2.2.2.2 | exact ha.2.2.2.2.2.1 | exact ha.2.2.2.2.2.2 | exact ha.2.2.2.2.2.2.1 | exact ha.2.2.2.2.2.2.2 | exact ha.2.2.2.2.2.2.2.1 | exact ha.2.2.2.2.2.2.2.2 | exact ha.2.2.2.2.2.2.2.2.1 | exact ha.2.2.2.2.2.2.2.2.2 | exact ha.2.2.2.2.2.2.2.2.2.1 | exact ha.2.2.2.2.2.2.2.2.2.2 | exact ha.2.2.2.2.2.2.2.2.2.2.1
        obtain rfl := q15 d15
        obtain ⟨zb, rfl, RZ1⟩ := q16 d16
        have HX := hide (show Ext wr.heap.size wr (.slice (some ⟨g5, 0, none⟩) n5 n5) n5 (encY F) from .inr ⟨g5, wr.heap.size, rfl, Nat.le_refl _, HN5.out, (P11.out.call HB.out).see⟩)
        clear ha hf ho hlt'
        refine wpOp_plain rfl rfl ?_
        refine wp_append_ext (.tmp 80) (.tmp 81) 22 rfl i0 Tryd.underlying22 hi hz0 hz1 hz2 wr.heap.size n5 _ (encY F) rfl HX (Nat.le_refl _) (by omega) zb 1 1 [0] rfl rfl (by omega) (hide (fun jj uu hu => RZ1.cell (k := jj) hu)) ?_
        intro v' w' ho' hbm
        obtain ⟨A', c', rfl, -, -, -, -⟩ := own_seen ho'
        refine hK _ _ ⟨b0, b1, b2, b3, b4, b5, b6, b7, b8, b9, b10, b11, b12, b13, b14, b15, b16, true, b18, b19, b20, b21, _, _, _, _, _, _, _, _, _, _, _, _, _, _, _, _, _, _, _, _, _, _, rfl, rfl, below_call HB.out hbm, q0, q1, q2, q3, (fun e => (q4 e).call hbm), q5, q6, (fun e => (q7 e).call hbm), q8, (fun e => (q9 e).call hbm), q10, q11, q12, q13, q14, q15, (fun e => (q16 e).call hbm), (fun _ => ⟨_, _, _, rfl, BsAt.own ho' ((encY_byt HW.out).app (show Byt [0] from fun z hz => by simp at hz; omega))⟩), (fun e => (q18 e).call hbm), (fun e => (q19 e).call hbm), q20, q21⟩
      · obtain rfl := Option.some.inj ho
        simp [Region.binds] at ha
        have d17 : b17 = true := by first | exact ha | exact ha.1 | exact ha.2 | exact ha.2.1 | exact ha.2.2 | exact ha.2.2.1 | exact ha.2.2.2 | exact ha.2.2.2.1 | exact ha.2.2.2.2 | exact ha.2.2.2.2.1 | exact ha.2.2.2.2.2 | exact ha.2.2.2.2.2.1 | exact ha.2.2.2.2.2.2 | exact ha.2.2.2.2.2.2.1 | exact ha.2.2.2.2.2.2.2 | exact ha.2.2.2.2.2.2.2.1 | exact ha.2.2.2.2.2.2.2.2 | exact ha.2.2.2.2.2.2.2.2.1 | exact ha.2.2.2.2.2.2.2.2.2 | exact ha.2.2.2.2.2.2.2.2.2.1 | exact ha.2.2.2.2.2.2.2.2.2.2 | exact ha.2.2.2.2.2.2.2.2.2.2.1
        obtain ⟨A82, c82, z82, rfl, HD⟩ := q17 d17
        clear ha hf ho hlt'
        refine wpOp_plain rfl rfl ?_
        go_simp
        refine (mended_any _ _ _ _ wr (hide HD) (by omega)).mono ?_
        rintro e w' ⟨A', n', c', rfl, hm, hbm⟩
        refine hK _ _ ⟨b0, b1, b2, b3, b4, b5, b6, b7, b8, b9, b10, b11, b12, b13, b14, b15, b16, b17, true, b19, b20, b21, _, _, _, _, _, _, _, _, _, _, _, _, _, _, _, _, _, _, _, _, _, _, rfl, rfl, below_call HB.out hbm, q0, q1, q2, q3, (fun e => (q4 e).call hbm), q5, q6, (fun e => (q7 e).call hbm), q8, (fun e => (q9 e).call hbm), q10, q11, q12, q13, q14, q15, (fun e => (q16 e).call hbm), (fun e => (q17 e).call hbm), (fun _ => ⟨_, _, _, _, rfl, hm⟩), (fun e => (q19 e).call hbm), q20, q21⟩
      · obtain rfl := Option.some.inj ho
        simp [Region.binds] at ha
        have d0 : b0 = true := by first | exact ha | exact ha.1 | exact ha.2 | exact ha.2.1 | exact ha.2.2 | exact ha.2.2.1 | exact ha.2.2.2 | exact ha.2.2.2.1 | exact ha.2.2.2.2 | exact ha.2.2.2.2.1 | exact ha.2.2.2.2.2 | exact ha.2.2.2.2.2.1 | exact ha.2.2.2.2.2.2 | exact ha.2.2.2.2.2.2.1 | exact ha.2.2.2.2.2.2.2 | exact ha.2.2.2.2.2.2.2.1 | exact ha.2.2.2.2.2.2.2.2 | exact ha.2.2.2.2.2.2.2.2.1 | exact ha.2.2.2.2.2.2.2.2.2 | exact ha.2.2.2.2.2.2.2.2.2.1 | exact ha.2.2.2.2.2.2.2.2.2.2 | exact ha.2.2.2.2.2.2.2.2.2.2.1
        have d1 : b1 = true := by first | exact ha | exact ha.1 | exact ha.2 | exact ha.2.1 | exact ha.2.2 | exact ha.2.2.1 | exact ha.2.2.2 | exact ha.2.2.2.1 | exact ha.2.2.2.2 | exact ha.2.2.2.2.1 | exact ha.2.2.2.2.2 | exact ha.2.2.2.2.2.1 | exact ha.2.2.2.2.2.2 | exact ha.2.2.2.2.2.2.1 | exact ha.2.2.2.2.2.2.2 | exact ha.2.2.2.2.2.2.2.1 | exact ha.2.2.2.2.2.2.2.2 | exact ha.2.2.2.2.2.2.2.2.1 | exact ha.2.2.2.2.2.2.2.2.2 | exact ha.2.2.2.2.2.2.2.2.2.1 | exact ha.2.2.2.2.2.2.2.2.2.2 | exact ha.2.2.2.2.2.2.2.2.2.2.1
        have d2 : b2 = true := by first | exact ha | exact ha.1 | exact ha.2 | exact ha.2.1 | exact ha.2.2 | exact ha.2.2.1 | exact ha.2.2.2 | exact ha.2.2.2.1 | exact ha.2.2.2.2 | exact ha.2.2.2.2.1 | exact ha.2.2.2.2.2 | exact ha.2.2.2.2.2.1 | exact ha.2.2.2.2.2.2 | exact ha.2.2.2.2.2.2.1 | exact ha.2.2.2.2.2.2.2 | exact ha.2.2.2.2.2.2.2.1 | exact ha.2.2.2.2.2.2.2.2 | exact ha.2.2.2.2.2.2.2.2.1 | exact ha.2.2.2.2.2.2.2.2.2 | exact ha.2.2.2.2.2.2.2.2.2.1 | exact ha.2.2.2.2.2.2.2.2.2.2 | exact ha.2.2.2.2.2.2.2.2.2.2.1
        have d4 : b4 = true := by first | exact ha | exact ha.1 | exact ha.2 | exact ha.2.1 | exact ha.2.2 | exact ha.2.2.1 | exact ha.2.2.2 | exact ha.2.2.2.1 | exact ha.2.2.2.2 | exact ha.2.2.2.2.1 | exact ha.2.2.2.2.2 | exact ha.2.2.2.2.2.1 | exact ha.2.2.2.2.2.2 | exact ha.2.2.2.2.2.2.1 | exact ha.2.2.2.2.2.2.2 | exact ha.2.2.2.2.2.2.2.1 | exact ha.2.2.2.2.2.2.2.2 | exact ha.2.2.2.2.2.2.2.2.1 | exact ha.2.2.2.2.2.2.2.2.2 | exact ha.2.2.2.2.2.2.2.2.2.1 | exact ha.2.2.2.2.2.2.2.2.2.2 | exact ha.2.2.2.2.2.2.2.2.2.2.1
        have d5 : b5 = true := by first | exact ha | exact ha.1 | exact ha.2 | exact ha.2.1 | exact ha.2.2 | exact ha.2.2.1 | exact ha.2.2.2 | exact ha.2.2.2.1 | exact ha.2.2.2.2 | exact ha.2.2.2.2.1 | exact ha.2.2.2.2.2 | exact ha.2.2.2.2.2.1 | exact ha.2.2.2.2.2.2 | exact ha.2.2.2.2.2.2.1 | exact ha.2.2.2.2.2.2.2 | exact ha.2.2.2.2.2.2.2.1 | exact ha.2.2.2.2.2.2.2.2 | exact ha.2.2.2.2.2.2.2.2.1 | exact ha.2.2.2.2.2.2.2.2.2 | exact ha.2.2.2.2.2.2.2.2.2.1 | exact ha.2.2.2.2.2.2.2.2.2.2 | exact ha.2.2.2.2.2.2.2.2.2.2.1
        have d7 : b7 = true := by first | exact ha | exact ha.1 | exact ha.2 | exact ha.2.1 | exact ha.2.2 | exact ha.2.2.1 | exact ha.2.2.2 | exact ha.2.2.2.1 | exact ha.2.2.2.2 | exact ha.2.2.2.2.1 | exact ha.2.2.2.2.2 | exact ha.2.2.2.2.2.1 | exact ha.2.2.2.2.2.2 | exact ha.2.2.2.2.2.2.1 | exact ha.2.2.2.2.2.2.2 | exact ha.2.2.2.2.2.2.2.1 | exact ha.2.2.2.2.2.2.2.2 | exact ha.2.2.2.2.2.2.2.2.1 | exact ha.2.2.2.2.2.2.2.2.2 | exact ha.2.2.2.2.2.2.2.2.2.1 | exact ha.2.2.2.2.2.2.2.2.2.2 | exact ha.2.2.2.2.2.2.2.2.2.2.1
        have d9 : b9 = true := by first | exact ha | exact ha.1 | exact ha.2 | exact ha.2.1 | exact ha.2.2 | exact ha.2.2.1 | exact ha.2.2.2 | exact ha.2.2.2.1 | exact ha.2.2.2.2 | exact ha.2.2.2.2.1 | exact ha.2.2.2.2.2 | exact ha.2.2.2.2.2.1 | exact ha.2.2.2.2.2.2 | exact ha.2.2.2.2.2.2.1 | exact ha.2.2.2.2.2.2.2 | exact ha.2.2.2.2.2.2.2.1 | exact ha.2.2.2.2.2.2.2.2 | exact ha.2.2.2.2.2.2.2.2.1 | exact ha.2.2.2.2.2.2.2.2.2 | exact ha.2.2.2.2.2.2.2.2.2.1 | exact ha.2.2.2.2.2.2.2.2.2.2 | exact ha.2.2.2.2.2.2.2.2.2.2.1
        have d18 : b18 = true := by first | exact ha | exact ha.1 | exact ha.2 | exact ha.2.1 | exact ha.2.2 | exact ha.2.2.1 | exact ha.2.2.2 | exact ha.2.2.2.1 | exact ha.2.2.2.2 | exact ha.2.2.2.2.1 | exact ha.2.2.2.2.2 | exact ha.2.2.2.2.2.1 | exact ha.2.2.2.2.2.2 | exact ha.2.2.2.2.2.2.1 | exact ha.2.2.2.2.2.2.2 | exact ha.2.2.2.2.2.2.2.1 | exact ha.2.2.2.2.2.2.2.2 | exact ha.2.2.2.2.2.2.2.2.1 | exact ha.2.2.2.2.2.2.2.2.2 | exact ha.2.2.2.2.2.2.2.2.2.1 | exact ha.2.2.2.2.2.2.2.2.2.2 | exact ha.2.2.2.2.2.2.2.2.2.2.1
        obtain rfl := q0 d0
        obtain rfl := q1 d1
        obtain rfl := q2 d2
        obtain rfl := q5 d5
        have U0 : BV wr (.slice A1 n1 c1) := ⟨_, _, _, _, rfl, E11.out.call HB.out⟩
        have U1 : BV wr (.slice (some ⟨g5, 0, none⟩) n5 c5) := ⟨_, _, _, _, rfl, P11.out.call HB.out⟩
        have U2 : BV wr (.slice (some ⟨g, 0, none⟩) n5 c9) := ⟨_, _, _, _, rfl, M11.out.call HB.out⟩
        have U5 : BV wr (.slice (some ⟨g5, 0, none⟩) j c5) := ⟨_, _, _, _, rfl, K11.out.call HB.out⟩
        obtain ⟨A_4, n_4, c_4, z_4, rfl, h_4⟩ := q4 d4
        obtain ⟨A_7, n_7, c_7, z_7, rfl, h_7⟩ := q7 d7
        obtain ⟨A_9, n_9, c_9, z_9, rfl, h_9⟩ := q9 d9
        obtain ⟨A_18, n_18, c_18, z_18, rfl, h_18⟩ := q18 d18
        have U4 : BV wr (.slice A_4 n_4 c_4) := ⟨_, _, _, _, rfl, h_4⟩
        have U7 : BV wr (.slice A_7 n_7 c_7) := ⟨_, _, _, _, rfl, h_7⟩
        have U9 : BV wr (.slice A_9 n_9 c_9) := ⟨_, _, _, _, rfl, h_9⟩
        have U18 : BV wr (.slice A_18 n_18 c_18) := ⟨_, _, _, _, rfl, h_18⟩
        clear ha hf ho hlt'
        refine wpOp_plain rfl rfl ?_
        go_simp
        refine hK _ _ ⟨b0, b1, b2, b3, b4, b5, b6, b7, b8, b9, b10, b11, b12, b13, b14, b15, b16, b17, b18, true, b20, b21, _, _, _, _, _, _, _, _, _, _, _, _, _, _, _, _, _, _, _, _, _, _, rfl, rfl, below_call HB.out (below1 wr _), q0, q1, q2, q3, (fun e => (q4 e).call (below1 wr _)), q5, q6, (fun e => (q7 e).call (below1 wr _)), q8, (fun e => (q9 e).call (below1 wr _)), q10, q11, q12, q13, q14, q15, (fun e => (q16 e).call (below1 wr _)), (fun e => (q17 e).call (below1 wr _)), (fun e => (q18 e).call (below1 wr _)), (fun _ => ⟨wr.heap.size, _, _, _, _, _, _, _, _, rfl, Row.new wr 22 [_, _, _, _, _, _, _, _], U0.call (below1 wr _), U1.call (below1 wr _), U2.call (below1 wr _), U4.call (below1 wr _), U5.call (below1 wr _), U7.call (below1 wr _), U9.call (below1 wr _), U18.call (below1 wr _)⟩), q20, q21⟩
      · obtain rfl := Option.some.inj ho
        simp [Region.binds] at ha
        have d19 : b19 = true := by first | exact ha | exact ha.1 | exact ha.2 | exact ha.2.1 | exact ha.2.2 | exact ha.2.2.1 | exact ha.2.2.2 | exact ha.2.2.2.1 | exact ha.2.2.2.2 | exact ha.2.2.2.2.1 | exact ha.2.2.2.2.2 | exact ha.2.2.2.2.2.1 | exact ha.2.2.2.2.2.2 | exact ha.2.2.2.2.2.2.1 | exact ha.2.2.2.2.2.2.2 | exact ha.2.2.2.2.2.2.2.1 | exact ha.2.2.2.2.2.2.2.2 | exact ha.2.2.2.2.2.2.2.2.1 | exact ha.2.2.2.2.2.2.2.2.2 | exact ha.2.2.2.2.2.2.2.2.2.1 | exact ha.2.2.2.2.2.2.2.2.2.2 | exact ha.2.2.2.2.2.2.2.2.2.2.1
        obtain ⟨Z, u0, u1, u2, u3, u4, u5, u6, u7, rfl, RZ, HU⟩ := q19 d19
        have q19 : b19 = true → Eight wr (.slice (some ⟨Z, 0, none⟩) 8 8) := fun _ => ⟨Z, u0, u1, u2, u3, u4, u5, u6, u7, rfl, RZ, HU⟩
        clear ha hf ho hlt'
        refine wpOp_plain rfl rfl ?_
        go_simp
        refine hK _ _ ⟨b0, b1, b2, b3, b4, b5, b6, b7, b8, b9, b10, b11, b12, b13, b14, b15, b16, b17, b18, b19, true, b21, _, _, _, _, _, _, _, _, _, _, _, _, _, _, _, _, _, _, _, _, _, _, rfl, rfl, HB.out, q0, q1, q2, q3, q4, q5, q6, q7, q8, q9, q10, q11, q12, q13, q14, q15, q16, q17, q18, q19, (fun _ => rfl), q21⟩
      · obtain rfl := Option.some.inj ho
        simp [Region.binds] at ha
        clear ha hf ho hlt'
        refine wpOp_plain rfl rfl ?_
        go_simp
        refine hK _ _ ⟨b0, b1, b2, b3, b4, b5, b6, b7, b8, b9, b10, b11, b12, b13, b14, b15, b16, b17, b18, b19, b20, true, _, _, _, _, _, _, _, _, _, _, _, _, _, _, _, _, _, _, _, _, _, _, rfl, rfl, HB.out, q0, q1, q2, q3, q4, q5, q6, q7, q8, q9, q10, q11, q12, q13, q14, q15, q16, q17, q18, q19, q20, (fun _ => rfl)⟩
    · intro l a wr hI hr
      refine hI.elim fun b0 b1 b2 b3 b4 b5 b6 b7 b8 b9 b10 b11 b12 b13 b14 b15 b16 b17 b18 b19 b20 b21 x65 x66 x67 x68 x69 x70 x71 x72 x73 x74 x75 x76 x77 x78 x79 x80 x81 x82 x83 x84 x85 x86 e1 e2 hb q0 q1 q2 q3 q4 q5 q6 q7 q8 q9 q10 q11 q12 q13 q14 q15 q16 q17 q18 q19 q20 q21 => ?_
      clear hI
      subst e1 e2
      have t0 : b0 = true := by
        cases hb' : b0 with
        | true => rfl
        | false => exact (ready_no hr (i := 0) rfl hb' (by simp [Region.binds])).elim
      have t1 : b1 = true := by
        cases hb' : b1 with
        | true => rfl
        | false => exact (ready_no hr (i := 1) rfl hb' (by simp [Region.binds, t0])).elim
      have t2 : b2 = true := by
        cases hb' : b2 with
        | true => rfl
        | false => exact (ready_no hr (i := 2) rfl hb' (by simp [Region.binds, t0, t1])).elim
      have t3 : b3 = true := by
        cases hb' : b3 with
        | true => rfl
        | false => exact (ready_no hr (i := 3) rfl hb' (by simp [Region.binds, t0, t1, t2])).elim
      have t4 : b4 = true := by
        cases hb' : b4 with
        | true => rfl
        | false => exact (ready_no hr (i := 4) rfl hb' (by simp [Region.binds, t0, t1, t2, t3])).elim
      have t5 : b5 = true := by
        cases hb' : b5 with
        | true => rfl
        | false => exact (ready_no hr (i := 5) rfl hb' (by simp [Region.binds, t0, t1, t2, t3, t4])).elim
      have t6 : b6 = true := by
        cases hb' : b6 with
        | true => rfl
        | false => exact (ready_no hr (i := 6) rfl hb' (by simp [Region.binds, t0, t1, t2, t3, t4, t5])).elim
      have t7 : b7 = true := by
        cases hb' : b7 with
        | true => rfl
        | false => exact (ready_no hr (i := 7) rfl hb' (by simp [Region.binds, t0, t1, t2, t3, t4, t5, t6])).elim
      have t8 : b8 = true := by
        cases hb' : b8 with
        | true => rfl
        | false => exact (ready_no hr (i := 8) rfl hb' (by simp [Region.binds, t0, t1, t2, t3, t4, t5, t6, t7])).elim
      have t9 : b9 = true := by
        cases hb' : b9 with
        | true => rfl
        | false => exact (ready_no hr (i := 9) rfl hb' (by simp [Region.binds, t0, t1, t2, t3, t4, t5, t6, t7, t8])).elim
      have t10 : b10 = true := by
        cases hb' : b10 with
        | true => rfl
        | false => exact (ready_no hr (i := 10) rfl hb' (by simp [Region.binds, t0, t1, t2, t3, t4, t5, t6, t7, t8, t9])).elim
      have t11 : b11 = true := by
        cases hb' : b11 with
        | true => rfl
        | false => exact (ready_no hr (i := 11) rfl hb' (by simp [Region.binds, t0, t1, t2, t3, t4, t5, t6, t7, t8, t9, t10])).elim
      have t12 : b12 = true := by
        cases hb' : b12 with
        | true => rfl
        | false => exact (ready_no hr (i := 12) rfl hb' (by simp [Region.binds, t0, t1, t2, t3, t4, t5, t6, t7, t8, t9, t10, t11])).elim
      have t13 : b13 = true := by
        cases hb' : b13 with
        | true => rfl
        | false => exact (ready_no hr (i := 13) rfl hb' (by simp [Region.binds, t0, t1, t2, t3, t4, t5, t6, t7, t8, t9, t10, t11, t12])).elim
      have t14 : b14 = true := by
        cases hb' : b14 with
        | true => rfl
        | false => exact (ready_no hr (i := 14) rfl hb' (by simp [Region.binds, t0, t1, t2, t3, t4, t5, t6, t7, t8, t9, t10, t11, t12, t13])).elim
      have t15 : b15 = true := by
        cases hb' : b15 with
        | true => rfl
        | false => exact (ready_no hr (i := 15) rfl hb' (by simp [Region.binds, t0, t1, t2, t3, t4, t5, t6, t7, t8, t9, t10, t11, t12, t13, t14])).elim
      have t16 : b16 = true := by
        cases hb' : b16 with
        | true => rfl
        | false => exact (ready_no hr (i := 16) rfl hb' (by simp [Region.binds, t0, t1, t2, t3, t4, t5, t6, t7, t8, t9, t10, t11, t12, t13, t14, t15])).elim
      have t17 : b17 = true := by
        cases hb' : b17 with
        | true => rfl
        | false => exact (ready_no hr (i := 17) rfl hb' (by simp [Region.binds, t0, t1, t2, t3, t4, t5, t6, t7, t8, t9, t10, t11, t12, t13, t14, t15, t16])).elim
      have t18 : b18 = true := by
        cases hb' : b18 with
        | true => rfl
        | false => exact (ready_no hr (i := 18) rfl hb' (by simp [Region.binds, t0, t1, t2, t3, t4, t5, t6, t7, t8, t9, t10, t11, t12, t13, t14, t15, t16, t17])).elim
      have t19 : b19 = true := by
        cases hb' : b19 with
        | true => rfl
        | false => exact (ready_no hr (i := 19) rfl hb' (by simp [Region.binds, t0, t1, t2, t3, t4, t5, t6, t7, t8, t9, t10, t11, t12, t13, t14, t15, t16, t17, t18])).elim
      have t20 : b20 = true := by
        cases hb' : b20 with
        | true => rfl
        | false => exact (ready_no hr (i := 20) rfl hb' (by simp [Region.binds, t0, t1, t2, t3, t4, t5, t6, t7, t8, t9, t10, t11, t12, t13, t14, t15, t16, t17, t18, t19])).elim
      have t21 : b21 = true := by
        cases hb' : b21 with
        | true => rfl
        | false => exact (ready_no hr (i := 21) rfl hb' (by simp [Region.binds, t0, t1, t2, t3, t4, t5, t6, t7, t8, t9, t10, t11, t12, t13, t14, t15, t16, t17, t18, t19, t20])).elim
      obtain ⟨Z, u0, u1, u2, u3, u4, u5, u6, u7, rfl, RZ, U0, U1, U2, U3, U4, U5, U6, U7⟩ := q19 t19
      obtain rfl := q20 t20
      obtain rfl := q21 t21
      have BL := hide (below_call B11.out hb)
      clear q0 q1 q2 q3 q4 q5 q6 q7 q8 q9 q10 q11 q12 q13 q14 q15 q16 q17 q18 t0 t1 t2 t3 t4 t5 t6 t7 t8 t9 t10 t11 t12 t13 t14 t15 t16 t17 t18 t19 t20 t21
      have SLS := hide (fun (k : Nat) (hk : k < 8) => (show ∃ (A : Option Addr) (n c : Nat) (ys : List Int), wr.cell? ⟨Z, k, none⟩ = some (.slice A n c) ∧ BsAt wr wr.heap.size A n c ys from by
        rcases (show k = 0 ∨ k = 1 ∨ k = 2 ∨ k = 3 ∨ k = 4 ∨ k = 5 ∨ k = 6 ∨ k = 7 by omega) with rfl | rfl | rfl | rfl | rfl | rfl | rfl | rfl
        · obtain ⟨A, n, c, zs, rfl, h⟩ := U0; exact ⟨_, _, _, _, RZ.cell (k := 0) rfl, h⟩
        · obtain ⟨A, n, c, zs, rfl, h⟩ := U1; exact ⟨_, _, _, _, RZ.cell (k := 1) rfl, h⟩
        · obtain ⟨A, n, c, zs, rfl, h⟩ := U2; exact ⟨_, _, _, _, RZ.cell (k := 2) rfl, h⟩
        · obtain ⟨A, n, c, zs, rfl, h⟩ := U3; exact ⟨_, _, _, _, RZ.cell (k := 3) rfl, h⟩
        · obtain ⟨A, n, c, zs, rfl, h⟩ := U4; exact ⟨_, _, _, _, RZ.cell (k := 4) rfl, h⟩
        · obtain ⟨A, n, c, zs, rfl, h⟩ := U5; exact ⟨_, _, _, _, RZ.cell (k := 5) rfl, h⟩
        · obtain ⟨A, n, c, zs, rfl, h⟩ := U6; exact ⟨_, _, _, _, RZ.cell (k := 6) rfl, h⟩
        · obtain ⟨A, n, c, zs, rfl, h⟩ := U7; exact ⟨_, _, _, _, RZ.cell (k := 7) rfl, h⟩))
      obtain ⟨wl, hwl⟩ : ∃ wl, wl = wr := ⟨_, rfl⟩
      subst hwl
      clear RZ U0 U1 U2 U3 U4 U5 U6 U7 hb hr
      go_wp2_with fail
      go_loopw [15, 16, 17, 18, 19, 20, 21, 22, 23, 86] (fun _ _ _ _ _ _ _ _ _ iv ws => ∃ i : Nat, i ≤ 8 ∧ iv = .int .i64 (i : Int) ∧ Hid (Below wl.heap.size wl ws)) (fun _ _ _ _ _ _ _ _ _ iv _ => 8 - (intOf iv).toNat)
      case atStart => exact ⟨0, by omega, rfl, hide (Below.refl _ _)⟩
      case round =>
        obtain ⟨i, hi8, rfl, hbr⟩ := hrel
        by_cases hlt : i < 8
        · have hiz : (0 : Int) ≤ (i : Int) := by omega
          have hiz2 : (i : Int) < 8 := by omega
          obtain ⟨A, n, c, ys, hcell, hbs⟩ := SLS.out i hlt
          have z0 := keep_cellB hbr.out hcell
          have S0 := hide (hbs.call hbr.out)
          clear hcell hbs
          obtain ⟨x1, hx1⟩ : ∃ x, (parseR ys).1 = x := ⟨_, rfl⟩
          obtain ⟨F1, hF1⟩ : ∃ F, parseF ys = F := ⟨_, rfl⟩
          obtain ⟨x2, hx2⟩ : ∃ x, decE ys = x := ⟨_, rfl⟩
          obtain ⟨F2, hF2⟩ : ∃ F, decF ys = F := ⟨_, rfl⟩
          have HX1 := hide hx1
          have HF1 := hide hF1
          have HX2 := hide hx2
          have HF2 := hide hF2
          have hxx1 : (x1 != x1) = false := by simp
          have hxx2 : (x2 != x2) = false := by simp
          clear hx1 hF1 hx2 hF2
          have cD1 := dparse_any A n c ys wr (hide S0.out.len) S0.out.nc S0.out.cm (hide S0.out.see) (hide S0.out.byt)
          rw [HX1.out, HF1.out] at cD1
          go_wp2_with fail
          refine cD1.mono ?_
          rintro e wd1 ⟨Ap1, np1, cp1, hsp1, rfl, hp1, hbp1⟩
          obtain ⟨Q1, hQ1⟩ : ∃ Q, wd1.heap.size = Q := ⟨_, rfl⟩
          obtain ⟨W1a, hW1⟩ : ∃ W, wd1.alloc (.cells #[.slice Ap1 np1 cp1] 28) = W := ⟨_, rfl⟩
          have HWW1 := hide hW1
          have HQQ1 := hide hQ1
          have bb1 : Below wr.heap.size wr W1a := by rw [← hW1]; exact hbp1.alloc hbp1.size _
          have BB1 := hide (hbr.out.trans (bb1.mono hbr.out.size))
          have R1 := hide (show Row W1a Q1 28 [.slice Ap1 np1 cp1] by rw [← hW1, ← hQ1]; exact Row.new wd1 28 [.slice Ap1 np1 cp1])
          have G1 := hide (show PgAt W1a wr.heap.size W1a.heap.size Ap1 np1 cp1 hsp1 F1 by rw [← hW1]; exact hp1.alloc _)
          have S1 := hide (S0.out.call bb1)
          clear hp1 hbp1 hQ1 hW1 cD1 bb1 z0
          go_upto_region 12 with (fail)
          rw [HWW1.out, HQQ1.out]
          clear HWW1 HQQ1
          have cD2 := rparse_any A n c ys W1a (hide S1.out.len) S1.out.nc S1.out.cm (hide S1.out.see) (hide S1.out.byt)
          rw [HX1.out, HF1.out] at cD2
          go_wp2_with fail
          refine cD2.mono ?_
          rintro e wd2 ⟨Ap2, np2, cp2, hsp2, rfl, hp2, hbp2⟩
          obtain ⟨Q2, hQ2⟩ : ∃ Q, wd2.heap.size = Q := ⟨_, rfl⟩
          obtain ⟨W2a, hW2⟩ : ∃ W, wd2.alloc (.cells #[.slice Ap2 np2 cp2] 28) = W := ⟨_, rfl⟩
          have HWW2 := hide hW2
          have HQQ2 := hide hQ2
          have bb2 : Below W1a.heap.size W1a W2a := by rw [← hW2]; exact hbp2.alloc hbp2.size _
          have BB2 := hide (BB1.out.trans (bb2.mono BB1.out.size))
          have R2 := hide (show Row W2a Q2 28 [.slice Ap2 np2 cp2] by rw [← hW2, ← hQ2]; exact Row.new wd2 28 [.slice Ap2 np2 cp2])
          have G2 := hide (show PgAt W2a W1a.heap.size W2a.heap.size Ap2 np2 cp2 hsp2 F1 by rw [← hW2]; exact hp2.alloc _)
          have S2 := hide (S1.out.call bb2)
          have R1_2 := hide (R1.out.call bb2)
          have G1_2 := hide (G1.out.call bb2)
          clear hp2 hbp2 hQ2 hW2 cD2 bb2
          go_upto_region 13 with (fail)
          rw [HWW2.out, HQQ2.out]
          clear HWW2 HQQ2
          have cD3 := ddecode_any A n c ys W2a (hide S2.out.len) S2.out.nc S2.out.cm (hide S2.out.see) (hide S2.out.byt) (hide (hS.out.below (BL.out.trans (BB2.out.mono BL.out.size))))
          rw [HX2.out, HF2.out] at cD3
          go_wp2_with fail
          refine cD3.mono ?_
          rintro e wd3 ⟨Ap3, np3, cp3, hsp3, rfl, hp3, hbp3⟩
          obtain ⟨Q3, hQ3⟩ : ∃ Q, wd3.heap.size = Q := ⟨_, rfl⟩
          obtain ⟨W3a, hW3⟩ : ∃ W, wd3.alloc (.cells #[.slice Ap3 np3 cp3] 28) = W := ⟨_, rfl⟩
          have HWW3 := hide hW3
          have HQQ3 := hide hQ3
          have bb3 : Below W2a.heap.size W2a W3a := by rw [← hW3]; exact hbp3.alloc hbp3.size _
          have BB3 := hide (BB2.out.trans (bb3.mono BB2.out.size))
          have R3 := hide (show Row W3a Q3 28 [.slice Ap3 np3 cp3] by rw [← hW3, ← hQ3]; exact Row.new wd3 28 [.slice Ap3 np3 cp3])
          have G3 := hide (show PgAt W3a W2a.heap.size W3a.heap.size Ap3 np3 cp3 hsp3 F2 by rw [← hW3]; exact hp3.alloc _)
          have S3 := hide (S2.out.call bb3)
          have R1_2_3 := hide (R1_2.out.call bb3)
          have G1_2_3 := hide (G1_2.out.call bb3)
          have R2_3 := hide (R2.out.call bb3)
          have G2_3 := hide (G2.out.call bb3)
          clear hp3 hbp3 hQ3 hW3 cD3 bb3
          go_upto_region 14 with (fail)
          rw [HWW3.out, HQQ3.out]
          clear HWW3 HQQ3
          have cD4 := rdecode_any A n c ys W3a (hide S3.out.len) S3.out.nc S3.out.cm (hide S3.out.see) (hide S3.out.byt)
          rw [HX2.out, HF2.out] at cD4
          go_wp2_with fail
          refine cD4.mono ?_
          rintro e wd4 ⟨Ap4, np4, cp4, hsp4, rfl, hp4, hbp4⟩
          obtain ⟨Q4, hQ4⟩ : ∃ Q, wd4.heap.size = Q := ⟨_, rfl⟩
          obtain ⟨W4a, hW4⟩ : ∃ W, wd4.alloc (.cells #[.slice Ap4 np4 cp4] 28) = W := ⟨_, rfl⟩
          have HWW4 := hide hW4
          have HQQ4 := hide hQ4
          have bb4 : Below W3a.heap.size W3a W4a := by rw [← hW4]; exact hbp4.alloc hbp4.size _
          have BB4 := hide (BB3.out.trans (bb4.mono BB3.out.size))
          have R4 := hide (show Row W4a Q4 28 [.slice Ap4 np4 cp4] by rw [← hW4, ← hQ4]; exact Row.new wd4 28 [.slice Ap4 np4 cp4])
          have G4 := hide (show PgAt W4a W3a.heap.size W4a.heap.size Ap4 np4 cp4 hsp4 F2 by rw [← hW4]; exact hp4.alloc _)
          have S4 := hide (S3.out.call bb4)
          have R1_2_3_4 := hide (R1_2_3.out.call bb4)
          have G1_2_3_4 := hide (G1_2_3.out.call bb4)
          have R2_3_4 := hide (R2_3.out.call bb4)
          have G2_3_4 := hide (G2_3.out.call bb4)
          have R3_4 := hide (R3.out.call bb4)
          have G3_4 := hide (G3.out.call bb4)
          clear hp4 hbp4 hQ4 hW4 cD4 bb4
          go_upto_region 15 with (fail)
          rw [HWW4.out, HQQ4.out]
          clear HWW4 HQQ4
          have y1 := R1_2_3_4.out.cell (k := 0) rfl
          have y2 := R2_3_4.out.cell (k := 0) rfl
          have cS := rsame_any Ap1 np1 cp1 hsp1 F1 Ap2 np2 cp2 hsp2 F1 _ _ _ _ W4a G1_2_3_4 G2_3_4 (Nat.le_refl _) (Nat.le_refl _)
          rw [show decide (F1 = F1) = true from decide_eq_true rfl] at cS
          go_wp2_with fail
          refine cS.mono ?_
          rintro e w5 ⟨rfl, hb5⟩
          have y3 := (R3_4.out.call hb5).cell (k := 0) rfl
          have y4 := (R4.out.call hb5).cell (k := 0) rfl
          have BB5 := hide (BB4.out.trans (hb5.mono BB4.out.size))
          have cS' := rsame_any Ap3 np3 cp3 hsp3 F2 Ap4 np4 cp4 hsp4 F2 _ _ _ _ w5 (hide (G3_4.out.call hb5)) (hide (G4.out.call hb5)) (Nat.le_refl _) (Nat.le_refl _)
          rw [show decide (F2 = F2) = true from decide_eq_true rfl] at cS'
          clear hb5 cS y1 y2
          go_wp2_with fail
          refine cS'.mono ?_
          rintro e w6 ⟨rfl, hb6⟩
          have BB6 := hide (BB5.out.trans (hb6.mono BB5.out.size))
          clear hb6 cS' y3 y4
          go_wp2_with fail
          go_roundw
          case rel => exact ⟨i + 1, by omega, by go_num, BB6⟩
          case measure => simp [intOf]; omega
        · obtain rfl : i = 8 := by omega
          have hlz : ¬ (((8 : Nat) : Int) < 8) := by omega
          have FIN := hide (BL.out.trans (hbr.out.mono BL.out.size))
          clear hlt
          go_wp2_with fail
          go_ret
          exact ⟨rfl, FIN.out⟩
end Go.Proofs.YtgcjckbndkddmaaDoor
end
