import Derived.Test.YtidlnecgfgnllaaDoorMIfo
set_option linter.unusedVariables false
set_option linter.unusedSimpArgs false
section
/-
  The contract of spillframedraw's body: some instructions that are right whatever code stands around them. Conditions: the receiver is a list of choices; the slots and the parameters' numbers lie behind it.
-/
namespace Go.Proofs.YtidlnecgfgnllaaDoor
open Go.RowKit

def BodyPost (N i : Nat) (P : Int) (l : List (Int × Int)) (g : Nat) (w : World) (e : Ending) (w' : World) : Prop :=
  ∃ (A : Option Addr) (c : Nat) (xs : List Ins), e = .returned (.slice A xs.length c) ∧ (A = none → c = 0) ∧ xs.length ≤ c ∧ (1 ≤ xs.length ∧ xs.length ≤ 4) ∧ Far w.heap.size A ∧ Sees w' w'.heap.size A (icells xs) ∧ (∀ x ∈ xs, goodI N i P l x) ∧ Codes w' g ∧ w.grownBy w' (some g)
theorem body_one {N i : Nat} {P : Int} {l : List (Int × Int)} {g : Nat} {w w2 : World} {o a b c m : Int} (hx : goodI N i P l ⟨o, a, b, c, m⟩) (hC : Codes w2 g) (hG : w.grownBy w2 (some g)) :
    BodyPost N i P l g w (.returned (.slice (some ⟨w2.heap.size, 0, none⟩) 1 1)) (w2.alloc (.cells #[.int .i64 o, .int .i64 a, .int .i64 b, .int .i64 c, .int .u64 m] 54)) :=
  ⟨some ⟨w2.heap.size, 0, none⟩, 1, [⟨o, a, b, c, m⟩], rfl, (fun h => by cases h), Nat.le_refl _, ⟨Nat.le_refl _, by simp⟩, (fun d hd => by injection hd with hd; subst hd; exact hG.size),
    (fun k u hu => ⟨w2.heap.size, 0, rfl, by simp, by rw [Nat.zero_add]; exact (Row.new w2 54 (icell ⟨o, a, b, c, m⟩)).cell (by simpa [icells] using hu)⟩), (fun x h => by simp at h; subst h; exact hx), hC.alloc _, hG.trans (World.grownBy_alloc _ _ _)⟩
theorem Tryd.info54 : (Tryd.prog.info? 54).map (fun i => (i.zero, i.size, i.bytes)) = some (some (.agg #[.int .i64 0, .int .i64 0, .int .i64 0, .int .i64 0, .int .u64 0]), 5, 40) := by kernel_rfl
theorem five_new (w : World) (x : Ins) (t : TypeId) : ∀ (j : Nat) (u : Value), [Value.int .i64 x.op, .int .i64 x.a, .int .i64 x.b, .int .i64 x.c, .int .u64 x.imm][j]? = some u → (w.alloc (.cells #[.int .i64 x.op, .int .i64 x.a, .int .i64 x.b, .int .i64 x.c, .int .u64 x.imm] t)).cell? ((⟨w.heap.size, 0, none⟩ : Addr).add j) = some u := by
  intro j u hu
  rw [WideShapes.add_plain, Nat.zero_add]
  exact (Row.new w t (icell x)).cell hu
theorem five_cells (x : Ins) : ∀ u ∈ [Value.int .i64 x.op, .int .i64 x.a, .int .i64 x.b, .int .i64 x.c, .int .u64 x.imm], u.oneCell' = true := fun u hu => icells_oneCell [x] u hu

/-- What the loop of arguments keeps. -/
def ArgI (N i : Nat) (P : Int) (l : List (Int × Int)) (g a : Nat) (w w0 : World) (v : Value) (wr : World) : Prop :=
  ∃ xs : List Ins, xs.length ≤ a ∧ (∀ x ∈ xs, goodI N i P l x) ∧ wr.ownsRow w0.heap.size 54 5 v xs.length (icells xs) ∧ Codes wr g ∧ w.grownBy wr (some g) ∧ w0.heap.size ≤ wr.heap.size
theorem ArgI.skip {N i : Nat} {P : Int} {l : List (Int × Int)} {g a : Nat} {w w0 wr w2 : World} {v : Value} (h : ArgI N i P l g a w w0 v wr) (hg : g < w0.heap.size) (hC : Codes w2 g) (hG : wr.grownBy w2 (some g)) : ArgI N i P l g (a + 1) w w0 v w2 := by
  obtain ⟨xs, h1, h2, h3, h4, h5, h6⟩ := h
  refine ⟨xs, by omega, h2, h3.kept hG ?_, hC, h5.trans hG, Nat.le_trans h6 hG.size⟩
  cases e : v.ownBlock with
  | none => exact .inl rfl
  | some k => exact .inr fun h => by have := (h3.lt k e).1; injection h with h; omega
theorem own_stay {wr w2 : World} {base : Nat} {t : TypeId} {size n : Nat} {v : Value} {xs : List Value} {g : Nat} (h : wr.ownsRow base t size v n xs) (hg : g < base) (hG : wr.grownBy w2 (some g)) : w2.ownsRow base t size v n xs := by
  refine h.kept hG ?_
  cases e : v.ownBlock with
  | none => exact .inl rfl
  | some k => exact .inr fun h' => by have := (h.lt k e).1; injection h' with h'; omega
/-- One more instruction of the call's own. -/
theorem ArgI.add {N i : Nat} {P : Int} {l : List (Int × Int)} {g a : Nat} {w w0 w2 w3 : World} {v v' : Value} {xs : List Ins} {x : Ins} {t : TypeId} (ha : xs.length ≤ a) (hx : ∀ x ∈ xs, goodI N i P l x) (hn : goodI N i P l x) (hg : g < w0.heap.size) (hw : w.heap.size ≤ w0.heap.size)
    (ho : w2.ownsRow w0.heap.size 54 5 v xs.length (icells xs)) (hC : Codes w2 g) (hG : w.grownBy w2 (some g)) (hs : w0.heap.size ≤ w2.heap.size) (ho3 : w3.ownsRow w0.heap.size 54 5 v' (xs.length + 1) (icells xs ++ [.int .i64 x.op, .int .i64 x.a, .int .i64 x.b, .int .i64 x.c, .int .u64 x.imm])) (hg3 : (w2.alloc (.cells #[.int .i64 x.op, .int .i64 x.a, .int .i64 x.b, .int .i64 x.c, .int .u64 x.imm] t)).grownBy w3 v.ownBlock) :
    ArgI N i P l g (a + 1) w w0 v' w3 := by
  refine ⟨xs ++ [x], by simp; omega, (fun y hy => ?_), by rw [icells_append, icells_one]; simpa using ho3, (hC.alloc _).kept hg3 (fun j hj => ?_), (hG.trans (World.grownBy_alloc _ _ _)).andThen hg3 (fun j hj => .inl ?_), ?_⟩
  · rcases List.mem_append.1 hy with h | h
    · exact hx y h
    · simp at h; subst h; exact hn
  · have := (ho.lt j hj).1; omega
  · have := (ho.lt j hj).1; omega
  · have := hg3.size; simp at this; omega

set_option maxRecDepth 100000 in
set_option maxHeartbeats 20000000 in
theorem body_any (g : Nat) (P : Int) (A1 : Option Addr) (n1 c1 : Nat) (A2 : Option Addr) (n2 c2 : Nat) (l : List (Int × Int)) (i : Nat) (Ap : Option Addr) (np cp : Nat) (ps : List Int) (B : Nat) (w : World) (h : Hid (Codes w g)) (hl : Hid (l.length = n1)) (hn1 : n1 ≤ 1000) (hsee : Hid (Sees w B A1 (pcells l))) (hf1 : Hid (Far (g + 1) A1))
    (hpl : Hid (ps.length = np)) (hnp : np ≤ 80) (hps : Hid (Sees w B Ap (cellsJ ps))) (hfp : Hid (Far (g + 1) Ap)) (hpb : Hid (∀ p ∈ ps, 0 ≤ p ∧ p ≤ 3)) (hin : i < np) (hP0 : 0 ≤ P) (hP1 : P ≤ 8) (hB : B ≤ w.heap.size) :
    Calls Tryd.prog 61 #[.pointer (some ⟨g, 0, none⟩), fv P A1 n1 c1 A2 n2 c2, .int .i64 (i : Int), .slice Ap np cp] w (BodyPost np i P l g w) := by
  obtain ⟨i0, hi, hz0, hz1, hz2⟩ := info_parts Tryd.info54
  have c := next_any g
  have hgl := h.out.lt
  obtain ⟨W, hW⟩ : ∃ W, w.alloc (.cells #[.int .i64 P, .slice A1 n1 c1, .slice A2 n2 c2] 30) = W := ⟨_, rfl⟩
  have HW := hide hW
  have hr : Row W w.heap.size 30 [.int .i64 P, .slice A1 n1 c1, .slice A2 n2 c2] := hW ▸ Row.new w _ [.int .i64 P, .slice A1 n1 c1, .slice A2 n2 c2]
  have hbW : Below w.heap.size w W := hW ▸ below1 w _
  have hCW := h.out.below hbW
  have hGW : w.grownBy W (some g) := grown_below hbW _
  have HR := hide hr
  have HCW := hide hCW
  have HGW := hide hGW
  clear hW hr hbW hCW hGW
  go_enter Tryd.func61, Tryd.ntmps61
  go_wp2_with fail
  rw [HW.out]
  clear HW
  refine (c 4 _ HCW (by omega) (by omega)).mono ?_
  rintro e w1 ⟨r, rfl, r0, r1, hC1, hG1, hz1'⟩
  have HC1 := hide hC1
  have HG1 := hide (HGW.out.trans hG1)
  have HR1 := hide (HR.out.grown hG1 (fun e => by injection e with e; omega))
  have y1 := HR1.out.cell (k := 1) rfl
  clear hC1 hG1 hz1' HCW HGW HR
  go_wp2_with fail
  refine (c 20 _ HC1 (by omega) (by omega)).mono ?_
  rintro e w2 ⟨k, rfl, k0, k1, hC2, hG2, hz2'⟩
  have HC2 := hide hC2
  have HG2 := hide (HG1.out.trans hG2)
  have HR2 := hide (HR1.out.grown hG2 (fun e => by injection e with e; omega))
  have hRL := HR2.out.lt
  have hs2 : w.heap.size ≤ w2.heap.size := HG2.out.size
  clear hC2 hG2 hz2' HC1 HG1 HR1 y1
  have r8 : r < 8 := by omega
  have hnz : (0 : Int) ≤ (n1 : Int) := by omega
  by_cases hk9 : k < 9
  · by_cases hn0 : n1 = 0
    · subst hn0
      rcases (show k < 3 ∨ (3 ≤ k ∧ k < 6) ∨ (6 ≤ k ∧ k < 9) by omega) with hk | ⟨hka, hkb⟩ | ⟨hka, hkb⟩
      all_goals
        go_wp2_with fail
        refine (cword_any g _ HC2).mono ?_
        rintro e w3 ⟨m, rfl, hm, hC3, hG3, hzz3⟩
        have HC3 := hide hC3
        have HG3 := hide (HG2.out.trans hG3)
        have HMW := hide hm
        clear hC3 hG3 hzz3 hm
        go_wp2_with fail
        go_ret
        exact body_one (good_const r0 r8 HMW.out) HC3.out HG3.out
    · have hnp0 : (0 : Int) < (n1 : Int) := by omega
      rcases (show k < 3 ∨ (3 ≤ k ∧ k < 6) ∨ (6 ≤ k ∧ k < 9) by omega) with hk | ⟨hka, hkb⟩ | ⟨hka, hkb⟩
      · go_wp2_with fail
        refine (c (n1 : Int) _ HC2 (by omega) (by omega)).mono ?_
        rintro e w3 ⟨s, rfl, s0, s1, hC3, hG3, hzz3⟩
        have HC3 := hide hC3
        have HG3 := hide (HG2.out.trans hG3)
        have HR3 := hide (HR2.out.grown hG3 (fun e => by injection e with e; omega))
        clear hC3 hG3 hzz3
        go_wp2_with fail
        go_ret
        exact body_one (good_store s0 (by have := hl.out; omega) r0 r8) HC3.out HG3.out

      · go_wp2_with fail
        refine (c (n1 : Int) _ HC2 (by omega) (by omega)).mono ?_
        rintro e w3 ⟨s, rfl, s0, s1, hC3, hG3, hzz3⟩
        have HC3 := hide hC3
        have HG3 := hide (HG2.out.trans hG3)
        have HR3 := hide (HR2.out.grown hG3 (fun e => by injection e with e; omega))
        clear hC3 hG3 hzz3
        go_wp2_with fail
        go_ret
        exact body_one (good_load s0 (by have := hl.out; omega) r0 r8) HC3.out HG3.out

      · go_wp2_with fail
        refine (c (n1 : Int) _ HC2 (by omega) (by omega)).mono ?_
        rintro e w3 ⟨s, rfl, s0, s1, hC3, hG3, hzz3⟩
        have HC3 := hide hC3
        have HG3 := hide (HG2.out.trans hG3)
        have HR3 := hide (HR2.out.grown hG3 (fun e => by injection e with e; omega))
        clear hC3 hG3 hzz3
        obtain ⟨s, rfl⟩ := Int.eq_ofNat_of_zero_le s0
        have y0 := HR3.out.cell (k := 0) rfl
        have y1 := HR3.out.cell (k := 1) rfl
        have y2 := HR3.out.cell (k := 2) rfl
        have hs3 : w.heap.size ≤ w3.heap.size := HG3.out.size
        have hl3 := hide (like_any g P A1 n1 c1 A2 n2 c2 l s B w3 HC3 hl hn1 (by omega) (hide (hsee.out.keepF hf1.out fun p h1 h2 => World.cell?_of_block (HG3.out.block p.block (by omega) (fun e => by injection e with e; omega)))) (Nat.le_trans hB hs3))
        go_wp2_with fail
        refine (hl3.out).mono ?_
        rintro e w4 ⟨t, rfl, ht, hte, hC4, hG4⟩
        have HC4 := hide hC4
        have HG4 := hide (HG3.out.trans hG4)
        have HT := hide hte
        clear hC4 hG4 hte y0 y1 y2
        go_wp2_with fail
        go_ret
        exact body_one (good_move s0 (by have := hl.out; omega) (by omega) (by omega) HT.out) HC4.out HG4.out
  · rcases (show (9 ≤ k ∧ k < 11) ∨ (11 ≤ k ∧ k < 13) ∨ (13 ≤ k ∧ k < 15) ∨ k = 15 ∨ k = 16 ∨ 17 ≤ k by omega) with ⟨hka, hkb⟩ | ⟨hka, hkb⟩ | ⟨hka, hkb⟩ | rfl | rfl | hka
    · go_wp2_with fail
      refine (cword_any g _ HC2).mono ?_
      rintro e w3 ⟨m, rfl, hm, hC3, hG3, hzz3⟩
      have HC3 := hide hC3
      have HG3 := hide (HG2.out.trans hG3)
      have HMW := hide hm
      clear hC3 hG3 hzz3 hm
      go_wp2_with fail
      go_ret
      exact body_one (good_const r0 r8 HMW.out) HC3.out HG3.out
    · go_wp2_with fail
      refine (c 10 _ HC2 (by omega) (by omega)).mono ?_
      rintro e w3 ⟨v, rfl, v0, v1, hC3, hG3, hzz3⟩
      have HC3 := hide hC3
      have HG3 := hide (HG2.out.trans hG3)
      have HR3 := hide (HR2.out.grown hG3 (fun e => by injection e with e; omega))
      clear hC3 hG3 hzz3
      go_wp2_with fail
      refine (c 4 _ HC3 (by omega) (by omega)).mono ?_
      rintro e w4 ⟨x, rfl, x0, x1, hC4, hG4, hzz4⟩
      have HC4 := hide hC4
      have HG4 := hide (HG3.out.trans hG4)
      have HR4 := hide (HR3.out.grown hG4 (fun e => by injection e with e; omega))
      clear hC4 hG4 hzz4
      go_wp2_with fail
      refine (c 8 _ HC4 (by omega) (by omega)).mono ?_
      rintro e w5 ⟨y, rfl, y0, y1, hC5, hG5, hzz5⟩
      have HC5 := hide hC5
      have HG5 := hide (HG4.out.trans hG5)
      have HR5 := hide (HR4.out.grown hG5 (fun e => by injection e with e; omega))
      clear hC5 hG5 hzz5
      go_wp2_with fail
      go_ret
      exact body_one (good_three v0 v1 r0 r8 x0 (by omega) y0 y1) HC5.out HG5.out

    · go_wp2_with fail
      go_ret
      exact body_one (good_out r0 r8) HC2.out HG2.out

    · have T0 := hide (Row.new w2 3 [.int .i64 13, .int .i64 12, .int .i64 1])
      go_wp2_with fail
      refine (c 3 _ (hide (HC2.out.alloc _)) (by omega) (by omega)).mono ?_
      rintro e w3 ⟨v, rfl, v0, v1, hC3, hG3, hzz3⟩
      have HC3 := hide hC3
      have HG3 := hide ((HG2.out.trans (World.grownBy_alloc _ _ _)).trans hG3)
      have T1 := T0.out.grown hG3 (fun e => by injection e with e; omega)
      have t0 := T1.cell (k := 0) rfl
      have t1 := T1.cell (k := 1) rfl
      have t2 := T1.cell (k := 2) rfl
      clear hC3 hG3 hzz3 T0 T1
      rcases (show v = 0 ∨ v = 1 ∨ v = 2 by omega) with rfl | rfl | rfl
      · go_wp2_with fail
        go_ret
        exact body_one (good_in r0 r8) HC3.out HG3.out
      · go_wp2_with fail
        go_ret
        exact body_one (good_high r0 r8) HC3.out HG3.out
      · go_wp2_with fail
        go_ret
        exact body_one (good_copy r0 r8) HC3.out HG3.out
    · have y0 := HR2.out.cell (k := 0) rfl
      by_cases hPp : 0 < P
      · go_wp2_with fail
        refine (c P _ HC2 (by omega) (by omega)).mono ?_
        rintro e w3 ⟨v, rfl, v0, v1, hC3, hG3, hzz3⟩
        have HC3 := hide hC3
        have HG3 := hide (HG2.out.trans hG3)
        have HR3 := hide (HR2.out.grown hG3 (fun e => by injection e with e; omega))
        clear hC3 hG3 hzz3
        go_wp2_with fail
        go_ret
        exact body_one (good_param r0 r8 v0 v1) HC3.out HG3.out

      · have hPd : decide (0 < P) = false := by simpa using hPp
        have hP00 : P = 0 := by omega
        go_wp2_with fail
        go_ret
        exact body_one (good_out r0 r8) HC2.out HG2.out
    · have b15 : (k == 15) = false := by simp; omega
      have b16 : (k == 16) = false := by simp; omega
      by_cases hlast : i + 1 < np
      · have hlz : (i : Int) + 1 < (np : Int) := by omega
        go_wp2_with fail
        refine (c ((np : Int) - (i : Int) - 1) _ HC2 (by omega) (by omega)).mono ?_
        rintro e w3 ⟨v, rfl, v0, v1, hC3, hG3, hzz3⟩
        obtain ⟨v, rfl⟩ := Int.eq_ofNat_of_zero_le v0
        have hjl : i + 1 + v < ps.length := by have := hpl.out; omega
        have keepP : ∀ wr, w.grownBy wr (some g) → Sees wr B Ap (cellsJ ps) := fun wr hG => hps.out.keepF hfp.out fun p h1 h2 => World.cell?_of_block (hG.block p.block (by omega) (fun e => by injection e with e; omega))
        have HG3 := hide (HG2.out.trans hG3)
        obtain ⟨bp, op, rfl, hbp, _⟩ := inum_at (keepP _ HG3.out) hjl
        have hpr := hpb.out _ (List.getElem_mem hjl)
        obtain ⟨p, hp⟩ : ∃ p, ps[i + 1 + v]'hjl = p := ⟨_, rfl⟩
        rw [hp] at hpr
        obtain ⟨p0, p3⟩ := hpr
        have HK := hide (fun wr (hG : w.grownBy wr (some g)) => (by
          obtain ⟨b', o', he, _, hc⟩ := inum_at (keepP _ hG) hjl
          injection he with he
          injection he with e1 e2
          subst e1 e2
          rw [hp] at hc
          exact hc : wr.cell? ⟨bp, op + (i + 1 + v), none⟩ = some (.int .i64 p)))
        have HI : Hid (ArgI np i P l g 0 w w3 (.slice none 0 0) w3) := hide ⟨[], by simp, (fun x hx => by cases hx), World.ownsRow_nil _ _ _ _, hC3, HG3.out, Nat.le_refl _⟩
        have hg3 : g < w3.heap.size := by have := HG3.out.size; omega
        have hw3 : w.heap.size ≤ w3.heap.size := HG3.out.size
        have hjz0 : (0 : Int) ≤ (i : Int) + 1 + (v : Int) := by omega
        have hjz1 : (i : Int) + 1 + (v : Int) < (np : Int) := by omega
        clear hC3 hG3 hzz3 keepP hp HG3 hk9 b15 b16 HR2 hRL
        go_wp2_with fail
        go_loopw [14, 15] (fun ov av wr => ∃ a : Nat, (a : Int) ≤ p ∧ av = .int .i64 (a : Int) ∧ Hid (ArgI np i P l g a w w3 ov wr)) (fun _ av _ => 3 - (intOf av).toNat)
        case atStart => exact ⟨0, by omega, rfl, HI⟩
        case round =>
          obtain ⟨a, hap, rfl, hI⟩ := hrel
          obtain ⟨xs, hxa, hxg, hown, hC, hG, hsz⟩ := hI.out
          have u0 := HK.out _ hG
          have HC := hide hC
          have HG := hide hG
          have HO := hide hown
          have HXG := hide hxg
          have HSZ := hide hsz
          clear hown hC hG hxg hsz
          by_cases hlt : (a : Int) < p
          · go_wp2_with fail
            refine (c 8 _ HC (by omega) (by omega)).mono ?_
            rintro e w5 ⟨u, rfl, u0', u1', hC5, hG5, hzz5⟩
            have HC5 := hide hC5
            have HG5 := hide (HG.out.trans hG5)
            have HO5 := hide (own_stay HO.out hg3 hG5)
            have HSZ5 := hide (Nat.le_trans HSZ.out hG5.size)
            by_cases hu7 : u < 7
            · clear hC5 hG5 hzz5 u0
              go_wp2_with fail
              refine (c 4 _ HC5 (by omega) (by omega)).mono ?_
              rintro e w6 ⟨y, rfl, y0, y1, hC6, hG6, hzz6⟩
              have HC6 := hide hC6
              have HG6 := hide (HG5.out.trans hG6)
              have HO6 := hide (own_stay HO5.out hg3 hG6)
              have HSZ6 := hide (Nat.le_trans HSZ5.out hG6.size)
              clear hC6 hG6 hzz6
              go_wp2_with (at_builtin; refine wpList_append_own _ rfl (.tmp 150) (.tmp 155) 28 rfl w3.heap.size 54 i0 (.agg #[.int .i64 0, .int .i64 0, .int .i64 0, .int .i64 0, .int .u64 0]) 5 40 Tryd.underlying28 hi hz0 hz1 hz2 rfl (by decide) _ xs.length (icells xs) rfl (HO6.out.alloc _) ⟨w6.heap.size, 0, none⟩ 1 1 [.int .i64 18, .int .i64 (a : Int), .int .i64 y, .int .i64 0, .int .u64 0] rfl rfl (five_new w6 ⟨18, (a : Int), y, 0, 0⟩ _) (five_cells ⟨18, (a : Int), y, 0, 0⟩) (by unfold maxLen; omega) (by omega) (by simp; have := HSZ6.out; omega) ?_)
              intro v' w7 ho7 hg7 _
              have HN := hide (ArgI.add (x := ⟨18, (a : Int), y, 0, 0⟩) hxa HXG.out (good_arg (by omega) (by omega) y0 (by omega)) hg3 hw3 HO6.out HC6.out HG6.out HSZ6.out ho7 hg7)
              clear ho7 hg7
              go_wp2_with fail
              go_roundw
              case rel => exact ⟨a + 1, by omega, by go_num, HN⟩
              case measure => simp [intOf]; omega
            · have HN := hide (ArgI.skip hI.out hg3 HC5.out hG5)
              clear hC5 hG5 hzz5 u0
              go_wp2_with fail
              go_roundw
              case rel => exact ⟨a + 1, by omega, by go_num, HN⟩
              case measure => simp [intOf]; omega
          · clear hI
            go_wp2_with (at_builtin; refine wpList_append_own _ rfl (.tmp 157) (.tmp 160) 28 rfl w3.heap.size 54 i0 (.agg #[.int .i64 0, .int .i64 0, .int .i64 0, .int .i64 0, .int .u64 0]) 5 40 Tryd.underlying28 hi hz0 hz1 hz2 rfl (by decide) _ xs.length (icells xs) rfl (HO.out.alloc _) ⟨wr.heap.size, 0, none⟩ 1 1 [.int .i64 22, .int .i64 ((i : Int) + 1 + (v : Int)), .int .i64 0, .int .i64 0, .int .u64 0] rfl rfl (five_new wr ⟨22, (i : Int) + 1 + (v : Int), 0, 0, 0⟩ _) (five_cells ⟨22, (i : Int) + 1 + (v : Int), 0, 0, 0⟩) (by unfold maxLen; omega) (by omega) (by simp; have := HSZ.out; omega) ?_)
            intro v' w7 ho7 hg7 _
            have hN := ArgI.add (x := ⟨22, (i : Int) + 1 + (v : Int), 0, 0, 0⟩) hxa HXG.out (good_call (by omega) (by omega)) hg3 hw3 HO.out HC.out HG.out HSZ.out ho7 hg7
            obtain ⟨A7, c7, rfl, hA7, hn7, hf7, hs7⟩ := own_seen ho7
            have hxa' : xs.length ≤ 3 := by omega
            have HN := hide hN
            have HA7 := hide hA7
            have HF7 := hide hf7
            have HS7 := hide hs7
            clear ho7 hg7 hN hA7 hf7 hs7
            go_wp2_with fail
            go_ret
            obtain ⟨ys, h1, h2, h3, h4, h5, h6⟩ := HN.out
            refine ⟨A7, c7, xs ++ [⟨22, (i : Int) + 1 + (v : Int), 0, 0, 0⟩], by simp, HA7.out, by simpa using hn7, by simp; omega, HF7.out.more hw3, by rw [icells_append]; exact HS7.out, (fun x hx => ?_), h4, h5⟩
            rcases List.mem_append.1 hx with h | h
            · exact HXG.out x h
            · simp at h; subst h; exact good_call (by omega) (by omega)
      · have hlz : ¬ (i : Int) + 1 < (np : Int) := by omega
        go_wp2_with fail
        go_ret
        exact body_one (good_out r0 r8) HC2.out HG2.out
end Go.Proofs.YtidlnecgfgnllaaDoor
end
