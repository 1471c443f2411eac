import Derived.Test.YtjbgepjdohfhkaaMAwk
import Derived.Test.YtjbgepjdohfhkaaMAsam
import Derived.Test.YtjbgepjdohfhkaaMAscn
set_option linter.unusedVariables false
set_option linter.unusedSimpArgs false
section
/-
  LivenessSolve's law, walked: it returns true. Conditions: those of the types.
-/
namespace Go.Proofs.Ytjbgepjdohfhkaa
open Go.RowKit

theorem below_al {a w : World} (h : Below a.heap.size a w) (o : Obj) : Below a.heap.size a (w.alloc o) := h.alloc h.size o
theorem below_st {a w : World} (h : Below a.heap.size a w) {X : Nat} (hX : a.heap.size ≤ X) (k : Nat) (u : Value) : Below a.heap.size a (w.setCell ⟨X, k, none⟩ u) := h.setCell (p := ⟨X, k, none⟩) hX u
theorem two_a0 (W w5 : World) (b5 : Below (W.alloc (.cells #[.slice none 0 0] 30)).drew.heap.size (W.alloc (.cells #[.slice none 0 0] 30)).drew w5) : Row w5 W.heap.size 30 [.slice none 0 0] :=
  (show Row (W.alloc (.cells #[.slice none 0 0] 30)).drew W.heap.size 30 [.slice none 0 0] from Row.new W 30 [.slice none 0 0]).call b5
theorem two_a1 (W w5 : World) (b5 : Below ((W.alloc (.cells #[.slice none 0 0] 30)).alloc (.cells #[.slice none 0 0] 30)).drew.heap.size ((W.alloc (.cells #[.slice none 0 0] 30)).alloc (.cells #[.slice none 0 0] 30)).drew w5) : Row w5 W.heap.size 30 [.slice none 0 0] ∧ Row w5 (W.heap.size + 1) 30 [.slice none 0 0] :=
  ⟨(show Row ((W.alloc (.cells #[.slice none 0 0] 30)).alloc (.cells #[.slice none 0 0] 30)).drew W.heap.size 30 [.slice none 0 0] from (Row.new W 30 [.slice none 0 0]).alloc (.cells #[.slice none 0 0] 30)).call b5,
   (show Row ((W.alloc (.cells #[.slice none 0 0] 30)).alloc (.cells #[.slice none 0 0] 30)).drew (W.heap.size + 1) 30 [.slice none 0 0] from Row.at_ (Row.new (W.alloc (.cells #[.slice none 0 0] 30)) 30 [.slice none 0 0]) (show _ = W.heap.size + 1 by simp)).call b5⟩
/-- Two annotations, each in a variable of its own. -/
def TwoR (W : World) (sol : List (List Int)) (n2 : Nat) (s6 s7 : Value) (wc : World) : Prop :=
  ∃ (X6 X7 gA cA gB cB : Nat) (va pa vb pb : List Value), s6 = .pointer (some ⟨X6, 0, none⟩) ∧ s7 = .pointer (some ⟨X7, 0, none⟩) ∧ Row wc X6 30 [.slice (some ⟨gA, 0, none⟩) n2 cA] ∧ Row wc X7 30 [.slice (some ⟨gB, 0, none⟩) n2 cB] ∧
    Anw wc W.heap.size gA va pa sol ∧ Anw wc W.heap.size gB vb pb sol ∧ Below W.heap.size W wc
theorem two_fin {W V : World} {sol : List (List Int)} {n2 X6 X7 gA cA gB cB : Nat} {va pa vb pb : List Value} {u6 u7 : Value} (oA : Anw V W.heap.size gA va pa sol) (oB : Anw V W.heap.size gB vb pb sol) (hb : Below W.heap.size W V) (r6 : Row V X6 30 [u6]) (r7 : Row V X7 30 [u7]) (h6 : W.heap.size ≤ X6) (h7 : W.heap.size ≤ X7) (hne : X6 ≠ X7) :
    TwoR W sol n2 (.pointer (some ⟨X6, 0, none⟩)) (.pointer (some ⟨X7, 0, none⟩)) ((V.setCell ⟨X6, 0, none⟩ (.slice (some ⟨gA, 0, none⟩) n2 cA)).setCell ⟨X7, 0, none⟩ (.slice (some ⟨gB, 0, none⟩) n2 cB)) := by
  have q6 := r6.set_ 0 (.slice (some ⟨gA, 0, none⟩) n2 cA)
  have q7 := r7.far (p := ⟨X6, 0, none⟩) (fun e => hne e.symm) (.slice (some ⟨gA, 0, none⟩) n2 cA)
  refine ⟨X6, X7, gA, cA, gB, cB, va, pa, vb, pb, rfl, rfl, q6.far (p := ⟨X7, 0, none⟩) hne _, q7.set_ 0 _, ?_, ?_, below_st (below_st hb h6 _ _) h7 _ _⟩
  · exact (oA.farc (p := ⟨X6, 0, none⟩) r6 rfl (by decide) (by decide)).farc (p := ⟨X7, 0, none⟩) q7 rfl (by decide) (by decide)
  · exact (oB.farc (p := ⟨X6, 0, none⟩) r6 rfl (by decide) (by decide)).farc (p := ⟨X7, 0, none⟩) q7 rfl (by decide) (by decide)
theorem two_s1 {W V : World} {sol : List (List Int)} {n2 X gA cA gB cB : Nat} {va pa vb pb : List Value} {u : Value} (oA : Anw V W.heap.size gA va pa sol) (oB : Anw V W.heap.size gB vb pb sol) (hb : Below W.heap.size W V) : TwoR W sol n2 (.pointer (some ⟨V.heap.size, 0, none⟩)) (.pointer (some ⟨V.heap.size + 1, 0, none⟩)) ((V.alloc (.cells #[.slice (some ⟨gA, 0, none⟩) n2 cA] 30)).alloc (.cells #[.slice (some ⟨gB, 0, none⟩) n2 cB] 30)) :=
  ⟨_, _, gA, cA, gB, cB, va, pa, vb, pb, rfl, rfl, (Row.new V _ _).alloc _, (Row.new _ _ _).at_ (by simp), (oA.below (below1 _ _)).below (below1 _ _), (oB.below (below1 _ _)).below (below1 _ _), below_al (below_al hb _) _⟩
theorem two_s2 {W V : World} {sol : List (List Int)} {n2 X gA cA gB cB : Nat} {va pa vb pb : List Value} {u : Value} (oA : Anw V W.heap.size gA va pa sol) (oB : Anw V W.heap.size gB vb pb sol) (hb : Below W.heap.size W V) : TwoR W sol n2 (.pointer (some ⟨V.heap.size + 1, 0, none⟩)) (.pointer (some ⟨V.heap.size, 0, none⟩)) ((V.alloc (.cells #[.slice (some ⟨gB, 0, none⟩) n2 cB] 30)).alloc (.cells #[.slice (some ⟨gA, 0, none⟩) n2 cA] 30)) :=
  ⟨_, _, gA, cA, gB, cB, va, pa, vb, pb, rfl, rfl, (Row.new _ _ _).at_ (by simp), (Row.new V _ _).alloc _, (oA.below (below1 _ _)).below (below1 _ _), (oB.below (below1 _ _)).below (below1 _ _), below_al (below_al hb _) _⟩
theorem two_s3 {W V : World} {sol : List (List Int)} {n2 X gA cA gB cB : Nat} {va pa vb pb : List Value} {u : Value} (oA : Anw V W.heap.size gA va pa sol) (oB : Anw V W.heap.size gB vb pb sol) (hb : Below W.heap.size W V) (r : Row V X 30 [u]) (hX : W.heap.size ≤ X) : TwoR W sol n2 (.pointer (some ⟨X, 0, none⟩)) (.pointer (some ⟨V.heap.size, 0, none⟩)) ((V.setCell ⟨X, 0, none⟩ (.slice (some ⟨gA, 0, none⟩) n2 cA)).alloc (.cells #[.slice (some ⟨gB, 0, none⟩) n2 cB] 30)) :=
  ⟨_, _, gA, cA, gB, cB, va, pa, vb, pb, rfl, rfl, (r.set_ 0 _).alloc _, (Row.new _ _ _).at_ (by simp), (oA.farc (p := ⟨X, 0, none⟩) r rfl (by decide) (by decide)).below (below1 _ _), (oB.farc (p := ⟨X, 0, none⟩) r rfl (by decide) (by decide)).below (below1 _ _), below_al (below_st hb hX _ _) _⟩
theorem two_s4 {W V : World} {sol : List (List Int)} {n2 X gA cA gB cB : Nat} {va pa vb pb : List Value} {u : Value} (oA : Anw V W.heap.size gA va pa sol) (oB : Anw V W.heap.size gB vb pb sol) (hb : Below W.heap.size W V) (r : Row V X 30 [u]) (hX : W.heap.size ≤ X) : TwoR W sol n2 (.pointer (some ⟨V.heap.size, 0, none⟩)) (.pointer (some ⟨X, 0, none⟩)) ((V.setCell ⟨X, 0, none⟩ (.slice (some ⟨gB, 0, none⟩) n2 cB)).alloc (.cells #[.slice (some ⟨gA, 0, none⟩) n2 cA] 30)) :=
  ⟨_, _, gA, cA, gB, cB, va, pa, vb, pb, rfl, rfl, (Row.new _ _ _).at_ (by simp), (r.set_ 0 _).alloc _, (oA.farc (p := ⟨X, 0, none⟩) r rfl (by decide) (by decide)).below (below1 _ _), (oB.farc (p := ⟨X, 0, none⟩) r rfl (by decide) (by decide)).below (below1 _ _), below_al (below_st hb hX _ _) _⟩
set_option maxRecDepth 100000 in
set_option maxHeartbeats 4000000 in
theorem lvlaw_walk (A0 : Option Addr) (n0 c0 : Nat) (zs : List Int) (w : World)
    (hA : Hid (A0 = none → c0 = 0)) (hn : Hid (zs.length = n0)) (hnc : n0 ≤ c0) (hm : n0 ≤ 9223372036854775807) (hs : Hid (Sees w w.heap.size A0 (cellsU8 zs))) (hz : Hid (∀ z ∈ zs, 0 ≤ z ∧ z ≤ 255)) :
    Calls Try.prog 3 #[.slice A0 n0 c0] w fun e w' => e = .returned (.bool true) ∧ Below w.heap.size w w' := by
  go_enter Try.func3, Try.ntmps3
  go_wp2_with fail
  refine (awake16_any w).mono ?_
  rintro e w1 ⟨rfl, hb1⟩
  have HB1 := hide hb1
  have HS1 := hide ((hs.out.below hb1).more hb1.size)
  clear hb1
  go_wp2_with fail
  refine (scene16_any A0 n0 c0 zs w1 hA hn hnc hm HS1 hz).mono ?_
  rintro e w2 ⟨P, A1, n1, c1, A2, n2, c2, f, N, L, gL, cL, vs, sp, g, lo, rfl, hH, hE, hF, hLI, hLS, hO, hCd, hgl, hwg, hb2⟩
  obtain ⟨W, hW⟩ : ∃ V, (w2.alloc (.cells #[.int .i64 P, .slice A1 n1 c1, .slice A2 n2 c2] 27)).alloc (.cells #[.slice (some ⟨gL, 0, none⟩) n2 cL] 30) = V := ⟨_, rfl⟩
  have hb3 : Below w2.heap.size w2 W := by rw [← hW]; exact below2 _ _ _
  obtain ⟨B, hB⟩ : ∃ B, w2.heap.size = B := ⟨_, rfl⟩
  have HBB := hide hB
  have RB := hide (show Row W B 27 [.int .i64 P, .slice A1 n1 c1, .slice A2 n2 c2] by rw [← hW, ← hB]; exact (Row.new w2 _ _).alloc _)
  have HCd := hide (show CdAt W A2 n2 f.code from (hH.calls hb3).cd (fnE_zero.1 hE).1)
  have hs1 : f.slots.length = n1 := hH.l1
  have HOK := hide (show LvOk f.code n1 by rw [← hs1]; exact lv_ok hE (by omega))
  have HW := hide hW
  have HB3 := hide (below_call (below_call HB1.out hb2) hb3)
  clear hW hb3 hb2 hO hCd hLI hLS hH hB hwg hgl HB1 HS1 hE
  go_upto_region 4 with (fail)
  rw [HW.out, HBB.out]
  clear HW HBB
  have SA := hide (fun (V : World) (hb : Below W.heap.size W V) => lsolve_any (P := P) (A1 := A1) (c1 := c1) (c2 := c2) V (hide (HCd.out.below hb)) HOK)
  have SB := hide (fun (V : World) (hb : Below W.heap.size W V) => rsolve_any (P := P) (A1 := A1) (n1 := n1) (c1 := c1) (c2 := c2) V (hide (HCd.out.below hb)) HOK)
  have hlen := HCd.out.len
  have hn2 := HCd.out.few
  have hsl : (solL f.code n1).length = n2 := by rw [(sol_in HOK.out).len, hlen]
  obtain ⟨sol, hsol⟩ : ∃ s, solL f.code n1 = s := ⟨_, rfl⟩
  rw [hsol] at SA SB hsl
  clear hsol
  have q0 := fun (w' : World) (hb : Below W.heap.size W w') => (RB.out.call hb).cell (k := 0) rfl
  have q1 := fun (w' : World) (hb : Below W.heap.size W w') => (RB.out.call hb).cell (k := 1) rfl
  have q2 := fun (w' : World) (hb : Below W.heap.size W w') => (RB.out.call hb).cell (k := 2) rfl
  have bw0 : Below W.heap.size W W.drew := (Below.refl _ _).drew
  go_cut [6, 7] (fun s6 s7 wx => TwoR W sol n2 s6 s7 wx)
  case first =>
    go_region_held3 (fun V => Below W.heap.size W V)
      (first | exact bw0 | assumption | (repeat (first | assumption | exact Below.refl _ _ | refine Below.drew ?_ | refine below_al ?_ _ | refine below_st ?_ (by omega) _ _)))
      (first
        | (go_at_call 8; with_reducible refine Calls.mono (SA.out _ (by assumption)) ?_; intro e w5 h5; unfold LvPost at h5; obtain ⟨gA, cA, va, pa, rfl, oA, b5⟩ := h5; rw [hsl]; have bb5 : Below W.heap.size W w5 := below_call (by assumption) b5; have OA := hide (oA.lower (Below.size (B := W.heap.size) (w := W) (by assumption))); (try have ra0 := two_a0 W w5 b5); (try have ra0 := (two_a1 W w5 b5).1); (try have ra1 := (two_a1 W w5 b5).2); (try have la0 := ra0.lt); (try have la1 := ra1.lt); have hs5 := bb5.size; clear oA b5)
        | (go_at_call 9; with_reducible refine Calls.mono (SB.out _ (by assumption)) ?_; intro e w6 h6; unfold LvPost at h6; obtain ⟨gB, cB, vb, pb, rfl, oB, b6⟩ := h6; rw [hsl]; have bb56 : Below w5.heap.size w5 w6 := (by first | exact b6 | exact below_call (below1 w5 _) b6 | exact below_call (below2 w5 _ _) b6); have bb6 : Below W.heap.size W w6 := below_call bb5 bb56; have OB := hide (oB.lower (Below.size (B := W.heap.size) (w := W) (by assumption))); have OA6 := hide (OA.out.below bb56); (try have rc0 := ra0.call bb56); (try have rc1 := ra1.call bb56); (try have rb0 : Row w6 w5.heap.size 30 [.slice none 0 0] := (by first | exact Row.call (w := (w5.alloc (.cells #[.slice none 0 0] 30))) (Row.new w5 _ _) b6 | exact Row.call (w := ((w5.alloc (.cells #[.slice none 0 0] 30)).alloc (.cells #[.slice none 0 0] 30))) ((Row.new w5 _ _).alloc _) b6)); (try have rb1 : Row w6 (w5.heap.size + 1) 30 [.slice none 0 0] := Row.call (w := ((w5.alloc (.cells #[.slice none 0 0] 30)).alloc (.cells #[.slice none 0 0] 30))) (Row.at_ (Row.new (w5.alloc (.cells #[.slice none 0 0] 30)) _ _) (by simp)) b6); (try have lb0 := rb0.lt); (try have lb1 := rb1.lt); have hs6 := bb6.size; have hs56 := bb56.size; (try have k_rc0 := rc0.cell (k := 0) rfl); (try have f_rc0 := rc0.free 0); (try have q_rc0 := fun o => (rc0.alloc o).cell (k := 0) rfl); (try have g_rc0 := fun o => (rc0.alloc o).free 0); (try have l_rc0 := rc0.lt); (try have k_rc1 := rc1.cell (k := 0) rfl); (try have f_rc1 := rc1.free 0); (try have q_rc1 := fun o => (rc1.alloc o).cell (k := 0) rfl); (try have g_rc1 := fun o => (rc1.alloc o).free 0); (try have l_rc1 := rc1.lt); (try have k_rb0 := rb0.cell (k := 0) rfl); (try have f_rb0 := rb0.free 0); (try have q_rb0 := fun o => (rb0.alloc o).cell (k := 0) rfl); (try have g_rb0 := fun o => (rb0.alloc o).free 0); (try have l_rb0 := rb0.lt); (try have k_rb1 := rb1.cell (k := 0) rfl); (try have f_rb1 := rb1.free 0); (try have q_rb1 := fun o => (rb1.alloc o).cell (k := 0) rfl); (try have g_rb1 := fun o => (rb1.alloc o).free 0); (try have l_rb1 := rb1.lt); (try have : ¬ (W.heap.size = w5.heap.size) := by omega); (try have : ¬ (w5.heap.size = W.heap.size) := by omega); (try have : ¬ (W.heap.size = w6.heap.size) := by omega); (try have : ¬ (w6.heap.size = W.heap.size) := by omega); (try have : ¬ (w5.heap.size = w6.heap.size) := by omega); (try have : ¬ (w6.heap.size = w5.heap.size) := by omega); clear oB b6))
    all_goals
      go_wp2_with fail
      go_meet
      first
        | exact two_fin (cA := cA) (cB := cB) (n2 := n2) OA6.out OB.out bb6 rc0 rc1 (by omega) (by omega) (by omega)
        | exact two_fin (cA := cA) (cB := cB) (n2 := n2) OA6.out OB.out bb6 rc1 rc0 (by omega) (by omega) (by omega)
        | exact two_fin (cA := cA) (cB := cB) (n2 := n2) OA6.out OB.out bb6 rc0 rb0 (by omega) (by omega) (by omega)
        | exact two_fin (cA := cA) (cB := cB) (n2 := n2) OA6.out OB.out bb6 rb0 rc0 (by omega) (by omega) (by omega)
        | exact two_fin (cA := cA) (cB := cB) (n2 := n2) OA6.out OB.out bb6 rb0 rb1 (by omega) (by omega) (by omega)
        | exact two_fin (cA := cA) (cB := cB) (n2 := n2) OA6.out OB.out bb6 rb1 rb0 (by omega) (by omega) (by omega)
        | exact two_s1 (X := 0) (u := undef) OA6.out OB.out bb6
        | exact two_s2 (X := 0) (u := undef) OA6.out OB.out bb6
        | exact two_s3 OA6.out OB.out bb6 rc0 (by omega)
        | exact two_s3 OA6.out OB.out bb6 rb0 (by omega)
        | exact two_s4 OA6.out OB.out bb6 rc0 (by omega)
        | exact two_s4 OA6.out OB.out bb6 rb0 (by omega)
  case rest =>
    obtain ⟨X6, X7, gA, cA, gB, cB, va, pa, vb, pb, rfl, rfl, r6, r7, oA, oB, bw⟩ := hcut
    have RC := rsame16_any (some ⟨gA, 0, none⟩) n2 cA (some ⟨gB, 0, none⟩) n2 cB sol sol wc (hide (oA.ann hsl (by omega))) (hide (oB.ann hsl (by omega)))
    rw [decide_eq_true (rfl : sol = sol)] at RC
    have LC := hide (fun (V : World) (hb : Below wc.heap.size wc V) => by have q := lsame16_any (some ⟨gA, 0, none⟩) n2 cA (some ⟨gB, 0, none⟩) n2 cB sol sol V (hide ((oA.below hb).ann hsl (by omega))) (hide ((oB.below hb).ann hsl (by omega))); rw [decide_eq_true (rfl : sol = sol)] at q; exact q)
    have x6 := fun (w' : World) (hb : Below wc.heap.size wc w') => (r6.call hb).cell (k := 0) rfl
    have x7 := fun (w' : World) (hb : Below wc.heap.size wc w') => (r7.call hb).cell (k := 0) rfl
    have y6 := r6.cell (k := 0) rfl
    have y7 := r7.cell (k := 0) rfl
    have HBW := hide (below_call HB3.out bw)
    clear oA oB q0 q1 q2 SA SB bw0 bw r6 r7 RB
    go_wp2_with fail
    refine RC.mono ?_
    rintro e w8 ⟨rfl, hb8⟩
    have z6 := x6 w8 hb8
    have z7 := x7 w8 hb8
    have HB8 := hide (below_call HBW.out hb8)
    have L8 := hide (LC.out w8 hb8)
    clear hb8 x6 x7 y6 y7 RC LC
    go_wp2_with fail
    refine L8.out.mono ?_
    rintro e w9 ⟨rfl, hb9⟩
    have HB9 := hide (below_call HB8.out hb9)
    clear hb9 z6 z7 L8
    go_wp2_with fail
    go_ret
    exact ⟨rfl, HB9.out⟩
end Go.Proofs.Ytjbgepjdohfhkaa
end
