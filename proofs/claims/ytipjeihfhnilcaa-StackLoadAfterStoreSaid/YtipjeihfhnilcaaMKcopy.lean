import Derived.Test.YtipjeihfhnilcaaMKown
import Derived.Laws.AppendOwn
import Derived.Laws.AppendOwnNone
set_option linter.unusedVariables false
set_option linter.unusedSimpArgs false
section
/-
  The contract of the reference's Copy: both rows are the call's own. Conditions: those of the types; the stack is one for which Check is true.
-/
namespace Go.Proofs.Ytipjeihfhnilcaa
open Go.RowKit

/-- append(nil, x..) as one operation of a region: a row of the call's own. -/
theorem wp_append_new {P : Program} {w : World} {o : Oper} {a : Act} {K : Act → World → Prop} {Q : Exit → Act → World → Prop} (s x : Operand) (t : TypeId)
    (ho : o.op = .call { callee := .builtin .append, args := #[s, x], argTypes := #[t, t] })
    (base : Nat) (e : TypeId) (i : TypeInfo) (z : Value) (bytes : Nat) (ht : P.underlying t = some (.slice e)) (hi : P.info? e = some i) (hz : i.zero = some z)
    (hsize : i.size = 1) (hby : i.bytes = bytes) (hzs : z.cells.size = 1) (hs : a.eval s = .slice none 0 0)
    (B : Nat) (A : Option Addr) (m c : Nat) (news : List Value) (hx : a.eval x = .slice A m c) (hA : Hid (A = none → c = 0)) (hl : news.length = m) (hsee : Sees w B A news) (h1 : ∀ u ∈ news, u.oneCell' = true)
    (h63 : m ≤ maxLen) (hbytes : m * bytes ≤ 140737488355328) (hbase : base ≤ w.heap.size)
    (h : ∀ v' w', w'.ownsRow base e 1 v' m news → Below w.heap.size w w' → K (a.put o.dst v') w') : o.wp P a w K Q := by
  rcases A with _ | ad
  · have hm : news = [] := by
      rcases news with _ | ⟨u, r⟩
      · rfl
      · obtain ⟨_, _, he, _⟩ := hsee 0 u rfl
        simp at he
    subst hm
    simp at hl
    subst hl
    obtain rfl := hA.out rfl
    have hrun := run_append_owned_none (P := P) (w := w) base t o.type e i 1 ht hi (.slice none 0 0) 0 [] (World.ownsRow_nil _ _ _ _)
    unfold Oper.wp
    simp [execOp, ho, resolve, invoke, builtin, hs, hx, hrun, Result.andThen]
    exact h _ w (World.ownsRow_nil _ _ _ _) (Below.refl _ _)
  · refine wp_append_own w s x t ho base e i z 1 bytes ht hi hz hsize hby hzs (by decide) (.slice none 0 0) 0 [] hs (World.ownsRow_nil _ _ _ _) ad m c news hx (by omega) (fun j u hu => ?_) h1 (by omega) (by rw [Nat.zero_add]; exact hbytes) hbase (fun v' w' h2 h3 _ => ?_)
    · rcases Nat.lt_or_ge 0 news.length with hp | hp
      · obtain ⟨ad', he, hc⟩ := hsee.src hp
        injection he with he
        subst he
        exact hc j u hu
      · have : news = [] := List.eq_nil_of_length_eq_zero (by omega)
        subst this
        simp at hu
    · exact h v' w' (by simpa using h2) (below_append (Below.refl _ _) (World.ownsRow_nil w w.heap.size e 1) (Nat.le_refl _) h3 (Nat.le_refl _))

/-- What each operation keeps: which of them have come up, and what they have left. -/
def CopyI (A1 : Option Addr) (n c1 : Nat) (A2 : Option Addr) (c2 : Nat) (p : Int) (xs ys : List Value) (w : World) (l : Array Bool) (a : Act) (wr : World) : Prop :=
  ∃ (b0 b1 b2 b3 b4 b5 b6 b7 b8 b9 : Bool) (x3 x4 x5 x6 x7 x8 x9 x10 x11 s0 s1 : Value), l = #[b0, b1, b2, b3, b4, b5, b6, b7, b8, b9] ∧ a = ⟨#[kv A1 n c1 A2 n c2 p, .pointer (some ⟨w.heap.size, 0, none⟩), .pointer (some ⟨w.heap.size + 1, 0, none⟩), x3, x4, x5, x6, x7, x8, x9, x10, x11], []⟩ ∧
    Below w.heap.size w wr ∧
    Row wr w.heap.size 29 [s0, s1, .int .i64 p] ∧
    Row wr (w.heap.size + 1) 29 [.slice none 0 0, .slice none 0 0, .int .i64 0] ∧
    (b7 = false → s0 = .slice A1 n c1) ∧
    (b7 = true → s0 = x5) ∧
    (b9 = false → s1 = .slice A2 n c2) ∧
    (b9 = true → s1 = x8) ∧
    (b1 = true → b0 = true) ∧
    (b2 = true → b1 = true) ∧
    (b4 = true → b3 = true) ∧
    (b5 = true → b4 = true) ∧
    (b7 = true → b2 = true ∧ b5 = true ∧ b6 = true) ∧
    (b9 = true → b7 = true ∧ b8 = true) ∧
    (b0 = true → x3 = .pointer (some ⟨w.heap.size, 0, none⟩)) ∧
    (b1 = true → x4 = .slice A1 n c1) ∧
    (b2 = true → wr.ownsRow (w.heap.size + 2) 5 1 x5 n xs) ∧
    (b3 = true → x6 = .pointer (some ⟨w.heap.size, 1, none⟩)) ∧
    (b4 = true → x7 = .slice A2 n c2) ∧
    (b5 = true → wr.ownsRow (w.heap.size + 2) 4 1 x8 n ys) ∧
    (b6 = true → x9 = .pointer (some ⟨w.heap.size, 0, none⟩)) ∧
    (b8 = true → x10 = .pointer (some ⟨w.heap.size, 1, none⟩))

set_option maxRecDepth 100000 in
set_option maxHeartbeats 4000000 in
theorem rcopy_any (A1 : Option Addr) (n c1 : Nat) (A2 : Option Addr) (c2 : Nat) (p : Int) (xs : List Int) (ys : List Bool) (w : World) (hA1 : Hid (A1 = none → c1 = 0)) (hA2 : Hid (A2 = none → c2 = 0)) (hn1 : n ≤ c1) (hn2 : n ≤ c2) (hm : n ≤ 1048576) (hx : Hid (xs.length = n)) (hy : Hid (ys.length = n)) (hs1 : Hid (Sees w w.heap.size A1 (cellsU8 xs))) (hs2 : Hid (Sees w w.heap.size A2 (cellsB ys))) :
    Calls Try.prog 18 #[kv A1 n c1 A2 n c2 p] w (OwnPost 5 4 n p (cellsU8 xs) (cellsB ys) w) := by
  obtain ⟨ia, hai, ha0, ha1, ha2⟩ := info_parts Try.cinfo5
  obtain ⟨ib, hbi, hb0, hb1, hb2⟩ := info_parts Try.cinfo4
  obtain ⟨W, hW, hbW, hsW, r0, r1⟩ := two_boxes w [.slice A1 n c1, .slice A2 n c2, .int .i64 p] [.slice none 0 0, .slice none 0 0, .int .i64 0] 29 29
  have HW := hide hW
  clear hW
  go_enter Try.func18, Try.ntmps18
  go_upto_region 1 with (fail)
  rw [HW.out]
  have HI0 : CopyI A1 n c1 A2 c2 p (cellsU8 xs) (cellsB ys) w (Array.replicate 10 false) ⟨#[kv A1 n c1 A2 n c2 p, .pointer (some ⟨w.heap.size, 0, none⟩), .pointer (some ⟨w.heap.size + 1, 0, none⟩), undef, undef, undef, undef, undef, undef, undef, undef, undef], []⟩ W.drew :=
    ⟨false, false, false, false, false, false, false, false, false, false, _, _, _, _, _, _, _, _, _, _, _, rfl, rfl, below_draws hbW 1, r0.drew, r1.drew, (fun _ => rfl), (fun e => by cases e), (fun _ => rfl), (fun e => by cases e), (fun e => by cases e), (fun e => by cases e), (fun e => by cases e), (fun e => by cases e), (fun e => by cases e), (fun e => by cases e), (fun e => by cases e), (fun e => by cases e), (fun e => by cases e), (fun e => by cases e), (fun e => by cases e), (fun e => by cases e), (fun e => by cases e), (fun e => by cases e)⟩
  refine wp_region_inv (by kernel_rfl) (CopyI A1 n c1 A2 c2 p (cellsU8 xs) (cellsB ys) w) HI0 ?_ ?_
  · rintro l a wr ⟨b0, b1, b2, b3, b4, b5, b6, b7, b8, b9, x3, x4, x5, x6, x7, x8, x9, x10, x11, s0, s1, rfl, rfl, hB, hX, hZ, i_s0, f_s0, i_s1, f_s1, t1, t2, t4, t5, t7, t9, q0, q1, q2, q3, q4, q5, q6, q8⟩ k hi K hK
    have hlt := ready_lt hi
    obtain ⟨hf, o, ho, ha⟩ := ready_of hi
    clear hi
    have hlt' : k < 10 := hlt
    clear hlt
    rcases (show k = 0 ∨ k = 1 ∨ k = 2 ∨ k = 3 ∨ k = 4 ∨ k = 5 ∨ k = 6 ∨ k = 7 ∨ k = 8 ∨ k = 9 by omega) with rfl | rfl | rfl | rfl | rfl | rfl | rfl | rfl | rfl | rfl
    · obtain rfl := Option.some.inj ho
      simp [Region.binds] at ha hf
      clear ha ho hlt'
      refine wpOp_plain rfl rfl ?_
      go_simp
      refine hK _ _ ⟨true, b1, b2, b3, b4, b5, b6, b7, b8, b9, _, _, _, _, _, _, _, _, _, _, _, rfl, rfl, hB, hX, hZ, i_s0, f_s0, i_s1, f_s1, (fun e => rfl), t2, t4, t5, t7, t9, (fun _ => rfl), (by first | exact q1 | exact fun _ => rfl), q2, (by first | exact q3 | exact fun _ => rfl), (by first | exact q4 | exact fun _ => rfl), q5, (by first | exact q6 | exact fun _ => rfl), (by first | exact q8 | exact fun _ => rfl)⟩
    · obtain rfl := Option.some.inj ho
      simp [Region.binds] at ha hf
      have d0 : b0 = true := by simp_all
      have n_s0 : b7 = false := by cases e : b7 with | false => rfl | true => have := t7 e; simp_all
      have x := i_s0 n_s0
      subst x
      have n_s1 : b9 = false := by cases e : b9 with | false => rfl | true => have := t9 e; simp_all
      have x := i_s1 n_s1
      subst x
      have D0 := hide d0
      have x := q0 d0
      subst x
      have hc := hX.cell (k := 0) rfl
      clear ha ho hlt'
      refine wpOp_plain rfl rfl ?_
      go_simp
      refine hK _ _ ⟨b0, true, b2, b3, b4, b5, b6, b7, b8, b9, _, _, _, _, _, _, _, _, _, _, _, rfl, rfl, hB, hX, hZ, (fun _ => rfl), f_s0, (fun _ => rfl), f_s1, (fun _ => D0.out), (fun e => rfl), t4, t5, t7, t9, (fun _ => rfl), (fun _ => rfl), q2, (by first | exact q3 | exact fun _ => rfl), (by first | exact q4 | exact fun _ => rfl), q5, (by first | exact q6 | exact fun _ => rfl), (by first | exact q8 | exact fun _ => rfl)⟩
    · obtain rfl := Option.some.inj ho
      simp [Region.binds] at ha hf
      have d1 : b1 = true := by simp_all
      have D1 := hide d1
      have x := q1 d1
      subst x
      clear ha ho hlt'
      refine wpOp_plain rfl rfl ?_
      refine wp_append_new (.const (.slice none 0 0)) (.tmp 4) 22 rfl (w.heap.size + 2) 5 ia (.int .u8 0) 1 Try.underlying22 hai ha0 ha1 ha2 rfl rfl w.heap.size A1 n c1 (cellsU8 xs) rfl hA1 (by rw [cellsU8_length]; exact hx.out) (hs1.out.below hB) (cellsU8_one xs) (by unfold maxLen; omega) (by omega) (by have := hB.size; have := hZ.lt; omega : w.heap.size + 2 ≤ wr.heap.size) ?_
      intro v' w' ho' hb'
      refine hK _ _ ⟨b0, b1, true, b3, b4, b5, b6, b7, b8, b9, _, _, _, _, _, _, _, _, _, _, _, rfl, rfl, (hB.trans (hb'.mono hB.size)), (hX.call hb'), (hZ.call hb'), i_s0, (fun e => by have := t7 e; simp_all), i_s1, f_s1, t1, (fun _ => D1.out), t4, t5, (fun e => ⟨rfl, (t7 e).2.1, (t7 e).2.2⟩), t9, (by first | exact q0 | exact fun _ => rfl), (fun _ => rfl), (fun _ => ho'), (by first | exact q3 | exact fun _ => rfl), (by first | exact q4 | exact fun _ => rfl), (fun e => own_below (q5 e) hb'), (by first | exact q6 | exact fun _ => rfl), (by first | exact q8 | exact fun _ => rfl)⟩
    · obtain rfl := Option.some.inj ho
      simp [Region.binds] at ha hf
      clear ha ho hlt'
      refine wpOp_plain rfl rfl ?_
      go_simp
      refine hK _ _ ⟨b0, b1, b2, true, b4, b5, b6, b7, b8, b9, _, _, _, _, _, _, _, _, _, _, _, rfl, rfl, hB, hX, hZ, i_s0, f_s0, i_s1, f_s1, t1, t2, (fun e => rfl), t5, t7, t9, (by first | exact q0 | exact fun _ => rfl), (by first | exact q1 | exact fun _ => rfl), q2, (fun _ => rfl), (by first | exact q4 | exact fun _ => rfl), q5, (by first | exact q6 | exact fun _ => rfl), (by first | exact q8 | exact fun _ => rfl)⟩
    · obtain rfl := Option.some.inj ho
      simp [Region.binds] at ha hf
      have d3 : b3 = true := by simp_all
      have n_s0 : b7 = false := by cases e : b7 with | false => rfl | true => have := t7 e; simp_all
      have x := i_s0 n_s0
      subst x
      have n_s1 : b9 = false := by cases e : b9 with | false => rfl | true => have := t9 e; simp_all
      have x := i_s1 n_s1
      subst x
      have D3 := hide d3
      have x := q3 d3
      subst x
      have hc := hX.cell (k := 1) rfl
      clear ha ho hlt'
      refine wpOp_plain rfl rfl ?_
      go_simp
      refine hK _ _ ⟨b0, b1, b2, b3, true, b5, b6, b7, b8, b9, _, _, _, _, _, _, _, _, _, _, _, rfl, rfl, hB, hX, hZ, (fun _ => rfl), f_s0, (fun _ => rfl), f_s1, t1, t2, (fun _ => D3.out), (fun e => rfl), t7, t9, (by first | exact q0 | exact fun _ => rfl), (by first | exact q1 | exact fun _ => rfl), q2, (fun _ => rfl), (fun _ => rfl), q5, (by first | exact q6 | exact fun _ => rfl), (by first | exact q8 | exact fun _ => rfl)⟩
    · obtain rfl := Option.some.inj ho
      simp [Region.binds] at ha hf
      have d4 : b4 = true := by simp_all
      have D4 := hide d4
      have x := q4 d4
      subst x
      clear ha ho hlt'
      refine wpOp_plain rfl rfl ?_
      refine wp_append_new (.const (.slice none 0 0)) (.tmp 7) 27 rfl (w.heap.size + 2) 4 ib (.bool false) 1 Try.underlying27 hbi hb0 hb1 hb2 rfl rfl w.heap.size A2 n c2 (cellsB ys) rfl hA2 (by rw [cellsB_length]; exact hy.out) (hs2.out.below hB) (cellsB_one ys) (by unfold maxLen; omega) (by omega) (by have := hB.size; have := hZ.lt; omega : w.heap.size + 2 ≤ wr.heap.size) ?_
      intro v' w' ho' hb'
      refine hK _ _ ⟨b0, b1, b2, b3, b4, true, b6, b7, b8, b9, _, _, _, _, _, _, _, _, _, _, _, rfl, rfl, (hB.trans (hb'.mono hB.size)), (hX.call hb'), (hZ.call hb'), i_s0, f_s0, i_s1, (fun e => by have := t9 e; simp_all), t1, t2, t4, (fun _ => D4.out), (fun e => ⟨(t7 e).1, rfl, (t7 e).2.2⟩), t9, (by first | exact q0 | exact fun _ => rfl), (by first | exact q1 | exact fun _ => rfl), (fun e => own_below (q2 e) hb'), (by first | exact q3 | exact fun _ => rfl), (fun _ => rfl), (fun _ => ho'), (by first | exact q6 | exact fun _ => rfl), (by first | exact q8 | exact fun _ => rfl)⟩
    · obtain rfl := Option.some.inj ho
      simp [Region.binds] at ha hf
      clear ha ho hlt'
      refine wpOp_plain rfl rfl ?_
      go_simp
      refine hK _ _ ⟨b0, b1, b2, b3, b4, b5, true, b7, b8, b9, _, _, _, _, _, _, _, _, _, _, _, rfl, rfl, hB, hX, hZ, i_s0, f_s0, i_s1, f_s1, t1, t2, t4, t5, (fun e => ⟨(t7 e).1, (t7 e).2.1, rfl⟩), t9, (by first | exact q0 | exact fun _ => rfl), (by first | exact q1 | exact fun _ => rfl), q2, (by first | exact q3 | exact fun _ => rfl), (by first | exact q4 | exact fun _ => rfl), q5, (fun _ => rfl), (by first | exact q8 | exact fun _ => rfl)⟩
    · obtain rfl := Option.some.inj ho
      simp [Region.binds] at ha hf
      have d2 : b2 = true := by simp_all
      have d5 : b5 = true := by simp_all
      have d6 : b6 = true := by simp_all
      have D2 := hide d2
      have D5 := hide d5
      have D6 := hide d6
      have x := q6 d6
      subst x
      have o2 := q2 d2
      have o5 := q5 d5
      have o2 := q2 (by simp_all)
      obtain ⟨a5, k5, rfl, -, -⟩ := own_form o2
      have z0 := hX.cell (k := 0) rfl
      have y0 := hX.free 0
      clear ha ho hlt'
      refine wpOp_plain rfl rfl ?_
      go_simp
      refine hK _ _ ⟨b0, b1, b2, b3, b4, b5, b6, true, b8, b9, _, _, _, _, _, _, _, _, _, _, _, rfl, rfl, (below_put hB (Nat.le_refl _)), (hX.set_ 0 _), (hZ.far (p := ⟨w.heap.size, 0, none⟩) (by simp) _), (fun e => by cases e), (fun _ => rfl), i_s1, f_s1, t1, t2, t4, t5, (fun _ => ⟨D2.out, D5.out, D6.out⟩), (fun e => ⟨rfl, (t9 e).2⟩), (by first | exact q0 | exact fun _ => rfl), (by first | exact q1 | exact fun _ => rfl), (fun e => own_put (q2 e) (by omega)), (by first | exact q3 | exact fun _ => rfl), (by first | exact q4 | exact fun _ => rfl), (fun e => own_put (q5 e) (by omega)), (fun _ => rfl), (by first | exact q8 | exact fun _ => rfl)⟩
    · obtain rfl := Option.some.inj ho
      simp [Region.binds] at ha hf
      clear ha ho hlt'
      refine wpOp_plain rfl rfl ?_
      go_simp
      refine hK _ _ ⟨b0, b1, b2, b3, b4, b5, b6, b7, true, b9, _, _, _, _, _, _, _, _, _, _, _, rfl, rfl, hB, hX, hZ, i_s0, f_s0, i_s1, f_s1, t1, t2, t4, t5, t7, (fun e => ⟨(t9 e).1, rfl⟩), (by first | exact q0 | exact fun _ => rfl), (by first | exact q1 | exact fun _ => rfl), q2, (by first | exact q3 | exact fun _ => rfl), (by first | exact q4 | exact fun _ => rfl), q5, (by first | exact q6 | exact fun _ => rfl), (fun _ => rfl)⟩
    · obtain rfl := Option.some.inj ho
      simp [Region.binds] at ha hf
      have d7 : b7 = true := by simp_all
      have d8 : b8 = true := by simp_all
      have D7 := hide d7
      have D8 := hide d8
      have x := q8 d8
      subst x
      have o5 := q5 (t7 (by simp_all)).2.1
      obtain ⟨a8, k8, rfl, -, -⟩ := own_form o5
      have z1 := hX.cell (k := 1) rfl
      have y1 := hX.free 1
      clear ha ho hlt'
      refine wpOp_plain rfl rfl ?_
      go_simp
      refine hK _ _ ⟨b0, b1, b2, b3, b4, b5, b6, b7, b8, true, _, _, _, _, _, _, _, _, _, _, _, rfl, rfl, (below_put hB (Nat.le_refl _)), (hX.set_ 1 _), (hZ.far (p := ⟨w.heap.size, 1, none⟩) (by simp) _), i_s0, f_s0, (fun e => by cases e), (fun _ => rfl), t1, t2, t4, t5, t7, (fun _ => ⟨D7.out, D8.out⟩), (by first | exact q0 | exact fun _ => rfl), (by first | exact q1 | exact fun _ => rfl), (fun e => own_put (q2 e) (by omega)), (by first | exact q3 | exact fun _ => rfl), (by first | exact q4 | exact fun _ => rfl), (fun e => own_put (q5 e) (by omega)), (by first | exact q6 | exact fun _ => rfl), (fun _ => rfl)⟩
  · rintro l a wr ⟨b0, b1, b2, b3, b4, b5, b6, b7, b8, b9, x3, x4, x5, x6, x7, x8, x9, x10, x11, s0, s1, rfl, rfl, hB, hX, hZ, i_s0, f_s0, i_s1, f_s1, t1, t2, t4, t5, t7, t9, q0, q1, q2, q3, q4, q5, q6, q8⟩ hr
    have u0 : b0 = true := by
      cases hb : b0 with
      | true => rfl
      | false => exact (ready_no hr (i := 0) rfl hb (by simp [Region.binds])).elim
    have u1 : b1 = true := by
      cases hb : b1 with
      | true => rfl
      | false => exact (ready_no hr (i := 1) rfl hb (by simp [Region.binds, u0])).elim
    have u2 : b2 = true := by
      cases hb : b2 with
      | true => rfl
      | false => exact (ready_no hr (i := 2) rfl hb (by simp [Region.binds, u0, u1])).elim
    have u3 : b3 = true := by
      cases hb : b3 with
      | true => rfl
      | false => exact (ready_no hr (i := 3) rfl hb (by simp [Region.binds, u0, u1, u2])).elim
    have u4 : b4 = true := by
      cases hb : b4 with
      | true => rfl
      | false => exact (ready_no hr (i := 4) rfl hb (by simp [Region.binds, u0, u1, u2, u3])).elim
    have u5 : b5 = true := by
      cases hb : b5 with
      | true => rfl
      | false => exact (ready_no hr (i := 5) rfl hb (by simp [Region.binds, u0, u1, u2, u3, u4])).elim
    have u6 : b6 = true := by
      cases hb : b6 with
      | true => rfl
      | false => exact (ready_no hr (i := 6) rfl hb (by simp [Region.binds, u0, u1, u2, u3, u4, u5])).elim
    have u7 : b7 = true := by
      cases hb : b7 with
      | true => rfl
      | false => exact (ready_no hr (i := 7) rfl hb (by simp [Region.binds, u0, u1, u2, u3, u4, u5, u6])).elim
    have u8 : b8 = true := by
      cases hb : b8 with
      | true => rfl
      | false => exact (ready_no hr (i := 8) rfl hb (by simp [Region.binds, u0, u1, u2, u3, u4, u5, u6, u7])).elim
    have u9 : b9 = true := by
      cases hb : b9 with
      | true => rfl
      | false => exact (ready_no hr (i := 9) rfl hb (by simp [Region.binds, u0, u1, u2, u3, u4, u5, u6, u7, u8])).elim
    clear hr
    obtain rfl := q8 u8
    obtain rfl := q6 u6
    have o5 := q5 u5
    obtain rfl := q4 u4
    obtain rfl := q3 u3
    have o2 := q2 u2
    obtain rfl := q1 u1
    obtain rfl := q0 u0
    obtain rfl := f_s0 u7
    obtain rfl := f_s1 u9
    clear q0 q1 q2 q3 q4 q5 q6 q8 f_s0 f_s1 i_s0 i_s1 t1 t2 t4 t5 t7 t9 u0 u1 u2 u3 u4 u5 u6 u7 u8 u9
    obtain ⟨a5, k5, rfl, -, -⟩ := own_form o2
    obtain ⟨a8, k8, rfl, -, -⟩ := own_form o5
    have z0 := hX.cell (k := 0) rfl
    have z1 := hX.cell (k := 1) rfl
    have z2 := hX.cell (k := 2) rfl
    have v0 := hZ.cell (k := 0) rfl
    have v1 := hZ.cell (k := 1) rfl
    have v2 := hZ.cell (k := 2) rfl
    have y0 := hZ.free 0
    have y1 := hZ.free 1
    have y2 := hZ.free 2
    go_wp2_with fail
    have r9 := (((hZ.set_ 0 (.slice a5 n k5)).set_ 1 (.slice a8 n k8)).set_ 2 (.int .i64 p))
    have z0 := r9.cell (k := 0) rfl
    have z1 := r9.cell (k := 1) rfl
    have z2 := r9.cell (k := 2) rfl
    exact bodyPost_ret (v := kv a5 n k5 a8 n k8 p) (by simp [results, Try.results18, go_sem, z0, z1, z2]) rfl ⟨_, _, _, _, rfl, own_put3 o2 (by omega), own_put3 o5 (by omega), below_put3 hB (by omega)⟩
end Go.Proofs.Ytipjeihfhnilcaa
end
