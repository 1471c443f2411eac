import Derived.Test.YtipjeihfhnilcaaDoorMZawk
import Derived.Test.YtipjeihfhnilcaaDoorMBsop
import Derived.Test.YtipjeihfhnilcaaDoorTie
import Derived.Test.YtipjeihfhnilcaaDoorCards
import Derived.SevenTiedAt
set_option linter.unusedVariables false
set_option linter.unusedSimpArgs false
section
/-
  The law on values that were not written (chapter 8). Conditions: those of the types; the table of shapes lies as it is laid.
-/
namespace Go.Proofs.YtipjeihfhnilcaaDoor
open Go.RowKit

/-- The callee of the law. -/
def udC : Fn := ⟨1, [(8, 8)], [⟨19, 1, 0, 0, 0⟩, ⟨21, 1, 3, 0, 0⟩, ⟨15, 0, 0, 0, 0⟩, ⟨16, 0, 1, 0, 0⟩, ⟨15, 0, 0, 0, 0⟩, ⟨23, 0, 0, 0, 0⟩]⟩
/-- The bare program. -/
def udB : Pg := [⟨0, [], [⟨22, 1, 0, 0, 0⟩, ⟨23, 0, 0, 0, 0⟩]⟩, udC]
/-- The program of one call. -/
def ud1 (v : Int) : Pg := [⟨0, [], [⟨0, 2, 0, 0, v⟩, ⟨18, 0, 2, 0, 0⟩, ⟨22, 1, 0, 0, 0⟩, ⟨23, 0, 0, 0, 0⟩]⟩, udC]
/-- The program of two calls. -/
def ud2 (v : Int) : Pg := [⟨0, [], [⟨0, 2, 0, 0, v⟩, ⟨18, 0, 2, 0, 0⟩, ⟨22, 1, 0, 0, 0⟩, ⟨0, 3, 0, 0, 0⟩, ⟨18, 0, 3, 0, 0⟩, ⟨22, 1, 0, 0, 0⟩, ⟨23, 0, 0, 0, 0⟩]⟩, udC]
theorem udB_pg : pgE udB = 0 := by decide
theorem udB_kind : (runM udB [] 100).kind = 3 := by rfl
theorem udB_steps : (runM udB [] 100).steps = 2 := by rfl
theorem ud1_pg (v : Int) : pgE (ud1 v) = 0 := by
  rfl
theorem ud2_pg (v : Int) : pgE (ud2 v) = 0 := by
  rfl
theorem ud1_zero : (runM (ud1 0) [] 100).kind = 3 := by rfl
theorem ud2_zero : (runM (ud2 0) [] 100).kind = 3 := by rfl
theorem branch_step {F : Pg} {s : Mch} {a b : Int} (hn : s.next F = ⟨21, a, b, 0, 0⟩) (hr : s.fetched.reg a % 18446744073709551616 ≠ 0) : s.stepM F = s.fetched.jump b.toNat := by
  unfold Mch.stepM
  rw [hn]
  show (if s.fetched.reg a % 18446744073709551616 = 0 then s.fetched else s.fetched.jump b.toNat) = _
  rw [if_neg hr]
theorem ud1_at (v : Int) (hv : v.toNat % 18446744073709551616 ≠ 0) : runM (ud1 v) [] 100 = (iterM (ud1 v) 95 ((iterM (ud1 v) 4 (startM [])).fetched.jump 3)).fuelled := by
  have h : iterM (ud1 v) 5 (startM []) = (iterM (ud1 v) 4 (startM [])).fetched.jump 3 := by
    have e : (iterM (ud1 v) 4 (startM [])).ended = false := by kernel_rfl
    have r : (iterM (ud1 v) 4 (startM [])).fetched.reg 1 = v.toNat := by kernel_rfl
    have q : Mch.next (ud1 v) (iterM (ud1 v) 4 (startM [])) = ⟨21, 1, 3, 0, 0⟩ := by kernel_rfl
    rw [iterM_succ (F := ud1 v) 4 (startM []), if_neg (by rw [e]; decide)]
    exact branch_step (a := 1) (b := 3) q (by rw [r]; exact hv)
  unfold runM
  rw [show 100 = 5 + 95 from rfl, iterM_add, h]
theorem ud2_at (v : Int) (hv : v.toNat % 18446744073709551616 ≠ 0) : runM (ud2 v) [] 100 = (iterM (ud2 v) 95 ((iterM (ud2 v) 4 (startM [])).fetched.jump 3)).fuelled := by
  have h : iterM (ud2 v) 5 (startM []) = (iterM (ud2 v) 4 (startM [])).fetched.jump 3 := by
    have e : (iterM (ud2 v) 4 (startM [])).ended = false := by kernel_rfl
    have r : (iterM (ud2 v) 4 (startM [])).fetched.reg 1 = v.toNat := by kernel_rfl
    have q : Mch.next (ud2 v) (iterM (ud2 v) 4 (startM [])) = ⟨21, 1, 3, 0, 0⟩ := by kernel_rfl
    rw [iterM_succ (F := ud2 v) 4 (startM []), if_neg (by rw [e]; decide)]
    exact branch_step (a := 1) (b := 3) q (by rw [r]; exact hv)
  unfold runM
  rw [show 100 = 5 + 95 from rfl, iterM_add, h]
theorem ud1_kind (v : Int) (hv : v.toNat % 18446744073709551616 ≠ 0) : (runM (ud1 v) [] 100).kind = 0 := by
  rw [ud1_at v hv]; kernel_rfl
theorem ud1_res (v : Int) (hv : v.toNat % 18446744073709551616 ≠ 0) : (runM (ud1 v) [] 100).res = truncV v.toNat 8 := by
  rw [ud1_at v hv]; kernel_rfl
theorem ud2_kind (v : Int) (hv : v.toNat % 18446744073709551616 ≠ 0) : (runM (ud2 v) [] 100).kind = 3 := by
  rw [ud2_at v hv]; kernel_rfl
end Go.Proofs.YtipjeihfhnilcaaDoor
end

section
/-
  The walk of the law on values that were not written (chapter 8). Conditions: those of the types; the table of shapes lies as it is laid.
-/
namespace Go.Proofs.YtipjeihfhnilcaaDoor
open Go.RowKit

theorem Tryd.info48u : (Tryd.prog.info? 48).map (fun i => (i.zero, i.size, i.bytes)) = some (some (.agg #[.int .i64 0, .int .i64 0, .int .i64 0, .int .i64 0, .int .u64 0]), 5, 40) := by kernel_rfl
/-- The callee's head. -/
def udH (E : Nat) : Hd := ⟨1, some ⟨E, 0, none⟩, 1, 1, some ⟨E + 1, 0, none⟩, 6, 6⟩
theorem ud_hd {w : World} {E B : Nat} (hE : E + 1 < B) (r0 : Row w E 57 [.int .i64 8, .int .i64 8]) (r1 : Row w (E + 1) 48 (icells udC.code)) : HdAt w 0 B (udH E) udC :=
  ⟨rfl, rfl, rfl, zcap_some _ (Nat.le_refl 1) (show 1 ≤ 8796093022208 by decide), zcap_some _ (Nat.le_refl 6) (show 6 ≤ 8796093022208 by decide), Far.zero _, Far.zero _, fun k u hu => ⟨E, 0, rfl, by omega, by rw [Nat.zero_add]; exact r0.cell hu⟩, fun k u hu => ⟨E + 1, 0, rfl, hE, by rw [Nat.zero_add]; exact r1.cell hu⟩⟩
/-- Behind the callee's blocks. -/
theorem ud_three (w1 : World) : ∃ W, ((w1.alloc (.cells #[.int .i64 8, .int .i64 8] 57)).alloc (.cells #[.int .i64 19, .int .i64 1, .int .i64 0, .int .i64 0, .int .u64 0, .int .i64 21, .int .i64 1, .int .i64 3, .int .i64 0, .int .u64 0, .int .i64 15, .int .i64 0, .int .i64 0, .int .i64 0, .int .u64 0, .int .i64 16, .int .i64 0, .int .i64 1, .int .i64 0, .int .u64 0, .int .i64 15, .int .i64 0, .int .i64 0, .int .i64 0, .int .u64 0, .int .i64 23, .int .i64 0, .int .i64 0, .int .i64 0, .int .u64 0] 48)).alloc (.cells #[.int .i64 1, .slice (some ⟨w1.heap.size, 0, none⟩) 1 1, .slice (some ⟨w1.heap.size + 1, 0, none⟩) 6 6] 52) = W ∧ Below w1.heap.size w1 W ∧ W.heap.size = w1.heap.size + 3 ∧
    HdAt W 0 W.heap.size (udH w1.heap.size) udC ∧ Row W (w1.heap.size + 1 + 1) 52 [.int .i64 1, .slice (some ⟨w1.heap.size, 0, none⟩) 1 1, .slice (some ⟨w1.heap.size + 1, 0, none⟩) 6 6] := by
  have R0 := Row.new w1 57 [.int .i64 8, .int .i64 8]
  have R1 := Row.new (w1.alloc (.cells #[.int .i64 8, .int .i64 8] 57)) 48 (icells udC.code)
  rw [show (w1.alloc (.cells #[.int .i64 8, .int .i64 8] 57)).heap.size = w1.heap.size + 1 by simp] at R1
  have R2 := Row.new ((w1.alloc (.cells #[.int .i64 8, .int .i64 8] 57)).alloc (.cells #[.int .i64 19, .int .i64 1, .int .i64 0, .int .i64 0, .int .u64 0, .int .i64 21, .int .i64 1, .int .i64 3, .int .i64 0, .int .u64 0, .int .i64 15, .int .i64 0, .int .i64 0, .int .i64 0, .int .u64 0, .int .i64 16, .int .i64 0, .int .i64 1, .int .i64 0, .int .u64 0, .int .i64 15, .int .i64 0, .int .i64 0, .int .i64 0, .int .u64 0, .int .i64 23, .int .i64 0, .int .i64 0, .int .i64 0, .int .u64 0] 48)) 52 [.int .i64 1, .slice (some ⟨w1.heap.size, 0, none⟩) 1 1, .slice (some ⟨w1.heap.size + 1, 0, none⟩) 6 6]
  rw [show ((w1.alloc (.cells #[.int .i64 8, .int .i64 8] 57)).alloc (.cells #[.int .i64 19, .int .i64 1, .int .i64 0, .int .i64 0, .int .u64 0, .int .i64 21, .int .i64 1, .int .i64 3, .int .i64 0, .int .u64 0, .int .i64 15, .int .i64 0, .int .i64 0, .int .i64 0, .int .u64 0, .int .i64 16, .int .i64 0, .int .i64 1, .int .i64 0, .int .u64 0, .int .i64 15, .int .i64 0, .int .i64 0, .int .i64 0, .int .u64 0, .int .i64 23, .int .i64 0, .int .i64 0, .int .i64 0, .int .u64 0] 48)).heap.size = w1.heap.size + 1 + 1 by simp] at R2
  refine ⟨_, rfl, (below2 w1 _ _).alloc (below2 w1 _ _).size _, by simp, ud_hd (by simp) ((R0.alloc _).alloc _) (R1.alloc _), R2⟩
theorem new_row {w : World} {xs : List Value} {t : TypeId} : ∀ (j : Nat) (u : Value), xs[j]? = some u → (w.alloc (.cells xs.toArray t)).cell? ((⟨w.heap.size, 0, none⟩ : Addr).add j) = some u := by
  intro j u hu
  rw [WideShapes.add_plain, Nat.zero_add]
  exact (Row.new w t xs).cell hu
/-- A program of two functions. -/
theorem two_pg {w : World} {G B : Nat} {a b : Hd} {f g : Fn} (hG : G < B) (q : Row w G 52 (hcells [a, b])) (ha : HdAt w 0 B a f) (hb : HdAt w 0 B b g) : PgAt w 0 B (some ⟨G, 0, none⟩) 2 2 [a, b] [f, g] :=
  ⟨rfl, zcap_some _ (Nat.le_refl 2) (show 2 ≤ 8796093022208 by decide), Far.zero _, fun k u hu => ⟨G, 0, rfl, hG, by rw [Nat.zero_add]; exact q.cell hu⟩, ⟨rfl, fun j h f h1 h2 => by
    rcases j with _ | _ | j
    · injection h1 with h1; injection h2 with h2
      subst h1; subst h2
      exact ha
    · injection h1 with h1; injection h2 with h2
      subst h1; subst h2
      exact hb
    · simp at h1⟩⟩
theorem ud1_imm {v : Int} (h0 : 0 ≤ v) (h1 : v ≤ 18446744073709551615) : ImmF (ud1 v) := by
  intro f hf x hx
  simp [ud1, udC] at hf
  rcases hf with rfl | rfl
  · simp at hx
    rcases hx with rfl | rfl | rfl | rfl <;> constructor <;> simp <;> omega
  · simp at hx
    rcases hx with rfl | rfl | rfl | rfl | rfl | rfl <;> constructor <;> simp
theorem udB_imm : ImmF udB := by
  intro f hf x hx
  simp [udB, udC] at hf
  rcases hf with rfl | rfl
  · simp at hx
    rcases hx with rfl | rfl <;> constructor <;> simp
  · simp at hx
    rcases hx with rfl | rfl | rfl | rfl | rfl | rfl <;> constructor <;> simp
theorem ud_runE {F : Pg} (h : pgE F = 0) : runE F 100 = 0 := by
  unfold runE
  rw [if_neg (by rw [h]; decide), if_pos (by decide)]
theorem ud_runS {F : Pg} (h : pgE F = 0) : runS F [] 100 = runM F [] 100 := by
  unfold runS
  rw [if_pos (ud_runE h)]
  rfl
theorem ud2_imm {v : Int} (h0 : 0 ≤ v) (h1 : v ≤ 18446744073709551615) : ImmF (ud2 v) := by
  intro f hf x hx
  simp [ud2, udC] at hf
  rcases hf with rfl | rfl
  · simp at hx
    rcases hx with rfl | rfl | rfl | rfl | rfl | rfl | rfl <;> constructor <;> simp <;> omega
  · simp at hx
    rcases hx with rfl | rfl | rfl | rfl | rfl | rfl <;> constructor <;> simp
theorem ud2_ends (v : Int) (h0 : 0 ≤ v) (h1 : v ≤ 18446744073709551615) : (runM (ud2 v) [] 100).kind = 3 := by
  by_cases e : v = 0
  · subst e; exact ud2_zero
  · exact ud2_kind v (by omega)
theorem ud1_ends (v : Int) (h0 : 0 ≤ v) (h1 : v ≤ 18446744073709551615) : (v = 0 → (runM (ud1 v) [] 100).kind = 3) ∧ (v ≠ 0 → (runM (ud1 v) [] 100).kind = 0 ∧ lo (runM (ud1 v) [] 100).res = v) := by
  refine ⟨fun e => by subst e; exact ud1_zero, fun e => ?_⟩
  have hv : v.toNat % 18446744073709551616 ≠ 0 := by omega
  refine ⟨ud1_kind v hv, ?_⟩
  rw [ud1_res v hv]
  have : truncV v.toNat 8 = v.toNat % 18446744073709551616 := rfl
  rw [this]
  unfold lo
  omega
theorem hd_below {w w' : World} {B : Nat} {h : Hd} {f : Fn} (H : HdAt w 0 B h f) (hb : Below B w w') : HdAt w' 0 B h f := H.keep fun _ _ hp => hb.cell hp
set_option maxRecDepth 100000 in
set_option maxHeartbeats 4000000 in
theorem udlaw_no (v : Int) (w : World) (h0 : 0 ≤ v) (h1 : v ≤ 18446744073709551615) (hSh : Hid (Shapes w)) :
    Calls Tryd.prog 7 #[.int .u64 v, .bool false] w fun e w' => e = .returned (.bool true) ∧ Below w.heap.size w w' := by
  obtain ⟨i0, hinf, hz0, hz1, hz2⟩ := info_parts Tryd.info48u
  go_enter Tryd.func7, Tryd.ntmps7
  go_wp2_with fail
  refine (awake8_any w hSh).mono ?_
  rintro e w1 ⟨rfl, hb1⟩
  have HB1 := hide hb1
  clear hb1
  obtain ⟨Wa, hWa, hba, hza, hca, rba⟩ := ud_three w1
  have HWa := hide hWa
  have Hba := hide (HB1.out.trans (hba.mono HB1.out.size))
  have Hca := hide hca
  have Rba := hide rba
  have Hza := hide hza
  clear hza
  clear hWa hba hca rba
  go_upto_region 4 with fail
  rw [HWa.out]
  clear HWa
  go_upto_region 5 with fail
  obtain ⟨Wb, hWb⟩ : ∃ Wb, Wa.alloc (.cells #[.int .i64 0, .int .i64 2, .int .i64 0, .int .i64 0, .int .u64 v, .int .i64 18, .int .i64 0, .int .i64 2, .int .i64 0, .int .u64 0, .int .i64 22, .int .i64 1, .int .i64 0, .int .i64 0, .int .u64 0] 48) = Wb := ⟨_, rfl⟩
  rw [hWb]
  have Hob : Hid (Wb.ownsRow Wa.heap.size 48 5 (.slice (some ⟨Wa.heap.size, 0, none⟩) 3 3) 3 (icells [⟨0, 2, 0, 0, v⟩, ⟨18, 0, 2, 0, 0⟩, ⟨22, 1, 0, 0, 0⟩])) := hide (by
    rw [← hWb]
    exact ⟨rfl, .inr ⟨Wa.heap.size, 3, _, rfl, Nat.le_refl _, Row.new Wa _ (icells [⟨0, 2, 0, 0, v⟩, ⟨18, 0, 2, 0, 0⟩, ⟨22, 1, 0, 0, 0⟩]), by decide, by decide, rfl, rfl⟩⟩)
  have HbW := hide (show Below Wa.heap.size Wa Wb by rw [← hWb]; exact below1 Wa _)
  have Hsb := hide (show Wb.heap.size = Wa.heap.size + 1 by rw [← hWb]; simp)
  clear hWb
  go_wp2_with (at_builtin; refine wpList_append_own _ rfl (.tmp 35) (.tmp 37) 49 rfl Wa.heap.size 48 i0 (.agg #[.int .i64 0, .int .i64 0, .int .i64 0, .int .i64 0, .int .u64 0]) 5 40 Tryd.underlying49 hinf hz0 hz1 hz2 rfl (by decide) (.slice (some ⟨Wa.heap.size, 0, none⟩) 3 3) 3 (icells [⟨0, 2, 0, 0, v⟩, ⟨18, 0, 2, 0, 0⟩, ⟨22, 1, 0, 0, 0⟩]) rfl (Hob.out.alloc _) ⟨Wb.heap.size, 0, none⟩ 1 1 (icells [⟨23, 0, 0, 0, 0⟩]) rfl rfl new_row (icells_oneCell _) (by decide) (by decide) (by simp; have := Hsb.out; omega) ?_)
  intro v5 w5 ho5 hg5 _
  obtain ⟨A5, c5, rfl, hA5, hn5, hfar5, hs5⟩ := own_seen ho5
  have Hb5 := hide (show Below Wa.heap.size Wa w5 from (HbW.out.alloc HbW.out.size _).grown hg5 (by simp; have := Hsb.out; omega) (fun k hk => by have e : some Wa.heap.size = some k := hk; injection e with e; omega))
  have H5 := hide hs5
  have HA5 := hide hA5
  have rb5 := hide (Rba.out.below Hb5.out (by have := Hza.out; omega))
  have x0 := rb5.out.cell (k := 0) rfl
  have x1 := rb5.out.cell (k := 1) rfl
  have x2 := rb5.out.cell (k := 2) rfl
  clear ho5 hg5 hs5 hA5 Hob HbW hfar5
  go_wp2_with fail
  obtain ⟨W6, hW6⟩ : ∃ W6, w5.alloc (.cells #[.int .i64 0, .slice none 0 0, .slice A5 4 c5, .int .i64 1, .slice (some ⟨w1.heap.size, 0, none⟩) 1 1, .slice (some ⟨w1.heap.size + 1, 0, none⟩) 6 6] 52) = W6 := ⟨_, rfl⟩
  rw [hW6]
  have hb56 : Below w5.heap.size w5 W6 := by rw [← hW6]; exact below1 w5 _
  have q6 : Row W6 w5.heap.size 52 (hcells [⟨0, none, 0, 0, A5, 4, c5⟩, udH w1.heap.size]) := by rw [← hW6]; exact Row.new w5 _ (hcells [⟨0, none, 0, 0, A5, 4, c5⟩, udH w1.heap.size])
  have hm5 : HdAt w5 0 w5.heap.size ⟨0, none, 0, 0, A5, 4, c5⟩ ⟨0, [], [⟨0, 2, 0, 0, v⟩, ⟨18, 0, 2, 0, 0⟩, ⟨22, 1, 0, 0, 0⟩, ⟨23, 0, 0, 0, 0⟩]⟩ :=
    ⟨rfl, rfl, rfl, zcap_none, ⟨HA5.out, hn5, (show 4 ≤ 8796093022208 by decide)⟩, Far.zero _, Far.zero _, Sees.nil_ _ _ _, H5.out⟩
  have hc6 := (hd_below (hd_below Hca.out Hb5.out) (hb56.mono Hb5.out.size)).more (Nat.le_trans Hb5.out.size hb56.size) (Nat.le_refl 0)
  have HP6 := hide (two_pg q6.lt q6 ((hd_below hm5 hb56).more hb56.size (Nat.le_refl 0)) hc6)
  have hs6 := Hba.out.trans ((Hb5.out.trans (hb56.mono Hb5.out.size)).mono Hba.out.size)
  have HS6 := hide (hSh.out.below hs6)
  have HB6 := hide hs6
  have R6 := hide (rb5.out.call hb56)
  have Hc6 := hide hc6
  have cr := out_any (ud1 v) [] 100 none 0 0 W6 (hide (ud1_imm h0 h1)) (hide (in_nil _ _)) (hide (fun v hv => by cases hv)) HP6 HS6
  clear hW6 hb56 q6 hm5 hc6 hs6 H5 HA5 rb5 x0 x1 x2
  refine cr.mono ?_
  rintro e w7 ⟨vt, rfl, hto, hb7⟩
  obtain ⟨hK0, hK1⟩ := ud1_ends v h0 h1
  rw [ud_runE (ud1_pg v), ud_runS (ud1_pg v)]
  rw [ud_runS (ud1_pg v)] at hto
  have HY : (ocells (runM (ud1 v) [] 100) vt).toArray = #[.int .i64 (runM (ud1 v) [] 100).kind, .int .u64 (runM (ud1 v) [] 100).code, .int .u64 (lo (runM (ud1 v) [] 100).res), .int .u64 (hi (runM (ud1 v) [] 100).res), vt, .int .i64 ((runM (ud1 v) [] 100).steps : Int)] := rfl
  rw [HY]
  have hvt := own_oneCell hto
  clear HY hto
  generalize (runM (ud1 v) [] 100).kind = K at hK0 hK1 ⊢
  generalize (runM (ud1 v) [] 100).code = C
  generalize lo (runM (ud1 v) [] 100).res = L at hK1 ⊢
  generalize hi (runM (ud1 v) [] 100).res = R
  generalize ((runM (ud1 v) [] 100).steps : Int) = S
  obtain ⟨W8, hst, RO, hb8⟩ := put_outcome w7 [.int .i64 K, .int .u64 C, .int .u64 L, .int .u64 R, vt, .int .i64 S] rfl (outl_one hvt)
  have hb78 := hb7.trans (hb8.mono hb7.size)
  have R8 := hide (R6.out.call hb78)
  have x0 : ∀ o : Obj, (W8.alloc o).cell? ⟨w1.heap.size + 1 + 1, 0, none⟩ = some (.int .i64 1) := fun o => (R8.out.alloc o).cell (k := 0) rfl
  have x1 : ∀ o : Obj, (W8.alloc o).cell? ⟨w1.heap.size + 1 + 1, 1, none⟩ = some (.slice (some ⟨w1.heap.size, 0, none⟩) 1 1) := fun o => (R8.out.alloc o).cell (k := 1) rfl
  have x2 : ∀ o : Obj, (W8.alloc o).cell? ⟨w1.heap.size + 1 + 1, 2, none⟩ = some (.slice (some ⟨w1.heap.size + 1, 0, none⟩) 6 6) := fun o => (R8.out.alloc o).cell (k := 2) rfl
  have Hc8 := hide (hd_below Hc6.out hb78)
  have HB8 := hide (HB6.out.trans (hb78.mono HB6.out.size))
  have HK0 := hide hK0
  have HK1 := hide hK1
  have HRO := hide RO
  clear hb7 hb8 hK0 hK1 RO cr
  go_wp2_with (first | (refine wpList_store_whole 36 (.tmp 7) (.tmp 46) rfl rfl _ _ rfl rfl hst ?_) | fail)
  obtain ⟨W9, hW9⟩ : ∃ W9, (W8.alloc (.cells #[.int .i64 22, .int .i64 1, .int .i64 0, .int .i64 0, .int .u64 0, .int .i64 23, .int .i64 0, .int .i64 0, .int .i64 0, .int .u64 0] 48)).alloc (.cells #[.int .i64 0, .slice none 0 0, .slice (some ⟨W8.heap.size, 0, none⟩) 2 2, .int .i64 1, .slice (some ⟨w1.heap.size, 0, none⟩) 1 1, .slice (some ⟨w1.heap.size + 1, 0, none⟩) 6 6] 52) = W9 := ⟨_, rfl⟩
  rw [hW9]
  have hb89 : Below W8.heap.size W8 W9 := by rw [← hW9]; exact below2 W8 _ _
  have q9a : Row W9 W8.heap.size 48 (icells [⟨22, 1, 0, 0, 0⟩, ⟨23, 0, 0, 0, 0⟩]) := by rw [← hW9]; exact (Row.new W8 _ (icells [⟨22, 1, 0, 0, 0⟩, ⟨23, 0, 0, 0, 0⟩])).alloc _
  have q9b : Row W9 (W8.heap.size + 1) 52 (hcells [⟨0, none, 0, 0, some ⟨W8.heap.size, 0, none⟩, 2, 2⟩, udH w1.heap.size]) := by
    rw [← hW9]
    have := Row.new (W8.alloc (.cells #[.int .i64 22, .int .i64 1, .int .i64 0, .int .i64 0, .int .u64 0, .int .i64 23, .int .i64 0, .int .i64 0, .int .i64 0, .int .u64 0] 48)) 52 (hcells [⟨0, none, 0, 0, some ⟨W8.heap.size, 0, none⟩, 2, 2⟩, udH w1.heap.size])
    rw [show (W8.alloc (.cells #[.int .i64 22, .int .i64 1, .int .i64 0, .int .i64 0, .int .u64 0, .int .i64 23, .int .i64 0, .int .i64 0, .int .i64 0, .int .u64 0] 48)).heap.size = W8.heap.size + 1 by simp] at this
    exact this
  have hc9 := (hd_below Hc8.out (hb89.mono hb78.size)).more (Nat.le_trans hb78.size hb89.size) (Nat.le_refl 0)
  have HP9 := hide (two_pg q9b.lt q9b (code_hd q9a.lt 0 _ rfl (by decide) q9a) hc9)
  have hs9 := HB8.out.trans (hb89.mono HB8.out.size)
  have HS9 := hide (hSh.out.below hs9)
  have HB9 := hide hs9
  have RO9 := hide (HRO.out.call hb89)
  have cr := out_any udB [] 100 none 0 0 W9 (hide udB_imm) (hide (in_nil _ _)) (hide (fun v hv => by cases hv)) HP9 HS9
  clear hW9 hb89 q9a q9b hc9 hs9 x0 x1 x2 HRO
  refine cr.mono ?_
  rintro e w10 ⟨vt2, rfl, hto, hb10⟩
  rw [ud_runE udB_pg, ud_runS udB_pg]
  rw [ud_runS udB_pg] at hto
  have HY : (ocells (runM udB [] 100) vt2).toArray = #[.int .i64 3, .int .u64 (runM udB [] 100).code, .int .u64 (lo (runM udB [] 100).res), .int .u64 (hi (runM udB [] 100).res), vt2, .int .i64 2] := by unfold ocells; rw [udB_kind, udB_steps]; rfl
  rw [HY]
  have hvt2 := own_oneCell hto
  clear HY hto
  generalize (runM udB [] 100).code = C2
  generalize lo (runM udB [] 100).res = L2
  generalize hi (runM udB [] 100).res = R2
  obtain ⟨W11, hst2, RO2, hb11⟩ := put_outcome w10 [.int .i64 3, .int .u64 C2, .int .u64 L2, .int .u64 R2, vt2, .int .i64 2] rfl (outl_one hvt2)
  have hb911 := hb10.trans (hb11.mono hb10.size)
  have RO1 := RO9.out.call hb911
  have x0 := RO1.cell (k := 0) rfl
  have x2 := RO1.cell (k := 2) rfl
  have y0 := RO2.cell (k := 0) rfl
  have y5 := RO2.cell (k := 5) rfl
  have HB11 := hide (HB9.out.trans (hb911.mono HB9.out.size))
  have hcase : (v = 0 ∧ K = 3) ∨ (v ≠ 0 ∧ K = 0 ∧ L = v) := by
    by_cases e : v = 0
    · exact .inl ⟨e, HK0.out e⟩
    · exact .inr ⟨e, HK1.out e⟩
  clear hb10 hb11 hb911 RO1 RO2 RO9 cr HK0 HK1
  rcases hcase with ⟨hv0, rfl⟩ | ⟨hv0, rfl, rfl⟩
  all_goals
    go_wp2_with (first | (refine wpList_store_whole 36 (.tmp 9) (.tmp 57) rfl rfl _ _ rfl rfl hst2 ?_) | fail)
    exact bodyPost_ret (results_tmp rfl _ _ _) rfl ⟨rfl, HB11.out⟩
set_option maxRecDepth 100000 in
set_option maxHeartbeats 4000000 in
theorem udlaw_yes (v : Int) (w : World) (h0 : 0 ≤ v) (h1 : v ≤ 18446744073709551615) (hSh : Hid (Shapes w)) :
    Calls Tryd.prog 7 #[.int .u64 v, .bool true] w fun e w' => e = .returned (.bool true) ∧ Below w.heap.size w w' := by
  obtain ⟨i0, hinf, hz0, hz1, hz2⟩ := info_parts Tryd.info48u
  go_enter Tryd.func7, Tryd.ntmps7
  go_wp2_with fail
  refine (awake8_any w hSh).mono ?_
  rintro e w1 ⟨rfl, hb1⟩
  have HB1 := hide hb1
  clear hb1
  obtain ⟨Wa, hWa, hba, hza, hca, rba⟩ := ud_three w1
  have HWa := hide hWa
  have Hba := hide (HB1.out.trans (hba.mono HB1.out.size))
  have Hca := hide hca
  have Rba := hide rba
  have Hza := hide hza
  clear hza
  clear hWa hba hca rba
  go_upto_region 4 with fail
  rw [HWa.out]
  clear HWa
  go_upto_region 5 with fail
  obtain ⟨Wb, hWb⟩ : ∃ Wb, Wa.alloc (.cells #[.int .i64 0, .int .i64 2, .int .i64 0, .int .i64 0, .int .u64 v, .int .i64 18, .int .i64 0, .int .i64 2, .int .i64 0, .int .u64 0, .int .i64 22, .int .i64 1, .int .i64 0, .int .i64 0, .int .u64 0] 48) = Wb := ⟨_, rfl⟩
  rw [hWb]
  have Hob : Hid (Wb.ownsRow Wa.heap.size 48 5 (.slice (some ⟨Wa.heap.size, 0, none⟩) 3 3) 3 (icells [⟨0, 2, 0, 0, v⟩, ⟨18, 0, 2, 0, 0⟩, ⟨22, 1, 0, 0, 0⟩])) := hide (by
    rw [← hWb]
    exact ⟨rfl, .inr ⟨Wa.heap.size, 3, _, rfl, Nat.le_refl _, Row.new Wa _ (icells [⟨0, 2, 0, 0, v⟩, ⟨18, 0, 2, 0, 0⟩, ⟨22, 1, 0, 0, 0⟩]), by decide, by decide, rfl, rfl⟩⟩)
  have HbW := hide (show Below Wa.heap.size Wa Wb by rw [← hWb]; exact below1 Wa _)
  have Hsb := hide (show Wb.heap.size = Wa.heap.size + 1 by rw [← hWb]; simp)
  clear hWb
  go_wp2_with (at_builtin; refine wpList_append_own _ rfl (.tmp 29) (.tmp 33) 49 rfl Wa.heap.size 48 i0 (.agg #[.int .i64 0, .int .i64 0, .int .i64 0, .int .i64 0, .int .u64 0]) 5 40 Tryd.underlying49 hinf hz0 hz1 hz2 rfl (by decide) (.slice (some ⟨Wa.heap.size, 0, none⟩) 3 3) 3 (icells [⟨0, 2, 0, 0, v⟩, ⟨18, 0, 2, 0, 0⟩, ⟨22, 1, 0, 0, 0⟩]) rfl (Hob.out.alloc _) ⟨Wb.heap.size, 0, none⟩ 3 3 (icells [⟨0, 3, 0, 0, 0⟩, ⟨18, 0, 3, 0, 0⟩, ⟨22, 1, 0, 0, 0⟩]) rfl rfl new_row (icells_oneCell _) (by decide) (by decide) (by simp; have := Hsb.out; omega) ?_)
  intro v4 w4 ho4 hg4 _
  have Ho4 := hide ho4
  have Hb4 := hide (show Below Wa.heap.size Wa w4 from (HbW.out.alloc HbW.out.size _).grown hg4 (by simp; have := Hsb.out; omega) (fun k hk => by have e : some Wa.heap.size = some k := hk; injection e with e; omega))
  clear ho4 hg4 Hob HbW
  go_wp2_with (at_builtin; refine wpList_append_own _ rfl (.tmp 35) (.tmp 37) 49 rfl Wa.heap.size 48 i0 (.agg #[.int .i64 0, .int .i64 0, .int .i64 0, .int .i64 0, .int .u64 0]) 5 40 Tryd.underlying49 hinf hz0 hz1 hz2 rfl (by decide) v4 6 (icells [⟨0, 2, 0, 0, v⟩, ⟨18, 0, 2, 0, 0⟩, ⟨22, 1, 0, 0, 0⟩, ⟨0, 3, 0, 0, 0⟩, ⟨18, 0, 3, 0, 0⟩, ⟨22, 1, 0, 0, 0⟩]) rfl (Ho4.out.alloc _) ⟨w4.heap.size, 0, none⟩ 1 1 (icells [⟨23, 0, 0, 0, 0⟩]) rfl rfl new_row (icells_oneCell _) (by decide) (by decide) (by simp; have := Hb4.out.size; omega) ?_)
  intro v5 w5 ho5 hg5 _
  obtain ⟨A5, c5, rfl, hA5, hn5, hfar5, hs5⟩ := own_seen ho5
  have Hb5 := hide (show Below Wa.heap.size Wa w5 from (Hb4.out.alloc Hb4.out.size _).grown hg5 (by simp; have := Hb4.out.size; omega) (fun k hk => (Ho4.out.lt k hk).1))
  have H5 := hide hs5
  have HA5 := hide hA5
  have rb5 := hide (Rba.out.below Hb5.out (by have := Hza.out; omega))
  have x0 := rb5.out.cell (k := 0) rfl
  have x1 := rb5.out.cell (k := 1) rfl
  have x2 := rb5.out.cell (k := 2) rfl
  clear ho5 hg5 hs5 hA5 hfar5
  go_wp2_with fail
  obtain ⟨W6, hW6⟩ : ∃ W6, w5.alloc (.cells #[.int .i64 0, .slice none 0 0, .slice A5 7 c5, .int .i64 1, .slice (some ⟨w1.heap.size, 0, none⟩) 1 1, .slice (some ⟨w1.heap.size + 1, 0, none⟩) 6 6] 52) = W6 := ⟨_, rfl⟩
  rw [hW6]
  have hb56 : Below w5.heap.size w5 W6 := by rw [← hW6]; exact below1 w5 _
  have q6 : Row W6 w5.heap.size 52 (hcells [⟨0, none, 0, 0, A5, 7, c5⟩, udH w1.heap.size]) := by rw [← hW6]; exact Row.new w5 _ (hcells [⟨0, none, 0, 0, A5, 7, c5⟩, udH w1.heap.size])
  have hm5 : HdAt w5 0 w5.heap.size ⟨0, none, 0, 0, A5, 7, c5⟩ ⟨0, [], [⟨0, 2, 0, 0, v⟩, ⟨18, 0, 2, 0, 0⟩, ⟨22, 1, 0, 0, 0⟩, ⟨0, 3, 0, 0, 0⟩, ⟨18, 0, 3, 0, 0⟩, ⟨22, 1, 0, 0, 0⟩, ⟨23, 0, 0, 0, 0⟩]⟩ :=
    ⟨rfl, rfl, rfl, zcap_none, ⟨HA5.out, hn5, (show 7 ≤ 8796093022208 by decide)⟩, Far.zero _, Far.zero _, Sees.nil_ _ _ _, H5.out⟩
  have hc6 := (hd_below (hd_below Hca.out Hb5.out) (hb56.mono Hb5.out.size)).more (Nat.le_trans Hb5.out.size hb56.size) (Nat.le_refl 0)
  have HP6 := hide (two_pg q6.lt q6 ((hd_below hm5 hb56).more hb56.size (Nat.le_refl 0)) hc6)
  have hs6 := Hba.out.trans ((Hb5.out.trans (hb56.mono Hb5.out.size)).mono Hba.out.size)
  have HS6 := hide (hSh.out.below hs6)
  have HB6 := hide hs6
  have R6 := hide (rb5.out.call hb56)
  have Hc6 := hide hc6
  have cr := out_any (ud2 v) [] 100 none 0 0 W6 (hide (ud2_imm h0 h1)) (hide (in_nil _ _)) (hide (fun v hv => by cases hv)) HP6 HS6
  clear hW6 hb56 q6 hm5 hc6 hs6 H5 HA5 rb5 x0 x1 x2
  refine cr.mono ?_
  rintro e w7 ⟨vt, rfl, hto, hb7⟩
  have hK0 := ud2_ends v h0 h1
  rw [ud_runE (ud2_pg v), ud_runS (ud2_pg v)]
  rw [ud_runS (ud2_pg v)] at hto
  have HY : (ocells (runM (ud2 v) [] 100) vt).toArray = #[.int .i64 (runM (ud2 v) [] 100).kind, .int .u64 (runM (ud2 v) [] 100).code, .int .u64 (lo (runM (ud2 v) [] 100).res), .int .u64 (hi (runM (ud2 v) [] 100).res), vt, .int .i64 ((runM (ud2 v) [] 100).steps : Int)] := rfl
  rw [HY]
  have hvt := own_oneCell hto
  clear HY hto
  generalize (runM (ud2 v) [] 100).kind = K at hK0 ⊢
  generalize (runM (ud2 v) [] 100).code = C
  generalize lo (runM (ud2 v) [] 100).res = L
  generalize hi (runM (ud2 v) [] 100).res = R
  generalize ((runM (ud2 v) [] 100).steps : Int) = S
  obtain ⟨W8, hst, RO, hb8⟩ := put_outcome w7 [.int .i64 K, .int .u64 C, .int .u64 L, .int .u64 R, vt, .int .i64 S] rfl (outl_one hvt)
  have hb78 := hb7.trans (hb8.mono hb7.size)
  have R8 := hide (R6.out.call hb78)
  have x0 : ∀ o : Obj, (W8.alloc o).cell? ⟨w1.heap.size + 1 + 1, 0, none⟩ = some (.int .i64 1) := fun o => (R8.out.alloc o).cell (k := 0) rfl
  have x1 : ∀ o : Obj, (W8.alloc o).cell? ⟨w1.heap.size + 1 + 1, 1, none⟩ = some (.slice (some ⟨w1.heap.size, 0, none⟩) 1 1) := fun o => (R8.out.alloc o).cell (k := 1) rfl
  have x2 : ∀ o : Obj, (W8.alloc o).cell? ⟨w1.heap.size + 1 + 1, 2, none⟩ = some (.slice (some ⟨w1.heap.size + 1, 0, none⟩) 6 6) := fun o => (R8.out.alloc o).cell (k := 2) rfl
  have Hc8 := hide (hd_below Hc6.out hb78)
  have HB8 := hide (HB6.out.trans (hb78.mono HB6.out.size))
  have HK0 := hide hK0
  have HRO := hide RO
  clear hb7 hb8 hK0 RO cr
  go_wp2_with (first | (refine wpList_store_whole 36 (.tmp 7) (.tmp 46) rfl rfl _ _ rfl rfl hst ?_) | fail)
  obtain ⟨W9, hW9⟩ : ∃ W9, (W8.alloc (.cells #[.int .i64 22, .int .i64 1, .int .i64 0, .int .i64 0, .int .u64 0, .int .i64 23, .int .i64 0, .int .i64 0, .int .i64 0, .int .u64 0] 48)).alloc (.cells #[.int .i64 0, .slice none 0 0, .slice (some ⟨W8.heap.size, 0, none⟩) 2 2, .int .i64 1, .slice (some ⟨w1.heap.size, 0, none⟩) 1 1, .slice (some ⟨w1.heap.size + 1, 0, none⟩) 6 6] 52) = W9 := ⟨_, rfl⟩
  rw [hW9]
  have hb89 : Below W8.heap.size W8 W9 := by rw [← hW9]; exact below2 W8 _ _
  have q9a : Row W9 W8.heap.size 48 (icells [⟨22, 1, 0, 0, 0⟩, ⟨23, 0, 0, 0, 0⟩]) := by rw [← hW9]; exact (Row.new W8 _ (icells [⟨22, 1, 0, 0, 0⟩, ⟨23, 0, 0, 0, 0⟩])).alloc _
  have q9b : Row W9 (W8.heap.size + 1) 52 (hcells [⟨0, none, 0, 0, some ⟨W8.heap.size, 0, none⟩, 2, 2⟩, udH w1.heap.size]) := by
    rw [← hW9]
    have := Row.new (W8.alloc (.cells #[.int .i64 22, .int .i64 1, .int .i64 0, .int .i64 0, .int .u64 0, .int .i64 23, .int .i64 0, .int .i64 0, .int .i64 0, .int .u64 0] 48)) 52 (hcells [⟨0, none, 0, 0, some ⟨W8.heap.size, 0, none⟩, 2, 2⟩, udH w1.heap.size])
    rw [show (W8.alloc (.cells #[.int .i64 22, .int .i64 1, .int .i64 0, .int .i64 0, .int .u64 0, .int .i64 23, .int .i64 0, .int .i64 0, .int .i64 0, .int .u64 0] 48)).heap.size = W8.heap.size + 1 by simp] at this
    exact this
  have hc9 := (hd_below Hc8.out (hb89.mono hb78.size)).more (Nat.le_trans hb78.size hb89.size) (Nat.le_refl 0)
  have HP9 := hide (two_pg q9b.lt q9b (code_hd q9a.lt 0 _ rfl (by decide) q9a) hc9)
  have hs9 := HB8.out.trans (hb89.mono HB8.out.size)
  have HS9 := hide (hSh.out.below hs9)
  have HB9 := hide hs9
  have RO9 := hide (HRO.out.call hb89)
  have cr := out_any udB [] 100 none 0 0 W9 (hide udB_imm) (hide (in_nil _ _)) (hide (fun v hv => by cases hv)) HP9 HS9
  clear hW9 hb89 q9a q9b hc9 hs9 x0 x1 x2 HRO
  refine cr.mono ?_
  rintro e w10 ⟨vt2, rfl, hto, hb10⟩
  rw [ud_runE udB_pg, ud_runS udB_pg]
  rw [ud_runS udB_pg] at hto
  have HY : (ocells (runM udB [] 100) vt2).toArray = #[.int .i64 3, .int .u64 (runM udB [] 100).code, .int .u64 (lo (runM udB [] 100).res), .int .u64 (hi (runM udB [] 100).res), vt2, .int .i64 2] := by unfold ocells; rw [udB_kind, udB_steps]; rfl
  rw [HY]
  have hvt2 := own_oneCell hto
  clear HY hto
  generalize (runM udB [] 100).code = C2
  generalize lo (runM udB [] 100).res = L2
  generalize hi (runM udB [] 100).res = R2
  obtain ⟨W11, hst2, RO2, hb11⟩ := put_outcome w10 [.int .i64 3, .int .u64 C2, .int .u64 L2, .int .u64 R2, vt2, .int .i64 2] rfl (outl_one hvt2)
  have hb911 := hb10.trans (hb11.mono hb10.size)
  have RO1 := RO9.out.call hb911
  have x0 := RO1.cell (k := 0) rfl
  have x2 := RO1.cell (k := 2) rfl
  have y0 := RO2.cell (k := 0) rfl
  have y5 := RO2.cell (k := 5) rfl
  have HB11 := hide (HB9.out.trans (hb911.mono HB9.out.size))
  have hK3 := HK0.out
  subst hK3
  have hcase : v = 0 ∨ v ≠ 0 := by omega
  clear hb10 hb11 hb911 RO1 RO2 RO9 cr HK0
  rcases hcase with hv0 | hv0
  all_goals
    go_wp2_with (first | (refine wpList_store_whole 36 (.tmp 9) (.tmp 57) rfl rfl _ _ rfl rfl hst2 ?_) | fail)
    exact bodyPost_ret (results_tmp rfl _ _ _) rfl ⟨rfl, HB11.out⟩
end Go.Proofs.YtipjeihfhnilcaaDoor
end

section
/-
  The law on values that were not written: both of its cases. Conditions: those of the types; the table of shapes lies as it is laid.
-/
namespace Go.Proofs.YtipjeihfhnilcaaDoor
open Go.RowKit

theorem udlaw_any (v : Int) (ag : Bool) (w : World) (h0 : 0 ≤ v) (h1 : v ≤ 18446744073709551615) (hSh : Hid (Shapes w)) :
    Calls Tryd.prog 7 #[.int .u64 v, .bool ag] w fun e w' => e = .returned (.bool true) ∧ Below w.heap.size w w' := by
  cases ag
  · exact udlaw_no v w h0 h1 hSh
  · exact udlaw_yes v w h0 h1 hSh
end Go.Proofs.YtipjeihfhnilcaaDoor
end

section
/-
  SirrunUndef: for every input the law returns true, and each argument reads behind the call as it did before, where the listed table lies as its initialiser lays it; the card ties that table to the program's text. No other condition: every input that the row speaks of.
-/
namespace Go.Proofs.YtipjeihfhnilcaaDoor
open Go.ChangeShapes Go.WideShapes Go.ChangeAt Go.RowKit

namespace rowSirrunUndef
set_option maxRecDepth 100000 in
theorem contract (H : Type) (enc : TypeId × Value → H) (W : World) (base : Nat) (args : Array Value) (ds gs : List (DataW H)) (before : List MemPlace)
    (hval : ∀ (j : Nat) t v, Tryd.f7.params[j]? = some t → args[j]? = some v → Value.okWide Tryd.prog W .any base t v)
    (hW : DataW.Whole enc Tryd.prog Tryd.f7.params.toList Rows.sirrunUndefSpec.vars false W args.toList ds gs before) (hL : laidMetH Tryd.prog laidOne W) :
    Calls Tryd.prog 7 args W fun e W' => ∃ v, e = .returned v ∧ Rows.sirrunUndefSpec.post enc Tryd.prog Tryd.f7 false true false false W args v W' := by
  have hW' := hW
  obtain ⟨p, q, hA, hV, rfl, hfz, hnd⟩ := hW
  have hA : DataW.TrodAll enc Tryd.prog W 0 (fun _ => true) true Tryd.f7.params.toList args.toList ds p := hA
  rw [Tryd.params7] at hA hval
  obtain ⟨v0, vs0, d0, ds0, p0, q0, hargs, rfl, rfl, h0, r0⟩ := trodAll_cons hA
  obtain ⟨v1, vs1, d1, ds1, p1, q1, rfl, rfl, rfl, h1, r1⟩ := trodAll_cons r0
  obtain ⟨rfl, rfl, rfl⟩ := trodAll_nil r1
  obtain rfl : args = #[v0, v1] := by cases args; simp_all
  obtain ⟨a0, rfl, _, _, w0⟩ := open_int Tryd.underlying31 (hval 0 31 v0 rfl rfl) h0
  have b0 := bounds_u64 w0
  obtain ⟨a1, rfl, _, _⟩ := open_bool Tryd.underlying4 (hval 1 4 v1 rfl rfl) h1
  refine (udlaw_any a0 a1 W b0.1 b0.2 (hide (shapes_of_laid hL))).mono fun e W' ⟨he, hB⟩ => ⟨_, he, ?_⟩
  exact law_post laid_out (by decide +kernel) rfl rfl Tryd.underlying4 rfl hW' hB

set_option maxRecDepth 100000 in
theorem lifted (os : Os) (started : os.Started) (H : Type) (enc : TypeId × Value → H) :
    ReturnsInHanded {} Tryd.checked os 7 .any (fun w args => (Rows.sirrunUndefSpec.pre enc Tryd.prog Tryd.f7 [] false w args ∧ laidMetH Tryd.prog laidOne w) ∧ sizedMet enc Tryd.prog Tryd.f7 (OpenSpec.ofChange Rows.sirrunUndefSpec) false w args)
      (Rows.sirrunUndefSpec.post enc Tryd.prog Tryd.f7 false true false false) := by
  refine returnsInHanded_of_change_and (C := Tryd.checked) (X := fun w _ => laidMetH Tryd.prog laidOne w) (fun _ _ _ hh h => h.of_heap hh) own_knob started (by kernel_rfl) Tryd.func7
    (ChangeSpec.witness_shaped (enc := enc) (C := Tryd.checked) (os := os) (X := fun w _ => laidMetH Tryd.prog laidOne w) false (World.doorLaid Tryd.prog 400 os) #[.int .u64 0, .bool false] 8 rfl (World.shaped_of_RefB (by kernel_rfl) (by kernel_rfl)) (by kernel_rfl) (by kernel_rfl) (by kernel_rfl) (door_met os _)) ?_
  intro W base args ds gs before hval hW _ _ hL _
  exact contract H enc W base args ds gs before hval hW hL

theorem row : Rows.SirrunUndefSaid :=
  OpenClaim.holds_of_wide 7 Tryd.f7 rfl rfl rfl rfl rfl rfl rfl ⟨rfl, rfl, rfl, rfl, rfl⟩ rfl rfl rfl rfl rfl (by kernel_rfl) Tryd.func7 (by kernel_rfl)
    (of_decide_eq_true (by kernel_rfl)) (by unfold Func.isWrapper; first | (rw [if_pos (by decide +kernel)]; kernel_rfl) | (rw [if_neg (by decide +kernel)]; exact ⟨rfl, rfl⟩))
    (fun os started H enc _ => lifted os started H enc)

theorem proved : Rows.SirrunUndefCardSaid :=
  Claim7.holds_tied_plain_at .later [] [.data] true (true, "7214d98ae4d8f6f134295dcbcb4eafae30b3741b3e4c3b827d3dac806e496980") false
    row (fun _ h => by cases h) (by kernel_rfl) (fun _ h => by cases h) sirrunUndef_row_tie rfl ⟨rfl, rfl⟩ (by kernel_rfl) rfl
    (fun f fn hf hfn => by
      obtain rfl : f = 7 := Option.some.inj ((show Tryd.prog.funcNamed "spillframe/spillframelaw08.SirrunUndef" = some 7 by kernel_rfl).symm.trans hf) |>.symm
      obtain rfl : fn = Tryd.f7 := (Option.some.inj (Tryd.func7.symm.trans hfn)).symm
      exact ⟨by kernel_rfl, fun j t ht => by
        rw [Tryd.params7] at ht
        have hm : t ∈ [31, 4] := by simpa using Array.mem_of_getElem? ht
        have hall : ([31, 4].all fun u => !Tryd.prog.wantsStandIn u) = true := by kernel_rfl
        exact (show Tryd.prog.wantsStandIn t = false by simpa using List.all_eq_true.1 hall t hm)⟩)
    (by kernel_rfl)
end rowSirrunUndef
end Go.Proofs.YtipjeihfhnilcaaDoor
end
