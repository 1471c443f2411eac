import Derived.Test.YtlhaendgdeflkaaGreatDoorMQchk
import Derived.Test.YtlhaendgdeflkaaGreatDoorMQshp
import Derived.Test.YtlhaendgdeflkaaGreatDoorMQopd
import Derived.Deep.DeepCutAuto
set_option linter.unusedVariables false
set_option linter.unusedSimpArgs false
section
/-
  An instruction's error in the order in which the reference looks for it. No function of the program is named here.
-/
namespace Go.Proofs.YtlhaendgdeflkaaGreatDoor
open Go.RowKit

theorem rank_order {e1 e2 e3 imm : Int} {m size : Bool} (c1 : e1 = 0 ∨ e1 = 2 ∨ e1 = 4 ∨ e1 = 6) (c2 : e2 = 0 ∨ e2 = 2 ∨ e2 = 4 ∨ e2 = 6) (c3 : e3 = 0 ∨ e3 = 2 ∨ e3 = 4 ∨ e3 = 6) :
    rankE (foundE e1 e2 e3 m imm) size = if e1 = 2 ∨ e2 = 2 ∨ e3 = 2 ∨ (m = false ∧ imm ≠ 0) then 2 else if e1 = 4 ∨ e2 = 4 ∨ e3 = 4 then 4 else if size = true then 5 else if e1 = 6 ∨ e2 = 6 ∨ e3 = 6 then 6 else 0 := by
  unfold foundE
  by_cases h : m = false ∧ imm ≠ 0
  · rw [if_pos h]
    simp [rankE, h]
  · rw [if_neg h]
    cases size <;> rcases c1 with rfl | rfl | rfl | rfl <;> rcases c2 with rfl | rfl | rfl | rfl <;> rcases c3 with rfl | rfl | rfl | rfl <;> simp [rankE, h]
theorem withB_one (n : Int) : withB n 1 = true ↔ n = 0 := by rw [withB_true]; omega
theorem opnd_two {N : Nat} {f : Fn} {k n : Int} (hk : 0 ≤ k ∧ k ≤ 6) : opndE N f k n = 2 ↔ k = 0 ∧ n ≠ 0 := by
  have hc : k = 0 ∨ k = 1 ∨ k = 2 ∨ k = 3 ∨ k = 4 ∨ k = 5 ∨ k = 6 := by omega
  rcases hc with rfl | rfl | rfl | rfl | rfl | rfl | rfl
  · have e : opndE N f 0 n = if withB n 1 = true then 0 else 2 := rfl
    rw [e]
    by_cases h : withB n 1 = true
    · rw [if_pos h]; have := (withB_one n).1 h; simp [this]
    · rw [if_neg h]; have : n ≠ 0 := fun e => h ((withB_one n).2 e); simp [this]
  all_goals
    unfold opndE
    split <;> simp
theorem opnd_four {N : Nat} {f : Fn} {k n : Int} (hk : 0 ≤ k ∧ k ≤ 6) : opndE N f k n = 4 ↔ okK N f.params f.slots.length k n = false := by
  have hc : k = 0 ∨ k = 1 ∨ k = 2 ∨ k = 3 ∨ k = 4 ∨ k = 5 ∨ k = 6 := by omega
  rcases hc with rfl | rfl | rfl | rfl | rfl | rfl | rfl
  · rw [okK0]; unfold opndE; split <;> simp
  · rw [okK1]; have e : opndE N f 1 n = if withB n 8 = true then 0 else 4 := rfl
    rw [e]; cases withB n 8 <;> simp
  · rw [okK2]; have e : opndE N f 2 n = if withB n f.slots.length = true then 0 else 4 := rfl
    rw [e]; cases withB n f.slots.length <;> simp
  · rw [okK3]; have e : opndE N f 3 n = if withB n N = true then 0 else 4 := rfl
    rw [e]; cases withB n N <;> simp
  · rw [okK4]; have e : opndE N f 4 n = if withB n 8 = true then 0 else 4 := rfl
    rw [e]; cases withB n 8 <;> simp
  · rw [okK5]; have e : opndE N f 5 n = if withB n f.params = true then 0 else 4 := rfl
    rw [e]; cases withB n f.params <;> simp
  · rw [okK6]; have e : opndE N f 6 n = if withB n f.code.length = true then 0 else 6 := rfl
    rw [e]; split <;> simp
theorem opnd_six {N : Nat} {f : Fn} {k n : Int} (hk : 0 ≤ k ∧ k ≤ 6) : opndE N f k n = 6 ↔ k = 6 ∧ withB n f.code.length = false := by
  have hc : k = 0 ∨ k = 1 ∨ k = 2 ∨ k = 3 ∨ k = 4 ∨ k = 5 ∨ k = 6 := by omega
  rcases hc with rfl | rfl | rfl | rfl | rfl | rfl | rfl
  · unfold opndE; split <;> simp
  all_goals try (unfold opndE; split <;> simp; done)
  have e : opndE N f 6 n = if withB n f.code.length = true then 0 else 6 := rfl
  rw [e]; cases withB n f.code.length <;> simp
theorem kinds (o : Int) (h0 : 0 ≤ o) (h1 : o < 25) : (0 ≤ (shpOf o).1 ∧ (shpOf o).1 ≤ 6) ∧ (0 ≤ (shpOf o).2.1 ∧ (shpOf o).2.1 ≤ 6) ∧ (0 ≤ (shpOf o).2.2.1 ∧ (shpOf o).2.2.1 ≤ 6) ∧ ((shpOf o).1 = 6 ↔ o = 20) ∧ ((shpOf o).2.1 = 6 ↔ o = 21) ∧ (shpOf o).2.2.1 ≠ 6 := by
  have e : ∀ k : Fin 25, (0 ≤ (shpOf (k.val : Int)).1 ∧ (shpOf (k.val : Int)).1 ≤ 6) ∧ (0 ≤ (shpOf (k.val : Int)).2.1 ∧ (shpOf (k.val : Int)).2.1 ≤ 6) ∧ (0 ≤ (shpOf (k.val : Int)).2.2.1 ∧ (shpOf (k.val : Int)).2.2.1 ≤ 6) ∧ ((shpOf (k.val : Int)).1 = 6 ↔ (k.val : Int) = 20) ∧ ((shpOf (k.val : Int)).2.1 = 6 ↔ (k.val : Int) = 21) ∧ (shpOf (k.val : Int)).2.2.1 ≠ 6 := by decide
  have := e ⟨o.toNat, by omega⟩
  simp only at this
  rwa [Int.toNat_of_nonneg h0] at this
/-- An operand that is not used is not 0. -/
def unP (x : Ins) : Prop := (useA x.op = false ∧ x.a ≠ 0) ∨ (useB x.op = false ∧ x.b ≠ 0) ∨ (useC x.op = false ∧ x.c ≠ 0) ∨ (useI x.op = false ∧ x.imm ≠ 0)
def tgP (f : Fn) (x : Ins) : Prop := (x.op = 20 ∧ withB x.a f.code.length = false) ∨ (x.op = 21 ∧ withB x.b f.code.length = false)
theorem use_no {p : Int} : ((!decide (p = 0)) = false) ↔ p = 0 := by simp
theorem insE_two {N : Nat} {f : Fn} {x : Ins} (h : 0 ≤ x.op ∧ x.op < 25) (hu : unP x) : insE N f x = 2 := by
  obtain ⟨k1, k2, k3, _⟩ := kinds x.op h.1 h.2
  unfold insE
  rw [if_neg (by simp [withB_true.2 h])]
  unfold opndsE
  rw [rank_order (opndE_cases _ _ _ _) (opndE_cases _ _ _ _) (opndE_cases _ _ _ _), if_pos]
  rw [opnd_two k1, opnd_two k2, opnd_two k3]
  rcases hu with ⟨u, v⟩ | ⟨u, v⟩ | ⟨u, v⟩ | ⟨u, v⟩
  · exact .inl ⟨use_no.1 u, v⟩
  · exact .inr (.inl ⟨use_no.1 u, v⟩)
  · exact .inr (.inr (.inl ⟨use_no.1 u, v⟩))
  · exact .inr (.inr (.inr ⟨u, v⟩))
theorem insE_rest {N : Nat} {f : Fn} {x : Ins} (h : 0 ≤ x.op ∧ x.op < 25) (hu : ¬ unP x) : (okW N f.params f.slots.length x.op x.a x.b x.c = false → insE N f x = 4) ∧ (okW N f.params f.slots.length x.op x.a x.b x.c = true →
    (moveBad f x = true → insE N f x = 5) ∧ (moveBad f x = false → (tgP f x → insE N f x = 6) ∧ (¬ tgP f x → insE N f x = 0))) := by
  obtain ⟨k1, k2, k3, t1, t2, t3⟩ := kinds x.op h.1 h.2
  have e : insE N f x = rankE (opndsE N f x) (moveBad f x) := by unfold insE; rw [if_neg (by simp [withB_true.2 h])]
  have n2 : ¬ (opndE N f (shpOf x.op).1 x.a = 2 ∨ opndE N f (shpOf x.op).2.1 x.b = 2 ∨ opndE N f (shpOf x.op).2.2.1 x.c = 2 ∨ ((shpOf x.op).2.2.2 = false ∧ x.imm ≠ 0)) := by
    rw [opnd_two k1, opnd_two k2, opnd_two k3]
    intro hh
    apply hu
    rcases hh with ⟨u, v⟩ | ⟨u, v⟩ | ⟨u, v⟩ | ⟨u, v⟩
    · exact .inl ⟨use_no.2 u, v⟩
    · exact .inr (.inl ⟨use_no.2 u, v⟩)
    · exact .inr (.inr (.inl ⟨use_no.2 u, v⟩))
    · exact .inr (.inr (.inr ⟨u, v⟩))
  have w4 : (opndE N f (shpOf x.op).1 x.a = 4 ∨ opndE N f (shpOf x.op).2.1 x.b = 4 ∨ opndE N f (shpOf x.op).2.2.1 x.c = 4) ↔ okW N f.params f.slots.length x.op x.a x.b x.c = false := by
    rw [opnd_four k1, opnd_four k2, opnd_four k3]
    unfold okW
    cases okK N f.params f.slots.length (shpOf x.op).1 x.a <;> cases okK N f.params f.slots.length (shpOf x.op).2.1 x.b <;> cases okK N f.params f.slots.length (shpOf x.op).2.2.1 x.c <;> simp
  have t6 : (opndE N f (shpOf x.op).1 x.a = 6 ∨ opndE N f (shpOf x.op).2.1 x.b = 6 ∨ opndE N f (shpOf x.op).2.2.1 x.c = 6) ↔ tgP f x := by
    rw [opnd_six k1, opnd_six k2, opnd_six k3, t1, t2]
    unfold tgP
    constructor
    · rintro (h | h | h)
      · exact .inl h
      · exact .inr h
      · exact absurd h.1 t3
    · rintro (h | h)
      · exact .inl h
      · exact .inr (.inl h)
  rw [e]
  unfold opndsE
  rw [rank_order (opndE_cases _ _ _ _) (opndE_cases _ _ _ _) (opndE_cases _ _ _ _), if_neg n2]
  refine ⟨fun h4 => by rw [if_pos (w4.2 h4)], fun h4 => ?_⟩
  rw [if_neg (by rw [w4]; simp [h4])]
  refine ⟨fun h5 => by rw [if_pos h5], fun h5 => ?_⟩
  rw [if_neg (by simp [h5])]
  exact ⟨fun h6 => by rw [if_pos (t6.2 h6)], fun h6 => by rw [if_neg (by rw [t6]; exact h6)]⟩
end Go.Proofs.YtlhaendgdeflkaaGreatDoor
end

section
/-
  The reference's CheckInstr at an instruction that there is. Conditions: those of the types.
-/
namespace Go.Proofs.YtlhaendgdeflkaaGreatDoor
open Go.RowKit

theorem move17 (f : Fn) (ja jp : Nat) (h1 : ja < f.slots.length) (h2 : jp < f.slots.length) : moveBad f ⟨17, (ja : Int), (jp : Int), 0, 0⟩ = !decide (f.slots[ja].1 = f.slots[jp].1) := by
  have e : ∀ j : Nat, (h : j < f.slots.length) → sizeAt f.slots (j : Int) = f.slots[j].1 := fun j h => by
    unfold sizeAt
    rw [Int.toNat_natCast, List.getD_eq_getElem?_getD, List.getElem?_eq_getElem h]
    rfl
  show (decide ((17 : Int) = 17) && !decide (sizeAt f.slots (ja : Int) = sizeAt f.slots (jp : Int))) = _
  rw [e ja h1, e jp h2]
  simp
set_option maxRecDepth 100000 in
set_option maxHeartbeats 8000000 in
theorem rchk_aaa (w : World) (lo b off n c : Nat) (hs : List Hd) (F : Pg) (i k : Nat) (P : Int) (A1 : Option Addr) (n1 c1 b2 off2 n2 c2 : Nat) (f : Fn) (o : Int) (a p d m : Int) (H : Hid (PgAt w lo w.heap.size (some ⟨b, off, none⟩) n c hs F)) (hin : i < n) (hn : n ≤ 100000) (hf : Hid (HdAt w lo w.heap.size ⟨P, A1, n1, c1, some ⟨b2, off2, none⟩, n2, c2⟩ f)) (hk : k < n2) (hn2 : n2 ≤ 8796093022208)
    (e0 : w.cell? ⟨b, off + i * 3, none⟩ = some (.int .i64 P)) (e1 : w.cell? ⟨b, off + i * 3 + 1, none⟩ = some (.slice A1 n1 c1)) (e2 : w.cell? ⟨b, off + i * 3 + 2, none⟩ = some (.slice (some ⟨b2, off2, none⟩) n2 c2))
    (x0 : w.cell? ⟨b2, off2 + k * 5, none⟩ = some (.int .i64 o)) (x1 : w.cell? ⟨b2, off2 + k * 5 + 1, none⟩ = some (.int .i64 a)) (x2 : w.cell? ⟨b2, off2 + k * 5 + 2, none⟩ = some (.int .i64 p)) (x3 : w.cell? ⟨b2, off2 + k * 5 + 3, none⟩ = some (.int .i64 d)) (x4 : w.cell? ⟨b2, off2 + k * 5 + 4, none⟩ = some (.int .u64 m)) (h0 : 0 ≤ o) (h1 : o < 25) (n17 : o ≠ 17) (n20 : o ≠ 20) (n21 : o ≠ 21)
    (ua : Hid (useA o = true)) (ub : Hid (useB o = true)) (uc : Hid (useC o = true)) (ui : Hid (useI o = false)) :
    Calls Tryz.prog 60 #[gv (some ⟨b, off, none⟩) n c, .int .i64 (i : Int), .int .i64 (k : Int)] w fun e w' => e = .returned (.int .i64 (insE n f ⟨o, a, p, d, m⟩)) ∧ Below w.heap.size w w' := by
  have l1 := hf.out.l1
  have l2 := hf.out.l2
  have hP := hf.out.p
  simp only at l1 l2 hP
  have HL1 := hide l1
  have HL2 := hide l2
  have HP := hide hP
  clear l1 l2 hP
  have hi1 : withB (i : Int) (n : Int) = true := withB_true.2 ⟨by omega, by omega⟩
  have hk1 : withB (k : Int) (n2 : Int) = true := withB_true.2 ⟨by omega, by omega⟩
  have hiz : (i : Int) < (n : Int) := by omega
  have hkz : (k : Int) < (n2 : Int) := by omega
  have bl := World.block_lt_of_cell? _ _ e0
  have bl2 := World.block_lt_of_cell? _ _ x0
  obtain ⟨Wp, hWp⟩ : ∃ W, w.alloc (.cells #[.slice (some ⟨b, off, none⟩) n c] 29) = W := ⟨_, rfl⟩
  obtain ⟨Wf, hWf⟩ : ∃ W, Wp.alloc (.cells #[.int .i64 P, .slice A1 n1 c1, .slice (some ⟨b2, off2, none⟩) n2 c2] 49) = W := ⟨_, rfl⟩
  obtain ⟨Wx, hWx⟩ : ∃ W, Wf.alloc (.cells #[.int .i64 o, .int .i64 a, .int .i64 p, .int .i64 d, .int .u64 m] 44) = W := ⟨_, rfl⟩
  obtain ⟨gf, hgf⟩ : ∃ g, Wp.heap.size = g := ⟨_, rfl⟩
  obtain ⟨gx, hgx⟩ : ∃ g, Wf.heap.size = g := ⟨_, rfl⟩
  have hbp := hide (show Below w.heap.size w Wp by rw [← hWp]; exact below1 w _)
  have hbf := hide (show Below w.heap.size w Wf by rw [← hWf]; exact hbp.out.alloc hbp.out.size _)
  have hbx := hide (show Below w.heap.size w Wx by rw [← hWx]; exact hbf.out.alloc hbf.out.size _)
  have rp := hide (show Row Wx w.heap.size 29 [.slice (some ⟨b, off, none⟩) n c] by rw [← hWx, ← hWf, ← hWp]; exact ((Row.new w _ _).alloc _).alloc _)
  have rf := hide (show Row Wx gf 49 [.int .i64 P, .slice A1 n1 c1, .slice (some ⟨b2, off2, none⟩) n2 c2] by rw [← hWx, ← hWf, ← hgf]; exact (Row.new Wp _ _).alloc _)
  have rx := hide (show Row Wx gx 44 [.int .i64 o, .int .i64 a, .int .i64 p, .int .i64 d, .int .u64 m] by rw [← hWx, ← hgx]; exact Row.new Wf _ _)
  have rp0 : Wp.cell? ⟨w.heap.size, 0, none⟩ = some (.slice (some ⟨b, off, none⟩) n c) := by rw [← hWp]; exact (Row.new w 29 [.slice (some ⟨b, off, none⟩) n c]).cell (k := 0) rfl
  have rp1 : Wf.cell? ⟨w.heap.size, 0, none⟩ = some (.slice (some ⟨b, off, none⟩) n c) := by rw [← hWf, ← hWp]; exact ((Row.new w 29 [.slice (some ⟨b, off, none⟩) n c]).alloc _).cell (k := 0) rfl
  have rf0 : Wf.cell? ⟨gf, 0, none⟩ = some (.int .i64 P) := by rw [← hWf, ← hgf]; exact (Row.new Wp 49 [.int .i64 P, .slice A1 n1 c1, .slice (some ⟨b2, off2, none⟩) n2 c2]).cell (k := 0) rfl
  have rf1 : Wf.cell? ⟨gf, 1, none⟩ = some (.slice A1 n1 c1) := by rw [← hWf, ← hgf]; exact (Row.new Wp 49 [.int .i64 P, .slice A1 n1 c1, .slice (some ⟨b2, off2, none⟩) n2 c2]).cell (k := 1) rfl
  have rf2 : Wf.cell? ⟨gf, 2, none⟩ = some (.slice (some ⟨b2, off2, none⟩) n2 c2) := by rw [← hWf, ← hgf]; exact (Row.new Wp 49 [.int .i64 P, .slice A1 n1 c1, .slice (some ⟨b2, off2, none⟩) n2 c2]).cell (k := 2) rfl
  have p0 := (hbp.out.cell bl).trans e0
  have p1 := (hbp.out.cell (p := ⟨b, off + i * 3 + 1, none⟩) bl).trans e1
  have p2 := (hbp.out.cell (p := ⟨b, off + i * 3 + 2, none⟩) bl).trans e2
  have f0 := (hbf.out.cell bl2).trans x0
  have f1 := (hbf.out.cell (p := ⟨b2, off2 + k * 5 + 1, none⟩) bl2).trans x1
  have f2 := (hbf.out.cell (p := ⟨b2, off2 + k * 5 + 2, none⟩) bl2).trans x2
  have f3 := (hbf.out.cell (p := ⟨b2, off2 + k * 5 + 3, none⟩) bl2).trans x3
  have f4 := (hbf.out.cell (p := ⟨b2, off2 + k * 5 + 4, none⟩) bl2).trans x4
  have y0 := rx.out.cell (k := 0) rfl
  have y1 := rx.out.cell (k := 1) rfl
  have y2 := rx.out.cell (k := 2) rfl
  have y3 := rx.out.cell (k := 3) rfl
  have y4 := rx.out.cell (k := 4) rfl
  have g0 := rf.out.cell (k := 0) rfl
  have g1 := rf.out.cell (k := 1) rfl
  have g2 := rf.out.cell (k := 2) rfl
  have z0 := rp.out.cell (k := 0) rfl
  have HWp := hide hWp
  have HWf := hide hWf
  have HWx := hide hWx
  have HGF := hide hgf
  have HGX := hide hgx
  have hr := hide (show 0 ≤ (o : Int) ∧ (o : Int) < 25 by omega)
  have ho1 : withB o 25 = true := withB_true.2 hr.out
  have IR := hide (fun (hu : ¬ unP ⟨o, a, p, d, m⟩) => insE_rest (N := n) (f := f) (x := ⟨o, a, p, d, m⟩) hr.out hu)
  have I2 := hide (fun (hu : unP ⟨o, a, p, d, m⟩) => insE_two (N := n) (f := f) (x := ⟨o, a, p, d, m⟩) hr.out hu)
  clear hWp hWf hWx hgf hgx e0 e1 e2 x0 x1 x2 x3 x4 bl bl2
  have m17 := hide (show moveBad f ⟨o, a, p, d, m⟩ = false by unfold moveBad; simp [n17])
  have m20 := hide (show ¬ tgP f ⟨o, a, p, d, m⟩ by unfold tgP; simp [n20, n21])
  have q17 : (o == 17) = false := by rw [beq_eq_false_iff_ne]; exact n17
  have q20 : (o == 20) = false := by rw [beq_eq_false_iff_ne]; exact n20
  have q21 : (o == 21) = false := by rw [beq_eq_false_iff_ne]; exact n21
  clear n17 n20 n21
  have UP := hide (show unP ⟨o, a, p, d, m⟩ ↔ m ≠ 0 by unfold unP; simp [ua.out, ub.out, uc.out, ui.out])
  go_enter Tryz.func60, Tryz.ntmps60
  go_upto_region 1 with (fail)
  rw [HWp.out]
  clear HWp
  go_upto_region 3 with (first | (go_at_call 58; refine (rwithin_any _ _ _).mono ?_; rintro e w' ⟨rfl, rfl⟩) | fail)
  go_upto_region 4 with (fail)
  rw [HWf.out, HGF.out]
  clear HWf HGF
  go_upto_region 5 with (fail)
  rw [HWx.out, HGX.out]
  clear HWx HGX p0 p1 p2 f0 f1 f2 f3 f4 rp0 rp1 rf0 rf1 rf2 hbp hbf
  go_upto_region 7 with (first | (go_at_call 58; refine (rwithin_any _ _ _).mono ?_; rintro e w' ⟨rfl, rfl⟩) | fail)
  go_wp2_with fail
  refine (ropd_any o _ hr.out.1 hr.out.2).mono ?_
  rintro e w' ⟨rfl, rfl⟩
  rw [ua.out, ub.out, uc.out, ui.out]
  go_wp2_with fail
  all_goals
    first
      | (go_ret; exact ⟨ret_int (I2.out (UP.out.2 (by first | omega | (simp only [bne_iff_ne, ne_eq] at *; omega)))).symm, hbx.out⟩)
      | skip
  obtain rfl : m = 0 := by first | omega | (simp only [bne_eq_false_iff_eq] at *; omega)
  have hu : ¬ unP ⟨o, a, p, d, 0⟩ := fun h => by have := UP.out.1 h; omega
  have cu := ropds_any (some ⟨b, off, none⟩) n c P A1 n1 c1 (some ⟨b2, off2, none⟩) n2 c2 o a p d 0 Wx hr.out.1 hr.out.2
  rcases hbk : okW n P n1 o a p d with _ | _
  · rw [hbk] at cu
    have HK := hide (show okW n f.params f.slots.length o a p d = false by rw [← HP.out, HL1.out]; exact hbk)
    clear hbk
    refine cu.mono ?_
    rintro e w5 ⟨rfl, hb5⟩
    have HB5 := hide (hbx.out.trans (hb5.mono hbx.out.size))
    clear hb5 cu
    go_wp2
    go_ret
    exact ⟨ret_int ((IR.out hu).1 HK.out).symm, HB5.out⟩
  · rw [hbk] at cu
    have HK := hide (show okW n f.params f.slots.length o a p d = true by rw [← HP.out, HL1.out]; exact hbk)
    clear hbk
    refine cu.mono ?_
    rintro e w5 ⟨rfl, hb5⟩
    have HB5 := hide (hbx.out.trans (hb5.mono hbx.out.size))
    have rx5 := hide (rx.out.call hb5)
    have rf5 := hide (rf.out.call hb5)
    have u0 := rx5.out.cell (k := 0) rfl
    have u1 := rx5.out.cell (k := 1) rfl
    have u2 := rx5.out.cell (k := 2) rfl
    have v1 := rf5.out.cell (k := 1) rfl
    have v2 := rf5.out.cell (k := 2) rfl
    clear hb5 cu y0 y1 y2 y3 y4 g0 g1 g2 z0
    go_wp2_with fail
    go_quiet (fail)
    go_wp2
    go_ret
    exact ⟨ret_int ((((IR.out hu).2 HK.out).2 m17.out).2 m20.out).symm, drewN_below HB5.out _⟩

set_option maxRecDepth 100000 in
set_option maxHeartbeats 8000000 in
theorem rchk_aa (w : World) (lo b off n c : Nat) (hs : List Hd) (F : Pg) (i k : Nat) (P : Int) (A1 : Option Addr) (n1 c1 b2 off2 n2 c2 : Nat) (f : Fn) (o : Int) (a p d m : Int) (H : Hid (PgAt w lo w.heap.size (some ⟨b, off, none⟩) n c hs F)) (hin : i < n) (hn : n ≤ 100000) (hf : Hid (HdAt w lo w.heap.size ⟨P, A1, n1, c1, some ⟨b2, off2, none⟩, n2, c2⟩ f)) (hk : k < n2) (hn2 : n2 ≤ 8796093022208)
    (e0 : w.cell? ⟨b, off + i * 3, none⟩ = some (.int .i64 P)) (e1 : w.cell? ⟨b, off + i * 3 + 1, none⟩ = some (.slice A1 n1 c1)) (e2 : w.cell? ⟨b, off + i * 3 + 2, none⟩ = some (.slice (some ⟨b2, off2, none⟩) n2 c2))
    (x0 : w.cell? ⟨b2, off2 + k * 5, none⟩ = some (.int .i64 o)) (x1 : w.cell? ⟨b2, off2 + k * 5 + 1, none⟩ = some (.int .i64 a)) (x2 : w.cell? ⟨b2, off2 + k * 5 + 2, none⟩ = some (.int .i64 p)) (x3 : w.cell? ⟨b2, off2 + k * 5 + 3, none⟩ = some (.int .i64 d)) (x4 : w.cell? ⟨b2, off2 + k * 5 + 4, none⟩ = some (.int .u64 m)) (h0 : 0 ≤ o) (h1 : o < 25) (n17 : o ≠ 17) (n20 : o ≠ 20) (n21 : o ≠ 21)
    (ua : Hid (useA o = true)) (ub : Hid (useB o = true)) (uc : Hid (useC o = false)) (ui : Hid (useI o = false)) :
    Calls Tryz.prog 60 #[gv (some ⟨b, off, none⟩) n c, .int .i64 (i : Int), .int .i64 (k : Int)] w fun e w' => e = .returned (.int .i64 (insE n f ⟨o, a, p, d, m⟩)) ∧ Below w.heap.size w w' := by
  have l1 := hf.out.l1
  have l2 := hf.out.l2
  have hP := hf.out.p
  simp only at l1 l2 hP
  have HL1 := hide l1
  have HL2 := hide l2
  have HP := hide hP
  clear l1 l2 hP
  have hi1 : withB (i : Int) (n : Int) = true := withB_true.2 ⟨by omega, by omega⟩
  have hk1 : withB (k : Int) (n2 : Int) = true := withB_true.2 ⟨by omega, by omega⟩
  have hiz : (i : Int) < (n : Int) := by omega
  have hkz : (k : Int) < (n2 : Int) := by omega
  have bl := World.block_lt_of_cell? _ _ e0
  have bl2 := World.block_lt_of_cell? _ _ x0
  obtain ⟨Wp, hWp⟩ : ∃ W, w.alloc (.cells #[.slice (some ⟨b, off, none⟩) n c] 29) = W := ⟨_, rfl⟩
  obtain ⟨Wf, hWf⟩ : ∃ W, Wp.alloc (.cells #[.int .i64 P, .slice A1 n1 c1, .slice (some ⟨b2, off2, none⟩) n2 c2] 49) = W := ⟨_, rfl⟩
  obtain ⟨Wx, hWx⟩ : ∃ W, Wf.alloc (.cells #[.int .i64 o, .int .i64 a, .int .i64 p, .int .i64 d, .int .u64 m] 44) = W := ⟨_, rfl⟩
  obtain ⟨gf, hgf⟩ : ∃ g, Wp.heap.size = g := ⟨_, rfl⟩
  obtain ⟨gx, hgx⟩ : ∃ g, Wf.heap.size = g := ⟨_, rfl⟩
  have hbp := hide (show Below w.heap.size w Wp by rw [← hWp]; exact below1 w _)
  have hbf := hide (show Below w.heap.size w Wf by rw [← hWf]; exact hbp.out.alloc hbp.out.size _)
  have hbx := hide (show Below w.heap.size w Wx by rw [← hWx]; exact hbf.out.alloc hbf.out.size _)
  have rp := hide (show Row Wx w.heap.size 29 [.slice (some ⟨b, off, none⟩) n c] by rw [← hWx, ← hWf, ← hWp]; exact ((Row.new w _ _).alloc _).alloc _)
  have rf := hide (show Row Wx gf 49 [.int .i64 P, .slice A1 n1 c1, .slice (some ⟨b2, off2, none⟩) n2 c2] by rw [← hWx, ← hWf, ← hgf]; exact (Row.new Wp _ _).alloc _)
  have rx := hide (show Row Wx gx 44 [.int .i64 o, .int .i64 a, .int .i64 p, .int .i64 d, .int .u64 m] by rw [← hWx, ← hgx]; exact Row.new Wf _ _)
  have rp0 : Wp.cell? ⟨w.heap.size, 0, none⟩ = some (.slice (some ⟨b, off, none⟩) n c) := by rw [← hWp]; exact (Row.new w 29 [.slice (some ⟨b, off, none⟩) n c]).cell (k := 0) rfl
  have rp1 : Wf.cell? ⟨w.heap.size, 0, none⟩ = some (.slice (some ⟨b, off, none⟩) n c) := by rw [← hWf, ← hWp]; exact ((Row.new w 29 [.slice (some ⟨b, off, none⟩) n c]).alloc _).cell (k := 0) rfl
  have rf0 : Wf.cell? ⟨gf, 0, none⟩ = some (.int .i64 P) := by rw [← hWf, ← hgf]; exact (Row.new Wp 49 [.int .i64 P, .slice A1 n1 c1, .slice (some ⟨b2, off2, none⟩) n2 c2]).cell (k := 0) rfl
  have rf1 : Wf.cell? ⟨gf, 1, none⟩ = some (.slice A1 n1 c1) := by rw [← hWf, ← hgf]; exact (Row.new Wp 49 [.int .i64 P, .slice A1 n1 c1, .slice (some ⟨b2, off2, none⟩) n2 c2]).cell (k := 1) rfl
  have rf2 : Wf.cell? ⟨gf, 2, none⟩ = some (.slice (some ⟨b2, off2, none⟩) n2 c2) := by rw [← hWf, ← hgf]; exact (Row.new Wp 49 [.int .i64 P, .slice A1 n1 c1, .slice (some ⟨b2, off2, none⟩) n2 c2]).cell (k := 2) rfl
  have p0 := (hbp.out.cell bl).trans e0
  have p1 := (hbp.out.cell (p := ⟨b, off + i * 3 + 1, none⟩) bl).trans e1
  have p2 := (hbp.out.cell (p := ⟨b, off + i * 3 + 2, none⟩) bl).trans e2
  have f0 := (hbf.out.cell bl2).trans x0
  have f1 := (hbf.out.cell (p := ⟨b2, off2 + k * 5 + 1, none⟩) bl2).trans x1
  have f2 := (hbf.out.cell (p := ⟨b2, off2 + k * 5 + 2, none⟩) bl2).trans x2
  have f3 := (hbf.out.cell (p := ⟨b2, off2 + k * 5 + 3, none⟩) bl2).trans x3
  have f4 := (hbf.out.cell (p := ⟨b2, off2 + k * 5 + 4, none⟩) bl2).trans x4
  have y0 := rx.out.cell (k := 0) rfl
  have y1 := rx.out.cell (k := 1) rfl
  have y2 := rx.out.cell (k := 2) rfl
  have y3 := rx.out.cell (k := 3) rfl
  have y4 := rx.out.cell (k := 4) rfl
  have g0 := rf.out.cell (k := 0) rfl
  have g1 := rf.out.cell (k := 1) rfl
  have g2 := rf.out.cell (k := 2) rfl
  have z0 := rp.out.cell (k := 0) rfl
  have HWp := hide hWp
  have HWf := hide hWf
  have HWx := hide hWx
  have HGF := hide hgf
  have HGX := hide hgx
  have hr := hide (show 0 ≤ (o : Int) ∧ (o : Int) < 25 by omega)
  have ho1 : withB o 25 = true := withB_true.2 hr.out
  have IR := hide (fun (hu : ¬ unP ⟨o, a, p, d, m⟩) => insE_rest (N := n) (f := f) (x := ⟨o, a, p, d, m⟩) hr.out hu)
  have I2 := hide (fun (hu : unP ⟨o, a, p, d, m⟩) => insE_two (N := n) (f := f) (x := ⟨o, a, p, d, m⟩) hr.out hu)
  clear hWp hWf hWx hgf hgx e0 e1 e2 x0 x1 x2 x3 x4 bl bl2
  have m17 := hide (show moveBad f ⟨o, a, p, d, m⟩ = false by unfold moveBad; simp [n17])
  have m20 := hide (show ¬ tgP f ⟨o, a, p, d, m⟩ by unfold tgP; simp [n20, n21])
  have q17 : (o == 17) = false := by rw [beq_eq_false_iff_ne]; exact n17
  have q20 : (o == 20) = false := by rw [beq_eq_false_iff_ne]; exact n20
  have q21 : (o == 21) = false := by rw [beq_eq_false_iff_ne]; exact n21
  clear n17 n20 n21
  have UP := hide (show unP ⟨o, a, p, d, m⟩ ↔ d ≠ 0 ∨ m ≠ 0 by unfold unP; simp [ua.out, ub.out, uc.out, ui.out])
  go_enter Tryz.func60, Tryz.ntmps60
  go_upto_region 1 with (fail)
  rw [HWp.out]
  clear HWp
  go_upto_region 3 with (first | (go_at_call 58; refine (rwithin_any _ _ _).mono ?_; rintro e w' ⟨rfl, rfl⟩) | fail)
  go_upto_region 4 with (fail)
  rw [HWf.out, HGF.out]
  clear HWf HGF
  go_upto_region 5 with (fail)
  rw [HWx.out, HGX.out]
  clear HWx HGX p0 p1 p2 f0 f1 f2 f3 f4 rp0 rp1 rf0 rf1 rf2 hbp hbf
  go_upto_region 7 with (first | (go_at_call 58; refine (rwithin_any _ _ _).mono ?_; rintro e w' ⟨rfl, rfl⟩) | fail)
  go_wp2_with fail
  refine (ropd_any o _ hr.out.1 hr.out.2).mono ?_
  rintro e w' ⟨rfl, rfl⟩
  rw [ua.out, ub.out, uc.out, ui.out]
  go_wp2_with fail
  all_goals
    first
      | (go_ret; exact ⟨ret_int (I2.out (UP.out.2 (by first | omega | (simp only [bne_iff_ne, ne_eq] at *; omega)))).symm, hbx.out⟩)
      | skip
  obtain rfl : d = 0 := by first | omega | (simp only [bne_eq_false_iff_eq] at *; omega)
  obtain rfl : m = 0 := by first | omega | (simp only [bne_eq_false_iff_eq] at *; omega)
  have hu : ¬ unP ⟨o, a, p, 0, 0⟩ := fun h => by have := UP.out.1 h; omega
  have cu := ropds_any (some ⟨b, off, none⟩) n c P A1 n1 c1 (some ⟨b2, off2, none⟩) n2 c2 o a p 0 0 Wx hr.out.1 hr.out.2
  rcases hbk : okW n P n1 o a p 0 with _ | _
  · rw [hbk] at cu
    have HK := hide (show okW n f.params f.slots.length o a p 0 = false by rw [← HP.out, HL1.out]; exact hbk)
    clear hbk
    refine cu.mono ?_
    rintro e w5 ⟨rfl, hb5⟩
    have HB5 := hide (hbx.out.trans (hb5.mono hbx.out.size))
    clear hb5 cu
    go_wp2
    go_ret
    exact ⟨ret_int ((IR.out hu).1 HK.out).symm, HB5.out⟩
  · rw [hbk] at cu
    have HK := hide (show okW n f.params f.slots.length o a p 0 = true by rw [← HP.out, HL1.out]; exact hbk)
    clear hbk
    refine cu.mono ?_
    rintro e w5 ⟨rfl, hb5⟩
    have HB5 := hide (hbx.out.trans (hb5.mono hbx.out.size))
    have rx5 := hide (rx.out.call hb5)
    have rf5 := hide (rf.out.call hb5)
    have u0 := rx5.out.cell (k := 0) rfl
    have u1 := rx5.out.cell (k := 1) rfl
    have u2 := rx5.out.cell (k := 2) rfl
    have v1 := rf5.out.cell (k := 1) rfl
    have v2 := rf5.out.cell (k := 2) rfl
    clear hb5 cu y0 y1 y2 y3 y4 g0 g1 g2 z0
    go_wp2_with fail
    go_quiet (fail)
    go_wp2
    go_ret
    exact ⟨ret_int ((((IR.out hu).2 HK.out).2 m17.out).2 m20.out).symm, drewN_below HB5.out _⟩

set_option maxRecDepth 100000 in
set_option maxHeartbeats 8000000 in
theorem rchk_a (w : World) (lo b off n c : Nat) (hs : List Hd) (F : Pg) (i k : Nat) (P : Int) (A1 : Option Addr) (n1 c1 b2 off2 n2 c2 : Nat) (f : Fn) (o : Int) (a p d m : Int) (H : Hid (PgAt w lo w.heap.size (some ⟨b, off, none⟩) n c hs F)) (hin : i < n) (hn : n ≤ 100000) (hf : Hid (HdAt w lo w.heap.size ⟨P, A1, n1, c1, some ⟨b2, off2, none⟩, n2, c2⟩ f)) (hk : k < n2) (hn2 : n2 ≤ 8796093022208)
    (e0 : w.cell? ⟨b, off + i * 3, none⟩ = some (.int .i64 P)) (e1 : w.cell? ⟨b, off + i * 3 + 1, none⟩ = some (.slice A1 n1 c1)) (e2 : w.cell? ⟨b, off + i * 3 + 2, none⟩ = some (.slice (some ⟨b2, off2, none⟩) n2 c2))
    (x0 : w.cell? ⟨b2, off2 + k * 5, none⟩ = some (.int .i64 o)) (x1 : w.cell? ⟨b2, off2 + k * 5 + 1, none⟩ = some (.int .i64 a)) (x2 : w.cell? ⟨b2, off2 + k * 5 + 2, none⟩ = some (.int .i64 p)) (x3 : w.cell? ⟨b2, off2 + k * 5 + 3, none⟩ = some (.int .i64 d)) (x4 : w.cell? ⟨b2, off2 + k * 5 + 4, none⟩ = some (.int .u64 m)) (h0 : 0 ≤ o) (h1 : o < 25) (n17 : o ≠ 17) (n20 : o ≠ 20) (n21 : o ≠ 21)
    (ua : Hid (useA o = true)) (ub : Hid (useB o = false)) (uc : Hid (useC o = false)) (ui : Hid (useI o = false)) :
    Calls Tryz.prog 60 #[gv (some ⟨b, off, none⟩) n c, .int .i64 (i : Int), .int .i64 (k : Int)] w fun e w' => e = .returned (.int .i64 (insE n f ⟨o, a, p, d, m⟩)) ∧ Below w.heap.size w w' := by
  have l1 := hf.out.l1
  have l2 := hf.out.l2
  have hP := hf.out.p
  simp only at l1 l2 hP
  have HL1 := hide l1
  have HL2 := hide l2
  have HP := hide hP
  clear l1 l2 hP
  have hi1 : withB (i : Int) (n : Int) = true := withB_true.2 ⟨by omega, by omega⟩
  have hk1 : withB (k : Int) (n2 : Int) = true := withB_true.2 ⟨by omega, by omega⟩
  have hiz : (i : Int) < (n : Int) := by omega
  have hkz : (k : Int) < (n2 : Int) := by omega
  have bl := World.block_lt_of_cell? _ _ e0
  have bl2 := World.block_lt_of_cell? _ _ x0
  obtain ⟨Wp, hWp⟩ : ∃ W, w.alloc (.cells #[.slice (some ⟨b, off, none⟩) n c] 29) = W := ⟨_, rfl⟩
  obtain ⟨Wf, hWf⟩ : ∃ W, Wp.alloc (.cells #[.int .i64 P, .slice A1 n1 c1, .slice (some ⟨b2, off2, none⟩) n2 c2] 49) = W := ⟨_, rfl⟩
  obtain ⟨Wx, hWx⟩ : ∃ W, Wf.alloc (.cells #[.int .i64 o, .int .i64 a, .int .i64 p, .int .i64 d, .int .u64 m] 44) = W := ⟨_, rfl⟩
  obtain ⟨gf, hgf⟩ : ∃ g, Wp.heap.size = g := ⟨_, rfl⟩
  obtain ⟨gx, hgx⟩ : ∃ g, Wf.heap.size = g := ⟨_, rfl⟩
  have hbp := hide (show Below w.heap.size w Wp by rw [← hWp]; exact below1 w _)
  have hbf := hide (show Below w.heap.size w Wf by rw [← hWf]; exact hbp.out.alloc hbp.out.size _)
  have hbx := hide (show Below w.heap.size w Wx by rw [← hWx]; exact hbf.out.alloc hbf.out.size _)
  have rp := hide (show Row Wx w.heap.size 29 [.slice (some ⟨b, off, none⟩) n c] by rw [← hWx, ← hWf, ← hWp]; exact ((Row.new w _ _).alloc _).alloc _)
  have rf := hide (show Row Wx gf 49 [.int .i64 P, .slice A1 n1 c1, .slice (some ⟨b2, off2, none⟩) n2 c2] by rw [← hWx, ← hWf, ← hgf]; exact (Row.new Wp _ _).alloc _)
  have rx := hide (show Row Wx gx 44 [.int .i64 o, .int .i64 a, .int .i64 p, .int .i64 d, .int .u64 m] by rw [← hWx, ← hgx]; exact Row.new Wf _ _)
  have rp0 : Wp.cell? ⟨w.heap.size, 0, none⟩ = some (.slice (some ⟨b, off, none⟩) n c) := by rw [← hWp]; exact (Row.new w 29 [.slice (some ⟨b, off, none⟩) n c]).cell (k := 0) rfl
  have rp1 : Wf.cell? ⟨w.heap.size, 0, none⟩ = some (.slice (some ⟨b, off, none⟩) n c) := by rw [← hWf, ← hWp]; exact ((Row.new w 29 [.slice (some ⟨b, off, none⟩) n c]).alloc _).cell (k := 0) rfl
  have rf0 : Wf.cell? ⟨gf, 0, none⟩ = some (.int .i64 P) := by rw [← hWf, ← hgf]; exact (Row.new Wp 49 [.int .i64 P, .slice A1 n1 c1, .slice (some ⟨b2, off2, none⟩) n2 c2]).cell (k := 0) rfl
  have rf1 : Wf.cell? ⟨gf, 1, none⟩ = some (.slice A1 n1 c1) := by rw [← hWf, ← hgf]; exact (Row.new Wp 49 [.int .i64 P, .slice A1 n1 c1, .slice (some ⟨b2, off2, none⟩) n2 c2]).cell (k := 1) rfl
  have rf2 : Wf.cell? ⟨gf, 2, none⟩ = some (.slice (some ⟨b2, off2, none⟩) n2 c2) := by rw [← hWf, ← hgf]; exact (Row.new Wp 49 [.int .i64 P, .slice A1 n1 c1, .slice (some ⟨b2, off2, none⟩) n2 c2]).cell (k := 2) rfl
  have p0 := (hbp.out.cell bl).trans e0
  have p1 := (hbp.out.cell (p := ⟨b, off + i * 3 + 1, none⟩) bl).trans e1
  have p2 := (hbp.out.cell (p := ⟨b, off + i * 3 + 2, none⟩) bl).trans e2
  have f0 := (hbf.out.cell bl2).trans x0
  have f1 := (hbf.out.cell (p := ⟨b2, off2 + k * 5 + 1, none⟩) bl2).trans x1
  have f2 := (hbf.out.cell (p := ⟨b2, off2 + k * 5 + 2, none⟩) bl2).trans x2
  have f3 := (hbf.out.cell (p := ⟨b2, off2 + k * 5 + 3, none⟩) bl2).trans x3
  have f4 := (hbf.out.cell (p := ⟨b2, off2 + k * 5 + 4, none⟩) bl2).trans x4
  have y0 := rx.out.cell (k := 0) rfl
  have y1 := rx.out.cell (k := 1) rfl
  have y2 := rx.out.cell (k := 2) rfl
  have y3 := rx.out.cell (k := 3) rfl
  have y4 := rx.out.cell (k := 4) rfl
  have g0 := rf.out.cell (k := 0) rfl
  have g1 := rf.out.cell (k := 1) rfl
  have g2 := rf.out.cell (k := 2) rfl
  have z0 := rp.out.cell (k := 0) rfl
  have HWp := hide hWp
  have HWf := hide hWf
  have HWx := hide hWx
  have HGF := hide hgf
  have HGX := hide hgx
  have hr := hide (show 0 ≤ (o : Int) ∧ (o : Int) < 25 by omega)
  have ho1 : withB o 25 = true := withB_true.2 hr.out
  have IR := hide (fun (hu : ¬ unP ⟨o, a, p, d, m⟩) => insE_rest (N := n) (f := f) (x := ⟨o, a, p, d, m⟩) hr.out hu)
  have I2 := hide (fun (hu : unP ⟨o, a, p, d, m⟩) => insE_two (N := n) (f := f) (x := ⟨o, a, p, d, m⟩) hr.out hu)
  clear hWp hWf hWx hgf hgx e0 e1 e2 x0 x1 x2 x3 x4 bl bl2
  have m17 := hide (show moveBad f ⟨o, a, p, d, m⟩ = false by unfold moveBad; simp [n17])
  have m20 := hide (show ¬ tgP f ⟨o, a, p, d, m⟩ by unfold tgP; simp [n20, n21])
  have q17 : (o == 17) = false := by rw [beq_eq_false_iff_ne]; exact n17
  have q20 : (o == 20) = false := by rw [beq_eq_false_iff_ne]; exact n20
  have q21 : (o == 21) = false := by rw [beq_eq_false_iff_ne]; exact n21
  clear n17 n20 n21
  have UP := hide (show unP ⟨o, a, p, d, m⟩ ↔ p ≠ 0 ∨ d ≠ 0 ∨ m ≠ 0 by unfold unP; simp [ua.out, ub.out, uc.out, ui.out])
  go_enter Tryz.func60, Tryz.ntmps60
  go_upto_region 1 with (fail)
  rw [HWp.out]
  clear HWp
  go_upto_region 3 with (first | (go_at_call 58; refine (rwithin_any _ _ _).mono ?_; rintro e w' ⟨rfl, rfl⟩) | fail)
  go_upto_region 4 with (fail)
  rw [HWf.out, HGF.out]
  clear HWf HGF
  go_upto_region 5 with (fail)
  rw [HWx.out, HGX.out]
  clear HWx HGX p0 p1 p2 f0 f1 f2 f3 f4 rp0 rp1 rf0 rf1 rf2 hbp hbf
  go_upto_region 7 with (first | (go_at_call 58; refine (rwithin_any _ _ _).mono ?_; rintro e w' ⟨rfl, rfl⟩) | fail)
  go_wp2_with fail
  refine (ropd_any o _ hr.out.1 hr.out.2).mono ?_
  rintro e w' ⟨rfl, rfl⟩
  rw [ua.out, ub.out, uc.out, ui.out]
  go_wp2_with fail
  all_goals
    first
      | (go_ret; exact ⟨ret_int (I2.out (UP.out.2 (by first | omega | (simp only [bne_iff_ne, ne_eq] at *; omega)))).symm, hbx.out⟩)
      | skip
  obtain rfl : p = 0 := by first | omega | (simp only [bne_eq_false_iff_eq] at *; omega)
  obtain rfl : d = 0 := by first | omega | (simp only [bne_eq_false_iff_eq] at *; omega)
  obtain rfl : m = 0 := by first | omega | (simp only [bne_eq_false_iff_eq] at *; omega)
  have hu : ¬ unP ⟨o, a, 0, 0, 0⟩ := fun h => by have := UP.out.1 h; omega
  have cu := ropds_any (some ⟨b, off, none⟩) n c P A1 n1 c1 (some ⟨b2, off2, none⟩) n2 c2 o a 0 0 0 Wx hr.out.1 hr.out.2
  rcases hbk : okW n P n1 o a 0 0 with _ | _
  · rw [hbk] at cu
    have HK := hide (show okW n f.params f.slots.length o a 0 0 = false by rw [← HP.out, HL1.out]; exact hbk)
    clear hbk
    refine cu.mono ?_
    rintro e w5 ⟨rfl, hb5⟩
    have HB5 := hide (hbx.out.trans (hb5.mono hbx.out.size))
    clear hb5 cu
    go_wp2
    go_ret
    exact ⟨ret_int ((IR.out hu).1 HK.out).symm, HB5.out⟩
  · rw [hbk] at cu
    have HK := hide (show okW n f.params f.slots.length o a 0 0 = true by rw [← HP.out, HL1.out]; exact hbk)
    clear hbk
    refine cu.mono ?_
    rintro e w5 ⟨rfl, hb5⟩
    have HB5 := hide (hbx.out.trans (hb5.mono hbx.out.size))
    have rx5 := hide (rx.out.call hb5)
    have rf5 := hide (rf.out.call hb5)
    have u0 := rx5.out.cell (k := 0) rfl
    have u1 := rx5.out.cell (k := 1) rfl
    have u2 := rx5.out.cell (k := 2) rfl
    have v1 := rf5.out.cell (k := 1) rfl
    have v2 := rf5.out.cell (k := 2) rfl
    clear hb5 cu y0 y1 y2 y3 y4 g0 g1 g2 z0
    go_wp2_with fail
    go_quiet (fail)
    go_wp2
    go_ret
    exact ⟨ret_int ((((IR.out hu).2 HK.out).2 m17.out).2 m20.out).symm, drewN_below HB5.out _⟩

set_option maxRecDepth 100000 in
set_option maxHeartbeats 8000000 in
theorem rchk_ai (w : World) (lo b off n c : Nat) (hs : List Hd) (F : Pg) (i k : Nat) (P : Int) (A1 : Option Addr) (n1 c1 b2 off2 n2 c2 : Nat) (f : Fn) (o : Int) (a p d m : Int) (H : Hid (PgAt w lo w.heap.size (some ⟨b, off, none⟩) n c hs F)) (hin : i < n) (hn : n ≤ 100000) (hf : Hid (HdAt w lo w.heap.size ⟨P, A1, n1, c1, some ⟨b2, off2, none⟩, n2, c2⟩ f)) (hk : k < n2) (hn2 : n2 ≤ 8796093022208)
    (e0 : w.cell? ⟨b, off + i * 3, none⟩ = some (.int .i64 P)) (e1 : w.cell? ⟨b, off + i * 3 + 1, none⟩ = some (.slice A1 n1 c1)) (e2 : w.cell? ⟨b, off + i * 3 + 2, none⟩ = some (.slice (some ⟨b2, off2, none⟩) n2 c2))
    (x0 : w.cell? ⟨b2, off2 + k * 5, none⟩ = some (.int .i64 o)) (x1 : w.cell? ⟨b2, off2 + k * 5 + 1, none⟩ = some (.int .i64 a)) (x2 : w.cell? ⟨b2, off2 + k * 5 + 2, none⟩ = some (.int .i64 p)) (x3 : w.cell? ⟨b2, off2 + k * 5 + 3, none⟩ = some (.int .i64 d)) (x4 : w.cell? ⟨b2, off2 + k * 5 + 4, none⟩ = some (.int .u64 m)) (h0 : 0 ≤ o) (h1 : o < 25) (n17 : o ≠ 17) (n20 : o ≠ 20) (n21 : o ≠ 21)
    (ua : Hid (useA o = true)) (ub : Hid (useB o = false)) (uc : Hid (useC o = false)) (ui : Hid (useI o = true)) :
    Calls Tryz.prog 60 #[gv (some ⟨b, off, none⟩) n c, .int .i64 (i : Int), .int .i64 (k : Int)] w fun e w' => e = .returned (.int .i64 (insE n f ⟨o, a, p, d, m⟩)) ∧ Below w.heap.size w w' := by
  have l1 := hf.out.l1
  have l2 := hf.out.l2
  have hP := hf.out.p
  simp only at l1 l2 hP
  have HL1 := hide l1
  have HL2 := hide l2
  have HP := hide hP
  clear l1 l2 hP
  have hi1 : withB (i : Int) (n : Int) = true := withB_true.2 ⟨by omega, by omega⟩
  have hk1 : withB (k : Int) (n2 : Int) = true := withB_true.2 ⟨by omega, by omega⟩
  have hiz : (i : Int) < (n : Int) := by omega
  have hkz : (k : Int) < (n2 : Int) := by omega
  have bl := World.block_lt_of_cell? _ _ e0
  have bl2 := World.block_lt_of_cell? _ _ x0
  obtain ⟨Wp, hWp⟩ : ∃ W, w.alloc (.cells #[.slice (some ⟨b, off, none⟩) n c] 29) = W := ⟨_, rfl⟩
  obtain ⟨Wf, hWf⟩ : ∃ W, Wp.alloc (.cells #[.int .i64 P, .slice A1 n1 c1, .slice (some ⟨b2, off2, none⟩) n2 c2] 49) = W := ⟨_, rfl⟩
  obtain ⟨Wx, hWx⟩ : ∃ W, Wf.alloc (.cells #[.int .i64 o, .int .i64 a, .int .i64 p, .int .i64 d, .int .u64 m] 44) = W := ⟨_, rfl⟩
  obtain ⟨gf, hgf⟩ : ∃ g, Wp.heap.size = g := ⟨_, rfl⟩
  obtain ⟨gx, hgx⟩ : ∃ g, Wf.heap.size = g := ⟨_, rfl⟩
  have hbp := hide (show Below w.heap.size w Wp by rw [← hWp]; exact below1 w _)
  have hbf := hide (show Below w.heap.size w Wf by rw [← hWf]; exact hbp.out.alloc hbp.out.size _)
  have hbx := hide (show Below w.heap.size w Wx by rw [← hWx]; exact hbf.out.alloc hbf.out.size _)
  have rp := hide (show Row Wx w.heap.size 29 [.slice (some ⟨b, off, none⟩) n c] by rw [← hWx, ← hWf, ← hWp]; exact ((Row.new w _ _).alloc _).alloc _)
  have rf := hide (show Row Wx gf 49 [.int .i64 P, .slice A1 n1 c1, .slice (some ⟨b2, off2, none⟩) n2 c2] by rw [← hWx, ← hWf, ← hgf]; exact (Row.new Wp _ _).alloc _)
  have rx := hide (show Row Wx gx 44 [.int .i64 o, .int .i64 a, .int .i64 p, .int .i64 d, .int .u64 m] by rw [← hWx, ← hgx]; exact Row.new Wf _ _)
  have rp0 : Wp.cell? ⟨w.heap.size, 0, none⟩ = some (.slice (some ⟨b, off, none⟩) n c) := by rw [← hWp]; exact (Row.new w 29 [.slice (some ⟨b, off, none⟩) n c]).cell (k := 0) rfl
  have rp1 : Wf.cell? ⟨w.heap.size, 0, none⟩ = some (.slice (some ⟨b, off, none⟩) n c) := by rw [← hWf, ← hWp]; exact ((Row.new w 29 [.slice (some ⟨b, off, none⟩) n c]).alloc _).cell (k := 0) rfl
  have rf0 : Wf.cell? ⟨gf, 0, none⟩ = some (.int .i64 P) := by rw [← hWf, ← hgf]; exact (Row.new Wp 49 [.int .i64 P, .slice A1 n1 c1, .slice (some ⟨b2, off2, none⟩) n2 c2]).cell (k := 0) rfl
  have rf1 : Wf.cell? ⟨gf, 1, none⟩ = some (.slice A1 n1 c1) := by rw [← hWf, ← hgf]; exact (Row.new Wp 49 [.int .i64 P, .slice A1 n1 c1, .slice (some ⟨b2, off2, none⟩) n2 c2]).cell (k := 1) rfl
  have rf2 : Wf.cell? ⟨gf, 2, none⟩ = some (.slice (some ⟨b2, off2, none⟩) n2 c2) := by rw [← hWf, ← hgf]; exact (Row.new Wp 49 [.int .i64 P, .slice A1 n1 c1, .slice (some ⟨b2, off2, none⟩) n2 c2]).cell (k := 2) rfl
  have p0 := (hbp.out.cell bl).trans e0
  have p1 := (hbp.out.cell (p := ⟨b, off + i * 3 + 1, none⟩) bl).trans e1
  have p2 := (hbp.out.cell (p := ⟨b, off + i * 3 + 2, none⟩) bl).trans e2
  have f0 := (hbf.out.cell bl2).trans x0
  have f1 := (hbf.out.cell (p := ⟨b2, off2 + k * 5 + 1, none⟩) bl2).trans x1
  have f2 := (hbf.out.cell (p := ⟨b2, off2 + k * 5 + 2, none⟩) bl2).trans x2
  have f3 := (hbf.out.cell (p := ⟨b2, off2 + k * 5 + 3, none⟩) bl2).trans x3
  have f4 := (hbf.out.cell (p := ⟨b2, off2 + k * 5 + 4, none⟩) bl2).trans x4
  have y0 := rx.out.cell (k := 0) rfl
  have y1 := rx.out.cell (k := 1) rfl
  have y2 := rx.out.cell (k := 2) rfl
  have y3 := rx.out.cell (k := 3) rfl
  have y4 := rx.out.cell (k := 4) rfl
  have g0 := rf.out.cell (k := 0) rfl
  have g1 := rf.out.cell (k := 1) rfl
  have g2 := rf.out.cell (k := 2) rfl
  have z0 := rp.out.cell (k := 0) rfl
  have HWp := hide hWp
  have HWf := hide hWf
  have HWx := hide hWx
  have HGF := hide hgf
  have HGX := hide hgx
  have hr := hide (show 0 ≤ (o : Int) ∧ (o : Int) < 25 by omega)
  have ho1 : withB o 25 = true := withB_true.2 hr.out
  have IR := hide (fun (hu : ¬ unP ⟨o, a, p, d, m⟩) => insE_rest (N := n) (f := f) (x := ⟨o, a, p, d, m⟩) hr.out hu)
  have I2 := hide (fun (hu : unP ⟨o, a, p, d, m⟩) => insE_two (N := n) (f := f) (x := ⟨o, a, p, d, m⟩) hr.out hu)
  clear hWp hWf hWx hgf hgx e0 e1 e2 x0 x1 x2 x3 x4 bl bl2
  have m17 := hide (show moveBad f ⟨o, a, p, d, m⟩ = false by unfold moveBad; simp [n17])
  have m20 := hide (show ¬ tgP f ⟨o, a, p, d, m⟩ by unfold tgP; simp [n20, n21])
  have q17 : (o == 17) = false := by rw [beq_eq_false_iff_ne]; exact n17
  have q20 : (o == 20) = false := by rw [beq_eq_false_iff_ne]; exact n20
  have q21 : (o == 21) = false := by rw [beq_eq_false_iff_ne]; exact n21
  clear n17 n20 n21
  have UP := hide (show unP ⟨o, a, p, d, m⟩ ↔ p ≠ 0 ∨ d ≠ 0 by unfold unP; simp [ua.out, ub.out, uc.out, ui.out])
  go_enter Tryz.func60, Tryz.ntmps60
  go_upto_region 1 with (fail)
  rw [HWp.out]
  clear HWp
  go_upto_region 3 with (first | (go_at_call 58; refine (rwithin_any _ _ _).mono ?_; rintro e w' ⟨rfl, rfl⟩) | fail)
  go_upto_region 4 with (fail)
  rw [HWf.out, HGF.out]
  clear HWf HGF
  go_upto_region 5 with (fail)
  rw [HWx.out, HGX.out]
  clear HWx HGX p0 p1 p2 f0 f1 f2 f3 f4 rp0 rp1 rf0 rf1 rf2 hbp hbf
  go_upto_region 7 with (first | (go_at_call 58; refine (rwithin_any _ _ _).mono ?_; rintro e w' ⟨rfl, rfl⟩) | fail)
  go_wp2_with fail
  refine (ropd_any o _ hr.out.1 hr.out.2).mono ?_
  rintro e w' ⟨rfl, rfl⟩
  rw [ua.out, ub.out, uc.out, ui.out]
  go_wp2_with fail
  all_goals
    first
      | (go_ret; exact ⟨ret_int (I2.out (UP.out.2 (by first | omega | (simp only [bne_iff_ne, ne_eq] at *; omega)))).symm, hbx.out⟩)
      | skip
  obtain rfl : p = 0 := by first | omega | (simp only [bne_eq_false_iff_eq] at *; omega)
  obtain rfl : d = 0 := by first | omega | (simp only [bne_eq_false_iff_eq] at *; omega)
  have hu : ¬ unP ⟨o, a, 0, 0, m⟩ := fun h => by have := UP.out.1 h; omega
  have cu := ropds_any (some ⟨b, off, none⟩) n c P A1 n1 c1 (some ⟨b2, off2, none⟩) n2 c2 o a 0 0 m Wx hr.out.1 hr.out.2
  rcases hbk : okW n P n1 o a 0 0 with _ | _
  · rw [hbk] at cu
    have HK := hide (show okW n f.params f.slots.length o a 0 0 = false by rw [← HP.out, HL1.out]; exact hbk)
    clear hbk
    refine cu.mono ?_
    rintro e w5 ⟨rfl, hb5⟩
    have HB5 := hide (hbx.out.trans (hb5.mono hbx.out.size))
    clear hb5 cu
    go_wp2
    go_ret
    exact ⟨ret_int ((IR.out hu).1 HK.out).symm, HB5.out⟩
  · rw [hbk] at cu
    have HK := hide (show okW n f.params f.slots.length o a 0 0 = true by rw [← HP.out, HL1.out]; exact hbk)
    clear hbk
    refine cu.mono ?_
    rintro e w5 ⟨rfl, hb5⟩
    have HB5 := hide (hbx.out.trans (hb5.mono hbx.out.size))
    have rx5 := hide (rx.out.call hb5)
    have rf5 := hide (rf.out.call hb5)
    have u0 := rx5.out.cell (k := 0) rfl
    have u1 := rx5.out.cell (k := 1) rfl
    have u2 := rx5.out.cell (k := 2) rfl
    have v1 := rf5.out.cell (k := 1) rfl
    have v2 := rf5.out.cell (k := 2) rfl
    clear hb5 cu y0 y1 y2 y3 y4 g0 g1 g2 z0
    go_wp2_with fail
    go_quiet (fail)
    go_wp2
    go_ret
    exact ⟨ret_int ((((IR.out hu).2 HK.out).2 m17.out).2 m20.out).symm, drewN_below HB5.out _⟩

set_option maxRecDepth 100000 in
set_option maxHeartbeats 8000000 in
theorem rchk_i (w : World) (lo b off n c : Nat) (hs : List Hd) (F : Pg) (i k : Nat) (P : Int) (A1 : Option Addr) (n1 c1 b2 off2 n2 c2 : Nat) (f : Fn) (o : Int) (a p d m : Int) (H : Hid (PgAt w lo w.heap.size (some ⟨b, off, none⟩) n c hs F)) (hin : i < n) (hn : n ≤ 100000) (hf : Hid (HdAt w lo w.heap.size ⟨P, A1, n1, c1, some ⟨b2, off2, none⟩, n2, c2⟩ f)) (hk : k < n2) (hn2 : n2 ≤ 8796093022208)
    (e0 : w.cell? ⟨b, off + i * 3, none⟩ = some (.int .i64 P)) (e1 : w.cell? ⟨b, off + i * 3 + 1, none⟩ = some (.slice A1 n1 c1)) (e2 : w.cell? ⟨b, off + i * 3 + 2, none⟩ = some (.slice (some ⟨b2, off2, none⟩) n2 c2))
    (x0 : w.cell? ⟨b2, off2 + k * 5, none⟩ = some (.int .i64 o)) (x1 : w.cell? ⟨b2, off2 + k * 5 + 1, none⟩ = some (.int .i64 a)) (x2 : w.cell? ⟨b2, off2 + k * 5 + 2, none⟩ = some (.int .i64 p)) (x3 : w.cell? ⟨b2, off2 + k * 5 + 3, none⟩ = some (.int .i64 d)) (x4 : w.cell? ⟨b2, off2 + k * 5 + 4, none⟩ = some (.int .u64 m)) (h0 : 0 ≤ o) (h1 : o < 25) (n17 : o ≠ 17) (n20 : o ≠ 20) (n21 : o ≠ 21)
    (ua : Hid (useA o = false)) (ub : Hid (useB o = false)) (uc : Hid (useC o = false)) (ui : Hid (useI o = true)) :
    Calls Tryz.prog 60 #[gv (some ⟨b, off, none⟩) n c, .int .i64 (i : Int), .int .i64 (k : Int)] w fun e w' => e = .returned (.int .i64 (insE n f ⟨o, a, p, d, m⟩)) ∧ Below w.heap.size w w' := by
  have l1 := hf.out.l1
  have l2 := hf.out.l2
  have hP := hf.out.p
  simp only at l1 l2 hP
  have HL1 := hide l1
  have HL2 := hide l2
  have HP := hide hP
  clear l1 l2 hP
  have hi1 : withB (i : Int) (n : Int) = true := withB_true.2 ⟨by omega, by omega⟩
  have hk1 : withB (k : Int) (n2 : Int) = true := withB_true.2 ⟨by omega, by omega⟩
  have hiz : (i : Int) < (n : Int) := by omega
  have hkz : (k : Int) < (n2 : Int) := by omega
  have bl := World.block_lt_of_cell? _ _ e0
  have bl2 := World.block_lt_of_cell? _ _ x0
  obtain ⟨Wp, hWp⟩ : ∃ W, w.alloc (.cells #[.slice (some ⟨b, off, none⟩) n c] 29) = W := ⟨_, rfl⟩
  obtain ⟨Wf, hWf⟩ : ∃ W, Wp.alloc (.cells #[.int .i64 P, .slice A1 n1 c1, .slice (some ⟨b2, off2, none⟩) n2 c2] 49) = W := ⟨_, rfl⟩
  obtain ⟨Wx, hWx⟩ : ∃ W, Wf.alloc (.cells #[.int .i64 o, .int .i64 a, .int .i64 p, .int .i64 d, .int .u64 m] 44) = W := ⟨_, rfl⟩
  obtain ⟨gf, hgf⟩ : ∃ g, Wp.heap.size = g := ⟨_, rfl⟩
  obtain ⟨gx, hgx⟩ : ∃ g, Wf.heap.size = g := ⟨_, rfl⟩
  have hbp := hide (show Below w.heap.size w Wp by rw [← hWp]; exact below1 w _)
  have hbf := hide (show Below w.heap.size w Wf by rw [← hWf]; exact hbp.out.alloc hbp.out.size _)
  have hbx := hide (show Below w.heap.size w Wx by rw [← hWx]; exact hbf.out.alloc hbf.out.size _)
  have rp := hide (show Row Wx w.heap.size 29 [.slice (some ⟨b, off, none⟩) n c] by rw [← hWx, ← hWf, ← hWp]; exact ((Row.new w _ _).alloc _).alloc _)
  have rf := hide (show Row Wx gf 49 [.int .i64 P, .slice A1 n1 c1, .slice (some ⟨b2, off2, none⟩) n2 c2] by rw [← hWx, ← hWf, ← hgf]; exact (Row.new Wp _ _).alloc _)
  have rx := hide (show Row Wx gx 44 [.int .i64 o, .int .i64 a, .int .i64 p, .int .i64 d, .int .u64 m] by rw [← hWx, ← hgx]; exact Row.new Wf _ _)
  have rp0 : Wp.cell? ⟨w.heap.size, 0, none⟩ = some (.slice (some ⟨b, off, none⟩) n c) := by rw [← hWp]; exact (Row.new w 29 [.slice (some ⟨b, off, none⟩) n c]).cell (k := 0) rfl
  have rp1 : Wf.cell? ⟨w.heap.size, 0, none⟩ = some (.slice (some ⟨b, off, none⟩) n c) := by rw [← hWf, ← hWp]; exact ((Row.new w 29 [.slice (some ⟨b, off, none⟩) n c]).alloc _).cell (k := 0) rfl
  have rf0 : Wf.cell? ⟨gf, 0, none⟩ = some (.int .i64 P) := by rw [← hWf, ← hgf]; exact (Row.new Wp 49 [.int .i64 P, .slice A1 n1 c1, .slice (some ⟨b2, off2, none⟩) n2 c2]).cell (k := 0) rfl
  have rf1 : Wf.cell? ⟨gf, 1, none⟩ = some (.slice A1 n1 c1) := by rw [← hWf, ← hgf]; exact (Row.new Wp 49 [.int .i64 P, .slice A1 n1 c1, .slice (some ⟨b2, off2, none⟩) n2 c2]).cell (k := 1) rfl
  have rf2 : Wf.cell? ⟨gf, 2, none⟩ = some (.slice (some ⟨b2, off2, none⟩) n2 c2) := by rw [← hWf, ← hgf]; exact (Row.new Wp 49 [.int .i64 P, .slice A1 n1 c1, .slice (some ⟨b2, off2, none⟩) n2 c2]).cell (k := 2) rfl
  have p0 := (hbp.out.cell bl).trans e0
  have p1 := (hbp.out.cell (p := ⟨b, off + i * 3 + 1, none⟩) bl).trans e1
  have p2 := (hbp.out.cell (p := ⟨b, off + i * 3 + 2, none⟩) bl).trans e2
  have f0 := (hbf.out.cell bl2).trans x0
  have f1 := (hbf.out.cell (p := ⟨b2, off2 + k * 5 + 1, none⟩) bl2).trans x1
  have f2 := (hbf.out.cell (p := ⟨b2, off2 + k * 5 + 2, none⟩) bl2).trans x2
  have f3 := (hbf.out.cell (p := ⟨b2, off2 + k * 5 + 3, none⟩) bl2).trans x3
  have f4 := (hbf.out.cell (p := ⟨b2, off2 + k * 5 + 4, none⟩) bl2).trans x4
  have y0 := rx.out.cell (k := 0) rfl
  have y1 := rx.out.cell (k := 1) rfl
  have y2 := rx.out.cell (k := 2) rfl
  have y3 := rx.out.cell (k := 3) rfl
  have y4 := rx.out.cell (k := 4) rfl
  have g0 := rf.out.cell (k := 0) rfl
  have g1 := rf.out.cell (k := 1) rfl
  have g2 := rf.out.cell (k := 2) rfl
  have z0 := rp.out.cell (k := 0) rfl
  have HWp := hide hWp
  have HWf := hide hWf
  have HWx := hide hWx
  have HGF := hide hgf
  have HGX := hide hgx
  have hr := hide (show 0 ≤ (o : Int) ∧ (o : Int) < 25 by omega)
  have ho1 : withB o 25 = true := withB_true.2 hr.out
  have IR := hide (fun (hu : ¬ unP ⟨o, a, p, d, m⟩) => insE_rest (N := n) (f := f) (x := ⟨o, a, p, d, m⟩) hr.out hu)
  have I2 := hide (fun (hu : unP ⟨o, a, p, d, m⟩) => insE_two (N := n) (f := f) (x := ⟨o, a, p, d, m⟩) hr.out hu)
  clear hWp hWf hWx hgf hgx e0 e1 e2 x0 x1 x2 x3 x4 bl bl2
  have m17 := hide (show moveBad f ⟨o, a, p, d, m⟩ = false by unfold moveBad; simp [n17])
  have m20 := hide (show ¬ tgP f ⟨o, a, p, d, m⟩ by unfold tgP; simp [n20, n21])
  have q17 : (o == 17) = false := by rw [beq_eq_false_iff_ne]; exact n17
  have q20 : (o == 20) = false := by rw [beq_eq_false_iff_ne]; exact n20
  have q21 : (o == 21) = false := by rw [beq_eq_false_iff_ne]; exact n21
  clear n17 n20 n21
  have UP := hide (show unP ⟨o, a, p, d, m⟩ ↔ a ≠ 0 ∨ p ≠ 0 ∨ d ≠ 0 by unfold unP; simp [ua.out, ub.out, uc.out, ui.out])
  go_enter Tryz.func60, Tryz.ntmps60
  go_upto_region 1 with (fail)
  rw [HWp.out]
  clear HWp
  go_upto_region 3 with (first | (go_at_call 58; refine (rwithin_any _ _ _).mono ?_; rintro e w' ⟨rfl, rfl⟩) | fail)
  go_upto_region 4 with (fail)
  rw [HWf.out, HGF.out]
  clear HWf HGF
  go_upto_region 5 with (fail)
  rw [HWx.out, HGX.out]
  clear HWx HGX p0 p1 p2 f0 f1 f2 f3 f4 rp0 rp1 rf0 rf1 rf2 hbp hbf
  go_upto_region 7 with (first | (go_at_call 58; refine (rwithin_any _ _ _).mono ?_; rintro e w' ⟨rfl, rfl⟩) | fail)
  go_wp2_with fail
  refine (ropd_any o _ hr.out.1 hr.out.2).mono ?_
  rintro e w' ⟨rfl, rfl⟩
  rw [ua.out, ub.out, uc.out, ui.out]
  go_wp2_with fail
  all_goals
    first
      | (go_ret; exact ⟨ret_int (I2.out (UP.out.2 (by first | omega | (simp only [bne_iff_ne, ne_eq] at *; omega)))).symm, hbx.out⟩)
      | skip
  obtain rfl : a = 0 := by first | omega | (simp only [bne_eq_false_iff_eq] at *; omega)
  obtain rfl : p = 0 := by first | omega | (simp only [bne_eq_false_iff_eq] at *; omega)
  obtain rfl : d = 0 := by first | omega | (simp only [bne_eq_false_iff_eq] at *; omega)
  have hu : ¬ unP ⟨o, 0, 0, 0, m⟩ := fun h => by have := UP.out.1 h; omega
  have cu := ropds_any (some ⟨b, off, none⟩) n c P A1 n1 c1 (some ⟨b2, off2, none⟩) n2 c2 o 0 0 0 m Wx hr.out.1 hr.out.2
  rcases hbk : okW n P n1 o 0 0 0 with _ | _
  · rw [hbk] at cu
    have HK := hide (show okW n f.params f.slots.length o 0 0 0 = false by rw [← HP.out, HL1.out]; exact hbk)
    clear hbk
    refine cu.mono ?_
    rintro e w5 ⟨rfl, hb5⟩
    have HB5 := hide (hbx.out.trans (hb5.mono hbx.out.size))
    clear hb5 cu
    go_wp2
    go_ret
    exact ⟨ret_int ((IR.out hu).1 HK.out).symm, HB5.out⟩
  · rw [hbk] at cu
    have HK := hide (show okW n f.params f.slots.length o 0 0 0 = true by rw [← HP.out, HL1.out]; exact hbk)
    clear hbk
    refine cu.mono ?_
    rintro e w5 ⟨rfl, hb5⟩
    have HB5 := hide (hbx.out.trans (hb5.mono hbx.out.size))
    have rx5 := hide (rx.out.call hb5)
    have rf5 := hide (rf.out.call hb5)
    have u0 := rx5.out.cell (k := 0) rfl
    have u1 := rx5.out.cell (k := 1) rfl
    have u2 := rx5.out.cell (k := 2) rfl
    have v1 := rf5.out.cell (k := 1) rfl
    have v2 := rf5.out.cell (k := 2) rfl
    clear hb5 cu y0 y1 y2 y3 y4 g0 g1 g2 z0
    go_wp2_with fail
    go_quiet (fail)
    go_wp2
    go_ret
    exact ⟨ret_int ((((IR.out hu).2 HK.out).2 m17.out).2 m20.out).symm, drewN_below HB5.out _⟩

set_option maxRecDepth 100000 in
set_option maxHeartbeats 8000000 in
theorem rchk_o (w : World) (lo b off n c : Nat) (hs : List Hd) (F : Pg) (i k : Nat) (P : Int) (A1 : Option Addr) (n1 c1 b2 off2 n2 c2 : Nat) (f : Fn) (o : Int) (a p d m : Int) (H : Hid (PgAt w lo w.heap.size (some ⟨b, off, none⟩) n c hs F)) (hin : i < n) (hn : n ≤ 100000) (hf : Hid (HdAt w lo w.heap.size ⟨P, A1, n1, c1, some ⟨b2, off2, none⟩, n2, c2⟩ f)) (hk : k < n2) (hn2 : n2 ≤ 8796093022208)
    (e0 : w.cell? ⟨b, off + i * 3, none⟩ = some (.int .i64 P)) (e1 : w.cell? ⟨b, off + i * 3 + 1, none⟩ = some (.slice A1 n1 c1)) (e2 : w.cell? ⟨b, off + i * 3 + 2, none⟩ = some (.slice (some ⟨b2, off2, none⟩) n2 c2))
    (x0 : w.cell? ⟨b2, off2 + k * 5, none⟩ = some (.int .i64 o)) (x1 : w.cell? ⟨b2, off2 + k * 5 + 1, none⟩ = some (.int .i64 a)) (x2 : w.cell? ⟨b2, off2 + k * 5 + 2, none⟩ = some (.int .i64 p)) (x3 : w.cell? ⟨b2, off2 + k * 5 + 3, none⟩ = some (.int .i64 d)) (x4 : w.cell? ⟨b2, off2 + k * 5 + 4, none⟩ = some (.int .u64 m)) (h0 : 0 ≤ o) (h1 : o < 25) (n17 : o ≠ 17) (n20 : o ≠ 20) (n21 : o ≠ 21)
    (ua : Hid (useA o = false)) (ub : Hid (useB o = false)) (uc : Hid (useC o = false)) (ui : Hid (useI o = false)) :
    Calls Tryz.prog 60 #[gv (some ⟨b, off, none⟩) n c, .int .i64 (i : Int), .int .i64 (k : Int)] w fun e w' => e = .returned (.int .i64 (insE n f ⟨o, a, p, d, m⟩)) ∧ Below w.heap.size w w' := by
  have l1 := hf.out.l1
  have l2 := hf.out.l2
  have hP := hf.out.p
  simp only at l1 l2 hP
  have HL1 := hide l1
  have HL2 := hide l2
  have HP := hide hP
  clear l1 l2 hP
  have hi1 : withB (i : Int) (n : Int) = true := withB_true.2 ⟨by omega, by omega⟩
  have hk1 : withB (k : Int) (n2 : Int) = true := withB_true.2 ⟨by omega, by omega⟩
  have hiz : (i : Int) < (n : Int) := by omega
  have hkz : (k : Int) < (n2 : Int) := by omega
  have bl := World.block_lt_of_cell? _ _ e0
  have bl2 := World.block_lt_of_cell? _ _ x0
  obtain ⟨Wp, hWp⟩ : ∃ W, w.alloc (.cells #[.slice (some ⟨b, off, none⟩) n c] 29) = W := ⟨_, rfl⟩
  obtain ⟨Wf, hWf⟩ : ∃ W, Wp.alloc (.cells #[.int .i64 P, .slice A1 n1 c1, .slice (some ⟨b2, off2, none⟩) n2 c2] 49) = W := ⟨_, rfl⟩
  obtain ⟨Wx, hWx⟩ : ∃ W, Wf.alloc (.cells #[.int .i64 o, .int .i64 a, .int .i64 p, .int .i64 d, .int .u64 m] 44) = W := ⟨_, rfl⟩
  obtain ⟨gf, hgf⟩ : ∃ g, Wp.heap.size = g := ⟨_, rfl⟩
  obtain ⟨gx, hgx⟩ : ∃ g, Wf.heap.size = g := ⟨_, rfl⟩
  have hbp := hide (show Below w.heap.size w Wp by rw [← hWp]; exact below1 w _)
  have hbf := hide (show Below w.heap.size w Wf by rw [← hWf]; exact hbp.out.alloc hbp.out.size _)
  have hbx := hide (show Below w.heap.size w Wx by rw [← hWx]; exact hbf.out.alloc hbf.out.size _)
  have rp := hide (show Row Wx w.heap.size 29 [.slice (some ⟨b, off, none⟩) n c] by rw [← hWx, ← hWf, ← hWp]; exact ((Row.new w _ _).alloc _).alloc _)
  have rf := hide (show Row Wx gf 49 [.int .i64 P, .slice A1 n1 c1, .slice (some ⟨b2, off2, none⟩) n2 c2] by rw [← hWx, ← hWf, ← hgf]; exact (Row.new Wp _ _).alloc _)
  have rx := hide (show Row Wx gx 44 [.int .i64 o, .int .i64 a, .int .i64 p, .int .i64 d, .int .u64 m] by rw [← hWx, ← hgx]; exact Row.new Wf _ _)
  have rp0 : Wp.cell? ⟨w.heap.size, 0, none⟩ = some (.slice (some ⟨b, off, none⟩) n c) := by rw [← hWp]; exact (Row.new w 29 [.slice (some ⟨b, off, none⟩) n c]).cell (k := 0) rfl
  have rp1 : Wf.cell? ⟨w.heap.size, 0, none⟩ = some (.slice (some ⟨b, off, none⟩) n c) := by rw [← hWf, ← hWp]; exact ((Row.new w 29 [.slice (some ⟨b, off, none⟩) n c]).alloc _).cell (k := 0) rfl
  have rf0 : Wf.cell? ⟨gf, 0, none⟩ = some (.int .i64 P) := by rw [← hWf, ← hgf]; exact (Row.new Wp 49 [.int .i64 P, .slice A1 n1 c1, .slice (some ⟨b2, off2, none⟩) n2 c2]).cell (k := 0) rfl
  have rf1 : Wf.cell? ⟨gf, 1, none⟩ = some (.slice A1 n1 c1) := by rw [← hWf, ← hgf]; exact (Row.new Wp 49 [.int .i64 P, .slice A1 n1 c1, .slice (some ⟨b2, off2, none⟩) n2 c2]).cell (k := 1) rfl
  have rf2 : Wf.cell? ⟨gf, 2, none⟩ = some (.slice (some ⟨b2, off2, none⟩) n2 c2) := by rw [← hWf, ← hgf]; exact (Row.new Wp 49 [.int .i64 P, .slice A1 n1 c1, .slice (some ⟨b2, off2, none⟩) n2 c2]).cell (k := 2) rfl
  have p0 := (hbp.out.cell bl).trans e0
  have p1 := (hbp.out.cell (p := ⟨b, off + i * 3 + 1, none⟩) bl).trans e1
  have p2 := (hbp.out.cell (p := ⟨b, off + i * 3 + 2, none⟩) bl).trans e2
  have f0 := (hbf.out.cell bl2).trans x0
  have f1 := (hbf.out.cell (p := ⟨b2, off2 + k * 5 + 1, none⟩) bl2).trans x1
  have f2 := (hbf.out.cell (p := ⟨b2, off2 + k * 5 + 2, none⟩) bl2).trans x2
  have f3 := (hbf.out.cell (p := ⟨b2, off2 + k * 5 + 3, none⟩) bl2).trans x3
  have f4 := (hbf.out.cell (p := ⟨b2, off2 + k * 5 + 4, none⟩) bl2).trans x4
  have y0 := rx.out.cell (k := 0) rfl
  have y1 := rx.out.cell (k := 1) rfl
  have y2 := rx.out.cell (k := 2) rfl
  have y3 := rx.out.cell (k := 3) rfl
  have y4 := rx.out.cell (k := 4) rfl
  have g0 := rf.out.cell (k := 0) rfl
  have g1 := rf.out.cell (k := 1) rfl
  have g2 := rf.out.cell (k := 2) rfl
  have z0 := rp.out.cell (k := 0) rfl
  have HWp := hide hWp
  have HWf := hide hWf
  have HWx := hide hWx
  have HGF := hide hgf
  have HGX := hide hgx
  have hr := hide (show 0 ≤ (o : Int) ∧ (o : Int) < 25 by omega)
  have ho1 : withB o 25 = true := withB_true.2 hr.out
  have IR := hide (fun (hu : ¬ unP ⟨o, a, p, d, m⟩) => insE_rest (N := n) (f := f) (x := ⟨o, a, p, d, m⟩) hr.out hu)
  have I2 := hide (fun (hu : unP ⟨o, a, p, d, m⟩) => insE_two (N := n) (f := f) (x := ⟨o, a, p, d, m⟩) hr.out hu)
  clear hWp hWf hWx hgf hgx e0 e1 e2 x0 x1 x2 x3 x4 bl bl2
  have m17 := hide (show moveBad f ⟨o, a, p, d, m⟩ = false by unfold moveBad; simp [n17])
  have m20 := hide (show ¬ tgP f ⟨o, a, p, d, m⟩ by unfold tgP; simp [n20, n21])
  have q17 : (o == 17) = false := by rw [beq_eq_false_iff_ne]; exact n17
  have q20 : (o == 20) = false := by rw [beq_eq_false_iff_ne]; exact n20
  have q21 : (o == 21) = false := by rw [beq_eq_false_iff_ne]; exact n21
  clear n17 n20 n21
  have UP := hide (show unP ⟨o, a, p, d, m⟩ ↔ a ≠ 0 ∨ p ≠ 0 ∨ d ≠ 0 ∨ m ≠ 0 by unfold unP; simp [ua.out, ub.out, uc.out, ui.out])
  go_enter Tryz.func60, Tryz.ntmps60
  go_upto_region 1 with (fail)
  rw [HWp.out]
  clear HWp
  go_upto_region 3 with (first | (go_at_call 58; refine (rwithin_any _ _ _).mono ?_; rintro e w' ⟨rfl, rfl⟩) | fail)
  go_upto_region 4 with (fail)
  rw [HWf.out, HGF.out]
  clear HWf HGF
  go_upto_region 5 with (fail)
  rw [HWx.out, HGX.out]
  clear HWx HGX p0 p1 p2 f0 f1 f2 f3 f4 rp0 rp1 rf0 rf1 rf2 hbp hbf
  go_upto_region 7 with (first | (go_at_call 58; refine (rwithin_any _ _ _).mono ?_; rintro e w' ⟨rfl, rfl⟩) | fail)
  go_wp2_with fail
  refine (ropd_any o _ hr.out.1 hr.out.2).mono ?_
  rintro e w' ⟨rfl, rfl⟩
  rw [ua.out, ub.out, uc.out, ui.out]
  go_wp2_with fail
  all_goals
    first
      | (go_ret; exact ⟨ret_int (I2.out (UP.out.2 (by first | omega | (simp only [bne_iff_ne, ne_eq] at *; omega)))).symm, hbx.out⟩)
      | skip
  obtain rfl : a = 0 := by first | omega | (simp only [bne_eq_false_iff_eq] at *; omega)
  obtain rfl : p = 0 := by first | omega | (simp only [bne_eq_false_iff_eq] at *; omega)
  obtain rfl : d = 0 := by first | omega | (simp only [bne_eq_false_iff_eq] at *; omega)
  obtain rfl : m = 0 := by first | omega | (simp only [bne_eq_false_iff_eq] at *; omega)
  have hu : ¬ unP ⟨o, 0, 0, 0, 0⟩ := fun h => by have := UP.out.1 h; omega
  have cu := ropds_any (some ⟨b, off, none⟩) n c P A1 n1 c1 (some ⟨b2, off2, none⟩) n2 c2 o 0 0 0 0 Wx hr.out.1 hr.out.2
  rcases hbk : okW n P n1 o 0 0 0 with _ | _
  · rw [hbk] at cu
    have HK := hide (show okW n f.params f.slots.length o 0 0 0 = false by rw [← HP.out, HL1.out]; exact hbk)
    clear hbk
    refine cu.mono ?_
    rintro e w5 ⟨rfl, hb5⟩
    have HB5 := hide (hbx.out.trans (hb5.mono hbx.out.size))
    clear hb5 cu
    go_wp2
    go_ret
    exact ⟨ret_int ((IR.out hu).1 HK.out).symm, HB5.out⟩
  · rw [hbk] at cu
    have HK := hide (show okW n f.params f.slots.length o 0 0 0 = true by rw [← HP.out, HL1.out]; exact hbk)
    clear hbk
    refine cu.mono ?_
    rintro e w5 ⟨rfl, hb5⟩
    have HB5 := hide (hbx.out.trans (hb5.mono hbx.out.size))
    have rx5 := hide (rx.out.call hb5)
    have rf5 := hide (rf.out.call hb5)
    have u0 := rx5.out.cell (k := 0) rfl
    have u1 := rx5.out.cell (k := 1) rfl
    have u2 := rx5.out.cell (k := 2) rfl
    have v1 := rf5.out.cell (k := 1) rfl
    have v2 := rf5.out.cell (k := 2) rfl
    clear hb5 cu y0 y1 y2 y3 y4 g0 g1 g2 z0
    go_wp2_with fail
    go_quiet (fail)
    go_wp2
    go_ret
    exact ⟨ret_int ((((IR.out hu).2 HK.out).2 m17.out).2 m20.out).symm, drewN_below HB5.out _⟩

set_option maxRecDepth 100000 in
set_option maxHeartbeats 8000000 in
theorem rchk_far (w : World) (lo b off n c : Nat) (hs : List Hd) (F : Pg) (i k : Nat) (P : Int) (A1 : Option Addr) (n1 c1 b2 off2 n2 c2 : Nat) (f : Fn) (o : Int) (a p d m : Int) (H : Hid (PgAt w lo w.heap.size (some ⟨b, off, none⟩) n c hs F)) (hin : i < n) (hn : n ≤ 100000) (hf : Hid (HdAt w lo w.heap.size ⟨P, A1, n1, c1, some ⟨b2, off2, none⟩, n2, c2⟩ f)) (hk : k < n2) (hn2 : n2 ≤ 8796093022208)
    (e0 : w.cell? ⟨b, off + i * 3, none⟩ = some (.int .i64 P)) (e1 : w.cell? ⟨b, off + i * 3 + 1, none⟩ = some (.slice A1 n1 c1)) (e2 : w.cell? ⟨b, off + i * 3 + 2, none⟩ = some (.slice (some ⟨b2, off2, none⟩) n2 c2))
    (x0 : w.cell? ⟨b2, off2 + k * 5, none⟩ = some (.int .i64 o)) (x1 : w.cell? ⟨b2, off2 + k * 5 + 1, none⟩ = some (.int .i64 a)) (x2 : w.cell? ⟨b2, off2 + k * 5 + 2, none⟩ = some (.int .i64 p)) (x3 : w.cell? ⟨b2, off2 + k * 5 + 3, none⟩ = some (.int .i64 d)) (x4 : w.cell? ⟨b2, off2 + k * 5 + 4, none⟩ = some (.int .u64 m)) (ho : ¬ (0 ≤ o ∧ o < 25)) :
    Calls Tryz.prog 60 #[gv (some ⟨b, off, none⟩) n c, .int .i64 (i : Int), .int .i64 (k : Int)] w fun e w' => e = .returned (.int .i64 (insE n f ⟨o, a, p, d, m⟩)) ∧ Below w.heap.size w w' := by
  have l1 := hf.out.l1
  have l2 := hf.out.l2
  have hP := hf.out.p
  simp only at l1 l2 hP
  have HL1 := hide l1
  have HL2 := hide l2
  have HP := hide hP
  clear l1 l2 hP
  have hi1 : withB (i : Int) (n : Int) = true := withB_true.2 ⟨by omega, by omega⟩
  have hk1 : withB (k : Int) (n2 : Int) = true := withB_true.2 ⟨by omega, by omega⟩
  have hiz : (i : Int) < (n : Int) := by omega
  have hkz : (k : Int) < (n2 : Int) := by omega
  have bl := World.block_lt_of_cell? _ _ e0
  have bl2 := World.block_lt_of_cell? _ _ x0
  obtain ⟨Wp, hWp⟩ : ∃ W, w.alloc (.cells #[.slice (some ⟨b, off, none⟩) n c] 29) = W := ⟨_, rfl⟩
  obtain ⟨Wf, hWf⟩ : ∃ W, Wp.alloc (.cells #[.int .i64 P, .slice A1 n1 c1, .slice (some ⟨b2, off2, none⟩) n2 c2] 49) = W := ⟨_, rfl⟩
  obtain ⟨Wx, hWx⟩ : ∃ W, Wf.alloc (.cells #[.int .i64 o, .int .i64 a, .int .i64 p, .int .i64 d, .int .u64 m] 44) = W := ⟨_, rfl⟩
  obtain ⟨gf, hgf⟩ : ∃ g, Wp.heap.size = g := ⟨_, rfl⟩
  obtain ⟨gx, hgx⟩ : ∃ g, Wf.heap.size = g := ⟨_, rfl⟩
  have hbp := hide (show Below w.heap.size w Wp by rw [← hWp]; exact below1 w _)
  have hbf := hide (show Below w.heap.size w Wf by rw [← hWf]; exact hbp.out.alloc hbp.out.size _)
  have hbx := hide (show Below w.heap.size w Wx by rw [← hWx]; exact hbf.out.alloc hbf.out.size _)
  have rp := hide (show Row Wx w.heap.size 29 [.slice (some ⟨b, off, none⟩) n c] by rw [← hWx, ← hWf, ← hWp]; exact ((Row.new w _ _).alloc _).alloc _)
  have rf := hide (show Row Wx gf 49 [.int .i64 P, .slice A1 n1 c1, .slice (some ⟨b2, off2, none⟩) n2 c2] by rw [← hWx, ← hWf, ← hgf]; exact (Row.new Wp _ _).alloc _)
  have rx := hide (show Row Wx gx 44 [.int .i64 o, .int .i64 a, .int .i64 p, .int .i64 d, .int .u64 m] by rw [← hWx, ← hgx]; exact Row.new Wf _ _)
  have rp0 : Wp.cell? ⟨w.heap.size, 0, none⟩ = some (.slice (some ⟨b, off, none⟩) n c) := by rw [← hWp]; exact (Row.new w 29 [.slice (some ⟨b, off, none⟩) n c]).cell (k := 0) rfl
  have rp1 : Wf.cell? ⟨w.heap.size, 0, none⟩ = some (.slice (some ⟨b, off, none⟩) n c) := by rw [← hWf, ← hWp]; exact ((Row.new w 29 [.slice (some ⟨b, off, none⟩) n c]).alloc _).cell (k := 0) rfl
  have rf0 : Wf.cell? ⟨gf, 0, none⟩ = some (.int .i64 P) := by rw [← hWf, ← hgf]; exact (Row.new Wp 49 [.int .i64 P, .slice A1 n1 c1, .slice (some ⟨b2, off2, none⟩) n2 c2]).cell (k := 0) rfl
  have rf1 : Wf.cell? ⟨gf, 1, none⟩ = some (.slice A1 n1 c1) := by rw [← hWf, ← hgf]; exact (Row.new Wp 49 [.int .i64 P, .slice A1 n1 c1, .slice (some ⟨b2, off2, none⟩) n2 c2]).cell (k := 1) rfl
  have rf2 : Wf.cell? ⟨gf, 2, none⟩ = some (.slice (some ⟨b2, off2, none⟩) n2 c2) := by rw [← hWf, ← hgf]; exact (Row.new Wp 49 [.int .i64 P, .slice A1 n1 c1, .slice (some ⟨b2, off2, none⟩) n2 c2]).cell (k := 2) rfl
  have p0 := (hbp.out.cell bl).trans e0
  have p1 := (hbp.out.cell (p := ⟨b, off + i * 3 + 1, none⟩) bl).trans e1
  have p2 := (hbp.out.cell (p := ⟨b, off + i * 3 + 2, none⟩) bl).trans e2
  have f0 := (hbf.out.cell bl2).trans x0
  have f1 := (hbf.out.cell (p := ⟨b2, off2 + k * 5 + 1, none⟩) bl2).trans x1
  have f2 := (hbf.out.cell (p := ⟨b2, off2 + k * 5 + 2, none⟩) bl2).trans x2
  have f3 := (hbf.out.cell (p := ⟨b2, off2 + k * 5 + 3, none⟩) bl2).trans x3
  have f4 := (hbf.out.cell (p := ⟨b2, off2 + k * 5 + 4, none⟩) bl2).trans x4
  have y0 := rx.out.cell (k := 0) rfl
  have y1 := rx.out.cell (k := 1) rfl
  have y2 := rx.out.cell (k := 2) rfl
  have y3 := rx.out.cell (k := 3) rfl
  have y4 := rx.out.cell (k := 4) rfl
  have g0 := rf.out.cell (k := 0) rfl
  have g1 := rf.out.cell (k := 1) rfl
  have g2 := rf.out.cell (k := 2) rfl
  have z0 := rp.out.cell (k := 0) rfl
  have HWp := hide hWp
  have HWf := hide hWf
  have HWx := hide hWx
  have HGF := hide hgf
  have HGX := hide hgx
  have ho1 : withB o 25 = false := withB_false.2 ho
  have IE := hide (insE_op (N := n) (f := f) (x := ⟨o, a, p, d, m⟩) ho)
  clear hWp hWf hWx hgf hgx e0 e1 e2 x0 x1 x2 x3 x4 bl bl2
  go_enter Tryz.func60, Tryz.ntmps60
  go_upto_region 1 with (fail)
  rw [HWp.out]
  clear HWp
  go_upto_region 3 with (first | (go_at_call 58; refine (rwithin_any _ _ _).mono ?_; rintro e w' ⟨rfl, rfl⟩) | fail)
  go_upto_region 4 with (fail)
  rw [HWf.out, HGF.out]
  clear HWf HGF
  go_upto_region 5 with (fail)
  rw [HWx.out, HGX.out]
  clear HWx HGX p0 p1 p2 f0 f1 f2 f3 f4 rp0 rp1 rf0 rf1 rf2 hbp hbf
  go_wp2_with (first | (go_at_call 58; refine (rwithin_any _ _ _).mono ?_; rintro e w' ⟨rfl, rfl⟩) | fail)
  go_ret
  exact ⟨ret_int IE.out.symm, hbx.out⟩

set_option maxRecDepth 100000 in
set_option maxHeartbeats 8000000 in
theorem rchk_17 (w : World) (lo b off n c : Nat) (hs : List Hd) (F : Pg) (i k : Nat) (P : Int) (A1 : Option Addr) (n1 c1 b2 off2 n2 c2 : Nat) (f : Fn) (a p d m : Int) (H : Hid (PgAt w lo w.heap.size (some ⟨b, off, none⟩) n c hs F)) (hin : i < n) (hn : n ≤ 100000) (hf : Hid (HdAt w lo w.heap.size ⟨P, A1, n1, c1, some ⟨b2, off2, none⟩, n2, c2⟩ f)) (hk : k < n2) (hn2 : n2 ≤ 8796093022208)
    (e0 : w.cell? ⟨b, off + i * 3, none⟩ = some (.int .i64 P)) (e1 : w.cell? ⟨b, off + i * 3 + 1, none⟩ = some (.slice A1 n1 c1)) (e2 : w.cell? ⟨b, off + i * 3 + 2, none⟩ = some (.slice (some ⟨b2, off2, none⟩) n2 c2))
    (x0 : w.cell? ⟨b2, off2 + k * 5, none⟩ = some (.int .i64 17)) (x1 : w.cell? ⟨b2, off2 + k * 5 + 1, none⟩ = some (.int .i64 a)) (x2 : w.cell? ⟨b2, off2 + k * 5 + 2, none⟩ = some (.int .i64 p)) (x3 : w.cell? ⟨b2, off2 + k * 5 + 3, none⟩ = some (.int .i64 d)) (x4 : w.cell? ⟨b2, off2 + k * 5 + 4, none⟩ = some (.int .u64 m))
    (ua : Hid (useA 17 = true)) (ub : Hid (useB 17 = true)) (uc : Hid (useC 17 = false)) (ui : Hid (useI 17 = false)) :
    Calls Tryz.prog 60 #[gv (some ⟨b, off, none⟩) n c, .int .i64 (i : Int), .int .i64 (k : Int)] w fun e w' => e = .returned (.int .i64 (insE n f ⟨17, a, p, d, m⟩)) ∧ Below w.heap.size w w' := by
  have l1 := hf.out.l1
  have l2 := hf.out.l2
  have hP := hf.out.p
  simp only at l1 l2 hP
  have HL1 := hide l1
  have HL2 := hide l2
  have HP := hide hP
  clear l1 l2 hP
  have hi1 : withB (i : Int) (n : Int) = true := withB_true.2 ⟨by omega, by omega⟩
  have hk1 : withB (k : Int) (n2 : Int) = true := withB_true.2 ⟨by omega, by omega⟩
  have hiz : (i : Int) < (n : Int) := by omega
  have hkz : (k : Int) < (n2 : Int) := by omega
  have bl := World.block_lt_of_cell? _ _ e0
  have bl2 := World.block_lt_of_cell? _ _ x0
  obtain ⟨Wp, hWp⟩ : ∃ W, w.alloc (.cells #[.slice (some ⟨b, off, none⟩) n c] 29) = W := ⟨_, rfl⟩
  obtain ⟨Wf, hWf⟩ : ∃ W, Wp.alloc (.cells #[.int .i64 P, .slice A1 n1 c1, .slice (some ⟨b2, off2, none⟩) n2 c2] 49) = W := ⟨_, rfl⟩
  obtain ⟨Wx, hWx⟩ : ∃ W, Wf.alloc (.cells #[.int .i64 17, .int .i64 a, .int .i64 p, .int .i64 d, .int .u64 m] 44) = W := ⟨_, rfl⟩
  obtain ⟨gf, hgf⟩ : ∃ g, Wp.heap.size = g := ⟨_, rfl⟩
  obtain ⟨gx, hgx⟩ : ∃ g, Wf.heap.size = g := ⟨_, rfl⟩
  have hbp := hide (show Below w.heap.size w Wp by rw [← hWp]; exact below1 w _)
  have hbf := hide (show Below w.heap.size w Wf by rw [← hWf]; exact hbp.out.alloc hbp.out.size _)
  have hbx := hide (show Below w.heap.size w Wx by rw [← hWx]; exact hbf.out.alloc hbf.out.size _)
  have rp := hide (show Row Wx w.heap.size 29 [.slice (some ⟨b, off, none⟩) n c] by rw [← hWx, ← hWf, ← hWp]; exact ((Row.new w _ _).alloc _).alloc _)
  have rf := hide (show Row Wx gf 49 [.int .i64 P, .slice A1 n1 c1, .slice (some ⟨b2, off2, none⟩) n2 c2] by rw [← hWx, ← hWf, ← hgf]; exact (Row.new Wp _ _).alloc _)
  have rx := hide (show Row Wx gx 44 [.int .i64 17, .int .i64 a, .int .i64 p, .int .i64 d, .int .u64 m] by rw [← hWx, ← hgx]; exact Row.new Wf _ _)
  have rp0 : Wp.cell? ⟨w.heap.size, 0, none⟩ = some (.slice (some ⟨b, off, none⟩) n c) := by rw [← hWp]; exact (Row.new w 29 [.slice (some ⟨b, off, none⟩) n c]).cell (k := 0) rfl
  have rp1 : Wf.cell? ⟨w.heap.size, 0, none⟩ = some (.slice (some ⟨b, off, none⟩) n c) := by rw [← hWf, ← hWp]; exact ((Row.new w 29 [.slice (some ⟨b, off, none⟩) n c]).alloc _).cell (k := 0) rfl
  have rf0 : Wf.cell? ⟨gf, 0, none⟩ = some (.int .i64 P) := by rw [← hWf, ← hgf]; exact (Row.new Wp 49 [.int .i64 P, .slice A1 n1 c1, .slice (some ⟨b2, off2, none⟩) n2 c2]).cell (k := 0) rfl
  have rf1 : Wf.cell? ⟨gf, 1, none⟩ = some (.slice A1 n1 c1) := by rw [← hWf, ← hgf]; exact (Row.new Wp 49 [.int .i64 P, .slice A1 n1 c1, .slice (some ⟨b2, off2, none⟩) n2 c2]).cell (k := 1) rfl
  have rf2 : Wf.cell? ⟨gf, 2, none⟩ = some (.slice (some ⟨b2, off2, none⟩) n2 c2) := by rw [← hWf, ← hgf]; exact (Row.new Wp 49 [.int .i64 P, .slice A1 n1 c1, .slice (some ⟨b2, off2, none⟩) n2 c2]).cell (k := 2) rfl
  have p0 := (hbp.out.cell bl).trans e0
  have p1 := (hbp.out.cell (p := ⟨b, off + i * 3 + 1, none⟩) bl).trans e1
  have p2 := (hbp.out.cell (p := ⟨b, off + i * 3 + 2, none⟩) bl).trans e2
  have f0 := (hbf.out.cell bl2).trans x0
  have f1 := (hbf.out.cell (p := ⟨b2, off2 + k * 5 + 1, none⟩) bl2).trans x1
  have f2 := (hbf.out.cell (p := ⟨b2, off2 + k * 5 + 2, none⟩) bl2).trans x2
  have f3 := (hbf.out.cell (p := ⟨b2, off2 + k * 5 + 3, none⟩) bl2).trans x3
  have f4 := (hbf.out.cell (p := ⟨b2, off2 + k * 5 + 4, none⟩) bl2).trans x4
  have y0 := rx.out.cell (k := 0) rfl
  have y1 := rx.out.cell (k := 1) rfl
  have y2 := rx.out.cell (k := 2) rfl
  have y3 := rx.out.cell (k := 3) rfl
  have y4 := rx.out.cell (k := 4) rfl
  have g0 := rf.out.cell (k := 0) rfl
  have g1 := rf.out.cell (k := 1) rfl
  have g2 := rf.out.cell (k := 2) rfl
  have z0 := rp.out.cell (k := 0) rfl
  have HWp := hide hWp
  have HWf := hide hWf
  have HWx := hide hWx
  have HGF := hide hgf
  have HGX := hide hgx
  have hr := hide (show 0 ≤ (17 : Int) ∧ (17 : Int) < 25 by omega)
  have ho1 : withB 17 25 = true := withB_true.2 hr.out
  have IR := hide (fun (hu : ¬ unP ⟨17, a, p, d, m⟩) => insE_rest (N := n) (f := f) (x := ⟨17, a, p, d, m⟩) hr.out hu)
  have I2 := hide (fun (hu : unP ⟨17, a, p, d, m⟩) => insE_two (N := n) (f := f) (x := ⟨17, a, p, d, m⟩) hr.out hu)
  clear hWp hWf hWx hgf hgx e0 e1 e2 x0 x1 x2 x3 x4 bl bl2
  have UP := hide (show unP ⟨17, a, p, d, m⟩ ↔ d ≠ 0 ∨ m ≠ 0 by unfold unP; simp [ua.out, ub.out, uc.out, ui.out])
  go_enter Tryz.func60, Tryz.ntmps60
  go_upto_region 1 with (fail)
  rw [HWp.out]
  clear HWp
  go_upto_region 3 with (first | (go_at_call 58; refine (rwithin_any _ _ _).mono ?_; rintro e w' ⟨rfl, rfl⟩) | fail)
  go_upto_region 4 with (fail)
  rw [HWf.out, HGF.out]
  clear HWf HGF
  go_upto_region 5 with (fail)
  rw [HWx.out, HGX.out]
  clear HWx HGX p0 p1 p2 f0 f1 f2 f3 f4 rp0 rp1 rf0 rf1 rf2 hbp hbf
  go_upto_region 7 with (first | (go_at_call 58; refine (rwithin_any _ _ _).mono ?_; rintro e w' ⟨rfl, rfl⟩) | fail)
  go_wp2_with fail
  refine (ropd_any 17 _ hr.out.1 hr.out.2).mono ?_
  rintro e w' ⟨rfl, rfl⟩
  rw [ua.out, ub.out, uc.out, ui.out]
  go_wp2_with fail
  all_goals
    first
      | (go_ret; exact ⟨ret_int (I2.out (UP.out.2 (by first | omega | (simp only [bne_iff_ne, ne_eq] at *; omega)))).symm, hbx.out⟩)
      | skip
  obtain rfl : d = 0 := by first | omega | (simp only [bne_eq_false_iff_eq] at *; omega)
  obtain rfl : m = 0 := by first | omega | (simp only [bne_eq_false_iff_eq] at *; omega)
  have hu : ¬ unP ⟨17, a, p, 0, 0⟩ := fun h => by have := UP.out.1 h; omega
  have cu := ropds_any (some ⟨b, off, none⟩) n c P A1 n1 c1 (some ⟨b2, off2, none⟩) n2 c2 17 a p 0 0 Wx hr.out.1 hr.out.2
  rcases hbk : okW n P n1 17 a p 0 with _ | _
  · rw [hbk] at cu
    have HK := hide (show okW n f.params f.slots.length 17 a p 0 = false by rw [← HP.out, HL1.out]; exact hbk)
    clear hbk
    refine cu.mono ?_
    rintro e w5 ⟨rfl, hb5⟩
    have HB5 := hide (hbx.out.trans (hb5.mono hbx.out.size))
    clear hb5 cu
    go_wp2
    go_ret
    exact ⟨ret_int ((IR.out hu).1 HK.out).symm, HB5.out⟩
  · rw [hbk] at cu
    have HK := hide (show okW n f.params f.slots.length 17 a p 0 = true by rw [← HP.out, HL1.out]; exact hbk)
    refine cu.mono ?_
    rintro e w5 ⟨rfl, hb5⟩
    have HB5 := hide (hbx.out.trans (hb5.mono hbx.out.size))
    have rx5 := hide (rx.out.call hb5)
    have rf5 := hide (rf.out.call hb5)
    have u0 := rx5.out.cell (k := 0) rfl
    have u1 := rx5.out.cell (k := 1) rfl
    have u2 := rx5.out.cell (k := 2) rfl
    have v1 := rf5.out.cell (k := 1) rfl
    have v2 := rf5.out.cell (k := 2) rfl
    clear hb5 cu y0 y1 y2 y3 y4 g0 g1 g2 z0
    have hab : withB a n1 = true ∧ withB p n1 = true := by
      rw [shp3 17 2 2 0 _ shp_17, okK2, okK2, okK0] at hbk
      simpa using hbk
    clear hbk
    obtain ⟨ha0, ha1⟩ := withB_true.1 hab.1
    obtain ⟨hp0, hp1⟩ := withB_true.1 hab.2
    obtain ⟨ja, rfl⟩ := Int.eq_ofNat_of_zero_le ha0
    obtain ⟨jp, rfl⟩ := Int.eq_ofNat_of_zero_le hp0
    have hl1 : ja < f.slots.length := by rw [HL1.out]; omega
    have hl2 : jp < f.slots.length := by rw [HL1.out]; omega
    obtain ⟨b1, off1, hA, hb1, s0, -⟩ := pair_at hf.out.s1 hl1
    obtain ⟨b1x, off1x, hAx, _, t0, -⟩ := pair_at hf.out.s1 hl2
    simp only at hA hAx
    subst hA
    injection hAx with hAx
    injection hAx with hx1 hx2
    subst hx1 hx2
    have S0 := (HB5.out.cell (p := ⟨b1, off1 + ja * 2, none⟩) hb1).trans s0
    have T0 := (HB5.out.cell (p := ⟨b1, off1 + jp * 2, none⟩) hb1).trans t0
    have hjz : (ja : Int) < (n1 : Int) := by omega
    have hpz : (jp : Int) < (n1 : Int) := by omega
    have HM := hide (move17 f ja jp hl1 hl2)
    have m6 := hide (show ¬ tgP f ⟨17, (ja : Int), (jp : Int), 0, 0⟩ by unfold tgP; simp)
    obtain ⟨sa, hsa⟩ : ∃ s, f.slots[ja].1 = s := ⟨_, rfl⟩
    obtain ⟨sp, hsp⟩ : ∃ s, f.slots[jp].1 = s := ⟨_, rfl⟩
    rw [hsa] at S0 HM
    rw [hsp] at T0 HM
    clear hsa hsp s0 t0 hab ha0 ha1 hp0 hp1 hb1
    by_cases hs : sa = sp
    · subst hs
      go_wp2_with fail
      go_quiet (fail)
      go_wp2
      go_ret
      exact ⟨ret_int ((((IR.out hu).2 HK.out).2 (by rw [HM.out]; simp)).2 m6.out).symm, drewN_below HB5.out _⟩
    · have hsb : (sa == sp) = false := by rw [beq_eq_false_iff_ne]; exact hs
      have HM2 := hide (show moveBad f ⟨17, (ja : Int), (jp : Int), 0, 0⟩ = true by rw [HM.out]; simp [hs])
      clear hs
      go_wp2_with fail
      go_quiet (fail)
      go_wp2
      go_ret
      exact ⟨ret_int (((IR.out hu).2 HK.out).1 HM2.out).symm, drewN_below HB5.out _⟩

set_option maxRecDepth 100000 in
set_option maxHeartbeats 8000000 in
theorem rchk_20 (w : World) (lo b off n c : Nat) (hs : List Hd) (F : Pg) (i k : Nat) (P : Int) (A1 : Option Addr) (n1 c1 b2 off2 n2 c2 : Nat) (f : Fn) (a p d m : Int) (H : Hid (PgAt w lo w.heap.size (some ⟨b, off, none⟩) n c hs F)) (hin : i < n) (hn : n ≤ 100000) (hf : Hid (HdAt w lo w.heap.size ⟨P, A1, n1, c1, some ⟨b2, off2, none⟩, n2, c2⟩ f)) (hk : k < n2) (hn2 : n2 ≤ 8796093022208)
    (e0 : w.cell? ⟨b, off + i * 3, none⟩ = some (.int .i64 P)) (e1 : w.cell? ⟨b, off + i * 3 + 1, none⟩ = some (.slice A1 n1 c1)) (e2 : w.cell? ⟨b, off + i * 3 + 2, none⟩ = some (.slice (some ⟨b2, off2, none⟩) n2 c2))
    (x0 : w.cell? ⟨b2, off2 + k * 5, none⟩ = some (.int .i64 20)) (x1 : w.cell? ⟨b2, off2 + k * 5 + 1, none⟩ = some (.int .i64 a)) (x2 : w.cell? ⟨b2, off2 + k * 5 + 2, none⟩ = some (.int .i64 p)) (x3 : w.cell? ⟨b2, off2 + k * 5 + 3, none⟩ = some (.int .i64 d)) (x4 : w.cell? ⟨b2, off2 + k * 5 + 4, none⟩ = some (.int .u64 m))
    (ua : Hid (useA 20 = true)) (ub : Hid (useB 20 = false)) (uc : Hid (useC 20 = false)) (ui : Hid (useI 20 = false)) :
    Calls Tryz.prog 60 #[gv (some ⟨b, off, none⟩) n c, .int .i64 (i : Int), .int .i64 (k : Int)] w fun e w' => e = .returned (.int .i64 (insE n f ⟨20, a, p, d, m⟩)) ∧ Below w.heap.size w w' := by
  have l1 := hf.out.l1
  have l2 := hf.out.l2
  have hP := hf.out.p
  simp only at l1 l2 hP
  have HL1 := hide l1
  have HL2 := hide l2
  have HP := hide hP
  clear l1 l2 hP
  have hi1 : withB (i : Int) (n : Int) = true := withB_true.2 ⟨by omega, by omega⟩
  have hk1 : withB (k : Int) (n2 : Int) = true := withB_true.2 ⟨by omega, by omega⟩
  have hiz : (i : Int) < (n : Int) := by omega
  have hkz : (k : Int) < (n2 : Int) := by omega
  have bl := World.block_lt_of_cell? _ _ e0
  have bl2 := World.block_lt_of_cell? _ _ x0
  obtain ⟨Wp, hWp⟩ : ∃ W, w.alloc (.cells #[.slice (some ⟨b, off, none⟩) n c] 29) = W := ⟨_, rfl⟩
  obtain ⟨Wf, hWf⟩ : ∃ W, Wp.alloc (.cells #[.int .i64 P, .slice A1 n1 c1, .slice (some ⟨b2, off2, none⟩) n2 c2] 49) = W := ⟨_, rfl⟩
  obtain ⟨Wx, hWx⟩ : ∃ W, Wf.alloc (.cells #[.int .i64 20, .int .i64 a, .int .i64 p, .int .i64 d, .int .u64 m] 44) = W := ⟨_, rfl⟩
  obtain ⟨gf, hgf⟩ : ∃ g, Wp.heap.size = g := ⟨_, rfl⟩
  obtain ⟨gx, hgx⟩ : ∃ g, Wf.heap.size = g := ⟨_, rfl⟩
  have hbp := hide (show Below w.heap.size w Wp by rw [← hWp]; exact below1 w _)
  have hbf := hide (show Below w.heap.size w Wf by rw [← hWf]; exact hbp.out.alloc hbp.out.size _)
  have hbx := hide (show Below w.heap.size w Wx by rw [← hWx]; exact hbf.out.alloc hbf.out.size _)
  have rp := hide (show Row Wx w.heap.size 29 [.slice (some ⟨b, off, none⟩) n c] by rw [← hWx, ← hWf, ← hWp]; exact ((Row.new w _ _).alloc _).alloc _)
  have rf := hide (show Row Wx gf 49 [.int .i64 P, .slice A1 n1 c1, .slice (some ⟨b2, off2, none⟩) n2 c2] by rw [← hWx, ← hWf, ← hgf]; exact (Row.new Wp _ _).alloc _)
  have rx := hide (show Row Wx gx 44 [.int .i64 20, .int .i64 a, .int .i64 p, .int .i64 d, .int .u64 m] by rw [← hWx, ← hgx]; exact Row.new Wf _ _)
  have rp0 : Wp.cell? ⟨w.heap.size, 0, none⟩ = some (.slice (some ⟨b, off, none⟩) n c) := by rw [← hWp]; exact (Row.new w 29 [.slice (some ⟨b, off, none⟩) n c]).cell (k := 0) rfl
  have rp1 : Wf.cell? ⟨w.heap.size, 0, none⟩ = some (.slice (some ⟨b, off, none⟩) n c) := by rw [← hWf, ← hWp]; exact ((Row.new w 29 [.slice (some ⟨b, off, none⟩) n c]).alloc _).cell (k := 0) rfl
  have rf0 : Wf.cell? ⟨gf, 0, none⟩ = some (.int .i64 P) := by rw [← hWf, ← hgf]; exact (Row.new Wp 49 [.int .i64 P, .slice A1 n1 c1, .slice (some ⟨b2, off2, none⟩) n2 c2]).cell (k := 0) rfl
  have rf1 : Wf.cell? ⟨gf, 1, none⟩ = some (.slice A1 n1 c1) := by rw [← hWf, ← hgf]; exact (Row.new Wp 49 [.int .i64 P, .slice A1 n1 c1, .slice (some ⟨b2, off2, none⟩) n2 c2]).cell (k := 1) rfl
  have rf2 : Wf.cell? ⟨gf, 2, none⟩ = some (.slice (some ⟨b2, off2, none⟩) n2 c2) := by rw [← hWf, ← hgf]; exact (Row.new Wp 49 [.int .i64 P, .slice A1 n1 c1, .slice (some ⟨b2, off2, none⟩) n2 c2]).cell (k := 2) rfl
  have p0 := (hbp.out.cell bl).trans e0
  have p1 := (hbp.out.cell (p := ⟨b, off + i * 3 + 1, none⟩) bl).trans e1
  have p2 := (hbp.out.cell (p := ⟨b, off + i * 3 + 2, none⟩) bl).trans e2
  have f0 := (hbf.out.cell bl2).trans x0
  have f1 := (hbf.out.cell (p := ⟨b2, off2 + k * 5 + 1, none⟩) bl2).trans x1
  have f2 := (hbf.out.cell (p := ⟨b2, off2 + k * 5 + 2, none⟩) bl2).trans x2
  have f3 := (hbf.out.cell (p := ⟨b2, off2 + k * 5 + 3, none⟩) bl2).trans x3
  have f4 := (hbf.out.cell (p := ⟨b2, off2 + k * 5 + 4, none⟩) bl2).trans x4
  have y0 := rx.out.cell (k := 0) rfl
  have y1 := rx.out.cell (k := 1) rfl
  have y2 := rx.out.cell (k := 2) rfl
  have y3 := rx.out.cell (k := 3) rfl
  have y4 := rx.out.cell (k := 4) rfl
  have g0 := rf.out.cell (k := 0) rfl
  have g1 := rf.out.cell (k := 1) rfl
  have g2 := rf.out.cell (k := 2) rfl
  have z0 := rp.out.cell (k := 0) rfl
  have HWp := hide hWp
  have HWf := hide hWf
  have HWx := hide hWx
  have HGF := hide hgf
  have HGX := hide hgx
  have hr := hide (show 0 ≤ (20 : Int) ∧ (20 : Int) < 25 by omega)
  have ho1 : withB 20 25 = true := withB_true.2 hr.out
  have IR := hide (fun (hu : ¬ unP ⟨20, a, p, d, m⟩) => insE_rest (N := n) (f := f) (x := ⟨20, a, p, d, m⟩) hr.out hu)
  have I2 := hide (fun (hu : unP ⟨20, a, p, d, m⟩) => insE_two (N := n) (f := f) (x := ⟨20, a, p, d, m⟩) hr.out hu)
  clear hWp hWf hWx hgf hgx e0 e1 e2 x0 x1 x2 x3 x4 bl bl2
  have UP := hide (show unP ⟨20, a, p, d, m⟩ ↔ p ≠ 0 ∨ d ≠ 0 ∨ m ≠ 0 by unfold unP; simp [ua.out, ub.out, uc.out, ui.out])
  go_enter Tryz.func60, Tryz.ntmps60
  go_upto_region 1 with (fail)
  rw [HWp.out]
  clear HWp
  go_upto_region 3 with (first | (go_at_call 58; refine (rwithin_any _ _ _).mono ?_; rintro e w' ⟨rfl, rfl⟩) | fail)
  go_upto_region 4 with (fail)
  rw [HWf.out, HGF.out]
  clear HWf HGF
  go_upto_region 5 with (fail)
  rw [HWx.out, HGX.out]
  clear HWx HGX p0 p1 p2 f0 f1 f2 f3 f4 rp0 rp1 rf0 rf1 rf2 hbp hbf
  go_upto_region 7 with (first | (go_at_call 58; refine (rwithin_any _ _ _).mono ?_; rintro e w' ⟨rfl, rfl⟩) | fail)
  go_wp2_with fail
  refine (ropd_any 20 _ hr.out.1 hr.out.2).mono ?_
  rintro e w' ⟨rfl, rfl⟩
  rw [ua.out, ub.out, uc.out, ui.out]
  go_wp2_with fail
  all_goals
    first
      | (go_ret; exact ⟨ret_int (I2.out (UP.out.2 (by first | omega | (simp only [bne_iff_ne, ne_eq] at *; omega)))).symm, hbx.out⟩)
      | skip
  obtain rfl : p = 0 := by first | omega | (simp only [bne_eq_false_iff_eq] at *; omega)
  obtain rfl : d = 0 := by first | omega | (simp only [bne_eq_false_iff_eq] at *; omega)
  obtain rfl : m = 0 := by first | omega | (simp only [bne_eq_false_iff_eq] at *; omega)
  have hu : ¬ unP ⟨20, a, 0, 0, 0⟩ := fun h => by have := UP.out.1 h; omega
  have cu := ropds_any (some ⟨b, off, none⟩) n c P A1 n1 c1 (some ⟨b2, off2, none⟩) n2 c2 20 a 0 0 0 Wx hr.out.1 hr.out.2
  rcases hbk : okW n P n1 20 a 0 0 with _ | _
  · rw [hbk] at cu
    have HK := hide (show okW n f.params f.slots.length 20 a 0 0 = false by rw [← HP.out, HL1.out]; exact hbk)
    clear hbk
    refine cu.mono ?_
    rintro e w5 ⟨rfl, hb5⟩
    have HB5 := hide (hbx.out.trans (hb5.mono hbx.out.size))
    clear hb5 cu
    go_wp2
    go_ret
    exact ⟨ret_int ((IR.out hu).1 HK.out).symm, HB5.out⟩
  · rw [hbk] at cu
    have HK := hide (show okW n f.params f.slots.length 20 a 0 0 = true by rw [← HP.out, HL1.out]; exact hbk)
    clear hbk
    refine cu.mono ?_
    rintro e w5 ⟨rfl, hb5⟩
    have HB5 := hide (hbx.out.trans (hb5.mono hbx.out.size))
    have rx5 := hide (rx.out.call hb5)
    have rf5 := hide (rf.out.call hb5)
    have u0 := rx5.out.cell (k := 0) rfl
    have u1 := rx5.out.cell (k := 1) rfl
    have u2 := rx5.out.cell (k := 2) rfl
    have v1 := rf5.out.cell (k := 1) rfl
    have v2 := rf5.out.cell (k := 2) rfl
    clear hb5 cu y0 y1 y2 y3 y4 g0 g1 g2 z0
    have m17 := hide (show moveBad f ⟨20, a, 0, 0, 0⟩ = false from rfl)
    rcases hwb : withB a n2 with _ | _
    · have m6 := hide (show tgP f ⟨20, a, 0, 0, 0⟩ by rw [← HL2.out] at hwb; exact .inl ⟨rfl, hwb⟩)
      have cw := fun w' : World => rwithin_any a (n2 : Int) w'
      rw [hwb] at cw
      clear hwb
      go_wp2_with fail
      go_quiet (fail)
      go_wp2_with fail
      refine (cw _).mono ?_
      rintro e w' ⟨rfl, rfl⟩
      go_wp2
      go_ret
      exact ⟨ret_int ((((IR.out hu).2 HK.out).2 m17.out).1 m6.out).symm, drewN_below HB5.out _⟩
    · have m6 := hide (show ¬ tgP f ⟨20, a, 0, 0, 0⟩ by rw [← HL2.out] at hwb; unfold tgP; simp [hwb])
      have cw := fun w' : World => rwithin_any a (n2 : Int) w'
      rw [hwb] at cw
      clear hwb
      go_wp2_with fail
      go_quiet (fail)
      go_wp2_with fail
      refine (cw _).mono ?_
      rintro e w' ⟨rfl, rfl⟩
      go_wp2
      go_ret
      exact ⟨ret_int ((((IR.out hu).2 HK.out).2 m17.out).2 m6.out).symm, drewN_below HB5.out _⟩

set_option maxRecDepth 100000 in
set_option maxHeartbeats 8000000 in
theorem rchk_21 (w : World) (lo b off n c : Nat) (hs : List Hd) (F : Pg) (i k : Nat) (P : Int) (A1 : Option Addr) (n1 c1 b2 off2 n2 c2 : Nat) (f : Fn) (a p d m : Int) (H : Hid (PgAt w lo w.heap.size (some ⟨b, off, none⟩) n c hs F)) (hin : i < n) (hn : n ≤ 100000) (hf : Hid (HdAt w lo w.heap.size ⟨P, A1, n1, c1, some ⟨b2, off2, none⟩, n2, c2⟩ f)) (hk : k < n2) (hn2 : n2 ≤ 8796093022208)
    (e0 : w.cell? ⟨b, off + i * 3, none⟩ = some (.int .i64 P)) (e1 : w.cell? ⟨b, off + i * 3 + 1, none⟩ = some (.slice A1 n1 c1)) (e2 : w.cell? ⟨b, off + i * 3 + 2, none⟩ = some (.slice (some ⟨b2, off2, none⟩) n2 c2))
    (x0 : w.cell? ⟨b2, off2 + k * 5, none⟩ = some (.int .i64 21)) (x1 : w.cell? ⟨b2, off2 + k * 5 + 1, none⟩ = some (.int .i64 a)) (x2 : w.cell? ⟨b2, off2 + k * 5 + 2, none⟩ = some (.int .i64 p)) (x3 : w.cell? ⟨b2, off2 + k * 5 + 3, none⟩ = some (.int .i64 d)) (x4 : w.cell? ⟨b2, off2 + k * 5 + 4, none⟩ = some (.int .u64 m))
    (ua : Hid (useA 21 = true)) (ub : Hid (useB 21 = true)) (uc : Hid (useC 21 = false)) (ui : Hid (useI 21 = false)) :
    Calls Tryz.prog 60 #[gv (some ⟨b, off, none⟩) n c, .int .i64 (i : Int), .int .i64 (k : Int)] w fun e w' => e = .returned (.int .i64 (insE n f ⟨21, a, p, d, m⟩)) ∧ Below w.heap.size w w' := by
  have l1 := hf.out.l1
  have l2 := hf.out.l2
  have hP := hf.out.p
  simp only at l1 l2 hP
  have HL1 := hide l1
  have HL2 := hide l2
  have HP := hide hP
  clear l1 l2 hP
  have hi1 : withB (i : Int) (n : Int) = true := withB_true.2 ⟨by omega, by omega⟩
  have hk1 : withB (k : Int) (n2 : Int) = true := withB_true.2 ⟨by omega, by omega⟩
  have hiz : (i : Int) < (n : Int) := by omega
  have hkz : (k : Int) < (n2 : Int) := by omega
  have bl := World.block_lt_of_cell? _ _ e0
  have bl2 := World.block_lt_of_cell? _ _ x0
  obtain ⟨Wp, hWp⟩ : ∃ W, w.alloc (.cells #[.slice (some ⟨b, off, none⟩) n c] 29) = W := ⟨_, rfl⟩
  obtain ⟨Wf, hWf⟩ : ∃ W, Wp.alloc (.cells #[.int .i64 P, .slice A1 n1 c1, .slice (some ⟨b2, off2, none⟩) n2 c2] 49) = W := ⟨_, rfl⟩
  obtain ⟨Wx, hWx⟩ : ∃ W, Wf.alloc (.cells #[.int .i64 21, .int .i64 a, .int .i64 p, .int .i64 d, .int .u64 m] 44) = W := ⟨_, rfl⟩
  obtain ⟨gf, hgf⟩ : ∃ g, Wp.heap.size = g := ⟨_, rfl⟩
  obtain ⟨gx, hgx⟩ : ∃ g, Wf.heap.size = g := ⟨_, rfl⟩
  have hbp := hide (show Below w.heap.size w Wp by rw [← hWp]; exact below1 w _)
  have hbf := hide (show Below w.heap.size w Wf by rw [← hWf]; exact hbp.out.alloc hbp.out.size _)
  have hbx := hide (show Below w.heap.size w Wx by rw [← hWx]; exact hbf.out.alloc hbf.out.size _)
  have rp := hide (show Row Wx w.heap.size 29 [.slice (some ⟨b, off, none⟩) n c] by rw [← hWx, ← hWf, ← hWp]; exact ((Row.new w _ _).alloc _).alloc _)
  have rf := hide (show Row Wx gf 49 [.int .i64 P, .slice A1 n1 c1, .slice (some ⟨b2, off2, none⟩) n2 c2] by rw [← hWx, ← hWf, ← hgf]; exact (Row.new Wp _ _).alloc _)
  have rx := hide (show Row Wx gx 44 [.int .i64 21, .int .i64 a, .int .i64 p, .int .i64 d, .int .u64 m] by rw [← hWx, ← hgx]; exact Row.new Wf _ _)
  have rp0 : Wp.cell? ⟨w.heap.size, 0, none⟩ = some (.slice (some ⟨b, off, none⟩) n c) := by rw [← hWp]; exact (Row.new w 29 [.slice (some ⟨b, off, none⟩) n c]).cell (k := 0) rfl
  have rp1 : Wf.cell? ⟨w.heap.size, 0, none⟩ = some (.slice (some ⟨b, off, none⟩) n c) := by rw [← hWf, ← hWp]; exact ((Row.new w 29 [.slice (some ⟨b, off, none⟩) n c]).alloc _).cell (k := 0) rfl
  have rf0 : Wf.cell? ⟨gf, 0, none⟩ = some (.int .i64 P) := by rw [← hWf, ← hgf]; exact (Row.new Wp 49 [.int .i64 P, .slice A1 n1 c1, .slice (some ⟨b2, off2, none⟩) n2 c2]).cell (k := 0) rfl
  have rf1 : Wf.cell? ⟨gf, 1, none⟩ = some (.slice A1 n1 c1) := by rw [← hWf, ← hgf]; exact (Row.new Wp 49 [.int .i64 P, .slice A1 n1 c1, .slice (some ⟨b2, off2, none⟩) n2 c2]).cell (k := 1) rfl
  have rf2 : Wf.cell? ⟨gf, 2, none⟩ = some (.slice (some ⟨b2, off2, none⟩) n2 c2) := by rw [← hWf, ← hgf]; exact (Row.new Wp 49 [.int .i64 P, .slice A1 n1 c1, .slice (some ⟨b2, off2, none⟩) n2 c2]).cell (k := 2) rfl
  have p0 := (hbp.out.cell bl).trans e0
  have p1 := (hbp.out.cell (p := ⟨b, off + i * 3 + 1, none⟩) bl).trans e1
  have p2 := (hbp.out.cell (p := ⟨b, off + i * 3 + 2, none⟩) bl).trans e2
  have f0 := (hbf.out.cell bl2).trans x0
  have f1 := (hbf.out.cell (p := ⟨b2, off2 + k * 5 + 1, none⟩) bl2).trans x1
  have f2 := (hbf.out.cell (p := ⟨b2, off2 + k * 5 + 2, none⟩) bl2).trans x2
  have f3 := (hbf.out.cell (p := ⟨b2, off2 + k * 5 + 3, none⟩) bl2).trans x3
  have f4 := (hbf.out.cell (p := ⟨b2, off2 + k * 5 + 4, none⟩) bl2).trans x4
  have y0 := rx.out.cell (k := 0) rfl
  have y1 := rx.out.cell (k := 1) rfl
  have y2 := rx.out.cell (k := 2) rfl
  have y3 := rx.out.cell (k := 3) rfl
  have y4 := rx.out.cell (k := 4) rfl
  have g0 := rf.out.cell (k := 0) rfl
  have g1 := rf.out.cell (k := 1) rfl
  have g2 := rf.out.cell (k := 2) rfl
  have z0 := rp.out.cell (k := 0) rfl
  have HWp := hide hWp
  have HWf := hide hWf
  have HWx := hide hWx
  have HGF := hide hgf
  have HGX := hide hgx
  have hr := hide (show 0 ≤ (21 : Int) ∧ (21 : Int) < 25 by omega)
  have ho1 : withB 21 25 = true := withB_true.2 hr.out
  have IR := hide (fun (hu : ¬ unP ⟨21, a, p, d, m⟩) => insE_rest (N := n) (f := f) (x := ⟨21, a, p, d, m⟩) hr.out hu)
  have I2 := hide (fun (hu : unP ⟨21, a, p, d, m⟩) => insE_two (N := n) (f := f) (x := ⟨21, a, p, d, m⟩) hr.out hu)
  clear hWp hWf hWx hgf hgx e0 e1 e2 x0 x1 x2 x3 x4 bl bl2
  have UP := hide (show unP ⟨21, a, p, d, m⟩ ↔ d ≠ 0 ∨ m ≠ 0 by unfold unP; simp [ua.out, ub.out, uc.out, ui.out])
  go_enter Tryz.func60, Tryz.ntmps60
  go_upto_region 1 with (fail)
  rw [HWp.out]
  clear HWp
  go_upto_region 3 with (first | (go_at_call 58; refine (rwithin_any _ _ _).mono ?_; rintro e w' ⟨rfl, rfl⟩) | fail)
  go_upto_region 4 with (fail)
  rw [HWf.out, HGF.out]
  clear HWf HGF
  go_upto_region 5 with (fail)
  rw [HWx.out, HGX.out]
  clear HWx HGX p0 p1 p2 f0 f1 f2 f3 f4 rp0 rp1 rf0 rf1 rf2 hbp hbf
  go_upto_region 7 with (first | (go_at_call 58; refine (rwithin_any _ _ _).mono ?_; rintro e w' ⟨rfl, rfl⟩) | fail)
  go_wp2_with fail
  refine (ropd_any 21 _ hr.out.1 hr.out.2).mono ?_
  rintro e w' ⟨rfl, rfl⟩
  rw [ua.out, ub.out, uc.out, ui.out]
  go_wp2_with fail
  all_goals
    first
      | (go_ret; exact ⟨ret_int (I2.out (UP.out.2 (by first | omega | (simp only [bne_iff_ne, ne_eq] at *; omega)))).symm, hbx.out⟩)
      | skip
  obtain rfl : d = 0 := by first | omega | (simp only [bne_eq_false_iff_eq] at *; omega)
  obtain rfl : m = 0 := by first | omega | (simp only [bne_eq_false_iff_eq] at *; omega)
  have hu : ¬ unP ⟨21, a, p, 0, 0⟩ := fun h => by have := UP.out.1 h; omega
  have cu := ropds_any (some ⟨b, off, none⟩) n c P A1 n1 c1 (some ⟨b2, off2, none⟩) n2 c2 21 a p 0 0 Wx hr.out.1 hr.out.2
  rcases hbk : okW n P n1 21 a p 0 with _ | _
  · rw [hbk] at cu
    have HK := hide (show okW n f.params f.slots.length 21 a p 0 = false by rw [← HP.out, HL1.out]; exact hbk)
    clear hbk
    refine cu.mono ?_
    rintro e w5 ⟨rfl, hb5⟩
    have HB5 := hide (hbx.out.trans (hb5.mono hbx.out.size))
    clear hb5 cu
    go_wp2
    go_ret
    exact ⟨ret_int ((IR.out hu).1 HK.out).symm, HB5.out⟩
  · rw [hbk] at cu
    have HK := hide (show okW n f.params f.slots.length 21 a p 0 = true by rw [← HP.out, HL1.out]; exact hbk)
    clear hbk
    refine cu.mono ?_
    rintro e w5 ⟨rfl, hb5⟩
    have HB5 := hide (hbx.out.trans (hb5.mono hbx.out.size))
    have rx5 := hide (rx.out.call hb5)
    have rf5 := hide (rf.out.call hb5)
    have u0 := rx5.out.cell (k := 0) rfl
    have u1 := rx5.out.cell (k := 1) rfl
    have u2 := rx5.out.cell (k := 2) rfl
    have v1 := rf5.out.cell (k := 1) rfl
    have v2 := rf5.out.cell (k := 2) rfl
    clear hb5 cu y0 y1 y2 y3 y4 g0 g1 g2 z0
    have m17 := hide (show moveBad f ⟨21, a, p, 0, 0⟩ = false from rfl)
    rcases hwb : withB p n2 with _ | _
    · have m6 := hide (show tgP f ⟨21, a, p, 0, 0⟩ by rw [← HL2.out] at hwb; exact .inr ⟨rfl, hwb⟩)
      have cw := fun w' : World => rwithin_any p (n2 : Int) w'
      rw [hwb] at cw
      clear hwb
      go_wp2_with fail
      go_quiet (fail)
      go_wp2_with fail
      refine (cw _).mono ?_
      rintro e w' ⟨rfl, rfl⟩
      go_wp2
      go_ret
      exact ⟨ret_int ((((IR.out hu).2 HK.out).2 m17.out).1 m6.out).symm, drewN_below HB5.out _⟩
    · have m6 := hide (show ¬ tgP f ⟨21, a, p, 0, 0⟩ by rw [← HL2.out] at hwb; unfold tgP; simp [hwb])
      have cw := fun w' : World => rwithin_any p (n2 : Int) w'
      rw [hwb] at cw
      clear hwb
      go_wp2_with fail
      go_quiet (fail)
      go_wp2_with fail
      refine (cw _).mono ?_
      rintro e w' ⟨rfl, rfl⟩
      go_wp2
      go_ret
      exact ⟨ret_int ((((IR.out hu).2 HK.out).2 m17.out).2 m6.out).symm, drewN_below HB5.out _⟩


/-- The reference's CheckInstr at an instruction that there is. -/
theorem rchkins_any (w : World) (lo : Nat) (A : Option Addr) (n c : Nat) (hs : List Hd) (F : Pg) (i k : Nat) (f : Fn) (x : Ins) (H : Hid (PgAt w lo w.heap.size A n c hs F)) (hn : n ≤ 100000) (hf : Hid (F[i]? = some f)) (hx : Hid (f.code[k]? = some x)) :
    Calls Tryz.prog 60 #[gv A n c, .int .i64 (i : Int), .int .i64 (k : Int)] w fun e w' => e = .returned (.int .i64 (insE n f x)) ∧ Below w.heap.size w w' := by
  have hin : i < n := by
    rw [← H.out.len]
    exact (List.getElem?_eq_some_iff.1 hf.out).1
  obtain ⟨b, off, P, A1, n1, c1, A2, n2, c2, f', rfl, hb, hFi, hhs, HF, e0, e1, e2⟩ := fn_at H.out hin
  rw [hf.out] at hFi
  injection hFi with hFi
  subst hFi
  obtain ⟨hk, hxe⟩ := List.getElem?_eq_some_iff.1 hx.out
  obtain ⟨b2, off2, hA2, hb2, x0, x1, x2, x3, x4⟩ := ins_at HF.s2 hk
  rw [hxe] at x0 x1 x2 x3 x4
  simp only at hA2
  subst hA2
  have hl2 : f.code.length = n2 := HF.l2
  have hk2 : k < n2 := by omega
  have hc2 : n2 ≤ 8796093022208 := HF.k2.2.2
  obtain ⟨o, a, p, d, m⟩ := x
  simp only at x0 x1 x2 x3 x4
  by_cases ho : 0 ≤ o ∧ o < 25
  · by_cases h17 : o = 17
    · subst h17
      exact rchk_17 w lo b off n c hs F i k P A1 n1 c1 b2 off2 n2 c2 f a p d m H hin hn (hide HF) hk2 hc2 e0 e1 e2 x0 x1 x2 x3 x4 (hide rfl) (hide rfl) (hide rfl) (hide rfl)
    · by_cases h20 : o = 20
      · subst h20
        exact rchk_20 w lo b off n c hs F i k P A1 n1 c1 b2 off2 n2 c2 f a p d m H hin hn (hide HF) hk2 hc2 e0 e1 e2 x0 x1 x2 x3 x4 (hide rfl) (hide rfl) (hide rfl) (hide rfl)
      · by_cases h21 : o = 21
        · subst h21
          exact rchk_21 w lo b off n c hs F i k P A1 n1 c1 b2 off2 n2 c2 f a p d m H hin hn (hide HF) hk2 hc2 e0 e1 e2 x0 x1 x2 x3 x4 (hide rfl) (hide rfl) (hide rfl) (hide rfl)
        · rcases shapes_of ho.1 ho.2 with ⟨a1, a2, a3, a4⟩ | ⟨a1, a2, a3, a4⟩ | ⟨a1, a2, a3, a4⟩ | ⟨a1, a2, a3, a4⟩ | ⟨a1, a2, a3, a4⟩ | ⟨a1, a2, a3, a4⟩
          · exact rchk_aaa w lo b off n c hs F i k P A1 n1 c1 b2 off2 n2 c2 f o a p d m H hin hn (hide HF) hk2 hc2 e0 e1 e2 x0 x1 x2 x3 x4 ho.1 ho.2 h17 h20 h21 (hide a1) (hide a2) (hide a3) (hide a4)
          · exact rchk_aa w lo b off n c hs F i k P A1 n1 c1 b2 off2 n2 c2 f o a p d m H hin hn (hide HF) hk2 hc2 e0 e1 e2 x0 x1 x2 x3 x4 ho.1 ho.2 h17 h20 h21 (hide a1) (hide a2) (hide a3) (hide a4)
          · exact rchk_a w lo b off n c hs F i k P A1 n1 c1 b2 off2 n2 c2 f o a p d m H hin hn (hide HF) hk2 hc2 e0 e1 e2 x0 x1 x2 x3 x4 ho.1 ho.2 h17 h20 h21 (hide a1) (hide a2) (hide a3) (hide a4)
          · exact rchk_ai w lo b off n c hs F i k P A1 n1 c1 b2 off2 n2 c2 f o a p d m H hin hn (hide HF) hk2 hc2 e0 e1 e2 x0 x1 x2 x3 x4 ho.1 ho.2 h17 h20 h21 (hide a1) (hide a2) (hide a3) (hide a4)
          · exact rchk_i w lo b off n c hs F i k P A1 n1 c1 b2 off2 n2 c2 f o a p d m H hin hn (hide HF) hk2 hc2 e0 e1 e2 x0 x1 x2 x3 x4 ho.1 ho.2 h17 h20 h21 (hide a1) (hide a2) (hide a3) (hide a4)
          · exact rchk_o w lo b off n c hs F i k P A1 n1 c1 b2 off2 n2 c2 f o a p d m H hin hn (hide HF) hk2 hc2 e0 e1 e2 x0 x1 x2 x3 x4 ho.1 ho.2 h17 h20 h21 (hide a1) (hide a2) (hide a3) (hide a4)
  · exact rchk_far w lo b off n c hs F i k P A1 n1 c1 b2 off2 n2 c2 f o a p d m H hin hn (hide HF) hk2 hc2 e0 e1 e2 x0 x1 x2 x3 x4 ho
end Go.Proofs.YtlhaendgdeflkaaGreatDoor
end
