import Derived.Test.YtlhaendgdeflkaaGreatDoorMGw
import Derived.Test.YtlhaendgdeflkaaGreatDoorMGq
import Derived.Test.YtlhaendgdeflkaaGreatDoorMTrfmt
import Derived.Deep.RegionHeld3
set_option linter.unusedVariables false
set_option linter.unusedSimpArgs false
section
/-
  The program's writeFunc and Format (chapter 7). Conditions: the tables of the names, of the powers of ten and of the shapes lie as they are laid.
-/
namespace Go.Proofs.YtlhaendgdeflkaaGreatDoor
open Go.RowKit

/-- The tables that writing asks, as long as nothing below block B changes. -/
structure Tabs (B : Nat) (w : World) : Prop where
  p : P10 B w
  s : Synt w
  g : 0 < B
theorem Synt.on {B : Nat} {w w' : World} (h : Synt w) (hg : 0 < B) (hb : Below B w w') : Synt w' := fun k hk => by
  obtain ⟨h1, h2⟩ := h k hk
  exact ⟨by rw [hb.cell (p := ⟨_, _, none⟩) hg]; exact h1, by rw [hb.cell (p := ⟨_, _, none⟩) hg]; exact h2⟩
theorem Tabs.on {B : Nat} {w w' : World} (h : Tabs B w) (hb : Below B w w') : Tabs B w' := ⟨h.p.on hb, h.s.on h.g hb, h.g⟩
theorem Tabs.ten {B : Nat} {w w' : World} (h : Tabs B w) (hb : Below B w w') : Lib.TabIs Tryz.prog w' "internal/strconv.uint64pow10" .u64 Lib.pow10Tab := (h.p.on hb).here
/-- A builder that holds l in world w', as it has become of world w. -/
structure SB (B b : Nat) (w : World) (l : List UInt8) (w' : World) : Prop where
  i : IsB B b l w'
  o : Below B w w'
  k : Kept b w w'
  s : B ≤ w.heap.size
section
variable {B b : Nat} {w w' w'' : World} {l m : List UInt8}
theorem SB.size (h : SB B b w l w') : B ≤ w'.heap.size := Nat.le_trans h.s h.o.size
theorem SB.here (h : IsB B b l w) (hs : B ≤ w.heap.size) : SB B b w l w := ⟨h, Below.refl _ _, Lib.OthersKept.refl _ _ _, hs⟩
theorem SB.step (h : SB B b w l w') (hb : Below w'.heap.size w' w'') : SB B b w l w'' := ⟨isB_old h.i hb, h.o.trans (hb.mono h.size), h.k.trans (kept_below hb), h.s⟩
theorem SB.alloc (h : SB B b w l w') (o : Obj) : SB B b w l (w'.alloc o) := h.step (below1 _ _)
theorem SB.draws (h : SB B b w l w') (k : Nat) : SB B b w l (w'.drewN k) := ⟨h.i, below_draws h.o k, h.k, h.s⟩
theorem SB.line (h : SB B b w l w') (hi : IsB B b m w'') (hb : Below B w' w'') (hk : Kept b w' w'') : SB B b w m w'' := ⟨hi, h.o.trans hb, h.k.trans hk, h.s⟩
theorem SB.to (h : SB B b w l w') (e : l = m) : SB B b w m w' := e ▸ h
end
theorem join_two (a t : List UInt8) : Lib.join [a, t] [32] = a ++ (32 :: t) := by simp [Lib.join_cons, Lib.joinTail]
theorem join_three (a t u : List UInt8) : Lib.join [a, t, u] [32] = a ++ (32 :: (t ++ (32 :: u))) := by simp [Lib.join_cons, Lib.joinTail]
theorem join_one (t : List UInt8) : Lib.join [t] [32] = t := by simp [Lib.join_cons, Lib.joinTail]
/-- A literal of words, just made. -/
theorem own_words (w : World) (ws : List (List UInt8)) (h : ws.length ≤ 1000) : (w.alloc (.cells (wcells ws).toArray 9)).ownsRow w.heap.size 9 1 (.slice (some ⟨w.heap.size, 0, none⟩) ws.length ws.length) ws.length (wcells ws) := by
  have := own_row (base := w.heap.size) (Row.new w 9 (wcells ws)) (Nat.le_refl _) (by rw [wcells_len]; unfold maxLen; omega)
  rw [wcells_len] at this
  exact this
/-- writeLine at a literal of words. -/
theorem wline_lit (B b : Nat) (l : List UInt8) (ws : List (List UInt8)) (w0 w : World) (h : SB B b w0 l w) (h1 : 0 < ws.length) (h2 : ws.length ≤ 3) (hl : l.length ≤ 100000000) (hj : (Lib.join ws [32]).length ≤ 100000000) (cs : Array Value) (hcs : cs = (wcells ws).toArray) (n : Nat) (hn : n = ws.length) :
    Calls Tryz.prog 53 #[.pointer (some ⟨b, 0, none⟩), .slice (some ⟨w.heap.size, 0, none⟩) n n] (w.alloc (.cells cs 9)) fun e w' => e = .returned (.tuple #[]) ∧ SB B b w0 (l ++ (Lib.join ws [32] ++ [10])) w' ∧ Kept b (w.alloc (.cells cs 9)) w' := by
  subst hcs hn
  have hI := h.alloc (.cells (wcells ws).toArray 9)
  refine (wline_any B b l ws _ w.heap.size _ hI.i (own_words w ws (by omega)) h1 (by omega) hl hj hI.size).mono ?_
  rintro e w' ⟨rfl, i, hb, hk⟩
  exact ⟨rfl, (hI.line i hb hk).to (by rw [List.append_assoc]), hk⟩
theorem row_two {w : World} {g t : Nat} {x y : Value} (h : Row w g t [x, y]) : w.cell? ⟨g, 0, none⟩ = some x ∧ w.cell? ⟨g, 1, none⟩ = some y := ⟨h.cell rfl, h.cell rfl⟩
/-- What writeFunc and Format leave. -/
def SBPost (B b : Nat) (l : List UInt8) (w : World) (e : Ending) (w' : World) : Prop := e = .returned (.tuple #[]) ∧ SB B b w l w'

set_option maxRecDepth 100000 in
set_option maxHeartbeats 8000000 in
theorem wfunc_any (lo B b : Nat) (l : List UInt8) (P : Int) (A1 : Option Addr) (n1 c1 : Nat) (A2 : Option Addr) (n2 c2 : Nat) (f : Fn) (w : World) (hI : Hid (IsB B b l w)) (hB : B ≤ w.heap.size) (hbs : b < w.heap.size) (hBb : B ≤ b) (HF : Hid (HdAt w lo B ⟨P, A1, n1, c1, A2, n2, c2⟩ f)) (HFB : Hid (FnB f)) (hl : Hid (l.length ≤ 20000000)) (HT : Hid (Tabs B w)) :
    Calls Tryz.prog 28 #[.pointer (some ⟨b, 0, none⟩), fv P A1 n1 c1 A2 n2 c2] w (SBPost B b (l ++ fnT f) w) := by
  have hp := HF.out.p
  have hl1 := HF.out.l1
  have hl2 := HF.out.l2
  simp only at hp hl1 hl2
  have hn1 : n1 ≤ 512 := by rw [← hl1]; exact HFB.out.ns
  have hn2 : n2 ≤ 1024 := by rw [← hl2]; exact HFB.out.nc
  have HL1 := hide hl1; have HL2 := hide hl2
  have HSB := hide (fun k => Nat.le_trans (flat_take_le slotT f.slots k) (flat_bound slotT 49 f.slots fun u hu => slotT_len (HFB.out.s u hu).1 (HFB.out.s u hu).2))
  have HCB := hide (fun k => Nat.le_trans (flat_take_le codeT f.code k) (flat_bound codeT 101 f.code fun x hx => codeT_len (HFB.out.c x hx)))
  obtain ⟨W, hW⟩ : ∃ W, w.alloc (.cells #[.int .i64 P, .slice A1 n1 c1, .slice A2 n2 c2] 49) = W := ⟨_, rfl⟩
  have S0 := hide (show SB B b w l W by rw [← hW]; exact (SB.here hI.out hB).alloc _)
  have rf := hide (show Row W w.heap.size 49 [.int .i64 P, .slice A1 n1 c1, .slice A2 n2 c2] by rw [← hW]; exact Row.new w _ _)
  have hgb := hide (show w.heap.size ≠ b by omega)
  have g0 := rf.out.cell (k := 0) rfl
  have ci := itoa_any P (by rw [hp]; exact HFB.out.p0) (by rw [hp]; exact HFB.out.p1) W (HT.out.ten S0.out.o)
  have hti : (Lib.itoa P).length ≤ 30 := by have := Lib.itoa_length_le P (by rw [hp]; exact HFB.out.p0) (by rw [hp]; exact HFB.out.p1); omega
  obtain ⟨t, et⟩ : ∃ t, Lib.itoa P = t := ⟨_, rfl⟩
  rw [et] at ci hti
  have HET := hide (show headT f.params = Lib.join [[102, 117, 110, 99], t] [32] ++ [10] by rw [join_two, ← hp, ← et]; rfl)
  have HTI := hide hti
  have HW := hide hW
  have HBS := hide hBb
  have HBL := hide hbs
  clear hW hp hl1 hl2 et hti hBb hB hbs
  go_enter Tryz.func28, Tryz.ntmps28
  go_upto_region 1 with (fail)
  rw [HW.out]
  clear HW
  go_wp2_with fail
  refine ci.mono ?_
  rintro e w1 ⟨rfl, hb1⟩
  have S1 := hide (S0.out.step hb1)
  have K1 := hide (kept_below (b := b) hb1)
  clear ci hb1 g0
  go_wp2_with fail
  refine (wline_lit B b l [[102, 117, 110, 99], t] w w1 S1.out (by simp) (by simp) (by have := hl.out; omega) (by rw [join_two]; have := HTI.out; simp only [List.length_append, List.length_cons, List.length_nil]; omega) _ rfl _ rfl).mono ?_
  rintro e w2 ⟨rfl, hs2, k2⟩
  rw [← HET.out] at hs2
  have S2 := hide hs2
  have R2 := hide (((rf.out.kept K1.out hgb.out (by decide)).alloc (.cells #[.string ⟨#[102, 117, 110, 99]⟩, .string ⟨t.toArray⟩] 9)).kept k2 hgb.out (by decide))
  have HLL := hide (show (l ++ headT f.params).length ≤ 20000100 by rw [HET.out, join_two]; have := HTI.out; have := hl.out; simp only [List.length_append, List.length_cons, List.length_nil]; omega)
  obtain ⟨l2, hl2⟩ : ∃ l2, l ++ headT f.params = l2 := ⟨_, rfl⟩
  rw [hl2] at S2 HLL
  have HL := hide hl2
  have v1 := R2.out.cell (k := 1) rfl
  clear hs2 k2 hl2
  go_wp2_with fail
  clear v1
  go_loopw [5, 17] (fun _ kv wk => ∃ (k : Nat) (m : List UInt8), k ≤ n1 ∧ kv = .int .i64 (k : Int) ∧ Hid (m = l2 ++ (f.slots.take k).flatMap slotT) ∧ Hid (SB B b w m wk) ∧ Hid (Row wk w.heap.size 49 [.int .i64 P, .slice A1 n1 c1, .slice A2 n2 c2])) (fun _ kv _ => n1 - (intOf kv).toNat)
  case atStart => exact ⟨0, l2, Nat.zero_le _, rfl, by simp [Hid], S2, R2⟩
  case round =>
    obtain ⟨k, m, hkn, rfl, hM, HSk, Rk⟩ := hrel
    have hml := hide (show m.length ≤ 20100000 by
      have h1 := HSB.out k
      have h2 := HLL.out
      rw [hM.out, List.length_append]
      have : f.slots.length * 49 ≤ 512 * 49 := Nat.mul_le_mul_right _ (by rw [HL1.out]; exact hn1)
      omega)
    by_cases hkl : k < n1
    · have hkz : (k : Int) < (n1 : Int) := by omega
      have hkf : k < f.slots.length := by rw [HL1.out]; exact hkl
      obtain ⟨b1, o1, rfl, hb1, s0, s1⟩ := pair_at (HF.out.below HSk.out.o).s1 hkf
      have hsb := HFB.out.s f.slots[k] (List.getElem_mem hkf)
      have HTS := hide (flat_take_succ slotT f.slots k f.slots[k] (List.getElem?_eq_getElem hkf))
      obtain ⟨⟨z1, z2⟩, hz⟩ : ∃ z, f.slots[k] = z := ⟨_, rfl⟩
      rw [hz] at s0 s1 hsb HTS
      dsimp only at s0 s1 hsb
      have ha : (Lib.itoa z1).length ≤ 30 := by have := Lib.itoa_length_le z1 hsb.1.1 hsb.1.2; omega
      have hbb : (Lib.itoa z2).length ≤ 30 := by have := Lib.itoa_length_le z2 hsb.2.1 hsb.2.2; omega
      obtain ⟨Ws, hWs⟩ : ∃ Ws, wr.alloc (.cells #[.int .i64 z1, .int .i64 z2] 52) = Ws := ⟨_, rfl⟩
      have SS := hide (show SB B b w m Ws by rw [← hWs]; exact HSk.out.alloc _)
      have RS := hide (show Row Ws wr.heap.size 52 [.int .i64 z1, .int .i64 z2] by rw [← hWs]; exact Row.new wr _ _)
      have Rf := hide (show Row Ws w.heap.size 49 [.int .i64 P, .slice (some ⟨b1, o1, none⟩) n1 c1, .slice A2 n2 c2] by rw [← hWs]; exact Rk.out.alloc _)
      have hgs := hide (show wr.heap.size ≠ b by have := HSk.out.o.size; have := HBL.out; omega)
      have q0 := RS.out.cell (k := 0) rfl
      have q1 := RS.out.cell (k := 1) rfl
      obtain ⟨ta, eta⟩ : ∃ t, Lib.itoa z1 = t := ⟨_, rfl⟩
      obtain ⟨tb, etb⟩ : ∃ t, Lib.itoa z2 = t := ⟨_, rfl⟩
      have T1 := hide (fun (wx : World) (hx : SB B b w m wx) => itoa_any z1 hsb.1.1 hsb.1.2 wx (HT.out.ten hx.o))
      have T2 := hide (fun (wx : World) (hx : SB B b w m wx) => itoa_any z2 hsb.2.1 hsb.2.2 wx (HT.out.ten hx.o))
      rw [eta] at ha T1
      rw [etb] at hbb T2
      have HSL := hide (show slotT (z1, z2) = Lib.join [[115, 108, 111, 116], ta, tb] [32] ++ [10] by rw [join_three, ← eta, ← etb]; simp [slotT])
      have HHA := hide ha; have HHB := hide hbb
      have HWs := hide hWs
      clear hz hb1 hsb eta etb hWs ha hbb
      go_upto_region 5 with (fail)
      rw [HWs.out]
      clear HWs s0 s1
      go_region_held3 (fun w' => w'.cell? ⟨wr.heap.size, 0, none⟩ = some (.int .i64 z1) ∧ w'.cell? ⟨wr.heap.size, 1, none⟩ = some (.int .i64 z2))
        (first | go_keep | exact ⟨keep_cellB hb3 q0, keep_cellB hb3 q1⟩ | exact ⟨keep_cellB hb4 (keep_cellB hb3 q0), keep_cellB hb4 (keep_cellB hb3 q1)⟩ | exact ⟨keep_cellB (below1 _ _) (keep_cellB hb4 (keep_cellB hb3 q0)), keep_cellB (below1 _ _) (keep_cellB hb4 (keep_cellB hb3 q1))⟩ | exact row_two ((((RS.out.drewN 1).call hb3).call hb4).alloc _ |>.kept k5 hgs.out (by decide)))
        (first
          | (go_at_call 53; refine (wline_lit B b m [[115, 108, 111, 116], ta, tb] w _ ((SS.out.draws 1 |>.step hb3).step hb4) (by simp) (by simp) (by have := hml.out; omega) (by rw [join_three]; have := HHA.out; have := HHB.out; simp only [List.length_append, List.length_cons, List.length_nil]; omega) _ rfl _ rfl).mono ?_; rintro e w5 ⟨rfl, hs5, k5⟩)
          | (go_at_call 33; refine (T2.out _ (SS.out.draws 1 |>.step hb3)).mono ?_; rintro e w4 ⟨rfl, hb4⟩)
          | (go_at_call 33; refine (T1.out _ (SS.out.draws 1)).mono ?_; rintro e w3 ⟨rfl, hb3⟩))
      have Rn := hide (((((Rf.out.drewN 1).call hb3).call hb4).alloc _).kept k5 hgb.out (by decide))
      rw [← HSL.out] at hs5
      have Sn := hide hs5
      clear hb3 hb4 k5 hs5 q0 q1
      go_wp2_with fail
      go_roundw
      case rel =>
        refine ⟨k + 1, _, by omega, by go_num, ?_, Sn, Rn⟩
        refine hide ?_
        rw [HTS.out, hM.out, List.append_assoc]
      case measure => simp [intOf]; omega
    · have hk2 : k = n1 := by omega
      subst hk2
      have hMe := hide (show m = l2 ++ f.slots.flatMap slotT by rw [hM.out, List.take_of_length_le (by rw [HL1.out]; exact Nat.le_refl _)])
      have v2 := Rk.out.cell (k := 2) rfl
      clear hM
      go_wp2_with fail
      clear v2
      go_loopw [7, 34] (fun _ kv wk => ∃ (j : Nat) (q : List UInt8), j ≤ n2 ∧ kv = .int .i64 (j : Int) ∧ Hid (q = m ++ (f.code.take j).flatMap codeT) ∧ Hid (SB B b w q wk)) (fun _ kv _ => n2 - (intOf kv).toNat)
      case atStart => exact ⟨0, m, Nat.zero_le _, rfl, by simp [Hid], HSk⟩
      case round =>
        obtain ⟨j, q, hjn, rfl, hQ, HSj⟩ := hrel
        have hql := hide (show q.length ≤ 20300000 by
          have h1 := HCB.out j
          have h2 := hml.out
          rw [hQ.out, List.length_append]
          have : f.code.length * 101 ≤ 1024 * 101 := Nat.mul_le_mul_right _ (by rw [HL2.out]; exact hn2)
          omega)
        by_cases hjl : j < n2
        · have hjz : (j : Int) < (n2 : Int) := by omega
          have hjf : j < f.code.length := by rw [HL2.out]; exact hjl
          obtain ⟨b2, o2, rfl, hb2, i0, i1, i2, i3, i4⟩ := ins_at (HF.out.below HSj.out.o).s2 hjf
          have hxb := HFB.out.c f.code[j] (List.getElem_mem hjf)
          have HTS := hide (flat_take_succ codeT f.code j f.code[j] (List.getElem?_eq_getElem hjf))
          obtain ⟨x, hx⟩ : ∃ x, f.code[j] = x := ⟨_, rfl⟩
          rw [hx] at i0 i1 i2 i3 i4 hxb HTS
          have hts := hide (insT_short hxb)
          obtain ⟨Wx, hWx⟩ : ∃ Wx, wr.alloc (.cells #[.int .i64 x.op, .int .i64 x.a, .int .i64 x.b, .int .i64 x.c, .int .u64 x.imm] 44) = Wx := ⟨_, rfl⟩
          have SX := hide (show SB B b w q Wx by rw [← hWx]; exact HSj.out.alloc _)
          have RX := hide (show Row Wx wr.heap.size 44 (icell x) by rw [← hWx]; exact Row.new wr _ _)
          have cx := dinstr_any x hxb Wx (HT.out.ten SX.out.o) (hide (HT.out.on SX.out.o).s)
          obtain ⟨t, et⟩ : ∃ t, insT x = t := ⟨_, rfl⟩
          rw [et] at hts cx
          have HCT := hide (show codeT x = Lib.join [t] [32] ++ [10] by rw [join_one, ← et]; rfl)
          have x0 := RX.out.cell (k := 0) rfl
          have x1 := RX.out.cell (k := 1) rfl
          have x2 := RX.out.cell (k := 2) rfl
          have x3 := RX.out.cell (k := 3) rfl
          have x4 := RX.out.cell (k := 4) rfl
          have HWx := hide hWx
          clear hx hb2 hxb et hWx
          obtain ⟨y0, y1, y2, y3, y4⟩ := x
          dsimp only at *
          go_upto_region 10 with (fail)
          rw [HWx.out]
          clear HWx i0 i1 i2 i3 i4
          go_wp2_with fail
          refine cx.mono ?_
          rintro e w5 ⟨rfl, hb5⟩
          have S5 := hide (SX.out.step hb5)
          clear hb5 cx x0 x1 x2 x3 x4
          go_wp2_with fail
          refine (wline_lit B b q [t] w w5 S5.out (by simp) (by simp) (by have := hql.out; omega) (by rw [join_one]; have := hts.out; omega) _ rfl _ rfl).mono ?_
          rintro e w6 ⟨rfl, hs6, k6⟩
          rw [← HCT.out] at hs6
          have S6 := hide hs6
          clear hs6 k6
          go_wp2_with fail
          go_roundw
          case rel =>
            refine ⟨j + 1, _, by omega, by go_num, ?_, S6⟩
            refine hide ?_
            rw [HTS.out, hQ.out, List.append_assoc]
          case measure => simp [intOf]; omega
        · have hj2 : j = n2 := by omega
          subst hj2
          have HE := hide (show q = l ++ fnT f by
            rw [hQ.out, List.take_of_length_le (by rw [HL2.out]; exact Nat.le_refl _), hMe.out, ← HL.out]
            unfold fnT
            simp only [List.append_assoc])
          clear hQ hql
          go_wp2_with fail
          go_end0
          exact ⟨rfl, HSj.out.to HE.out⟩
end Go.Proofs.YtlhaendgdeflkaaGreatDoor
end

section
/-
  The program's Format (chapter 7) of any program in memory whose Imm fields are of 64 bits. Conditions: the tables of the names, of the powers of ten and of the shapes lie as they are laid.
-/
namespace Go.Proofs.YtlhaendgdeflkaaGreatDoor
open Go.RowKit

theorem Tabs.more {B B' : Nat} {w : World} (h : Tabs B w) (hB : B ≤ B') : Tabs B' w := ⟨fun w' hb => h.p w' (hb.mono hB), h.s, Nat.lt_of_lt_of_le h.g hB⟩

set_option maxRecDepth 100000 in
set_option maxHeartbeats 8000000 in
theorem dformat_any (w : World) (lo : Nat) (A : Option Addr) (n c : Nat) (hs : List Hd) (F : Pg) (H : Hid (PgAt w lo w.heap.size A n c hs F)) (him : Hid (∀ f ∈ F, ∀ x ∈ f.code, 0 ≤ x.imm ∧ x.imm ≤ 18446744073709551615)) (HT : Hid (Tabs w.heap.size w)) (HSh : Hid (Shapes w)) :
    Calls Tryz.prog 13 #[gv A n c] w (FmtPost F w) := by
  have HLEN := hide H.out.len
  obtain ⟨W, hW⟩ : ∃ W, w.alloc (.cells #[.slice A n c] 29) = W := ⟨_, rfl⟩
  have hbW := hide (show Below w.heap.size w W by rw [← hW]; exact below1 w _)
  have rp := hide (show Row W w.heap.size 29 [.slice A n c] by rw [← hW]; exact Row.new w _ _)
  have HX := hide (show PgAt W lo W.heap.size A n c hs F by rw [← hW]; exact H.out.alloc _)
  have z0 := rp.out.cell (k := 0) rfl
  have HW := hide hW
  have cc := check_any A n c hs F lo W.heap.size W HX (Nat.le_refl _) (hide (HSh.out.below hbW.out))
  clear hW
  by_cases hce : pgE F = 0
  · rw [hce] at cc
    obtain ⟨h80, hFB⟩ := pgB_of hce him.out
    have HFB := hide hFB
    have hn80 : n ≤ 80 := by rw [← HLEN.out]; exact h80
    have HPL := hide (pgT_len hFB h80)
    have EE := hide (show fmtE F = if 65536 < (pgT F).length then 3 else 0 by unfold fmtE; rw [if_neg (by simp [hce])])
    clear hce hFB h80
    go_enter Tryz.func13, Tryz.ntmps13
    go_upto_region 1 with (fail)
    rw [HW.out]
    clear HW
    go_wp2_with fail
    refine cc.mono ?_
    rintro e w1 ⟨rfl, hb1⟩
    obtain ⟨Wb, hWb⟩ : ∃ Wb, w1.alloc (.cells #[.pointer none, .slice none 0 0] 70) = Wb := ⟨_, rfl⟩
    have hb1W := hbW.out.trans (hb1.mono hbW.out.size)
    have HBb := hide (show Below w.heap.size w Wb by rw [← hWb]; exact hb1W.alloc hb1W.size _)
    have hsz := hide hb1W.size
    have TB := hide (show Tabs w1.heap.size Wb from (HT.out.on HBb.out).more hb1W.size)
    have SB0 := hide (show SB w1.heap.size w1.heap.size Wb [] Wb from SB.here (by rw [← hWb]; exact Lib.IsBuilderF.of (Lib.fresh_isBuilder _ _ _)) (by rw [← hWb]; simp))
    have hbl := hide (show w1.heap.size < Wb.heap.size by rw [← hWb]; simp)
    have HX1 := hide (show PgAt Wb lo w1.heap.size A n c hs F by rw [← hWb]; exact (HX.out.call hb1).below (below1 _ _))
    have rb := hide (show Row Wb w.heap.size 29 [.slice A n c] by rw [← hWb]; exact (rp.out.call hb1).alloc _)
    have z1 := rb.out.cell (k := 0) rfl
    have HWb := hide hWb
    clear hb1 cc z0 hWb hb1W
    go_upto_region 5 with (fail)
    rw [HWb.out]
    clear HWb
    go_wp2_with fail
    clear z1
    go_loopw [7, 16] (fun _ iv wr => ∃ (i : Nat) (l : List UInt8), i ≤ n ∧ iv = .int .i64 (i : Int) ∧ Hid (l = (F.take i).flatMap fnT) ∧ Hid (SB w1.heap.size w1.heap.size Wb l wr)) (fun _ iv _ => n - (intOf iv).toNat)
    case atStart => exact ⟨0, [], Nat.zero_le _, rfl, rfl, SB0⟩
    case round =>
      obtain ⟨i, l, hin, rfl, hL, HS⟩ := hrel
      have HXr := hide (HX1.out.below HS.out.o)
      have hll := hide (show l.length ≤ 20000000 by
        have h1 := flat_take_le fnT F i
        rw [← hL.out] at h1
        have := HPL.out
        unfold pgT at this
        omega)
      by_cases hlt : i < n
      · have hlz : (i : Int) < (n : Int) := by omega
        obtain ⟨b, off, P, A1, n1, c1, A2, n2, c2, f, rfl, hb, hFi, -, HFd, e0, e1, e2⟩ := fn_at HXr.out hlt
        have hfb := HFB.out f (List.mem_of_getElem? hFi)
        have HFS := hide (flat_take_succ fnT F i f hFi)
        obtain ⟨Wf, hWf⟩ : ∃ Wf, wr.alloc (.cells #[.int .i64 P, .slice A1 n1 c1, .slice A2 n2 c2] 49) = Wf := ⟨_, rfl⟩
        have SF := hide (show SB w1.heap.size w1.heap.size Wb l Wf by rw [← hWf]; exact HS.out.alloc _)
        have rf := hide (show Row Wf wr.heap.size 49 [.int .i64 P, .slice A1 n1 c1, .slice A2 n2 c2] by rw [← hWf]; exact Row.new wr _ _)
        have HFX := hide (show HdAt Wf lo w1.heap.size ⟨P, A1, n1, c1, A2, n2, c2⟩ f by rw [← hWf]; exact HFd.below ((below1 wr _).mono HS.out.size))
        have cw := wfunc_any lo w1.heap.size w1.heap.size l P A1 n1 c1 A2 n2 c2 f Wf (hide SF.out.i) SF.out.size (Nat.lt_of_lt_of_le hbl.out SF.out.o.size) (Nat.le_refl _) HFX (hide hfb) hll (hide (TB.out.on SF.out.o))
        have g0 := rf.out.cell (k := 0) rfl
        have g1 := rf.out.cell (k := 1) rfl
        have g2 := rf.out.cell (k := 2) rfl
        have HWf := hide hWf
        clear hWf hfb hFi HFd hb
        go_upto_region 8 with (fail)
        rw [HWf.out]
        clear HWf e0 e1 e2
        go_wp2_with fail
        refine cw.mono ?_
        rintro e w3 ⟨rfl, hs3⟩
        have S3 := hide (SF.out.line hs3.i hs3.o hs3.k)
        clear hs3 cw g0 g1 g2
        go_wp2_with fail
        go_roundw
        case rel =>
          refine ⟨i + 1, _, by omega, by go_num, ?_, S3⟩
          refine hide ?_
          rw [HFS.out, hL.out]
        case measure => simp [intOf]; omega
      · have hi2 : i = n := by omega
        subst hi2
        have HE := hide (show l = pgT F by rw [hL.out, List.take_of_length_le (by rw [HLEN.out]; exact Nat.le_refl _)]; rfl)
        have HBW := hide (HBb.out.trans (HS.out.o.mono hsz.out))
        by_cases hsh : 65536 < l.length
        · have hshg : (65536 : Int) < (l.length : Int) := by omega
          have E3 := hide (show fmtE F = 3 by rw [EE.out, if_pos (by rw [← HE.out]; exact hsh)])
          go_wp2_with fail
          refine (blen_any w1.heap.size w1.heap.size l wr HS.out.i).mono ?_
          rintro e w4 ⟨rfl, hw4⟩
          obtain rfl := hw4.symm
          go_wp2
          go_ret2
          exact ⟨fmt_end (t := []) E3.out (fmtT_bad (by rw [E3.out]; decide)), HBW.out⟩
        · have hshg : ¬ ((65536 : Int) < (l.length : Int)) := by omega
          have E3 := hide (show fmtE F = 0 by rw [EE.out, if_neg (by rw [← HE.out]; exact hsh)])
          go_wp2_with fail
          refine (blen_any w1.heap.size w1.heap.size l wr HS.out.i).mono ?_
          rintro e w4 ⟨rfl, hw4⟩
          obtain rfl := hw4.symm
          go_wp2_with fail
          refine (bstr_any w1.heap.size w1.heap.size l wr HS.out.i HS.out.size).mono ?_
          rintro e w5 ⟨rfl, hb5⟩
          have HB5 := hide (HBW.out.trans (hb5.mono hsz.out))
          clear hb5
          go_wp2
          go_ret2
          exact ⟨fmt_end E3.out ((fmtT_good E3.out).trans HE.out.symm), HB5.out⟩
  · have hcb : (pgE F == 0) = false := by rw [beq_eq_false_iff_ne]; exact hce
    have E := hide (show fmtE F = pgE F by unfold fmtE; rw [if_pos hce])
    obtain ⟨x, hx⟩ : ∃ x, pgE F = x := ⟨_, rfl⟩
    have hxn := hide hce
    rw [hx] at cc hcb E hxn
    clear hx hce
    go_enter Tryz.func13, Tryz.ntmps13
    go_upto_region 1 with (fail)
    rw [HW.out]
    clear HW
    go_wp2_with fail
    refine cc.mono ?_
    rintro e w1 ⟨rfl, hb1⟩
    have HB := hide (hbW.out.trans (hb1.mono hbW.out.size))
    clear hb1 cc z0
    go_wp2
    go_ret2
    exact ⟨fmt_end (t := []) E.out (fmtT_bad (by rw [E.out]; exact hxn.out)), HB.out⟩
end Go.Proofs.YtlhaendgdeflkaaGreatDoor
end
