import Derived.Test.YtlhaendgdeflkaaGreatDoorMUrins
import Derived.Test.YtlhaendgdeflkaaGreatDoorMGd
import Derived.Test.YtlhaendgdeflkaaGreatDoorMGx
import Derived.Test.YtlhaendgdeflkaaGreatDoorMBoxes
import Derived.Deep.DrawnRows
import Derived.Maps.Range
import Derived.RegionTactic
import Derived.Deep.RegionLaw
set_option linter.unusedVariables false
set_option linter.unusedSimpArgs false
section
/-
  Programs grown by a line: as lists, and in memory. No function of the program is named here but in the names of types.
-/
namespace Go.Proofs.YtlhaendgdeflkaaGreatDoor
open Go.RowKit

/-- A program that at most m lines have made. -/
def SmallP (m : Nat) (F : Pg) : Prop := F.length ≤ m ∧ ∀ f ∈ F, f.slots.length ≤ m ∧ f.code.length ≤ m
theorem SmallP.nil_ (m : Nat) : SmallP m [] := ⟨Nat.zero_le _, fun f h => by cases h⟩
theorem SmallP.more {m m' : Nat} {F : Pg} (h : SmallP m F) (hm : m ≤ m') : SmallP m' F := ⟨Nat.le_trans h.1 hm, fun f hf => ⟨Nat.le_trans (h.2 f hf).1 hm, Nat.le_trans (h.2 f hf).2 hm⟩⟩
theorem last_split {F : Pg} {f : Fn} (h : F.getLast? = some f) : F = F.dropLast ++ [f] := by
  rcases List.eq_nil_or_concat F with rfl | ⟨l, b, rfl⟩
  · simp at h
  · simp at h
    subst h
    simp
theorem last_at {F : Pg} {f : Fn} {n : Nat} (h : F.getLast? = some f) (hl : F.length = n) : 0 < n ∧ F[n - 1]? = some f := by
  have h1 := last_split h
  have h2 := congrArg List.length h1
  rw [List.length_append] at h2
  simp at h2
  refine ⟨by omega, ?_⟩
  rw [← hl, ← List.getLast?_eq_getElem?]
  exact h
theorem drop_set {F : Pg} {f g : Fn} (h : F.getLast? = some f) : F.dropLast ++ [g] = F.set (F.length - 1) g := by
  have h1 := last_split h
  conv => rhs; rw [h1]
  rw [show (F.dropLast ++ [f]).length - 1 = F.dropLast.length by rw [List.length_append]; simp]
  rw [List.set_append_right _ _ (Nat.le_refl _)]
  simp
theorem SmallP.setLast {m : Nat} {F : Pg} {f g : Fn} (h : SmallP m F) (hf : F.getLast? = some f) (h1 : g.slots.length ≤ m + 1) (h2 : g.code.length ≤ m + 1) : SmallP (m + 1) (F.dropLast ++ [g]) := by
  rw [drop_set hf]
  refine ⟨by rw [List.length_set]; have := h.1; omega, fun x hx => ?_⟩
  rcases List.mem_or_eq_of_mem_set hx with h3 | h3
  · have := h.2 x h3; omega
  · subst h3; exact ⟨h1, h2⟩
theorem lineU_small {m : Nat} {F : Pg} (h : SmallP m F) (ws : List (List UInt8)) : SmallP (m + 1) (lineU F ws).2 := by
  have h' := h.more (Nat.le_succ m)
  unfold lineU
  split
  · exact h'
  · split
    · unfold funcU
      split
      · refine ⟨by rw [List.length_append]; have := h.1; simp; omega, fun f hf => ?_⟩
        rcases List.mem_append.1 hf with h1 | h1
        · exact h'.2 f h1
        · simp at h1; subst h1; simp
      · exact h'
    · split
      · exact h'
      · rename_i f hf
        have hm := h.2 f (List.mem_of_getLast? hf)
        split
        · unfold slotU
          split
          · exact h'
          · split
            · exact h.setLast hf (by simp only [List.length_append, List.length_cons, List.length_nil]; omega) (by simp only; omega)
            · exact h'
        · rw [instU_eq]
          split
          · exact h.setLast hf (by simp only; omega) (by simp only [List.length_append, List.length_cons, List.length_nil]; omega)
          · exact h'

/-- What reading a line gives. -/
def LnPost (lo : Nat) (r : Int × Pg) (w : World) (e : Ending) (w' : World) : Prop :=
  ∃ (A : Option Addr) (n c : Nat) (hs : List Hd), e = .returned (.tuple #[gv A n c, .int .i64 r.1]) ∧ PgAt w' lo w'.heap.size A n c hs r.2 ∧ Below w.heap.size w w'
section
variable {w wx wf : World} {lo n c : Nat} {A : Option Addr} {hs : List Hd} {F : Pg}
theorem put_res (wx : World) (g : Nat) (v : Value) (p : Addr) (h : p.block ≠ g) : (wx.setCell ⟨g, 0, none⟩ v).cell? p = wx.cell? p := World.cell?_setCell_other _ _ _ _ (fun e => by subst e; exact h rfl)
/-- The program as it came, and an error. -/
theorem ln_same (H : PgAt w lo w.heap.size A n c hs F) (hb : Below w.heap.size w wx) {x : Int} {r : Int × Pg} (hr : r = (x, F)) : LnPost lo r w (.returned (.tuple #[gv A n c, .int .i64 x])) (wx.setCell ⟨w.heap.size + 1, 0, none⟩ (.slice A n c)) := by
  subst hr
  refine ⟨A, n, c, hs, rfl, ?_, hb.setCell (by simp) _⟩
  have h1 : PgAt (wx.setCell ⟨w.heap.size + 1, 0, none⟩ (.slice A n c)) lo w.heap.size A n c hs F := (H.below hb).keep fun p _ hp => put_res _ _ _ _ (by omega)
  exact h1.more (by simp [World.setCell]; exact hb.size) (Nat.le_refl _)
/-- One function more. -/
theorem PgAt.snoc {w' : World} {B B' n' c' : Nat} {A' : Option Addr} {h : Hd} {f : Fn} (H : PgAt w lo B A n c hs F) (hk : ∀ p : Addr, lo ≤ p.block → p.block < B → w'.cell? p = w.cell? p) (hB : B ≤ B') (hn : n' = n + 1) (hcap : Cap A' n' c') (hfar : Far lo A') (hs' : Sees w' B' A' (hcells (hs ++ [h]))) (hh : HdAt w' lo B' h f) :
    PgAt w' lo B' A' n' c' (hs ++ [h]) (F ++ [f]) := by
  refine ⟨by rw [List.length_append, H.len, hn]; rfl, hcap, hfar, hs', ⟨by rw [List.length_append, List.length_append, H.hd.len]; rfl, fun k h2 f2 e1 e2 => ?_⟩⟩
  rcases Nat.lt_or_ge k hs.length with h1 | h1
  · rw [List.getElem?_append_left h1] at e1
    rw [List.getElem?_append_left (by rw [← H.hd.len]; exact h1)] at e2
    exact ((H.hd.at_ k h2 f2 e1 e2).keep hk).more hB (Nat.le_refl _)
  · rw [List.getElem?_append_right h1] at e1
    rw [List.getElem?_append_right (by rw [← H.hd.len]; exact h1), ← H.hd.len] at e2
    have hz : k - hs.length = 0 := by
      rcases Nat.eq_zero_or_pos (k - hs.length) with h3 | h3
      · exact h3
      · rw [List.getElem?_eq_none (by simp; omega)] at e1; cases e1
    rw [hz] at e1 e2
    simp at e1 e2
    subst e1 e2
    exact hh
/-- A function line's program: its heads in a row of the call's own. -/
theorem ln_func (H : PgAt w lo w.heap.size A n c hs F) (hlo : lo ≤ w.heap.size) (hb : Below w.heap.size w wx) {z : Int} {L cL : Nat} {A' : Option Addr} (ho : wx.ownsRow (w.heap.size + 2) 49 3 (.slice A' (n + 1) cL) (n + 1) (hcells (hs ++ [⟨z, none, 0, 0, none, 0, 0⟩]))) (hn : n ≤ 1000000)
    {r : Int × Pg} (hr : r = (0, F ++ [⟨z, [], []⟩])) : LnPost lo r w (.returned (.tuple #[gv A' (n + 1) cL, .int .i64 0])) (wx.setCell ⟨w.heap.size + 1, 0, none⟩ (.slice A' (n + 1) cL)) := by
  subst hr
  obtain ⟨A2, c2, e, hA, hnc, hfar, hsee⟩ := own_seen ho
  injection e with e1 _ e3
  subst e1 e3
  have hz : (wx.setCell ⟨w.heap.size + 1, 0, none⟩ (.slice A' (n + 1) cL)).heap.size = wx.heap.size := by simp [World.setCell]
  refine ⟨A', n + 1, cL, hs ++ [⟨z, none, 0, 0, none, 0, 0⟩], rfl, ?_, hb.setCell (by simp) _⟩
  rw [hz]
  refine H.snoc (fun p _ hp => ?_) hb.size rfl ⟨hA, hnc, by omega⟩ (hfar.more (by omega)) ?_ ⟨rfl, rfl, rfl, ⟨fun _ => rfl, Nat.le_refl _, Nat.zero_le _⟩, ⟨fun _ => rfl, Nat.le_refl _, Nat.zero_le _⟩, Far.none _, Far.none _, Sees.nil_ _ _ _, Sees.nil_ _ _ _⟩
  · rw [put_res _ _ _ _ (by omega)]; exact hb.cell hp
  · exact hsee.keepF (lo := w.heap.size + 2) hfar fun p h1 _ => put_res _ _ _ _ (by omega)
/-- A slot or instruction line's program: its heads in a row of the call's own, the last one with the function's new head. -/
theorem ln_last (H : PgAt w lo w.heap.size A n c hs F) (hlo : lo ≤ w.heap.size) (hb : Below w.heap.size w wx) {L cL : Nat} {f g : Fn} {h : Hd} (hf : F.getLast? = some f) (ho : wx.ownsRow (w.heap.size + 2) 49 3 (.slice (some ⟨L, 0, none⟩) n cL) n (hcells (hs.set (n - 1) h))) (hn : n ≤ 1000000)
    (hd : HdAt (wx.setCell ⟨w.heap.size + 1, 0, none⟩ (.slice (some ⟨L, 0, none⟩) n cL)) lo wx.heap.size h g)
    {r : Int × Pg} (hr : r = (0, F.dropLast ++ [g])) : LnPost lo r w (.returned (.tuple #[gv (some ⟨L, 0, none⟩) n cL, .int .i64 0])) (wx.setCell ⟨w.heap.size + 1, 0, none⟩ (.slice (some ⟨L, 0, none⟩) n cL)) := by
  subst hr
  obtain ⟨A2, c2, e, hA, hnc, hfar, hsee⟩ := own_seen ho
  injection e with e1 _ e3
  subst e1 e3
  have hz : (wx.setCell ⟨w.heap.size + 1, 0, none⟩ (.slice (some ⟨L, 0, none⟩) n cL)).heap.size = wx.heap.size := by simp [World.setCell]
  refine ⟨some ⟨L, 0, none⟩, n, cL, hs.set (n - 1) h, rfl, ?_, hb.setCell (by simp) _⟩
  rw [hz, drop_set hf, H.len]
  refine H.set (fun p _ hp => ?_) hb.size (Nat.le_refl _) ⟨hA, hnc, by omega⟩ (hfar.more (by omega)) ?_ hd
  · rw [put_res _ _ _ _ (by omega)]; exact hb.cell hp
  · exact hsee.keepF (lo := w.heap.size + 2) hfar fun p h1 _ => put_res _ _ _ _ (by omega)
end
/-- An instruction of any words behind a name. -/
theorem rtinstr_any (b1 o1 n c : Nat) (nm : List UInt8) (r : List (List UInt8)) (w : World) (B : Nat) (hB : B ≤ w.heap.size) (hb1 : b1 < B) (hS : Hid (Sees w B (some ⟨b1, o1, none⟩) (wcells (nm :: r)))) (hn : n = r.length + 1) (hnc : n ≤ c) (hnb : n ≤ 100000001) (hlen : Hid (∀ x ∈ r, x.length ≤ 100000000)) :
    Calls Tryz.prog 51 #[.slice (some ⟨b1, o1, none⟩) n c] w (InPost nm r w) := by
  cases hop : opU nm with
  | some k =>
    have hk := (opU_some hop).1
    rcases shapes_of (z := (k : Int)) (by omega) (by omega) with a | a | a | a | a | a
    · exact rtinstr_abc b1 o1 n c nm r w B k hB hb1 hS hn hnc hnb hlen hk (hide hop) a
    · exact rtinstr_ab b1 o1 n c nm r w B k hB hb1 hS hn hnc hnb hlen hk (hide hop) a
    · exact rtinstr_a b1 o1 n c nm r w B k hB hb1 hS hn hnc hnb hlen hk (hide hop) a
    · exact rtinstr_ai b1 o1 n c nm r w B k hB hb1 hS hn hnc hnb hlen hk (hide hop) a
    · exact rtinstr_i b1 o1 n c nm r w B k hB hb1 hS hn hnc hnb hlen hk (hide hop) a
    · exact rtinstr_none b1 o1 n c nm r w B k hB hb1 hS hn hnc hnb hlen hk (hide hop) a
  | none =>
    obtain ⟨W, hW⟩ : ∃ W, w.alloc (.cells #[.int .i64 0, .int .i64 0, .int .i64 0, .int .i64 0, .int .u64 0] 44) = W := ⟨_, rfl⟩
    have HB0 := hide (show Below w.heap.size w W by rw [← hW]; exact below1 _ _)
    have R0 := hide (show Row W w.heap.size 44 [.int .i64 0, .int .i64 0, .int .i64 0, .int .i64 0, .int .u64 0] by rw [← hW]; exact Row.new w _ _)
    obtain ⟨b1', o1', e1, _, q0⟩ := word_at hS.out (k := 0) rfl
    injection e1 with e1
    injection e1 with e1 e2
    subst e1 e2
    rw [Nat.add_zero] at q0
    have q1 := (HB0.out.cell (p := ⟨b1, o1, none⟩) (by simp only; omega)).trans q0
    have HE := hide (show insE7 nm r = 10 by unfold insE7; rw [hop])
    have HX := hide (in_bad HE.out (by decide))
    have HOP := hide hop
    have hnz3 : 0 < n := by omega
    have hnz2 : (0 : Int) < (n : Int) := by omega
    have HW := hide hW
    clear hop hW q0
    go_enter Tryz.func51, Tryz.ntmps51
    go_upto_region 1 with (fail)
    rw [HW.out]
    clear HW
    go_wp2_with fail
    refine (rop_any nm W).mono ?_
    rintro e w1 ⟨rfl, hb1'⟩
    rw [HOP.out]
    simp only [Option.getD_none, Option.isSome_none]
    have HB5 := hide (HB0.out.trans (hb1'.mono HB0.out.size))
    have R5 := hide (R0.out.call hb1')
    clear hb1' q1
    have c0 := R5.out.cell (k := 0) rfl
    have c1 := R5.out.cell (k := 1) rfl
    have c2 := R5.out.cell (k := 2) rfl
    have c3 := R5.out.cell (k := 3) rfl
    have c4 := R5.out.cell (k := 4) rfl
    have y0 := R5.out.free 0
    have y1 := R5.out.free 1
    have y2 := R5.out.free 2
    have y3 := R5.out.free 3
    have y4 := R5.out.free 4
    go_wp2
    have hf := ((((R5.out.set_ 0 (.int .i64 0)).set_ 1 (.int .i64 0)).set_ 2 (.int .i64 0)).set_ 3 (.int .i64 0)).set_ 4 (.int .u64 0)
    have f0 := hf.cell (k := 0) rfl
    have f1 := hf.cell (k := 1) rfl
    have f2 := hf.cell (k := 2) rfl
    have f3 := hf.cell (k := 3) rfl
    have f4 := hf.cell (k := 4) rfl
    refine bodyPost_ret (v := .tuple #[iv 0 0 0 0 0, .int .i64 10]) (by simp [results, Tryz.results51, go_sem, f0, f1, f2, f3, f4]) rfl ⟨by rw [HX.out, HE.out], ?_⟩
    exact ((((HB5.out.setCell (Nat.le_refl _) _).setCell (Nat.le_refl _) _).setCell (Nat.le_refl _) _).setCell (Nat.le_refl _) _).setCell (Nat.le_refl _) _
end Go.Proofs.YtlhaendgdeflkaaGreatDoor
end

section
/-
  The reference's line (chapter 7) at a line of a function, and at a line that may not stand there. No condition but those of the types.
-/
namespace Go.Proofs.YtlhaendgdeflkaaGreatDoor
open Go.RowKit

theorem Tryz.info49u : (Tryz.prog.info? 49).map (fun i => (i.zero, i.size, i.bytes)) = some (some (.agg #[.int .i64 0, .slice none 0 0, .slice none 0 0]), 3, 56) := by kernel_rfl
theorem Row.sees {w : World} {g t : Nat} {cs : List Value} (h : Row w g t cs) : Sees w w.heap.size (some ⟨g, 0, none⟩) cs := fun k u hu => ⟨g, 0, rfl, h.lt, by rw [Nat.zero_add]; exact h.cell hu⟩
theorem own_ufar {w : World} {base e size n : Nat} {v : Value} {xs : List Value} (h : w.ownsRow base e size v n xs) {p : Addr} (hp : p.block < base) (u : Value) : (w.setCell p u).ownsRow base e size v n xs := by
  refine ⟨h.1, ?_⟩
  rcases h.2 with h2 | ⟨g, cap, cur, hv, hg, hh, hr⟩
  · exact .inl h2
  · exact .inr ⟨g, cap, cur, hv, hg, (Below.heap_setCell w p u g (by omega)).trans hh, hr⟩
theorem own_base {w : World} {base base' : Nat} {e : TypeId} {size n : Nat} {v : Value} {xs : List Value} (h : w.ownsRow base e size v n xs) (hb : base' ≤ base) : w.ownsRow base' e size v n xs := by
  refine ⟨h.1, ?_⟩
  rcases h.2 with h2 | ⟨g, cap, cur, hv, hg, h3⟩
  · exact .inl h2
  · exact .inr ⟨g, cap, cur, hv, by omega, h3⟩
theorem grown_cellk {w w' : World} {b o : Nat} {v : Value} (h : w.cell? ⟨b, o, none⟩ = some v) (hg : w.grownBy w' none) : w'.cell? ⟨b, o, none⟩ = some v :=
  (World.cell?_of_block (hg.block b (World.block_lt_of_cell? _ _ h) (fun e => by cases e))).trans h

theorem fn_oneCell (z : Int) : ∀ u ∈ [Value.int .i64 z, .slice none 0 0, .slice none 0 0], u.oneCell' = true := by
  intro u hu
  simp at hu
  rcases hu with rfl | rfl <;> rfl
set_option maxHeartbeats 2000000 in
set_option maxRecDepth 100000 in
theorem rline_func (lo : Nat) (A : Option Addr) (n c : Nat) (hs : List Hd) (F : Pg) (b1 o1 nw cw : Nat) (r : List (List UInt8)) (w : World) (H : Hid (PgAt w lo w.heap.size A n c hs F)) (hlo : lo ≤ w.heap.size) (hb1 : b1 < w.heap.size) (hS : Hid (Sees w w.heap.size (some ⟨b1, o1, none⟩) (wcells (kwF :: r)))) (hn : nw = r.length + 1) (hnc : nw ≤ cw) (hnb : nw ≤ 100000001) (hlen : Hid (∀ x ∈ r, x.length ≤ 100000000)) (hsm : n ≤ 100000) :
    Calls Tryz.prog 26 #[gv A n c, .slice (some ⟨b1, o1, none⟩) nw cw] w (LnPost lo (funcU F r) w) := by
  obtain ⟨j0, ji, jz0, jz1, jz2⟩ := info_parts Tryz.info49u
  obtain ⟨W, hW, hbW, hsW, r0, r1⟩ := boxes2p w [.slice A n c] [.slice none 0 0] 29 29
  have HBW := hide hbW; have R0 := hide r0; have R1 := hide r1; have HSW := hide hsW
  obtain ⟨b1', o1', e1, _, q0⟩ := word_at hS.out (k := 0) rfl
  injection e1 with e1
  injection e1 with e1 e2
  subst e1 e2
  rw [Nat.add_zero] at q0
  have q1 : W.cell? ⟨b1, o1, none⟩ = some (.string ⟨#[102, 117, 110, 99]⟩) := (hbW.cell (p := ⟨b1, o1, none⟩) (by simpa using hb1)).trans q0
  obtain ⟨A2, hsl, hS2⟩ := tail_at hS.out hn hnc
  have z0 := r0.cell (k := 0) rfl
  obtain ⟨W3, hW3⟩ : ∃ W3, W.alloc (.cells #[.string ⟨#[]⟩] 9) = W3 := ⟨_, rfl⟩
  have HB3 := hide (show Below w.heap.size w W3 by rw [← hW3]; exact hbW.alloc hbW.size _)
  have R03 := hide (show Row W3 w.heap.size 29 [.slice A n c] by rw [← hW3]; exact r0.alloc _)
  have R13 := hide (show Row W3 (w.heap.size + 1) 29 [.slice none 0 0] by rw [← hW3]; exact r1.alloc _)
  have hSm := hide (show Sees W3 W3.heap.size (some ⟨W.heap.size, 0, none⟩) (wcells (mksT mkN)) by rw [← hW3]; exact (Row.new W 9 [.string ⟨#[]⟩]).sees)
  have hS3 := hide ((hS2 W3 (fun p hp => HB3.out.cell hp)).more HB3.out.size)
  have cn := rnumbers_any A2 (nw - 1) (cw - 1) r (some ⟨W.heap.size, 0, none⟩) 1 1 mkN false W3 W3.heap.size (Nat.le_refl _) hS3 hSm (hide (by omega)) (hide rfl) hlen (hide (by intro m hm; simp [mkN] at hm; subst hm; simp)) (by omega) (by omega)
    (hide (by intro i hi; have : i = 0 := by simp [mkN] at hi; omega
              subst this; rfl))
  have HW := hide hW; have HW3 := hide hW3
  have hcw : 1 ≤ cw := by omega
  have hnz : 1 ≤ nw := by omega
  have hnz2 : (0 : Int) < (nw : Int) := by omega
  have hnz3 : 0 < nw := by omega
  have HN := hide hn
  clear hW hbW hsW r0 r1 q0 hS2 hW3 hn
  go_enter Tryz.func26, Tryz.ntmps26
  go_upto_region 1 with (fail)
  rw [HW.out]
  clear HW
  go_wp2_with fail
  rw [HW3.out]
  clear HW3
  refine cn.mono ?_
  rintro e w5 ⟨v5, rfl, ho5, hb5⟩
  have HB5 := hide (HB3.out.trans (hb5.mono HB3.out.size))
  have R05 := hide (R03.out.call hb5)
  have R15 := hide (R13.out.call hb5)
  have HO5 := hide ho5
  clear hb5 ho5 cn q1 z0
  by_cases hE : numsE mkN r = 0
  · have o5 := HO5.out hE
    obtain ⟨z, hz1, hzv, hz0, hzb⟩ := numI_at hE (k := 0) (by simp [mkN])
    have hzb2 : z ≤ 2147483647 := by simp [mkN, limU] at hzb; omega
    obtain ⟨g5, c5, rfl, -, hg5, hc5⟩ := num_cell o5 (by simp [mkN])
    have y0 := hc5 0 z hz1
    have HR := hide (show funcU F r = (0, F ++ [⟨z, [], []⟩]) by unfold funcU; rw [if_pos hE, hzv.out])
    have HP5 := hide (H.out.below HB5.out)
    have HCA := hide H.out.cap.1
    have HCL := hide (show (hcells hs).length = n * 3 by rw [hcells_length, H.out.hd.len, H.out.len])
    have HCS := hide HP5.out.see
    have HCC := hide H.out.cap.2.1
    have hbs := hide HB5.out.size
    have a0 := R05.out.cell (k := 0) rfl
    have a1 : ∀ o : Obj, (w5.alloc o).cell? ⟨w.heap.size, 0, none⟩ = some (.slice A n c) := fun o => (R05.out.alloc o).cell (k := 0) rfl
    have HM1 := hide (show 0 + n ≤ maxLen by unfold maxLen; omega)
    have HM2 := hide (show (0 + n) * 56 ≤ 140737488355328 by omega)
    have HM3 := hide (show 0 + n + 1 ≤ maxLen by unfold maxLen; omega)
    have HM4 := hide (show (0 + n + 1) * 56 ≤ 140737488355328 by omega)
    have hwz : IntKind.i64.wrap z = z := by rw [IntKind.wrap_i64]; omega
    have hg5s : g5 < w5.heap.size + 1 := by omega
    have hg5n : ¬ g5 = w5.heap.size := by omega
    have hml : mkN.length = 1 := rfl
    have Y0 := hide y0
    have HG5 := hide hg5
    rw [hE, hml]
    clear hE o5 hz1 hzv hzb hc5 hml
    go_upto_region 6 with (fail)
    go_region_law
      (first
        | (refine wp_append_seesN (.const (.slice none 0 0)) (.tmp 34) 27 rfl w5.heap.size 49 j0 (.agg #[.int .i64 0, .slice none 0 0, .slice none 0 0]) 3 56 Tryz.underlying27 ji jz0 jz1 jz2 rfl (by decide) (.slice none 0 0) 0 [] rfl (World.ownsRow_nil _ _ _ _) w.heap.size A n c (hcells hs) rfl HCA HCL (hide (HCS.out.draws 1)) HCC (hcells_oneCell _) HM1.out HM2.out (Nat.le_refl _) ?_; intro v1 w6 ho1 hg1; have hG1 : w5.grownBy w6 none := (grown_draws (World.grownBy.refl w5 none) 1).trans hg1; have s20 := grown_cellk Y0.out hG1; have hg6 : g5 < w6.heap.size + 1 := Nat.lt_succ_of_lt (Nat.lt_of_lt_of_le HG5.out hG1.size))
        | (refine wp_append_seesN (.const (.slice none 0 0)) (.tmp 34) 27 rfl w5.heap.size 49 j0 (.agg #[.int .i64 0, .slice none 0 0, .slice none 0 0]) 3 56 Tryz.underlying27 ji jz0 jz1 jz2 rfl (by decide) (.slice none 0 0) 0 [] rfl (World.ownsRow_nil _ _ _ _) w.heap.size A n c (hcells hs) rfl HCA HCL (hide ((HCS.out.draws 1).alloc hbs.out _)) HCC (hcells_oneCell _) HM1.out HM2.out (by simp) ?_; intro v1 w6 ho1 hg1; have hG1 : w5.grownBy w6 none := ((grown_draws (World.grownBy.refl w5 none) 1).trans (World.grownBy_alloc _ _ _)).trans hg1; have hN1 := ((Row.new (w5.drewN 1) 49 [.int .i64 z, .slice none 0 0, .slice none 0 0]).at_ (g' := w5.heap.size) rfl).grown hg1 (fun e => by cases e); have s20 := grown_cellk Y0.out hG1)
        | (refine wp_append_own _ (.tmp 35) (.tmp 41) 27 rfl w5.heap.size 49 j0 (.agg #[.int .i64 0, .slice none 0 0, .slice none 0 0]) 3 56 Tryz.underlying27 ji jz0 jz1 jz2 rfl (by decide) v1 (0 + n) ([] ++ hcells hs) rfl (ho1.alloc _) ⟨w6.heap.size, 0, none⟩ 1 1 [.int .i64 z, .slice none 0 0, .slice none 0 0] rfl rfl (fun j u hu => by rw [WideShapes.add_plain, Nat.zero_add]; exact (Row.new w6 49 [.int .i64 z, .slice none 0 0, .slice none 0 0]).cell hu) (fn_oneCell z) HM3.out HM4.out (Nat.le_trans hG1.size (by simp)) ?_; intro v2 w7 ho2 hg2 _; have HG7 : Hid (w5.grownBy w7 none) := hide ((hG1.trans (World.grownBy_alloc _ _ _)).andThen hg2 (fun k hk => .inl (ho1.lt k hk).1)); obtain ⟨A7, c7, rfl, hA7, hc7, hf7, -⟩ := own_seen ho2; have p0 := (R05.out.grown HG7.out (fun e => by cases e)).cell (k := 0) rfl; have p1 := (R05.out.grown HG7.out (fun e => by cases e)).free 0)
        | (refine wp_append_own _ (.tmp 35) (.tmp 41) 27 rfl w5.heap.size 49 j0 (.agg #[.int .i64 0, .slice none 0 0, .slice none 0 0]) 3 56 Tryz.underlying27 ji jz0 jz1 jz2 rfl (by decide) v1 (0 + n) ([] ++ hcells hs) rfl ho1 ⟨w5.heap.size, 0, none⟩ 1 1 [.int .i64 z, .slice none 0 0, .slice none 0 0] rfl rfl (fun j u hu => by rw [WideShapes.add_plain, Nat.zero_add]; exact hN1.cell hu) (fn_oneCell z) HM3.out HM4.out hG1.size ?_; intro v2 w7 ho2 hg2 _; have HG7 : Hid (w5.grownBy w7 none) := hide (hG1.andThen hg2 (fun k hk => .inl (ho1.lt k hk).1)); obtain ⟨A7, c7, rfl, hA7, hc7, hf7, -⟩ := own_seen ho2; have p0 := (R05.out.grown HG7.out (fun e => by cases e)).cell (k := 0) rfl; have p1 := (R05.out.grown HG7.out (fun e => by cases e)).free 0))
    all_goals
      clear hwz
      simp only [Nat.zero_add, List.nil_append] at ho2
      have ho3 : w7.ownsRow (w.heap.size + 2) 49 3 (.slice A7 (n + 1) c7) (n + 1) (hcells (hs ++ [⟨z, none, 0, 0, none, 0, 0⟩])) := by
        rw [hcells_append]
        exact own_base ho2 (by have := R15.out.lt; omega)
      have HB7 := hide (HB5.out.grown HG7.out hbs.out (fun k hk => by cases hk))
      have R07 := hide (R05.out.grown HG7.out (fun e => by cases e))
      have R17 := hide (R15.out.grown HG7.out (fun e => by cases e))
      have R0s := R07.out.set_ 0 (.slice A7 (n + 1) c7)
      have R1s := R17.out.far (p := ⟨w.heap.size, 0, none⟩) (by simp) (.slice A7 (n + 1) c7)
      have t0 := R0s.cell (k := 0) rfl
      have t1 := R1s.cell (k := 0) rfl
      have t2 := R1s.free 0
      have f0 := (R1s.set_ 0 (.slice A7 (n + 1) c7)).cell (k := 0) rfl
      have FIN := hide (ln_func H.out hlo (HB7.out.setCell (p := ⟨w.heap.size, 0, none⟩) (Nat.le_refl _) (.slice A7 (n + 1) c7)) (L := 0) (own_ufar ho3 (p := ⟨w.heap.size, 0, none⟩) (by simp) (.slice A7 (n + 1) c7)) (by omega) HR.out)
      clear ho1 hg1 hG1 ho2 hg2 hA7 hc7 hf7 ho3 R0s R1s p0 p1
      go_wp2_with fail
      exact bodyPost_ret (v := .tuple #[gv A7 (n + 1) c7, .int .i64 0]) (by simp [results, Tryz.results26, go_sem, f0]) rfl FIN.out
  · have HR := hide (show funcU F r = (numsE mkN r, F) by unfold funcU; rw [if_neg hE])
    obtain ⟨x, hx⟩ : ∃ x, numsE mkN r = x := ⟨_, rfl⟩
    rw [hx] at hE HR ⊢
    have hb : (x == 0) = false := by rw [beq_eq_false_iff_ne]; exact hE
    have t0 := R05.out.cell (k := 0) rfl
    have t1 := R15.out.cell (k := 0) rfl
    have t2 := R15.out.free 0
    have f0 := (R15.out.set_ 0 (.slice A n c)).cell (k := 0) rfl
    have FIN := hide (ln_same H.out HB5.out HR.out)
    clear hE hx
    go_wp2_with fail
    exact bodyPost_ret (v := .tuple #[gv A n c, .int .i64 x]) (by simp [results, Tryz.results26, go_sem, f0]) rfl FIN.out
end Go.Proofs.YtlhaendgdeflkaaGreatDoor
end
