import Derived.Test.YtgcjckbndkddmaaDoorMQparse
import Derived.Test.YtgcjckbndkddmaaDoorMGi
set_option linter.unusedVariables false
set_option linter.unusedSimpArgs false
section
/-
  The reference's Parse and Functions: what they give for any bytes. Conditions: those of the types.
-/
namespace Go.Proofs.YtgcjckbndkddmaaDoor
open Go.RowKit

/-- What Parse gives: the program and the error. -/
def PrPost (F : Pg) (x : Int) (w : World) (e : Ending) (w' : World) : Prop :=
  ∃ (A : Option Addr) (n c : Nat) (hs : List Hd), e = .returned (.tuple #[gv A n c, .int .i64 x]) ∧ PgAt w' w.heap.size w'.heap.size A n c hs F ∧ Below w.heap.size w w'
/-- What Functions gives: the descriptions and the error. -/
def FsPost (zs : List Int) (w : World) (e : Ending) (w' : World) : Prop :=
  ∃ (A : Option Addr) (n c : Nat) (rs : List Sl), e = .returned (.tuple #[.slice A n c, .int .i64 (parseR zs).1]) ∧ DsL w' w.heap.size w'.heap.size A n c rs (parseD zs) ∧ Below w.heap.size w w'

set_option maxRecDepth 100000 in
set_option maxHeartbeats 1600000 in
theorem rparse_any (A : Option Addr) (n c : Nat) (zs : List Int) (w : World) (hn : Hid (zs.length = n)) (hnc : n ≤ c) (hcm : c ≤ 9223372036854775807) (hs : Hid (Sees w w.heap.size A (cellsU8 zs))) (hz : Hid (Byt zs)) :
    Calls Tryd.prog 18 #[.slice A n c] w (PrPost (parseF zs) (parseR zs).1 w) := by
  obtain ⟨W, hW⟩ : ∃ W, w.alloc (.cells #[.slice none 0 0] 28) = W := ⟨_, rfl⟩
  have HW := hide hW
  have hsW := hide (show Sees W W.heap.size A (cellsU8 zs) by rw [← hW]; exact (hs.out.alloc (Nat.le_refl _) _).more (by simp))
  have hrW := hide (show Row W w.heap.size 28 [.slice none 0 0] by rw [← hW]; exact Row.new w _ _)
  have hbW := hide (show Below w.heap.size w W by rw [← hW]; exact below1 w _)
  have hWs : W.heap.size = w.heap.size + 1 := by rw [← hW]; simp
  clear hW
  go_enter Tryd.func18, Tryd.ntmps18
  go_wp2_with fail
  rw [HW.out]
  refine (parse_any A n c zs W hn hnc hcm hsW hz).mono ?_
  rintro e w1 ⟨A1, n1, c1, hs1, A2, n2, c2, rs, rfl, hp, -, hb⟩
  obtain ⟨gq, hgq⟩ : ∃ gq, w1.heap.size = gq := ⟨_, rfl⟩
  obtain ⟨w2, hw2⟩ : ∃ w2, w1.alloc (.cells #[.slice A1 n1 c1] 28) = w2 := ⟨_, rfl⟩
  have HW2 := hide hw2
  have HGQ := hide hgq
  have h1 := hb.size
  have q0 : w2.cell? ⟨gq, 0, none⟩ = some (.slice A1 n1 c1) := by rw [← hw2, ← hgq]; exact (Row.new w1 28 [.slice A1 n1 c1]).cell (k := 0) rfl
  have hr2 := hide (show Row w2 w.heap.size 28 [.slice none 0 0] by rw [← hw2]; exact (hrW.out.below hb (by omega)).alloc _)
  have z0 := hr2.out.cell (k := 0) rfl
  have y0 := hr2.out.free 0
  have hb2 := hide (show Below w.heap.size w w2 by rw [← hw2]; exact ((hbW.out.trans (hb.mono (by omega))).alloc (by omega) _))
  have hp2 := hide (show PgAt w2 W.heap.size w2.heap.size A1 n1 c1 hs1 (parseF zs) by rw [← hw2]; exact hp.alloc _)
  have hl := hr2.out.lt
  clear hp hb hw2 hgq h1
  go_upto_region 2 with (fail)
  rw [HW2.out, HGQ.out]
  have f0 : (w2.setCell ⟨w.heap.size, 0, none⟩ (.slice A1 n1 c1)).cell? ⟨w.heap.size, 0, none⟩ = some (.slice A1 n1 c1) := World.cell?_setCell_same _ _ _ z0
  have FIN : PrPost (parseF zs) (parseR zs).1 w (.returned (.tuple #[gv A1 n1 c1, .int .i64 (parseR zs).1])) (w2.setCell ⟨w.heap.size, 0, none⟩ (.slice A1 n1 c1)) := by
    refine ⟨A1, n1, c1, hs1, rfl, ?_, below_put hb2.out (by omega) (Nat.le_refl _) 0 _⟩
    rw [show (w2.setCell ⟨w.heap.size, 0, none⟩ (.slice A1 n1 c1)).heap.size = w2.heap.size by simp [World.setCell]]
    exact (hp2.out.keep fun p h1 _ => World.cell?_setCell_other _ _ _ _ (fun e => by have := congrArg Addr.block e; simp at this; omega)).more (Nat.le_refl _) (by omega)
  have HF := hide FIN
  clear FIN
  go_wp2_with fail
  exact bodyPost_ret (v := .tuple #[gv A1 n1 c1, .int .i64 (parseR zs).1]) (by simp [results, Tryd.results18, go_sem, f0]) rfl HF.out

set_option maxRecDepth 100000 in
set_option maxHeartbeats 1600000 in
theorem rfuncs_any (A : Option Addr) (n c : Nat) (zs : List Int) (w : World) (hn : Hid (zs.length = n)) (hnc : n ≤ c) (hcm : c ≤ 9223372036854775807) (hs : Hid (Sees w w.heap.size A (cellsU8 zs))) (hz : Hid (Byt zs)) :
    Calls Tryd.prog 23 #[.slice A n c] w (FsPost zs w) := by
  go_enter Tryd.func23, Tryd.ntmps23
  go_wp2_with fail
  refine (parse_any A n c zs _ hn hnc hcm hs hz).mono ?_
  rintro e w1 ⟨A1, n1, c1, hs1, A2, n2, c2, rs, rfl, -, hd, hb⟩
  have HD := hide hd
  have HB := hide hb
  clear hd hb
  go_wp2
  go_ret2
  refine ⟨A2, n2, c2, rs, rfl, ?_, HB.out.alloc HB.out.size _⟩
  have H := HD.out
  have hk : ∀ p : Addr, w.heap.size ≤ p.block → p.block < w1.heap.size → (w1.alloc (.cells #[.slice A1 n1 c1] 28)).cell? p = w1.cell? p := fun p _ hp => World.cell?_alloc_lt w1 _ p hp
  exact ⟨H.len, H.rlen, H.cap, H.far, (H.see.keepF H.far hk).more (by simp), fun k r d e1 e2 => ((H.at_ k r d e1 e2).keep hk).more (by simp) (Nat.le_refl _)⟩
end Go.Proofs.YtgcjckbndkddmaaDoor
end

section
/-
  The reference's Decode: what it gives for any bytes. Conditions: those of the types.
-/
namespace Go.Proofs.YtgcjckbndkddmaaDoor
open Go.RowKit

set_option maxRecDepth 100000 in
set_option maxHeartbeats 1600000 in
theorem rdecode_any (A : Option Addr) (n c : Nat) (zs : List Int) (w : World) (hn : Hid (zs.length = n)) (hnc : n ≤ c) (hcm : c ≤ 9223372036854775807) (hs : Hid (Sees w w.heap.size A (cellsU8 zs))) (hz : Hid (Byt zs)) :
    Calls Tryd.prog 20 #[.slice A n c] w (PrPost (decF zs) (decE zs) w) := by
  obtain ⟨W, hW⟩ : ∃ W, w.alloc (.cells #[.slice none 0 0] 28) = W := ⟨_, rfl⟩
  have HW := hide hW
  have hsW := hide (show Sees W W.heap.size A (cellsU8 zs) by rw [← hW]; exact (hs.out.alloc (Nat.le_refl _) _).more (by simp))
  have hrW := hide (show Row W w.heap.size 28 [.slice none 0 0] by rw [← hW]; exact Row.new w _ _)
  have hbW := hide (show Below w.heap.size w W by rw [← hW]; exact below1 w _)
  have hWs : W.heap.size = w.heap.size + 1 := by rw [← hW]; simp
  clear hW
  have ED := hide (show decE zs = if (parseR zs).1 = 0 then pgE (parseF zs) else (parseR zs).1 from rfl)
  have EF := hide (show decF zs = if decE zs = 0 then parseF zs else [] from rfl)
  go_enter Tryd.func20, Tryd.ntmps20
  go_wp2_with fail
  rw [HW.out]
  refine (rparse_any A n c zs W hn hnc hcm hsW hz).mono ?_
  rintro e w1 ⟨A1, n1, c1, hs1, rfl, hp, hb⟩
  obtain ⟨gq, hgq⟩ : ∃ gq, w1.heap.size = gq := ⟨_, rfl⟩
  obtain ⟨w2, hw2⟩ : ∃ w2, w1.alloc (.cells #[.slice A1 n1 c1] 28) = w2 := ⟨_, rfl⟩
  have HW2 := hide hw2
  have HGQ := hide hgq
  have h1 := hb.size
  have rq2 := hide (show Row w2 gq 28 [.slice A1 n1 c1] by rw [← hw2, ← hgq]; exact Row.new w1 28 [.slice A1 n1 c1])
  have q0 := rq2.out.cell (k := 0) rfl
  have hr2 := hide (show Row w2 w.heap.size 28 [.slice none 0 0] by rw [← hw2]; exact (hrW.out.below hb (by omega)).alloc _)
  have hb2 := hide (show Below w.heap.size w w2 by rw [← hw2]; exact ((hbW.out.trans (hb.mono (by omega))).alloc (by omega) _))
  have hp2 := hide (show PgAt w2 W.heap.size w2.heap.size A1 n1 c1 hs1 (parseF zs) by rw [← hw2]; exact hp.alloc _)
  have hl := hr2.out.lt
  have cc := rcheck_any w2 W.heap.size A1 n1 c1 hs1 (parseF zs) hp2
  clear hp hb hw2 hgq h1
  by_cases hpe : (parseR zs).1 = 0
  · rw [if_pos hpe] at ED
    rw [hpe]
    clear hpe
    go_upto_region 2 with (fail)
    rw [HW2.out, HGQ.out]
    clear HW2 HGQ
    by_cases hce : pgE (parseF zs) = 0
    · rw [hce] at cc
      have E := hide (show decE zs = 0 by rw [ED.out, hce])
      have E2 := hide (show decF zs = parseF zs by rw [EF.out, if_pos E.out])
      clear hce
      go_wp2_with fail
      refine cc.mono ?_
      rintro e w3 ⟨rfl, hb3⟩
      have q3 := (rq2.out.call hb3).cell (k := 0) rfl
      have hr3 := hide (hr2.out.call hb3)
      have z0 := hr3.out.cell (k := 0) rfl
      have y0 := hr3.out.free 0
      have HB3 := hide (hb2.out.trans (hb3.mono hb2.out.size))
      have HP3 := hide (hp2.out.call hb3)
      have hl3 := hr3.out.lt
      have f0 : (w3.setCell ⟨w.heap.size, 0, none⟩ (.slice A1 n1 c1)).cell? ⟨w.heap.size, 0, none⟩ = some (.slice A1 n1 c1) := World.cell?_setCell_same _ _ _ z0
      have FIN : PrPost (decF zs) (decE zs) w (.returned (.tuple #[gv A1 n1 c1, .int .i64 0])) (w3.setCell ⟨w.heap.size, 0, none⟩ (.slice A1 n1 c1)) := by
        rw [E.out, E2.out]
        refine ⟨A1, n1, c1, hs1, rfl, ?_, below_put HB3.out (by omega) (Nat.le_refl _) 0 _⟩
        rw [show (w3.setCell ⟨w.heap.size, 0, none⟩ (.slice A1 n1 c1)).heap.size = w3.heap.size by simp [World.setCell]]
        exact (HP3.out.keep fun p h1 _ => World.cell?_setCell_other _ _ _ _ (fun e => by have := congrArg Addr.block e; simp at this; omega)).more (Nat.le_refl _) (by omega)
      have HF := hide FIN
      clear FIN hb3 q0
      go_wp2_with fail
      exact bodyPost_ret (v := .tuple #[gv A1 n1 c1, .int .i64 0]) (by simp [results, Tryd.results20, go_sem, f0]) rfl HF.out
    · have hcb : (pgE (parseF zs) == 0) = false := by rw [beq_eq_false_iff_ne]; exact hce
      have E2 := hide (show decF zs = [] by rw [EF.out, if_neg (by rw [ED.out]; exact hce)])
      obtain ⟨x, hx⟩ : ∃ x, pgE (parseF zs) = x := ⟨_, rfl⟩
      rw [hx] at cc hcb ED
      clear hx hce
      go_wp2_with fail
      refine cc.mono ?_
      rintro e w3 ⟨rfl, hb3⟩
      have hr3 := hide (hr2.out.call hb3)
      have z0 := hr3.out.cell (k := 0) rfl
      have y0 := hr3.out.free 0
      have HB3 := hide (hb2.out.trans (hb3.mono hb2.out.size))
      have hl3 := hr3.out.lt
      have f0 : (w3.setCell ⟨w.heap.size, 0, none⟩ (.slice none 0 0)).cell? ⟨w.heap.size, 0, none⟩ = some (.slice none 0 0) := World.cell?_setCell_same _ _ _ z0
      have FIN : PrPost (decF zs) (decE zs) w (.returned (.tuple #[gv none 0 0, .int .i64 x])) (w3.setCell ⟨w.heap.size, 0, none⟩ (.slice none 0 0)) := by
        rw [ED.out, E2.out]
        exact ⟨none, 0, 0, [], rfl, zero_pg _ _ _, below_put HB3.out (by omega) (Nat.le_refl _) 0 _⟩
      have HF := hide FIN
      clear FIN hb3 q0
      go_wp2_with fail
      exact bodyPost_ret (v := .tuple #[gv none 0 0, .int .i64 x]) (by simp [results, Tryd.results20, go_sem, f0]) rfl HF.out
  · have hpb : ((parseR zs).1 == 0) = false := by rw [beq_eq_false_iff_ne]; exact hpe
    have E2 := hide (show decF zs = [] by rw [EF.out, if_neg (by rw [ED.out, if_neg hpe]; exact hpe)])
    rw [if_neg hpe] at ED
    obtain ⟨x, hx⟩ : ∃ x, (parseR zs).1 = x := ⟨_, rfl⟩
    rw [hx] at hpb ED ⊢
    clear hx hpe cc
    go_upto_region 2 with (fail)
    rw [HW2.out, HGQ.out]
    clear HW2 HGQ
    have z0 := hr2.out.cell (k := 0) rfl
    have y0 := hr2.out.free 0
    have f0 : (w2.setCell ⟨w.heap.size, 0, none⟩ (.slice none 0 0)).cell? ⟨w.heap.size, 0, none⟩ = some (.slice none 0 0) := World.cell?_setCell_same _ _ _ z0
    have FIN : PrPost (decF zs) (decE zs) w (.returned (.tuple #[gv none 0 0, .int .i64 x])) (w2.setCell ⟨w.heap.size, 0, none⟩ (.slice none 0 0)) := by
      rw [ED.out, E2.out]
      exact ⟨none, 0, 0, [], rfl, zero_pg _ _ _, below_put hb2.out (by omega) (Nat.le_refl _) 0 _⟩
    have HF := hide FIN
    clear FIN q0
    go_wp2_with fail
    exact bodyPost_ret (v := .tuple #[gv none 0 0, .int .i64 x]) (by simp [results, Tryd.results20, go_sem, f0]) rfl HF.out
end Go.Proofs.YtgcjckbndkddmaaDoor
end
