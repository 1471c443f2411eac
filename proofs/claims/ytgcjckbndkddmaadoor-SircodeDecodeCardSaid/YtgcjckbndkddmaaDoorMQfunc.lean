import Derived.Test.YtgcjckbndkddmaaDoorMGf
import Derived.Test.YtgcjckbndkddmaaDoorMGc
import Derived.RegionTactic
import Derived.Deep.RegionLaw
set_option linter.unusedVariables false
set_option linter.unusedSimpArgs false
section
/-
  The reference's reader: function. Conditions: from 1 to 2^20 bytes.
-/
namespace Go.Proofs.YtgcjckbndkddmaaDoor
open Go.RowKit

theorem Tryd.info62q : (Tryd.prog.info? 62).map (fun i => (i.zero, i.size, i.bytes)) = some (some (.agg #[.int .i64 0, .int .i64 0]), 2, 16) := by kernel_rfl
theorem Tryd.info49q : (Tryd.prog.info? 49).map (fun i => (i.zero, i.size, i.bytes)) = some (some (.agg #[.int .i64 0, .int .i64 0, .int .i64 0, .int .i64 0, .int .u64 0]), 5, 40) := by kernel_rfl

theorem wrap_sum {k v : Nat} (h : k + v ≤ 1048576) : IntKind.i64.wrap ((k : Int) + (v : Int)) = (k : Int) + (v : Int) := by
  rw [IntKind.wrap_i64]; omega
/-- What the loops of a description keep: block gf holds the function as far as it was read; lo: the heap's size at the call. -/
structure FnI (w : World) (g gf : Nat) (b off n c : Nat) (zs : List Int) (en : Nat) (S : Rd Unit) (P : Int) (A1 : Option Addr) (n1 c1 : Nat) (A2 : Option Addr) (n2 c2 : Nat) (f : Fn) (wr : World) : Prop where
  kp : Kp w g b off n c zs en S wr
  row : Row wr gf 53 [.int .i64 P, .slice A1 n1 c1, .slice A2 n2 c2]
  res : Row wr w.heap.size 53 zFn
  hd : HdAt wr (gf + 1) wr.heap.size ⟨P, A1, n1, c1, A2, n2, c2⟩ f

section
variable {w wr w' w6 : World} {g gf b off n c en : Nat} {zs : List Int} {S T : Rd Unit} {P P' : Int} {A1 A2 A : Option Addr} {n1 c1 n2 c2 m k : Nat} {f : Fn} {L : List (Int × Int)} {C : List Ins}
/-- After a call that reads on. -/
theorem FnI.to (F : FnI w g gf b off n c zs en S P A1 n1 c1 A2 n2 c2 f wr) (hgf : w.heap.size < gf) (hg : g < w.heap.size) (hr : RdSt w' g b off n c zs en T) (hG : wr.grownBy w' (some g)) : FnI w g gf b off n c zs en T P A1 n1 c1 A2 n2 c2 f w' :=
  ⟨F.kp.to hr hG, F.row.grown hG (fun e => by injection e with e; omega), F.res.grown hG (fun e => by injection e with e; omega), (F.hd.grown hG (by omega) (Nat.le_refl _)).more hG.size (Nat.le_refl _)⟩
theorem FnI.alloc (F : FnI w g gf b off n c zs en S P A1 n1 c1 A2 n2 c2 f wr) (o : Obj) : FnI w g gf b off n c zs en S P A1 n1 c1 A2 n2 c2 f (wr.alloc o) :=
  ⟨F.kp.alloc o, F.row.alloc o, F.res.alloc o, (F.hd.keep (fun p _ hp => World.cell?_alloc_lt wr o p hp)).more (by simp) (Nat.le_refl _)⟩
theorem FnI.drewN (F : FnI w g gf b off n c zs en S P A1 n1 c1 A2 n2 c2 f wr) (q : Nat) : FnI w g gf b off n c zs en S P A1 n1 c1 A2 n2 c2 f (wr.drewN q) :=
  ⟨F.kp.drewN q, F.row.drewN q, F.res.drewN q, F.hd.keep (fun _ _ _ => rfl)⟩
theorem FnI.kept (F : FnI w g gf b off n c zs en S P A1 n1 c1 A2 n2 c2 f wr) (hg : g < w.heap.size) (hG : wr.grownBy w' none) : FnI w g gf b off n c zs en S P A1 n1 c1 A2 n2 c2 f w' :=
  ⟨⟨F.kp.r.kept hG (fun k e => by cases e), F.kp.g.andThen hG (fun k e => by cases e)⟩, F.row.grown hG (fun e => by cases e), F.res.grown hG (fun e => by cases e), (F.hd.keep (fun p _ hp => World.cell?_of_block (hG.block p.block hp (fun e => by cases e)))).more hG.size (Nat.le_refl _)⟩
/-- One slot more. -/
theorem FnI.slot {x y : Int} (F : FnI w g gf b off n c zs en S P A1 n1 c1 A2 n2 c2 ⟨P', L, C⟩ wr) (hgf : w.heap.size < gf) (hg : g < w.heap.size) (hG : wr.grownBy w6 none) (ho : w6.ownsRow wr.heap.size 62 2 (.slice A m k) m (pcells L ++ [.int .i64 x, .int .i64 y])) (hm : m = L.length + 1) (hm2 : m ≤ 100000) :
    FnI w g gf b off n c zs en S P A m k A2 n2 c2 ⟨P', L ++ [(x, y)], C⟩ (w6.setCell ⟨gf, 1, none⟩ (.slice A m k)) := by
  obtain ⟨A', k', e, hA, hmk, hfar, hsee⟩ := own_seen ho
  injection e with e1 _ e3
  subst e1 e3
  have hgl := F.row.lt
  have H := F.hd
  have k6 : ∀ p : Addr, gf + 1 ≤ p.block → p.block < wr.heap.size → (w6.setCell ⟨gf, 1, none⟩ (.slice A m k)).cell? p = wr.cell? p := fun p h1 h2 => by
    rw [World.cell?_setCell_other _ _ _ _ (fun e => by have := congrArg Addr.block e; simp at this; omega)]
    exact World.cell?_of_block (hG.block p.block h2 (fun e => by cases e))
  have hz : (w6.setCell ⟨gf, 1, none⟩ (.slice A m k)).heap.size = w6.heap.size := by simp [World.setCell]
  refine ⟨Kp.set ⟨F.kp.r.kept hG (fun k e => by cases e), F.kp.g.andThen hG (fun k e => by cases e)⟩ (by omega) hg 1 _, (F.row.grown hG (fun e => by cases e)).set_ 1 _, (F.res.grown hG (fun e => by cases e)).far (by simp; omega) _, ?_⟩
  rw [hz]
  refine ⟨H.p, by simp [hm], H.l2, ⟨hA, hmk, show m ≤ 8796093022208 by omega⟩, H.k2, hfar.more (by omega), H.f2, ?_, (H.s2.keepF H.f2 k6).more hG.size⟩
  rw [pcells_append, pcells_one]
  exact hsee.keepF hfar (fun p h1 _ => World.cell?_setCell_other _ _ _ _ (fun e => by subst e; simp at h1; omega))
/-- One instruction more. -/
theorem FnI.ins {x : Ins} (F : FnI w g gf b off n c zs en S P A1 n1 c1 A2 n2 c2 ⟨P', L, C⟩ wr) (hgf : w.heap.size < gf) (hg : g < w.heap.size) (hG : wr.grownBy w6 none) (ho : w6.ownsRow wr.heap.size 49 5 (.slice A m k) m (icells C ++ icell x)) (hm : m = C.length + 1) (hm2 : m ≤ 100000) :
    FnI w g gf b off n c zs en S P A1 n1 c1 A m k ⟨P', L, C ++ [x]⟩ (w6.setCell ⟨gf, 2, none⟩ (.slice A m k)) := by
  obtain ⟨A', k', e, hA, hmk, hfar, hsee⟩ := own_seen ho
  injection e with e1 _ e3
  subst e1 e3
  have hgl := F.row.lt
  have H := F.hd
  have k6 : ∀ p : Addr, gf + 1 ≤ p.block → p.block < wr.heap.size → (w6.setCell ⟨gf, 2, none⟩ (.slice A m k)).cell? p = wr.cell? p := fun p h1 h2 => by
    rw [World.cell?_setCell_other _ _ _ _ (fun e => by have := congrArg Addr.block e; simp at this; omega)]
    exact World.cell?_of_block (hG.block p.block h2 (fun e => by cases e))
  have hz : (w6.setCell ⟨gf, 2, none⟩ (.slice A m k)).heap.size = w6.heap.size := by simp [World.setCell]
  refine ⟨Kp.set ⟨F.kp.r.kept hG (fun k e => by cases e), F.kp.g.andThen hG (fun k e => by cases e)⟩ (by omega) hg 2 _, (F.row.grown hG (fun e => by cases e)).set_ 2 _, (F.res.grown hG (fun e => by cases e)).far (by simp; omega) _, ?_⟩
  rw [hz]
  refine ⟨H.p, H.l1, by simp [hm], H.k1, ⟨hA, hmk, show m ≤ 8796093022208 by omega⟩, H.f1, hfar.more (by omega), (H.s1.keepF H.f1 k6).more hG.size, ?_⟩
  rw [icells_append, show icells [x] = icell x from by simp [icells]]
  exact hsee.keepF hfar (fun p h1 _ => World.cell?_setCell_other _ _ _ _ (fun e => by subst e; simp at h1; omega))
/-- The end is set back. -/
theorem widen_no {en' : Nat} {x : Int} (h : RdSt wr g b off n c zs en' (.no x)) (he : en' ≤ en) : RdSt (wr.setCell ⟨g, 2, none⟩ (.int .i64 (en : Int))) g b off n c zs en (.no x) := by
  obtain ⟨k9, e9, r9, hk9, hst⟩ := h
  exact ⟨k9, e9, r9.set_en en, by omega, hst⟩
theorem widen_ok {v : Nat} {r : List Int} (h : RdSt wr g b off n c zs (k + v) (.ok () [])) (hl : zs.length = n) (hkn : k + v ≤ n) (he : k + v ≤ en) (hs : (zs.take en).drop k = r) : RdSt (wr.setCell ⟨g, 2, none⟩ (.int .i64 (en : Int))) g b off n c zs en (.ok () (r.drop v)) := by
  obtain ⟨k9, e9, r9, hk9, rfl, hs9⟩ := h
  have h9 := rest_len hs9 hl hkn
  simp at h9
  obtain rfl : k9 = k + v := by omega
  exact ⟨k + v, 0, r9.set_en en, by omega, rfl, farther hs⟩
theorem FnI.widen {en' : Nat} (F : FnI w g gf b off n c zs en' S P A1 n1 c1 A2 n2 c2 f wr) (hgf : w.heap.size < gf) (hg : g < w.heap.size) (hR : RdSt (wr.setCell ⟨g, 2, none⟩ (.int .i64 (en : Int))) g b off n c zs en T) : FnI w g gf b off n c zs en T P A1 n1 c1 A2 n2 c2 f (wr.setCell ⟨g, 2, none⟩ (.int .i64 (en : Int))) :=
  ⟨⟨hR, grown_set F.kp.g 2 _⟩, F.row.far (by simp; omega) _, F.res.far (by simp; omega) _, by
    rw [show (wr.setCell ⟨g, 2, none⟩ (.int .i64 (en : Int))).heap.size = wr.heap.size by simp [World.setCell]]
    exact F.hd.keep (fun p h1 _ => World.cell?_setCell_other _ _ _ _ (fun e => by have := congrArg Addr.block e; simp at this; omega))⟩
theorem three_kept (w9 : World) (B : Nat) (u0 u1 u2 : Value) {p : Addr} (h : B < p.block) : (((w9.setCell ⟨B, 0, none⟩ u0).setCell ⟨B, 1, none⟩ u1).setCell ⟨B, 2, none⟩ u2).cell? p = w9.cell? p := by
  rw [World.cell?_setCell_other, World.cell?_setCell_other, World.cell?_setCell_other]
  all_goals exact fun e => by have := congrArg Addr.block e; simp at this; omega
theorem three_size (w9 : World) (B : Nat) (u0 u1 u2 : Value) : (((w9.setCell ⟨B, 0, none⟩ u0).setCell ⟨B, 1, none⟩ u1).setCell ⟨B, 2, none⟩ u2).heap.size = w9.heap.size := by simp [World.setCell]
/-- The end of a function's reading: its result laid down. -/
theorem func_end {P : Nat} {c3 v B : Nat} {A3 : Option Addr} {w9 : World} {ds : List Int} (F : FnI w g gf b off n c zs en T (P : Int) A1 n1 c1 A2 n2 c2 f w9) (hgf : w.heap.size < gf) (hg : g < w.heap.size) (hB : w.heap.size < B) (ho : w9.ownsRow B 5 1 (.slice A3 v c3) v (cellsU8 ds)) (hv : v ≤ 1048576) (hE : (S.to fnR).st = T) (hV : ∀ u r, S.to fnR = .ok u r → (f, ds) = u) :
    FuPost g b off n c zs en S w (.returned (.tuple #[fv (P : Int) A1 n1 c1 A2 n2 c2, .slice A3 v c3])) (((w9.setCell ⟨w.heap.size, 0, none⟩ (.int .i64 (P : Int))).setCell ⟨w.heap.size, 1, none⟩ (.slice A1 n1 c1)).setCell ⟨w.heap.size, 2, none⟩ (.slice A2 n2 c2)) := by
  have KF := ((F.kp.set (Nat.le_refl w.heap.size) hg 0 (.int .i64 (P : Int))).set (Nat.le_refl w.heap.size) hg 1 (.slice A1 n1 c1)).set (Nat.le_refl w.heap.size) hg 2 (.slice A2 n2 c2)
  obtain ⟨A', k', e, hA, hmk, hfar, hsee⟩ := own_seen ho
  injection e with e1 _ e3
  subst e1 e3
  refine ⟨(P : Int), A1, n1, c1, A2, n2, c2, A3, v, c3, f, ds, rfl, ?_, ?_, by rw [hE]; exact KF.r, KF.g, hV⟩
  · rw [three_size]
    exact (F.hd.keep (fun p h1 _ => three_kept _ _ _ _ _ (by omega))).more (Nat.le_refl _) (by omega)
  · rw [three_size]
    exact ⟨by have := own_len ho; simpa [cellsU8] using this, ⟨hA, hmk, by omega⟩, hfar.more (by omega), hsee.keepF hfar (fun p h1 _ => three_kept _ _ _ _ _ (by omega))⟩
end

/-- A count read, its value and the state behind it under letters. -/
theorem count_at {g b off n c en most : Nat} {zs : List Int} {S T : Rd Unit} {v : Nat} {w : World} (hz : Hid (Src n c zs)) (h : Hid (RdSt w g b off n c zs en S)) (hen : en ≤ n) (hmost : most ≤ 100000) (hT : Hid (T = (S.to (countR most)).st)) (hv : Hid (v = (S.to (countR most)).val 0)) :
    Calls Tryd.prog 66 #[.pointer (some ⟨g, 0, none⟩), .int .i64 (most : Int)] w (RPost g b off n c zs en T (.int .i64 (v : Int)) w) := by
  rw [hT.out, hv.out]
  exact count_any' g b off n c en most zs S w hz h hen hmost
theorem count_le {most : Nat} {S : Rd Unit} {w : World} {g b off n c en : Nat} {zs : List Int} (hz : Src n c zs) (h : RdSt w g b off n c zs en S) : (S.to (countR most)).val 0 ≤ most := by
  cases S with
  | no x => exact Nat.zero_le _
  | ok u l =>
    show (countR most l).val 0 ≤ _
    cases hm : countR most l with
    | no x => exact Nat.zero_le _
    | ok v r => exact (countR_ok (h.byt hz) hm).2

set_option maxRecDepth 100000 in
set_option maxHeartbeats 8000000 in
theorem func_main (g b off n c en : Nat) (zs : List Int) (l r : List Int) (v : Nat) (w : World) (hz : Hid (Src n c zs)) (h : Hid (RdSt w g b off n c zs en (.ok () l))) (hen : en ≤ n) (hm : Hid (numR l = .ok v r)) (hle : v ≤ r.length) (hec : en < c) :
    Calls Tryd.prog 67 #[.pointer (some ⟨g, 0, none⟩)] w (FuPost g b off n c zs en (.ok () l) w) := by
  obtain ⟨i0, hi, hz0, hz1, hz2⟩ := info_parts Tryd.info62q
  obtain ⟨j0, ji, jz0, jz1, jz2⟩ := info_parts Tryd.info49q
  obtain ⟨u0, ui, uz0, uz1, uz2⟩ := info_parts Tryd.info5
  have hg := h.out.lt
  have hne : w.heap.size ≠ g := by omega
  have hmost := hz.out.most
  obtain ⟨W, hW⟩ : ∃ W, w.alloc (.cells #[.int .i64 0, .slice none 0 0, .slice none 0 0] 53) = W := ⟨_, rfl⟩
  have HW := hide hW
  have K0 := hide (show Kp w g b off n c zs en (.ok () l) W by rw [← hW]; exact (Kp.start h.out).alloc _)
  have hrow := hide (show Row W w.heap.size 53 zFn by rw [← hW]; exact Row.new w _ _)
  have hWs : W.heap.size = w.heap.size + 1 := by rw [← hW]; simp
  clear hW
  go_enter Tryd.func67, Tryd.ntmps67
  go_wp2_with fail
  rw [HW.out]
  refine (number_ok (l := l) (r := r) (v := v) hz (hide K0.out.r) hm hen).mono ?_
  rintro e w1 ⟨rfl, hR1, hG1⟩
  have K1 := hide (K0.out.to hR1 hG1)
  have r1 := hide (hrow.out.grown hG1 (fun e => by injection e with e; omega))
  have hs1 : w.heap.size + 1 ≤ w1.heap.size := by have := hG1.size; omega
  clear hR1 hG1 K0 hrow
  obtain ⟨k, e, rr, hke, rfl, hs⟩ := K1.out.r
  have c0 := rr.row.cell (k := 0) rfl
  have c1 := rr.row.cell (k := 1) rfl
  have c2 := rr.row.cell (k := 2) rfl
  have c3 := rr.row.cell (k := 3) rfl
  have q2 := rr.row.free 2
  have hlen := rest_len hs hz.out.len hen
  have hgt : (v : Int) ≤ (en : Int) - (k : Int) := by omega
  have hkv : k + v ≤ en := by omega
  have KB := hide (fun q : Nat => (show Kp w g b off n c zs (k + v) (.ok () (r.take v)) ((w1.drewN q).setCell ⟨g, 2, none⟩ (.int .i64 ((k : Int) + (v : Int)))) from by
    have r2 := RdAt.set_en (w := w1.drewN q) (e := 0) (k := k) ⟨rr.row.drewN q, rr.see.draws q⟩ (k + v)
    rw [show (((k + v : Nat)) : Int) = (k : Int) + (v : Int) by omega] at r2
    exact ⟨⟨k, 0, r2, by omega, rfl, nearer hs hkv⟩, grown_set (K1.out.drewN q).g 2 _⟩))
  have RB := hide (fun q : Nat => (show Row ((w1.drewN q).setCell ⟨g, 2, none⟩ (.int .i64 ((k : Int) + (v : Int)))) w.heap.size 53 zFn from (r1.out.drewN q).far (by simpa using hne) _))
  have HS := hide hs
  have HL := hide hlen
  clear hs hlen rr
  go_wp2_with fail
  go_quiet (fail)
  go_wp2_with fail
  go_quiet (fail)
  obtain ⟨P, hP⟩ : ∃ v', Hid (v' = vlN true numR (.ok () (r.take v))) := ⟨_, hide rfl⟩
  obtain ⟨S1, hS1⟩ : ∃ T, Hid (T = stN true numR (.ok () (r.take v))) := ⟨_, hide rfl⟩
  have hkn : k + v ≤ n := by omega
  go_wp2_with fail
  refine (num_at hz (hide (KB.out _).r) hkn hS1 hP).mono ?_
  rintro e w2 ⟨rfl, hR2, hG2⟩
  have K2 := hide ((KB.out _).to hR2 hG2)
  have r2 := hide ((RB.out _).grown hG2 (fun e => by injection e with e; omega))
  have hs2 : w.heap.size + 1 ≤ w2.heap.size := by have := hG2.size; simp [World.setCell] at this; omega
  clear hR2 hG2 KB RB c0 c1 c2 c3 q2 r1
  obtain ⟨gf, hgf⟩ : ∃ gf, gf = w2.heap.size := ⟨_, rfl⟩
  obtain ⟨wa, hwa⟩ : ∃ wa, w2.alloc (.cells #[.int .i64 (P : Int), .slice none 0 0, .slice none 0 0] 53) = wa := ⟨_, rfl⟩
  have HWA := hide hwa
  have F0 : Hid (FnI w g gf b off n c zs (k + v) S1 (P : Int) none 0 0 none 0 0 ⟨(P : Int), [], []⟩ wa) := by
    rw [hgf, ← hwa]
    exact hide ⟨K2.out.alloc _, Row.new w2 _ _, r2.out.alloc _, rfl, rfl, rfl, ⟨fun _ => rfl, Nat.le_refl _, Nat.zero_le _⟩, ⟨fun _ => rfl, Nat.le_refl _, Nat.zero_le _⟩, Far.none _, Far.none _, Sees.nil_ _ _ _, Sees.nil_ _ _ _⟩
  have hgfl : w.heap.size + 1 ≤ gf := by omega
  have HGF := hide hgf
  clear K2 r2 hwa
  obtain ⟨m1, hm1⟩ : ∃ v', Hid (v' = (S1.to (countR 512)).val 0) := ⟨_, hide rfl⟩
  obtain ⟨S2, hS2⟩ : ∃ T, Hid (T = (S1.to (countR 512)).st) := ⟨_, hide rfl⟩
  go_wp2_with fail
  rw [HWA.out, ← HGF.out]
  clear HWA HGF hgf
  have hm5 : m1 ≤ 512 := by rw [hm1.out]; exact count_le hz.out F0.out.kp.r
  refine (count_at (most := 512) hz (hide F0.out.kp.r) hkn (by omega) hS2 hm1).mono ?_
  rintro e w3 ⟨rfl, hR3, hG3⟩
  have F3 := hide (F0.out.to hgfl hg hR3 hG3)
  have hs3 : gf < w3.heap.size := F3.out.row.lt
  clear hR3 hG3 F0
  go_wp2_with fail
  go_loopw [8, 9] (fun kv _ wr => ∃ (k' : Nat) (S : Rd Unit) (A1 : Option Addr) (n1 c1 : Nat) (L : List (Int × Int)), kv = .int .i64 (k' : Int) ∧ k' + L.length ≤ m1 ∧ Hid (LoopI slR S2 m1 S k' L) ∧ Hid (FnI w g gf b off n c zs (k + v) S (P : Int) A1 n1 c1 none 0 0 ⟨(P : Int), L, []⟩ wr)) (fun kv _ _ => (intOf kv).toNat)
  case atStart => exact ⟨m1, S2, none, 0, 0, [], rfl, by simp, hide (LoopI.start slR S2 m1), F3⟩
  case round =>
    obtain ⟨k', SA, A1, n1, c1, L, rfl, hkl, hI, hF⟩ := hrel
    clear F3 hs3
    by_cases hlt : 0 < k'
    · obtain ⟨j, rfl⟩ : ∃ j, k' = j + 1 := ⟨k' - 1, by omega⟩
      have hlz : (0 : Int) < ((j + 1 : Nat) : Int) := by omega
      cases SA with
      | no xx =>
        have H3 := hide (fun β K => hI.out.broke β K)
        obtain ⟨k1, e, r1, hke1, he0, he1, he2⟩ := hF.out.kp.r
        have c3 := r1.row.cell (k := 3) rfl
        rw [he0] at c3
        have hb : (xx == 0) = false := by rw [beq_eq_false_iff_ne]; omega
        clear r1 he0

        clear hI
        obtain ⟨SA, hSA⟩ : ∃ SA : Rd Unit, SA = .no xx := ⟨_, rfl⟩
        rw [← hSA] at hF H3
        clear hSA
        obtain ⟨m2, hm2⟩ : ∃ v', Hid (v' = (SA.to (countR 1024)).val 0) := ⟨_, hide rfl⟩
        obtain ⟨S4, hS4⟩ : ∃ T, Hid (T = (SA.to (countR 1024)).st) := ⟨_, hide rfl⟩
        have hm6 : m2 ≤ 1024 := by rw [hm2.out]; exact count_le hz.out hF.out.kp.r
        go_wp2_with fail
        refine (count_at (most := 1024) hz (hide hF.out.kp.r) hkn (by omega) hS4 hm2).mono ?_
        rintro e w7 ⟨rfl, hR7, hG7⟩
        have F7 := hide (hF.out.to hgfl hg hR7 hG7)
        clear hR7 hG7 hF
        go_wp2_with fail
        go_loopw [10, 11] (fun kv _ wr => ∃ (k' : Nat) (S : Rd Unit) (A2 : Option Addr) (n2 c2 : Nat) (C : List Ins), kv = .int .i64 (k' : Int) ∧ k' + C.length ≤ m2 ∧ Hid (LoopI insR S4 m2 S k' C) ∧ Hid (FnI w g gf b off n c zs (k + v) S (P : Int) A1 n1 c1 A2 n2 c2 ⟨(P : Int), L, C⟩ wr)) (fun kv _ _ => (intOf kv).toNat)
        case atStart => exact ⟨m2, S4, none, 0, 0, [], rfl, by simp, hide (LoopI.start insR S4 m2), F7⟩
        case round =>
          obtain ⟨k', SB, A2, n2, c2, C, rfl, hkc, hI, hF⟩ := hrel
          clear F7
          by_cases hlt : 0 < k'
          · obtain ⟨j, rfl⟩ : ∃ j, k' = j + 1 := ⟨k' - 1, by omega⟩
            have hlz : (0 : Int) < ((j + 1 : Nat) : Int) := by omega
            cases SB with
            | no xx =>
              have H5 := hide (fun β K => hI.out.broke β K)
              obtain ⟨k1, e, r1, hke1, he0, he1, he2⟩ := hF.out.kp.r
              have c3 := r1.row.cell (k := 3) rfl
              rw [he0] at c3
              have hb : (xx == 0) = false := by rw [beq_eq_false_iff_ne]; omega
              clear r1 he0

              clear hI
              go_wp2_with fail
              have DS := hide (desc_steps (.ok () (r.take v)) S1 S2 SA S4 (.no xx) P m1 m2 L C hS1.out hP.out hS2.out hm1.out H3.out hS4.out hm2.out H5.out)
              have FR := hide (show ((Rd.ok () l : Rd Unit).to fnR) = (descR (r.take v)).and fun f _ => .ok (f, r.take v) (r.drop v) by show fnR l = _; unfold fnR; rw [hm.out, Rd.and_ok, if_neg (by omega)])
              go_quiet (fail)
              have DE := hide (show descR (r.take v) = .no xx from DS.out)
              have FE := hide (show ((Rd.ok () l : Rd Unit).to fnR) = .no xx by rw [FR.out, DE.out]; rfl)
              have FV := hide (show ∀ u r', (Rd.ok () l : Rd Unit).to fnR = .ok u r' → ((⟨(P : Int), L, C⟩ : Fn), r.take v) = u from fun u r' e => by rw [FE.out] at e; cases e)
              have HST := hide (show ((Rd.ok () l : Rd Unit).to fnR).st = (.no xx) by rw [FE.out]; rfl)
              obtain ⟨WX, hWX⟩ : ∃ WX, (wr.drewN nq).setCell ⟨g, 2, none⟩ (.int .i64 (en : Int)) = WX := ⟨_, rfl⟩
              have HWX := hide hWX
              have FX := hide (show FnI w g gf b off n c zs en (.no xx) (P : Int) A1 n1 c1 A2 n2 c2 ⟨(P : Int), L, C⟩ WX by rw [← hWX]; exact FnI.widen (hF.out.drewN nq) hgfl hg (widen_no (hF.out.drewN nq).kp.r hkv))
              obtain ⟨k9, e9, r9, hke9, hst9⟩ := hF.out.kp.r
              have d2 := r9.row.cell (k := 2) rfl
              have d3 := r9.row.free 2
              clear r9 hst9 hWX
              go_wp2_with fail
              rw [HWX.out]
              clear HWX d2 d3
              obtain ⟨k8, e8, r8, hke8, hst8⟩ := FX.out.kp.r
              have a0 := r8.row.cell (k := 0) rfl
              have HSE := hide r8.see
              have g0 := FX.out.row.cell (k := 0) rfl
              have g1 := FX.out.row.cell (k := 1) rfl
              have g2 := FX.out.row.cell (k := 2) rfl
              have z0 := FX.out.res.cell (k := 0) rfl
              have z1 := FX.out.res.cell (k := 1) rfl
              have z2 := FX.out.res.cell (k := 2) rfl
              have hlv := hide (show (cellsU8 (r.take v)).length = v * 1 by simp [cellsU8]; omega)
              have hss := hide (show Sees WX WX.heap.size (some ⟨b, off + k, none⟩) (cellsU8 (r.take v)) by
                have h1 := ((HSE.out.more (Nat.le_of_lt FX.out.kp.r.lt)).drop k).take v
                have e1 : (cellsU8 zs).drop k = cellsU8 (zs.drop k) := by simp [cellsU8]
                rw [e1, take_cells] at h1
                have e2 : (zs.drop k).take v = r.take v := by rw [← HS.out, List.drop_take, List.take_take, Nat.min_eq_left (by omega)]
                rw [e2] at h1
                simpa [WideShapes.add_plain] using h1)
              have hcn := hz.out.nc
              have hcm := hz.out.cm
              have hBX : w.heap.size < WX.heap.size := by have := FX.out.row.lt; omega
              have hkz1 : (k : Int) + (v : Int) ≤ (c : Int) := by omega
              have hkz2 : (k : Int) + (v : Int) ≤ (n : Int) := by omega
              have hw := wrap_sum (k := k) (v := v) (by omega)
              have hck : ¬ (c = k) := by omega
              have hp0 : (0 : Int) ≤ (k : Int) + (v : Int) := by omega
              have htn : ((k : Int) + (v : Int)).toNat = k + v := by omega
              clear r8 hst8
              go_region_law
                (refine wp_append_seesN (.const (.slice none 0 0)) (.tmp 135) 22 rfl WX.heap.size 5 u0 (.int .u8 0) 1 1 Tryd.underlying22 ui uz0 uz1 uz2 rfl (by decide) (.slice none 0 0) 0 [] rfl (World.ownsRow_nil _ _ _ _) WX.heap.size (some ⟨b, off + k, none⟩) v (c - k) (cellsU8 (r.take v)) rfl (hide (fun e => by cases e)) hlv (hide (hss.out.draws 1)) (hide (by omega)) (one_u8 _) (by unfold maxLen; omega) (by omega) (Nat.le_refl _) ?_; intro v3 w9 ho9 hg9; have HG9 : WX.grownBy w9 none := (grown_draws (World.grownBy.refl WX none) 1).trans hg9; have F9 := hide (FX.out.kept hg HG9); have p0 := F9.out.row.cell (k := 0) rfl; have p1 := F9.out.row.cell (k := 1) rfl; have p2 := F9.out.row.cell (k := 2) rfl; have q0 := F9.out.res.cell (k := 0) rfl; have q1 := F9.out.res.cell (k := 1) rfl; have q2 := F9.out.res.cell (k := 2) rfl; have y0 := F9.out.res.free 0; have y1 := F9.out.res.free 1; have y2 := F9.out.res.free 2; obtain ⟨A3, c3', rfl, hA3, hc3, hf3, -⟩ := own_seen ho9)
              all_goals
                simp only [Nat.zero_add, List.nil_append] at ho9
                have hf := ((F9.out.res.set_ 0 (.int .i64 (P : Int))).set_ 1 (.slice A1 n1 c1)).set_ 2 (.slice A2 n2 c2)
                have f0 := hf.cell (k := 0) rfl
                have f1 := hf.cell (k := 1) rfl
                have f2 := hf.cell (k := 2) rfl
                have FIN := hide (func_end (S := .ok () l) F9.out hgfl hg hBX ho9 (by omega) HST.out FV.out)
                clear ho9 hg9 HG9 hA3 hc3 hf3
                go_wp2_with fail
                exact bodyPost_ret (v := .tuple #[fv (P : Int) A1 n1 c1 A2 n2 c2, .slice A3 v c3']) (by simp [results, Tryd.results67, go_sem, f0, f1, f2]) rfl FIN.out

            | ok u t =>
              obtain ⟨k1, e, r1, hke1, rfl, hs1⟩ := hF.out.kp.r
              have c3 := r1.row.cell (k := 3) rfl
              clear r1 hs1
              go_wp2_with fail
              refine (instr_any g b off n c (k + v) zs (.ok () t) _ hz (hide hF.out.kp.r) hkn).mono ?_
              rintro e w4 ⟨o, x, y, z, im, rfl, hR4, hG4, hxy⟩
              have F4 := hide (hF.out.to hgfl hg hR4 hG4)
              have N4 := hide (hI.out.step (a := (⟨o, x, y, z, im⟩ : Ins)) hxy)
              obtain ⟨gs, hgs⟩ : ∃ gs, gs = w4.heap.size := ⟨_, rfl⟩
              obtain ⟨wb, hwb⟩ : ∃ wb, w4.alloc (.cells #[.int .i64 o, .int .i64 x, .int .i64 y, .int .i64 z, .int .u64 im] 49) = wb := ⟨_, rfl⟩
              have HWB := hide hwb
              have HF4 := hide (show FnI w g gf b off n c zs (k + v) _ (P : Int) A1 n1 c1 A2 n2 c2 ⟨(P : Int), L, C⟩ wb by rw [← hwb]; exact F4.out.alloc _)
              have HS4 := hide (show Row wb gs 49 [.int .i64 o, .int .i64 x, .int .i64 y, .int .i64 z, .int .u64 im] by rw [hgs, ← hwb]; exact Row.new _ _ _)
              have HGS := hide hgs
              clear hR4 hG4 hxy c3 hF hI hwb hgs F4
              go_wp2_with fail
              rw [HWB.out, ← HGS.out]
              clear HWB HGS
              have l1 := HF4.out.hd.l2
              have hn1 : n2 ≤ 1024 := by simp at l1; omega
              have HLL := hide (show n2 + 1 = C.length + 1 by simp at l1; omega)
              have HCA := hide HF4.out.hd.k2.1
              have HCL := hide (show (icells C).length = n2 * 5 by rw [icells_length]; simp at l1; omega)
              have HCS := hide HF4.out.hd.s2
              have HCC := hide HF4.out.hd.k2.2.1
              have a0 := HF4.out.row.cell (k := 2) rfl
              have a1 : ∀ o : Obj, (wb.alloc o).cell? ⟨gf, 2, none⟩ = some (.slice A2 n2 c2) := fun o => (HF4.out.row.alloc o).cell (k := 2) rfl
              have s0 := HS4.out.cell (k := 0) rfl
              have s1 := HS4.out.cell (k := 1) rfl
              have s2 := HS4.out.cell (k := 2) rfl
              have s3 := HS4.out.cell (k := 3) rfl
              have s4 := HS4.out.cell (k := 4) rfl
              have hsl := HS4.out.lt
              clear l1
              go_region_law
                (first
                  | (refine wp_append_seesN (.const (.slice none 0 0)) (.tmp 98) 50 rfl wb.heap.size 49 j0 (.agg #[.int .i64 0, .int .i64 0, .int .i64 0, .int .i64 0, .int .u64 0]) 5 40 Tryd.underlying50 ji jz0 jz1 jz2 rfl (by decide) (.slice none 0 0) 0 [] rfl (World.ownsRow_nil _ _ _ _) wb.heap.size A2 n2 c2 (icells C) rfl HCA HCL (hide (HCS.out.draws 1)) HCC (icells_oneCell _) (by unfold maxLen; omega) (by omega) (Nat.le_refl _) ?_; intro v1 w5 ho1 hg1; have hG1 : wb.grownBy w5 none := (grown_draws (World.grownBy.refl wb none) 1).trans hg1; have s20 := (HS4.out.grown hG1 (fun e => by cases e)).cell (k := 0) rfl; have s21 := (HS4.out.grown hG1 (fun e => by cases e)).cell (k := 1) rfl; have s22 := (HS4.out.grown hG1 (fun e => by cases e)).cell (k := 2) rfl; have s23 := (HS4.out.grown hG1 (fun e => by cases e)).cell (k := 3) rfl; have s24 := (HS4.out.grown hG1 (fun e => by cases e)).cell (k := 4) rfl)
                  | (refine wp_append_seesN (.const (.slice none 0 0)) (.tmp 98) 50 rfl wb.heap.size 49 j0 (.agg #[.int .i64 0, .int .i64 0, .int .i64 0, .int .i64 0, .int .u64 0]) 5 40 Tryd.underlying50 ji jz0 jz1 jz2 rfl (by decide) (.slice none 0 0) 0 [] rfl (World.ownsRow_nil _ _ _ _) wb.heap.size A2 n2 c2 (icells C) rfl HCA HCL (hide ((HCS.out.draws 1).alloc (Nat.le_refl _) _)) HCC (icells_oneCell _) (by unfold maxLen; omega) (by omega) (by simp) ?_; intro v1 w5 ho1 hg1; have hG1 : wb.grownBy w5 none := ((grown_draws (World.grownBy.refl wb none) 1).trans (World.grownBy_alloc _ _ _)).trans hg1; have hN1 := ((Row.new (wb.drewN 1) 49 [.int .i64 o, .int .i64 x, .int .i64 y, .int .i64 z, .int .u64 im]).at_ (g' := wb.heap.size) rfl).grown hg1 (fun e => by cases e))
                  | (refine wp_append_own _ (.tmp 99) (.tmp 101) 50 rfl wb.heap.size 49 j0 (.agg #[.int .i64 0, .int .i64 0, .int .i64 0, .int .i64 0, .int .u64 0]) 5 40 Tryd.underlying50 ji jz0 jz1 jz2 rfl (by decide) v1 (0 + n2) ([] ++ icells C) rfl (ho1.alloc _) ⟨w5.heap.size, 0, none⟩ 1 1 [.int .i64 o, .int .i64 x, .int .i64 y, .int .i64 z, .int .u64 im] rfl rfl (fun j u hu => by rw [WideShapes.add_plain, Nat.zero_add]; exact (Row.new w5 49 [.int .i64 o, .int .i64 x, .int .i64 y, .int .i64 z, .int .u64 im]).cell hu) (icells_oneCell [⟨o, x, y, z, im⟩]) (by unfold maxLen; omega) (by omega) (by have := hG1.size; simp; omega) ?_; intro v2 w6 ho2 hg2 _; have HG6 : Hid (wb.grownBy w6 none) := hide ((hG1.trans (World.grownBy_alloc _ _ _)).andThen hg2 (fun k hk => .inl (ho1.lt k hk).1)); obtain ⟨A6, c6, rfl, hA6, hc6, hf6, -⟩ := own_seen ho2; have b0 := (HF4.out.kept hg HG6.out).row.cell (k := 2) rfl; have b1 := (HF4.out.kept hg HG6.out).row.free 2)
                  | (refine wp_append_own _ (.tmp 99) (.tmp 101) 50 rfl wb.heap.size 49 j0 (.agg #[.int .i64 0, .int .i64 0, .int .i64 0, .int .i64 0, .int .u64 0]) 5 40 Tryd.underlying50 ji jz0 jz1 jz2 rfl (by decide) v1 (0 + n2) ([] ++ icells C) rfl ho1 ⟨wb.heap.size, 0, none⟩ 1 1 [.int .i64 o, .int .i64 x, .int .i64 y, .int .i64 z, .int .u64 im] rfl rfl (fun j u hu => by rw [WideShapes.add_plain, Nat.zero_add]; exact hN1.cell hu) (icells_oneCell [⟨o, x, y, z, im⟩]) (by unfold maxLen; omega) (by omega) hG1.size ?_; intro v2 w6 ho2 hg2 _; have HG6 : Hid (wb.grownBy w6 none) := hide (hG1.andThen hg2 (fun k hk => .inl (ho1.lt k hk).1)); obtain ⟨A6, c6, rfl, hA6, hc6, hf6, -⟩ := own_seen ho2; have b0 := (HF4.out.kept hg HG6.out).row.cell (k := 2) rfl; have b1 := (HF4.out.kept hg HG6.out).row.free 2))
              all_goals
                simp only [Nat.zero_add] at ho2
                have HN := hide (FnI.ins (x := ⟨o, x, y, z, im⟩) HF4.out hgfl hg HG6.out ho2 HLL.out (by omega))
                clear ho2 hg2 ho1 hg1 hG1 hA6 hc6 hf6 HF4 HS4 HG6 HCA HCL HCS HCC a0 a1 s0 s1 s2 s3 s4
                go_wp2_with fail
                go_roundw
                case rel => exact ⟨j, _, A6, n2 + 1, c6, C ++ [⟨o, x, y, z, im⟩], by go_num, by simp; omega, N4, HN⟩
                case measure => simp [intOf]

          · obtain rfl : k' = 0 := by omega
            rw [show ((0 : Nat) : Int) = 0 from rfl]
            have H5 := hide (fun β K => hI.out.done β K)
            clear hI
            go_wp2_with fail
            cases SB with
            | no xx =>
              have DS := hide (desc_steps (.ok () (r.take v)) S1 S2 SA S4 (.no xx) P m1 m2 L C hS1.out hP.out hS2.out hm1.out H3.out hS4.out hm2.out H5.out)
              have FR := hide (show ((Rd.ok () l : Rd Unit).to fnR) = (descR (r.take v)).and fun f _ => .ok (f, r.take v) (r.drop v) by show fnR l = _; unfold fnR; rw [hm.out, Rd.and_ok, if_neg (by omega)])
              obtain ⟨k1, e, r1, hke1, he0, he1, he2⟩ := hF.out.kp.r
              have c3 := r1.row.cell (k := 3) rfl
              rw [he0] at c3
              have hb : (xx == 0) = false := by rw [beq_eq_false_iff_ne]; omega
              clear r1 he0
              go_quiet (fail)
              have DE := hide (show descR (r.take v) = .no xx from DS.out)
              have FE := hide (show ((Rd.ok () l : Rd Unit).to fnR) = .no xx by rw [FR.out, DE.out]; rfl)
              have FV := hide (show ∀ u r', (Rd.ok () l : Rd Unit).to fnR = .ok u r' → ((⟨(P : Int), L, C⟩ : Fn), r.take v) = u from fun u r' e => by rw [FE.out] at e; cases e)
              have HST := hide (show ((Rd.ok () l : Rd Unit).to fnR).st = (.no xx) by rw [FE.out]; rfl)
              obtain ⟨WX, hWX⟩ : ∃ WX, (wr.drewN nq).setCell ⟨g, 2, none⟩ (.int .i64 (en : Int)) = WX := ⟨_, rfl⟩
              have HWX := hide hWX
              have FX := hide (show FnI w g gf b off n c zs en (.no xx) (P : Int) A1 n1 c1 A2 n2 c2 ⟨(P : Int), L, C⟩ WX by rw [← hWX]; exact FnI.widen (hF.out.drewN nq) hgfl hg (widen_no (hF.out.drewN nq).kp.r hkv))
              obtain ⟨k9, e9, r9, hke9, hst9⟩ := hF.out.kp.r
              have d2 := r9.row.cell (k := 2) rfl
              have d3 := r9.row.free 2
              clear r9 hst9 hWX
              go_wp2_with fail
              rw [HWX.out]
              clear HWX d2 d3
              obtain ⟨k8, e8, r8, hke8, hst8⟩ := FX.out.kp.r
              have a0 := r8.row.cell (k := 0) rfl
              have HSE := hide r8.see
              have g0 := FX.out.row.cell (k := 0) rfl
              have g1 := FX.out.row.cell (k := 1) rfl
              have g2 := FX.out.row.cell (k := 2) rfl
              have z0 := FX.out.res.cell (k := 0) rfl
              have z1 := FX.out.res.cell (k := 1) rfl
              have z2 := FX.out.res.cell (k := 2) rfl
              have hlv := hide (show (cellsU8 (r.take v)).length = v * 1 by simp [cellsU8]; omega)
              have hss := hide (show Sees WX WX.heap.size (some ⟨b, off + k, none⟩) (cellsU8 (r.take v)) by
                have h1 := ((HSE.out.more (Nat.le_of_lt FX.out.kp.r.lt)).drop k).take v
                have e1 : (cellsU8 zs).drop k = cellsU8 (zs.drop k) := by simp [cellsU8]
                rw [e1, take_cells] at h1
                have e2 : (zs.drop k).take v = r.take v := by rw [← HS.out, List.drop_take, List.take_take, Nat.min_eq_left (by omega)]
                rw [e2] at h1
                simpa [WideShapes.add_plain] using h1)
              have hcn := hz.out.nc
              have hcm := hz.out.cm
              have hBX : w.heap.size < WX.heap.size := by have := FX.out.row.lt; omega
              have hkz1 : (k : Int) + (v : Int) ≤ (c : Int) := by omega
              have hkz2 : (k : Int) + (v : Int) ≤ (n : Int) := by omega
              have hw := wrap_sum (k := k) (v := v) (by omega)
              have hck : ¬ (c = k) := by omega
              have hp0 : (0 : Int) ≤ (k : Int) + (v : Int) := by omega
              have htn : ((k : Int) + (v : Int)).toNat = k + v := by omega
              clear r8 hst8
              go_region_law
                (refine wp_append_seesN (.const (.slice none 0 0)) (.tmp 135) 22 rfl WX.heap.size 5 u0 (.int .u8 0) 1 1 Tryd.underlying22 ui uz0 uz1 uz2 rfl (by decide) (.slice none 0 0) 0 [] rfl (World.ownsRow_nil _ _ _ _) WX.heap.size (some ⟨b, off + k, none⟩) v (c - k) (cellsU8 (r.take v)) rfl (hide (fun e => by cases e)) hlv (hide (hss.out.draws 1)) (hide (by omega)) (one_u8 _) (by unfold maxLen; omega) (by omega) (Nat.le_refl _) ?_; intro v3 w9 ho9 hg9; have HG9 : WX.grownBy w9 none := (grown_draws (World.grownBy.refl WX none) 1).trans hg9; have F9 := hide (FX.out.kept hg HG9); have p0 := F9.out.row.cell (k := 0) rfl; have p1 := F9.out.row.cell (k := 1) rfl; have p2 := F9.out.row.cell (k := 2) rfl; have q0 := F9.out.res.cell (k := 0) rfl; have q1 := F9.out.res.cell (k := 1) rfl; have q2 := F9.out.res.cell (k := 2) rfl; have y0 := F9.out.res.free 0; have y1 := F9.out.res.free 1; have y2 := F9.out.res.free 2; obtain ⟨A3, c3', rfl, hA3, hc3, hf3, -⟩ := own_seen ho9)
              all_goals
                simp only [Nat.zero_add, List.nil_append] at ho9
                have hf := ((F9.out.res.set_ 0 (.int .i64 (P : Int))).set_ 1 (.slice A1 n1 c1)).set_ 2 (.slice A2 n2 c2)
                have f0 := hf.cell (k := 0) rfl
                have f1 := hf.cell (k := 1) rfl
                have f2 := hf.cell (k := 2) rfl
                have FIN := hide (func_end (S := .ok () l) F9.out hgfl hg hBX ho9 (by omega) HST.out FV.out)
                clear ho9 hg9 HG9 hA3 hc3 hf3
                go_wp2_with fail
                exact bodyPost_ret (v := .tuple #[fv (P : Int) A1 n1 c1 A2 n2 c2, .slice A3 v c3']) (by simp [results, Tryd.results67, go_sem, f0, f1, f2]) rfl FIN.out

            | ok uu t =>
              have DS := hide (desc_steps (.ok () (r.take v)) S1 S2 SA S4 (.ok uu t) P m1 m2 L C hS1.out hP.out hS2.out hm1.out H3.out hS4.out hm2.out H5.out)
              have FR := hide (show ((Rd.ok () l : Rd Unit).to fnR) = (descR (r.take v)).and fun f _ => .ok (f, r.take v) (r.drop v) by show fnR l = _; unfold fnR; rw [hm.out, Rd.and_ok, if_neg (by omega)])
              obtain ⟨k1, e, r1, hke1, rfl, hs1⟩ := hF.out.kp.r
              have c1' := r1.row.cell (k := 1) rfl
              have c2' := r1.row.cell (k := 2) rfl
              have c3 := r1.row.cell (k := 3) rfl
              have hl1 := rest_len hs1 hz.out.len hkn
              clear r1 hs1
              cases t with
              | nil =>
                have hge : ((k + v : Nat) : Int) ≤ (k1 : Int) := by simp at hl1; omega
                clear hl1
                go_quiet (fail)
                have DE := hide (show descR (r.take v) = .ok ⟨(P : Int), L, C⟩ [] from DS.out)
                have FE := hide (show ((Rd.ok () l : Rd Unit).to fnR) = .ok (⟨(P : Int), L, C⟩, r.take v) (r.drop v) by rw [FR.out, DE.out]; rfl)
                have FV := hide (show ∀ u r', (Rd.ok () l : Rd Unit).to fnR = .ok u r' → ((⟨(P : Int), L, C⟩ : Fn), r.take v) = u from fun u r' e => by rw [FE.out] at e; injection e)
                have HST := hide (show ((Rd.ok () l : Rd Unit).to fnR).st = (.ok () (r.drop v)) by rw [FE.out]; rfl)
                obtain ⟨WX, hWX⟩ : ∃ WX, (wr.drewN nq).setCell ⟨g, 2, none⟩ (.int .i64 (en : Int)) = WX := ⟨_, rfl⟩
                have HWX := hide hWX
                have FX := hide (show FnI w g gf b off n c zs en (.ok () (r.drop v)) (P : Int) A1 n1 c1 A2 n2 c2 ⟨(P : Int), L, C⟩ WX by rw [← hWX]; exact FnI.widen (hF.out.drewN nq) hgfl hg (widen_ok (hF.out.drewN nq).kp.r hz.out.len hkn hkv HS.out))
                obtain ⟨k9, e9, r9, hke9, hst9⟩ := hF.out.kp.r
                have d2 := r9.row.cell (k := 2) rfl
                have d3 := r9.row.free 2
                clear r9 hst9 hWX
                go_wp2_with fail
                rw [HWX.out]
                clear HWX d2 d3
                obtain ⟨k8, e8, r8, hke8, hst8⟩ := FX.out.kp.r
                have a0 := r8.row.cell (k := 0) rfl
                have HSE := hide r8.see
                have g0 := FX.out.row.cell (k := 0) rfl
                have g1 := FX.out.row.cell (k := 1) rfl
                have g2 := FX.out.row.cell (k := 2) rfl
                have z0 := FX.out.res.cell (k := 0) rfl
                have z1 := FX.out.res.cell (k := 1) rfl
                have z2 := FX.out.res.cell (k := 2) rfl
                have hlv := hide (show (cellsU8 (r.take v)).length = v * 1 by simp [cellsU8]; omega)
                have hss := hide (show Sees WX WX.heap.size (some ⟨b, off + k, none⟩) (cellsU8 (r.take v)) by
                  have h1 := ((HSE.out.more (Nat.le_of_lt FX.out.kp.r.lt)).drop k).take v
                  have e1 : (cellsU8 zs).drop k = cellsU8 (zs.drop k) := by simp [cellsU8]
                  rw [e1, take_cells] at h1
                  have e2 : (zs.drop k).take v = r.take v := by rw [← HS.out, List.drop_take, List.take_take, Nat.min_eq_left (by omega)]
                  rw [e2] at h1
                  simpa [WideShapes.add_plain] using h1)
                have hcn := hz.out.nc
                have hcm := hz.out.cm
                have hBX : w.heap.size < WX.heap.size := by have := FX.out.row.lt; omega
                have hkz1 : (k : Int) + (v : Int) ≤ (c : Int) := by omega
                have hkz2 : (k : Int) + (v : Int) ≤ (n : Int) := by omega
                have hw := wrap_sum (k := k) (v := v) (by omega)
                have hck : ¬ (c = k) := by omega
                have hp0 : (0 : Int) ≤ (k : Int) + (v : Int) := by omega
                have htn : ((k : Int) + (v : Int)).toNat = k + v := by omega
                clear r8 hst8
                go_region_law
                  (refine wp_append_seesN (.const (.slice none 0 0)) (.tmp 135) 22 rfl WX.heap.size 5 u0 (.int .u8 0) 1 1 Tryd.underlying22 ui uz0 uz1 uz2 rfl (by decide) (.slice none 0 0) 0 [] rfl (World.ownsRow_nil _ _ _ _) WX.heap.size (some ⟨b, off + k, none⟩) v (c - k) (cellsU8 (r.take v)) rfl (hide (fun e => by cases e)) hlv (hide (hss.out.draws 1)) (hide (by omega)) (one_u8 _) (by unfold maxLen; omega) (by omega) (Nat.le_refl _) ?_; intro v3 w9 ho9 hg9; have HG9 : WX.grownBy w9 none := (grown_draws (World.grownBy.refl WX none) 1).trans hg9; have F9 := hide (FX.out.kept hg HG9); have p0 := F9.out.row.cell (k := 0) rfl; have p1 := F9.out.row.cell (k := 1) rfl; have p2 := F9.out.row.cell (k := 2) rfl; have q0 := F9.out.res.cell (k := 0) rfl; have q1 := F9.out.res.cell (k := 1) rfl; have q2 := F9.out.res.cell (k := 2) rfl; have y0 := F9.out.res.free 0; have y1 := F9.out.res.free 1; have y2 := F9.out.res.free 2; obtain ⟨A3, c3', rfl, hA3, hc3, hf3, -⟩ := own_seen ho9)
                all_goals
                  simp only [Nat.zero_add, List.nil_append] at ho9
                  have hf := ((F9.out.res.set_ 0 (.int .i64 (P : Int))).set_ 1 (.slice A1 n1 c1)).set_ 2 (.slice A2 n2 c2)
                  have f0 := hf.cell (k := 0) rfl
                  have f1 := hf.cell (k := 1) rfl
                  have f2 := hf.cell (k := 2) rfl
                  have FIN := hide (func_end (S := .ok () l) F9.out hgfl hg hBX ho9 (by omega) HST.out FV.out)
                  clear ho9 hg9 HG9 hA3 hc3 hf3
                  go_wp2_with fail
                  exact bodyPost_ret (v := .tuple #[fv (P : Int) A1 n1 c1 A2 n2 c2, .slice A3 v c3']) (by simp [results, Tryd.results67, go_sem, f0, f1, f2]) rfl FIN.out

              | cons z t =>
                have hlt1 : (k1 : Int) < ((k + v : Nat) : Int) := by simp at hl1; omega
                clear hl1
                go_quiet (fail)
                go_wp2_with fail
                refine (fail_ok (l := z :: t) (x := 2) (hide (hF.out.drewN _).kp.r) (by omega)).mono ?_
                rintro e w8 ⟨rfl, hR8, hG8⟩
                have F8 := hide ((hF.out.drewN _).to hgfl hg hR8 hG8)
                clear hR8 hG8 hF
                have DE := hide (show descR (r.take v) = .no 2 from DS.out)
                have FE := hide (show ((Rd.ok () l : Rd Unit).to fnR) = .no 2 by rw [FR.out, DE.out]; rfl)
                have FV := hide (show ∀ u r', (Rd.ok () l : Rd Unit).to fnR = .ok u r' → ((⟨(P : Int), L, C⟩ : Fn), r.take v) = u from fun u r' e => by rw [FE.out] at e; cases e)
                have HST := hide (show ((Rd.ok () l : Rd Unit).to fnR).st = (.no 2) by rw [FE.out]; rfl)
                obtain ⟨WX, hWX⟩ : ∃ WX, (w8).setCell ⟨g, 2, none⟩ (.int .i64 (en : Int)) = WX := ⟨_, rfl⟩
                have HWX := hide hWX
                have FX := hide (show FnI w g gf b off n c zs en (.no 2) (P : Int) A1 n1 c1 A2 n2 c2 ⟨(P : Int), L, C⟩ WX by rw [← hWX]; exact FnI.widen (F8.out) hgfl hg (widen_no (F8.out).kp.r hkv))
                obtain ⟨k9, e9, r9, hke9, hst9⟩ := F8.out.kp.r
                have d2 := r9.row.cell (k := 2) rfl
                have d3 := r9.row.free 2
                clear r9 hst9 hWX
                go_wp2_with fail
                rw [HWX.out]
                clear HWX d2 d3
                obtain ⟨k8, e8, r8, hke8, hst8⟩ := FX.out.kp.r
                have a0 := r8.row.cell (k := 0) rfl
                have HSE := hide r8.see
                have g0 := FX.out.row.cell (k := 0) rfl
                have g1 := FX.out.row.cell (k := 1) rfl
                have g2 := FX.out.row.cell (k := 2) rfl
                have z0 := FX.out.res.cell (k := 0) rfl
                have z1 := FX.out.res.cell (k := 1) rfl
                have z2 := FX.out.res.cell (k := 2) rfl
                have hlv := hide (show (cellsU8 (r.take v)).length = v * 1 by simp [cellsU8]; omega)
                have hss := hide (show Sees WX WX.heap.size (some ⟨b, off + k, none⟩) (cellsU8 (r.take v)) by
                  have h1 := ((HSE.out.more (Nat.le_of_lt FX.out.kp.r.lt)).drop k).take v
                  have e1 : (cellsU8 zs).drop k = cellsU8 (zs.drop k) := by simp [cellsU8]
                  rw [e1, take_cells] at h1
                  have e2 : (zs.drop k).take v = r.take v := by rw [← HS.out, List.drop_take, List.take_take, Nat.min_eq_left (by omega)]
                  rw [e2] at h1
                  simpa [WideShapes.add_plain] using h1)
                have hcn := hz.out.nc
                have hcm := hz.out.cm
                have hBX : w.heap.size < WX.heap.size := by have := FX.out.row.lt; omega
                have hkz1 : (k : Int) + (v : Int) ≤ (c : Int) := by omega
                have hkz2 : (k : Int) + (v : Int) ≤ (n : Int) := by omega
                have hw := wrap_sum (k := k) (v := v) (by omega)
                have hck : ¬ (c = k) := by omega
                have hp0 : (0 : Int) ≤ (k : Int) + (v : Int) := by omega
                have htn : ((k : Int) + (v : Int)).toNat = k + v := by omega
                clear r8 hst8
                go_region_law
                  (refine wp_append_seesN (.const (.slice none 0 0)) (.tmp 135) 22 rfl WX.heap.size 5 u0 (.int .u8 0) 1 1 Tryd.underlying22 ui uz0 uz1 uz2 rfl (by decide) (.slice none 0 0) 0 [] rfl (World.ownsRow_nil _ _ _ _) WX.heap.size (some ⟨b, off + k, none⟩) v (c - k) (cellsU8 (r.take v)) rfl (hide (fun e => by cases e)) hlv (hide (hss.out.draws 1)) (hide (by omega)) (one_u8 _) (by unfold maxLen; omega) (by omega) (Nat.le_refl _) ?_; intro v3 w9 ho9 hg9; have HG9 : WX.grownBy w9 none := (grown_draws (World.grownBy.refl WX none) 1).trans hg9; have F9 := hide (FX.out.kept hg HG9); have p0 := F9.out.row.cell (k := 0) rfl; have p1 := F9.out.row.cell (k := 1) rfl; have p2 := F9.out.row.cell (k := 2) rfl; have q0 := F9.out.res.cell (k := 0) rfl; have q1 := F9.out.res.cell (k := 1) rfl; have q2 := F9.out.res.cell (k := 2) rfl; have y0 := F9.out.res.free 0; have y1 := F9.out.res.free 1; have y2 := F9.out.res.free 2; obtain ⟨A3, c3', rfl, hA3, hc3, hf3, -⟩ := own_seen ho9)
                all_goals
                  simp only [Nat.zero_add, List.nil_append] at ho9
                  have hf := ((F9.out.res.set_ 0 (.int .i64 (P : Int))).set_ 1 (.slice A1 n1 c1)).set_ 2 (.slice A2 n2 c2)
                  have f0 := hf.cell (k := 0) rfl
                  have f1 := hf.cell (k := 1) rfl
                  have f2 := hf.cell (k := 2) rfl
                  have FIN := hide (func_end (S := .ok () l) F9.out hgfl hg hBX ho9 (by omega) HST.out FV.out)
                  clear ho9 hg9 HG9 hA3 hc3 hf3
                  go_wp2_with fail
                  exact bodyPost_ret (v := .tuple #[fv (P : Int) A1 n1 c1 A2 n2 c2, .slice A3 v c3']) (by simp [results, Tryd.results67, go_sem, f0, f1, f2]) rfl FIN.out


      | ok u t =>
        obtain ⟨k1, e, r1, hke1, rfl, hs1⟩ := hF.out.kp.r
        have c3 := r1.row.cell (k := 3) rfl
        clear r1 hs1
        go_wp2_with fail
        refine (rslot_any g b off n c (k + v) zs (.ok () t) _ hz (hide hF.out.kp.r) hkn).mono ?_
        rintro e w4 ⟨x, y, rfl, hR4, hG4, hxy⟩
        have F4 := hide (hF.out.to hgfl hg hR4 hG4)
        have N4 := hide (hI.out.step (a := (x, y)) hxy)
        obtain ⟨gs, hgs⟩ : ∃ gs, gs = w4.heap.size := ⟨_, rfl⟩
        obtain ⟨wb, hwb⟩ : ∃ wb, w4.alloc (.cells #[.int .i64 x, .int .i64 y] 62) = wb := ⟨_, rfl⟩
        have HWB := hide hwb
        have HF4 := hide (show FnI w g gf b off n c zs (k + v) _ (P : Int) A1 n1 c1 none 0 0 ⟨(P : Int), L, []⟩ wb by rw [← hwb]; exact F4.out.alloc _)
        have HS4 := hide (show Row wb gs 62 [.int .i64 x, .int .i64 y] by rw [hgs, ← hwb]; exact Row.new _ _ _)
        have HGS := hide hgs
        clear hR4 hG4 hxy c3 hF hI hwb hgs F4
        go_wp2_with fail
        rw [HWB.out, ← HGS.out]
        clear HWB HGS
        have l1 := HF4.out.hd.l1
        have hn1 : n1 ≤ 512 := by simp at l1; omega
        have HLL := hide (show n1 + 1 = L.length + 1 by simp at l1; omega)
        have HCA := hide HF4.out.hd.k1.1
        have HCL := hide (show (pcells L).length = n1 * 2 by rw [pcells_length]; simp at l1; omega)
        have HCS := hide HF4.out.hd.s1
        have HCC := hide HF4.out.hd.k1.2.1
        have a0 := HF4.out.row.cell (k := 1) rfl
        have a1 : ∀ o : Obj, (wb.alloc o).cell? ⟨gf, 1, none⟩ = some (.slice A1 n1 c1) := fun o => (HF4.out.row.alloc o).cell (k := 1) rfl
        have s0 := HS4.out.cell (k := 0) rfl
        have s1 := HS4.out.cell (k := 1) rfl
        have hsl := HS4.out.lt
        clear l1
        go_region_law
          (first
            | (refine wp_append_seesN (.const (.slice none 0 0)) (.tmp 76) 51 rfl wb.heap.size 62 i0 (.agg #[.int .i64 0, .int .i64 0]) 2 16 Tryd.underlying51 hi hz0 hz1 hz2 rfl (by decide) (.slice none 0 0) 0 [] rfl (World.ownsRow_nil _ _ _ _) wb.heap.size A1 n1 c1 (pcells L) rfl HCA HCL (hide (HCS.out.draws 1)) HCC (pcells_oneCell _) (by unfold maxLen; omega) (by omega) (Nat.le_refl _) ?_; intro v1 w5 ho1 hg1; have hG1 : wb.grownBy w5 none := (grown_draws (World.grownBy.refl wb none) 1).trans hg1; have s20 := (HS4.out.grown hG1 (fun e => by cases e)).cell (k := 0) rfl; have s21 := (HS4.out.grown hG1 (fun e => by cases e)).cell (k := 1) rfl)
            | (refine wp_append_seesN (.const (.slice none 0 0)) (.tmp 76) 51 rfl wb.heap.size 62 i0 (.agg #[.int .i64 0, .int .i64 0]) 2 16 Tryd.underlying51 hi hz0 hz1 hz2 rfl (by decide) (.slice none 0 0) 0 [] rfl (World.ownsRow_nil _ _ _ _) wb.heap.size A1 n1 c1 (pcells L) rfl HCA HCL (hide ((HCS.out.draws 1).alloc (Nat.le_refl _) _)) HCC (pcells_oneCell _) (by unfold maxLen; omega) (by omega) (by simp) ?_; intro v1 w5 ho1 hg1; have hG1 : wb.grownBy w5 none := ((grown_draws (World.grownBy.refl wb none) 1).trans (World.grownBy_alloc _ _ _)).trans hg1; have hN1 := ((Row.new (wb.drewN 1) 62 [.int .i64 x, .int .i64 y]).at_ (g' := wb.heap.size) rfl).grown hg1 (fun e => by cases e))
            | (refine wp_append_own _ (.tmp 77) (.tmp 79) 51 rfl wb.heap.size 62 i0 (.agg #[.int .i64 0, .int .i64 0]) 2 16 Tryd.underlying51 hi hz0 hz1 hz2 rfl (by decide) v1 (0 + n1) ([] ++ pcells L) rfl (ho1.alloc _) ⟨w5.heap.size, 0, none⟩ 1 1 [.int .i64 x, .int .i64 y] rfl rfl (two_new _ _ _ _) (two_cells _ _) (by unfold maxLen; omega) (by omega) (by have := hG1.size; simp; omega) ?_; intro v2 w6 ho2 hg2 _; have HG6 : Hid (wb.grownBy w6 none) := hide ((hG1.trans (World.grownBy_alloc _ _ _)).andThen hg2 (fun k hk => .inl (ho1.lt k hk).1)); obtain ⟨A6, c6, rfl, hA6, hc6, hf6, -⟩ := own_seen ho2; have b0 := (HF4.out.kept hg HG6.out).row.cell (k := 1) rfl; have b1 := (HF4.out.kept hg HG6.out).row.free 1)
            | (refine wp_append_own _ (.tmp 77) (.tmp 79) 51 rfl wb.heap.size 62 i0 (.agg #[.int .i64 0, .int .i64 0]) 2 16 Tryd.underlying51 hi hz0 hz1 hz2 rfl (by decide) v1 (0 + n1) ([] ++ pcells L) rfl ho1 ⟨wb.heap.size, 0, none⟩ 1 1 [.int .i64 x, .int .i64 y] rfl rfl (fun j u hu => by rw [WideShapes.add_plain, Nat.zero_add]; exact hN1.cell hu) (two_cells _ _) (by unfold maxLen; omega) (by omega) hG1.size ?_; intro v2 w6 ho2 hg2 _; have HG6 : Hid (wb.grownBy w6 none) := hide (hG1.andThen hg2 (fun k hk => .inl (ho1.lt k hk).1)); obtain ⟨A6, c6, rfl, hA6, hc6, hf6, -⟩ := own_seen ho2; have b0 := (HF4.out.kept hg HG6.out).row.cell (k := 1) rfl; have b1 := (HF4.out.kept hg HG6.out).row.free 1))
        all_goals
          simp only [Nat.zero_add] at ho2
          have HN := hide (FnI.slot HF4.out hgfl hg HG6.out ho2 HLL.out (by omega))
          clear ho2 hg2 ho1 hg1 hG1 hA6 hc6 hf6 HF4 HS4 HG6 HCA HCL HCS HCC a0 a1 s0 s1
          go_wp2_with fail
          go_roundw
          case rel => exact ⟨j, _, A6, n1 + 1, c6, L ++ [(x, y)], by go_num, by simp; omega, N4, HN⟩
          case measure => simp [intOf]

    · obtain rfl : k' = 0 := by omega
      rw [show ((0 : Nat) : Int) = 0 from rfl]
      have H3 := hide (fun β K => hI.out.done β K)
      clear hI
      obtain ⟨m2, hm2⟩ : ∃ v', Hid (v' = (SA.to (countR 1024)).val 0) := ⟨_, hide rfl⟩
      obtain ⟨S4, hS4⟩ : ∃ T, Hid (T = (SA.to (countR 1024)).st) := ⟨_, hide rfl⟩
      have hm6 : m2 ≤ 1024 := by rw [hm2.out]; exact count_le hz.out hF.out.kp.r
      go_wp2_with fail
      refine (count_at (most := 1024) hz (hide hF.out.kp.r) hkn (by omega) hS4 hm2).mono ?_
      rintro e w7 ⟨rfl, hR7, hG7⟩
      have F7 := hide (hF.out.to hgfl hg hR7 hG7)
      clear hR7 hG7 hF
      go_wp2_with fail
      go_loopw [10, 11] (fun kv _ wr => ∃ (k' : Nat) (S : Rd Unit) (A2 : Option Addr) (n2 c2 : Nat) (C : List Ins), kv = .int .i64 (k' : Int) ∧ k' + C.length ≤ m2 ∧ Hid (LoopI insR S4 m2 S k' C) ∧ Hid (FnI w g gf b off n c zs (k + v) S (P : Int) A1 n1 c1 A2 n2 c2 ⟨(P : Int), L, C⟩ wr)) (fun kv _ _ => (intOf kv).toNat)
      case atStart => exact ⟨m2, S4, none, 0, 0, [], rfl, by simp, hide (LoopI.start insR S4 m2), F7⟩
      case round =>
        obtain ⟨k', SB, A2, n2, c2, C, rfl, hkc, hI, hF⟩ := hrel
        clear F7
        by_cases hlt : 0 < k'
        · obtain ⟨j, rfl⟩ : ∃ j, k' = j + 1 := ⟨k' - 1, by omega⟩
          have hlz : (0 : Int) < ((j + 1 : Nat) : Int) := by omega
          cases SB with
          | no xx =>
            have H5 := hide (fun β K => hI.out.broke β K)
            obtain ⟨k1, e, r1, hke1, he0, he1, he2⟩ := hF.out.kp.r
            have c3 := r1.row.cell (k := 3) rfl
            rw [he0] at c3
            have hb : (xx == 0) = false := by rw [beq_eq_false_iff_ne]; omega
            clear r1 he0

            clear hI
            go_wp2_with fail
            have DS := hide (desc_steps (.ok () (r.take v)) S1 S2 SA S4 (.no xx) P m1 m2 L C hS1.out hP.out hS2.out hm1.out H3.out hS4.out hm2.out H5.out)
            have FR := hide (show ((Rd.ok () l : Rd Unit).to fnR) = (descR (r.take v)).and fun f _ => .ok (f, r.take v) (r.drop v) by show fnR l = _; unfold fnR; rw [hm.out, Rd.and_ok, if_neg (by omega)])
            go_quiet (fail)
            have DE := hide (show descR (r.take v) = .no xx from DS.out)
            have FE := hide (show ((Rd.ok () l : Rd Unit).to fnR) = .no xx by rw [FR.out, DE.out]; rfl)
            have FV := hide (show ∀ u r', (Rd.ok () l : Rd Unit).to fnR = .ok u r' → ((⟨(P : Int), L, C⟩ : Fn), r.take v) = u from fun u r' e => by rw [FE.out] at e; cases e)
            have HST := hide (show ((Rd.ok () l : Rd Unit).to fnR).st = (.no xx) by rw [FE.out]; rfl)
            obtain ⟨WX, hWX⟩ : ∃ WX, (wr.drewN nq).setCell ⟨g, 2, none⟩ (.int .i64 (en : Int)) = WX := ⟨_, rfl⟩
            have HWX := hide hWX
            have FX := hide (show FnI w g gf b off n c zs en (.no xx) (P : Int) A1 n1 c1 A2 n2 c2 ⟨(P : Int), L, C⟩ WX by rw [← hWX]; exact FnI.widen (hF.out.drewN nq) hgfl hg (widen_no (hF.out.drewN nq).kp.r hkv))
            obtain ⟨k9, e9, r9, hke9, hst9⟩ := hF.out.kp.r
            have d2 := r9.row.cell (k := 2) rfl
            have d3 := r9.row.free 2
            clear r9 hst9 hWX
            go_wp2_with fail
            rw [HWX.out]
            clear HWX d2 d3
            obtain ⟨k8, e8, r8, hke8, hst8⟩ := FX.out.kp.r
            have a0 := r8.row.cell (k := 0) rfl
            have HSE := hide r8.see
            have g0 := FX.out.row.cell (k := 0) rfl
            have g1 := FX.out.row.cell (k := 1) rfl
            have g2 := FX.out.row.cell (k := 2) rfl
            have z0 := FX.out.res.cell (k := 0) rfl
            have z1 := FX.out.res.cell (k := 1) rfl
            have z2 := FX.out.res.cell (k := 2) rfl
            have hlv := hide (show (cellsU8 (r.take v)).length = v * 1 by simp [cellsU8]; omega)
            have hss := hide (show Sees WX WX.heap.size (some ⟨b, off + k, none⟩) (cellsU8 (r.take v)) by
              have h1 := ((HSE.out.more (Nat.le_of_lt FX.out.kp.r.lt)).drop k).take v
              have e1 : (cellsU8 zs).drop k = cellsU8 (zs.drop k) := by simp [cellsU8]
              rw [e1, take_cells] at h1
              have e2 : (zs.drop k).take v = r.take v := by rw [← HS.out, List.drop_take, List.take_take, Nat.min_eq_left (by omega)]
              rw [e2] at h1
              simpa [WideShapes.add_plain] using h1)
            have hcn := hz.out.nc
            have hcm := hz.out.cm
            have hBX : w.heap.size < WX.heap.size := by have := FX.out.row.lt; omega
            have hkz1 : (k : Int) + (v : Int) ≤ (c : Int) := by omega
            have hkz2 : (k : Int) + (v : Int) ≤ (n : Int) := by omega
            have hw := wrap_sum (k := k) (v := v) (by omega)
            have hck : ¬ (c = k) := by omega
            have hp0 : (0 : Int) ≤ (k : Int) + (v : Int) := by omega
            have htn : ((k : Int) + (v : Int)).toNat = k + v := by omega
            clear r8 hst8
            go_region_law
              (refine wp_append_seesN (.const (.slice none 0 0)) (.tmp 135) 22 rfl WX.heap.size 5 u0 (.int .u8 0) 1 1 Tryd.underlying22 ui uz0 uz1 uz2 rfl (by decide) (.slice none 0 0) 0 [] rfl (World.ownsRow_nil _ _ _ _) WX.heap.size (some ⟨b, off + k, none⟩) v (c - k) (cellsU8 (r.take v)) rfl (hide (fun e => by cases e)) hlv (hide (hss.out.draws 1)) (hide (by omega)) (one_u8 _) (by unfold maxLen; omega) (by omega) (Nat.le_refl _) ?_; intro v3 w9 ho9 hg9; have HG9 : WX.grownBy w9 none := (grown_draws (World.grownBy.refl WX none) 1).trans hg9; have F9 := hide (FX.out.kept hg HG9); have p0 := F9.out.row.cell (k := 0) rfl; have p1 := F9.out.row.cell (k := 1) rfl; have p2 := F9.out.row.cell (k := 2) rfl; have q0 := F9.out.res.cell (k := 0) rfl; have q1 := F9.out.res.cell (k := 1) rfl; have q2 := F9.out.res.cell (k := 2) rfl; have y0 := F9.out.res.free 0; have y1 := F9.out.res.free 1; have y2 := F9.out.res.free 2; obtain ⟨A3, c3', rfl, hA3, hc3, hf3, -⟩ := own_seen ho9)
            all_goals
              simp only [Nat.zero_add, List.nil_append] at ho9
              have hf := ((F9.out.res.set_ 0 (.int .i64 (P : Int))).set_ 1 (.slice A1 n1 c1)).set_ 2 (.slice A2 n2 c2)
              have f0 := hf.cell (k := 0) rfl
              have f1 := hf.cell (k := 1) rfl
              have f2 := hf.cell (k := 2) rfl
              have FIN := hide (func_end (S := .ok () l) F9.out hgfl hg hBX ho9 (by omega) HST.out FV.out)
              clear ho9 hg9 HG9 hA3 hc3 hf3
              go_wp2_with fail
              exact bodyPost_ret (v := .tuple #[fv (P : Int) A1 n1 c1 A2 n2 c2, .slice A3 v c3']) (by simp [results, Tryd.results67, go_sem, f0, f1, f2]) rfl FIN.out

          | ok u t =>
            obtain ⟨k1, e, r1, hke1, rfl, hs1⟩ := hF.out.kp.r
            have c3 := r1.row.cell (k := 3) rfl
            clear r1 hs1
            go_wp2_with fail
            refine (instr_any g b off n c (k + v) zs (.ok () t) _ hz (hide hF.out.kp.r) hkn).mono ?_
            rintro e w4 ⟨o, x, y, z, im, rfl, hR4, hG4, hxy⟩
            have F4 := hide (hF.out.to hgfl hg hR4 hG4)
            have N4 := hide (hI.out.step (a := (⟨o, x, y, z, im⟩ : Ins)) hxy)
            obtain ⟨gs, hgs⟩ : ∃ gs, gs = w4.heap.size := ⟨_, rfl⟩
            obtain ⟨wb, hwb⟩ : ∃ wb, w4.alloc (.cells #[.int .i64 o, .int .i64 x, .int .i64 y, .int .i64 z, .int .u64 im] 49) = wb := ⟨_, rfl⟩
            have HWB := hide hwb
            have HF4 := hide (show FnI w g gf b off n c zs (k + v) _ (P : Int) A1 n1 c1 A2 n2 c2 ⟨(P : Int), L, C⟩ wb by rw [← hwb]; exact F4.out.alloc _)
            have HS4 := hide (show Row wb gs 49 [.int .i64 o, .int .i64 x, .int .i64 y, .int .i64 z, .int .u64 im] by rw [hgs, ← hwb]; exact Row.new _ _ _)
            have HGS := hide hgs
            clear hR4 hG4 hxy c3 hF hI hwb hgs F4
            go_wp2_with fail
            rw [HWB.out, ← HGS.out]
            clear HWB HGS
            have l1 := HF4.out.hd.l2
            have hn1 : n2 ≤ 1024 := by simp at l1; omega
            have HLL := hide (show n2 + 1 = C.length + 1 by simp at l1; omega)
            have HCA := hide HF4.out.hd.k2.1
            have HCL := hide (show (icells C).length = n2 * 5 by rw [icells_length]; simp at l1; omega)
            have HCS := hide HF4.out.hd.s2
            have HCC := hide HF4.out.hd.k2.2.1
            have a0 := HF4.out.row.cell (k := 2) rfl
            have a1 : ∀ o : Obj, (wb.alloc o).cell? ⟨gf, 2, none⟩ = some (.slice A2 n2 c2) := fun o => (HF4.out.row.alloc o).cell (k := 2) rfl
            have s0 := HS4.out.cell (k := 0) rfl
            have s1 := HS4.out.cell (k := 1) rfl
            have s2 := HS4.out.cell (k := 2) rfl
            have s3 := HS4.out.cell (k := 3) rfl
            have s4 := HS4.out.cell (k := 4) rfl
            have hsl := HS4.out.lt
            clear l1
            go_region_law
              (first
                | (refine wp_append_seesN (.const (.slice none 0 0)) (.tmp 98) 50 rfl wb.heap.size 49 j0 (.agg #[.int .i64 0, .int .i64 0, .int .i64 0, .int .i64 0, .int .u64 0]) 5 40 Tryd.underlying50 ji jz0 jz1 jz2 rfl (by decide) (.slice none 0 0) 0 [] rfl (World.ownsRow_nil _ _ _ _) wb.heap.size A2 n2 c2 (icells C) rfl HCA HCL (hide (HCS.out.draws 1)) HCC (icells_oneCell _) (by unfold maxLen; omega) (by omega) (Nat.le_refl _) ?_; intro v1 w5 ho1 hg1; have hG1 : wb.grownBy w5 none := (grown_draws (World.grownBy.refl wb none) 1).trans hg1; have s20 := (HS4.out.grown hG1 (fun e => by cases e)).cell (k := 0) rfl; have s21 := (HS4.out.grown hG1 (fun e => by cases e)).cell (k := 1) rfl; have s22 := (HS4.out.grown hG1 (fun e => by cases e)).cell (k := 2) rfl; have s23 := (HS4.out.grown hG1 (fun e => by cases e)).cell (k := 3) rfl; have s24 := (HS4.out.grown hG1 (fun e => by cases e)).cell (k := 4) rfl)
                | (refine wp_append_seesN (.const (.slice none 0 0)) (.tmp 98) 50 rfl wb.heap.size 49 j0 (.agg #[.int .i64 0, .int .i64 0, .int .i64 0, .int .i64 0, .int .u64 0]) 5 40 Tryd.underlying50 ji jz0 jz1 jz2 rfl (by decide) (.slice none 0 0) 0 [] rfl (World.ownsRow_nil _ _ _ _) wb.heap.size A2 n2 c2 (icells C) rfl HCA HCL (hide ((HCS.out.draws 1).alloc (Nat.le_refl _) _)) HCC (icells_oneCell _) (by unfold maxLen; omega) (by omega) (by simp) ?_; intro v1 w5 ho1 hg1; have hG1 : wb.grownBy w5 none := ((grown_draws (World.grownBy.refl wb none) 1).trans (World.grownBy_alloc _ _ _)).trans hg1; have hN1 := ((Row.new (wb.drewN 1) 49 [.int .i64 o, .int .i64 x, .int .i64 y, .int .i64 z, .int .u64 im]).at_ (g' := wb.heap.size) rfl).grown hg1 (fun e => by cases e))
                | (refine wp_append_own _ (.tmp 99) (.tmp 101) 50 rfl wb.heap.size 49 j0 (.agg #[.int .i64 0, .int .i64 0, .int .i64 0, .int .i64 0, .int .u64 0]) 5 40 Tryd.underlying50 ji jz0 jz1 jz2 rfl (by decide) v1 (0 + n2) ([] ++ icells C) rfl (ho1.alloc _) ⟨w5.heap.size, 0, none⟩ 1 1 [.int .i64 o, .int .i64 x, .int .i64 y, .int .i64 z, .int .u64 im] rfl rfl (fun j u hu => by rw [WideShapes.add_plain, Nat.zero_add]; exact (Row.new w5 49 [.int .i64 o, .int .i64 x, .int .i64 y, .int .i64 z, .int .u64 im]).cell hu) (icells_oneCell [⟨o, x, y, z, im⟩]) (by unfold maxLen; omega) (by omega) (by have := hG1.size; simp; omega) ?_; intro v2 w6 ho2 hg2 _; have HG6 : Hid (wb.grownBy w6 none) := hide ((hG1.trans (World.grownBy_alloc _ _ _)).andThen hg2 (fun k hk => .inl (ho1.lt k hk).1)); obtain ⟨A6, c6, rfl, hA6, hc6, hf6, -⟩ := own_seen ho2; have b0 := (HF4.out.kept hg HG6.out).row.cell (k := 2) rfl; have b1 := (HF4.out.kept hg HG6.out).row.free 2)
                | (refine wp_append_own _ (.tmp 99) (.tmp 101) 50 rfl wb.heap.size 49 j0 (.agg #[.int .i64 0, .int .i64 0, .int .i64 0, .int .i64 0, .int .u64 0]) 5 40 Tryd.underlying50 ji jz0 jz1 jz2 rfl (by decide) v1 (0 + n2) ([] ++ icells C) rfl ho1 ⟨wb.heap.size, 0, none⟩ 1 1 [.int .i64 o, .int .i64 x, .int .i64 y, .int .i64 z, .int .u64 im] rfl rfl (fun j u hu => by rw [WideShapes.add_plain, Nat.zero_add]; exact hN1.cell hu) (icells_oneCell [⟨o, x, y, z, im⟩]) (by unfold maxLen; omega) (by omega) hG1.size ?_; intro v2 w6 ho2 hg2 _; have HG6 : Hid (wb.grownBy w6 none) := hide (hG1.andThen hg2 (fun k hk => .inl (ho1.lt k hk).1)); obtain ⟨A6, c6, rfl, hA6, hc6, hf6, -⟩ := own_seen ho2; have b0 := (HF4.out.kept hg HG6.out).row.cell (k := 2) rfl; have b1 := (HF4.out.kept hg HG6.out).row.free 2))
            all_goals
              simp only [Nat.zero_add] at ho2
              have HN := hide (FnI.ins (x := ⟨o, x, y, z, im⟩) HF4.out hgfl hg HG6.out ho2 HLL.out (by omega))
              clear ho2 hg2 ho1 hg1 hG1 hA6 hc6 hf6 HF4 HS4 HG6 HCA HCL HCS HCC a0 a1 s0 s1 s2 s3 s4
              go_wp2_with fail
              go_roundw
              case rel => exact ⟨j, _, A6, n2 + 1, c6, C ++ [⟨o, x, y, z, im⟩], by go_num, by simp; omega, N4, HN⟩
              case measure => simp [intOf]

        · obtain rfl : k' = 0 := by omega
          rw [show ((0 : Nat) : Int) = 0 from rfl]
          have H5 := hide (fun β K => hI.out.done β K)
          clear hI
          go_wp2_with fail
          cases SB with
          | no xx =>
            have DS := hide (desc_steps (.ok () (r.take v)) S1 S2 SA S4 (.no xx) P m1 m2 L C hS1.out hP.out hS2.out hm1.out H3.out hS4.out hm2.out H5.out)
            have FR := hide (show ((Rd.ok () l : Rd Unit).to fnR) = (descR (r.take v)).and fun f _ => .ok (f, r.take v) (r.drop v) by show fnR l = _; unfold fnR; rw [hm.out, Rd.and_ok, if_neg (by omega)])
            obtain ⟨k1, e, r1, hke1, he0, he1, he2⟩ := hF.out.kp.r
            have c3 := r1.row.cell (k := 3) rfl
            rw [he0] at c3
            have hb : (xx == 0) = false := by rw [beq_eq_false_iff_ne]; omega
            clear r1 he0
            go_quiet (fail)
            have DE := hide (show descR (r.take v) = .no xx from DS.out)
            have FE := hide (show ((Rd.ok () l : Rd Unit).to fnR) = .no xx by rw [FR.out, DE.out]; rfl)
            have FV := hide (show ∀ u r', (Rd.ok () l : Rd Unit).to fnR = .ok u r' → ((⟨(P : Int), L, C⟩ : Fn), r.take v) = u from fun u r' e => by rw [FE.out] at e; cases e)
            have HST := hide (show ((Rd.ok () l : Rd Unit).to fnR).st = (.no xx) by rw [FE.out]; rfl)
            obtain ⟨WX, hWX⟩ : ∃ WX, (wr.drewN nq).setCell ⟨g, 2, none⟩ (.int .i64 (en : Int)) = WX := ⟨_, rfl⟩
            have HWX := hide hWX
            have FX := hide (show FnI w g gf b off n c zs en (.no xx) (P : Int) A1 n1 c1 A2 n2 c2 ⟨(P : Int), L, C⟩ WX by rw [← hWX]; exact FnI.widen (hF.out.drewN nq) hgfl hg (widen_no (hF.out.drewN nq).kp.r hkv))
            obtain ⟨k9, e9, r9, hke9, hst9⟩ := hF.out.kp.r
            have d2 := r9.row.cell (k := 2) rfl
            have d3 := r9.row.free 2
            clear r9 hst9 hWX
            go_wp2_with fail
            rw [HWX.out]
            clear HWX d2 d3
            obtain ⟨k8, e8, r8, hke8, hst8⟩ := FX.out.kp.r
            have a0 := r8.row.cell (k := 0) rfl
            have HSE := hide r8.see
            have g0 := FX.out.row.cell (k := 0) rfl
            have g1 := FX.out.row.cell (k := 1) rfl
            have g2 := FX.out.row.cell (k := 2) rfl
            have z0 := FX.out.res.cell (k := 0) rfl
            have z1 := FX.out.res.cell (k := 1) rfl
            have z2 := FX.out.res.cell (k := 2) rfl
            have hlv := hide (show (cellsU8 (r.take v)).length = v * 1 by simp [cellsU8]; omega)
            have hss := hide (show Sees WX WX.heap.size (some ⟨b, off + k, none⟩) (cellsU8 (r.take v)) by
              have h1 := ((HSE.out.more (Nat.le_of_lt FX.out.kp.r.lt)).drop k).take v
              have e1 : (cellsU8 zs).drop k = cellsU8 (zs.drop k) := by simp [cellsU8]
              rw [e1, take_cells] at h1
              have e2 : (zs.drop k).take v = r.take v := by rw [← HS.out, List.drop_take, List.take_take, Nat.min_eq_left (by omega)]
              rw [e2] at h1
              simpa [WideShapes.add_plain] using h1)
            have hcn := hz.out.nc
            have hcm := hz.out.cm
            have hBX : w.heap.size < WX.heap.size := by have := FX.out.row.lt; omega
            have hkz1 : (k : Int) + (v : Int) ≤ (c : Int) := by omega
            have hkz2 : (k : Int) + (v : Int) ≤ (n : Int) := by omega
            have hw := wrap_sum (k := k) (v := v) (by omega)
            have hck : ¬ (c = k) := by omega
            have hp0 : (0 : Int) ≤ (k : Int) + (v : Int) := by omega
            have htn : ((k : Int) + (v : Int)).toNat = k + v := by omega
            clear r8 hst8
            go_region_law
              (refine wp_append_seesN (.const (.slice none 0 0)) (.tmp 135) 22 rfl WX.heap.size 5 u0 (.int .u8 0) 1 1 Tryd.underlying22 ui uz0 uz1 uz2 rfl (by decide) (.slice none 0 0) 0 [] rfl (World.ownsRow_nil _ _ _ _) WX.heap.size (some ⟨b, off + k, none⟩) v (c - k) (cellsU8 (r.take v)) rfl (hide (fun e => by cases e)) hlv (hide (hss.out.draws 1)) (hide (by omega)) (one_u8 _) (by unfold maxLen; omega) (by omega) (Nat.le_refl _) ?_; intro v3 w9 ho9 hg9; have HG9 : WX.grownBy w9 none := (grown_draws (World.grownBy.refl WX none) 1).trans hg9; have F9 := hide (FX.out.kept hg HG9); have p0 := F9.out.row.cell (k := 0) rfl; have p1 := F9.out.row.cell (k := 1) rfl; have p2 := F9.out.row.cell (k := 2) rfl; have q0 := F9.out.res.cell (k := 0) rfl; have q1 := F9.out.res.cell (k := 1) rfl; have q2 := F9.out.res.cell (k := 2) rfl; have y0 := F9.out.res.free 0; have y1 := F9.out.res.free 1; have y2 := F9.out.res.free 2; obtain ⟨A3, c3', rfl, hA3, hc3, hf3, -⟩ := own_seen ho9)
            all_goals
              simp only [Nat.zero_add, List.nil_append] at ho9
              have hf := ((F9.out.res.set_ 0 (.int .i64 (P : Int))).set_ 1 (.slice A1 n1 c1)).set_ 2 (.slice A2 n2 c2)
              have f0 := hf.cell (k := 0) rfl
              have f1 := hf.cell (k := 1) rfl
              have f2 := hf.cell (k := 2) rfl
              have FIN := hide (func_end (S := .ok () l) F9.out hgfl hg hBX ho9 (by omega) HST.out FV.out)
              clear ho9 hg9 HG9 hA3 hc3 hf3
              go_wp2_with fail
              exact bodyPost_ret (v := .tuple #[fv (P : Int) A1 n1 c1 A2 n2 c2, .slice A3 v c3']) (by simp [results, Tryd.results67, go_sem, f0, f1, f2]) rfl FIN.out

          | ok uu t =>
            have DS := hide (desc_steps (.ok () (r.take v)) S1 S2 SA S4 (.ok uu t) P m1 m2 L C hS1.out hP.out hS2.out hm1.out H3.out hS4.out hm2.out H5.out)
            have FR := hide (show ((Rd.ok () l : Rd Unit).to fnR) = (descR (r.take v)).and fun f _ => .ok (f, r.take v) (r.drop v) by show fnR l = _; unfold fnR; rw [hm.out, Rd.and_ok, if_neg (by omega)])
            obtain ⟨k1, e, r1, hke1, rfl, hs1⟩ := hF.out.kp.r
            have c1' := r1.row.cell (k := 1) rfl
            have c2' := r1.row.cell (k := 2) rfl
            have c3 := r1.row.cell (k := 3) rfl
            have hl1 := rest_len hs1 hz.out.len hkn
            clear r1 hs1
            cases t with
            | nil =>
              have hge : ((k + v : Nat) : Int) ≤ (k1 : Int) := by simp at hl1; omega
              clear hl1
              go_quiet (fail)
              have DE := hide (show descR (r.take v) = .ok ⟨(P : Int), L, C⟩ [] from DS.out)
              have FE := hide (show ((Rd.ok () l : Rd Unit).to fnR) = .ok (⟨(P : Int), L, C⟩, r.take v) (r.drop v) by rw [FR.out, DE.out]; rfl)
              have FV := hide (show ∀ u r', (Rd.ok () l : Rd Unit).to fnR = .ok u r' → ((⟨(P : Int), L, C⟩ : Fn), r.take v) = u from fun u r' e => by rw [FE.out] at e; injection e)
              have HST := hide (show ((Rd.ok () l : Rd Unit).to fnR).st = (.ok () (r.drop v)) by rw [FE.out]; rfl)
              obtain ⟨WX, hWX⟩ : ∃ WX, (wr.drewN nq).setCell ⟨g, 2, none⟩ (.int .i64 (en : Int)) = WX := ⟨_, rfl⟩
              have HWX := hide hWX
              have FX := hide (show FnI w g gf b off n c zs en (.ok () (r.drop v)) (P : Int) A1 n1 c1 A2 n2 c2 ⟨(P : Int), L, C⟩ WX by rw [← hWX]; exact FnI.widen (hF.out.drewN nq) hgfl hg (widen_ok (hF.out.drewN nq).kp.r hz.out.len hkn hkv HS.out))
              obtain ⟨k9, e9, r9, hke9, hst9⟩ := hF.out.kp.r
              have d2 := r9.row.cell (k := 2) rfl
              have d3 := r9.row.free 2
              clear r9 hst9 hWX
              go_wp2_with fail
              rw [HWX.out]
              clear HWX d2 d3
              obtain ⟨k8, e8, r8, hke8, hst8⟩ := FX.out.kp.r
              have a0 := r8.row.cell (k := 0) rfl
              have HSE := hide r8.see
              have g0 := FX.out.row.cell (k := 0) rfl
              have g1 := FX.out.row.cell (k := 1) rfl
              have g2 := FX.out.row.cell (k := 2) rfl
              have z0 := FX.out.res.cell (k := 0) rfl
              have z1 := FX.out.res.cell (k := 1) rfl
              have z2 := FX.out.res.cell (k := 2) rfl
              have hlv := hide (show (cellsU8 (r.take v)).length = v * 1 by simp [cellsU8]; omega)
              have hss := hide (show Sees WX WX.heap.size (some ⟨b, off + k, none⟩) (cellsU8 (r.take v)) by
                have h1 := ((HSE.out.more (Nat.le_of_lt FX.out.kp.r.lt)).drop k).take v
                have e1 : (cellsU8 zs).drop k = cellsU8 (zs.drop k) := by simp [cellsU8]
                rw [e1, take_cells] at h1
                have e2 : (zs.drop k).take v = r.take v := by rw [← HS.out, List.drop_take, List.take_take, Nat.min_eq_left (by omega)]
                rw [e2] at h1
                simpa [WideShapes.add_plain] using h1)
              have hcn := hz.out.nc
              have hcm := hz.out.cm
              have hBX : w.heap.size < WX.heap.size := by have := FX.out.row.lt; omega
              have hkz1 : (k : Int) + (v : Int) ≤ (c : Int) := by omega
              have hkz2 : (k : Int) + (v : Int) ≤ (n : Int) := by omega
              have hw := wrap_sum (k := k) (v := v) (by omega)
              have hck : ¬ (c = k) := by omega
              have hp0 : (0 : Int) ≤ (k : Int) + (v : Int) := by omega
              have htn : ((k : Int) + (v : Int)).toNat = k + v := by omega
              clear r8 hst8
              go_region_law
                (refine wp_append_seesN (.const (.slice none 0 0)) (.tmp 135) 22 rfl WX.heap.size 5 u0 (.int .u8 0) 1 1 Tryd.underlying22 ui uz0 uz1 uz2 rfl (by decide) (.slice none 0 0) 0 [] rfl (World.ownsRow_nil _ _ _ _) WX.heap.size (some ⟨b, off + k, none⟩) v (c - k) (cellsU8 (r.take v)) rfl (hide (fun e => by cases e)) hlv (hide (hss.out.draws 1)) (hide (by omega)) (one_u8 _) (by unfold maxLen; omega) (by omega) (Nat.le_refl _) ?_; intro v3 w9 ho9 hg9; have HG9 : WX.grownBy w9 none := (grown_draws (World.grownBy.refl WX none) 1).trans hg9; have F9 := hide (FX.out.kept hg HG9); have p0 := F9.out.row.cell (k := 0) rfl; have p1 := F9.out.row.cell (k := 1) rfl; have p2 := F9.out.row.cell (k := 2) rfl; have q0 := F9.out.res.cell (k := 0) rfl; have q1 := F9.out.res.cell (k := 1) rfl; have q2 := F9.out.res.cell (k := 2) rfl; have y0 := F9.out.res.free 0; have y1 := F9.out.res.free 1; have y2 := F9.out.res.free 2; obtain ⟨A3, c3', rfl, hA3, hc3, hf3, -⟩ := own_seen ho9)
              all_goals
                simp only [Nat.zero_add, List.nil_append] at ho9
                have hf := ((F9.out.res.set_ 0 (.int .i64 (P : Int))).set_ 1 (.slice A1 n1 c1)).set_ 2 (.slice A2 n2 c2)
                have f0 := hf.cell (k := 0) rfl
                have f1 := hf.cell (k := 1) rfl
                have f2 := hf.cell (k := 2) rfl
                have FIN := hide (func_end (S := .ok () l) F9.out hgfl hg hBX ho9 (by omega) HST.out FV.out)
                clear ho9 hg9 HG9 hA3 hc3 hf3
                go_wp2_with fail
                exact bodyPost_ret (v := .tuple #[fv (P : Int) A1 n1 c1 A2 n2 c2, .slice A3 v c3']) (by simp [results, Tryd.results67, go_sem, f0, f1, f2]) rfl FIN.out

            | cons z t =>
              have hlt1 : (k1 : Int) < ((k + v : Nat) : Int) := by simp at hl1; omega
              clear hl1
              go_quiet (fail)
              go_wp2_with fail
              refine (fail_ok (l := z :: t) (x := 2) (hide (hF.out.drewN _).kp.r) (by omega)).mono ?_
              rintro e w8 ⟨rfl, hR8, hG8⟩
              have F8 := hide ((hF.out.drewN _).to hgfl hg hR8 hG8)
              clear hR8 hG8 hF
              have DE := hide (show descR (r.take v) = .no 2 from DS.out)
              have FE := hide (show ((Rd.ok () l : Rd Unit).to fnR) = .no 2 by rw [FR.out, DE.out]; rfl)
              have FV := hide (show ∀ u r', (Rd.ok () l : Rd Unit).to fnR = .ok u r' → ((⟨(P : Int), L, C⟩ : Fn), r.take v) = u from fun u r' e => by rw [FE.out] at e; cases e)
              have HST := hide (show ((Rd.ok () l : Rd Unit).to fnR).st = (.no 2) by rw [FE.out]; rfl)
              obtain ⟨WX, hWX⟩ : ∃ WX, (w8).setCell ⟨g, 2, none⟩ (.int .i64 (en : Int)) = WX := ⟨_, rfl⟩
              have HWX := hide hWX
              have FX := hide (show FnI w g gf b off n c zs en (.no 2) (P : Int) A1 n1 c1 A2 n2 c2 ⟨(P : Int), L, C⟩ WX by rw [← hWX]; exact FnI.widen (F8.out) hgfl hg (widen_no (F8.out).kp.r hkv))
              obtain ⟨k9, e9, r9, hke9, hst9⟩ := F8.out.kp.r
              have d2 := r9.row.cell (k := 2) rfl
              have d3 := r9.row.free 2
              clear r9 hst9 hWX
              go_wp2_with fail
              rw [HWX.out]
              clear HWX d2 d3
              obtain ⟨k8, e8, r8, hke8, hst8⟩ := FX.out.kp.r
              have a0 := r8.row.cell (k := 0) rfl
              have HSE := hide r8.see
              have g0 := FX.out.row.cell (k := 0) rfl
              have g1 := FX.out.row.cell (k := 1) rfl
              have g2 := FX.out.row.cell (k := 2) rfl
              have z0 := FX.out.res.cell (k := 0) rfl
              have z1 := FX.out.res.cell (k := 1) rfl
              have z2 := FX.out.res.cell (k := 2) rfl
              have hlv := hide (show (cellsU8 (r.take v)).length = v * 1 by simp [cellsU8]; omega)
              have hss := hide (show Sees WX WX.heap.size (some ⟨b, off + k, none⟩) (cellsU8 (r.take v)) by
                have h1 := ((HSE.out.more (Nat.le_of_lt FX.out.kp.r.lt)).drop k).take v
                have e1 : (cellsU8 zs).drop k = cellsU8 (zs.drop k) := by simp [cellsU8]
                rw [e1, take_cells] at h1
                have e2 : (zs.drop k).take v = r.take v := by rw [← HS.out, List.drop_take, List.take_take, Nat.min_eq_left (by omega)]
                rw [e2] at h1
                simpa [WideShapes.add_plain] using h1)
              have hcn := hz.out.nc
              have hcm := hz.out.cm
              have hBX : w.heap.size < WX.heap.size := by have := FX.out.row.lt; omega
              have hkz1 : (k : Int) + (v : Int) ≤ (c : Int) := by omega
              have hkz2 : (k : Int) + (v : Int) ≤ (n : Int) := by omega
              have hw := wrap_sum (k := k) (v := v) (by omega)
              have hck : ¬ (c = k) := by omega
              have hp0 : (0 : Int) ≤ (k : Int) + (v : Int) := by omega
              have htn : ((k : Int) + (v : Int)).toNat = k + v := by omega
              clear r8 hst8
              go_region_law
                (refine wp_append_seesN (.const (.slice none 0 0)) (.tmp 135) 22 rfl WX.heap.size 5 u0 (.int .u8 0) 1 1 Tryd.underlying22 ui uz0 uz1 uz2 rfl (by decide) (.slice none 0 0) 0 [] rfl (World.ownsRow_nil _ _ _ _) WX.heap.size (some ⟨b, off + k, none⟩) v (c - k) (cellsU8 (r.take v)) rfl (hide (fun e => by cases e)) hlv (hide (hss.out.draws 1)) (hide (by omega)) (one_u8 _) (by unfold maxLen; omega) (by omega) (Nat.le_refl _) ?_; intro v3 w9 ho9 hg9; have HG9 : WX.grownBy w9 none := (grown_draws (World.grownBy.refl WX none) 1).trans hg9; have F9 := hide (FX.out.kept hg HG9); have p0 := F9.out.row.cell (k := 0) rfl; have p1 := F9.out.row.cell (k := 1) rfl; have p2 := F9.out.row.cell (k := 2) rfl; have q0 := F9.out.res.cell (k := 0) rfl; have q1 := F9.out.res.cell (k := 1) rfl; have q2 := F9.out.res.cell (k := 2) rfl; have y0 := F9.out.res.free 0; have y1 := F9.out.res.free 1; have y2 := F9.out.res.free 2; obtain ⟨A3, c3', rfl, hA3, hc3, hf3, -⟩ := own_seen ho9)
              all_goals
                simp only [Nat.zero_add, List.nil_append] at ho9
                have hf := ((F9.out.res.set_ 0 (.int .i64 (P : Int))).set_ 1 (.slice A1 n1 c1)).set_ 2 (.slice A2 n2 c2)
                have f0 := hf.cell (k := 0) rfl
                have f1 := hf.cell (k := 1) rfl
                have f2 := hf.cell (k := 2) rfl
                have FIN := hide (func_end (S := .ok () l) F9.out hgfl hg hBX ho9 (by omega) HST.out FV.out)
                clear ho9 hg9 HG9 hA3 hc3 hf3
                go_wp2_with fail
                exact bodyPost_ret (v := .tuple #[fv (P : Int) A1 n1 c1 A2 n2 c2, .slice A3 v c3']) (by simp [results, Tryd.results67, go_sem, f0, f1, f2]) rfl FIN.out



theorem func_any (g b off n c en : Nat) (zs : List Int) (S : Rd Unit) (w : World) (hz : Hid (Src n c zs)) (h : Hid (RdSt w g b off n c zs en S)) (hen : en ≤ n) (hec : en < c) :
    Calls Tryd.prog 67 #[.pointer (some ⟨g, 0, none⟩)] w (FuPost g b off n c zs en S w) := by
  cases S with
  | no x => exact func_no g b off n c en zs x w hz h hen
  | ok u l =>
    cases hm : numR l with
    | no x => exact func_err g b off n c en zs l x w hz h hen (hide hm)
    | ok v r =>
      by_cases hlt : r.length < v
      · exact func_short g b off n c en zs l r v w hz h hen (hide hm) hlt (numR_ok (h.out.byt hz.out) hm).2
      · exact func_main g b off n c en zs l r v w hz h hen (hide hm) (by omega) hec
end Go.Proofs.YtgcjckbndkddmaaDoor
end
