import Derived.Test.YtjbgepjdohfhkaaDoorMAlin
import Derived.Test.YtjbgepjdohfhkaaDoorMBruni
import Derived.Test.YtjbgepjdohfhkaaDoorMAwk
import Derived.Test.YtjbgepjdohfhkaaDoorMAscn
import Derived.Test.YtjbgepjdohfhkaaDoorMAlst
import Derived.Test.YtjbgepjdohfhkaaDoorMLhas
import Derived.Test.YtjbgepjdohfhkaaDoorMBlaid
import Derived.Test.YtjbgepjdohfhkaaDoorTie
import Derived.Test.YtjbgepjdohfhkaaDoorCards
import Derived.SevenTiedAt
set_option linter.unusedVariables false
set_option linter.unusedSimpArgs false
section
/-
  The contracts of liveness.sizeOf and liveness.Pressure. Conditions: those of the types; the function is right; the annotation has a set of slots for each instruction; the table of TrailingZeros64 lies as its initialiser lays it.
-/
namespace Go.Proofs.YtjbgepjdohfhkaaDoor
open Go.RowKit

def szN (sl : List (Int × Int)) (s : Int) : Int := (sl.getD s.toNat (0, 0)).1
/-- The sum of the sizes of slots; the greatest one of some sets. -/
def smL (sl : List (Int × Int)) (zs : List Int) : Int := zs.foldl (fun a s => a + szN sl s) 0
def prL (sl : List (Int × Int)) (IL : List (List Int)) : Int := IL.foldl (fun m zs => max m (smL sl zs)) 0
theorem smL_next (sl : List (Int × Int)) {zs : List Int} {i : Nat} (h : i < zs.length) : smL sl (zs.take (i + 1)) = smL sl (zs.take i) + szN sl zs[i] := by
  unfold smL
  rw [List.take_succ_eq_append_getElem h, List.foldl_append]
  rfl
theorem prL_next (sl : List (Int × Int)) {IL : List (List Int)} {i : Nat} (h : i < IL.length) : prL sl (IL.take (i + 1)) = max (prL sl (IL.take i)) (smL sl IL[i]) := by
  unfold prL
  rw [List.take_succ_eq_append_getElem h, List.foldl_append]
  rfl
/-- All sizes are small. -/
def SlOk (sl : List (Int × Int)) : Prop := ∀ u ∈ sl, 0 ≤ u.1 ∧ u.1 ≤ 16
theorem szN_le {sl : List (Int × Int)} (h : SlOk sl) (s : Int) : 0 ≤ szN sl s ∧ szN sl s ≤ 16 := by
  unfold szN
  rw [List.getD_eq_getElem?_getD]
  cases hx : sl[s.toNat]? with
  | none => simp
  | some u => exact h u (List.mem_of_getElem? hx)
theorem smL_le {sl : List (Int × Int)} (h : SlOk sl) (zs : List Int) : ∀ i : Nat, i ≤ zs.length → 0 ≤ smL sl (zs.take i) ∧ smL sl (zs.take i) ≤ 16 * i
  | 0, _ => by simp [smL]
  | i + 1, hi => by
    have h1 := smL_le h zs i (by omega)
    have h2 := szN_le h (zs[i]'(by omega))
    rw [smL_next sl (by omega)]
    omega
section
variable {P : Int} {A1 A2 A AL : Option Addr} {n1 c1 n2 c2 n c cL : Nat} {l : List Ins} {L : List (List Int)} {sl : List (Int × Int)} {zs : List Int} {w : World}
set_option maxHeartbeats 1000000 in
theorem sizeof_any (w : World) (hS : Hid (Sees w w.heap.size A1 (pcells sl))) (hl : sl.length = n1) (ho : Hid (SlOk sl)) (hZ : Hid (Lst w A n zs)) (hz : Hid (∀ z ∈ zs, 0 ≤ z ∧ z < n1)) (hn : n ≤ 512) (hn1 : n1 ≤ 512) :
    Calls Tryd.prog 28 #[fv P A1 n1 c1 A2 n2 c2, .slice A n c] w fun e w' => e = .returned (.int .i64 (smL sl zs)) ∧ Below w.heap.size w w' := by
  obtain ⟨W, hW⟩ : ∃ W, w.alloc (.cells #[.int .i64 P, .slice A1 n1 c1, .slice A2 n2 c2] 27) = W := ⟨_, rfl⟩
  have R1 := hide (show Row W w.heap.size 27 [.int .i64 P, .slice A1 n1 c1, .slice A2 n2 c2] by rw [← hW]; exact Row.new w _ _)
  have B1 := hide (show Below w.heap.size w W by rw [← hW]; exact below1 w _)
  have HW := hide hW
  have hlz := hZ.out.len
  clear hW
  go_enter Tryd.func28, Tryd.ntmps28
  go_upto_region 1 with (fail)
  rw [HW.out]
  clear HW
  go_wp2_with fail
  go_loopw [5, 7, 10] (fun s5 s7 s10 wr => ∃ i : Nat, i ≤ n ∧ s5 = .int .i64 (smL sl (zs.take i)) ∧ s10 = .int .i64 (i : Int) ∧ Hid (W = wr)) (fun _ _ s10 _ => n - (intOf s10).toNat)
  case atStart => exact ⟨0, by omega, rfl, rfl, hide rfl⟩
  case round =>
    obtain ⟨i, hi, rfl, rfl, hwr⟩ := hrel
    obtain rfl := hwr.out
    by_cases hlt : i < n
    · have l1 : i < zs.length := by omega
      obtain ⟨b1, o1, rfl, _, hc1⟩ := int_at hZ.out.see l1
      have hzi := hz.out zs[i] (List.getElem_mem l1)
      have hsn := smL_next sl l1
      have hb0 := smL_le ho.out zs i (by omega)
      have hb1 := szN_le ho.out zs[i]
      generalize zs[i] = z at hc1 hzi hsn hb1
      obtain ⟨s, rfl⟩ := Int.eq_ofNat_of_zero_le hzi.1
      have hs : s < sl.length := by omega
      obtain ⟨b2, o2, rfl, _, hp0, -⟩ := pair_at hS.out hs
      have hsz : sl[s].1 = szN sl (s : Int) := by
        unfold szN
        rw [List.getD_eq_getElem?_getD, Int.toNat_natCast, List.getElem?_eq_getElem hs]
        rfl
      rw [hsz] at hp0
      have x0 := keep_cellB B1.out hc1
      have x1 := keep_cellB B1.out hp0
      have q1 := R1.out.cell (k := 1) rfl
      have HSN := hide hsn
      obtain ⟨a, ha⟩ : ∃ a, smL sl (zs.take i) = a := ⟨_, rfl⟩
      obtain ⟨d, hd⟩ : ∃ d, szN sl (s : Int) = d := ⟨_, rfl⟩
      rw [ha] at hb0 HSN
      rw [hd] at hb1 HSN x1
      rw [ha]
      have hw : IntKind.i64.wrap (a + d) = a + d := by rw [IntKind.wrap_i64]; omega
      have hs0 : (0 : Int) ≤ (s : Int) := by omega
      have hs1 : (s : Int) < (n1 : Int) := by omega
      clear hsn ha hd hc1 hp0 hsz hs l1 hzi
      go_wp2_with fail
      go_roundw
      case rel => exact ⟨i + 1, by omega, by rw [HSN.out], by go_num, hide (by trivial)⟩
      case measure => simp [intOf]; omega
    · obtain rfl : i = n := by omega
      have HE := hide (show smL sl (zs.take i) = smL sl zs by rw [List.take_of_length_le (by omega)])
      go_wp2_with fail
      go_ret
      exact ⟨ret_int HE.out, B1.out⟩
theorem prL_le {sl : List (Int × Int)} (h : SlOk sl) {IL : List (List Int)} (hI : ∀ zs ∈ IL, zs.length ≤ 512) : ∀ i : Nat, i ≤ IL.length → 0 ≤ prL sl (IL.take i) ∧ prL sl (IL.take i) ≤ 8192
  | 0, _ => by simp [prL]
  | i + 1, hi => by
    have h1 := prL_le h hI i (by omega)
    have h2 := smL_le h (IL[i]'(by omega)) (IL[i]'(by omega)).length (Nat.le_refl _)
    rw [List.take_length] at h2
    have h3 := hI (IL[i]'(by omega)) (List.getElem_mem _)
    rw [prL_next sl (by omega)]
    omega
set_option maxHeartbeats 2000000 in
theorem lpress_any (w : World) (hC : Hid (CdAt w A2 n2 l)) (hok : Hid (LvOk l n1)) (hL : Hid (Ann w AL n2 L)) (hLI : Hid (LvIn n2 n1 L)) (hT : Hid (Tab w)) (hS : Hid (Sees w w.heap.size A1 (pcells sl))) (hl : sl.length = n1) (ho : Hid (SlOk sl)) :
    Calls Tryd.prog 13 #[fv P A1 n1 c1 A2 n2 c2, .agg #[.slice AL n2 cL]] w fun e w' => e = .returned (.int .i64 (prL sl (insL l L))) ∧ Below w.heap.size w w' := by
  have hlen := hC.out.len
  have hn2 := hC.out.few
  have hn1 := hok.out.few
  obtain ⟨W2, hW2⟩ : ∃ W, (w.alloc (.cells #[.int .i64 P, .slice A1 n1 c1, .slice A2 n2 c2] 27)).alloc (.cells #[.slice AL n2 cL] 30) = W := ⟨_, rfl⟩
  have F2 := hide (show Row W2 w.heap.size 27 [.int .i64 P, .slice A1 n1 c1, .slice A2 n2 c2] by rw [← hW2]; exact (Row.new w _ _).alloc _)
  have L2 := hide (show Row W2 (w.heap.size + 1) 30 [.slice AL n2 cL] by rw [← hW2]; exact (Row.new _ _ _).at_ (by simp))
  have B2 := hide (show Below w.heap.size w W2 by rw [← hW2]; exact below2 w _ _)
  have HW2 := hide hW2
  have q0 := F2.out.cell (k := 0) rfl
  have q1 := F2.out.cell (k := 1) rfl
  have q2 := F2.out.cell (k := 2) rfl
  have q3 := L2.out.cell (k := 0) rfl
  have ci := lins_any (P := P) (A1 := A1) (n1 := n1) (c1 := c1) (c2 := c2) (cL := cL) W2 (hide (hC.out.below B2.out)) hok (hide (hL.out.below B2.out)) hLI (hide (hT.out.below B2.out))
  unfold AnPost at ci
  have hil : (insL l L).length = n2 := by rw [insL_len, hlen]
  rw [hil] at ci
  have hIA := hide (show ∀ (k : Nat) (zs : List Int), (insL l L)[k]? = some zs → Asc zs ∧ ∀ z ∈ zs, 0 ≤ z ∧ z < n1 from fun k zs hk => by
    have hk2 : k < l.length := by have := (List.getElem?_eq_some_iff.1 hk).1; omega
    rw [insL_at l L hk2] at hk
    injection hk with hk
    subst hk
    have ha := inK_asc (l := l) hLI.out.asc k
    exact ⟨ha, fun z hz => ⟨(ha.2 z hz).1, inK_lt hok.out (by rw [hlen]; exact hLI.out) hz⟩⟩)
  obtain ⟨IL, hIL⟩ : ∃ I, insL l L = I := ⟨_, rfl⟩
  rw [hIL] at ci hil hIA
  have HIL := hide hIL
  have HBD := hide (prL_le ho.out (IL := IL) (fun zs hz => by
    obtain ⟨k, hk⟩ := List.mem_iff_getElem?.1 hz
    exact (hIA.out k zs hk).1.length))
  clear hW2 hIL
  go_enter Tryd.func13, Tryd.ntmps13
  go_upto_region 1 with (fail)
  rw [HW2.out]
  clear HW2
  go_wp2_with fail
  refine ci.mono ?_
  rintro e w4 ⟨gi, vi, rfl, hoi, hb4⟩
  have F4 := hide (F2.out.call hb4)
  have O4 := hide hoi
  have B4 := hide (below_call B2.out hb4)
  clear hoi hb4 ci q0 q1 q2 q3 F2 L2 B2
  go_wp2_with fail
  go_loopw [5, 7, 12] (fun s5 s7 s12 wr => ∃ i : Nat, i ≤ n2 ∧ s5 = .int .i64 (prL sl (IL.take i)) ∧ s12 = .int .i64 (i : Int) ∧ Hid (Below w4.heap.size w4 wr)) (fun _ _ s12 _ => n2 - (intOf s12).toNat)
  case atStart => exact ⟨0, by omega, rfl, rfl, hide (Below.refl _ _)⟩
  case round =>
    obtain ⟨i, hi, rfl, rfl, hbr⟩ := hrel
    by_cases hlt : i < n2
    · have li : i < IL.length := by omega
      have hii := List.getElem?_eq_getElem li
      obtain ⟨Ai, ci', -, z0, hli, -, -⟩ := (O4.out.below hbr.out).vat hii
      obtain ⟨has, hzs⟩ := hIA.out i _ hii
      have hpn := prL_next sl li
      have hb0 := HBD.out i (by omega)
      generalize IL[i] = zs at z0 hli has hzs hpn
      have hb1 := smL_le ho.out zs zs.length (Nat.le_refl _)
      rw [List.take_length] at hb1
      have hzl := has.length
      have q0 := (F4.out.call hbr.out).cell (k := 0) rfl
      have q1 := (F4.out.call hbr.out).cell (k := 1) rfl
      have q2 := (F4.out.call hbr.out).cell (k := 2) rfl
      have cs := sizeof_any (P := P) (A2 := A2) (n2 := n2) (c1 := c1) (c2 := c2) (c := ci') wr (hide ((hS.out.below (below_call B4.out hbr.out)).more (below_call B4.out hbr.out).size)) hl ho (hide hli) (hide hzs) (by omega) hn1
      have HPN := hide hpn
      obtain ⟨a, ha⟩ : ∃ a, prL sl (IL.take i) = a := ⟨_, rfl⟩
      obtain ⟨d, hd⟩ : ∃ d, smL sl zs = d := ⟨_, rfl⟩
      rw [ha] at HPN hb0
      rw [hd] at cs HPN hb1
      rw [ha]
      have hi0 : (0 : Int) ≤ (i : Int) := by omega
      have hin : (i : Int) < (n2 : Int) := by omega
      clear hpn ha hd has hzs hli hii li
      go_wp2_with fail
      refine cs.mono ?_
      rintro e w6 ⟨rfl, hb6⟩
      have B6 := hide (below_call hbr.out hb6)
      clear hb6 cs z0 q0 q1 q2
      go_wp2_with fail
      go_roundw
      case rel => exact ⟨i + 1, by omega, by rw [HPN.out], by go_num, B6⟩
      case measure => simp [intOf]; omega
    · obtain rfl : i = n2 := by omega
      have HE := hide (show prL sl (IL.take i) = prL sl (insL l L) by rw [List.take_of_length_le (by omega), HIL.out])
      have HF := hide (below_call B4.out hbr.out)
      go_wp2_with fail
      go_ret
      exact ⟨ret_int HE.out, HF.out⟩
end
end Go.Proofs.YtjbgepjdohfhkaaDoor
end

section
/-
  The contract of the reference's Ins (chapter 16). Conditions: those of the types; the function is right; the annotation has a set of slots for each instruction.
-/
namespace Go.Proofs.YtjbgepjdohfhkaaDoor
open Go.RowKit

section
variable {P : Int} {A1 : Option Addr} {n1 c1 : Nat} {A2 : Option Addr} {n2 c2 : Nat} {AL : Option Addr} {cL : Nat} {l : List Ins} {L zss : List (List Int)} {M : Nat} {w wr w2 : World} {vs : List Value}
set_option maxRecDepth 100000 in
set_option maxHeartbeats 4000000 in
theorem rins16_any (w : World) (hC : Hid (CdAt w A2 n2 l)) (hok : Hid (LvOk l M)) (hL : Hid (Ann w AL n2 L)) (hLI : Hid (LvIn n2 M L)) :
    Calls Tryd.prog 9 #[fv P A1 n1 c1 A2 n2 c2, .agg #[.slice AL n2 cL]] w (AnPost (insL l L) w) := by
  obtain ⟨j0, ji, jz0, jz1, jz2⟩ := info_parts infoS
  have hlen := hC.out.len
  have hn2 := hC.out.few
  have hmk := fmade2 (P := Tryd.prog) Tryd.underlying28 ji jz0 jz1 (by omega) rfl n2 (by omega) (L := nils n2) rfl
  obtain ⟨W2, hW2⟩ : ∃ W, (w.alloc (.cells #[.int .i64 P, .slice A1 n1 c1, .slice A2 n2 c2] 27)).alloc (.cells #[.slice AL n2 cL] 30) = W := ⟨_, rfl⟩
  have F2 := hide (show Row W2 w.heap.size 27 [.int .i64 P, .slice A1 n1 c1, .slice A2 n2 c2] by rw [← hW2]; exact (Row.new w _ _).alloc _)
  have L2 := hide (show Row W2 (w.heap.size + 1) 30 [.slice AL n2 cL] by rw [← hW2]; exact (Row.new _ _ _).at_ (by simp))
  have B2 := hide (show Below w.heap.size w W2 by rw [← hW2]; exact below2 w _ _)
  have hs2 : W2.heap.size = w.heap.size + 2 := by rw [← hW2]; simp
  obtain ⟨W3, hW3⟩ : ∃ W, W2.alloc (.cells (nils n2).toArray 42) = W := ⟨_, rfl⟩
  have I3 := hide (show InI w P A1 n1 c1 A2 n2 c2 AL cL (nils n2) (inI l L 0) W3 by
    rw [inI_start, hlen, ← hW3]
    exact ⟨F2.out.alloc _, L2.out.alloc _, Anw.make ((Row.new W2 _ _).at_ hs2) (by omega), B2.out.alloc B2.out.size _⟩)
  have HW3 := hide hW3
  have HW2 := hide hW2
  have HS2 := hide hs2
  clear hW2 hs2 hW3
  go_enter Tryd.func9, Tryd.ntmps9
  go_upto_region 1 with (fail)
  rw [HW2.out]
  have q2 := F2.out.cell (k := 2) rfl
  clear HW2
  go_upto_region 2 with (fail)
  rw [HS2.out, HW3.out]
  clear q2 hmk HW3 HS2 F2 L2 B2
  have q2 := I3.out.f.cell (k := 2) rfl
  go_wp2_with fail
  clear q2
  go_loopw [6] (fun s6 wr => ∃ (k : Nat) (vs : List Value), s6 = .int .i64 (k : Int) ∧ k ≤ n2 ∧ Hid (InI w P A1 n1 c1 A2 n2 c2 AL cL vs (inI l L k) wr)) (fun s6 _ => n2 - (intOf s6).toNat)
  case atStart => exact ⟨0, _, rfl, by omega, I3⟩
  case round =>
    obtain ⟨k, vs, rfl, hkn, hI⟩ := hrel
    clear I3
    by_cases hlt : k < n2
    · have hk0 : (0 : Int) ≤ (k : Int) := by omega
      have hkn : (k : Int) < (n2 : Int) := by omega
      have hkl : k < l.length := by omega
      obtain ⟨x, hx⟩ : ∃ x, l[k]? = some x := ⟨_, List.getElem?_eq_getElem hkl⟩
      obtain ⟨_, hxe⟩ := List.getElem?_eq_some_iff.1 hx
      obtain ⟨b2, o2, rfl, hb2, y0, y1, y2, y3, y4⟩ := ins_at hC.out.see hkl
      rw [hxe] at y0 y1 y2 y3 y4
      obtain ⟨b3, o3, A3, c3, rfl, hb3, y5, hl3, hn3⟩ := hL.out.at_ (i := k) hlt
      obtain ⟨zj, hzj⟩ : ∃ z, L.getD k [] = z := ⟨_, rfl⟩
      have hzA : Asc zj := by rw [← hzj]; exact hLI.out.asc k
      have hKJ : inK l L k = inX x zj := by rw [inK_some hx, hzj]
      rw [hzj] at y5 hl3
      have I4 := hI
      have HST := hide (inI_step (L := L) hkl)
      have HAL := hide (show k < (inI l L k).length by rw [inI_len]; exact hkl)
      have HVA := hide (inK_asc (l := l) (L := L) hLI.out.asc k)
      have CI := hide (fun (V : World) (h : Below w.heap.size w V) =>
        (show Calls Tryd.prog 23 #[iv x.op x.a x.b x.c x.imm, .slice A3 zj.length c3] V (OutPost (inK l L k) V) by
          have q := rin_use x.op x.a x.b x.c x.imm A3 zj.length c3 zj V (hide (hok.out.usAsc hx)) (hide (hl3.below h)) (hide hzA) (hide hn3)
          rw [hKJ]
          exact q))
      obtain ⟨r, hr⟩ : ∃ r, inK l L k = r := ⟨_, rfl⟩
      rw [hr] at HST HVA CI
      have HRA := hide (IntOk.asc HVA.out)
      have HPT := hide (fun (V : World) (A' : Option Addr) (c' : Nat) (h : Hid (InI w P A1 n1 c1 (some ⟨b2, o2, none⟩) n2 c2 (some ⟨b3, o3, none⟩) cL vs (inI l L k) V)) (ho : V.ownsRow w.heap.size 3 1 (.slice A' r.length c') r.length (cellsI r)) =>
        (show InI w P A1 n1 c1 (some ⟨b2, o2, none⟩) n2 c2 (some ⟨b3, o3, none⟩) cL (vs.set k (.slice A' r.length c')) (inI l L (k + 1)) (V.setCell ⟨w.heap.size + 2, k, none⟩ (.slice A' r.length c')) by
          rw [HST.out]; exact h.out.put HAL.out ho HRA.out))
      have HZ := hide (fun (V : World) (h : Hid (InI w P A1 n1 c1 (some ⟨b2, o2, none⟩) n2 c2 (some ⟨b3, o3, none⟩) cL vs (inI l L k) V)) => (show (∃ u, V.cell? ⟨w.heap.size + 2, k, none⟩ = some u) ∧ V.frozen? ⟨w.heap.size + 2, k, none⟩ = false from
        ⟨by obtain ⟨Ak, ck, -, z, -⟩ := h.out.o.vat (List.getElem?_eq_getElem HAL.out); exact ⟨_, z⟩, h.out.o.free k⟩))
      have KS := hide (fun (V : World) (h : Hid (InI w P A1 n1 c1 (some ⟨b2, o2, none⟩) n2 c2 (some ⟨b3, o3, none⟩) cL vs (inI l L k) V)) =>
        (⟨h.out.f.cell (k := 2) rfl, keep_cellB h.out.b y0, keep_cellB h.out.b y1, keep_cellB h.out.b y2, keep_cellB h.out.b y3, keep_cellB h.out.b y4, h.out.l.cell (k := 0) rfl, keep_cellB h.out.b y5⟩ : _ ∧ _ ∧ _ ∧ _ ∧ _ ∧ _ ∧ _ ∧ _))
      have HSZ := hide I4.out.b.size
      have hq2 := I4.out.f.cell (k := 2) rfl
      clear hxe hx hzj hzA hKJ hr y0 y1 y2 y3 y4 y5 hl3 hn3 hb2 hb3
      go_upto_region 5 with (fail)
      clear hq2
      have J0 := hide (I4.out.call (Below.refl _ _).drew)
      have HS0 := KS.out _ J0
      have B0 := hide (show Below wr.heap.size wr wr.drew from (Below.refl _ _).drew)
      refine wp_region_lastH (S := (fun V => V.cell? ⟨w.heap.size, 2, none⟩ = some (.slice (some ⟨b2, o2, none⟩) n2 c2) ∧ V.cell? ⟨b2, o2 + k * 5, none⟩ = some (.int .i64 x.op) ∧ V.cell? ⟨b2, o2 + k * 5 + 1, none⟩ = some (.int .i64 x.a) ∧ V.cell? ⟨b2, o2 + k * 5 + 2, none⟩ = some (.int .i64 x.b) ∧ V.cell? ⟨b2, o2 + k * 5 + 3, none⟩ = some (.int .i64 x.c) ∧ V.cell? ⟨b2, o2 + k * 5 + 4, none⟩ = some (.int .u64 x.imm) ∧
          V.cell? ⟨w.heap.size + 1, 0, none⟩ = some (.slice (some ⟨b3, o3, none⟩) n2 cL) ∧ V.cell? ⟨b3, o3 + k, none⟩ = some (.slice A3 zj.length c3))) 14 (by kernel_rfl) rfl rfl (by kernel_rfl) ?_
      have hHeld := HS0
      refine wpAnyH_take (i := 0) (v := ?_) tk_0 (by kernel_rfl) (by kernel_rfl) (by kernel_rfl) (fun _ _ _ h => h) (Or.inl ⟨by rfl, ?_⟩) hHeld ?_
      rotate_left
      · intro V hSw
        try dsimp only at hSw
        go_simp
        all_goals with_reducible rfl
      try simp only [Act.put, List.setIfInBounds_toArray, List.set_cons_zero, List.set_cons_succ]
      refine wpAnyH_take (i := 1) (v := ?_) tk_1 (by kernel_rfl) (by kernel_rfl) (by kernel_rfl) (fun _ _ _ h => h) (Or.inl ⟨by rfl, ?_⟩) hHeld ?_
      rotate_left
      · intro V hSw
        try dsimp only at hSw
        go_simp
        all_goals with_reducible rfl
      try simp only [Act.put, List.setIfInBounds_toArray, List.set_cons_zero, List.set_cons_succ]
      refine wpAnyH_take (i := 2) (v := ?_) tk_2 (by kernel_rfl) (by kernel_rfl) (by kernel_rfl) (fun _ _ _ h => h) (Or.inl ⟨by rfl, ?_⟩) hHeld ?_
      rotate_left
      · intro V hSw
        try dsimp only at hSw
        go_simp
        all_goals with_reducible rfl
      try simp only [Act.put, List.setIfInBounds_toArray, List.set_cons_zero, List.set_cons_succ]
      refine wpAnyH_take (i := 3) (v := ?_) tk_3 (by kernel_rfl) (by kernel_rfl) (by kernel_rfl) (fun _ _ _ h => h) (Or.inl ⟨by rfl, ?_⟩) hHeld ?_
      rotate_left
      · intro V hSw
        try dsimp only at hSw
        go_simp
        all_goals with_reducible rfl
      try simp only [Act.put, List.setIfInBounds_toArray, List.set_cons_zero, List.set_cons_succ]
      refine wpAnyH_take (i := 4) (v := ?_) tk_4 (by kernel_rfl) (by kernel_rfl) (by kernel_rfl) (fun _ _ _ h => h) (Or.inl ⟨by rfl, ?_⟩) hHeld ?_
      rotate_left
      · intro V hSw
        try dsimp only at hSw
        go_simp
        all_goals with_reducible rfl
      try simp only [Act.put, List.setIfInBounds_toArray, List.set_cons_zero, List.set_cons_succ]
      refine wpAnyH_take (i := 5) (v := ?_) tk_5 (by kernel_rfl) (by kernel_rfl) (by kernel_rfl) (fun _ _ _ h => h) (Or.inl ⟨by rfl, ?_⟩) hHeld ?_
      rotate_left
      · intro V hSw
        try dsimp only at hSw
        go_simp
        all_goals with_reducible rfl
      try simp only [Act.put, List.setIfInBounds_toArray, List.set_cons_zero, List.set_cons_succ]
      refine wpAnyH_take (i := 6) (v := ?_) tk_6 (by kernel_rfl) (by kernel_rfl) (by kernel_rfl) (fun _ _ _ h => h) (Or.inl ⟨by rfl, ?_⟩) hHeld ?_
      rotate_left
      · intro V hSw
        try dsimp only at hSw
        go_simp
        all_goals with_reducible rfl
      try simp only [Act.put, List.setIfInBounds_toArray, List.set_cons_zero, List.set_cons_succ]
      refine wpAnyH_take (i := 7) (v := ?_) tk_7 (by kernel_rfl) (by kernel_rfl) (by kernel_rfl) (fun _ _ _ h => h) (Or.inl ⟨by rfl, ?_⟩) hHeld ?_
      rotate_left
      · intro V hSw
        try dsimp only at hSw
        go_simp
        all_goals with_reducible rfl
      try simp only [Act.put, List.setIfInBounds_toArray, List.set_cons_zero, List.set_cons_succ]
      refine wpAnyH_take (i := 8) (v := ?_) tk_8 (by kernel_rfl) (by kernel_rfl) (by kernel_rfl) (fun _ _ _ h => h) (Or.inl ⟨by rfl, ?_⟩) hHeld ?_
      rotate_left
      · intro V hSw
        try dsimp only at hSw
        go_simp
        all_goals with_reducible rfl
      try simp only [Act.put, List.setIfInBounds_toArray, List.set_cons_zero, List.set_cons_succ]
      refine wpAnyH_take (i := 9) (v := ?_) tk_9 (by kernel_rfl) (by kernel_rfl) (by kernel_rfl) (fun _ _ _ h => h) (Or.inl ⟨by rfl, ?_⟩) hHeld ?_
      rotate_left
      · intro V hSw
        try dsimp only at hSw
        go_simp
        all_goals with_reducible rfl
      try simp only [Act.put, List.setIfInBounds_toArray, List.set_cons_zero, List.set_cons_succ]
      refine wpAnyH_take (i := 10) (v := ?_) tk_10 (by kernel_rfl) (by kernel_rfl) (by kernel_rfl) (fun _ _ _ h => h) (Or.inl ⟨by rfl, ?_⟩) hHeld ?_
      rotate_left
      · intro V hSw
        try dsimp only at hSw
        go_simp
        all_goals with_reducible rfl
      try simp only [Act.put, List.setIfInBounds_toArray, List.set_cons_zero, List.set_cons_succ]
      refine wpAnyH_take (i := 11) (v := ?_) tk_11 (by kernel_rfl) (by kernel_rfl) (by kernel_rfl) (fun _ _ _ h => h) (Or.inl ⟨by rfl, ?_⟩) hHeld ?_
      rotate_left
      · intro V hSw
        try dsimp only at hSw
        go_simp
        all_goals with_reducible rfl
      try simp only [Act.put, List.setIfInBounds_toArray, List.set_cons_zero, List.set_cons_succ]
      refine wpAnyH_ready (rs := [12]) (by kernel_rfl) (by simp) ?_
      refine AllReadyH.cons tk_12 (fun K hK => ?_) AllReadyH.nil
      go_simp
      go_at_call 23
      with_reducible refine Calls.mono (CI.out _ J0.out.b) ?_
      intro e w6 h6
      unfold OutPost at h6
      obtain ⟨A6, c6, rfl, ho6, hb6⟩ := h6
      have J6 := hide (J0.out.call hb6)
      have HS6 := KS.out _ J6
      obtain ⟨⟨u6, z6⟩, f6⟩ := HZ.out _ J6
      have J7 := hide (HPT.out _ _ _ J6 (own_lower ho6 (Nat.le_trans HSZ.out B0.out.size)))
      clear ho6 hb6
      refine hK.out _ _ HS6 (fun hHeld => ?_)
      clear hK K
      try simp only [Act.put, List.setIfInBounds_toArray, List.set_cons_zero, List.set_cons_succ]
      refine wpAnyH_take (i := 13) (v := ?_) tk_13 (by kernel_rfl) (by kernel_rfl) (by kernel_rfl) (fun _ _ _ h => h) (Or.inl ⟨by rfl, ?_⟩) hHeld ?_
      rotate_left
      · intro V hSw
        try dsimp only at hSw
        go_simp
        all_goals with_reducible rfl
      try simp only [Act.put, List.setIfInBounds_toArray, List.set_cons_zero, List.set_cons_succ]
      refine wpAnyH_done (by kernel_rfl) ?_ _
      unfold LastQ
      clear HS0 HS6 CI HZ KS J0 HPT HST HRA HAL I4 hI
      go_wp2_with fail
      go_roundw
      case rel => exact ⟨k + 1, _, by go_num, by omega, J7⟩
      case measure => simp [intOf]; omega
    · obtain rfl : k = n2 := by omega
      have HE := hide (show inI l L k = insL l L by rw [← hlen]; exact inI_end l L)
      have HF := hide (show AnPost (insL l L) w (.returned (.slice (some ⟨w.heap.size + 2, 0, none⟩) k k)) wr from ⟨w.heap.size + 2, vs, by rw [insL_len, hlen], by rw [← HE.out]; exact hI.out.o, hI.out.b⟩)
      have hq2 := hI.out.f.cell (k := 2) rfl
      clear hI
      go_wp2_with fail
      go_ret
      exact HF.out
end
end Go.Proofs.YtjbgepjdohfhkaaDoor
end

section
/-
  The contract of the reference's Pressure (chapter 16). Conditions: those of the types; the function is right; the annotation has a set of slots for each instruction.
-/
namespace Go.Proofs.YtjbgepjdohfhkaaDoor
open Go.RowKit

section
variable {P : Int} {A1 A2 A AL : Option Addr} {n1 c1 n2 c2 n c cL : Nat} {l : List Ins} {L : List (List Int)} {sl : List (Int × Int)} {zs : List Int} {w : World}
set_option maxHeartbeats 2000000 in
theorem rpress_any (w : World) (hC : Hid (CdAt w A2 n2 l)) (hok : Hid (LvOk l n1)) (hL : Hid (Ann w AL n2 L)) (hLI : Hid (LvIn n2 n1 L)) (hS : Hid (Sees w w.heap.size A1 (pcells sl))) (hl : sl.length = n1) (ho : Hid (SlOk sl)) :
    Calls Tryd.prog 14 #[fv P A1 n1 c1 A2 n2 c2, .agg #[.slice AL n2 cL]] w fun e w' => e = .returned (.int .i64 (prL sl (insL l L))) ∧ Below w.heap.size w w' := by
  have hlen := hC.out.len
  have hn2 := hC.out.few
  have hn1 := hok.out.few
  obtain ⟨W2, hW2⟩ : ∃ W, (w.alloc (.cells #[.int .i64 P, .slice A1 n1 c1, .slice A2 n2 c2] 27)).alloc (.cells #[.slice AL n2 cL] 30) = W := ⟨_, rfl⟩
  have F2 := hide (show Row W2 w.heap.size 27 [.int .i64 P, .slice A1 n1 c1, .slice A2 n2 c2] by rw [← hW2]; exact (Row.new w _ _).alloc _)
  have L2 := hide (show Row W2 (w.heap.size + 1) 30 [.slice AL n2 cL] by rw [← hW2]; exact (Row.new _ _ _).at_ (by simp))
  have B2 := hide (show Below w.heap.size w W2 by rw [← hW2]; exact below2 w _ _)
  have HW2 := hide hW2
  have q0 := F2.out.cell (k := 0) rfl
  have q1 := F2.out.cell (k := 1) rfl
  have q2 := F2.out.cell (k := 2) rfl
  have q3 := L2.out.cell (k := 0) rfl
  have ci := rins16_any (P := P) (A1 := A1) (n1 := n1) (c1 := c1) (c2 := c2) (cL := cL) W2 (hide (hC.out.below B2.out)) hok (hide (hL.out.below B2.out)) hLI
  unfold AnPost at ci
  have hil : (insL l L).length = n2 := by rw [insL_len, hlen]
  rw [hil] at ci
  have hIA := hide (show ∀ (k : Nat) (zs : List Int), (insL l L)[k]? = some zs → Asc zs ∧ ∀ z ∈ zs, 0 ≤ z ∧ z < n1 from fun k zs hk => by
    have hk2 : k < l.length := by have := (List.getElem?_eq_some_iff.1 hk).1; omega
    rw [insL_at l L hk2] at hk
    injection hk with hk
    subst hk
    have ha := inK_asc (l := l) hLI.out.asc k
    exact ⟨ha, fun z hz => ⟨(ha.2 z hz).1, inK_lt hok.out (by rw [hlen]; exact hLI.out) hz⟩⟩)
  obtain ⟨IL, hIL⟩ : ∃ I, insL l L = I := ⟨_, rfl⟩
  rw [hIL] at ci hil hIA
  have HIL := hide hIL
  have HBD := hide (prL_le ho.out (IL := IL) (fun zs hz => by
    obtain ⟨k, hk⟩ := List.mem_iff_getElem?.1 hz
    exact (hIA.out k zs hk).1.length))
  clear hW2 hIL
  go_enter Tryd.func14, Tryd.ntmps14
  go_upto_region 1 with (fail)
  rw [HW2.out]
  clear HW2
  go_wp2_with fail
  refine ci.mono ?_
  rintro e w4 ⟨gi, vi, rfl, hoi, hb4⟩
  have F4 := hide (F2.out.call hb4)
  have O4 := hide hoi
  have B4 := hide (below_call B2.out hb4)
  clear hoi hb4 ci q0 q1 q2 q3 F2 L2 B2
  go_wp2_with fail
  go_loopw [6, 7] (fun s6 s7 wr => ∃ i : Nat, i ≤ n2 ∧ s6 = .int .i64 (prL sl (IL.take i)) ∧ s7 = .int .i64 (i : Int) ∧ Hid (Below w4.heap.size w4 wr)) (fun _ s7 _ => n2 - (intOf s7).toNat)
  case atStart => exact ⟨0, by omega, rfl, rfl, hide (Below.refl _ _)⟩
  case round =>
    obtain ⟨i, hi, rfl, rfl, hbr⟩ := hrel
    by_cases hlt : i < n2
    · have li : i < IL.length := by omega
      have hii := List.getElem?_eq_getElem li
      have hpn := prL_next sl li
      have hb0 := HBD.out i (by omega)
      obtain ⟨has, hzs⟩ := hIA.out i _ hii
      have HII := hide hii
      generalize IL[i] = zs at HII has hzs hpn
      have hb1 := smL_le ho.out zs zs.length (Nat.le_refl _)
      rw [List.take_length] at hb1
      have hzl := has.length
      have HPN := hide hpn
      have hi0 : (0 : Int) ≤ (i : Int) := by omega
      have hin : (i : Int) < (n2 : Int) := by omega
      clear hpn hii li
      go_wp2_with fail
      go_loopw [8, 9] (fun s8 s9 wr => ∃ j : Nat, j ≤ zs.length ∧ s8 = .int .i64 (smL sl (zs.take j)) ∧ s9 = .int .i64 (j : Int) ∧ Hid (Below w4.heap.size w4 wr)) (fun _ s9 _ => zs.length - (intOf s9).toNat)
      case atStart => exact ⟨0, by omega, rfl, rfl, hbr⟩
      case round =>
        obtain ⟨j, hj, rfl, rfl, hbs⟩ := hrel
        obtain ⟨Ai, ci', -, z0, hli, -, -⟩ := (O4.out.below hbs.out).vat HII.out
        by_cases hlj : j < zs.length
        · obtain ⟨b1, o1, rfl, _, hc1⟩ := int_at hli.see hlj
          have hzi := hzs zs[j] (List.getElem_mem hlj)
          have hsn := smL_next sl hlj
          have hb2 := smL_le ho.out zs j (by omega)
          have hb3 := szN_le ho.out zs[j]
          generalize zs[j] = z at hc1 hzi hsn hb3
          obtain ⟨s, rfl⟩ := Int.eq_ofNat_of_zero_le hzi.1
          have hs : s < sl.length := by omega
          obtain ⟨b2, o2, rfl, _, hp0, -⟩ := pair_at hS.out hs
          have hsz : sl[s].1 = szN sl (s : Int) := by
            unfold szN
            rw [List.getD_eq_getElem?_getD, Int.toNat_natCast, List.getElem?_eq_getElem hs]
            rfl
          rw [hsz] at hp0
          have x1 := keep_cellB (below_call B4.out hbs.out) hp0
          have q1 := (F4.out.call hbs.out).cell (k := 1) rfl
          have HSN := hide hsn
          obtain ⟨a, ha⟩ : ∃ a, smL sl (zs.take j) = a := ⟨_, rfl⟩
          obtain ⟨d, hd⟩ : ∃ d, szN sl (s : Int) = d := ⟨_, rfl⟩
          rw [ha] at hb2 HSN
          rw [hd] at hb3 HSN x1
          rw [ha]
          have hw : IntKind.i64.wrap (a + d) = a + d := by rw [IntKind.wrap_i64]; omega
          have hs0 : (0 : Int) ≤ (s : Int) := by omega
          have hs1 : (s : Int) < (n1 : Int) := by omega
          have hj0 : (0 : Int) ≤ (j : Int) := by omega
          have hjn : (j : Int) < (zs.length : Int) := by omega
          clear hsn ha hd hp0 hsz hs hzi
          go_wp2_with fail
          go_quiet (fail)
          clear z0 hc1 x1 q1
          go_wp2_with fail
          go_roundw
          case rel => exact ⟨j + 1, by omega, by rw [HSN.out], by go_num, hide (below_draws hbs.out _)⟩
          case measure => simp [intOf]; omega
        · obtain rfl : j = zs.length := by omega
          have hb0' : IntKind.i64.wrap ((i : Int) + 1) = (i : Int) + 1 := by rw [IntKind.wrap_i64]; omega
          go_wp2_with fail
          go_roundw
          case rel => exact ⟨i + 1, by omega, by rw [HPN.out], by go_num, hbs⟩
          case measure => simp [intOf]; omega
    · obtain rfl : i = n2 := by omega
      have HE := hide (show prL sl (IL.take i) = prL sl (insL l L) by rw [List.take_of_length_le (by omega), HIL.out])
      have HF := hide (below_call B4.out hbr.out)
      go_wp2_with fail
      go_ret
      exact ⟨ret_int HE.out, HF.out⟩
end
end Go.Proofs.YtjbgepjdohfhkaaDoor
end

section
/-
  The walk of the law LivenessSteps: for all codes it returns true, and what was in memory before the call is as it was. Conditions: those of the types; the table of TrailingZeros64 lies as its initialiser lays it.
-/
namespace Go.Proofs.YtjbgepjdohfhkaaDoor
open Go.RowKit

theorem sl_ok {l : List (Int × Int)} (h : slotsE l = 0) (hl : l.length ≤ 6) : SlOk l := by
  intro u hu
  rw [slotsE_few (by omega)] at h
  by_cases ha : l.any (fun u => !slotB u.1 u.2) = true
  · rw [if_pos ha] at h
    exact absurd h (by decide)
  · have hs : slotB u.1 u.2 = true := by
      cases hb : slotB u.1 u.2 with
      | true => rfl
      | false => exact absurd (List.any_eq_true.2 ⟨u, hu, by simp [hb]⟩) ha
    unfold slotB szB at hs
    have h1 := of_decide_eq_true (Bool.and_eq_true_iff.1 hs).1
    omega
set_option maxRecDepth 100000 in
set_option maxHeartbeats 8000000 in
theorem steplaw_walk (A0 : Option Addr) (n0 c0 : Nat) (zs : List Int) (w : World)
    (hA : Hid (A0 = none → c0 = 0)) (hn : Hid (zs.length = n0)) (hnc : n0 ≤ c0) (hm : n0 ≤ 9223372036854775807) (hs : Hid (Sees w w.heap.size A0 (cellsU8 zs))) (hz : Hid (∀ z ∈ zs, 0 ≤ z ∧ z ≤ 255)) (hT : Hid (Tab w)) :
    Calls Tryd.prog 3 #[.slice A0 n0 c0] w fun e w' => e = .returned (.bool true) ∧ Below w.heap.size w w' := by
  go_enter Tryd.func3, Tryd.ntmps3
  go_wp2_with fail
  refine (awake16_any w).mono ?_
  rintro e w1 ⟨rfl, hb1⟩
  have HB1 := hide hb1
  have HS1 := hide ((hs.out.below hb1).more hb1.size)
  clear hb1
  go_wp2_with fail
  refine (scene16_any A0 n0 c0 zs w1 hA hn hnc hm HS1 hz).mono ?_
  rintro e w2 ⟨P, A1, n1, c1, A2, n2, c2, f, N, L, gL, cL, vs, sp, g, lo, rfl, hH, hE, hF, hLI, hLS, hO, hCd, hgl, hwg, hb2⟩
  obtain ⟨W, hW⟩ : ∃ V, (w2.alloc (.cells #[.int .i64 P, .slice A1 n1 c1, .slice A2 n2 c2] 27)).alloc (.cells #[.slice (some ⟨gL, 0, none⟩) n2 cL] 30) = V := ⟨_, rfl⟩
  have hb3 : Below w2.heap.size w2 W := by rw [← hW]; exact below2 _ _ _
  obtain ⟨B, hB⟩ : ∃ B, w2.heap.size = B := ⟨_, rfl⟩
  have HBB := hide hB
  have RB := hide (show Row W B 27 [.int .i64 P, .slice A1 n1 c1, .slice A2 n2 c2] by rw [← hW, ← hB]; exact (Row.new w2 _ _).alloc _)
  have RL := hide (show Row W (B + 1) 30 [.slice (some ⟨gL, 0, none⟩) n2 cL] by rw [← hW, ← hB]; exact (Row.new _ _ _).at_ (by simp))
  have HCd := hide (show CdAt W A2 n2 f.code from (hH.calls hb3).cd (fnE_zero.1 hE).1)
  have hs1 : f.slots.length = n1 := hH.l1
  have HSS := hide (show Sees W W.heap.size A1 (pcells f.slots) from (hH.calls hb3).s1)
  have HSO := hide (sl_ok (fnE_zero.1 hE).2.1 hF)
  have HOK := hide (show LvOk f.code n1 by rw [← hs1]; exact lv_ok hE (by omega))
  have hlen := HCd.out.len
  have hn2 := HCd.out.few
  have HLI := hide hLI
  have HOL := hide ((hO.below hb3).ann hLI.len (by omega))
  have HW := hide hW
  have HB3 := hide (below_call (below_call HB1.out hb2) hb3)
  have HT3 := hide (hT.out.below HB3.out)
  clear hW hb3 hb2 hO hCd hLI hLS hH hB hwg hgl HB1 HS1 hE hF
  go_upto_region 4 with (fail)
  rw [HW.out, HBB.out]
  clear HW HBB
  have hil : (insL f.code L).length = n2 := by rw [insL_len, hlen]
  have htl : (stepL f.code L).length = n2 := by rw [stepL_len, hlen]
  have LI := hide (fun (V : World) (hb : Below W.heap.size W V) => lins_any (P := P) (A1 := A1) (n1 := n1) (c1 := c1) (c2 := c2) (cL := cL) V (hide (HCd.out.below hb)) HOK (hide (HOL.out.below hb)) HLI (hide (HT3.out.below hb)))
  have RI := hide (fun (V : World) (hb : Below W.heap.size W V) => rins16_any (P := P) (A1 := A1) (n1 := n1) (c1 := c1) (c2 := c2) (cL := cL) V (hide (HCd.out.below hb)) HOK (hide (HOL.out.below hb)) HLI)
  have LT := hide (fun (V : World) (hb : Below W.heap.size W V) => lstep_any (P := P) (A1 := A1) (n1 := n1) (c1 := c1) (c2 := c2) (cL := cL) V (hide (HCd.out.below hb)) HOK (hide (HOL.out.below hb)) HLI (hide (HT3.out.below hb)))
  have RT := hide (fun (V : World) (hb : Below W.heap.size W V) => rstep16_any (P := P) (A1 := A1) (n1 := n1) (c1 := c1) (c2 := c2) (cL := cL) V (hide (HCd.out.below hb)) HOK (hide (HOL.out.below hb)) HLI)
  have LP := hide (fun (V : World) (hb : Below W.heap.size W V) => lpress_any (P := P) (A1 := A1) (n1 := n1) (c1 := c1) (c2 := c2) (cL := cL) V (hide (HCd.out.below hb)) HOK (hide (HOL.out.below hb)) HLI (hide (HT3.out.below hb)) (hide ((HSS.out.below hb).more hb.size)) hs1 HSO)
  have RP := hide (fun (V : World) (hb : Below W.heap.size W V) => rpress_any (P := P) (A1 := A1) (n1 := n1) (c1 := c1) (c2 := c2) (cL := cL) V (hide (HCd.out.below hb)) HOK (hide (HOL.out.below hb)) HLI (hide ((HSS.out.below hb).more hb.size)) hs1 HSO)
  obtain ⟨pv, hpv⟩ : ∃ s, prL f.slots (insL f.code L) = s := ⟨_, rfl⟩
  rw [hpv] at LP RP
  obtain ⟨IL, hIL⟩ : ∃ s, insL f.code L = s := ⟨_, rfl⟩
  rw [hIL] at hil LI RI
  obtain ⟨SL, hSL⟩ : ∃ s, stepL f.code L = s := ⟨_, rfl⟩
  rw [hSL] at htl LT RT
  clear hpv hIL hSL
  have MI := hide (fun (V : World) (g' : Nat) (v' : List Value) (g'' : Nat) (v'' : List Value) (h : Hid (Anw V W.heap.size g' v' [] IL)) (h' : Hid (Anw V W.heap.size g'' v'' [] IL)) => (show Calls Tryd.prog 7 #[.slice (some ⟨g', 0, none⟩) n2 n2, .slice (some ⟨g'', 0, none⟩) n2 n2] V (fun e w' => e = .returned (.bool true) ∧ Below V.heap.size V w') by
    have q := sameann_any (some ⟨g', 0, none⟩) n2 n2 (some ⟨g'', 0, none⟩) n2 n2 IL IL V (hide (h.out.ann hil (by omega))) (hide (h'.out.ann hil (by omega)))
    rwa [decide_eq_true (rfl : IL = IL)] at q))
  have MT := hide (fun (V : World) (g' c' : Nat) (v' p' : List Value) (g'' c'' : Nat) (v'' p'' : List Value) (h : Hid (Anw V W.heap.size g' v' p' SL)) (h' : Hid (Anw V W.heap.size g'' v'' p'' SL)) => (show Calls Tryd.prog 10 #[.agg #[.slice (some ⟨g', 0, none⟩) n2 c'], .agg #[.slice (some ⟨g'', 0, none⟩) n2 c'']] V (fun e w' => e = .returned (.bool true) ∧ Below V.heap.size V w') by
    have q := rsame16_any (some ⟨g', 0, none⟩) n2 c' (some ⟨g'', 0, none⟩) n2 c'' SL SL V (hide (h.out.ann htl (by omega))) (hide (h'.out.ann htl (by omega)))
    rwa [decide_eq_true (rfl : SL = SL)] at q))
  clear HCd HOK HOL HLI HT3 HSS HSO
  have q0 := fun (w' : World) (hb : Below W.heap.size W w') => (RB.out.call hb).cell (k := 0) rfl
  have q1 := fun (w' : World) (hb : Below W.heap.size W w') => (RB.out.call hb).cell (k := 1) rfl
  have q2 := fun (w' : World) (hb : Below W.heap.size W w') => (RB.out.call hb).cell (k := 2) rfl
  have q3 := fun (w' : World) (hb : Below W.heap.size W w') => (RL.out.call hb).cell (k := 0) rfl
  have bw0 : Below W.heap.size W W.drew := (Below.refl _ _).drew
  go_region_held3 (fun V => Below W.heap.size W V) (first | exact bw0 | exact bb)
    (first
      | (go_at_call 8; with_reducible refine Calls.mono (LI.out _ bw0) ?_; intro e w5 h5; unfold AnPost at h5; obtain ⟨ga, va, rfl, oa, hb5⟩ := h5; rw [hil]; have bb := below_call bw0 hb5; have OA := hide (oa.lower bw0.size); clear oa hb5)
      | (go_at_call 9; with_reducible refine Calls.mono (RI.out _ bb) ?_; intro e w6 h6; unfold AnPost at h6; obtain ⟨gb, vb, rfl, ob, hb6⟩ := h6; rw [hil]; have OB := hide (ob.lower bb.size); have OA2 := hide (OA.out.below hb6); have bb := below_call bb hb6; clear ob hb6)
      | (go_at_call 7; with_reducible refine Calls.mono (MI.out _ _ _ _ _ OA2 OB) ?_; rintro e w7 ⟨rfl, hb7⟩; have bb := below_call bb hb7; clear hb7 OA OA2 OB)
      | (go_at_call 11; with_reducible refine Calls.mono (LT.out _ bb) ?_; intro e w8 h8; unfold LvPost at h8; obtain ⟨gc, cc, vc, pc, rfl, oc, hb8⟩ := h8; rw [htl]; have OC := hide (oc.lower bb.size); have bb := below_call bb hb8; clear oc hb8)
      | (go_at_call 12; with_reducible refine Calls.mono (RT.out _ bb) ?_; intro e w9 h9; unfold LvPost at h9; obtain ⟨gd, cd, vd, pd, rfl, od, hb9⟩ := h9; rw [htl]; have OD := hide (od.lower bb.size); have OC2 := hide (OC.out.below hb9); have bb := below_call bb hb9; clear od hb9)
      | (go_at_call 10; with_reducible refine Calls.mono (MT.out _ _ _ _ _ _ _ _ _ OC2 OD) ?_; rintro e w10 ⟨rfl, hb10⟩; have bb := below_call bb hb10; clear hb10 OC OC2 OD)
      | (go_at_call 13; with_reducible refine Calls.mono (LP.out _ bb) ?_; rintro e w11 ⟨rfl, hb11⟩; have bb := below_call bb hb11; clear hb11)
      | (go_at_call 14; with_reducible refine Calls.mono (RP.out _ bb) ?_; rintro e w12 ⟨rfl, hb12⟩; have bb := below_call bb hb12; clear hb12))
  all_goals
    have HBZ := hide (below_call HB3.out bb)
    clear bb LI RI LT RT LP RP MI MT q0 q1 q2 q3 bw0
    go_wp2_with fail
    go_ret
    exact ⟨rfl, HBZ.out⟩
end Go.Proofs.YtjbgepjdohfhkaaDoor
end

section
/-
  LivenessSteps: for every input the law returns true, and each argument reads behind the call as it did before, where the listed table lies as its initialiser lays it; the card ties that table to the program's text. No other condition: every input that the row speaks of.
-/
namespace Go.Proofs.YtjbgepjdohfhkaaDoor
open Go.ChangeShapes Go.WideShapes Go.ChangeAt Go.RowKit

namespace rowLivenessSteps
set_option maxRecDepth 100000 in
theorem contract (H : Type) (enc : TypeId × Value → H) (W : World) (base : Nat) (args : Array Value) (ds gs : List (DataW H)) (before : List MemPlace)
    (hval : ∀ (j : Nat) t v, Tryd.f3.params[j]? = some t → args[j]? = some v → Value.okWide Tryd.prog W .any base t v)
    (hW : DataW.Whole enc Tryd.prog Tryd.f3.params.toList Rows.livenessStepsSpec.vars false W args.toList ds gs before) (hL : laidMetH Tryd.prog laidOne W) :
    Calls Tryd.prog 3 args W fun e W' => ∃ v, e = .returned v ∧ Rows.livenessStepsSpec.post enc Tryd.prog Tryd.f3 false true false false W args v W' := by
  have hW' := hW
  obtain ⟨p, q, hA, hV, rfl, hfz, hnd⟩ := hW
  have hA : DataW.TrodAll enc Tryd.prog W 0 (fun _ => true) true Tryd.f3.params.toList args.toList ds p := hA
  rw [Tryd.params3] at hA hval
  obtain ⟨v0, vs0, d0, ds0, p0, q0, hargs, rfl, rfl, h0, r0⟩ := trodAll_cons hA
  obtain ⟨rfl, rfl, rfl⟩ := trodAll_nil r0
  obtain rfl : args = #[v0] := by cases args; simp_all
  obtain ⟨A0, n0, c0, zs0, rfl, hA0, hn0, hm0, hs0, hz0, hc0⟩ := open_u8s Tryd.underlying22 Tryd.underlying5 cells_u8 (hval 0 22 v0 rfl rfl) h0
  refine (steplaw_walk A0 n0 c0 zs0 W (hide hA0) (hide hn0) hc0 hm0 (hide hs0) (hide hz0) (hide (tab_of_laid hL))).mono fun e W' ⟨he, hB⟩ => ⟨_, he, ?_⟩
  exact law_post laid_out (by decide +kernel) rfl rfl Tryd.underlying4 rfl hW' hB

set_option maxRecDepth 100000 in
theorem lifted (os : Os) (started : os.Started) (H : Type) (enc : TypeId × Value → H) :
    ReturnsInHanded {} Tryd.checked os 3 .any (fun w args => (Rows.livenessStepsSpec.pre enc Tryd.prog Tryd.f3 [] false w args ∧ laidMetH Tryd.prog laidOne w) ∧ sizedMet enc Tryd.prog Tryd.f3 (OpenSpec.ofChange Rows.livenessStepsSpec) false w args)
      (Rows.livenessStepsSpec.post enc Tryd.prog Tryd.f3 false true false false) := by
  refine returnsInHanded_of_change_and (C := Tryd.checked) (X := fun w _ => laidMetH Tryd.prog laidOne w) (fun _ _ _ hh h => h.of_heap hh) own_knob started (by kernel_rfl) Tryd.func3
    (ChangeSpec.witness_shaped (enc := enc) (C := Tryd.checked) (os := os) (X := fun w _ => laidMetH Tryd.prog laidOne w) false (World.doorLaid Tryd.prog 400 os) #[.slice none 0 0] 8 rfl (World.shaped_of_RefB (by kernel_rfl) (by kernel_rfl)) (by kernel_rfl) (by kernel_rfl) (by kernel_rfl) (door_met os _)) ?_
  intro W base args ds gs before hval hW _ _ hL _
  exact contract H enc W base args ds gs before hval hW hL

theorem row : Rows.LivenessStepsSaid :=
  OpenClaim.holds_of_wide 3 Tryd.f3 rfl rfl rfl rfl rfl rfl rfl ⟨rfl, rfl, rfl, rfl, rfl⟩ rfl rfl rfl rfl rfl (by kernel_rfl) Tryd.func3 (by kernel_rfl)
    (of_decide_eq_true (by kernel_rfl)) (by unfold Func.isWrapper; first | (rw [if_pos (by decide +kernel)]; kernel_rfl) | (rw [if_neg (by decide +kernel)]; exact ⟨rfl, rfl⟩))
    (fun os started H enc _ => lifted os started H enc)

theorem proved : Rows.LivenessStepsCardSaid :=
  Claim7.holds_tied_plain_at .later [] [.data] true (true, "aee9281c94150b2ed31b7666f51caf6ba7c048a3fca9f352a0b2c804014ad23d") false
    row (fun _ h => by cases h) (by kernel_rfl) (fun _ h => by cases h) livenessSteps_row_tie rfl ⟨rfl, rfl⟩ (by kernel_rfl) rfl
    (fun f fn hf hfn => by
      obtain rfl : f = 3 := Option.some.inj ((show Tryd.prog.funcNamed "spillframe/spillframelaw16.LivenessSteps" = some 3 by kernel_rfl).symm.trans hf) |>.symm
      obtain rfl : fn = Tryd.f3 := (Option.some.inj (Tryd.func3.symm.trans hfn)).symm
      exact ⟨by kernel_rfl, fun j t ht => by
        rw [Tryd.params3] at ht
        have hm : t ∈ [22] := by simpa using Array.mem_of_getElem? ht
        have hall : ([22].all fun u => !Tryd.prog.wantsStandIn u) = true := by kernel_rfl
        exact (show Tryd.prog.wantsStandIn t = false by simpa using List.all_eq_true.1 hall t hm)⟩)
    (by kernel_rfl)
end rowLivenessSteps
end Go.Proofs.YtjbgepjdohfhkaaDoor
end
