import Derived.Test.YtlcmcmocjbeocaaGreatDoorMJrdm
import Derived.Test.YtlcmcmocjbeocaaGreatDoorMJren
import Derived.Test.YtlcmcmocjbeocaaGreatDoorMBeq
import Derived.Laws.BytesArg
import Derived.Deep.DeepCutAuto
import Derived.Deep.RegionLaw
import Derived.RegionTactic
import Derived.BigQuiet
set_option linter.unusedVariables false
set_option linter.unusedSimpArgs false
section
/-
  The contract of chapter 11's reference: Decode, for any bytes. Conditions: the types'.
-/
namespace Go.Proofs.YtlcmcmocjbeocaaGreatDoor
open Go.RowKit

theorem Tryz.info64s : (Tryz.prog.info? 64).map (fun i => (i.zero, i.size, i.bytes)) = some (some (.agg #[.int .i64 0, .int .i64 0, .int .i64 0, .int .i64 0, .int .u64 0]), 5, 40) := by kernel_rfl
theorem jb_put {B : Nat} {a w : World} (h : Below B a w) {gb : Nat} (hs : B ≤ w.heap.size) (hg : B ≤ gb) (k : Nat) (u : Value) : Below B a (w.setCell ⟨gb, k, none⟩ u) := h.grown (grown_put w gb k u) hs fun j hj => by injection hj with hj; omega
/-- The first four bytes as a string. -/
theorem jmagic_str {xs : List Int} (hx : Byt xs) : (strOfNums xs = { data := #[70, 82, 77, 49] }) ↔ xs = jmagic := by
  constructor
  · intro h
    have h1 := congrArg (fun s : ByteArray => s.data.toList.map UInt8.toNat) h
    simp only [strOfNums, List.map_map] at h1
    have h2 : xs.map (UInt8.toNat ∘ fun n => UInt8.ofNat n.toNat) = xs.map Int.toNat := List.map_congr_left fun z hz => by
      have := hx z hz
      simp only [Function.comp]
      rw [UInt8.toNat_ofNat']
      omega
    rw [h2] at h1
    have h3 : xs = (xs.map Int.toNat).map (fun k : Nat => (k : Int)) := by
      rw [List.map_map]
      conv => lhs; rw [← List.map_id xs]
      refine List.map_congr_left fun z hz => ?_
      have := hx z hz
      simp only [Function.comp, id]
      omega
    rw [h3, h1]
    rfl
  · rintro rfl
    rfl
theorem no_jmagic {S : ByteArray} (h : ¬ S = { data := #[70, 82, 77, 49] }) : (S.toList == [70, 82, 77, 49]) = false := by
  rw [beq_eq_false_iff_ne]
  intro e
  rw [ByteArray.toList_eq] at e
  refine h ?_
  cases S with
  | mk d =>
    have : d = #[70, 82, 77, 49] := Array.toList_inj.1 (by simpa using e)
    rw [this]
/-- A number up to a limit, its value and the state behind it under letters. -/
theorem slim_at {most g b off n c : Nat} {zs : List Int} {S T : Rd Unit} {v : Nat} {w : World} (hmost : most ≤ 2147483647) (hz : Hid (Src n c zs)) (h : Hid (RsSt w g b off n c zs S)) (hT : Hid (T = (S.to (limR most)).st)) (hv : Hid (v = (S.to (limR most)).val 0)) :
    Calls Tryz.prog 48 #[.pointer (some ⟨g, 0, none⟩), .int .i64 (most : Int)] w (SPost g b off n c zs T (.int .i64 (v : Int)) w) := by
  rw [hT.out, hv.out]
  exact snum_any g b off n c most zs S w hz h hmost
theorem lim_le {S : Rd Unit} {most v : Nat} (h : v = (S.to (limR most)).val 0) : v ≤ most := by rw [h]; exact lim_val
theorem pow_in {k : Nat} (h : k ≤ 24) : (0 : Int) < (2 : Int) ^ k ∧ (2 : Int) ^ k ≤ 16777216 := by
  have e : ∀ k : Fin 25, (0 : Int) < (2 : Int) ^ k.val ∧ (2 : Int) ^ k.val ≤ 16777216 := by decide
  exact e ⟨k, by omega⟩
theorem size_wrap {q : Nat} {Al : Int} (hq : q ≤ 2147483647) (h : 0 < Al ∧ Al ≤ 16777216) : IntKind.i64.wrap ((q : Int) * Al) = (q : Int) * Al := by
  have h1 : (q : Int) * Al ≤ 2147483647 * 16777216 := Int.mul_le_mul (by omega) h.2 (by omega) (by omega)
  have h2 : 0 ≤ (q : Int) * Al := Int.mul_nonneg (by omega) (by omega)
  rw [IntKind.wrap_i64]
  omega
/-- The zero target comes back. -/
theorem jz_end {zs : List Int} {w w9 : World} {x : Int} (HD : JDec zs x 0 0 []) (hb : Below w.heap.size w w9) : JdPost zs w (.returned (.tuple #[tv 0 none 0 0, .int .i64 0, .int .i64 x])) w9 := jd_zero HD hb

set_option maxRecDepth 100000 in
set_option maxHeartbeats 1600000 in
theorem sdec_far (A : Option Addr) (n c : Nat) (zs : List Int) (w : World) (hn : Hid (zs.length = n)) (h : 1048576 < n) (hm : n ≤ 9223372036854775807) :
    Calls Tryz.prog 23 #[.slice A n c] w (JdPost zs w) := by
  have HD := hide (JDec.many (zs := zs) (by rw [hn.out]; exact h))
  have hz : (1048576 : Int) < (n : Int) := by omega
  go_enter Tryz.func23, Tryz.ntmps23
  go_wp2
  have f0 := (Row.new w 53 [.int .i64 0, .slice none 0 0]).cell (k := 0) rfl
  have f1 := (Row.new w 53 [.int .i64 0, .slice none 0 0]).cell (k := 1) rfl
  have hb := below1 w (.cells #[.int .i64 0, .slice none 0 0] 53)
  exact bodyPost_ret (v := .tuple #[tv 0 none 0 0, .int .i64 0, .int .i64 3]) (by simp [results, Tryz.results23, go_sem, f0, f1]) rfl (jz_end HD.out hb)

set_option maxRecDepth 100000 in
set_option maxHeartbeats 1600000 in
theorem sdec_near (A : Option Addr) (n c : Nat) (zs : List Int) (w : World) (hn : Hid (zs.length = n)) (h : n < 10) :
    Calls Tryz.prog 23 #[.slice A n c] w (JdPost zs w) := by
  have HD := hide (JDec.few (zs := zs) (by rw [hn.out]; exact h))
  have hz : (n : Int) < 10 := by omega
  go_enter Tryz.func23, Tryz.ntmps23
  go_wp2
  have f0 := (Row.new w 53 [.int .i64 0, .slice none 0 0]).cell (k := 0) rfl
  have f1 := (Row.new w 53 [.int .i64 0, .slice none 0 0]).cell (k := 1) rfl
  have hb := below1 w (.cells #[.int .i64 0, .slice none 0 0] 53)
  exact bodyPost_ret (v := .tuple #[tv 0 none 0 0, .int .i64 0, .int .i64 1]) (by simp [results, Tryz.results23, go_sem, f0, f1]) rfl (jz_end HD.out hb)

set_option maxRecDepth 100000 in
set_option maxHeartbeats 1600000 in
theorem sdec_bad (b off n c : Nat) (zs : List Int) (w : World) (hz : Hid (Src n c zs)) (hs : Hid (Sees w w.heap.size (some ⟨b, off, none⟩) (cellsU8 zs))) (h10 : 10 ≤ n) (hb : Hid (¬ (zs.take 4 = jmagic ∧ crcB zs = true))) :
    Calls Tryz.prog 23 #[.slice (some ⟨b, off, none⟩) n c] w (JdPost zs w) := by
  have h20 := hz.out.most
  have hnc := hz.out.nc
  have hcm := hz.out.cm
  have hz0 : (n : Int) ≤ 1048576 := by omega
  have hz1 : (10 : Int) ≤ (n : Int) := by omega
  obtain ⟨m, hm⟩ : ∃ m, n = m + 4 := ⟨n - 4, by omega⟩
  have HD := hide (JDec.badQ (zs := zs) (by rw [hz.out.len]; omega) (by rw [hz.out.len]; omega) (fun h1 h2 => absurd ⟨h1, by unfold crcB; exact decide_eq_true h2⟩ hb.out))
  obtain ⟨W, hW⟩ : ∃ W, w.alloc (.cells #[.int .i64 0, .slice none 0 0] 53) = W := ⟨_, rfl⟩
  have HW := hide hW
  have hsW := hide (show Sees W w.heap.size (some ⟨b, off, none⟩) (cellsU8 zs) by rw [← hW]; exact hs.out.alloc (Nat.le_refl _) _)
  have R0 := hide (show Row W w.heap.size 53 [.int .i64 0, .slice none 0 0] by rw [← hW]; exact Row.new w _ _)
  have r0 := R0.out.cell (k := 0) rfl
  have r1 := R0.out.cell (k := 1) rfl
  have q0 := R0.out.free 0
  have q1 := R0.out.free 1
  have hbW := hide (show Below w.heap.size w W by rw [← hW]; exact below1 w _)
  have hf := hide ((R0.out.set_ 0 (.int .i64 0)).set_ 1 (.slice none 0 0))
  have HF := hide ((hbW.out.setCell (p := ⟨w.heap.size, 0, none⟩) (by simp) (.int .i64 0)).setCell (p := ⟨w.heap.size, 1, none⟩) (by simp) (.slice none 0 0))
  clear hW
  obtain ⟨S, hS⟩ : ∃ S, strOfNums (zs.take 4) = S := ⟨_, rfl⟩
  have hcv : (convert 22 9 (.slice (some ⟨b, off, none⟩) 4 c)).run Tryz.prog W = .ok (.string S) W := by
    rw [← hS]
    refine run_convert_bytes_arg W 22 5 Tryz.underlying22 Tryz.underlying5 b off 4 c (zs.take 4) (by rw [List.length_take, hz.out.len]; omega) (fun i hi => ?_) 9 Tryz.underlying9
    obtain ⟨b', off', z, e, _, hcell, _, _, hzk⟩ := byte_at (zs := zs) (k := i) hsW.out (by rw [hz.out.len]; omega) hz.out.byt
    injection e with e
    injection e with e1 e2
    subst e1 e2
    rw [hcell, List.getD_eq_getElem?_getD, List.getElem?_take, if_pos hi, hzk.out]
    rfl
  have hmg := hide (jmagic_str (hz.out.byt.take 4))
  rw [hS] at hmg
  clear hS
  by_cases hq : S = { data := #[70, 82, 77, 49] }
  · have hcb : crcB zs = false := by
      cases e : crcB zs with
      | false => rfl
      | true => exact absurd ⟨hmg.out.1 hq, e⟩ hb.out
    have ci : Calls Tryz.prog 47 #[.slice (some ⟨b, off, none⟩) n c] W fun e w' => e = .returned (.bool false) ∧ W = w' := by
      subst hm
      have ci := rcrcis_any b off m c zs w.heap.size W (hide hz.out.len) (by omega) hnc hcm hsW (hide hz.out.byt)
      rw [hcb] at ci
      exact ci
    subst hq
    clear hcb hm hcm
    go_enter Tryz.func23, Tryz.ntmps23
    go_upto_region 1 with (fail)
    rw [HW.out]
    go_wp2_with fail
    refine ci.mono ?_
    rintro e w' ⟨rfl, rfl⟩
    go_wp2
    have f0 := hf.out.cell (k := 0) rfl
    have f1 := hf.out.cell (k := 1) rfl
    exact bodyPost_ret (v := .tuple #[tv 0 none 0 0, .int .i64 0, .int .i64 2]) (by simp [results, Tryz.results23, go_sem, f0, f1]) rfl (jz_end HD.out HF.out)
  · have hqb := no_jmagic hq
    clear hm hcm
    go_enter Tryz.func23, Tryz.ntmps23
    go_upto_region 1 with (fail)
    rw [HW.out]
    go_wp2
    have f0 := hf.out.cell (k := 0) rfl
    have f1 := hf.out.cell (k := 1) rfl
    exact bodyPost_ret (v := .tuple #[tv 0 none 0 0, .int .i64 0, .int .i64 2]) (by simp [results, Tryz.results23, go_sem, f0, f1]) rfl (jz_end HD.out HF.out)

set_option maxRecDepth 100000 in
set_option maxHeartbeats 8000000 in
theorem sdec_main (b off m n c : Nat) (zs : List Int) (w : World) (hnm : Hid (n = m + 4)) (hz : Hid (Src n c zs)) (hs : Hid (Sees w w.heap.size (some ⟨b, off, none⟩) (cellsU8 zs))) (h10 : Hid (10 ≤ n)) (hmg : Hid (zs.take 4 = jmagic)) (hcr : Hid (crcB zs = true)) :
    Calls Tryz.prog 23 #[.slice (some ⟨b, off, none⟩) n c] w (JdPost zs w) := by
  obtain ⟨i0, hi, hi0, hi1, hi2⟩ := info_parts jinfo_frame
  obtain ⟨j0, ji, jz0, jz1, jz2⟩ := info_parts Tryz.info64s
  have hm6 : 6 ≤ m := by have := h10.out; have := hnm.out; omega
  have hn20 := hz.out.most
  have hnc := hz.out.nc
  have hcm := hz.out.cm
  have hz0 : (n : Int) ≤ 1048576 := by omega
  have hz1 : (10 : Int) ≤ (n : Int) := by have := h10.out; omega
  have hn4 : (n : Int) - 4 = (m : Int) := by have := hnm.out; omega
  have hmn : m ≤ n := by have := hnm.out; omega
  have hmc : m < c := by have := hnm.out; omega
  have HZ := hide (show Src m c (zs.take m) from ⟨by rw [List.length_take, hz.out.len]; omega, by omega, hcm, by omega, hz.out.byt.take m⟩)
  have HBAD := hide (show (∀ Al bd F r, tgQ ((zs.take m).drop 4) = .ok (Al, bd, F) r → ¬ (encJE Al bd F = 0 ∧ encJ Al bd F = zs)) → JDec zs 2 0 0 [] from fun h => JDec.badQ (by rw [hz.out.len]; omega) (by rw [hz.out.len]; have := h10.out; omega) (fun _ _ => by rw [hz.out.len, hnm.out, Nat.add_sub_cancel]; exact h))
  have HGOOD := hide (fun (Al bd : Int) (F : Tg) => @JDec.good zs Al bd F (by rw [hz.out.len]; omega) (by rw [hz.out.len]; have := h10.out; omega))
  obtain ⟨W, hW⟩ : ∃ W, w.alloc (.cells #[.int .i64 0, .slice none 0 0] 53) = W := ⟨_, rfl⟩
  have HW := hide hW
  have hsW := hide (show Sees W W.heap.size (some ⟨b, off, none⟩) (cellsU8 zs) by rw [← hW]; exact (hs.out.alloc (Nat.le_refl _) _).more (by simp))
  have hrW := hide (show Row W w.heap.size 53 [.int .i64 0, .slice none 0 0] by rw [← hW]; exact Row.new w _ _)
  have hbW := hide (show Below w.heap.size w W by rw [← hW]; exact below1 w _)
  have hWs : W.heap.size = w.heap.size + 1 := by rw [← hW]; simp
  clear hW
  have hcv : (convert 22 9 (.slice (some ⟨b, off, none⟩) 4 c)).run Tryz.prog W = .ok (.string { data := #[70, 82, 77, 49] }) W := by
    rw [← (jmagic_str (hz.out.byt.take 4)).2 hmg.out]
    refine run_convert_bytes_arg W 22 5 Tryz.underlying22 Tryz.underlying5 b off 4 c (zs.take 4) (by rw [List.length_take, hz.out.len]; omega) (fun i hi => ?_) 9 Tryz.underlying9
    obtain ⟨b', off', z, e, _, hcell, _, _, hzk⟩ := byte_at (zs := zs) (k := i) hsW.out (by rw [hz.out.len]; omega) hz.out.byt
    injection e with e
    injection e with e1 e2
    subst e1 e2
    rw [hcell, List.getD_eq_getElem?_getD, List.getElem?_take, if_pos hi, hzk.out]
    rfl
  have ci := rcrcis_any b off m c zs W.heap.size W (hide (hz.out.len.trans hnm.out)) (by omega) (by have := hnm.out; omega) hz.out.cm hsW (hide hz.out.byt)
  rw [hcr.out, ← hnm.out] at ci
  obtain ⟨WG, hWG⟩ : ∃ WG, W.alloc (.cells #[.slice (some ⟨b, off, none⟩) m c, .int .i64 4, .bool true] 109) = WG := ⟨_, rfl⟩
  obtain ⟨g, hg⟩ : ∃ g, W.heap.size = g := ⟨_, rfl⟩
  have hGs : WG.heap.size = g + 1 := by rw [← hWG, ← hg]; simp
  have K0 := hide (show Ks WG g b off m c (zs.take m) (.ok () ((zs.take m).drop 4)) WG by
    have hrow : Row WG g 109 [.slice (some ⟨b, off, none⟩) m c, .int .i64 4, .bool true] := by rw [← hWG, ← hg]; exact Row.new W _ _
    refine Ks.start ⟨4, true, ⟨hrow, ?_⟩, by omega, rfl, rfl⟩
    have h1 := (hsW.out.take m)
    rw [take_cells, ← hg.symm] at h1
    rw [← hWG]
    exact h1.alloc (by omega) _)
  have Z0 := hide (show Row WG w.heap.size 53 [.int .i64 0, .slice none 0 0] by rw [← hWG]; exact hrW.out.alloc _)
  have HSB := hide (show Sees WG g (some ⟨b, off, none⟩) (cellsU8 zs) by rw [← hWG, ← hg]; exact hsW.out.alloc (Nat.le_refl _) _)
  have hbG := hide (show Below w.heap.size w WG by rw [← hWG]; exact hbW.out.alloc (by omega) _)
  have hwg : w.heap.size < g := by omega
  have HWG := hide hWG
  have HG := hide hg
  obtain ⟨k0, hk0⟩ : ∃ v, Hid (v = ((Rd.ok () ((zs.take m).drop 4) : Rd Unit).to (limR 24)).val 0) := ⟨_, hide rfl⟩
  obtain ⟨S1, hS1⟩ : ∃ T, Hid (T = ((Rd.ok () ((zs.take m).drop 4) : Rd Unit).to (limR 24)).st) := ⟨_, hide rfl⟩
  obtain ⟨bd, hbd⟩ : ∃ v, Hid (v = (S1.to (limR 2147483647)).val 0) := ⟨_, hide rfl⟩
  obtain ⟨S2, hS2⟩ : ∃ T, Hid (T = (S1.to (limR 2147483647)).st) := ⟨_, hide rfl⟩
  obtain ⟨n0, hn0⟩ : ∃ v, Hid (v = (S2.to (limR 80)).val 0) := ⟨_, hide rfl⟩
  obtain ⟨S3, hS3⟩ : ∃ T, Hid (T = (S2.to (limR 80)).st) := ⟨_, hide rfl⟩
  have hk24 : k0 ≤ 24 := lim_le hk0.out
  have hn80 : n0 ≤ 80 := lim_le hn0.out
  have hbd31 : bd ≤ 2147483647 := lim_le hbd.out
  have PW := hide (pow_wrap hk24)
  have HAB := hide (pow_in hk24)
  have HTS := hide (fun (TE : Rd Unit) (F : Tg) (h5 : ∀ (β : Type) (K : List Fm → List Int → Rd β), (S3.to (timesR (frQ ((2 : Int) ^ k0)) n0)).and K = TE.to (K F)) => tg_steps (.ok () ((zs.take m).drop 4)) S1 S2 S3 TE k0 bd n0 F hS1.out hk0.out hS2.out hbd.out hS3.out hn0.out h5)
  obtain ⟨Al, hAl⟩ : ∃ x, (2 : Int) ^ k0 = x := ⟨_, rfl⟩
  rw [hAl] at PW HAB HTS
  have hAl2 := hide hAl
  have hkz : (0 : Int) ≤ (k0 : Int) := by omega
  have hkz2 : (k0 : Int) ≤ 24 := by omega
  have HGS := hide hGs
  clear hAl hWG hg hWs hGs
  go_enter Tryz.func23, Tryz.ntmps23
  go_upto_region 1 with (fail)
  rw [HW.out]
  clear HW
  go_wp2_with fail
  refine ci.mono ?_
  rintro e w' ⟨rfl, rfl⟩
  clear hcm
  go_wp2_with fail
  rw [HWG.out, HG.out]
  clear HWG ci hcv hsW hrW hbW
  refine (slim_at (most := 24) (by omega) HZ (hide K0.out.r) hS1 hk0).mono ?_
  rintro e w1 ⟨rfl, hR, hG⟩
  have K1 := hide (K0.out.to hR hG)
  have Z1 := hide (Z0.out.grown hG (fun e => by injection e with e; omega))
  obtain ⟨gt, hgt⟩ : ∃ T, w1.heap.size = T := ⟨_, rfl⟩
  have HT := hide hgt
  have hPl : Plc WG g gt w.heap.size := ⟨hwg, by have := HGS.out; omega, by rw [← hgt]; exact hG.size⟩
  have HP := hide hPl
  have hgl : g < gt := by have := hPl.b; have := hPl.c; omega
  obtain ⟨W2, hW2⟩ : ∃ V, w1.alloc (.cells #[.int .i64 Al, .slice none 0 0] 53) = V := ⟨_, rfl⟩
  have HW2 := hide hW2
  have D0 := hide (show DcI WG g gt w.heap.size b off m c (zs.take m) S1 Al none 0 0 [] [] W2 by
    rw [← hW2]
    exact ⟨K1.out.alloc _, by rw [← hgt]; exact Row.new w1 _ _, Z1.out.alloc _, jzero_tg _ _ _, fun f hf => by cases hf⟩)
  clear hR hG hPl hgt hW2 K0 K1 Z0 Z1
  go_upto_region 9 with (fail)
  rw [hAl2.out, PW.out, HW2.out, HT.out]
  clear HW2 HT PW
  go_wp2_with fail
  refine (slim_at (most := 2147483647) (by omega) HZ (hide D0.out.kp.r) hS2 hbd).mono ?_
  rintro e w2 ⟨rfl, hR, hG⟩
  have D1 := hide (D0.out.to HP.out hR hG)
  clear hR hG D0
  go_wp2_with fail
  refine (slim_at (most := 80) (by omega) HZ (hide D1.out.kp.r) hS3 hn0).mono ?_
  rintro e w3 ⟨rfl, hR, hG⟩
  have D2 := hide (D1.out.to HP.out hR hG)
  clear hR hG D1
  go_wp2_with fail
  go_loopw [8, 9, 10, 11] (fun kv _ _ _ wr => ∃ (k' : Nat) (S : Rd Unit) (A : Option Addr) (cA : Nat) (hs : List Fd) (F : Tg), kv = .int .i64 (k' : Int) ∧ k' + F.length ≤ n0 ∧ Hid (LoopI (frQ Al) S3 n0 S k' F) ∧ Hid (DcI WG g gt w.heap.size b off m c (zs.take m) S Al A F.length cA hs F wr)) (fun kv _ _ _ _ => (intOf kv).toNat)
  case atStart => exact ⟨n0, S3, none, 0, [], [], rfl, by simp, hide (LoopI.start (frQ Al) S3 n0), D2⟩
  case round =>
    obtain ⟨k', S, A, cA, hs, F, rfl, hkl, hI, hF⟩ := hrel
    clear D2
    by_cases hlt : 0 < k'
    · obtain ⟨j, rfl⟩ : ∃ j, k' = j + 1 := ⟨k' - 1, by omega⟩
      have hlz : (0 : Int) < ((j + 1 : Nat) : Int) := by omega
      cases S with
      | no xx =>
        have H5 := hide (HTS.out (.no xx) F (fun β K => hI.out.broke β K))
        obtain ⟨k1, e, r1, hke1, rfl⟩ := hF.out.kp.r
        have c2 := r1.row.cell (k := 2) rfl
        clear r1
        clear hI
        have HD := hide (HBAD.out (fun Al' bd' F' r h => by rw [show tgQ ((zs.take m).drop 4) = .no xx from H5.out] at h; cases h))
        have z0 := hF.out.res.cell (k := 0) rfl
        have z1 := hF.out.res.cell (k := 1) rfl
        have y0 := hF.out.res.free 0
        have y1 := hF.out.res.free 1
        have hf := hide ((hF.out.res.set_ 0 (.int .i64 0)).set_ 1 (.slice none 0 0))
        have HBW := hide (below_grown hbG.out hF.out.kp.g (by omega) hbG.out.size)
        have H23 := hide ((HBW.out.setCell (p := ⟨w.heap.size, 0, none⟩) (by simp) (.int .i64 0)).setCell (p := ⟨w.heap.size, 1, none⟩) (by simp) (.slice none 0 0))
        clear H5 hF
        go_wp2_with fail
        have f0 := hf.out.cell (k := 0) rfl
        have f1 := hf.out.cell (k := 1) rfl
        exact bodyPost_ret (v := .tuple #[tv 0 none 0 0, .int .i64 0, .int .i64 2]) (by simp [results, Tryz.results23, go_sem, f0, f1]) rfl (jz_end HD.out H23.out)
      | ok u t =>
        obtain ⟨k1, e, r1, hke1, rfl, hs1⟩ := hF.out.kp.r
        have c2 := r1.row.cell (k := 2) rfl
        clear r1 hs1
        obtain ⟨P, hPv⟩ : ∃ v, Hid (v = ((Rd.ok () t : Rd Unit).to (limR 8)).val 0) := ⟨_, hide rfl⟩
        obtain ⟨T1, hT1⟩ : ∃ T, Hid (T = ((Rd.ok () t : Rd Unit).to (limR 8)).st) := ⟨_, hide rfl⟩
        obtain ⟨q, hqv⟩ : ∃ v, Hid (v = (T1.to (limR 2147483647)).val 0) := ⟨_, hide rfl⟩
        obtain ⟨T2, hT2⟩ : ∃ T, Hid (T = (T1.to (limR 2147483647)).st) := ⟨_, hide rfl⟩
        obtain ⟨n2, hn2⟩ : ∃ v, Hid (v = (T2.to (limR 1024)).val 0) := ⟨_, hide rfl⟩
        obtain ⟨T3, hT3⟩ : ∃ T, Hid (T = (T2.to (limR 1024)).st) := ⟨_, hide rfl⟩
        have hq31 : q ≤ 2147483647 := lim_le hqv.out
        have hn2b : n2 ≤ 1024 := lim_le hn2.out
        have hwq := hide (size_wrap hq31 HAB.out)
        go_wp2_with fail
        refine (slim_at (most := 8) (by omega) HZ (hide hF.out.kp.r) hT1 hPv).mono ?_
        rintro e w4 ⟨rfl, hR, hG⟩
        have D4 := hide (hF.out.to HP.out hR hG)
        obtain ⟨gf, hgfe⟩ : ∃ x, w4.heap.size = x := ⟨_, rfl⟩
        obtain ⟨wa, hwa⟩ : ∃ x, w4.alloc (.cells #[.int .i64 (P : Int), .int .i64 0, .slice none 0 0] 90) = x := ⟨_, rfl⟩
        have E0 := hide (D4.out.frame hwa hgfe)
        have HGF := hide hgfe
        have HWA := hide hwa
        have hgf : gt < gf := by rw [← hgfe]; exact D4.out.row.lt
        clear hR hG hF D4 hgfe hwa
        go_upto_region 14 with (fail)
        rw [HWA.out, HGF.out]
        clear HWA HGF
        have cn : ∀ k, Calls Tryz.prog 48 #[.pointer (some ⟨g, 0, none⟩), .int .i64 2147483647] (wa.drewN k) fun e w5 => e = .returned (.int .i64 (q : Int)) ∧ Hid (DfI WG g gt gf w.heap.size b off m c (zs.take m) T2 Al A F.length cA hs F (P : Int) 0 none 0 0 [] w5) := fun k => by
          refine (slim_at (most := 2147483647) (by omega) HZ (hide (E0.out.kp.r.drewN k)) hT2 hqv).mono ?_
          rintro e w5 ⟨rfl, hR, hG⟩
          exact ⟨rfl, hide ((E0.out.drewN k).to HP.out hgf hR hG)⟩
        have a0 := E0.out.row.cell (k := 0) rfl
        go_region_law
          (go_simp; go_at_call 48; refine (cn _).mono ?_; rintro e w5 ⟨rfl, E1⟩; have b0 := E1.out.row.cell (k := 0) rfl; have b1 := E1.out.fr.cell (k := 1) rfl; have b2 := E1.out.fr.free 1; have hwq1 := hwq.out)
        all_goals
          have E2 := hide (E1.out.size HP.out hgf ((q : Int) * Al))
          obtain ⟨w6, hw6⟩ : ∃ x, w5.setCell ⟨gf, 1, none⟩ (.int .i64 ((q : Int) * Al)) = x := ⟨_, rfl⟩
          rw [hw6] at E2
          have HW6 := hide hw6
          clear cn a0 b0 b1 b2 E0 E1 hw6
          go_upto_region 15 with (fail)
          rw [HW6.out]
          clear HW6 hwq1
          go_wp2_with fail
          refine (slim_at (most := 1024) (by omega) HZ (hide E2.out.kp.r) hT3 hn2).mono ?_
          rintro e w7 ⟨rfl, hR, hG⟩
          have E3 := hide (E2.out.to HP.out hgf hR hG)
          clear hR hG E2
          go_wp2_with fail
          go_loopw [10, 11] (fun kv _ wr => ∃ (k2 : Nat) (S' : Rd Unit) (A1 : Option Addr) (n1 c1 : Nat) (C : List Ins), kv = .int .i64 (k2 : Int) ∧ k2 + C.length ≤ n2 ∧ Hid (LoopI minsQ T3 n2 S' k2 C) ∧ Hid (DfI WG g gt gf w.heap.size b off m c (zs.take m) S' Al A F.length cA hs F (P : Int) ((q : Int) * Al) A1 n1 c1 C wr)) (fun kv _ _ => (intOf kv).toNat)
          case atStart => exact ⟨n2, T3, none, 0, 0, [], rfl, by simp, hide (LoopI.start minsQ T3 n2), E3⟩
          case round =>
            obtain ⟨k2, S', A1, n1, c1, C, rfl, hkl2, hI2, hF2⟩ := hrel
            clear E3
            by_cases hlt2 : 0 < k2
            · obtain ⟨j2, rfl⟩ : ∃ j, k2 = j + 1 := ⟨k2 - 1, by omega⟩
              have hlz2 : (0 : Int) < ((j2 + 1 : Nat) : Int) := by omega
              cases S' with
              | no xx =>
                have H6 := hide (fun β K => hI2.out.broke β K)
                obtain ⟨k3, e, r3, hke3, rfl⟩ := hF2.out.kp.r
                have d2 := r3.row.cell (k := 2) rfl
                clear r3 hI2
                obtain ⟨S', hS'⟩ : ∃ x, (Rd.no xx : Rd Unit) = x := ⟨_, rfl⟩
                have HFX := hide hF2.out
                rw [hS'] at HFX H6
                clear hS' hF2
                go_wp2_with fail
                have HFS := hide (fr_steps Al (.ok () t) T1 T2 T3 S' P q n2 C hT1.out hPv.out hT2.out hqv.out hT3.out hn2.out H6.out)
                have HNX := hide (show LoopI (frQ Al) S3 n0 S' j (F ++ [⟨(P : Int), (q : Int) * Al, C⟩]) by
                  have h := hI.out.step (a := ⟨(P : Int), (q : Int) * Al, C⟩) (fun s r e => to_val (by rw [← HFS.out]; exact e))
                  rwa [HFS.out, to_st] at h)
                obtain ⟨wb, hwb⟩ : ∃ x, wr = x := ⟨_, rfl⟩
                have HF4 := hide (show DfI WG g gt gf w.heap.size b off m c (zs.take m) S' Al A F.length cA hs F (P : Int) ((q : Int) * Al) A1 n1 c1 C wb by rw [← hwb]; exact HFX.out)
                have HS4 := hide HF4.out.fr
                have hhl : hs.length = F.length := HF4.out.tg.hd.len
                have HCA := hide HF4.out.tg.cap.1
                have HCL := hide (show (fdcells hs).length = F.length * 3 by rw [fdcells_length, hhl])
                have HCC := hide HF4.out.tg.cap.2.1
                have hgfb := HF4.out.fr.lt
                have HCS := hide (show Sees wb wb.heap.size A (fdcells hs) from HF4.out.tg.see.more (Nat.le_of_lt hgfb))
                have hFl : F.length ≤ 80 := by omega
                have a0 := HF4.out.row.cell (k := 1) rfl
                have a1 : ∀ o : Obj, (wb.alloc o).cell? ⟨gt, 1, none⟩ = some (.slice A F.length cA) := fun o => (HF4.out.row.alloc o).cell (k := 1) rfl
                have s0 := HS4.out.cell (k := 0) rfl
                have s1 := HS4.out.cell (k := 1) rfl
                have s2 := HS4.out.cell (k := 2) rfl
                rw [hwb]
                clear hhl hI H6 HFS hwb HFX
                go_region_law
                  (first
                    | (refine wp_append_seesN (.const (.slice none 0 0)) (.tmp 91) 51 rfl wb.heap.size 90 i0 (.agg #[.int .i64 0, .int .i64 0, .slice none 0 0]) 3 40 Tryz.underlying51 hi hi0 hi1 hi2 rfl (by decide) (.slice none 0 0) 0 [] rfl (World.ownsRow_nil _ _ _ _) wb.heap.size A F.length cA (fdcells hs) rfl HCA HCL (hide (HCS.out.draws 1)) HCC (fdcells_oneCell _) (by unfold maxLen; omega) (by omega) (Nat.le_refl _) ?_; intro v1 w5 ho1 hg1; have hG1 : wb.grownBy w5 none := (grown_draws (World.grownBy.refl wb none) 1).trans hg1; have s20 := (HS4.out.grown hG1 (fun e => by cases e)).cell (k := 0) rfl; have s21 := (HS4.out.grown hG1 (fun e => by cases e)).cell (k := 1) rfl; have s22 := (HS4.out.grown hG1 (fun e => by cases e)).cell (k := 2) rfl)
                    | (refine wp_append_seesN (.const (.slice none 0 0)) (.tmp 91) 51 rfl wb.heap.size 90 i0 (.agg #[.int .i64 0, .int .i64 0, .slice none 0 0]) 3 40 Tryz.underlying51 hi hi0 hi1 hi2 rfl (by decide) (.slice none 0 0) 0 [] rfl (World.ownsRow_nil _ _ _ _) wb.heap.size A F.length cA (fdcells hs) rfl HCA HCL (hide ((HCS.out.draws 1).alloc (Nat.le_refl _) _)) HCC (fdcells_oneCell _) (by unfold maxLen; omega) (by omega) (by simp) ?_; intro v1 w5 ho1 hg1; have hG1 : wb.grownBy w5 none := ((grown_draws (World.grownBy.refl wb none) 1).trans (World.grownBy_alloc _ _ _)).trans hg1; have hN1 := ((Row.new (wb.drewN 1) 90 [.int .i64 (P : Int), .int .i64 ((q : Int) * Al), .slice A1 n1 c1]).at_ (g' := wb.heap.size) rfl).grown hg1 (fun e => by cases e))
                    | (refine wp_append_own _ (.tmp 92) (.tmp 94) 51 rfl wb.heap.size 90 i0 (.agg #[.int .i64 0, .int .i64 0, .slice none 0 0]) 3 40 Tryz.underlying51 hi hi0 hi1 hi2 rfl (by decide) v1 (0 + F.length) ([] ++ fdcells hs) rfl (ho1.alloc _) ⟨w5.heap.size, 0, none⟩ 1 1 [.int .i64 (P : Int), .int .i64 ((q : Int) * Al), .slice A1 n1 c1] rfl rfl (fun j u hu => by rw [WideShapes.add_plain, Nat.zero_add]; exact (Row.new w5 90 [.int .i64 (P : Int), .int .i64 ((q : Int) * Al), .slice A1 n1 c1]).cell hu) (fdcells_oneCell [⟨(P : Int), (q : Int) * Al, A1, n1, c1⟩]) (by unfold maxLen; omega) (by omega) (by have := hG1.size; simp; omega) ?_; intro v2 w6 ho2 hg2 _; have HG6 : Hid (wb.grownBy w6 none) := hide ((hG1.trans (World.grownBy_alloc _ _ _)).andThen hg2 (fun k hk => .inl (ho1.lt k hk).1)); obtain ⟨A6, c6, rfl, hA6, hc6, hf6, -⟩ := own_seen ho2; have b0 := (HF4.out.row.grown HG6.out (fun e => by cases e)).cell (k := 1) rfl; have b1 := (HF4.out.row.grown HG6.out (fun e => by cases e)).free 1)
                    | (refine wp_append_own _ (.tmp 92) (.tmp 94) 51 rfl wb.heap.size 90 i0 (.agg #[.int .i64 0, .int .i64 0, .slice none 0 0]) 3 40 Tryz.underlying51 hi hi0 hi1 hi2 rfl (by decide) v1 (0 + F.length) ([] ++ fdcells hs) rfl ho1 ⟨wb.heap.size, 0, none⟩ 1 1 [.int .i64 (P : Int), .int .i64 ((q : Int) * Al), .slice A1 n1 c1] rfl rfl (fun j u hu => by rw [WideShapes.add_plain, Nat.zero_add]; exact hN1.cell hu) (fdcells_oneCell [⟨(P : Int), (q : Int) * Al, A1, n1, c1⟩]) (by unfold maxLen; omega) (by omega) hG1.size ?_; intro v2 w6 ho2 hg2 _; have HG6 : Hid (wb.grownBy w6 none) := hide (hG1.andThen hg2 (fun k hk => .inl (ho1.lt k hk).1)); obtain ⟨A6, c6, rfl, hA6, hc6, hf6, -⟩ := own_seen ho2; have b0 := (HF4.out.row.grown HG6.out (fun e => by cases e)).cell (k := 1) rfl; have b1 := (HF4.out.row.grown HG6.out (fun e => by cases e)).free 1))
                all_goals
                  simp only [Nat.zero_add, List.nil_append] at ho2
                  have HN := hide (HF4.out.add HP.out hgf HG6.out ho2 (by omega))
                  clear ho2 hg2 ho1 hg1 hG1 hA6 hc6 hf6 HF4 HS4 HG6 HCA HCL HCS HCC a0 a1 s0 s1 s2
                  go_wp2_with fail
                  go_roundw
                  case rel => exact ⟨j, _, A6, c6, _, F ++ [⟨(P : Int), (q : Int) * Al, C⟩], by go_num, by simp; omega, HNX, by simpa using HN⟩
                  case measure => simp [intOf]
              | ok u2 t2 =>
                obtain ⟨k3, e, r3, hke3, rfl, hs3⟩ := hF2.out.kp.r
                have d2 := r3.row.cell (k := 2) rfl
                clear r3 hs3
                go_wp2_with fail
                refine (sinstr_any g b off m c (zs.take m) (.ok () t2) _ HZ (hide hF2.out.kp.r)).mono ?_
                rintro e w8 ⟨o, x, y, z, im, rfl, hR, hG, hxi, hxy⟩
                have N4 := hide (hI2.out.step (a := (⟨o, x, y, z, im⟩ : Ins)) hxy)
                have F4 := hide (hF2.out.to HP.out hgf hR hG)
                obtain ⟨gs, hgs⟩ : ∃ gs, gs = w8.heap.size := ⟨_, rfl⟩
                obtain ⟨wb, hwb⟩ : ∃ wb, w8.alloc (.cells #[.int .i64 o, .int .i64 x, .int .i64 y, .int .i64 z, .int .u64 im] 64) = wb := ⟨_, rfl⟩
                have HWB := hide hwb
                have HF4 := hide (show DfI WG g gt gf w.heap.size b off m c (zs.take m) _ Al A F.length cA hs F (P : Int) ((q : Int) * Al) A1 n1 c1 C wb by rw [← hwb]; exact F4.out.alloc _)
                have HS4 := hide (show Row wb gs 64 [.int .i64 o, .int .i64 x, .int .i64 y, .int .i64 z, .int .u64 im] by rw [hgs, ← hwb]; exact Row.new _ _ _)
                have HGS := hide hgs
                clear hR hG hxy d2 hF2 hI2 hwb hgs F4
                go_wp2_with fail
                rw [HWB.out, ← HGS.out]
                clear HWB HGS
                have l1 := HF4.out.cl
                have hn1 : n1 ≤ 1024 := by omega
                have HCA := hide HF4.out.cap.1
                have HCL := hide (show (icells C).length = n1 * 5 by rw [icells_length, l1])
                have HCS := hide HF4.out.see
                have HCC := hide HF4.out.cap.2.1
                have HXI := hide hxi
                have a0 := HF4.out.fr.cell (k := 2) rfl
                have a1 : ∀ o : Obj, (wb.alloc o).cell? ⟨gf, 2, none⟩ = some (.slice A1 n1 c1) := fun o => (HF4.out.fr.alloc o).cell (k := 2) rfl
                have s0 := HS4.out.cell (k := 0) rfl
                have s1 := HS4.out.cell (k := 1) rfl
                have s2 := HS4.out.cell (k := 2) rfl
                have s3 := HS4.out.cell (k := 3) rfl
                have s4 := HS4.out.cell (k := 4) rfl
                have hsl := HS4.out.lt
                clear l1 hxi
                go_region_law
                  (first
                    | (refine wp_append_seesN (.const (.slice none 0 0)) (.tmp 84) 65 rfl wb.heap.size 64 j0 (.agg #[.int .i64 0, .int .i64 0, .int .i64 0, .int .i64 0, .int .u64 0]) 5 40 Tryz.underlying65 ji jz0 jz1 jz2 rfl (by decide) (.slice none 0 0) 0 [] rfl (World.ownsRow_nil _ _ _ _) wb.heap.size A1 n1 c1 (icells C) rfl HCA HCL (hide (HCS.out.draws 1)) HCC (icells_oneCell _) (by unfold maxLen; omega) (by omega) (Nat.le_refl _) ?_; intro v1 w5 ho1 hg1; have hG1 : wb.grownBy w5 none := (grown_draws (World.grownBy.refl wb none) 1).trans hg1; have s20 := (HS4.out.grown hG1 (fun e => by cases e)).cell (k := 0) rfl; have s21 := (HS4.out.grown hG1 (fun e => by cases e)).cell (k := 1) rfl; have s22 := (HS4.out.grown hG1 (fun e => by cases e)).cell (k := 2) rfl; have s23 := (HS4.out.grown hG1 (fun e => by cases e)).cell (k := 3) rfl; have s24 := (HS4.out.grown hG1 (fun e => by cases e)).cell (k := 4) rfl)
                    | (refine wp_append_seesN (.const (.slice none 0 0)) (.tmp 84) 65 rfl wb.heap.size 64 j0 (.agg #[.int .i64 0, .int .i64 0, .int .i64 0, .int .i64 0, .int .u64 0]) 5 40 Tryz.underlying65 ji jz0 jz1 jz2 rfl (by decide) (.slice none 0 0) 0 [] rfl (World.ownsRow_nil _ _ _ _) wb.heap.size A1 n1 c1 (icells C) rfl HCA HCL (hide ((HCS.out.draws 1).alloc (Nat.le_refl _) _)) HCC (icells_oneCell _) (by unfold maxLen; omega) (by omega) (by simp) ?_; intro v1 w5 ho1 hg1; have hG1 : wb.grownBy w5 none := ((grown_draws (World.grownBy.refl wb none) 1).trans (World.grownBy_alloc _ _ _)).trans hg1; have hN1 := ((Row.new (wb.drewN 1) 64 [.int .i64 o, .int .i64 x, .int .i64 y, .int .i64 z, .int .u64 im]).at_ (g' := wb.heap.size) rfl).grown hg1 (fun e => by cases e))
                    | (refine wp_append_own _ (.tmp 85) (.tmp 87) 65 rfl wb.heap.size 64 j0 (.agg #[.int .i64 0, .int .i64 0, .int .i64 0, .int .i64 0, .int .u64 0]) 5 40 Tryz.underlying65 ji jz0 jz1 jz2 rfl (by decide) v1 (0 + n1) ([] ++ icells C) rfl (ho1.alloc _) ⟨w5.heap.size, 0, none⟩ 1 1 [.int .i64 o, .int .i64 x, .int .i64 y, .int .i64 z, .int .u64 im] rfl rfl (fun j u hu => by rw [WideShapes.add_plain, Nat.zero_add]; exact (Row.new w5 64 [.int .i64 o, .int .i64 x, .int .i64 y, .int .i64 z, .int .u64 im]).cell hu) (icells_oneCell [⟨o, x, y, z, im⟩]) (by unfold maxLen; omega) (by omega) (by have := hG1.size; simp; omega) ?_; intro v2 w6 ho2 hg2 _; have HG6 : Hid (wb.grownBy w6 none) := hide ((hG1.trans (World.grownBy_alloc _ _ _)).andThen hg2 (fun k hk => .inl (ho1.lt k hk).1)); obtain ⟨A6, c6, rfl, hA6, hc6, hf6, -⟩ := own_seen ho2; have b0 := (HF4.out.fr.grown HG6.out (fun e => by cases e)).cell (k := 2) rfl; have b1 := (HF4.out.fr.grown HG6.out (fun e => by cases e)).free 2)
                    | (refine wp_append_own _ (.tmp 85) (.tmp 87) 65 rfl wb.heap.size 64 j0 (.agg #[.int .i64 0, .int .i64 0, .int .i64 0, .int .i64 0, .int .u64 0]) 5 40 Tryz.underlying65 ji jz0 jz1 jz2 rfl (by decide) v1 (0 + n1) ([] ++ icells C) rfl ho1 ⟨wb.heap.size, 0, none⟩ 1 1 [.int .i64 o, .int .i64 x, .int .i64 y, .int .i64 z, .int .u64 im] rfl rfl (fun j u hu => by rw [WideShapes.add_plain, Nat.zero_add]; exact hN1.cell hu) (icells_oneCell [⟨o, x, y, z, im⟩]) (by unfold maxLen; omega) (by omega) hG1.size ?_; intro v2 w6 ho2 hg2 _; have HG6 : Hid (wb.grownBy w6 none) := hide (hG1.andThen hg2 (fun k hk => .inl (ho1.lt k hk).1)); obtain ⟨A6, c6, rfl, hA6, hc6, hf6, -⟩ := own_seen ho2; have b0 := (HF4.out.fr.grown HG6.out (fun e => by cases e)).cell (k := 2) rfl; have b1 := (HF4.out.fr.grown HG6.out (fun e => by cases e)).free 2))
                all_goals
                  simp only [Nat.zero_add, List.nil_append] at ho2
                  have HN := hide (HF4.out.ins (x := ⟨o, x, y, z, im⟩) HP.out hgf HG6.out ho2 (by omega) HXI.out)
                  clear ho2 hg2 ho1 hg1 hG1 hA6 hc6 hf6 HF4 HS4 HG6 HCA HCL HCS HCC a0 a1 s0 s1 s2 s3 s4
                  go_wp2_with fail
                  go_roundw
                  case rel => exact ⟨j2, _, A6, n1 + 1, c6, C ++ [⟨o, x, y, z, im⟩], by go_num, by simp; omega, N4, HN⟩
                  case measure => simp [intOf]
            · obtain rfl : k2 = 0 := by omega
              rw [show ((0 : Nat) : Int) = 0 from rfl]
              have H6 := hide (fun β K => hI2.out.done β K)
              clear hI2
              have HFX := hF2
              clear hF2
              go_wp2_with fail
              have HFS := hide (fr_steps Al (.ok () t) T1 T2 T3 S' P q n2 C hT1.out hPv.out hT2.out hqv.out hT3.out hn2.out H6.out)
              have HNX := hide (show LoopI (frQ Al) S3 n0 S' j (F ++ [⟨(P : Int), (q : Int) * Al, C⟩]) by
                have h := hI.out.step (a := ⟨(P : Int), (q : Int) * Al, C⟩) (fun s r e => to_val (by rw [← HFS.out]; exact e))
                rwa [HFS.out, to_st] at h)
              obtain ⟨wb, hwb⟩ : ∃ x, wr = x := ⟨_, rfl⟩
              have HF4 := hide (show DfI WG g gt gf w.heap.size b off m c (zs.take m) S' Al A F.length cA hs F (P : Int) ((q : Int) * Al) A1 n1 c1 C wb by rw [← hwb]; exact HFX.out)
              have HS4 := hide HF4.out.fr
              have hhl : hs.length = F.length := HF4.out.tg.hd.len
              have HCA := hide HF4.out.tg.cap.1
              have HCL := hide (show (fdcells hs).length = F.length * 3 by rw [fdcells_length, hhl])
              have HCC := hide HF4.out.tg.cap.2.1
              have hgfb := HF4.out.fr.lt
              have HCS := hide (show Sees wb wb.heap.size A (fdcells hs) from HF4.out.tg.see.more (Nat.le_of_lt hgfb))
              have hFl : F.length ≤ 80 := by omega
              have a0 := HF4.out.row.cell (k := 1) rfl
              have a1 : ∀ o : Obj, (wb.alloc o).cell? ⟨gt, 1, none⟩ = some (.slice A F.length cA) := fun o => (HF4.out.row.alloc o).cell (k := 1) rfl
              have s0 := HS4.out.cell (k := 0) rfl
              have s1 := HS4.out.cell (k := 1) rfl
              have s2 := HS4.out.cell (k := 2) rfl
              rw [hwb]
              clear hhl hI H6 HFS hwb HFX
              go_region_law
                (first
                  | (refine wp_append_seesN (.const (.slice none 0 0)) (.tmp 91) 51 rfl wb.heap.size 90 i0 (.agg #[.int .i64 0, .int .i64 0, .slice none 0 0]) 3 40 Tryz.underlying51 hi hi0 hi1 hi2 rfl (by decide) (.slice none 0 0) 0 [] rfl (World.ownsRow_nil _ _ _ _) wb.heap.size A F.length cA (fdcells hs) rfl HCA HCL (hide (HCS.out.draws 1)) HCC (fdcells_oneCell _) (by unfold maxLen; omega) (by omega) (Nat.le_refl _) ?_; intro v1 w5 ho1 hg1; have hG1 : wb.grownBy w5 none := (grown_draws (World.grownBy.refl wb none) 1).trans hg1; have s20 := (HS4.out.grown hG1 (fun e => by cases e)).cell (k := 0) rfl; have s21 := (HS4.out.grown hG1 (fun e => by cases e)).cell (k := 1) rfl; have s22 := (HS4.out.grown hG1 (fun e => by cases e)).cell (k := 2) rfl)
                  | (refine wp_append_seesN (.const (.slice none 0 0)) (.tmp 91) 51 rfl wb.heap.size 90 i0 (.agg #[.int .i64 0, .int .i64 0, .slice none 0 0]) 3 40 Tryz.underlying51 hi hi0 hi1 hi2 rfl (by decide) (.slice none 0 0) 0 [] rfl (World.ownsRow_nil _ _ _ _) wb.heap.size A F.length cA (fdcells hs) rfl HCA HCL (hide ((HCS.out.draws 1).alloc (Nat.le_refl _) _)) HCC (fdcells_oneCell _) (by unfold maxLen; omega) (by omega) (by simp) ?_; intro v1 w5 ho1 hg1; have hG1 : wb.grownBy w5 none := ((grown_draws (World.grownBy.refl wb none) 1).trans (World.grownBy_alloc _ _ _)).trans hg1; have hN1 := ((Row.new (wb.drewN 1) 90 [.int .i64 (P : Int), .int .i64 ((q : Int) * Al), .slice A1 n1 c1]).at_ (g' := wb.heap.size) rfl).grown hg1 (fun e => by cases e))
                  | (refine wp_append_own _ (.tmp 92) (.tmp 94) 51 rfl wb.heap.size 90 i0 (.agg #[.int .i64 0, .int .i64 0, .slice none 0 0]) 3 40 Tryz.underlying51 hi hi0 hi1 hi2 rfl (by decide) v1 (0 + F.length) ([] ++ fdcells hs) rfl (ho1.alloc _) ⟨w5.heap.size, 0, none⟩ 1 1 [.int .i64 (P : Int), .int .i64 ((q : Int) * Al), .slice A1 n1 c1] rfl rfl (fun j u hu => by rw [WideShapes.add_plain, Nat.zero_add]; exact (Row.new w5 90 [.int .i64 (P : Int), .int .i64 ((q : Int) * Al), .slice A1 n1 c1]).cell hu) (fdcells_oneCell [⟨(P : Int), (q : Int) * Al, A1, n1, c1⟩]) (by unfold maxLen; omega) (by omega) (by have := hG1.size; simp; omega) ?_; intro v2 w6 ho2 hg2 _; have HG6 : Hid (wb.grownBy w6 none) := hide ((hG1.trans (World.grownBy_alloc _ _ _)).andThen hg2 (fun k hk => .inl (ho1.lt k hk).1)); obtain ⟨A6, c6, rfl, hA6, hc6, hf6, -⟩ := own_seen ho2; have b0 := (HF4.out.row.grown HG6.out (fun e => by cases e)).cell (k := 1) rfl; have b1 := (HF4.out.row.grown HG6.out (fun e => by cases e)).free 1)
                  | (refine wp_append_own _ (.tmp 92) (.tmp 94) 51 rfl wb.heap.size 90 i0 (.agg #[.int .i64 0, .int .i64 0, .slice none 0 0]) 3 40 Tryz.underlying51 hi hi0 hi1 hi2 rfl (by decide) v1 (0 + F.length) ([] ++ fdcells hs) rfl ho1 ⟨wb.heap.size, 0, none⟩ 1 1 [.int .i64 (P : Int), .int .i64 ((q : Int) * Al), .slice A1 n1 c1] rfl rfl (fun j u hu => by rw [WideShapes.add_plain, Nat.zero_add]; exact hN1.cell hu) (fdcells_oneCell [⟨(P : Int), (q : Int) * Al, A1, n1, c1⟩]) (by unfold maxLen; omega) (by omega) hG1.size ?_; intro v2 w6 ho2 hg2 _; have HG6 : Hid (wb.grownBy w6 none) := hide (hG1.andThen hg2 (fun k hk => .inl (ho1.lt k hk).1)); obtain ⟨A6, c6, rfl, hA6, hc6, hf6, -⟩ := own_seen ho2; have b0 := (HF4.out.row.grown HG6.out (fun e => by cases e)).cell (k := 1) rfl; have b1 := (HF4.out.row.grown HG6.out (fun e => by cases e)).free 1))
              all_goals
                simp only [Nat.zero_add, List.nil_append] at ho2
                have HN := hide (HF4.out.add HP.out hgf HG6.out ho2 (by omega))
                clear ho2 hg2 ho1 hg1 hG1 hA6 hc6 hf6 HF4 HS4 HG6 HCA HCL HCS HCC a0 a1 s0 s1 s2
                go_wp2_with fail
                go_roundw
                case rel => exact ⟨j, _, A6, c6, _, F ++ [⟨(P : Int), (q : Int) * Al, C⟩], by go_num, by simp; omega, HNX, by simpa using HN⟩
                case measure => simp [intOf]
    · obtain rfl : k' = 0 := by omega
      rw [show ((0 : Nat) : Int) = 0 from rfl]
      have H5 := hide (HTS.out S F (fun β K => hI.out.done β K))
      clear hI
      cases S with
      | no xx =>
        obtain ⟨k1, e, r1, hke1, rfl⟩ := hF.out.kp.r
        have c2 := r1.row.cell (k := 2) rfl
        clear r1
        have HD := hide (HBAD.out (fun Al' bd' F' r h => by rw [show tgQ ((zs.take m).drop 4) = .no xx from H5.out] at h; cases h))
        have z0 := hF.out.res.cell (k := 0) rfl
        have z1 := hF.out.res.cell (k := 1) rfl
        have y0 := hF.out.res.free 0
        have y1 := hF.out.res.free 1
        have hf := hide ((hF.out.res.set_ 0 (.int .i64 0)).set_ 1 (.slice none 0 0))
        have HBW := hide (below_grown hbG.out hF.out.kp.g (by omega) hbG.out.size)
        have H23 := hide ((HBW.out.setCell (p := ⟨w.heap.size, 0, none⟩) (by simp) (.int .i64 0)).setCell (p := ⟨w.heap.size, 1, none⟩) (by simp) (.slice none 0 0))
        clear H5 hF
        go_wp2_with fail
        have f0 := hf.out.cell (k := 0) rfl
        have f1 := hf.out.cell (k := 1) rfl
        exact bodyPost_ret (v := .tuple #[tv 0 none 0 0, .int .i64 0, .int .i64 2]) (by simp [results, Tryz.results23, go_sem, f0, f1]) rfl (jz_end HD.out H23.out)
      | ok uu t =>
        have HOK := hide (show tgQ ((zs.take m).drop 4) = .ok (Al, (bd : Int), F) t from H5.out)
        obtain ⟨k1, e, r1, hke1, rfl, hs1⟩ := hF.out.kp.r
        have c2 := r1.row.cell (k := 2) rfl
        have t0 := hF.out.row.cell (k := 0) rfl
        have t1 := hF.out.row.cell (k := 1) rfl
        clear r1 hs1 H5
        go_wp2_with fail
        refine (rencode_any Al (bd : Int) A F.length cA hs F (gt + 1) _ (hide hF.out.tg) (hide hF.out.imm)).mono ?_
        rintro e w9 ⟨A9, n9, c9, rfl, h1, h2, hb9⟩
        have hlt9 := hF.out.row.lt
        have HB9 := hide (below_call (below_grown hbG.out hF.out.kp.g (by omega) hbG.out.size) hb9)
        have HR9 := hide (hF.out.res.call hb9)
        have HT9 := hide (hF.out.row.call hb9)
        have HG9 := hide (hF.out.tg.call hb9)
        have HI9 := hide hF.out.imm
        have HSB9 := hide (show Sees w9 w9.heap.size (some ⟨b, off, none⟩) (cellsU8 zs) by
          have hgb := HP.out.b
          have hsz := hF.out.kp.g.size
          have h1 := HSB.out.keep fun p hp => World.cell?_of_block (hF.out.kp.g.block p.block (by omega) (fun e => by injection e with e; omega))
          exact ((h1.more (B' := wr.heap.size) (by omega)).below hb9).more hb9.size)
        have HO := hide h1
        clear h1 h2 hF t0 t1 c2
        have hwt : w.heap.size < gt := by omega
        by_cases he : encJE Al (bd : Int) F = 0
        · obtain ⟨hn9, ho9⟩ := HO.out he
          have hgd : JGood Al (bd : Int) F := ⟨he, HI9.out⟩
          obtain ⟨A9', c9', e9, -, -, -, hs9⟩ := own_seen ho9
          injection e9 with e9a _ e9c
          subst e9a e9c
          have hln9 := hgd.parts.2.2.1
          have cb := smb_any A9 (some ⟨b, off, none⟩) n9 c9 n c (encJ Al (bd : Int) F) zs w9.heap.size w9 (hide hn9.symm) (hide hz.out.len) (by omega) (by omega) hs9 HSB9.out
          rw [he]
          by_cases heq : encJ Al (bd : Int) F = zs
          · rw [decide_eq_true heq] at cb
            have HD := hide (HGOOD.out Al (bd : Int) F hgd heq)
            clear hgd heq he ho9 hs9 HO hn9 hln9
            go_wp2_with fail
            refine cb.mono ?_
            rintro e w' ⟨rfl, i, rfl⟩
            have t0 := (HT9.out.drewN i).cell (k := 0) rfl
            have t1 := (HT9.out.drewN i).cell (k := 1) rfl
            have r0 := (HR9.out.drewN i).cell (k := 0) rfl
            have r1 := (HR9.out.drewN i).cell (k := 1) rfl
            have q0 := (HR9.out.drewN i).free 0
            have q1 := (HR9.out.drewN i).free 1
            have hf := hide (((HR9.out.drewN i).set_ 0 (.int .i64 Al)).set_ 1 (.slice A F.length cA))
            have H23 := hide (show JdPost zs w (.returned (.tuple #[tv Al A F.length cA, .int .i64 (bd : Int), .int .i64 0])) (((w9.drewN i).setCell ⟨w.heap.size, 0, none⟩ (.int .i64 Al)).setCell ⟨w.heap.size, 1, none⟩ (.slice A F.length cA)) from
              ⟨0, Al, (bd : Int), F, A, F.length, cA, hs, rfl, HD.out, ((HG9.out.drewN i).keep fun p h1 _ => by
                have hne : ∀ j, (⟨w.heap.size, j, none⟩ : Addr) ≠ p := fun j e => by subst e; simp at h1; omega
                rw [World.cell?_setCell_other _ _ _ _ (hne _), World.cell?_setCell_other _ _ _ _ (hne _)]).more (by simp [World.setCell]) (by omega), HI9.out, ((below_draws HB9.out i).setCell (p := ⟨w.heap.size, 0, none⟩) (by simp) _).setCell (p := ⟨w.heap.size, 1, none⟩) (by simp) _⟩)
            go_wp2
            have f0 := hf.out.cell (k := 0) rfl
            have f1 := hf.out.cell (k := 1) rfl
            exact bodyPost_ret (v := .tuple #[tv Al A F.length cA, .int .i64 (bd : Int), .int .i64 0]) (by simp [results, Tryz.results23, go_sem, f0, f1]) rfl H23.out
          · rw [decide_eq_false heq] at cb
            have HD := hide (HBAD.out (fun Al' bd' F' r h => by
              rw [HOK.out] at h
              injection h with h
              injection h with h1 h
              injection h with h2 h3
              subst h1 h2 h3
              exact fun h => heq h.2))
            clear hgd heq he ho9 hs9 HO hn9 hln9
            go_wp2_with fail
            refine cb.mono ?_
            rintro e w' ⟨rfl, i, rfl⟩
            have r0 := (HR9.out.drewN i).cell (k := 0) rfl
            have r1 := (HR9.out.drewN i).cell (k := 1) rfl
            have q0 := (HR9.out.drewN i).free 0
            have q1 := (HR9.out.drewN i).free 1
            have hf := hide (((HR9.out.drewN i).set_ 0 (.int .i64 0)).set_ 1 (.slice none 0 0))
            have H23 := hide (((below_draws HB9.out i).setCell (p := ⟨w.heap.size, 0, none⟩) (by simp) (.int .i64 0)).setCell (p := ⟨w.heap.size, 1, none⟩) (by simp) (.slice none 0 0))
            go_wp2
            have f0 := hf.out.cell (k := 0) rfl
            have f1 := hf.out.cell (k := 1) rfl
            exact bodyPost_ret (v := .tuple #[tv 0 none 0 0, .int .i64 0, .int .i64 2]) (by simp [results, Tryz.results23, go_sem, f0, f1]) rfl (jz_end HD.out H23.out)
        · have HD := hide (HBAD.out (fun Al' bd' F' r h => by
            rw [HOK.out] at h
            injection h with h
            injection h with h1 h
            injection h with h2 h3
            subst h1 h2 h3
            exact fun h => he h.1))
          have r0 := HR9.out.cell (k := 0) rfl
          have r1 := HR9.out.cell (k := 1) rfl
          have q0 := HR9.out.free 0
          have q1 := HR9.out.free 1
          have hf := hide ((HR9.out.set_ 0 (.int .i64 0)).set_ 1 (.slice none 0 0))
          have H23 := hide ((HB9.out.setCell (p := ⟨w.heap.size, 0, none⟩) (by simp) (.int .i64 0)).setCell (p := ⟨w.heap.size, 1, none⟩) (by simp) (.slice none 0 0))
          obtain ⟨x, hx⟩ : ∃ x, encJE Al (bd : Int) F = x := ⟨_, rfl⟩
          rw [hx] at he ⊢
          have hne : (x == 0) = false := by simpa using he
          have hne2 : (x != 0) = true := by simpa using he
          have hne3 : decide (x = 0) = false := decide_eq_false he
          clear hx HO
          go_wp2
          have f0 := hf.out.cell (k := 0) rfl
          have f1 := hf.out.cell (k := 1) rfl
          exact bodyPost_ret (v := .tuple #[tv 0 none 0 0, .int .i64 0, .int .i64 2]) (by simp [results, Tryz.results23, go_sem, f0, f1]) rfl (jz_end HD.out H23.out)
theorem sdecode_any (A : Option Addr) (n c : Nat) (zs : List Int) (w : World) (hm : n ≤ 4611686018427387904) (hB : Hid (BsAt w w.heap.size A n c zs)) :
    Calls Tryz.prog 23 #[.slice A n c] w (JdPost zs w) := by
  have hl := hB.out.len
  by_cases h1 : 1048576 < n
  · exact sdec_far A n c zs w (hide hl) h1 (by omega)
  · by_cases h2 : n < 10
    · exact sdec_near A n c zs w (hide hl) h2
    · obtain ⟨z, hzz⟩ : ∃ z, (cellsU8 zs)[0]? = some z := ⟨_, List.getElem?_eq_getElem (by simp [cellsU8]; omega)⟩
      obtain ⟨b, off, rfl, -, -⟩ := hB.out.see 0 z hzz
      have hsrc : Src n c zs := ⟨hl, hB.out.nc, hB.out.cm, by omega, hB.out.byt⟩
      by_cases h3 : zs.take 4 = jmagic ∧ crcB zs = true
      · exact sdec_main b off (n - 4) n c zs w (hide (by show _ = _; omega)) (hide hsrc) (hide hB.out.see) (hide (by show _ ≤ _; omega)) (hide h3.1) (hide h3.2)
      · exact sdec_bad b off n c zs w (hide hsrc) (hide hB.out.see) (by omega) (hide h3)
end Go.Proofs.YtlcmcmocjbeocaaGreatDoor
end
