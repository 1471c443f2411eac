import Derived.Test.YtlhaendgdeflkaaGreatDoorMHb
import Derived.Deep.DeepCutAuto
set_option linter.unusedVariables false
set_option linter.unusedSimpArgs false
section
/-
  The reference's instr (chapter 7): the instruction of any words. No condition but those of the types.
-/
namespace Go.Proofs.YtlhaendgdeflkaaGreatDoor
open Go.RowKit

theorem num_cell {w : World} {base n : Nat} {v : Value} {l : List Int} (h : w.ownsRow base 42 1 v n (ucells l)) (hn : 0 < n) : ∃ g c, v = .slice (some ⟨g, 0, none⟩) n c ∧ base ≤ g ∧ g < w.heap.size ∧ ∀ (k : Nat) (z : Int), l[k]? = some z → w.cell? ⟨g, k, none⟩ = some (.int .u64 z) := by
  obtain ⟨g, c, rfl, hg, hlt, _, _⟩ := own_block h hn
  refine ⟨g, c, rfl, hg, hlt, fun k z hz => ?_⟩
  have := h.cells (g := g) rfl k (.int .u64 z) (by unfold ucells; rw [List.getElem?_map, hz]; rfl)
  rwa [Lib.add_plain, Nat.zero_add] at this
theorem numI_at {ms : List Mk} {ws : List (List UInt8)} (h : numsE ms ws = 0) {k : Nat} (hk : k < ms.length) : ∃ z : Int, (numsI ms ws)[k]? = some z ∧ Hid (((numsV ms ws).getD k 0 : Nat) = z) ∧ 0 ≤ z ∧ z < ((limU (ms.getD k ([], false)).2 : Nat) : Int) := by
  have h1 := numsV_lt h hk
  refine ⟨(((numsV ms ws).getD k 0 : Nat) : Int), ?_, rfl, by omega, by omega⟩
  unfold numsI
  rw [List.getElem?_map, numsV_at hk, List.getD_eq_getElem?_getD, numsV_at hk]
  rfl
theorem in_bad {nm : List UInt8} {r : List (List UInt8)} {x : Int} (h : insE7 nm r = x) (hx : x ≠ 0) : insX7 nm r = ⟨0, 0, 0, 0, 0⟩ := by
  unfold insE7 at h
  unfold insX7
  split at h
  · rfl
  · rw [if_neg (by rw [h]; exact hx)]


set_option maxHeartbeats 8000000 in
set_option maxRecDepth 100000 in
theorem rtinstr_abc (b1 o1 n c : Nat) (nm : List UInt8) (r : List (List UInt8)) (w : World) (B k : Nat) (hB : B ≤ w.heap.size) (hb1 : b1 < B) (hS : Hid (Sees w B (some ⟨b1, o1, none⟩) (wcells (nm :: r)))) (hn : n = r.length + 1) (hnc : n ≤ c) (hnb : n ≤ 100000001)
    (hlen : Hid (∀ x ∈ r, x.length ≤ 100000000)) (hk : k < 25) (hop : Hid (opU nm = some k)) (hs : useA k = true ∧ useB k = true ∧ useC k = true ∧ useI k = false) :
    Calls Tryz.prog 51 #[.slice (some ⟨b1, o1, none⟩) n c] w (InPost nm r w) := by
  obtain ⟨i0, hi, hz0, hz1, hz2⟩ := info_parts info_str
  have hi' := hide hi
  obtain ⟨W, hW⟩ : ∃ W, w.alloc (.cells #[.int .i64 0, .int .i64 0, .int .i64 0, .int .i64 0, .int .u64 0] 44) = W := ⟨_, rfl⟩
  have HB0 := hide (show Below w.heap.size w W by rw [← hW]; exact below1 _ _)
  have R0 := hide (show Row W w.heap.size 44 [.int .i64 0, .int .i64 0, .int .i64 0, .int .i64 0, .int .u64 0] by rw [← hW]; exact Row.new w _ _)
  obtain ⟨b1', o1', e1, _, q0⟩ := word_at hS.out (k := 0) rfl
  injection e1 with e1
  injection e1 with e1 e2
  subst e1 e2
  rw [Nat.add_zero] at q0
  have q1 := (HB0.out.cell (p := ⟨b1, o1, none⟩) (by simp only; omega)).trans q0
  obtain ⟨A2, hsl, hS2⟩ := tail_at hS.out hn hnc
  have HS2 := hide hS2
  have hms := marks_shape hk
  rw [hs.1, hs.2.1, hs.2.2.1, hs.2.2.2] at hms
  have hms : marksU k = [(mA k, false), (mB k, false), (mC k, false)] := hms
  have hmA := mA_len (k : Int)
  have hmB := mB_len (k : Int)
  have hmC := mC_len (k : Int)
  have hmk := rmarks_any (k : Int)
  have hE : insE7 nm r = numsE (marksU k) r := by unfold insE7; rw [hop.out]
  have hX : numsE (marksU k) r = 0 → insX7 nm r = insU k (numsV (marksU k) r) := fun h => by unfold insX7; rw [hop.out]; simp only; rw [if_pos h]
  have hsh := insU_shape k (numsV (marksU k) r)
  rw [hs.1, hs.2.1, hs.2.2.1, hs.2.2.2] at hsh
  rw [hms] at hE hX hsh
  obtain ⟨mA, emA⟩ : ∃ m, mA (k : Int) = m := ⟨_, rfl⟩
  obtain ⟨mB, emB⟩ : ∃ m, mB (k : Int) = m := ⟨_, rfl⟩
  obtain ⟨mC, emC⟩ : ∃ m, mC (k : Int) = m := ⟨_, rfl⟩
  rw [emA] at hmA; rw [emB] at hmB; rw [emC] at hmC
  rw [emA, emB, emC] at hmk
  rw [emA, emB, emC] at hE hX hsh
  obtain ⟨ms, ems⟩ : ∃ ms : List Mk, ms = [(mA, false), (mB, false), (mC, false)] := ⟨_, rfl⟩
  rw [← ems] at hE hX hsh
  have hml : ms.length = 3 := by rw [ems]; rfl
  have hmt : mksT ms = [mA, mB, mC] := by rw [ems]; rfl
  have hopd := ropd_any (k : Int)
  rw [hs.1, hs.2.1, hs.2.2.1, hs.2.2.2] at hopd
  have hfl : Hid (∀ i, i < ms.length → (ms.getD i ([], false)).2 = (false && decide (i + 1 = ms.length))) := hide (by
    rw [ems]; intro i hi; simp only [List.length_cons, List.length_nil] at hi ⊢
    match i, hi with
    | 0, _ => rfl
    | 1, _ => rfl
    | 2, _ => rfl)
  have hmb : Hid (∀ m ∈ ms, m.1.length ≤ 1000) := hide (by rw [ems]; intro m hm; simp only [List.mem_cons, List.not_mem_nil, or_false] at hm; rcases hm with rfl | rfl | rfl <;> (simp only [List.length_nil]; omega))
  have HE := hide hE; have HX := hide hX; have HSH := hide hsh; have HML := hide hml; have HMT := hide hmt
  have gd0 : (ms.getD 0 ([], false)).2 = false := by rw [ems]; rfl
  have gd1 : (ms.getD 1 ([], false)).2 = false := by rw [ems]; rfl
  have gd2 : (ms.getD 2 ([], false)).2 = false := by rw [ems]; rfl
  have GD0 := hide gd0
  have GD1 := hide gd1
  have GD2 := hide gd2
  have HK := hide hk; have HN := hide hn; have HW := hide hW
  have hk0 : (0 : Int) ≤ (k : Int) := by omega
  have hk25 : (k : Int) < 25 := by omega
  have hcn : 1 ≤ c := by omega
  have hnz : 1 ≤ n := by omega
  have hnz2 : (0 : Int) < (n : Int) := by omega
  have hnz3 : 0 < n := by omega
  clear hi hW hms hE hX hsh emA emB emC ems hml hmt hs hk hn hS2 q0 hmA hmB hmC gd0 gd1 gd2
  go_enter Tryz.func51, Tryz.ntmps51
  go_upto_region 1 with (fail)
  rw [HW.out]
  clear HW
  go_wp2_with fail
  refine (rop_any nm W).mono ?_
  rintro e w1 ⟨rfl, hb1'⟩
  rw [hop.out]
  simp only [Option.getD_some, Option.isSome_some]
  have HB1 := hide (HB0.out.trans (hb1'.mono HB0.out.size))
  have R1 := hide (R0.out.call hb1')
  clear hb1' q1
  go_wp2_with fail
  refine (hopd _ hk0 hk25).mono ?_
  rintro e w2 ⟨rfl, rfl⟩
  go_wp2_with fail
  refine (hmk _).mono ?_
  rintro e w3 ⟨rfl, rfl⟩
  clear hopd hmk
  have O0 := hide (show w1.ownsRow w.heap.size 9 1 (.slice none 0 0) 0 (wcells []) from World.ownsRow_nil _ _ _ _)
  have HL1 := hide (show w.heap.size < w1.heap.size from R1.out.lt)
  go_upto_region 9 with (at_builtin; refine wpList_append_own _ rfl (.tmp 42) (.tmp 44) 34 rfl w.heap.size 9 i0 (.string ⟨#[]⟩) 1 16 Tryz.underlying34 hi'.out hz0 hz1 hz2 rfl (by decide) _ 0 (wcells []) rfl (O0.out.alloc _) ⟨w1.heap.size, 0, none⟩ 1 1 [.string ⟨mA.toArray⟩] rfl rfl (one_new _ _ _) (one_string _) (by unfold maxLen; omega) (by omega) (by have := HB1.out.size; simp; omega) ?_; intro va1 wa1 hown hg _)
  have HA1 := hide (kept_words HB1.out O0.out (Nat.le_refl _) hg)
  have RA1 := hide (show Row wa1 w.heap.size 44 [.int .i64 0, .int .i64 0, .int .i64 0, .int .i64 0, .int .u64 0] from (R1.out.alloc _).grown hg (own_ne_row (O0.out.alloc (.cells #[.string ⟨mA.toArray⟩] 9)) (R1.out.alloc (.cells #[.string ⟨mA.toArray⟩] 9)) (by decide)))
  have O1 := hide (show wa1.ownsRow w.heap.size 9 1 va1 1 (wcells [mA]) from hown)
  clear hown hg
  go_upto_region 11 with (at_builtin; refine wpList_append_own _ rfl (.tmp 47) (.tmp 49) 34 rfl w.heap.size 9 i0 (.string ⟨#[]⟩) 1 16 Tryz.underlying34 hi'.out hz0 hz1 hz2 rfl (by decide) _ 1 (wcells [mA]) rfl (O1.out.alloc _) ⟨wa1.heap.size, 0, none⟩ 1 1 [.string ⟨mB.toArray⟩] rfl rfl (one_new _ _ _) (one_string _) (by unfold maxLen; omega) (by omega) (by have := HA1.out.size; simp; omega) ?_; intro va2 wa2 hown hg _)
  have HA2 := hide (kept_words HA1.out O1.out (Nat.le_refl _) hg)
  have RA2 := hide (show Row wa2 w.heap.size 44 [.int .i64 0, .int .i64 0, .int .i64 0, .int .i64 0, .int .u64 0] from (RA1.out.alloc _).grown hg (own_ne_row (O1.out.alloc (.cells #[.string ⟨mB.toArray⟩] 9)) (RA1.out.alloc (.cells #[.string ⟨mB.toArray⟩] 9)) (by decide)))
  have O2 := hide (show wa2.ownsRow w.heap.size 9 1 va2 2 (wcells [mA, mB]) from hown)
  clear hown hg
  go_upto_region 13 with (at_builtin; refine wpList_append_own _ rfl (.tmp 52) (.tmp 54) 34 rfl w.heap.size 9 i0 (.string ⟨#[]⟩) 1 16 Tryz.underlying34 hi'.out hz0 hz1 hz2 rfl (by decide) _ 2 (wcells [mA, mB]) rfl (O2.out.alloc _) ⟨wa2.heap.size, 0, none⟩ 1 1 [.string ⟨mC.toArray⟩] rfl rfl (one_new _ _ _) (one_string _) (by unfold maxLen; omega) (by omega) (by have := HA2.out.size; simp; omega) ?_; intro va3 wa3 hown hg _)
  have HA3 := hide (kept_words HA2.out O2.out (Nat.le_refl _) hg)
  have RA3 := hide (show Row wa3 w.heap.size 44 [.int .i64 0, .int .i64 0, .int .i64 0, .int .i64 0, .int .u64 0] from (RA2.out.alloc _).grown hg (own_ne_row (O2.out.alloc (.cells #[.string ⟨mC.toArray⟩] 9)) (RA2.out.alloc (.cells #[.string ⟨mC.toArray⟩] 9)) (by decide)))
  have O3 := hide (show wa3.ownsRow w.heap.size 9 1 va3 3 (wcells [mA, mB, mC]) from hown)
  clear hown hg
  obtain ⟨Am, cm, rfl, -, -, -, hsm⟩ := own_seen O3.out
  have hsm1 := hide hsm
  clear hsm
  have hS3 := hide ((HS2.out wa3 (fun p hp => HA3.out.cell (by omega))).more (show B ≤ wa3.heap.size by have := HA3.out.size; omega))
  go_wp2_with fail
  refine (rnumbers_any A2 (n - 1) (c - 1) r Am 3 cm ms false wa3 wa3.heap.size (Nat.le_refl _) hS3 (hide (by rw [HMT.out]; exact hsm1.out)) (hide (by have := HN.out; omega)) (hide HML.out) hlen hmb (by omega) (by omega) hfl).mono ?_
  rintro e w5 ⟨v5, rfl, ho5, hb5⟩
  have HB5 := hide (HA3.out.trans (hb5.mono HA3.out.size))
  have R5 := hide (RA3.out.call hb5)
  rw [← HE.out] at ho5 ⊢
  have HSZ5 := hide (show w.heap.size < w5.heap.size from R5.out.lt)
  have BS := hide (show wa3.heap.size ≤ w5.heap.size from hb5.size)
  have HO5 := hide ho5
  clear hb5 ho5
  by_cases hE0 : insE7 nm r = 0
  · have hE1 : numsE ms r = 0 := by rw [← HE.out]; exact hE0
    have hXX := (HX.out hE1).trans HSH.out
    have o5 := HO5.out hE0
    obtain ⟨z0, hz0l, hz0v, hz00, hz01⟩ := numI_at hE1 (k := 0) (by rw [HML.out]; omega)
    rw [GD0.out] at hz01
    have hz02 : z0 ≤ 2147483647 := by simp only [limU] at hz01; simp at hz01; omega
    clear hz01
    obtain ⟨z1, hz1l, hz1v, hz10, hz11⟩ := numI_at hE1 (k := 1) (by rw [HML.out]; omega)
    rw [GD1.out] at hz11
    have hz12 : z1 ≤ 2147483647 := by simp only [limU] at hz11; simp at hz11; omega
    clear hz11
    obtain ⟨z2, hz2l, hz2v, hz20, hz21⟩ := numI_at hE1 (k := 2) (by rw [HML.out]; omega)
    rw [GD2.out] at hz21
    have hz22 : z2 ≤ 2147483647 := by simp only [limU] at hz21; simp at hz21; omega
    clear hz21
    rw [HML.out] at o5
    obtain ⟨g5, c5, rfl, -, hg5, hc5⟩ := num_cell o5 (by omega)
    have y0 := hc5 0 _ hz0l
    have y1 := hc5 1 _ hz1l
    have y2 := hc5 2 _ hz2l
    have hg5b : g5 < w5.heap.size + 1 := by omega
    have hg5n : ¬ g5 = w5.heap.size := by omega
    have hXV : insX7 nm r = ⟨k, z0, z1, z2, 0⟩ := by
      rw [hXX]
      simp only [if_true, Bool.false_eq_true, if_false]
      rw [hz0v.out]
      rw [hz1v.out]
      rw [hz2v.out]
    have HXV := hide hXV
    have HE0 := hide hE0
    have hk64 : (k : Int) ≤ 25 := by omega
    clear hE0 hE1 hXX o5 hXV hz0l hz0v hz1l hz1v hz2l hz2v hc5
    rw [HE0.out]
    go_upto_region 31 with (fail)
    obtain ⟨W6, hW6⟩ : ∃ W6, w5.alloc (.cells #[.int .i64 (k : Int), .int .i64 z0, .int .i64 z1, .int .i64 z2, .int .u64 0] 44) = W6 := ⟨_, rfl⟩
    rw [hW6]
    have HB6 := hide (show Below w.heap.size w W6 by rw [← hW6]; exact HB5.out.alloc HB5.out.size _)
    have RX := show Row W6 w5.heap.size 44 [.int .i64 (k : Int), .int .i64 z0, .int .i64 z1, .int .i64 z2, .int .u64 0] by rw [← hW6]; exact Row.new w5 _ _
    have R6 := show Row W6 w.heap.size 44 [.int .i64 0, .int .i64 0, .int .i64 0, .int .i64 0, .int .u64 0] by rw [← hW6]; exact R5.out.alloc _
    have RX := hide RX
    have R6 := hide R6
    clear hW6 y0 y1 y2 hg5b hg5n hg5
    have x0 := RX.out.cell (k := 0) rfl
    have x1 := RX.out.cell (k := 1) rfl
    have x2 := RX.out.cell (k := 2) rfl
    have x3 := RX.out.cell (k := 3) rfl
    have x4 := RX.out.cell (k := 4) rfl
    have c0 := R6.out.cell (k := 0) rfl
    have c1 := R6.out.cell (k := 1) rfl
    have c2 := R6.out.cell (k := 2) rfl
    have c3 := R6.out.cell (k := 3) rfl
    have c4 := R6.out.cell (k := 4) rfl
    have y0 := R6.out.free 0
    have y1 := R6.out.free 1
    have y2 := R6.out.free 2
    have y3 := R6.out.free 3
    have y4 := R6.out.free 4
    go_wp2
    have hf := ((((R6.out.set_ 0 (.int .i64 (k : Int))).set_ 1 (.int .i64 z0)).set_ 2 (.int .i64 z1)).set_ 3 (.int .i64 z2)).set_ 4 (.int .u64 0)
    have f0 := hf.cell (k := 0) rfl
    have f1 := hf.cell (k := 1) rfl
    have f2 := hf.cell (k := 2) rfl
    have f3 := hf.cell (k := 3) rfl
    have f4 := hf.cell (k := 4) rfl
    refine bodyPost_ret (v := .tuple #[iv (k : Int) z0 z1 z2 0, .int .i64 0]) (by simp [results, Tryz.results51, go_sem, f0, f1, f2, f3, f4]) rfl ⟨by rw [HE0.out, HXV.out], ?_⟩
    exact ((((HB6.out.setCell (Nat.le_refl _) _).setCell (Nat.le_refl _) _).setCell (Nat.le_refl _) _).setCell (Nat.le_refl _) _).setCell (Nat.le_refl _) _
  · have hXB := hide (in_bad rfl hE0)
    obtain ⟨xe, exe⟩ : ∃ xe, insE7 nm r = xe := ⟨_, rfl⟩
    rw [exe] at hE0 ⊢
    have hbe : (xe == 0) = false := by rw [beq_eq_false_iff_ne]; exact hE0
    have HXE := hide exe
    clear hE0 exe
    have c0 := R5.out.cell (k := 0) rfl
    have c1 := R5.out.cell (k := 1) rfl
    have c2 := R5.out.cell (k := 2) rfl
    have c3 := R5.out.cell (k := 3) rfl
    have c4 := R5.out.cell (k := 4) rfl
    have y0 := R5.out.free 0
    have y1 := R5.out.free 1
    have y2 := R5.out.free 2
    have y3 := R5.out.free 3
    have y4 := R5.out.free 4
    go_wp2
    have hf := ((((R5.out.set_ 0 (.int .i64 0)).set_ 1 (.int .i64 0)).set_ 2 (.int .i64 0)).set_ 3 (.int .i64 0)).set_ 4 (.int .u64 0)
    have f0 := hf.cell (k := 0) rfl
    have f1 := hf.cell (k := 1) rfl
    have f2 := hf.cell (k := 2) rfl
    have f3 := hf.cell (k := 3) rfl
    have f4 := hf.cell (k := 4) rfl
    refine bodyPost_ret (v := .tuple #[iv 0 0 0 0 0, .int .i64 xe]) (by simp [results, Tryz.results51, go_sem, f0, f1, f2, f3, f4]) rfl ⟨by rw [hXB.out, HXE.out], ?_⟩
    exact ((((HB5.out.setCell (Nat.le_refl _) _).setCell (Nat.le_refl _) _).setCell (Nat.le_refl _) _).setCell (Nat.le_refl _) _).setCell (Nat.le_refl _) _

set_option maxHeartbeats 8000000 in
set_option maxRecDepth 100000 in
theorem rtinstr_ab (b1 o1 n c : Nat) (nm : List UInt8) (r : List (List UInt8)) (w : World) (B k : Nat) (hB : B ≤ w.heap.size) (hb1 : b1 < B) (hS : Hid (Sees w B (some ⟨b1, o1, none⟩) (wcells (nm :: r)))) (hn : n = r.length + 1) (hnc : n ≤ c) (hnb : n ≤ 100000001)
    (hlen : Hid (∀ x ∈ r, x.length ≤ 100000000)) (hk : k < 25) (hop : Hid (opU nm = some k)) (hs : useA k = true ∧ useB k = true ∧ useC k = false ∧ useI k = false) :
    Calls Tryz.prog 51 #[.slice (some ⟨b1, o1, none⟩) n c] w (InPost nm r w) := by
  obtain ⟨i0, hi, hz0, hz1, hz2⟩ := info_parts info_str
  have hi' := hide hi
  obtain ⟨W, hW⟩ : ∃ W, w.alloc (.cells #[.int .i64 0, .int .i64 0, .int .i64 0, .int .i64 0, .int .u64 0] 44) = W := ⟨_, rfl⟩
  have HB0 := hide (show Below w.heap.size w W by rw [← hW]; exact below1 _ _)
  have R0 := hide (show Row W w.heap.size 44 [.int .i64 0, .int .i64 0, .int .i64 0, .int .i64 0, .int .u64 0] by rw [← hW]; exact Row.new w _ _)
  obtain ⟨b1', o1', e1, _, q0⟩ := word_at hS.out (k := 0) rfl
  injection e1 with e1
  injection e1 with e1 e2
  subst e1 e2
  rw [Nat.add_zero] at q0
  have q1 := (HB0.out.cell (p := ⟨b1, o1, none⟩) (by simp only; omega)).trans q0
  obtain ⟨A2, hsl, hS2⟩ := tail_at hS.out hn hnc
  have HS2 := hide hS2
  have hms := marks_shape hk
  rw [hs.1, hs.2.1, hs.2.2.1, hs.2.2.2] at hms
  have hms : marksU k = [(mA k, false), (mB k, false)] := hms
  have hmA := mA_len (k : Int)
  have hmB := mB_len (k : Int)
  have hmC := mC_len (k : Int)
  have hmk := rmarks_any (k : Int)
  have hE : insE7 nm r = numsE (marksU k) r := by unfold insE7; rw [hop.out]
  have hX : numsE (marksU k) r = 0 → insX7 nm r = insU k (numsV (marksU k) r) := fun h => by unfold insX7; rw [hop.out]; simp only; rw [if_pos h]
  have hsh := insU_shape k (numsV (marksU k) r)
  rw [hs.1, hs.2.1, hs.2.2.1, hs.2.2.2] at hsh
  rw [hms] at hE hX hsh
  obtain ⟨mA, emA⟩ : ∃ m, mA (k : Int) = m := ⟨_, rfl⟩
  obtain ⟨mB, emB⟩ : ∃ m, mB (k : Int) = m := ⟨_, rfl⟩
  obtain ⟨mC, emC⟩ : ∃ m, mC (k : Int) = m := ⟨_, rfl⟩
  rw [emA] at hmA; rw [emB] at hmB; rw [emC] at hmC
  rw [emA, emB, emC] at hmk
  rw [emA, emB] at hE hX hsh
  obtain ⟨ms, ems⟩ : ∃ ms : List Mk, ms = [(mA, false), (mB, false)] := ⟨_, rfl⟩
  rw [← ems] at hE hX hsh
  have hml : ms.length = 2 := by rw [ems]; rfl
  have hmt : mksT ms = [mA, mB] := by rw [ems]; rfl
  have hopd := ropd_any (k : Int)
  rw [hs.1, hs.2.1, hs.2.2.1, hs.2.2.2] at hopd
  have hfl : Hid (∀ i, i < ms.length → (ms.getD i ([], false)).2 = (false && decide (i + 1 = ms.length))) := hide (by
    rw [ems]; intro i hi; simp only [List.length_cons, List.length_nil] at hi ⊢
    match i, hi with
    | 0, _ => rfl
    | 1, _ => rfl)
  have hmb : Hid (∀ m ∈ ms, m.1.length ≤ 1000) := hide (by rw [ems]; intro m hm; simp only [List.mem_cons, List.not_mem_nil, or_false] at hm; rcases hm with rfl | rfl <;> (simp only [List.length_nil]; omega))
  have HE := hide hE; have HX := hide hX; have HSH := hide hsh; have HML := hide hml; have HMT := hide hmt
  have gd0 : (ms.getD 0 ([], false)).2 = false := by rw [ems]; rfl
  have gd1 : (ms.getD 1 ([], false)).2 = false := by rw [ems]; rfl
  have GD0 := hide gd0
  have GD1 := hide gd1
  have HK := hide hk; have HN := hide hn; have HW := hide hW
  have hk0 : (0 : Int) ≤ (k : Int) := by omega
  have hk25 : (k : Int) < 25 := by omega
  have hcn : 1 ≤ c := by omega
  have hnz : 1 ≤ n := by omega
  have hnz2 : (0 : Int) < (n : Int) := by omega
  have hnz3 : 0 < n := by omega
  clear hi hW hms hE hX hsh emA emB emC ems hml hmt hs hk hn hS2 q0 hmA hmB hmC gd0 gd1
  go_enter Tryz.func51, Tryz.ntmps51
  go_upto_region 1 with (fail)
  rw [HW.out]
  clear HW
  go_wp2_with fail
  refine (rop_any nm W).mono ?_
  rintro e w1 ⟨rfl, hb1'⟩
  rw [hop.out]
  simp only [Option.getD_some, Option.isSome_some]
  have HB1 := hide (HB0.out.trans (hb1'.mono HB0.out.size))
  have R1 := hide (R0.out.call hb1')
  clear hb1' q1
  go_wp2_with fail
  refine (hopd _ hk0 hk25).mono ?_
  rintro e w2 ⟨rfl, rfl⟩
  go_wp2_with fail
  refine (hmk _).mono ?_
  rintro e w3 ⟨rfl, rfl⟩
  clear hopd hmk
  have O0 := hide (show w1.ownsRow w.heap.size 9 1 (.slice none 0 0) 0 (wcells []) from World.ownsRow_nil _ _ _ _)
  have HL1 := hide (show w.heap.size < w1.heap.size from R1.out.lt)
  go_upto_region 9 with (at_builtin; refine wpList_append_own _ rfl (.tmp 42) (.tmp 44) 34 rfl w.heap.size 9 i0 (.string ⟨#[]⟩) 1 16 Tryz.underlying34 hi'.out hz0 hz1 hz2 rfl (by decide) _ 0 (wcells []) rfl (O0.out.alloc _) ⟨w1.heap.size, 0, none⟩ 1 1 [.string ⟨mA.toArray⟩] rfl rfl (one_new _ _ _) (one_string _) (by unfold maxLen; omega) (by omega) (by have := HB1.out.size; simp; omega) ?_; intro va1 wa1 hown hg _)
  have HA1 := hide (kept_words HB1.out O0.out (Nat.le_refl _) hg)
  have RA1 := hide (show Row wa1 w.heap.size 44 [.int .i64 0, .int .i64 0, .int .i64 0, .int .i64 0, .int .u64 0] from (R1.out.alloc _).grown hg (own_ne_row (O0.out.alloc (.cells #[.string ⟨mA.toArray⟩] 9)) (R1.out.alloc (.cells #[.string ⟨mA.toArray⟩] 9)) (by decide)))
  have O1 := hide (show wa1.ownsRow w.heap.size 9 1 va1 1 (wcells [mA]) from hown)
  clear hown hg
  go_upto_region 11 with (at_builtin; refine wpList_append_own _ rfl (.tmp 47) (.tmp 49) 34 rfl w.heap.size 9 i0 (.string ⟨#[]⟩) 1 16 Tryz.underlying34 hi'.out hz0 hz1 hz2 rfl (by decide) _ 1 (wcells [mA]) rfl (O1.out.alloc _) ⟨wa1.heap.size, 0, none⟩ 1 1 [.string ⟨mB.toArray⟩] rfl rfl (one_new _ _ _) (one_string _) (by unfold maxLen; omega) (by omega) (by have := HA1.out.size; simp; omega) ?_; intro va2 wa2 hown hg _)
  have HA2 := hide (kept_words HA1.out O1.out (Nat.le_refl _) hg)
  have RA2 := hide (show Row wa2 w.heap.size 44 [.int .i64 0, .int .i64 0, .int .i64 0, .int .i64 0, .int .u64 0] from (RA1.out.alloc _).grown hg (own_ne_row (O1.out.alloc (.cells #[.string ⟨mB.toArray⟩] 9)) (RA1.out.alloc (.cells #[.string ⟨mB.toArray⟩] 9)) (by decide)))
  have O2 := hide (show wa2.ownsRow w.heap.size 9 1 va2 2 (wcells [mA, mB]) from hown)
  clear hown hg
  obtain ⟨Am, cm, rfl, -, -, -, hsm⟩ := own_seen O2.out
  have hsm1 := hide hsm
  clear hsm
  have hS3 := hide ((HS2.out wa2 (fun p hp => HA2.out.cell (by omega))).more (show B ≤ wa2.heap.size by have := HA2.out.size; omega))
  go_wp2_with fail
  refine (rnumbers_any A2 (n - 1) (c - 1) r Am 2 cm ms false wa2 wa2.heap.size (Nat.le_refl _) hS3 (hide (by rw [HMT.out]; exact hsm1.out)) (hide (by have := HN.out; omega)) (hide HML.out) hlen hmb (by omega) (by omega) hfl).mono ?_
  rintro e w5 ⟨v5, rfl, ho5, hb5⟩
  have HB5 := hide (HA2.out.trans (hb5.mono HA2.out.size))
  have R5 := hide (RA2.out.call hb5)
  rw [← HE.out] at ho5 ⊢
  have HSZ5 := hide (show w.heap.size < w5.heap.size from R5.out.lt)
  have BS := hide (show wa2.heap.size ≤ w5.heap.size from hb5.size)
  have HO5 := hide ho5
  clear hb5 ho5
  by_cases hE0 : insE7 nm r = 0
  · have hE1 : numsE ms r = 0 := by rw [← HE.out]; exact hE0
    have hXX := (HX.out hE1).trans HSH.out
    have o5 := HO5.out hE0
    obtain ⟨z0, hz0l, hz0v, hz00, hz01⟩ := numI_at hE1 (k := 0) (by rw [HML.out]; omega)
    rw [GD0.out] at hz01
    have hz02 : z0 ≤ 2147483647 := by simp only [limU] at hz01; simp at hz01; omega
    clear hz01
    obtain ⟨z1, hz1l, hz1v, hz10, hz11⟩ := numI_at hE1 (k := 1) (by rw [HML.out]; omega)
    rw [GD1.out] at hz11
    have hz12 : z1 ≤ 2147483647 := by simp only [limU] at hz11; simp at hz11; omega
    clear hz11
    rw [HML.out] at o5
    obtain ⟨g5, c5, rfl, -, hg5, hc5⟩ := num_cell o5 (by omega)
    have y0 := hc5 0 _ hz0l
    have y1 := hc5 1 _ hz1l
    have hg5b : g5 < w5.heap.size + 1 := by omega
    have hg5n : ¬ g5 = w5.heap.size := by omega
    have hXV : insX7 nm r = ⟨k, z0, z1, 0, 0⟩ := by
      rw [hXX]
      simp only [if_true, Bool.false_eq_true, if_false]
      rw [hz0v.out]
      rw [hz1v.out]
    have HXV := hide hXV
    have HE0 := hide hE0
    have hk64 : (k : Int) ≤ 25 := by omega
    clear hE0 hE1 hXX o5 hXV hz0l hz0v hz1l hz1v hc5
    rw [HE0.out]
    go_upto_region 31 with (fail)
    obtain ⟨W6, hW6⟩ : ∃ W6, w5.alloc (.cells #[.int .i64 (k : Int), .int .i64 z0, .int .i64 z1, .int .i64 0, .int .u64 0] 44) = W6 := ⟨_, rfl⟩
    rw [hW6]
    have HB6 := hide (show Below w.heap.size w W6 by rw [← hW6]; exact HB5.out.alloc HB5.out.size _)
    have RX := show Row W6 w5.heap.size 44 [.int .i64 (k : Int), .int .i64 z0, .int .i64 z1, .int .i64 0, .int .u64 0] by rw [← hW6]; exact Row.new w5 _ _
    have R6 := show Row W6 w.heap.size 44 [.int .i64 0, .int .i64 0, .int .i64 0, .int .i64 0, .int .u64 0] by rw [← hW6]; exact R5.out.alloc _
    have RX := hide RX
    have R6 := hide R6
    clear hW6 y0 y1 hg5b hg5n hg5
    have x0 := RX.out.cell (k := 0) rfl
    have x1 := RX.out.cell (k := 1) rfl
    have x2 := RX.out.cell (k := 2) rfl
    have x3 := RX.out.cell (k := 3) rfl
    have x4 := RX.out.cell (k := 4) rfl
    have c0 := R6.out.cell (k := 0) rfl
    have c1 := R6.out.cell (k := 1) rfl
    have c2 := R6.out.cell (k := 2) rfl
    have c3 := R6.out.cell (k := 3) rfl
    have c4 := R6.out.cell (k := 4) rfl
    have y0 := R6.out.free 0
    have y1 := R6.out.free 1
    have y2 := R6.out.free 2
    have y3 := R6.out.free 3
    have y4 := R6.out.free 4
    go_wp2
    have hf := ((((R6.out.set_ 0 (.int .i64 (k : Int))).set_ 1 (.int .i64 z0)).set_ 2 (.int .i64 z1)).set_ 3 (.int .i64 0)).set_ 4 (.int .u64 0)
    have f0 := hf.cell (k := 0) rfl
    have f1 := hf.cell (k := 1) rfl
    have f2 := hf.cell (k := 2) rfl
    have f3 := hf.cell (k := 3) rfl
    have f4 := hf.cell (k := 4) rfl
    refine bodyPost_ret (v := .tuple #[iv (k : Int) z0 z1 0 0, .int .i64 0]) (by simp [results, Tryz.results51, go_sem, f0, f1, f2, f3, f4]) rfl ⟨by rw [HE0.out, HXV.out], ?_⟩
    exact ((((HB6.out.setCell (Nat.le_refl _) _).setCell (Nat.le_refl _) _).setCell (Nat.le_refl _) _).setCell (Nat.le_refl _) _).setCell (Nat.le_refl _) _
  · have hXB := hide (in_bad rfl hE0)
    obtain ⟨xe, exe⟩ : ∃ xe, insE7 nm r = xe := ⟨_, rfl⟩
    rw [exe] at hE0 ⊢
    have hbe : (xe == 0) = false := by rw [beq_eq_false_iff_ne]; exact hE0
    have HXE := hide exe
    clear hE0 exe
    have c0 := R5.out.cell (k := 0) rfl
    have c1 := R5.out.cell (k := 1) rfl
    have c2 := R5.out.cell (k := 2) rfl
    have c3 := R5.out.cell (k := 3) rfl
    have c4 := R5.out.cell (k := 4) rfl
    have y0 := R5.out.free 0
    have y1 := R5.out.free 1
    have y2 := R5.out.free 2
    have y3 := R5.out.free 3
    have y4 := R5.out.free 4
    go_wp2
    have hf := ((((R5.out.set_ 0 (.int .i64 0)).set_ 1 (.int .i64 0)).set_ 2 (.int .i64 0)).set_ 3 (.int .i64 0)).set_ 4 (.int .u64 0)
    have f0 := hf.cell (k := 0) rfl
    have f1 := hf.cell (k := 1) rfl
    have f2 := hf.cell (k := 2) rfl
    have f3 := hf.cell (k := 3) rfl
    have f4 := hf.cell (k := 4) rfl
    refine bodyPost_ret (v := .tuple #[iv 0 0 0 0 0, .int .i64 xe]) (by simp [results, Tryz.results51, go_sem, f0, f1, f2, f3, f4]) rfl ⟨by rw [hXB.out, HXE.out], ?_⟩
    exact ((((HB5.out.setCell (Nat.le_refl _) _).setCell (Nat.le_refl _) _).setCell (Nat.le_refl _) _).setCell (Nat.le_refl _) _).setCell (Nat.le_refl _) _

set_option maxHeartbeats 8000000 in
set_option maxRecDepth 100000 in
theorem rtinstr_a (b1 o1 n c : Nat) (nm : List UInt8) (r : List (List UInt8)) (w : World) (B k : Nat) (hB : B ≤ w.heap.size) (hb1 : b1 < B) (hS : Hid (Sees w B (some ⟨b1, o1, none⟩) (wcells (nm :: r)))) (hn : n = r.length + 1) (hnc : n ≤ c) (hnb : n ≤ 100000001)
    (hlen : Hid (∀ x ∈ r, x.length ≤ 100000000)) (hk : k < 25) (hop : Hid (opU nm = some k)) (hs : useA k = true ∧ useB k = false ∧ useC k = false ∧ useI k = false) :
    Calls Tryz.prog 51 #[.slice (some ⟨b1, o1, none⟩) n c] w (InPost nm r w) := by
  obtain ⟨i0, hi, hz0, hz1, hz2⟩ := info_parts info_str
  have hi' := hide hi
  obtain ⟨W, hW⟩ : ∃ W, w.alloc (.cells #[.int .i64 0, .int .i64 0, .int .i64 0, .int .i64 0, .int .u64 0] 44) = W := ⟨_, rfl⟩
  have HB0 := hide (show Below w.heap.size w W by rw [← hW]; exact below1 _ _)
  have R0 := hide (show Row W w.heap.size 44 [.int .i64 0, .int .i64 0, .int .i64 0, .int .i64 0, .int .u64 0] by rw [← hW]; exact Row.new w _ _)
  obtain ⟨b1', o1', e1, _, q0⟩ := word_at hS.out (k := 0) rfl
  injection e1 with e1
  injection e1 with e1 e2
  subst e1 e2
  rw [Nat.add_zero] at q0
  have q1 := (HB0.out.cell (p := ⟨b1, o1, none⟩) (by simp only; omega)).trans q0
  obtain ⟨A2, hsl, hS2⟩ := tail_at hS.out hn hnc
  have HS2 := hide hS2
  have hms := marks_shape hk
  rw [hs.1, hs.2.1, hs.2.2.1, hs.2.2.2] at hms
  have hms : marksU k = [(mA k, false)] := hms
  have hmA := mA_len (k : Int)
  have hmB := mB_len (k : Int)
  have hmC := mC_len (k : Int)
  have hmk := rmarks_any (k : Int)
  have hE : insE7 nm r = numsE (marksU k) r := by unfold insE7; rw [hop.out]
  have hX : numsE (marksU k) r = 0 → insX7 nm r = insU k (numsV (marksU k) r) := fun h => by unfold insX7; rw [hop.out]; simp only; rw [if_pos h]
  have hsh := insU_shape k (numsV (marksU k) r)
  rw [hs.1, hs.2.1, hs.2.2.1, hs.2.2.2] at hsh
  rw [hms] at hE hX hsh
  obtain ⟨mA, emA⟩ : ∃ m, mA (k : Int) = m := ⟨_, rfl⟩
  obtain ⟨mB, emB⟩ : ∃ m, mB (k : Int) = m := ⟨_, rfl⟩
  obtain ⟨mC, emC⟩ : ∃ m, mC (k : Int) = m := ⟨_, rfl⟩
  rw [emA] at hmA; rw [emB] at hmB; rw [emC] at hmC
  rw [emA, emB, emC] at hmk
  rw [emA] at hE hX hsh
  obtain ⟨ms, ems⟩ : ∃ ms : List Mk, ms = [(mA, false)] := ⟨_, rfl⟩
  rw [← ems] at hE hX hsh
  have hml : ms.length = 1 := by rw [ems]; rfl
  have hmt : mksT ms = [mA] := by rw [ems]; rfl
  have hopd := ropd_any (k : Int)
  rw [hs.1, hs.2.1, hs.2.2.1, hs.2.2.2] at hopd
  have hfl : Hid (∀ i, i < ms.length → (ms.getD i ([], false)).2 = (false && decide (i + 1 = ms.length))) := hide (by
    rw [ems]; intro i hi; simp only [List.length_cons, List.length_nil] at hi ⊢
    match i, hi with
    | 0, _ => rfl)
  have hmb : Hid (∀ m ∈ ms, m.1.length ≤ 1000) := hide (by rw [ems]; intro m hm; simp only [List.mem_cons, List.not_mem_nil, or_false] at hm; rcases hm with rfl <;> (simp only [List.length_nil]; omega))
  have HE := hide hE; have HX := hide hX; have HSH := hide hsh; have HML := hide hml; have HMT := hide hmt
  have gd0 : (ms.getD 0 ([], false)).2 = false := by rw [ems]; rfl
  have GD0 := hide gd0
  have HK := hide hk; have HN := hide hn; have HW := hide hW
  have hk0 : (0 : Int) ≤ (k : Int) := by omega
  have hk25 : (k : Int) < 25 := by omega
  have hcn : 1 ≤ c := by omega
  have hnz : 1 ≤ n := by omega
  have hnz2 : (0 : Int) < (n : Int) := by omega
  have hnz3 : 0 < n := by omega
  clear hi hW hms hE hX hsh emA emB emC ems hml hmt hs hk hn hS2 q0 hmA hmB hmC gd0
  go_enter Tryz.func51, Tryz.ntmps51
  go_upto_region 1 with (fail)
  rw [HW.out]
  clear HW
  go_wp2_with fail
  refine (rop_any nm W).mono ?_
  rintro e w1 ⟨rfl, hb1'⟩
  rw [hop.out]
  simp only [Option.getD_some, Option.isSome_some]
  have HB1 := hide (HB0.out.trans (hb1'.mono HB0.out.size))
  have R1 := hide (R0.out.call hb1')
  clear hb1' q1
  go_wp2_with fail
  refine (hopd _ hk0 hk25).mono ?_
  rintro e w2 ⟨rfl, rfl⟩
  go_wp2_with fail
  refine (hmk _).mono ?_
  rintro e w3 ⟨rfl, rfl⟩
  clear hopd hmk
  have O0 := hide (show w1.ownsRow w.heap.size 9 1 (.slice none 0 0) 0 (wcells []) from World.ownsRow_nil _ _ _ _)
  have HL1 := hide (show w.heap.size < w1.heap.size from R1.out.lt)
  go_upto_region 9 with (at_builtin; refine wpList_append_own _ rfl (.tmp 42) (.tmp 44) 34 rfl w.heap.size 9 i0 (.string ⟨#[]⟩) 1 16 Tryz.underlying34 hi'.out hz0 hz1 hz2 rfl (by decide) _ 0 (wcells []) rfl (O0.out.alloc _) ⟨w1.heap.size, 0, none⟩ 1 1 [.string ⟨mA.toArray⟩] rfl rfl (one_new _ _ _) (one_string _) (by unfold maxLen; omega) (by omega) (by have := HB1.out.size; simp; omega) ?_; intro va1 wa1 hown hg _)
  have HA1 := hide (kept_words HB1.out O0.out (Nat.le_refl _) hg)
  have RA1 := hide (show Row wa1 w.heap.size 44 [.int .i64 0, .int .i64 0, .int .i64 0, .int .i64 0, .int .u64 0] from (R1.out.alloc _).grown hg (own_ne_row (O0.out.alloc (.cells #[.string ⟨mA.toArray⟩] 9)) (R1.out.alloc (.cells #[.string ⟨mA.toArray⟩] 9)) (by decide)))
  have O1 := hide (show wa1.ownsRow w.heap.size 9 1 va1 1 (wcells [mA]) from hown)
  clear hown hg
  obtain ⟨Am, cm, rfl, -, -, -, hsm⟩ := own_seen O1.out
  have hsm1 := hide hsm
  clear hsm
  have hS3 := hide ((HS2.out wa1 (fun p hp => HA1.out.cell (by omega))).more (show B ≤ wa1.heap.size by have := HA1.out.size; omega))
  go_wp2_with fail
  refine (rnumbers_any A2 (n - 1) (c - 1) r Am 1 cm ms false wa1 wa1.heap.size (Nat.le_refl _) hS3 (hide (by rw [HMT.out]; exact hsm1.out)) (hide (by have := HN.out; omega)) (hide HML.out) hlen hmb (by omega) (by omega) hfl).mono ?_
  rintro e w5 ⟨v5, rfl, ho5, hb5⟩
  have HB5 := hide (HA1.out.trans (hb5.mono HA1.out.size))
  have R5 := hide (RA1.out.call hb5)
  rw [← HE.out] at ho5 ⊢
  have HSZ5 := hide (show w.heap.size < w5.heap.size from R5.out.lt)
  have BS := hide (show wa1.heap.size ≤ w5.heap.size from hb5.size)
  have HO5 := hide ho5
  clear hb5 ho5
  by_cases hE0 : insE7 nm r = 0
  · have hE1 : numsE ms r = 0 := by rw [← HE.out]; exact hE0
    have hXX := (HX.out hE1).trans HSH.out
    have o5 := HO5.out hE0
    obtain ⟨z0, hz0l, hz0v, hz00, hz01⟩ := numI_at hE1 (k := 0) (by rw [HML.out]; omega)
    rw [GD0.out] at hz01
    have hz02 : z0 ≤ 2147483647 := by simp only [limU] at hz01; simp at hz01; omega
    clear hz01
    rw [HML.out] at o5
    obtain ⟨g5, c5, rfl, -, hg5, hc5⟩ := num_cell o5 (by omega)
    have y0 := hc5 0 _ hz0l
    have hg5b : g5 < w5.heap.size + 1 := by omega
    have hg5n : ¬ g5 = w5.heap.size := by omega
    have hXV : insX7 nm r = ⟨k, z0, 0, 0, 0⟩ := by
      rw [hXX]
      simp only [if_true, Bool.false_eq_true, if_false]
      rw [hz0v.out]
    have HXV := hide hXV
    have HE0 := hide hE0
    have hk64 : (k : Int) ≤ 25 := by omega
    clear hE0 hE1 hXX o5 hXV hz0l hz0v hc5
    rw [HE0.out]
    go_upto_region 31 with (fail)
    obtain ⟨W6, hW6⟩ : ∃ W6, w5.alloc (.cells #[.int .i64 (k : Int), .int .i64 z0, .int .i64 0, .int .i64 0, .int .u64 0] 44) = W6 := ⟨_, rfl⟩
    rw [hW6]
    have HB6 := hide (show Below w.heap.size w W6 by rw [← hW6]; exact HB5.out.alloc HB5.out.size _)
    have RX := show Row W6 w5.heap.size 44 [.int .i64 (k : Int), .int .i64 z0, .int .i64 0, .int .i64 0, .int .u64 0] by rw [← hW6]; exact Row.new w5 _ _
    have R6 := show Row W6 w.heap.size 44 [.int .i64 0, .int .i64 0, .int .i64 0, .int .i64 0, .int .u64 0] by rw [← hW6]; exact R5.out.alloc _
    have RX := hide RX
    have R6 := hide R6
    clear hW6 y0 hg5b hg5n hg5
    have x0 := RX.out.cell (k := 0) rfl
    have x1 := RX.out.cell (k := 1) rfl
    have x2 := RX.out.cell (k := 2) rfl
    have x3 := RX.out.cell (k := 3) rfl
    have x4 := RX.out.cell (k := 4) rfl
    have c0 := R6.out.cell (k := 0) rfl
    have c1 := R6.out.cell (k := 1) rfl
    have c2 := R6.out.cell (k := 2) rfl
    have c3 := R6.out.cell (k := 3) rfl
    have c4 := R6.out.cell (k := 4) rfl
    have y0 := R6.out.free 0
    have y1 := R6.out.free 1
    have y2 := R6.out.free 2
    have y3 := R6.out.free 3
    have y4 := R6.out.free 4
    go_wp2
    have hf := ((((R6.out.set_ 0 (.int .i64 (k : Int))).set_ 1 (.int .i64 z0)).set_ 2 (.int .i64 0)).set_ 3 (.int .i64 0)).set_ 4 (.int .u64 0)
    have f0 := hf.cell (k := 0) rfl
    have f1 := hf.cell (k := 1) rfl
    have f2 := hf.cell (k := 2) rfl
    have f3 := hf.cell (k := 3) rfl
    have f4 := hf.cell (k := 4) rfl
    refine bodyPost_ret (v := .tuple #[iv (k : Int) z0 0 0 0, .int .i64 0]) (by simp [results, Tryz.results51, go_sem, f0, f1, f2, f3, f4]) rfl ⟨by rw [HE0.out, HXV.out], ?_⟩
    exact ((((HB6.out.setCell (Nat.le_refl _) _).setCell (Nat.le_refl _) _).setCell (Nat.le_refl _) _).setCell (Nat.le_refl _) _).setCell (Nat.le_refl _) _
  · have hXB := hide (in_bad rfl hE0)
    obtain ⟨xe, exe⟩ : ∃ xe, insE7 nm r = xe := ⟨_, rfl⟩
    rw [exe] at hE0 ⊢
    have hbe : (xe == 0) = false := by rw [beq_eq_false_iff_ne]; exact hE0
    have HXE := hide exe
    clear hE0 exe
    have c0 := R5.out.cell (k := 0) rfl
    have c1 := R5.out.cell (k := 1) rfl
    have c2 := R5.out.cell (k := 2) rfl
    have c3 := R5.out.cell (k := 3) rfl
    have c4 := R5.out.cell (k := 4) rfl
    have y0 := R5.out.free 0
    have y1 := R5.out.free 1
    have y2 := R5.out.free 2
    have y3 := R5.out.free 3
    have y4 := R5.out.free 4
    go_wp2
    have hf := ((((R5.out.set_ 0 (.int .i64 0)).set_ 1 (.int .i64 0)).set_ 2 (.int .i64 0)).set_ 3 (.int .i64 0)).set_ 4 (.int .u64 0)
    have f0 := hf.cell (k := 0) rfl
    have f1 := hf.cell (k := 1) rfl
    have f2 := hf.cell (k := 2) rfl
    have f3 := hf.cell (k := 3) rfl
    have f4 := hf.cell (k := 4) rfl
    refine bodyPost_ret (v := .tuple #[iv 0 0 0 0 0, .int .i64 xe]) (by simp [results, Tryz.results51, go_sem, f0, f1, f2, f3, f4]) rfl ⟨by rw [hXB.out, HXE.out], ?_⟩
    exact ((((HB5.out.setCell (Nat.le_refl _) _).setCell (Nat.le_refl _) _).setCell (Nat.le_refl _) _).setCell (Nat.le_refl _) _).setCell (Nat.le_refl _) _

set_option maxHeartbeats 8000000 in
set_option maxRecDepth 100000 in
theorem rtinstr_ai (b1 o1 n c : Nat) (nm : List UInt8) (r : List (List UInt8)) (w : World) (B k : Nat) (hB : B ≤ w.heap.size) (hb1 : b1 < B) (hS : Hid (Sees w B (some ⟨b1, o1, none⟩) (wcells (nm :: r)))) (hn : n = r.length + 1) (hnc : n ≤ c) (hnb : n ≤ 100000001)
    (hlen : Hid (∀ x ∈ r, x.length ≤ 100000000)) (hk : k < 25) (hop : Hid (opU nm = some k)) (hs : useA k = true ∧ useB k = false ∧ useC k = false ∧ useI k = true) :
    Calls Tryz.prog 51 #[.slice (some ⟨b1, o1, none⟩) n c] w (InPost nm r w) := by
  obtain ⟨i0, hi, hz0, hz1, hz2⟩ := info_parts info_str
  have hi' := hide hi
  obtain ⟨W, hW⟩ : ∃ W, w.alloc (.cells #[.int .i64 0, .int .i64 0, .int .i64 0, .int .i64 0, .int .u64 0] 44) = W := ⟨_, rfl⟩
  have HB0 := hide (show Below w.heap.size w W by rw [← hW]; exact below1 _ _)
  have R0 := hide (show Row W w.heap.size 44 [.int .i64 0, .int .i64 0, .int .i64 0, .int .i64 0, .int .u64 0] by rw [← hW]; exact Row.new w _ _)
  obtain ⟨b1', o1', e1, _, q0⟩ := word_at hS.out (k := 0) rfl
  injection e1 with e1
  injection e1 with e1 e2
  subst e1 e2
  rw [Nat.add_zero] at q0
  have q1 := (HB0.out.cell (p := ⟨b1, o1, none⟩) (by simp only; omega)).trans q0
  obtain ⟨A2, hsl, hS2⟩ := tail_at hS.out hn hnc
  have HS2 := hide hS2
  have hms := marks_shape hk
  rw [hs.1, hs.2.1, hs.2.2.1, hs.2.2.2] at hms
  have hms : marksU k = [(mA k, false), ([], true)] := hms
  have hmA := mA_len (k : Int)
  have hmB := mB_len (k : Int)
  have hmC := mC_len (k : Int)
  have hmk := rmarks_any (k : Int)
  have hE : insE7 nm r = numsE (marksU k) r := by unfold insE7; rw [hop.out]
  have hX : numsE (marksU k) r = 0 → insX7 nm r = insU k (numsV (marksU k) r) := fun h => by unfold insX7; rw [hop.out]; simp only; rw [if_pos h]
  have hsh := insU_shape k (numsV (marksU k) r)
  rw [hs.1, hs.2.1, hs.2.2.1, hs.2.2.2] at hsh
  rw [hms] at hE hX hsh
  obtain ⟨mA, emA⟩ : ∃ m, mA (k : Int) = m := ⟨_, rfl⟩
  obtain ⟨mB, emB⟩ : ∃ m, mB (k : Int) = m := ⟨_, rfl⟩
  obtain ⟨mC, emC⟩ : ∃ m, mC (k : Int) = m := ⟨_, rfl⟩
  rw [emA] at hmA; rw [emB] at hmB; rw [emC] at hmC
  rw [emA, emB, emC] at hmk
  rw [emA] at hE hX hsh
  obtain ⟨ms, ems⟩ : ∃ ms : List Mk, ms = [(mA, false), ([], true)] := ⟨_, rfl⟩
  rw [← ems] at hE hX hsh
  have hml : ms.length = 2 := by rw [ems]; rfl
  have hmt : mksT ms = [mA, []] := by rw [ems]; rfl
  have hopd := ropd_any (k : Int)
  rw [hs.1, hs.2.1, hs.2.2.1, hs.2.2.2] at hopd
  have hfl : Hid (∀ i, i < ms.length → (ms.getD i ([], false)).2 = (true && decide (i + 1 = ms.length))) := hide (by
    rw [ems]; intro i hi; simp only [List.length_cons, List.length_nil] at hi ⊢
    match i, hi with
    | 0, _ => rfl
    | 1, _ => rfl)
  have hmb : Hid (∀ m ∈ ms, m.1.length ≤ 1000) := hide (by rw [ems]; intro m hm; simp only [List.mem_cons, List.not_mem_nil, or_false] at hm; rcases hm with rfl | rfl <;> (simp only [List.length_nil]; omega))
  have HE := hide hE; have HX := hide hX; have HSH := hide hsh; have HML := hide hml; have HMT := hide hmt
  have gd0 : (ms.getD 0 ([], false)).2 = false := by rw [ems]; rfl
  have gd1 : (ms.getD 1 ([], false)).2 = true := by rw [ems]; rfl
  have GD0 := hide gd0
  have GD1 := hide gd1
  have HK := hide hk; have HN := hide hn; have HW := hide hW
  have hk0 : (0 : Int) ≤ (k : Int) := by omega
  have hk25 : (k : Int) < 25 := by omega
  have hcn : 1 ≤ c := by omega
  have hnz : 1 ≤ n := by omega
  have hnz2 : (0 : Int) < (n : Int) := by omega
  have hnz3 : 0 < n := by omega
  clear hi hW hms hE hX hsh emA emB emC ems hml hmt hs hk hn hS2 q0 hmA hmB hmC gd0 gd1
  go_enter Tryz.func51, Tryz.ntmps51
  go_upto_region 1 with (fail)
  rw [HW.out]
  clear HW
  go_wp2_with fail
  refine (rop_any nm W).mono ?_
  rintro e w1 ⟨rfl, hb1'⟩
  rw [hop.out]
  simp only [Option.getD_some, Option.isSome_some]
  have HB1 := hide (HB0.out.trans (hb1'.mono HB0.out.size))
  have R1 := hide (R0.out.call hb1')
  clear hb1' q1
  go_wp2_with fail
  refine (hopd _ hk0 hk25).mono ?_
  rintro e w2 ⟨rfl, rfl⟩
  go_wp2_with fail
  refine (hmk _).mono ?_
  rintro e w3 ⟨rfl, rfl⟩
  clear hopd hmk
  have O0 := hide (show w1.ownsRow w.heap.size 9 1 (.slice none 0 0) 0 (wcells []) from World.ownsRow_nil _ _ _ _)
  have HL1 := hide (show w.heap.size < w1.heap.size from R1.out.lt)
  go_upto_region 9 with (at_builtin; refine wpList_append_own _ rfl (.tmp 42) (.tmp 44) 34 rfl w.heap.size 9 i0 (.string ⟨#[]⟩) 1 16 Tryz.underlying34 hi'.out hz0 hz1 hz2 rfl (by decide) _ 0 (wcells []) rfl (O0.out.alloc _) ⟨w1.heap.size, 0, none⟩ 1 1 [.string ⟨mA.toArray⟩] rfl rfl (one_new _ _ _) (one_string _) (by unfold maxLen; omega) (by omega) (by have := HB1.out.size; simp; omega) ?_; intro va1 wa1 hown hg _)
  have HA1 := hide (kept_words HB1.out O0.out (Nat.le_refl _) hg)
  have RA1 := hide (show Row wa1 w.heap.size 44 [.int .i64 0, .int .i64 0, .int .i64 0, .int .i64 0, .int .u64 0] from (R1.out.alloc _).grown hg (own_ne_row (O0.out.alloc (.cells #[.string ⟨mA.toArray⟩] 9)) (R1.out.alloc (.cells #[.string ⟨mA.toArray⟩] 9)) (by decide)))
  have O1 := hide (show wa1.ownsRow w.heap.size 9 1 va1 1 (wcells [mA]) from hown)
  clear hown hg
  go_upto_region 15 with (at_builtin; refine wpList_append_own _ rfl (.tmp 57) (.tmp 58) 34 rfl w.heap.size 9 i0 (.string ⟨#[]⟩) 1 16 Tryz.underlying34 hi'.out hz0 hz1 hz2 rfl (by decide) _ 1 (wcells [mA]) rfl (O1.out.alloc _) ⟨wa1.heap.size, 0, none⟩ 1 1 [.string ⟨#[]⟩] rfl rfl (one_new _ _ _) (one_string _) (by unfold maxLen; omega) (by omega) (by have := HA1.out.size; simp; omega) ?_; intro va2 wa2 hown hg _)
  have HA2 := hide (kept_words HA1.out O1.out (Nat.le_refl _) hg)
  have RA2 := hide (show Row wa2 w.heap.size 44 [.int .i64 0, .int .i64 0, .int .i64 0, .int .i64 0, .int .u64 0] from (RA1.out.alloc _).grown hg (own_ne_row (O1.out.alloc (.cells #[.string ⟨#[]⟩] 9)) (RA1.out.alloc (.cells #[.string ⟨#[]⟩] 9)) (by decide)))
  have O2 := hide (show wa2.ownsRow w.heap.size 9 1 va2 2 (wcells [mA, []]) from hown)
  clear hown hg
  obtain ⟨Am, cm, rfl, -, -, -, hsm⟩ := own_seen O2.out
  have hsm1 := hide hsm
  clear hsm
  have hS3 := hide ((HS2.out wa2 (fun p hp => HA2.out.cell (by omega))).more (show B ≤ wa2.heap.size by have := HA2.out.size; omega))
  go_wp2_with fail
  refine (rnumbers_any A2 (n - 1) (c - 1) r Am 2 cm ms true wa2 wa2.heap.size (Nat.le_refl _) hS3 (hide (by rw [HMT.out]; exact hsm1.out)) (hide (by have := HN.out; omega)) (hide HML.out) hlen hmb (by omega) (by omega) hfl).mono ?_
  rintro e w5 ⟨v5, rfl, ho5, hb5⟩
  have HB5 := hide (HA2.out.trans (hb5.mono HA2.out.size))
  have R5 := hide (RA2.out.call hb5)
  rw [← HE.out] at ho5 ⊢
  have HSZ5 := hide (show w.heap.size < w5.heap.size from R5.out.lt)
  have BS := hide (show wa2.heap.size ≤ w5.heap.size from hb5.size)
  have HO5 := hide ho5
  clear hb5 ho5
  by_cases hE0 : insE7 nm r = 0
  · have hE1 : numsE ms r = 0 := by rw [← HE.out]; exact hE0
    have hXX := (HX.out hE1).trans HSH.out
    have o5 := HO5.out hE0
    obtain ⟨z0, hz0l, hz0v, hz00, hz01⟩ := numI_at hE1 (k := 0) (by rw [HML.out]; omega)
    rw [GD0.out] at hz01
    have hz02 : z0 ≤ 2147483647 := by simp only [limU] at hz01; simp at hz01; omega
    clear hz01
    obtain ⟨z1, hz1l, hz1v, hz10, hz11⟩ := numI_at hE1 (k := 1) (by rw [HML.out]; omega)
    rw [GD1.out] at hz11
    have HZI := hide (show z1 ≤ 18446744073709551615 by simp only [limU, if_true] at hz11; omega)
    clear hz11
    rw [HML.out] at o5
    obtain ⟨g5, c5, rfl, -, hg5, hc5⟩ := num_cell o5 (by omega)
    have y0 := hc5 0 _ hz0l
    have y1 := hc5 1 _ hz1l
    have hg5b : g5 < w5.heap.size + 1 := by omega
    have hg5n : ¬ g5 = w5.heap.size := by omega
    have hXV : insX7 nm r = ⟨k, z0, 0, 0, z1⟩ := by
      rw [hXX]
      simp only [if_true, Bool.false_eq_true, if_false]
      rw [hz0v.out]
      rw [hz1v.out]
    have HXV := hide hXV
    have HE0 := hide hE0
    have hk64 : (k : Int) ≤ 25 := by omega
    clear hE0 hE1 hXX o5 hXV hz0l hz0v hz1l hz1v hc5
    rw [HE0.out]
    go_upto_region 31 with (fail)
    obtain ⟨W6, hW6⟩ : ∃ W6, w5.alloc (.cells #[.int .i64 (k : Int), .int .i64 z0, .int .i64 0, .int .i64 0, .int .u64 z1] 44) = W6 := ⟨_, rfl⟩
    rw [hW6]
    have HB6 := hide (show Below w.heap.size w W6 by rw [← hW6]; exact HB5.out.alloc HB5.out.size _)
    have RX := show Row W6 w5.heap.size 44 [.int .i64 (k : Int), .int .i64 z0, .int .i64 0, .int .i64 0, .int .u64 z1] by rw [← hW6]; exact Row.new w5 _ _
    have R6 := show Row W6 w.heap.size 44 [.int .i64 0, .int .i64 0, .int .i64 0, .int .i64 0, .int .u64 0] by rw [← hW6]; exact R5.out.alloc _
    have RX := hide RX
    have R6 := hide R6
    clear hW6 y0 y1 hg5b hg5n hg5
    have x0 := RX.out.cell (k := 0) rfl
    have x1 := RX.out.cell (k := 1) rfl
    have x2 := RX.out.cell (k := 2) rfl
    have x3 := RX.out.cell (k := 3) rfl
    have x4 := RX.out.cell (k := 4) rfl
    have c0 := R6.out.cell (k := 0) rfl
    have c1 := R6.out.cell (k := 1) rfl
    have c2 := R6.out.cell (k := 2) rfl
    have c3 := R6.out.cell (k := 3) rfl
    have c4 := R6.out.cell (k := 4) rfl
    have y0 := R6.out.free 0
    have y1 := R6.out.free 1
    have y2 := R6.out.free 2
    have y3 := R6.out.free 3
    have y4 := R6.out.free 4
    go_wp2
    have hf := ((((R6.out.set_ 0 (.int .i64 (k : Int))).set_ 1 (.int .i64 z0)).set_ 2 (.int .i64 0)).set_ 3 (.int .i64 0)).set_ 4 (.int .u64 z1)
    have f0 := hf.cell (k := 0) rfl
    have f1 := hf.cell (k := 1) rfl
    have f2 := hf.cell (k := 2) rfl
    have f3 := hf.cell (k := 3) rfl
    have f4 := hf.cell (k := 4) rfl
    refine bodyPost_ret (v := .tuple #[iv (k : Int) z0 0 0 z1, .int .i64 0]) (by simp [results, Tryz.results51, go_sem, f0, f1, f2, f3, f4]) rfl ⟨by rw [HE0.out, HXV.out], ?_⟩
    exact ((((HB6.out.setCell (Nat.le_refl _) _).setCell (Nat.le_refl _) _).setCell (Nat.le_refl _) _).setCell (Nat.le_refl _) _).setCell (Nat.le_refl _) _
  · have hXB := hide (in_bad rfl hE0)
    obtain ⟨xe, exe⟩ : ∃ xe, insE7 nm r = xe := ⟨_, rfl⟩
    rw [exe] at hE0 ⊢
    have hbe : (xe == 0) = false := by rw [beq_eq_false_iff_ne]; exact hE0
    have HXE := hide exe
    clear hE0 exe
    have c0 := R5.out.cell (k := 0) rfl
    have c1 := R5.out.cell (k := 1) rfl
    have c2 := R5.out.cell (k := 2) rfl
    have c3 := R5.out.cell (k := 3) rfl
    have c4 := R5.out.cell (k := 4) rfl
    have y0 := R5.out.free 0
    have y1 := R5.out.free 1
    have y2 := R5.out.free 2
    have y3 := R5.out.free 3
    have y4 := R5.out.free 4
    go_wp2
    have hf := ((((R5.out.set_ 0 (.int .i64 0)).set_ 1 (.int .i64 0)).set_ 2 (.int .i64 0)).set_ 3 (.int .i64 0)).set_ 4 (.int .u64 0)
    have f0 := hf.cell (k := 0) rfl
    have f1 := hf.cell (k := 1) rfl
    have f2 := hf.cell (k := 2) rfl
    have f3 := hf.cell (k := 3) rfl
    have f4 := hf.cell (k := 4) rfl
    refine bodyPost_ret (v := .tuple #[iv 0 0 0 0 0, .int .i64 xe]) (by simp [results, Tryz.results51, go_sem, f0, f1, f2, f3, f4]) rfl ⟨by rw [hXB.out, HXE.out], ?_⟩
    exact ((((HB5.out.setCell (Nat.le_refl _) _).setCell (Nat.le_refl _) _).setCell (Nat.le_refl _) _).setCell (Nat.le_refl _) _).setCell (Nat.le_refl _) _

set_option maxHeartbeats 8000000 in
set_option maxRecDepth 100000 in
theorem rtinstr_i (b1 o1 n c : Nat) (nm : List UInt8) (r : List (List UInt8)) (w : World) (B k : Nat) (hB : B ≤ w.heap.size) (hb1 : b1 < B) (hS : Hid (Sees w B (some ⟨b1, o1, none⟩) (wcells (nm :: r)))) (hn : n = r.length + 1) (hnc : n ≤ c) (hnb : n ≤ 100000001)
    (hlen : Hid (∀ x ∈ r, x.length ≤ 100000000)) (hk : k < 25) (hop : Hid (opU nm = some k)) (hs : useA k = false ∧ useB k = false ∧ useC k = false ∧ useI k = true) :
    Calls Tryz.prog 51 #[.slice (some ⟨b1, o1, none⟩) n c] w (InPost nm r w) := by
  obtain ⟨i0, hi, hz0, hz1, hz2⟩ := info_parts info_str
  have hi' := hide hi
  obtain ⟨W, hW⟩ : ∃ W, w.alloc (.cells #[.int .i64 0, .int .i64 0, .int .i64 0, .int .i64 0, .int .u64 0] 44) = W := ⟨_, rfl⟩
  have HB0 := hide (show Below w.heap.size w W by rw [← hW]; exact below1 _ _)
  have R0 := hide (show Row W w.heap.size 44 [.int .i64 0, .int .i64 0, .int .i64 0, .int .i64 0, .int .u64 0] by rw [← hW]; exact Row.new w _ _)
  obtain ⟨b1', o1', e1, _, q0⟩ := word_at hS.out (k := 0) rfl
  injection e1 with e1
  injection e1 with e1 e2
  subst e1 e2
  rw [Nat.add_zero] at q0
  have q1 := (HB0.out.cell (p := ⟨b1, o1, none⟩) (by simp only; omega)).trans q0
  obtain ⟨A2, hsl, hS2⟩ := tail_at hS.out hn hnc
  have HS2 := hide hS2
  have hms := marks_shape hk
  rw [hs.1, hs.2.1, hs.2.2.1, hs.2.2.2] at hms
  have hms : marksU k = [([], true)] := hms
  have hmA := mA_len (k : Int)
  have hmB := mB_len (k : Int)
  have hmC := mC_len (k : Int)
  have hmk := rmarks_any (k : Int)
  have hE : insE7 nm r = numsE (marksU k) r := by unfold insE7; rw [hop.out]
  have hX : numsE (marksU k) r = 0 → insX7 nm r = insU k (numsV (marksU k) r) := fun h => by unfold insX7; rw [hop.out]; simp only; rw [if_pos h]
  have hsh := insU_shape k (numsV (marksU k) r)
  rw [hs.1, hs.2.1, hs.2.2.1, hs.2.2.2] at hsh
  rw [hms] at hE hX hsh
  obtain ⟨mA, emA⟩ : ∃ m, mA (k : Int) = m := ⟨_, rfl⟩
  obtain ⟨mB, emB⟩ : ∃ m, mB (k : Int) = m := ⟨_, rfl⟩
  obtain ⟨mC, emC⟩ : ∃ m, mC (k : Int) = m := ⟨_, rfl⟩
  rw [emA] at hmA; rw [emB] at hmB; rw [emC] at hmC
  rw [emA, emB, emC] at hmk
  obtain ⟨ms, ems⟩ : ∃ ms : List Mk, ms = [([], true)] := ⟨_, rfl⟩
  rw [← ems] at hE hX hsh
  have hml : ms.length = 1 := by rw [ems]; rfl
  have hmt : mksT ms = [[]] := by rw [ems]; rfl
  have hopd := ropd_any (k : Int)
  rw [hs.1, hs.2.1, hs.2.2.1, hs.2.2.2] at hopd
  have hfl : Hid (∀ i, i < ms.length → (ms.getD i ([], false)).2 = (true && decide (i + 1 = ms.length))) := hide (by
    rw [ems]; intro i hi; simp only [List.length_cons, List.length_nil] at hi ⊢
    match i, hi with
    | 0, _ => rfl)
  have hmb : Hid (∀ m ∈ ms, m.1.length ≤ 1000) := hide (by rw [ems]; intro m hm; simp only [List.mem_cons, List.not_mem_nil, or_false] at hm; rcases hm with rfl <;> (simp only [List.length_nil]; omega))
  have HE := hide hE; have HX := hide hX; have HSH := hide hsh; have HML := hide hml; have HMT := hide hmt
  have gd0 : (ms.getD 0 ([], false)).2 = true := by rw [ems]; rfl
  have GD0 := hide gd0
  have HK := hide hk; have HN := hide hn; have HW := hide hW
  have hk0 : (0 : Int) ≤ (k : Int) := by omega
  have hk25 : (k : Int) < 25 := by omega
  have hcn : 1 ≤ c := by omega
  have hnz : 1 ≤ n := by omega
  have hnz2 : (0 : Int) < (n : Int) := by omega
  have hnz3 : 0 < n := by omega
  clear hi hW hms hE hX hsh emA emB emC ems hml hmt hs hk hn hS2 q0 hmA hmB hmC gd0
  go_enter Tryz.func51, Tryz.ntmps51
  go_upto_region 1 with (fail)
  rw [HW.out]
  clear HW
  go_wp2_with fail
  refine (rop_any nm W).mono ?_
  rintro e w1 ⟨rfl, hb1'⟩
  rw [hop.out]
  simp only [Option.getD_some, Option.isSome_some]
  have HB1 := hide (HB0.out.trans (hb1'.mono HB0.out.size))
  have R1 := hide (R0.out.call hb1')
  clear hb1' q1
  go_wp2_with fail
  refine (hopd _ hk0 hk25).mono ?_
  rintro e w2 ⟨rfl, rfl⟩
  go_wp2_with fail
  refine (hmk _).mono ?_
  rintro e w3 ⟨rfl, rfl⟩
  clear hopd hmk
  have O0 := hide (show w1.ownsRow w.heap.size 9 1 (.slice none 0 0) 0 (wcells []) from World.ownsRow_nil _ _ _ _)
  have HL1 := hide (show w.heap.size < w1.heap.size from R1.out.lt)
  go_upto_region 15 with (at_builtin; refine wpList_append_own _ rfl (.tmp 57) (.tmp 58) 34 rfl w.heap.size 9 i0 (.string ⟨#[]⟩) 1 16 Tryz.underlying34 hi'.out hz0 hz1 hz2 rfl (by decide) _ 0 (wcells []) rfl (O0.out.alloc _) ⟨w1.heap.size, 0, none⟩ 1 1 [.string ⟨#[]⟩] rfl rfl (one_new _ _ _) (one_string _) (by unfold maxLen; omega) (by omega) (by have := HB1.out.size; simp; omega) ?_; intro va1 wa1 hown hg _)
  have HA1 := hide (kept_words HB1.out O0.out (Nat.le_refl _) hg)
  have RA1 := hide (show Row wa1 w.heap.size 44 [.int .i64 0, .int .i64 0, .int .i64 0, .int .i64 0, .int .u64 0] from (R1.out.alloc _).grown hg (own_ne_row (O0.out.alloc (.cells #[.string ⟨#[]⟩] 9)) (R1.out.alloc (.cells #[.string ⟨#[]⟩] 9)) (by decide)))
  have O1 := hide (show wa1.ownsRow w.heap.size 9 1 va1 1 (wcells [[]]) from hown)
  clear hown hg
  obtain ⟨Am, cm, rfl, -, -, -, hsm⟩ := own_seen O1.out
  have hsm1 := hide hsm
  clear hsm
  have hS3 := hide ((HS2.out wa1 (fun p hp => HA1.out.cell (by omega))).more (show B ≤ wa1.heap.size by have := HA1.out.size; omega))
  go_wp2_with fail
  refine (rnumbers_any A2 (n - 1) (c - 1) r Am 1 cm ms true wa1 wa1.heap.size (Nat.le_refl _) hS3 (hide (by rw [HMT.out]; exact hsm1.out)) (hide (by have := HN.out; omega)) (hide HML.out) hlen hmb (by omega) (by omega) hfl).mono ?_
  rintro e w5 ⟨v5, rfl, ho5, hb5⟩
  have HB5 := hide (HA1.out.trans (hb5.mono HA1.out.size))
  have R5 := hide (RA1.out.call hb5)
  rw [← HE.out] at ho5 ⊢
  have HSZ5 := hide (show w.heap.size < w5.heap.size from R5.out.lt)
  have BS := hide (show wa1.heap.size ≤ w5.heap.size from hb5.size)
  have HO5 := hide ho5
  clear hb5 ho5
  by_cases hE0 : insE7 nm r = 0
  · have hE1 : numsE ms r = 0 := by rw [← HE.out]; exact hE0
    have hXX := (HX.out hE1).trans HSH.out
    have o5 := HO5.out hE0
    obtain ⟨z0, hz0l, hz0v, hz00, hz01⟩ := numI_at hE1 (k := 0) (by rw [HML.out]; omega)
    rw [GD0.out] at hz01
    have HZI := hide (show z0 ≤ 18446744073709551615 by simp only [limU, if_true] at hz01; omega)
    clear hz01
    rw [HML.out] at o5
    obtain ⟨g5, c5, rfl, -, hg5, hc5⟩ := num_cell o5 (by omega)
    have y0 := hc5 0 _ hz0l
    have hg5b : g5 < w5.heap.size + 1 := by omega
    have hg5n : ¬ g5 = w5.heap.size := by omega
    have hXV : insX7 nm r = ⟨k, 0, 0, 0, z0⟩ := by
      rw [hXX]
      simp only [if_true, Bool.false_eq_true, if_false]
      rw [hz0v.out]
    have HXV := hide hXV
    have HE0 := hide hE0
    have hk64 : (k : Int) ≤ 25 := by omega
    clear hE0 hE1 hXX o5 hXV hz0l hz0v hc5
    rw [HE0.out]
    go_upto_region 31 with (fail)
    obtain ⟨W6, hW6⟩ : ∃ W6, w5.alloc (.cells #[.int .i64 (k : Int), .int .i64 0, .int .i64 0, .int .i64 0, .int .u64 z0] 44) = W6 := ⟨_, rfl⟩
    rw [hW6]
    have HB6 := hide (show Below w.heap.size w W6 by rw [← hW6]; exact HB5.out.alloc HB5.out.size _)
    have RX := show Row W6 w5.heap.size 44 [.int .i64 (k : Int), .int .i64 0, .int .i64 0, .int .i64 0, .int .u64 z0] by rw [← hW6]; exact Row.new w5 _ _
    have R6 := show Row W6 w.heap.size 44 [.int .i64 0, .int .i64 0, .int .i64 0, .int .i64 0, .int .u64 0] by rw [← hW6]; exact R5.out.alloc _
    have RX := hide RX
    have R6 := hide R6
    clear hW6 y0 hg5b hg5n hg5
    have x0 := RX.out.cell (k := 0) rfl
    have x1 := RX.out.cell (k := 1) rfl
    have x2 := RX.out.cell (k := 2) rfl
    have x3 := RX.out.cell (k := 3) rfl
    have x4 := RX.out.cell (k := 4) rfl
    have c0 := R6.out.cell (k := 0) rfl
    have c1 := R6.out.cell (k := 1) rfl
    have c2 := R6.out.cell (k := 2) rfl
    have c3 := R6.out.cell (k := 3) rfl
    have c4 := R6.out.cell (k := 4) rfl
    have y0 := R6.out.free 0
    have y1 := R6.out.free 1
    have y2 := R6.out.free 2
    have y3 := R6.out.free 3
    have y4 := R6.out.free 4
    go_wp2
    have hf := ((((R6.out.set_ 0 (.int .i64 (k : Int))).set_ 1 (.int .i64 0)).set_ 2 (.int .i64 0)).set_ 3 (.int .i64 0)).set_ 4 (.int .u64 z0)
    have f0 := hf.cell (k := 0) rfl
    have f1 := hf.cell (k := 1) rfl
    have f2 := hf.cell (k := 2) rfl
    have f3 := hf.cell (k := 3) rfl
    have f4 := hf.cell (k := 4) rfl
    refine bodyPost_ret (v := .tuple #[iv (k : Int) 0 0 0 z0, .int .i64 0]) (by simp [results, Tryz.results51, go_sem, f0, f1, f2, f3, f4]) rfl ⟨by rw [HE0.out, HXV.out], ?_⟩
    exact ((((HB6.out.setCell (Nat.le_refl _) _).setCell (Nat.le_refl _) _).setCell (Nat.le_refl _) _).setCell (Nat.le_refl _) _).setCell (Nat.le_refl _) _
  · have hXB := hide (in_bad rfl hE0)
    obtain ⟨xe, exe⟩ : ∃ xe, insE7 nm r = xe := ⟨_, rfl⟩
    rw [exe] at hE0 ⊢
    have hbe : (xe == 0) = false := by rw [beq_eq_false_iff_ne]; exact hE0
    have HXE := hide exe
    clear hE0 exe
    have c0 := R5.out.cell (k := 0) rfl
    have c1 := R5.out.cell (k := 1) rfl
    have c2 := R5.out.cell (k := 2) rfl
    have c3 := R5.out.cell (k := 3) rfl
    have c4 := R5.out.cell (k := 4) rfl
    have y0 := R5.out.free 0
    have y1 := R5.out.free 1
    have y2 := R5.out.free 2
    have y3 := R5.out.free 3
    have y4 := R5.out.free 4
    go_wp2
    have hf := ((((R5.out.set_ 0 (.int .i64 0)).set_ 1 (.int .i64 0)).set_ 2 (.int .i64 0)).set_ 3 (.int .i64 0)).set_ 4 (.int .u64 0)
    have f0 := hf.cell (k := 0) rfl
    have f1 := hf.cell (k := 1) rfl
    have f2 := hf.cell (k := 2) rfl
    have f3 := hf.cell (k := 3) rfl
    have f4 := hf.cell (k := 4) rfl
    refine bodyPost_ret (v := .tuple #[iv 0 0 0 0 0, .int .i64 xe]) (by simp [results, Tryz.results51, go_sem, f0, f1, f2, f3, f4]) rfl ⟨by rw [hXB.out, HXE.out], ?_⟩
    exact ((((HB5.out.setCell (Nat.le_refl _) _).setCell (Nat.le_refl _) _).setCell (Nat.le_refl _) _).setCell (Nat.le_refl _) _).setCell (Nat.le_refl _) _

set_option maxHeartbeats 8000000 in
set_option maxRecDepth 100000 in
theorem rtinstr_none (b1 o1 n c : Nat) (nm : List UInt8) (r : List (List UInt8)) (w : World) (B k : Nat) (hB : B ≤ w.heap.size) (hb1 : b1 < B) (hS : Hid (Sees w B (some ⟨b1, o1, none⟩) (wcells (nm :: r)))) (hn : n = r.length + 1) (hnc : n ≤ c) (hnb : n ≤ 100000001)
    (hlen : Hid (∀ x ∈ r, x.length ≤ 100000000)) (hk : k < 25) (hop : Hid (opU nm = some k)) (hs : useA k = false ∧ useB k = false ∧ useC k = false ∧ useI k = false) :
    Calls Tryz.prog 51 #[.slice (some ⟨b1, o1, none⟩) n c] w (InPost nm r w) := by
  obtain ⟨i0, hi, hz0, hz1, hz2⟩ := info_parts info_str
  have hi' := hide hi
  obtain ⟨W, hW⟩ : ∃ W, w.alloc (.cells #[.int .i64 0, .int .i64 0, .int .i64 0, .int .i64 0, .int .u64 0] 44) = W := ⟨_, rfl⟩
  have HB0 := hide (show Below w.heap.size w W by rw [← hW]; exact below1 _ _)
  have R0 := hide (show Row W w.heap.size 44 [.int .i64 0, .int .i64 0, .int .i64 0, .int .i64 0, .int .u64 0] by rw [← hW]; exact Row.new w _ _)
  obtain ⟨b1', o1', e1, _, q0⟩ := word_at hS.out (k := 0) rfl
  injection e1 with e1
  injection e1 with e1 e2
  subst e1 e2
  rw [Nat.add_zero] at q0
  have q1 := (HB0.out.cell (p := ⟨b1, o1, none⟩) (by simp only; omega)).trans q0
  obtain ⟨A2, hsl, hS2⟩ := tail_at hS.out hn hnc
  have HS2 := hide hS2
  have hms := marks_shape hk
  rw [hs.1, hs.2.1, hs.2.2.1, hs.2.2.2] at hms
  have hms : marksU k = [] := hms
  have hmA := mA_len (k : Int)
  have hmB := mB_len (k : Int)
  have hmC := mC_len (k : Int)
  have hmk := rmarks_any (k : Int)
  have hE : insE7 nm r = numsE (marksU k) r := by unfold insE7; rw [hop.out]
  have hX : numsE (marksU k) r = 0 → insX7 nm r = insU k (numsV (marksU k) r) := fun h => by unfold insX7; rw [hop.out]; simp only; rw [if_pos h]
  have hsh := insU_shape k (numsV (marksU k) r)
  rw [hs.1, hs.2.1, hs.2.2.1, hs.2.2.2] at hsh
  rw [hms] at hE hX hsh
  obtain ⟨mA, emA⟩ : ∃ m, mA (k : Int) = m := ⟨_, rfl⟩
  obtain ⟨mB, emB⟩ : ∃ m, mB (k : Int) = m := ⟨_, rfl⟩
  obtain ⟨mC, emC⟩ : ∃ m, mC (k : Int) = m := ⟨_, rfl⟩
  rw [emA] at hmA; rw [emB] at hmB; rw [emC] at hmC
  rw [emA, emB, emC] at hmk
  obtain ⟨ms, ems⟩ : ∃ ms : List Mk, ms = [] := ⟨_, rfl⟩
  rw [← ems] at hE hX hsh
  have hml : ms.length = 0 := by rw [ems]; rfl
  have hmt : mksT ms = [] := by rw [ems]; rfl
  have hopd := ropd_any (k : Int)
  rw [hs.1, hs.2.1, hs.2.2.1, hs.2.2.2] at hopd
  have hfl : Hid (∀ i, i < ms.length → (ms.getD i ([], false)).2 = (false && decide (i + 1 = ms.length))) := hide (by
    rw [ems]; intro i hi; cases hi)
  have hmb : Hid (∀ m ∈ ms, m.1.length ≤ 1000) := hide (by rw [ems]; intro m hm; cases hm)
  have HE := hide hE; have HX := hide hX; have HSH := hide hsh; have HML := hide hml; have HMT := hide hmt
  have HK := hide hk; have HN := hide hn; have HW := hide hW
  have hk0 : (0 : Int) ≤ (k : Int) := by omega
  have hk25 : (k : Int) < 25 := by omega
  have hcn : 1 ≤ c := by omega
  have hnz : 1 ≤ n := by omega
  have hnz2 : (0 : Int) < (n : Int) := by omega
  have hnz3 : 0 < n := by omega
  clear hi hW hms hE hX hsh emA emB emC ems hml hmt hs hk hn hS2 q0 hmA hmB hmC 
  go_enter Tryz.func51, Tryz.ntmps51
  go_upto_region 1 with (fail)
  rw [HW.out]
  clear HW
  go_wp2_with fail
  refine (rop_any nm W).mono ?_
  rintro e w1 ⟨rfl, hb1'⟩
  rw [hop.out]
  simp only [Option.getD_some, Option.isSome_some]
  have HB1 := hide (HB0.out.trans (hb1'.mono HB0.out.size))
  have R1 := hide (R0.out.call hb1')
  clear hb1' q1
  go_wp2_with fail
  refine (hopd _ hk0 hk25).mono ?_
  rintro e w2 ⟨rfl, rfl⟩
  go_wp2_with fail
  refine (hmk _).mono ?_
  rintro e w3 ⟨rfl, rfl⟩
  clear hopd hmk
  have O0 := hide (show w1.ownsRow w.heap.size 9 1 (.slice none 0 0) 0 (wcells []) from World.ownsRow_nil _ _ _ _)
  have HL1 := hide (show w.heap.size < w1.heap.size from R1.out.lt)
  have hsm1 := hide (show Sees w1 w1.heap.size none (wcells []) from Sees.nil_ _ _ _)
  have hS3 := hide ((HS2.out w1 (fun p hp => HB1.out.cell (by omega))).more (show B ≤ w1.heap.size by have := HB1.out.size; omega))
  go_wp2_with fail
  refine (rnumbers_any A2 (n - 1) (c - 1) r none 0 0 ms false w1 w1.heap.size (Nat.le_refl _) hS3 (hide (by rw [HMT.out]; exact hsm1.out)) (hide (by have := HN.out; omega)) (hide HML.out) hlen hmb (by omega) (by omega) hfl).mono ?_
  rintro e w5 ⟨v5, rfl, ho5, hb5⟩
  have HB5 := hide (HB1.out.trans (hb5.mono HB1.out.size))
  have R5 := hide (R1.out.call hb5)
  rw [← HE.out] at ho5 ⊢
  have HSZ5 := hide (show w.heap.size < w5.heap.size from R5.out.lt)
  have BS := hide (show w1.heap.size ≤ w5.heap.size from hb5.size)
  have HO5 := hide ho5
  clear hb5 ho5
  by_cases hE0 : insE7 nm r = 0
  · have hE1 : numsE ms r = 0 := by rw [← HE.out]; exact hE0
    have hXX := (HX.out hE1).trans HSH.out
    have o5 := HO5.out hE0
    have hXV : insX7 nm r = ⟨k, 0, 0, 0, 0⟩ := by
      rw [hXX]
      simp only [if_true, Bool.false_eq_true, if_false]
    have HXV := hide hXV
    have HE0 := hide hE0
    have hk64 : (k : Int) ≤ 25 := by omega
    clear hE0 hE1 hXX o5 hXV  
    rw [HE0.out]
    go_upto_region 31 with (fail)
    obtain ⟨W6, hW6⟩ : ∃ W6, w5.alloc (.cells #[.int .i64 (k : Int), .int .i64 0, .int .i64 0, .int .i64 0, .int .u64 0] 44) = W6 := ⟨_, rfl⟩
    rw [hW6]
    have HB6 := hide (show Below w.heap.size w W6 by rw [← hW6]; exact HB5.out.alloc HB5.out.size _)
    have RX := show Row W6 w5.heap.size 44 [.int .i64 (k : Int), .int .i64 0, .int .i64 0, .int .i64 0, .int .u64 0] by rw [← hW6]; exact Row.new w5 _ _
    have R6 := show Row W6 w.heap.size 44 [.int .i64 0, .int .i64 0, .int .i64 0, .int .i64 0, .int .u64 0] by rw [← hW6]; exact R5.out.alloc _
    have RX := hide RX
    have R6 := hide R6
    clear hW6 
    have x0 := RX.out.cell (k := 0) rfl
    have x1 := RX.out.cell (k := 1) rfl
    have x2 := RX.out.cell (k := 2) rfl
    have x3 := RX.out.cell (k := 3) rfl
    have x4 := RX.out.cell (k := 4) rfl
    have c0 := R6.out.cell (k := 0) rfl
    have c1 := R6.out.cell (k := 1) rfl
    have c2 := R6.out.cell (k := 2) rfl
    have c3 := R6.out.cell (k := 3) rfl
    have c4 := R6.out.cell (k := 4) rfl
    have y0 := R6.out.free 0
    have y1 := R6.out.free 1
    have y2 := R6.out.free 2
    have y3 := R6.out.free 3
    have y4 := R6.out.free 4
    go_wp2
    have hf := ((((R6.out.set_ 0 (.int .i64 (k : Int))).set_ 1 (.int .i64 0)).set_ 2 (.int .i64 0)).set_ 3 (.int .i64 0)).set_ 4 (.int .u64 0)
    have f0 := hf.cell (k := 0) rfl
    have f1 := hf.cell (k := 1) rfl
    have f2 := hf.cell (k := 2) rfl
    have f3 := hf.cell (k := 3) rfl
    have f4 := hf.cell (k := 4) rfl
    refine bodyPost_ret (v := .tuple #[iv (k : Int) 0 0 0 0, .int .i64 0]) (by simp [results, Tryz.results51, go_sem, f0, f1, f2, f3, f4]) rfl ⟨by rw [HE0.out, HXV.out], ?_⟩
    exact ((((HB6.out.setCell (Nat.le_refl _) _).setCell (Nat.le_refl _) _).setCell (Nat.le_refl _) _).setCell (Nat.le_refl _) _).setCell (Nat.le_refl _) _
  · have hXB := hide (in_bad rfl hE0)
    obtain ⟨xe, exe⟩ : ∃ xe, insE7 nm r = xe := ⟨_, rfl⟩
    rw [exe] at hE0 ⊢
    have hbe : (xe == 0) = false := by rw [beq_eq_false_iff_ne]; exact hE0
    have HXE := hide exe
    clear hE0 exe
    have c0 := R5.out.cell (k := 0) rfl
    have c1 := R5.out.cell (k := 1) rfl
    have c2 := R5.out.cell (k := 2) rfl
    have c3 := R5.out.cell (k := 3) rfl
    have c4 := R5.out.cell (k := 4) rfl
    have y0 := R5.out.free 0
    have y1 := R5.out.free 1
    have y2 := R5.out.free 2
    have y3 := R5.out.free 3
    have y4 := R5.out.free 4
    go_wp2
    have hf := ((((R5.out.set_ 0 (.int .i64 0)).set_ 1 (.int .i64 0)).set_ 2 (.int .i64 0)).set_ 3 (.int .i64 0)).set_ 4 (.int .u64 0)
    have f0 := hf.cell (k := 0) rfl
    have f1 := hf.cell (k := 1) rfl
    have f2 := hf.cell (k := 2) rfl
    have f3 := hf.cell (k := 3) rfl
    have f4 := hf.cell (k := 4) rfl
    refine bodyPost_ret (v := .tuple #[iv 0 0 0 0 0, .int .i64 xe]) (by simp [results, Tryz.results51, go_sem, f0, f1, f2, f3, f4]) rfl ⟨by rw [hXB.out, HXE.out], ?_⟩
    exact ((((HB5.out.setCell (Nat.le_refl _) _).setCell (Nat.le_refl _) _).setCell (Nat.le_refl _) _).setCell (Nat.le_refl _) _).setCell (Nat.le_refl _) _
end Go.Proofs.YtlhaendgdeflkaaGreatDoor
end
