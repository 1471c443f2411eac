import Derived.Test.YtlhaendgdeflkaaGreatDoorMHa
import Derived.Test.YtlhaendgdeflkaaGreatDoorMGa
import Derived.Test.YtlhaendgdeflkaaGreatDoorMHh
import Derived.Test.YtlhaendgdeflkaaGreatDoorMTrfmt
import Derived.Test.YtlhaendgdeflkaaGreatDoorMDprog
import Derived.Test.YtlhaendgdeflkaaGreatDoorMGx
import Derived.Test.YtlhaendgdeflkaaGreatDoorMGc
import Derived.Lib.ConvBytes
import Derived.BigRegion
import Derived.Deep.RegionHeld3
set_option linter.unusedVariables false
set_option linter.unusedSimpArgs false
section
/-
  A string turned into bytes, one of them changed, and back (chapter 7's laws). No function of the program is named here.
-/
namespace Go.Proofs.YtlhaendgdeflkaaGreatDoor
open Go.RowKit

/-- Block g holds the bytes l, and they may be written. -/
def BRow (w : World) (g : Nat) (l : List UInt8) : Prop :=
  ∃ (cs : Array Value) (fr : Nat × Nat), w.heap[g]? = some (.cells cs 5 fr) ∧ (∀ (j : Nat) (c : UInt8), l[j]? = some c → cs[j]? = some (.int .u8 (c.toNat : Int))) ∧ (∀ j, j < l.length → ¬ (fr.1 ≤ j ∧ j < fr.2))
section
variable {w w' : World} {g : Nat} {l : List UInt8}
theorem BRow.lt (h : BRow w g l) : g < w.heap.size := by
  obtain ⟨cs, fr, h1, _⟩ := h
  rcases Nat.lt_or_ge g w.heap.size with h2 | h2
  · exact h2
  · rw [Array.getElem?_eq_none h2] at h1; cases h1
theorem BRow.cell (h : BRow w g l) {j : Nat} {c : UInt8} (hj : l[j]? = some c) : w.cell? ⟨g, j, none⟩ = some (.int .u8 (c.toNat : Int)) := by
  obtain ⟨cs, fr, h1, h2, _⟩ := h
  rw [cell_of_row w g j _ _ fr h1]
  exact h2 j c hj
theorem BRow.free (h : BRow w g l) {j : Nat} (hj : j < l.length) : w.frozen? ⟨g, j, none⟩ = false := by
  obtain ⟨cs, fr, h1, _, h3⟩ := h
  have := h3 j hj
  simp only [World.frozen?, h1]
  simp only [Bool.and_eq_false_iff, decide_eq_false_iff_not]
  omega
theorem BRow.below (h : BRow w g l) {B : Nat} (hb : Below B w w') (hg : g < B) : BRow w' g l := by
  obtain ⟨cs, fr, h1, h2⟩ := h
  exact ⟨cs, fr, (hb.block g hg).trans h1, h2⟩
theorem BRow.drewN (h : BRow w g l) (n : Nat) : BRow (w.drewN n) g l := h
theorem BRow.set_ (h : BRow w g l) {j : Nat} (hj : j < l.length) (c : UInt8) : BRow (w.setCell ⟨g, j, none⟩ (.int .u8 (c.toNat : Int))) g (l.set j c) := by
  obtain ⟨cs, fr, h1, h2, h3⟩ := h
  refine ⟨cs.setIfInBounds j (.int .u8 (c.toNat : Int)), fr, ?_, fun i d hi => ?_, fun i hi => h3 i (by simpa using hi)⟩
  · simp [World.setCell, Array.getElem?_modify, h1]
  · have hjc : j < cs.size := by
      have := h2 j _ (List.getElem?_eq_getElem hj)
      exact (Array.getElem?_eq_some_iff.1 this).1
    by_cases hij : i = j
    · subst hij
      rw [List.getElem?_set_self hj] at hi
      injection hi with hi
      subst hi
      rw [Array.getElem?_setIfInBounds_self, if_pos hjc]
    · rw [List.getElem?_set_ne (fun e => hij e.symm)] at hi
      rw [Array.getElem?_setIfInBounds_ne (fun e => hij e.symm)]
      exact h2 i d hi
theorem BRow.back (h : BRow w g l) (N C : Nat) (hN : N = l.length) : (convert 22 9 (.slice (some ⟨g, 0, none⟩) N C)).run Tryz.prog w = .ok (.string ⟨l.toArray⟩) w := by
  subst hN
  exact run_convert_bytes_back (P := Tryz.prog) w 22 9 5 ⟨g, 0, none⟩ C l Tryz.underlying22 Tryz.underlying5 Tryz.underlying9 (fun j hj => by
    rw [Lib.add_plain, Nat.zero_add]
    exact h.cell (List.getElem?_eq_getElem hj))
end
/-- '[]byte(s)': a new block that holds the bytes. -/
theorem bytes_new (l : List UInt8) (w : World) (n : Nat) (hn : n = l.length) : ∃ (C : Nat) (W : World), (convert 9 22 (.string ⟨l.toArray⟩)).run Tryz.prog w = .ok (.slice (some ⟨w.heap.size, 0, none⟩) n C) W ∧ n ≤ C ∧ BRow W w.heap.size l ∧ Below w.heap.size w W := by
  subst hn
  have h1 := Lib.run_convert_string_bytes (P := Tryz.prog) w 9 22 5 ⟨l.toArray⟩ Tryz.underlying9 Tryz.underlying22 Tryz.underlying5
  rw [str_size] at h1
  refine ⟨_, _, h1, ?_, ⟨_, _, Lib.bytesWorld_at_new w 5 ⟨l.toArray⟩, fun j c hj => ?_, fun j hj => ?_⟩, ?_⟩
  · exact grownCap_ge _ _ _ _
  · obtain ⟨hjl, hjc⟩ := List.getElem?_eq_some_iff.1 hj
    have h2 := Lib.bytesWorld_cell w 5 ⟨l.toArray⟩ j (by rw [str_size]; exact hjl)
    rw [cell_of_row _ _ j _ _ _ (Lib.bytesWorld_at_new w 5 ⟨l.toArray⟩)] at h2
    rw [h2]
    show some (Value.int .u8 ((l.getD j 0).toNat : Int)) = _
    rw [List.getD_eq_getElem?_getD, hj]
    rfl
  · simp only [Lib.bytesCells, Array.size_append, Array.size_map, Array.size_replicate, List.size_toArray]
    omega
  · exact ⟨rfl, rfl, rfl, by rw [Lib.bytesWorld_size]; omega, fun k hk => Lib.bytesWorld_at_old _ _ _ _ hk⟩
end Go.Proofs.YtlhaendgdeflkaaGreatDoor
end

section
/-
  The walk of the law on Parse (chapter 7): for all strings and choices it returns true, and what was in memory before the call is as it was. Conditions: those of the types; the listed tables lie as their initialisers lay them.
-/
namespace Go.Proofs.YtlhaendgdeflkaaGreatDoor
open Go.RowKit

theorem imm_good {funcs most : Nat} {F : Pg} (h : PgGood funcs most F) : ∀ f ∈ F, ∀ x ∈ f.code, 0 ≤ x.imm ∧ x.imm ≤ 18446744073709551615 := fun f hfm => by
  obtain ⟨k, hk, rfl⟩ := List.getElem_of_mem hfm
  exact (h.fn k _ (List.getElem?_eq_getElem hk)).1.imm
/-- The text of a drawn program is short, and there is one. -/
theorem drawn_text {funcs most : Nat} {F : Pg} (h : PgGood funcs most F) (hf : funcs ≤ 5) (hm : most ≤ 12) : fmtE F = 0 ∧ fmtT F = pgT F ∧ 1 ≤ (pgT F).length ∧ (pgT F).length ≤ 65000 := by
  obtain ⟨_, hB⟩ := pgB_of h.err (imm_good h)
  have hfew := h.few
  have hlen : (pgT F).length ≤ F.length * 13000 := flat_bound fnT 13000 F fun f hfm => by
    obtain ⟨k, hk, rfl⟩ := List.getElem_of_mem hfm
    have hg := (h.fn k _ (List.getElem?_eq_getElem hk)).1
    have hb := hB _ hfm
    have h1 := headT_len hb.p0 hb.p1
    have h2 := flat_bound slotT 49 (F[k]).slots fun u hu => slotT_len (hb.s u hu).1 (hb.s u hu).2
    have h3 := flat_bound codeT 101 (F[k]).code fun x hx => codeT_len (hb.c x hx)
    have := hg.few
    have := hg.short
    unfold fnT
    simp only [List.length_append]
    omega
  have hone : 1 ≤ (pgT F).length := by
    have h1 := h.one
    obtain ⟨f, r, rfl⟩ : ∃ f r, F = f :: r := by
      cases F with
      | nil => simp at h1
      | cons f r => exact ⟨f, r, rfl⟩
    unfold pgT
    rw [List.flatMap_cons, List.length_append]
    have : 1 ≤ (fnT f).length := by
      unfold fnT headT
      simp only [List.length_append, List.length_cons, List.length_nil]
      omega
    omega
  have he : fmtE F = 0 := by
    unfold fmtE
    rw [if_neg (by rw [h.err]; decide), if_neg (by omega)]
  exact ⟨he, fmtT_good he, hone, by omega⟩
/-- The eight texts. -/
def eightT (s ws os : List UInt8) (k : Nat) : List (List UInt8) := [s, ws, os, ws.take k, ws.drop k, ws.take k ++ s ++ ws.drop k, [32] ++ ws ++ [35, 32, 101, 110, 100], ws ++ [10] ++ s]
theorem eight_len {s ws os : List UInt8} {k : Nat} (hs : s.length ≤ 1000) (hw : ws.length ≤ 65536) (ho : os.length = ws.length) : ∀ l ∈ eightT s ws os k, l.length ≤ 70000 := fun l hl => by
  have h1 : (ws.take k).length + (ws.drop k).length = ws.length := by rw [← List.length_append, List.take_append_drop]
  unfold eightT at hl
  simp only [List.mem_cons, List.not_mem_nil, or_false] at hl
  rcases hl with rfl | rfl | rfl | rfl | rfl | rfl | rfl | rfl <;> (try simp only [List.length_append, List.length_cons, List.length_nil]) <;> omega

set_option maxHeartbeats 8000000 in
set_option maxRecDepth 100000 in
theorem parlaw_walk (s : List UInt8) (A0 : Option Addr) (n0 c0 : Nat) (zs : List Int) (x y : Int) (w : World) (hs : s.length ≤ 9223372036854775807) (h : Hid (BsAt w w.heap.size A0 n0 c0 zs)) (hy0 : 0 ≤ y) (hy1 : y ≤ 255) (hT : Hid (Tabz w)) (hP : Lib.TabIs Tryz.prog w "internal/strconv.uint64pow10" .u64 Lib.pow10Tab) :
    Calls Tryz.prog 3 #[.string ⟨s.toArray⟩, .slice A0 n0 c0, .int .i64 x, .int .u8 y] w fun e w' => e = .returned (.bool true) ∧ Below w.heap.size w w' := by
  have ca := awake_any w hP (hide hT.out.t)
  have hsz : ((⟨s.toArray⟩ : ByteArray)).size = s.length := str_size _
  clear hP
  go_enter Tryz.func3, Tryz.ntmps3
  by_cases hlong : 1000 < s.length
  · have hlz : (1000 : Int) < (s.length : Int) := by omega
    go_wp2_with fail
    refine ca.mono ?_
    rintro e w1 ⟨rfl, hb1⟩
    have B1 := hide hb1
    clear ca hb1
    go_wp2_with fail
    go_ret
    exact ⟨rfl, B1.out⟩
  · have hlz : ¬ ((1000 : Int) < (s.length : Int)) := by omega
    have hs1 : s.length ≤ 1000 := by omega
    go_wp2_with fail
    refine ca.mono ?_
    rintro e w1 ⟨rfl, hb1⟩
    have B1 := hide hb1
    have C1 := hide (h.out.call hb1)
    clear ca hb1
    go_wp2_with fail
    refine (new_any A0 n0 c0 zs 200 w1 (hide C1.out.nil_) (hide C1.out.len) C1.out.nc (by have := C1.out.cm; have := C1.out.nc; omega) (by omega) (hide C1.out.see) (hide C1.out.byt)).mono ?_
    rintro e w2 ⟨rfl, hC2, hb2⟩
    have HC2 := hide hC2
    have B2 := hide (below_call B1.out hb2)
    have hgw : w.heap.size ≤ w1.heap.size := B1.out.size
    clear hC2 hb2
    go_wp2_with fail
    refine (prog_any w1.heap.size 3 8 w2 HC2 (by omega) (by omega) (by omega)).mono ?_
    rintro e w3 ⟨AP, nP, cP, hsP, F, rfl, hpg, hgood, hC3, hG3⟩
    have HIM := hide (imm_good hgood)
    have HDT := hide (drawn_text hgood (by omega) (by omega))
    have B3 := hide (below_inner B2.out hG3 (by omega))
    have G3 := hide (hpg.more (Nat.le_refl _) (Nat.le_refl _))
    clear hpg hgood hC3 hG3
    obtain ⟨ws, hws⟩ : ∃ ws, fmtT F = ws := ⟨_, rfl⟩
    have cf := rformat_any w3 w2.heap.size AP nP cP hsP F G3 HIM
    unfold FmtPost at cf
    rw [HDT.out.1, hws] at cf
    have hw1 : 1 ≤ ws.length := by rw [← hws, HDT.out.2.1]; exact HDT.out.2.2.1
    have hw2 : ws.length ≤ 65000 := by rw [← hws, HDT.out.2.1]; exact HDT.out.2.2.2
    have hwz : ((⟨ws.toArray⟩ : ByteArray)).size = ws.length := str_size _
    clear hws
    go_wp2_with fail
    refine cf.mono ?_
    rintro e w4 ⟨rfl, hb4⟩
    have B4 := hide (below_call B3.out hb4)
    clear hb4 cf
    obtain ⟨N, hN⟩ : ∃ N, ws.length = N := ⟨_, rfl⟩
    obtain ⟨C, W5, kc, hNC, hR5, hb5⟩ := bytes_new ws w4 N hN.symm
    obtain ⟨g, hg⟩ : ∃ g, w4.heap.size = g := ⟨_, rfl⟩
    rw [hg] at kc hR5
    have HG := hide hg
    have HN := hide hN
    have R5 := hide hR5
    have B5 := hide (below_call B4.out hb5)
    clear hR5 hb5 hg
    rw [hN] at hw1 hw2 hwz
    clear hN
    go_wp2_with fail
    refine (mod_any x N W5 (by omega) (by omega)).mono ?_
    rintro e w' ⟨rfl, rfl⟩
    obtain ⟨k, hk, hkN⟩ : ∃ k : Nat, x % (N : Int) = (k : Int) ∧ k < N := ⟨(x % (N : Int)).toNat, by have := Int.emod_nonneg x (show (N : Int) ≠ 0 by omega); omega, by have := Int.emod_nonneg x (show (N : Int) ≠ 0 by omega); have := Int.emod_lt_of_pos x (show (0 : Int) < (N : Int) by omega); omega⟩
    rw [hk]
    clear hk
    have hkl : k < ws.length := by rw [HN.out]; exact hkN
    have hkz : (k : Int) < (N : Int) := by omega
    have hkz0 : (0 : Int) ≤ (k : Int) := by omega
    obtain ⟨b, hb⟩ : ∃ b, ws[k]? = some b := ⟨_, List.getElem?_eq_getElem hkl⟩
    have q0 := R5.out.cell hb
    have q1 := R5.out.free hkl
    obtain ⟨z, hz⟩ : ∃ z : Int, (b.toNat : Int) = z := ⟨_, rfl⟩
    have hz1 : 0 ≤ z := by omega
    have hz2 : z ≤ 255 := by have := b.toNat_lt; omega
    rw [hz] at q0
    have hx8 : 0 ≤ bits BinOp.xor IntKind.u8 z y ∧ bits BinOp.xor IntKind.u8 z y ≤ 255 := by
      obtain ⟨a1, rfl⟩ := Int.eq_ofNat_of_zero_le hz1
      obtain ⟨a2, rfl⟩ := Int.eq_ofNat_of_zero_le hy0
      rw [u8_xor_nat a1 a2 (by omega) (by omega)]
      have hx : a1 ^^^ a2 < 2 ^ 8 := Nat.xor_lt_two_pow (by omega) (by omega)
      omega
    obtain ⟨d, hd⟩ : ∃ d : UInt8, (d.toNat : Int) = bits BinOp.xor IntKind.u8 z y := ⟨UInt8.ofNat (bits BinOp.xor IntKind.u8 z y).toNat, by rw [show (UInt8.ofNat (bits BinOp.xor IntKind.u8 z y).toNat).toNat = (bits BinOp.xor IntKind.u8 z y).toNat % 256 from rfl, Nat.mod_eq_of_lt (by omega)]; omega⟩
    obtain ⟨v, hv⟩ : ∃ v, bits BinOp.xor IntKind.u8 z y = v := ⟨_, rfl⟩
    rw [hv] at hd
    have HV := hide hv
    obtain ⟨os, hos⟩ : ∃ os, ws.set k d = os := ⟨_, rfl⟩
    have hol : os.length = ws.length := by rw [← hos, List.length_set]
    obtain ⟨W6, hW6⟩ : ∃ W6, W5.setCell ⟨g, k, none⟩ (.int .u8 v) = W6 := ⟨_, rfl⟩
    have R6 := hide (show BRow W6 g os by rw [← hW6, ← hos, ← hd]; exact R5.out.set_ hkl d)
    have B6 := hide (show Below w.heap.size w W6 by rw [← hW6]; exact B5.out.setCell (p := ⟨g, k, none⟩) (by show w.heap.size ≤ g; rw [← HG.out]; exact B4.out.size) _)
    have HW6 := hide hW6
    have HOL := hide hol
    clear hx8 hv hos hW6 hb hd hz hol
    go_upto_region 7 with (fail)
    rw [HV.out, HW6.out]
    clear q0 q1 HV HW6 kc
    obtain ⟨LL, hLL⟩ : ∃ LL, eightT s ws os k = LL := ⟨_, rfl⟩
    have hlen8 : ∀ l ∈ LL, l.length ≤ 70000 := by rw [← hLL]; exact eight_len hs1 (by rw [HN.out]; omega) HOL.out
    have f1 := fun W => slc_to (S := ws) (i := k) (by omega) W
    have f2 := fun W => slc_from (S := ws) (i := k) (by omega) W
    have hcv := fun (w' : World) (hb : Below W6.heap.size W6 w') => (R6.out.below hb R6.out.lt).back N C (by rw [HOL.out, HN.out])
    have htd : (ws.take k).length + (ws.drop k).length = N := by rw [← HN.out, ← List.length_append, List.take_append_drop]
    obtain ⟨T, hTT⟩ : ∃ T, ws.take k = T := ⟨_, rfl⟩
    obtain ⟨D, hDD⟩ : ∃ D, ws.drop k = D := ⟨_, rfl⟩
    have hLL' : [s, ws, os, T, D, T ++ s ++ D, [32] ++ ws ++ [35, 32, 101, 110, 100], ws ++ [10] ++ s] = LL := by rw [← hLL, ← hTT, ← hDD]; rfl
    rw [hTT, hDD] at htd
    rw [hTT] at f1
    rw [hDD] at f2
    obtain ⟨X1, hX1⟩ : ∃ X1, T ++ s = X1 := ⟨_, rfl⟩
    obtain ⟨X2, hX2⟩ : ∃ X2, X1 ++ D = X2 := ⟨_, rfl⟩
    obtain ⟨X3, hX3⟩ : ∃ X3, [32] ++ ws = X3 := ⟨_, rfl⟩
    obtain ⟨X4, hX4⟩ : ∃ X4, X3 ++ [35, 32, 101, 110, 100] = X4 := ⟨_, rfl⟩
    obtain ⟨X5, hX5⟩ : ∃ X5, ws ++ [10] = X5 := ⟨_, rfl⟩
    obtain ⟨X6, hX6⟩ : ∃ X6, X5 ++ s = X6 := ⟨_, rfl⟩
    have e1 : ((⟨T.toArray⟩ : ByteArray) ++ ⟨s.toArray⟩) = ⟨X1.toArray⟩ := by rw [← hX1]; exact cat_eq T s
    have e2 : ((⟨X1.toArray⟩ : ByteArray) ++ ⟨D.toArray⟩) = ⟨X2.toArray⟩ := by rw [← hX2]; exact cat_eq X1 D
    have e3 : ((⟨#[32]⟩ : ByteArray) ++ ⟨ws.toArray⟩) = ⟨X3.toArray⟩ := by rw [← hX3]; exact cat_eq [32] ws
    have e4 : ((⟨X3.toArray⟩ : ByteArray) ++ ⟨#[35, 32, 101, 110, 100]⟩) = ⟨X4.toArray⟩ := by rw [← hX4]; exact cat_eq X3 [35, 32, 101, 110, 100]
    have e5 : ((⟨ws.toArray⟩ : ByteArray) ++ ⟨#[10]⟩) = ⟨X5.toArray⟩ := by rw [← hX5]; exact cat_eq ws [10]
    have e6 : ((⟨X5.toArray⟩ : ByteArray) ++ ⟨s.toArray⟩) = ⟨X6.toArray⟩ := by rw [← hX6]; exact cat_eq X5 s
    have n1 : X1.length ≤ 66000 := by rw [← hX1, List.length_append]; omega
    have n3 : X3.length ≤ 66000 := by rw [← hX3, List.length_append, HN.out]; simp only [List.length_cons, List.length_nil]; omega
    have n5 : X5.length ≤ 66000 := by rw [← hX5, List.length_append, HN.out]; simp only [List.length_cons, List.length_nil]; omega
    have n7 : T.length ≤ 66000 := by omega
    have n8 : D.length ≤ 66000 := by omega
    have n9 : ws.length ≤ 66000 := by rw [HN.out]; omega
    have hLF : [s, ws, os, T, D, X2, X4, X6] = LL := by rw [← hLL', ← hX2, ← hX1, ← hX4, ← hX3, ← hX6, ← hX5]
    clear hLL hLL' hTT hDD htd hX1 hX2 hX3 hX4 hX5 hX6
    have k1 : ¬ 9223372036854775807 < T.length + s.length := by omega
    have k2 : ¬ 9223372036854775807 < X1.length + D.length := by omega
    have k3 : ¬ 9223372036854775807 < 1 + N := by omega
    have k4 : ¬ 9223372036854775807 < X3.length + 5 := by omega
    have k5 : ¬ 9223372036854775807 < N + 1 := by omega
    have k6 : ¬ 9223372036854775807 < X5.length + s.length := by omega
    go_region_held3 (fun w' => Below W6.heap.size W6 w') (first | exact below_draws (Below.refl _ _) 1 | exact below_draws (below1 _ _) 1 | assumption) (fail)
    obtain ⟨Z, hZ⟩ : ∃ Z, W6.heap.size = Z := ⟨_, rfl⟩
    obtain ⟨wl, hwl⟩ : ∃ wl, (W6.alloc (.cells #[.string ⟨s.toArray⟩, .string ⟨ws.toArray⟩, .string ⟨os.toArray⟩, .string ⟨T.toArray⟩, .string ⟨D.toArray⟩, .string ⟨X2.toArray⟩, .string ⟨X4.toArray⟩, .string ⟨X6.toArray⟩] 9)).drew = wl := ⟨_, rfl⟩
    have BL := hide (show Below w.heap.size w wl by rw [← hwl]; exact below_draws (B6.out.alloc B6.out.size _) 1)
    have RZ := hide (show Row wl Z 9 (wcells LL) by rw [← hwl, ← hZ, ← hLF]; exact (Row.new W6 9 _).drew)
    have HLN := hide (show LL.length = 8 by rw [← hLF]; rfl)
    rw [hwl, hZ]
    clear hcv e1 e2 e3 e4 e5 e6 f1 f2 hwl hZ hLF
    go_wp2_with fail
    go_loopw [14, 15, 16, 17, 18, 19, 20, 79] (fun _ _ _ _ _ _ _ iv wr => ∃ i : Nat, i ≤ 8 ∧ iv = .int .i64 (i : Int) ∧ Hid (Below wl.heap.size wl wr)) (fun _ _ _ _ _ _ _ iv _ => 8 - (intOf iv).toNat)
    case atStart => exact ⟨0, by omega, rfl, hide (Below.refl _ _)⟩
    case round =>
      obtain ⟨i, hi8, rfl, hbr⟩ := hrel
      by_cases hlt : i < 8
      · have hiz : (0 : Int) ≤ (i : Int) := by omega
        have hiz2 : (i : Int) < 8 := by omega
        obtain ⟨S, hS⟩ : ∃ S, LL[i]? = some S := ⟨_, List.getElem?_eq_getElem (by rw [HLN.out]; exact hlt)⟩
        have hSl := hlen8 S (List.mem_of_getElem? hS)
        have z0 := keep_cellB hbr.out (RZ.out.cell (k := i) (v := .string ⟨S.toArray⟩) (by unfold wcells; rw [List.getElem?_map, hS]; rfl))
        have BW := hide (BL.out.trans (hbr.out.mono BL.out.size))
        obtain ⟨⟨x1, x2, xF⟩, hx⟩ : ∃ x, parseU S = x := ⟨_, rfl⟩
        have c1 := dtp_any S wr (by omega) (hide (hT.out.below BW.out))
        have c2 := fun W => rtparse_any S W (by omega)
        unfold PtPost at c1 c2
        rw [hx] at c1 c2
        dsimp only at c1 c2
        clear hx hS
        go_wp2_with fail
        refine c1.mono ?_
        rintro e w3 ⟨A, n, c, hs3, rfl, hp3, hb3⟩
        obtain ⟨P3, hP3⟩ : ∃ P3, w3.heap.size = P3 := ⟨_, rfl⟩
        obtain ⟨V4, hV4⟩ : ∃ V4, w3.alloc (.cells #[.slice A n c] 29) = V4 := ⟨_, rfl⟩
        have Q4 := hide (show Row V4 P3 29 [.slice A n c] by rw [← hV4, ← hP3]; exact Row.new w3 29 [.slice A n c])
        have D3 := hide (BW.out.trans (hb3.mono BW.out.size))
        have D4 := hide (show Below w.heap.size w V4 by rw [← hV4]; exact D3.out.alloc D3.out.size _)
        have E4 := hide (show PgAt V4 wr.heap.size V4.heap.size A n c hs3 xF by rw [← hV4]; exact hp3.alloc _)
        have L4 := hide (show Below wl.heap.size wl V4 by rw [← hV4]; exact (hbr.out.trans (hb3.mono hbr.out.size)).alloc (hbr.out.trans (hb3.mono hbr.out.size)).size _)
        have HV4 := hide hV4
        have HP3 := hide hP3
        clear hV4 hp3 hb3 c1 z0 hP3
        go_upto_region 11 with (fail)
        rw [HV4.out, HP3.out]
        clear HV4 HP3
        go_wp2_with fail
        refine (c2 V4).mono ?_
        rintro e w5 ⟨A', n', c', hs', rfl, hp5, hb5⟩
        obtain ⟨P5, hP5⟩ : ∃ P5, w5.heap.size = P5 := ⟨_, rfl⟩
        obtain ⟨V6, hV6⟩ : ∃ V6, w5.alloc (.cells #[.slice A' n' c'] 29) = V6 := ⟨_, rfl⟩
        have Q6 := hide (show Row V6 P5 29 [.slice A' n' c'] by rw [← hV6, ← hP5]; exact Row.new w5 29 [.slice A' n' c'])
        have Q46 := hide (show Row V6 P3 29 [.slice A n c] by rw [← hV6]; exact (Q4.out.call hb5).alloc _)
        have D5 := hide (D4.out.trans (hb5.mono D4.out.size))
        have D6 := hide (show Below w.heap.size w V6 by rw [← hV6]; exact D5.out.alloc D5.out.size _)
        have E6 := hide (show PgAt V6 V4.heap.size V6.heap.size A' n' c' hs' xF by rw [← hV6]; exact hp5.alloc _)
        have E46 := hide (show PgAt V6 wr.heap.size V6.heap.size A n c hs3 xF by rw [← hV6]; exact (E4.out.call hb5).alloc _)
        have L6 := hide (show Below wl.heap.size wl V6 by rw [← hV6]; exact (L4.out.trans (hb5.mono L4.out.size)).alloc (L4.out.trans (hb5.mono L4.out.size)).size _)
        have HV6 := hide hV6
        have HP5 := hide hP5
        clear hV6 hp5 hb5 c2 hP5
        go_upto_region 12 with (fail)
        rw [HV6.out, HP5.out]
        clear HV6 HP5
        have t4 := Q46.out.cell (k := 0) rfl
        have t6 := Q6.out.cell (k := 0) rfl
        have cs := rsame_any A n c hs3 xF A' n' c' hs' xF wr.heap.size V4.heap.size V6.heap.size V6.heap.size V6 E46 E6 (Nat.le_refl _) (Nat.le_refl _)
        rw [show decide (xF = xF) = true by simp] at cs
        go_wp2_with fail
        refine cs.mono ?_
        rintro e wf ⟨rfl, hbf⟩
        have LF := hide (L6.out.trans (hbf.mono L6.out.size))
        clear cs hbf
        go_wp2_with fail
        go_roundw
        case rel => exact ⟨i + 1, by omega, by go_num, LF⟩
        case measure => simp [intOf]; omega
      · obtain rfl : i = 8 := by omega
        have hlz8 : ¬ (((8 : Nat) : Int) < 8) := by omega
        have FIN := hide (BL.out.trans (hbr.out.mono BL.out.size))
        clear hlt
        go_wp2_with fail
        go_ret
        exact ⟨rfl, FIN.out⟩
end Go.Proofs.YtlhaendgdeflkaaGreatDoor
end
