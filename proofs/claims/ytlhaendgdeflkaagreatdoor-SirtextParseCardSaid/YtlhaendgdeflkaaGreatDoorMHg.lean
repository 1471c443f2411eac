import Derived.Test.YtlhaendgdeflkaaGreatDoorMUdslot
import Derived.Test.YtlhaendgdeflkaaGreatDoorMHe
import Derived.Test.YtlhaendgdeflkaaGreatDoorMHd
import Derived.Test.YtlhaendgdeflkaaGreatDoorMGq
import Derived.Maps.OwnOps
import Derived.Maps.OwnSet
set_option linter.unusedVariables false
set_option linter.unusedSimpArgs false
section
/-
  The program's instr of a reader (chapter 7): an instruction more. Conditions: those of the types; the names' table and ErrRange lie as they are laid.
-/
namespace Go.Proofs.YtlhaendgdeflkaaGreatDoor
open Go.RowKit Go.Maps

theorem marks_len {k : Nat} (hk : k < 25) : (marksU k).length = (lettT (k : Int)).length := by rw [marksU_let hk, List.length_map]
theorem marks_at {k j : Nat} (hk : k < 25) (hj : j < (lettT (k : Int)).length) : (marksU k).getD j ([], false) = letV ((lettT (k : Int)).getD j 0) := by
  rw [marksU_let hk, List.getD_eq_getElem?_getD, List.getD_eq_getElem?_getD, List.getElem?_map, List.getElem?_eq_getElem hj]
  rfl
theorem nums_bound {k : Nat} (hk : k < 25) {r : List (List UInt8)} (hE : numsE (marksU k) r = 0) : ∀ j, j < (lettT (k : Int)).length → ((numsV (marksU k) r).getD j 0 : Nat) < 18446744073709551616 ∧ ((lettT (k : Int)).getD j 0 ≠ 105 → ((numsV (marksU k) r).getD j 0 : Nat) ≤ 2147483647) := fun j hj => by
  have h := numsV_lt hE (k := j) (by rw [marks_len hk]; exact hj)
  rw [marks_at hk hj] at h
  by_cases h1 : (lettT (k : Int)).getD j 0 = 105
  · rw [show limU (letV ((lettT (k : Int)).getD j 0)).2 = 18446744073709551616 by rw [h1]; rfl] at h
    exact ⟨h, fun e => absurd h1 e⟩
  · have hb : (letV ((lettT (k : Int)).getD j 0)).2 = false := by unfold letV; exact beq_eq_false_iff_ne.2 h1
    rw [show limU (letV ((lettT (k : Int)).getD j 0)).2 = 2147483648 by rw [hb]; rfl] at h
    exact ⟨by omega, fun _ => by omega⟩
theorem zero_int (w : World) : (zeroValue 3).run Tryz.prog w = .ok (.int .i64 0) w := by kernel_rfl
theorem lett_small {k : Nat} : ∀ x ∈ lettT (k : Int), x.toNat < 128 := fun x hx => by
  obtain ⟨i, hi⟩ := List.mem_iff_getElem?.1 hx
  exact lett_asc (k : Int) i x hi

set_option maxHeartbeats 8000000 in
set_option maxRecDepth 100000 in
theorem drinstr_any (lo b D : Nat) (A : Option Addr) (n c : Nat) (hs : List Hd) (F : Pg) (nm : List UInt8) (Aw : Option Addr) (nw cw : Nat) (r : List (List UInt8)) (w : World) (H : Hid (Rdr w lo b D (.slice A n c) hs F)) (hlo : lo ≤ w.heap.size) (hS : Hid (Sees w w.heap.size Aw (wcells r))) (hn : Hid (r.length = nw)) (hlen : Hid (∀ x ∈ r, x.length ≤ 100000000)) (hnm : nm.length ≤ 100000000) (hnb : nw ≤ 100000001) (hR : Hid (ErrR w)) (hT : Hid (Synt w)) (hsm : SmallP 90000 F) :
    Calls Tryz.prog 46 #[.pointer (some ⟨D, 0, none⟩), .string ⟨nm.toArray⟩, .slice Aw nw cw] w (RdPost lo b D (lastU F fun f => instU F f nm r) w) := by
  have HLO := hide hlo
  have HSM := hide hsm
  have hkey := key_str (l := nm) (by unfold maxLen; omega)
  have hops := H.out.ops
  unfold OpsAt at hops
  have m0 := H.out.row.cell (k := 0) rfl
  clear hlo hsm hnm
  cases hf : F.getLast? with
  | none =>
    have hr := hide (last_nil (k := fun f => instU F f nm r) hf)
    have hF : F = [] := by simpa using hf
    have hn0 : n = 0 := by have := own_n H.out.own; rw [hF] at this; exact this.symm
    subst hn0
    have cl := dlast_none D b c A w (hide H.out.row)
    clear hf hF
    go_enter Tryz.func46, Tryz.ntmps46
    go_wp2_with (at_lookup; refine wpList_lookup_own_ok_int _ rfl _ _ 57 rfl 9 3 .i64 strK Tryz.underlying57 Tryz.underlying3 (zero_int _) b 25 (OpsD 25) rfl hops _ _ rfl hkey ?_; intro cL hat hwc; generalize Maps.has (OpsD 25) (.string nm) = ok; clear hat hwc)
    refine cl.mono ?_
    rintro e w1 ⟨rfl, hb1⟩
    have FIN := hide (rd_same H.out hr.out hb1 HLO.out)
    clear cl hb1 hops
    go_wp2_with fail
    go_ret
    exact FIN.out
  | some f =>
    have hr := hide (last_fn (k := fun f => instU F f nm r) hf)
    obtain ⟨g, K, hs0, F0, h, rfl, hhs, hFF, hnn, hK1, hK2, hold, hfn⟩ := H.out.split hf
    obtain ⟨p, hp⟩ : ∃ p, hs0.length = p := ⟨_, rfl⟩
    rw [hp] at hnn
    subst hnn
    have hk9 : p < 90001 := by have := H.out.own.1; have h2 := HSM.out.1; have h3 := own_n H.out.own; omega
    have cl := dlast_some D b g p c w (hide H.out.row) (by omega)
    have HHS := hide hhs; have HFF := hide hFF; have HP := hide hp; have HK1 := hide hK1; have HK2 := hide hK2; have HOLD := hide hold; have HFN := hide hfn
    have hsz := HSM.out.2 f (List.mem_of_getLast? hf)
    have HSZ := hide hsz
    clear hhs hFF hp hK1 hK2 hold hfn hf hsz
    obtain ⟨s0, si, sz0, sz1, sz2⟩ := info_parts Tryz.info44u
    cases ho : opU nm with
    | none =>
      have hmiss : Maps.has (OpsD 25) (.string nm) = false := ops_miss (l := nm) (fun k hk e => by rw [opU_name hk e] at ho; cases ho) (Nat.le_refl _)
      have HR := hide (show instU F f nm r = (10, F) by unfold instU; rw [ho])
      clear ho
      go_enter Tryz.func46, Tryz.ntmps46
      go_wp2_with (at_lookup; refine wpList_lookup_own_ok_int _ rfl _ _ 57 rfl 9 3 .i64 strK Tryz.underlying57 Tryz.underlying3 (zero_int _) b 25 (OpsD 25) rfl hops _ _ rfl hkey ?_; intro cL hat hwc; rw [hmiss]; clear hat hwc hmiss)
      refine cl.mono ?_
      rintro e w1 ⟨rfl, hb1⟩
      have FIN := hide (rd_same H.out (hr.out.trans HR.out) hb1 HLO.out)
      clear cl hb1 hops
      go_wp2_with fail
      go_ret
      exact FIN.out
    | some k =>
      obtain ⟨hk, hnk⟩ := opU_some ho
      have hhit := ops_hit (k := k) (K := 25) hk (Nat.le_refl _)
      rw [hnk] at hhit
      have hh1 := hhit.1
      have hh2 := hhit.2 (.lit (.int .i64 0))
      have HIN := hide (show instU F f nm r = if numsE (marksU k) r = 0 then (0, F.dropLast ++ [⟨f.params, f.slots, f.code ++ [insU k (numsV (marksU k) r)]⟩]) else (numsE (marksU k) r, F) by unfold instU; rw [ho])
      clear ho hnk hhit
      have HKK := hide hk
      go_enter Tryz.func46, Tryz.ntmps46
      go_wp2_with (at_lookup; refine wpList_lookup_own_ok_int _ rfl _ _ 57 rfl 9 3 .i64 strK Tryz.underlying57 Tryz.underlying3 (zero_int _) b 25 (OpsD 25) rfl hops _ _ rfl hkey ?_; intro cL hat hwc; rw [hh1]; rw [hh2] at hat; injection hat with hat; injection hat with _ hat; subst hat; clear hwc hh1 hh2)
      refine cl.mono ?_
      rintro e w1 ⟨rfl, hb1⟩
      have H1 := hide (H.out.below hb1)
      have HB1 := hide hb1
      have HOW1 : Hid (w1.ownsRow lo 49 3 (.slice (some ⟨g, 0, none⟩) (p + 1) c) (p + 1) (hcells (hs0 ++ [h]))) := hide (by
        have h1 := H1.out.own
        have h2 := own_n h1
        rw [h2, HHS.out] at h1
        exact h1)
      have hT1 := hide (hT.out.below HB1.out)
      obtain ⟨_, s1⟩ := hT1.out k hk
      have cn := numbers_any (lettT (k : Int)) Aw nw cw r w1 w1.heap.size (Nat.le_refl _) (hide ((hS.out.below HB1.out).more HB1.out.size)) hn hlen (hide lett_small) (lett_len _) hnb (hide (hR.out.below HB1.out))
      rw [← marksU_let hk] at cn
      have hk25 : (k : Int) < 25 := by omega
      have hk0 : (0 : Int) ≤ (k : Int) := by omega
      have HML := hide (marks_len hk)
      obtain ⟨L, eL⟩ : ∃ L, lettT (k : Int) = L := ⟨_, rfl⟩
      rw [eL] at s1 cn
      have HEL := hide eL
      clear cl hb1 hops eL
      go_wp2_with fail
      refine cn.mono ?_
      rintro e w5 ⟨v5, rfl, ho5, hb5⟩
      have HB5 := hide hb5
      have HO5 := hide ho5
      clear hb5 ho5 cn s1
      by_cases hE : numsE (marksU k) r = 0
      · have o5 := HO5.out hE
        obtain ⟨A5, c5, rfl, -, -, -, hS5⟩ := own_seen o5
        obtain ⟨n5, hn5⟩ : ∃ n5, (marksU k).length = n5 := ⟨_, rfl⟩
        rw [hn5] at o5 ⊢
        have hL5 : (lettT (k : Int)).length = n5 := (HML.out).symm.trans hn5
        have cdi := dins_any k hk A5 n5 c5 (numsV (marksU k) r) w5.drew hL5 (hide ((numsV_len _ _).trans hn5)) (hide (hS5.draws 1)) (hide (by rw [← hL5]; exact nums_bound hk hE)) (hide (hT1.out.below HB5.out.drew))
        have HR := hide (show instU F f nm r = (0, F0 ++ [⟨f.params, f.slots, f.code ++ [insU k (numsV (marksU k) r)]⟩]) by rw [HIN.out, if_pos hE, HFF.out, List.dropLast_concat])
        obtain ⟨⟨x0, x1, x2, x3, x4⟩, hx⟩ : ∃ x, insU k (numsV (marksU k) r) = x := ⟨_, rfl⟩
        rw [hx] at cdi HR
        have H5 := hide (show Rdr w5 lo b D (.slice (some ⟨g, 0, none⟩) (p + 1) c) (hs0 ++ [h]) (F0 ++ [f]) by have := H1.out.below HB5.out; rwa [HHS.out, HFF.out] at this)
        have HOW5 := hide (own_below HOW1.out HB5.out)
        have HFN5 := hide ((HFN.out.below HB1.out).below HB5.out)
        have HOLD5 := hide ((HOLD.out.below HB1.out).below HB5.out)
        have HBB := hide (below_step HB1.out HB5.out)
        have HKS := hide (show K ≤ w5.heap.size from Nat.le_trans HK2.out HBB.out.size)
        obtain ⟨-, -, a0, -⟩ := last_cells HOW5.out
        rw [HP.out] at a0
        have hgL := cell_lt a0
        have A0 := hide a0
        have HM3 := hide (show h.n2 + 1 ≤ maxLen by have := HFN.out.l2; have := HSZ.out.2; unfold maxLen; omega)
        have HM4 := hide (show (h.n2 + 1) * 40 ≤ 140737488355328 by have := HFN.out.l2; have := HSZ.out.2; omega)
        rw [hE]
        clear hE o5 hn5 hS5 hL5 hx
        go_upto_region 8 with (fail)
        go_region_law
          (first
            | (go_simp; go_at_call 67; refine cdi.mono ?_; rintro e w6 ⟨rfl, hb6⟩; have HB6 : Hid (Below w5.heap.size w5 w6) := hide ((Below.refl _ _).drew.trans hb6); have b0 : w6.cell? ⟨g, p * 3 + 2, none⟩ = some (.slice h.a2 h.n2 h.c2) := (HB6.out.cell (p := ⟨g, p * 3 + 2, none⟩) hgL).trans A0.out; have b1 : ∀ o : Obj, (w6.alloc o).cell? ⟨g, p * 3 + 2, none⟩ = some (.slice h.a2 h.n2 h.c2) := (fun o => (((Below.refl w6.heap.size w6).alloc (Nat.le_refl _) o).cell (p := ⟨g, p * 3 + 2, none⟩) (Nat.lt_of_lt_of_le hgL HB6.out.size)).trans b0); clear hb6; dsimp only)
            | (refine wp_append_own _ (.tmp 45) (.tmp 49) 47 rfl K 44 s0 (.agg #[.int .i64 0, .int .i64 0, .int .i64 0, .int .i64 0, .int .u64 0]) 5 40 Tryz.underlying47 si sz0 sz1 sz2 rfl (by decide) (.slice h.a2 h.n2 h.c2) h.n2 (icells f.code) rfl ((own_below HFN5.out.c HB6.out).alloc _) ⟨w6.heap.size, 0, none⟩ 1 1 [.int .i64 x0, .int .i64 x1, .int .i64 x2, .int .i64 x3, .int .u64 x4] rfl rfl (fun j u hu => by rw [WideShapes.add_plain, Nat.zero_add]; exact (Row.new w6 44 [.int .i64 x0, .int .i64 x1, .int .i64 x2, .int .i64 x3, .int .u64 x4]).cell hu) (icells_oneCell [⟨x0, x1, x2, x3, x4⟩]) HM3.out HM4.out (Nat.le_trans (Nat.le_trans HKS.out HB6.out.size) (by simp)) ?_; intro v2 w7 ho2 hg2 _; have HG7 : Hid (w6.grownBy w7 (Value.slice h.a2 h.n2 h.c2).ownBlock) := hide ((World.grownBy_alloc _ _ _).trans hg2); obtain ⟨A7, c7, rfl, hA7, hc7, hf7, -⟩ := own_seen ho2; have HLC := hide (last_cells (own_kept (own_below HOW5.out HB6.out) HG7.out (off_own (own_below HOW5.out HB6.out) (own_below HFN5.out.c HB6.out) (by decide)))); have p0 := HLC.out.2.2.1; rw [HP.out] at p0; have p1 := HLC.out.2.2.2 (p * 3 + 2)))
        all_goals
          have H6 := hide (H5.out.below HB6.out)
          have HFN6 := hide (HFN5.out.below HB6.out)
          have fin := Rdr.last_set (j := hs0.length * 3 + 2) (u := .slice A7 (h.n2 + 1) c7) (f' := ⟨f.params, f.slots, f.code ++ [⟨x0, x1, x2, x3, x4⟩]⟩) H6.out HK1.out (Nat.le_trans HKS.out HB6.out.size) (HOLD5.out.below HB6.out) HG7.out (fun k hk => (HFN6.out.c.lt k hk).1)
            (fun k hk => by obtain ⟨cs, fr, hh⟩ := own_ty HFN6.out.c hk; exact ⟨cs, _, fr, hh, by decide, by decide⟩) (hset_last hs0 h A7 (h.n2 + 1) c7).2
            ⟨HFN6.out.p, HFN6.out.l1, by rw [List.length_append, HFN6.out.l2]; rfl, own_kept HFN6.out.s HG7.out (off_own HFN6.out.s HFN6.out.c (by decide)), by rw [icells_append]; exact ho2⟩
          rw [HP.out] at fin
          have FIN := hide (show RdPost lo b D (lastU F fun f => instU F f nm r) w (.returned (.int .i64 0)) (w7.setCell ⟨g, p * 3 + 2, none⟩ (.slice A7 (h.n2 + 1) c7)) from ⟨some ⟨g, 0, none⟩, p + 1, c, _, by rw [hr.out, HR.out], by rw [hr.out, HR.out]; exact fin.1, ((below_step HBB.out HB6.out).mono HLO.out).trans fin.2⟩)
          clear hA7 hc7 hf7 ho2 hg2 fin p0 p1 b0 b1
          go_wp2_with fail
          go_ret
          exact FIN.out
      · have HR := hide (show instU F f nm r = (numsE (marksU k) r, F) by rw [HIN.out, if_neg hE])
        obtain ⟨x, hx⟩ : ∃ x, numsE (marksU k) r = x := ⟨_, rfl⟩
        rw [hx] at hE HR ⊢
        have hb : (x == 0) = false := by rw [beq_eq_false_iff_ne]; exact hE
        have FIN := hide (rd_same H.out (hr.out.trans HR.out) (below_step HB1.out HB5.out) HLO.out)
        clear hE hx
        go_wp2_with fail
        go_ret
        exact FIN.out
end Go.Proofs.YtlhaendgdeflkaaGreatDoor
end

section
/-
  The program's read (chapter 7): the words of a line. Conditions: those of the types; the names' table and ErrRange lie as they are laid.
-/
namespace Go.Proofs.YtlhaendgdeflkaaGreatDoor
open Go.RowKit

theorem line_cons {F : Pg} {x : List UInt8} {r : List (List UInt8)} : lineU F (x :: r) = if x = kwF then funcU F r else lastU F fun f => if x = kwS then slotU F f r else instU F f x r := by
  unfold lineU lastU
  cases F.getLast? <;> rfl
theorem line_func {F : Pg} {r : List (List UInt8)} : lineU F (kwF :: r) = funcU F r := by rw [line_cons, if_pos rfl]
theorem line_slot {F : Pg} {r : List (List UInt8)} : lineU F (kwS :: r) = lastU F fun f => slotU F f r := by
  rw [line_cons, if_neg (by decide)]
  simp only [if_true]
theorem line_instr {F : Pg} {x : List UInt8} {r : List (List UInt8)} (h1 : x ≠ kwF) (h2 : x ≠ kwS) : lineU F (x :: r) = lastU F fun f => instU F f x r := by
  rw [line_cons, if_neg h1]
  simp only [h2, if_false]

set_option maxHeartbeats 4000000 in
set_option maxRecDepth 100000 in
theorem dread_any (lo b D : Nat) (A : Option Addr) (n c : Nat) (hs : List Hd) (F : Pg) (Aw : Option Addr) (nw cw : Nat) (ws : List (List UInt8)) (w : World) (H : Hid (Rdr w lo b D (.slice A n c) hs F)) (hlo : lo ≤ w.heap.size) (hS : Hid (Sees w w.heap.size Aw (wcells ws))) (hn : Hid (ws.length = nw)) (hnc : nw ≤ cw) (hlen : Hid (∀ x ∈ ws, x.length ≤ 100000000)) (hnb : nw ≤ 100000001) (hR : Hid (ErrR w)) (hT : Hid (Synt w)) (hsm : SmallP 90000 F) :
    Calls Tryz.prog 22 #[.pointer (some ⟨D, 0, none⟩), .slice Aw nw cw] w (RdPost lo b D (lineU F ws) w) := by
  have HLO := hide hlo
  have HSM := hide hsm
  clear hlo hsm
  cases ws with
  | nil =>
    have hn0 : nw = 0 := hn.out.symm
    subst hn0
    have FIN := hide (rd_same (r := lineU F []) H.out rfl (Below.refl _ _) HLO.out)
    go_enter Tryz.func22, Tryz.ntmps22
    go_wp2_with fail
    go_ret
    exact FIN.out
  | cons x r =>
    have hn1 : nw = r.length + 1 := hn.out.symm
    obtain ⟨b1, o1, rfl, hb1, q0⟩ := word_at hS.out (k := 0) rfl
    rw [Nat.add_zero] at q0
    obtain ⟨A2, hsl, hS2⟩ := tail_at hS.out hn1 hnc
    have hlx := hlen.out x (by simp)
    have hlr : Hid (∀ y ∈ r, y.length ≤ 100000000) := hide (fun y hy => hlen.out y (by simp [hy]))
    have hS3 := hide (hS2 w.drew (fun p hp => rfl))
    have hnr : Hid (r.length = nw - 1) := hide (by omega)
    have HD := hide (H.out.below (Below.refl _ _).drew)
    have hRD := hide (hR.out.below (Below.refl _ _).drew)
    have hTD := hide (hT.out.below (Below.refl _ _).drew)
    have h1w : 1 ≤ nw := by omega
    have h1c : 1 ≤ cw := by omega
    have h0w : ¬ ((nw : Int) = 0) := by omega
    have h0z : (0 : Int) < (nw : Int) := by omega
    clear hS2 hn1 hlen
    by_cases hF : x = kwF
    · subst hF
      have cf := dfunction_any lo b D A n c hs F A2 (nw - 1) (cw - 1) r w.drew HD HLO.out hS3 hnr hlr (by omega) hRD (by have := H.out.own; have h3 := own_n this; have := HSM.out.1; omega)
      have q1 : w.cell? ⟨b1, o1, none⟩ = some (.string ⟨#[102, 117, 110, 99]⟩) := q0
      clear q0
      go_enter Tryz.func22, Tryz.ntmps22
      go_upto_region 3 with (fail)
      go_region
      go_wp2_with fail
      refine cf.mono ?_
      rintro e w2 ⟨A', n', c', hs', rfl, h2, h3⟩
      have FIN := hide (show RdPost lo b D (lineU F (kwF :: r)) w (.returned (.int .i64 (funcU F r).1)) w2 from ⟨A', n', c', hs', by rw [line_func], by rw [line_func]; exact h2, (Below.refl _ _).drew.trans h3⟩)
      clear cf h2 h3
      go_wp2_with fail
      go_ret
      exact FIN.out
    · have hFb : (x == [102, 117, 110, 99]) = false := beq_eq_false_iff_ne.2 hF
      by_cases hS' : x = kwS
      · subst hS'
        have cf := dslot_any lo b D A n c hs F A2 (nw - 1) (cw - 1) r w.drew HD HLO.out hS3 hnr hlr (by omega) hRD HSM.out
        have q1 : w.cell? ⟨b1, o1, none⟩ = some (.string ⟨#[115, 108, 111, 116]⟩) := q0
        clear q0 hFb
        go_enter Tryz.func22, Tryz.ntmps22
        go_upto_region 3 with (fail)
        go_region
        go_wp2_with fail
        refine cf.mono ?_
        rintro e w2 ⟨A', n', c', hs', rfl, h2, h3⟩
        have FIN := hide (show RdPost lo b D (lineU F (kwS :: r)) w (.returned (.int .i64 (lastU F fun f => slotU F f r).1)) w2 from ⟨A', n', c', hs', by rw [line_slot], by rw [line_slot]; exact h2, (Below.refl _ _).drew.trans h3⟩)
        clear cf h2 h3
        go_wp2_with fail
        go_ret
        exact FIN.out
      · have hSb : (x == [115, 108, 111, 116]) = false := beq_eq_false_iff_ne.2 hS'
        have cf := drinstr_any lo b D A n c hs F x A2 (nw - 1) (cw - 1) r w.drew HD HLO.out hS3 hnr hlr hlx (by omega) hRD hTD HSM.out
        have hLE := hide (line_instr (F := F) (r := r) hF hS')
        clear hF hS'
        go_enter Tryz.func22, Tryz.ntmps22
        go_upto_region 3 with (fail)
        go_region
        go_wp2_with fail
        refine cf.mono ?_
        rintro e w2 ⟨A', n', c', hs', rfl, h2, h3⟩
        have FIN := hide (show RdPost lo b D (lineU F (x :: r)) w (.returned (.int .i64 (lastU F fun f => instU F f x r).1)) w2 from ⟨A', n', c', hs', by rw [hLE.out], by rw [hLE.out]; exact h2, (Below.refl _ _).drew.trans h3⟩)
        clear cf h2 h3
        go_wp2_with fail
        go_ret
        exact FIN.out
end Go.Proofs.YtlhaendgdeflkaaGreatDoor
end

section
/-
  The program's Parse (chapter 7): any text. Conditions: those of the types; the library's greatest length, ErrRange, the names' table and the shapes lie as they are laid.
-/
namespace Go.Proofs.YtlhaendgdeflkaaGreatDoor
open Go.RowKit Go.Lib

theorem own_shape {w : World} {base e size n c : Nat} {a : Option Addr} {xs : List Value} (h : w.ownsRow base e size (.slice a n c) n xs) (hm : n ≤ 8796093022208) : Cap a n c ∧ Far base a ∧ Sees w w.heap.size a xs := by
  obtain ⟨A, c', e1, h1, h2, h3, h4⟩ := own_seen h
  injection e1 with e1 _ e2
  subst e1 e2
  exact ⟨⟨h1, h2, hm⟩, h3, h4⟩
theorem Rdr.pg {w : World} {lo b D n c : Nat} {A : Option Addr} {hs : List Hd} {F : Pg} (H : Rdr w lo b D (.slice A n c) hs F) (hsm : SmallP 90000 F) : PgAt w lo w.heap.size A n c hs F := by
  have hn := own_n H.own
  have ho := H.own
  rw [hn] at ho
  obtain ⟨q1, q2, q3⟩ := own_shape ho (by have := hsm.1; omega)
  refine ⟨hn, q1, q2, q3, ⟨H.all_.len, fun k h f e1 e2 => ?_⟩⟩
  have hf := (H.all_.at_ k h f e1 e2).1
  have hz := hsm.2 f (List.mem_of_getElem? e2)
  obtain ⟨s1, s2, s3⟩ := own_shape hf.s (by have := hf.l1; omega)
  obtain ⟨c1, c2, c3⟩ := own_shape hf.c (by have := hf.l2; omega)
  exact ⟨hf.p, hf.l1, hf.l2, s1, c1, s2, c2, s3, c3⟩
/-- What the loop of the lines keeps. -/
def RunP (s : List UInt8) (m : Bool) (l : List UInt8) (nn : Nat) (F : Pg) : Prop :=
  SmallP nn F ∧ l.length ≤ s.length ∧ (m = true → nn + l.length ≤ s.length ∧ runU [] 0 s = runU F nn l) ∧ (m = false → nn ≤ s.length + 1 ∧ runU [] 0 s = (0, 0, F))
theorem RunP.start (s : List UInt8) : RunP s true s 0 [] := ⟨SmallP.nil_ 0, Nat.le_refl _, fun _ => ⟨by omega, rfl⟩, fun h => by cases h⟩
theorem RunP.next {s l : List UInt8} {nn : Nat} {F : Pg} (h : RunP s true l nn F) (hz : (lnU F l).1 = 0) : RunP s (cut l [10]).2.2 (cut l [10]).2.1 (nn + 1) (lnU F l).2 := by
  obtain ⟨h1, h2, h3, -⟩ := h
  obtain ⟨h4, h5⟩ := h3 rfl
  rcases cut_one 10 l with ⟨e1, e2⟩ | ⟨t, e1, e2⟩
  · rw [e2]
    exact ⟨lineU_small h1 _, Nat.zero_le _, fun e => (by cases e), fun _ => ⟨by omega, h5.trans (runU_last hz e1)⟩⟩
  · rw [e2]
    have hl : t.length + 1 ≤ l.length := by
      have h6 := (List.dropWhile_suffix (l := l) (· != 10)).length_le
      rw [e1, List.length_cons] at h6
      exact h6
    exact ⟨lineU_small h1 _, (show t.length ≤ s.length by omega), fun _ => ⟨(show nn + 1 + t.length ≤ s.length by omega), h5.trans (runU_more hz e1)⟩, fun e => (by cases e)⟩
theorem cut_less (l : List UInt8) : (cut l [10]).2.1.length ≤ l.length ∧ ((cut l [10]).2.2 = true → (cut l [10]).2.1.length < l.length) ∧ (cut l [10]).1 = l.takeWhile (· != 10) := by
  rcases cut_one 10 l with ⟨e1, e2⟩ | ⟨t, e1, e2⟩
  · rw [e2]; exact ⟨Nat.zero_le _, fun e => (by cases e), rfl⟩
  · rw [e2]
    have h6 := (List.dropWhile_suffix (l := l) (· != 10)).length_le
    rw [e1, List.length_cons] at h6
    exact ⟨by simp only; omega, fun _ => by simp only; omega, rfl⟩

def mlen (a0 a6 : Value) : Nat := match a6, a0 with
  | .bool true, .string x => x.size + 1
  | _, _ => 0
theorem mlen_true (l : List UInt8) : mlen (.string ⟨l.toArray⟩) (.bool true) = l.length + 1 := by show (⟨l.toArray⟩ : ByteArray).size + 1 = _; rw [str_size]
theorem mlen_less {l l' : List UInt8} {m : Bool} (h : m = true → l'.length < l.length) : mlen (.string ⟨l'.toArray⟩) (.bool m) < mlen (.string ⟨l.toArray⟩) (.bool true) := by
  rw [mlen_true]
  cases m with
  | false => exact Nat.succ_pos _
  | true => rw [mlen_true]; have := h rfl; omega

set_option maxHeartbeats 8000000 in
set_option maxRecDepth 100000 in
theorem dtparse_any (s : List UInt8) (w : World) (hs1 : s.length ≤ 100000000) (hM : Hid (MaxL w)) (hR : Hid (ErrR w)) (hT : Hid (Synt w)) (hSh : Hid (Shapes w)) :
    Calls Tryz.prog 10 #[.string ⟨s.toArray⟩] w (PtPost s w) := by
  obtain ⟨W, hW⟩ : ∃ W, w.alloc (.cells #[.slice none 0 0] 29) = W := ⟨_, rfl⟩
  have hb := hide (show Below w.heap.size w W by rw [← hW]; exact below1 _ _)
  have r0 := hide (show Row W w.heap.size 29 [.slice none 0 0] by rw [← hW]; exact Row.new w _ _)
  have HW := hide hW
  by_cases hlong : 65536 < s.length
  · have HP := hide (show parseU s = (0, 3, []) by unfold parseU; rw [if_pos hlong])
    have hlz : (65536 : Int) < (s.length : Int) := by omega
    have t1 := r0.out.cell (k := 0) rfl
    have t2 := r0.out.free 0
    have f0 := (r0.out.set_ 0 (.slice none 0 0)).cell (k := 0) rfl
    have FIN := hide (pt_zero HP.out hb.out rfl)
    clear hW hlong
    go_enter Tryz.func10, Tryz.ntmps10
    go_upto_region 1 with (fail)
    rw [HW.out]
    clear HW
    go_wp2_with fail
    exact bodyPost_ret (v := .tuple #[gv none 0 0, .int .i64 0, .int .i64 3]) (by simp [results, Tryz.results10, go_sem, f0]) rfl FIN.out
  · have HPU := hide (show parseU s = if (runU [] 0 s).2.1 ≠ 0 then runU [] 0 s else if pgE (runU [] 0 s).2.2 ≠ 0 then (0, pgE (runU [] 0 s).2.2, []) else (0, 0, (runU [] 0 s).2.2) by unfold parseU; rw [if_neg hlong])
    have hlz : ¬ ((65536 : Int) < (s.length : Int)) := by omega
    have hls : s.length ≤ 65536 := by omega
    have co := operations_any W (hT.out.below hb.out)
    have HSW := hide (show W.heap.size = w.heap.size + 1 by rw [← hW]; simp)
    clear hW hlong
    go_enter Tryz.func10, Tryz.ntmps10
    go_upto_region 1 with (fail)
    rw [HW.out]
    clear HW
    go_wp2_with fail
    refine co.mono ?_
    rintro e w1 ⟨b, rfl, hbW, ho1, hb1⟩
    clear co
    go_upto_region 4 with (fail)
    have hRow := hide (show Row (w1.alloc (.cells #[.map (some b), .slice none 0 0] 60)) w1.heap.size 60 [.map (some b), .slice none 0 0] from Row.new w1 _ _)
    have HB := hide (show Below w.heap.size w (w1.alloc (.cells #[.map (some b), .slice none 0 0] 60)) from (hb.out.trans (hb1.mono hb.out.size)).alloc ((hb.out.trans (hb1.mono hb.out.size)).size) _)
    have HD : Hid (Rdr (w1.alloc (.cells #[.map (some b), .slice none 0 0] 60)) (w.heap.size + 1) b w1.heap.size (.slice none 0 0) [] []) := hide
      ⟨hRow.out, by rw [← HSW.out]; exact hb1.size, World.ownsMap.alloc ho1 _, by rw [← HSW.out]; exact hbW, World.ownsRow_nil _ _ _ _, .inl ⟨rfl, rfl⟩⟩
    have hR0 := hide (show Row (w1.alloc (.cells #[.map (some b), .slice none 0 0] 60)) w.heap.size 29 [.slice none 0 0] from (r0.out.call hb1).alloc _)
    have HDS := hide (show w.heap.size + 1 ≤ w1.heap.size by rw [← HSW.out]; exact hb1.size)
    obtain ⟨D, hD⟩ : ∃ D, w1.heap.size = D := ⟨_, rfl⟩
    generalize w1.alloc (.cells #[.map (some b), .slice none 0 0] 60) = W2 at hRow HB HD hR0 ⊢
    rw [hD] at HD hRow HDS ⊢
    clear hRow hD hb1 ho1 hbW hb r0
    go_wp2_with fail
    go_loopw [0, 3, 4, 6, 7] (fun a0 a3 a4 a6 _ wr => ∃ (m : Bool) (l : List UInt8) (nn : Nat) (F : Pg) (A : Option Addr) (n c : Nat) (hs : List Hd), a0 = .string ⟨l.toArray⟩ ∧ a3 = .int .i64 (nn : Int) ∧ a4 = .int .i64 0 ∧ a6 = .bool m ∧ Hid (RunP s m l nn F) ∧
        Hid (Rdr wr (w.heap.size + 1) b D (.slice A n c) hs F) ∧ Hid (Row wr w.heap.size 29 [.slice none 0 0]) ∧ Hid (Below w.heap.size w wr))
      (fun a0 _ _ a6 _ _ => mlen a0 a6)
    case atStart => exact ⟨true, s, 0, [], none, 0, 0, [], rfl, rfl, rfl, rfl, hide (RunP.start s), HD, hR0, HB⟩
    case round =>
      clear HB HD hR0
      obtain ⟨m, l, nn, F, A, n, c, hs, rfl, rfl, rfl, rfl, HR, HD, R0, HB⟩ := hrel
      have hMr := hide (hM.out.below HB.out)
      have hsl := HR.out.2.1
      cases m with
      | true =>
        obtain ⟨hq1, hq2⟩ := HR.out.2.2.1 rfl
        have HNX := hide (fun hz => RunP.next HR.out hz)
        have HBAD := hide (fun (hz : (lnU F l).1 ≠ 0) => show parseU s = (nn + 1, (lnU F l).1, []) by
          rw [HPU.out, hq2, runU_bad hz]; simp only; rw [if_pos hz])
        have hcut := cut_any 10 l (by omega) wr hMr.out
        obtain ⟨hc1, hc2, hc3⟩ := cut_less l
        have HC2 := hide hc2
        have hll : (l.takeWhile (· != 10)).length ≤ l.length := (List.takeWhile_prefix _).length_le
        have HLN := hide (show lnU F l = lineU F (wordsU (l.takeWhile (· != 10))) from rfl)
        rw [hc3] at hcut
        obtain ⟨tl, etl⟩ : ∃ tl, (cut l [10]).2.1 = tl := ⟨_, rfl⟩
        obtain ⟨fd, efd⟩ : ∃ fd, (cut l [10]).2.2 = fd := ⟨_, rfl⟩
        rw [etl, efd] at hcut HC2 HNX
        obtain ⟨line, eline⟩ : ∃ line, l.takeWhile (· != 10) = line := ⟨_, rfl⟩
        rw [eline] at hcut HLN hll
        have cw := fun nd : Nat => dwords_any line (by omega) (wr.drewN nd) (hide (show MaxL (wr.drewN nd) from hMr.out))
        have hwf := words_few line
        have hws := words_short line
        obtain ⟨ws, ews⟩ : ∃ ws, wordsU line = ws := ⟨_, rfl⟩
        rw [ews] at cw HLN hwf hws
        rw [HLN.out] at HNX HBAD
        have HWF := hide hwf; have HWS := hide hws
        have hnn : nn ≤ 65536 := by omega
        have hnz : (nn : Int) ≤ 65536 := by omega
        have hll2 : line.length ≤ 65536 := by omega
        clear hq1 hq2 hc1 hc2 hc3 hll etl efd eline ews hwf hws HLN
        go_wp2_with fail
        refine hcut.mono ?_
        rintro e w2 ⟨rfl, nd, rfl⟩
        clear hcut
        go_wp2_with fail
        refine (cw nd).mono ?_
        rintro e w3 ⟨v9, rfl, ho9, hb9⟩
        have HB3 := hide (HB.out.trans (((drewN_below (Below.refl wr.heap.size wr) nd).trans hb9).mono HB.out.size))
        have HX3 := hide (show Below wr.heap.size wr w3 from (drewN_below (Below.refl wr.heap.size wr) nd).trans hb9)
        obtain ⟨A9, c9, rfl, hA9, hc9, hf9, hs9⟩ := own_seen ho9
        have HD3 := hide (HD.out.below HX3.out)
        have R03 := hide (R0.out.call HX3.out)
        have cr := dread_any (w.heap.size + 1) b D A n c hs F A9 ws.length c9 ws w3 HD3 (by have := R03.out.lt; omega) (hide hs9) (hide rfl) hc9 (hide (fun x hx => by have := HWS.out x hx; omega)) (by have := HWF.out; omega) (hide (hR.out.below HB3.out)) (hide (hT.out.below HB3.out)) (HR.out.1.more (by omega))
        obtain ⟨⟨le, lF⟩, elr⟩ : ∃ lr, lineU F ws = lr := ⟨_, rfl⟩
        rw [elr] at cr HNX HBAD
        clear cw ho9 hb9 hA9 hc9 hf9 hs9 elr
        go_wp2_with fail
        refine cr.mono ?_
        rintro e w4 ⟨A4, n4, c4, hs4, rfl, h4, hb4⟩
        have HD4 := hide h4
        have hRlt := R0.out.lt
        have R04 := hide (R03.out.below hb4 (Nat.lt_succ_self _))
        have HB4 := hide (HB3.out.trans (hb4.mono (Nat.le_succ _)))
        clear cr h4 hb4
        dsimp only at HNX HBAD ⊢
        by_cases hle : le = 0
        · subst hle
          have HN := hide (HNX.out rfl)
          go_wp2_with fail
          go_roundw
          case rel => exact ⟨fd, tl, nn + 1, lF, A4, n4, c4, hs4, rfl, by go_num, rfl, rfl, HN, HD4, R04, HB4⟩
          case measure => exact mlen_less HC2.out
        · have hle2 : (le == 0) = false := by simpa using hle
          have HBD := hide (HBAD.out hle)
          have t1 := R04.out.cell (k := 0) rfl
          have t2 := R04.out.free 0
          have f0 := (R04.out.set_ 0 (.slice none 0 0)).cell (k := 0) rfl
          have FIN := hide (pt_zero HBD.out HB4.out rfl)
          clear hle
          go_wp2_with fail
          exact bodyPost_ret (v := .tuple #[gv none 0 0, .int .i64 ((nn + 1 : Nat) : Int), .int .i64 le]) (by simp [results, Tryz.results10, go_sem, f0]) rfl FIN.out
      | false =>
        obtain ⟨hq1, hrun⟩ := HR.out.2.2.2 rfl
        have HPU2 := hide (show parseU s = if pgE F ≠ 0 then (0, pgE F, []) else (0, 0, F) by rw [HPU.out, hrun]; simp)
        have hsm : SmallP 90000 F := HR.out.1.more (by omega)
        have HPG := hide (HD.out.pg hsm)
        obtain ⟨W5, hW5⟩ : ∃ W5, wr.setCell ⟨w.heap.size, 0, none⟩ (.slice A n c) = W5 := ⟨_, rfl⟩
        have R05 := hide (show Row W5 w.heap.size 29 [.slice A n c] by rw [← hW5]; exact R0.out.set_ 0 _)
        have HB5 := hide (show Below w.heap.size w W5 by rw [← hW5]; exact HB.out.setCell (Nat.le_refl _) _)
        have HP5 := hide (show PgAt W5 (w.heap.size + 1) W5.heap.size A n c hs F by
          rw [← hW5, show (wr.setCell ⟨w.heap.size, 0, none⟩ (.slice A n c)).heap.size = wr.heap.size by simp [World.setCell]]
          exact HPG.out.keep fun p h1 _ => put_res _ _ _ _ (by omega))
        have cc := check_any A n c hs F (w.heap.size + 1) W5.heap.size W5 HP5 (Nat.le_refl _) (hide (hSh.out.below HB5.out))
        obtain ⟨x, hx⟩ : ∃ x, pgE F = x := ⟨_, rfl⟩
        rw [hx] at cc HPU2
        have d1 := HD.out.row.cell (k := 1) rfl
        have q0 := R0.out.cell (k := 0) rfl
        have q1 := R0.out.free 0
        have q2 := R05.out.cell (k := 0) rfl
        have HW5 := hide hW5
        clear hq1 hrun hsm hx hW5
        go_upto_region 13 with (fail)
        rw [HW5.out]
        clear HW5 d1 q0 q1
        go_wp2_with fail
        refine cc.mono ?_
        rintro e w5 ⟨rfl, hb5⟩
        have HB6 := hide (HB5.out.trans (hb5.mono HB5.out.size))
        have R06 := hide (R05.out.call hb5)
        have HP6 := hide (HP5.out.call hb5)
        have t1 := R06.out.cell (k := 0) rfl
        have t2 := R06.out.free 0
        clear hb5 cc q2
        by_cases hx0 : x = 0
        · subst hx0
          have HPU3 := hide (show parseU s = (0, 0, F) by rw [HPU2.out]; simp)
          have f0 := (R06.out.set_ 0 (.slice A n c)).cell (k := 0) rfl
          have FIN := hide (show PtPost s w (.returned (.tuple #[gv A n c, .int .i64 0, .int .i64 0])) (w5.setCell ⟨w.heap.size, 0, none⟩ (.slice A n c)) from ⟨A, n, c, hs, by rw [HPU3.out]; rfl, by
            rw [HPU3.out, show (w5.setCell ⟨w.heap.size, 0, none⟩ (.slice A n c)).heap.size = w5.heap.size by simp [World.setCell]]
            exact (HP6.out.keep fun p h1 _ => put_res _ _ _ _ (by omega)).more (Nat.le_refl _) (by omega), HB6.out.setCell (Nat.le_refl _) _⟩)
          go_wp2_with fail
          exact bodyPost_ret (v := .tuple #[gv A n c, .int .i64 0, .int .i64 0]) (by simp [results, Tryz.results10, go_sem, f0]) rfl FIN.out
        · have hx2 : (x == 0) = false := by simpa using hx0
          have HPU3 := hide (show parseU s = (0, x, []) by rw [HPU2.out, if_pos hx0])
          have f0 := (R06.out.set_ 0 (.slice none 0 0)).cell (k := 0) rfl
          have FIN := hide (pt_zero HPU3.out HB6.out rfl)
          clear hx0
          go_wp2_with fail
          exact bodyPost_ret (v := .tuple #[gv none 0 0, .int .i64 0, .int .i64 x]) (by simp [results, Tryz.results10, go_sem, f0]) rfl FIN.out
end Go.Proofs.YtlhaendgdeflkaaGreatDoor
end
