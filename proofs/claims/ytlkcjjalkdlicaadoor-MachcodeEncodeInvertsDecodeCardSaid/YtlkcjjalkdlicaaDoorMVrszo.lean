import Derived.Test.YtlkcjjalkdlicaaDoorMEpow
import Derived.Test.YtlkcjjalkdlicaaDoorMScan
import Derived.Test.YtlkcjjalkdlicaaDoorMMlow
import Derived.Test.YtlkcjjalkdlicaaDoorMPmem
import Derived.Test.YtlkcjjalkdlicaaDoorMMtgt
import Derived.Test.YtlkcjjalkdlicaaDoorMDprog
set_option linter.unusedVariables false
set_option linter.unusedSimpArgs false
section
/-
  The contract of the reference's Size. Conditions: those of the types.
-/
namespace Go.Proofs.YtlkcjjalkdlicaaDoor
open Go.RowKit

set_option maxHeartbeats 400000 in
theorem rsz_1 (w : World) : Calls Tryd.prog 116 #[.int .i64 1] w fun e w' => e = .returned (.bool true) ∧ w = w' := by
  go_enter Tryd.func116, Tryd.ntmps116
  go_wp2
  go_ret
  exact ⟨rfl, rfl⟩
set_option maxHeartbeats 400000 in
theorem rsz_2 (w : World) : Calls Tryd.prog 116 #[.int .i64 2] w fun e w' => e = .returned (.bool true) ∧ w = w' := by
  go_enter Tryd.func116, Tryd.ntmps116
  go_wp2
  go_ret
  exact ⟨rfl, rfl⟩
set_option maxHeartbeats 400000 in
theorem rsz_4 (w : World) : Calls Tryd.prog 116 #[.int .i64 4] w fun e w' => e = .returned (.bool true) ∧ w = w' := by
  go_enter Tryd.func116, Tryd.ntmps116
  go_wp2
  go_ret
  exact ⟨rfl, rfl⟩
set_option maxHeartbeats 400000 in
theorem rsz_8 (w : World) : Calls Tryd.prog 116 #[.int .i64 8] w fun e w' => e = .returned (.bool true) ∧ w = w' := by
  go_enter Tryd.func116, Tryd.ntmps116
  go_wp2
  go_ret
  exact ⟨rfl, rfl⟩
set_option maxHeartbeats 400000 in
theorem rsz_16 (w : World) : Calls Tryd.prog 116 #[.int .i64 16] w fun e w' => e = .returned (.bool true) ∧ w = w' := by
  go_enter Tryd.func116, Tryd.ntmps116
  go_wp2
  go_ret
  exact ⟨rfl, rfl⟩
set_option maxHeartbeats 400000 in
theorem rsz_none (n : Int) (w : World) (h : szB n = false) : Calls Tryd.prog 116 #[.int .i64 n] w fun e w' => e = .returned (.bool false) ∧ w = w' := by
  have hn := of_decide_eq_false h
  have o1 : (n == 1) = false := by rw [beq_eq_false_iff_ne]; omega
  have o2 : (n == 2) = false := by rw [beq_eq_false_iff_ne]; omega
  have o4 : (n == 4) = false := by rw [beq_eq_false_iff_ne]; omega
  have o8 : (n == 8) = false := by rw [beq_eq_false_iff_ne]; omega
  have o16 : (n == 16) = false := by rw [beq_eq_false_iff_ne]; omega
  clear hn h
  go_enter Tryd.func116, Tryd.ntmps116
  go_wp2
  go_ret
  exact ⟨rfl, rfl⟩
theorem rsz_any (n : Int) (w : World) : Calls Tryd.prog 116 #[.int .i64 n] w fun e w' => e = .returned (.bool (szB n)) ∧ w = w' := by
  by_cases h : szB n = true
  · rw [h]
    have hn := of_decide_eq_true h
    rcases hn with rfl | rfl | rfl | rfl | rfl
    · exact rsz_1 w
    · exact rsz_2 w
    · exact rsz_4 w
    · exact rsz_8 w
    · exact rsz_16 w
  · have h : szB n = false := by simpa using h
    rw [h]
    exact rsz_none n w h

end Go.Proofs.YtlkcjjalkdlicaaDoor
end

section
/-
  The contracts of the reference's Power and Size: those of the texts that this one joins.
-/
end

section
/-
  The contract of the reference's Slots. Conditions: those of the types; fewer than 2^62 slots.
-/
namespace Go.Proofs.YtlkcjjalkdlicaaDoor
open Go.RowKit

set_option maxHeartbeats 800000 in
theorem rslots_any (A : Option Addr) (n c : Nat) (l : List (Int × Int)) (B : Nat) (w : World) (hn : Hid (l.length = n)) (hm : n ≤ 4611686018427387904) (hs : Hid (Sees w B A (pcells l))) :
    Calls Tryd.prog 84 #[.slice A n c] w fun e w' => e = .returned (.int .i64 (slotsE l)) ∧ w = w' := by
  by_cases h : n ≤ 512
  · go_enter Tryd.func84, Tryd.ntmps84
    go_wp2_with fail
    go_loop [3] (fun i => ∃ k : Nat, k ≤ n ∧ i = .int .i64 k ∧ Hid (∀ j (hj : j < l.length), j < k → (!slotB l[j].1 l[j].2) = false)) (fun i => n - (intOf i).toNat)
    case atStart => exact ⟨0, by omega, rfl, hide fun j _ hj => by omega⟩
    case round =>
      obtain ⟨k, hk, rfl, hno⟩ := hrel
      by_cases hlt : k < n
      · have hltz : (k : Int) < (n : Int) := by omega
        have hkz : (0 : Int) ≤ (k : Int) := by omega
        have hkl : k < l.length := by have := hn.out; omega
        obtain ⟨b, off, rfl, hbB, c0, c1⟩ := pair_at hs.out hkl
        have d1 := rsz_any l[k].1
        have d2 := rpower_any l[k].2
        have HV := hide (show slotB l[k].1 l[k].2 = (szB l[k].1 && powB l[k].2) from rfl)
        have hit : Hid ((!slotB l[k].1 l[k].2) = true → slotsE l = 5) := fun e => by
          rw [slotsE_few (by have := hn.out; omega), any_hit (p := fun u => !slotB u.1 u.2) hkl e]; rfl
        obtain ⟨x, hx⟩ : ∃ x, l[k].1 = x := ⟨_, rfl⟩
        obtain ⟨y, hy⟩ : ∃ y, l[k].2 = y := ⟨_, rfl⟩
        rw [hx] at c0 d1
        rw [hy] at c1 d2
        have HX := hide hx
        have HY := hide hy
        clear hx hy
        obtain ⟨u, hu⟩ : ∃ u, szB x = u := ⟨_, rfl⟩
        obtain ⟨v, hv⟩ : ∃ v, powB y = v := ⟨_, rfl⟩
        rw [hu] at d1
        rw [hv] at d2
        have HU := hide hu
        have HW := hide hv
        clear hu hv
        cases u with
        | false =>
          go_wp2_with fail
          refine (d1 _).mono ?_
          rintro e w' ⟨rfl, rfl⟩
          go_wp2_with fail
          go_ret
          exact ⟨ret_int (hit.out (by rw [HV.out, HX.out, HU.out]; rfl)).symm, rfl⟩
        | true =>
          cases v with
          | false =>
            go_wp2_with fail
            refine (d1 _).mono ?_
            rintro e w' ⟨rfl, rfl⟩
            go_wp2_with fail
            refine (d2 _).mono ?_
            rintro e w' ⟨rfl, rfl⟩
            go_wp2_with fail
            go_ret
            exact ⟨ret_int (hit.out (by rw [HV.out, HX.out, HU.out, HY.out, HW.out]; rfl)).symm, rfl⟩
          | true =>
            go_wp2_with fail
            refine (d1 _).mono ?_
            rintro e w' ⟨rfl, rfl⟩
            go_wp2_with fail
            refine (d2 _).mono ?_
            rintro e w' ⟨rfl, rfl⟩
            go_wp2_with fail
            go_round
            case rel =>
              refine ⟨k + 1, by omega, by go_num, hide fun j hj hjk => ?_⟩
              by_cases e : j = k
              · subst e
                rw [HV.out, HX.out, HU.out, HY.out, HW.out]; rfl
              · exact hno.out j hj (by omega)
            case measure => simp [intOf]; omega
      · obtain rfl : k = n := by omega
        have he : Hid (slotsE l = 0) := by
          show slotsE l = 0
          rw [slotsE_few (by have := hn.out; omega), any_miss fun j hj => hno.out j hj (by have := hn.out; omega)]; rfl
        go_wp2_with fail
        go_ret
        exact ⟨ret_int he.out.symm, rfl⟩
  · have he := hide (slotsE_many (l := l) (by have := hn.out; omega))
    go_enter Tryd.func84, Tryd.ntmps84
    go_wp2_with fail
    go_ret
    exact ⟨ret_int he.out.symm, rfl⟩
end Go.Proofs.YtlkcjjalkdlicaaDoor
end

section
/-
  The contract of the reference's Align at slots. Conditions: those of the types; fewer than 2^62 slots.
-/
namespace Go.Proofs.YtlkcjjalkdlicaaDoor
open Go.RowKit

set_option maxHeartbeats 800000 in
theorem ralign_any (A : Option Addr) (n c : Nat) (l : List (Int × Int)) (B : Nat) (w : World) (hn : Hid (l.length = n)) (hm : n ≤ 4611686018427387904) (hs : Hid (Sees w B A (pcells l))) :
    Calls Tryd.prog 54 #[.slice A n c] w fun e w' => e = .returned (.int .i64 (alignV l)) ∧ w = w' := by
  have hc := rslots_any A n c l B w hn hm hs
  by_cases he : slotsE l = 0
  · have hv := hide (show alignV l = alM l l.length by simp [alignV, he])
    rw [he] at hc
    clear he
    go_enter Tryd.func54, Tryd.ntmps54
    go_wp2_with fail
    refine hc.mono ?_
    rintro e w1 ⟨rfl, rfl⟩
    clear hc
    go_wp2_with fail
    go_loop [3, 4] (fun m i => ∃ (k : Nat) (x : Int), k ≤ n ∧ i = .int .i64 k ∧ m = .int .i64 x ∧ Hid (x = alM l k)) (fun _ i => n - (intOf i).toNat)
    case atStart => exact ⟨0, 16, by omega, rfl, rfl, hide rfl⟩
    case round =>
      obtain ⟨k, x, hk, rfl, rfl, hx⟩ := hrel
      by_cases hlt : k < n
      · have hltz : (k : Int) < (n : Int) := by omega
        have hkz : (0 : Int) ≤ (k : Int) := by omega
        have hkl : k < l.length := by have := hn.out; omega
        obtain ⟨b, off, rfl, hbB, c0, c1⟩ := pair_at hs.out hkl
        have hstep := alM_succ l k hkl
        rw [← hx.out] at hstep
        have HS := hide hstep
        obtain ⟨y, hy⟩ : ∃ y, l[k].2 = y := ⟨_, rfl⟩
        rw [hy] at c1 HS
        clear hstep hy
        go_wp2_with fail
        all_goals
          go_round
          case rel => exact ⟨k + 1, _, by omega, by go_num, rfl, hide (by rw [HS.out] <;> omega)⟩
          case measure => simp [intOf]; omega
      · obtain rfl : k = n := by omega
        go_wp2_with fail
        go_ret
        exact ⟨ret_int (by rw [hv.out, hx.out, hn.out]), rfl⟩
  · have hv := hide (show alignV l = 16 by simp [alignV, he])
    have hne : (slotsE l != 0) = true := by simpa using he
    clear he
    generalize slotsE l = z at hc hne
    go_enter Tryd.func54, Tryd.ntmps54
    go_wp2_with fail
    refine hc.mono ?_
    rintro e w1 ⟨rfl, rfl⟩
    go_wp2_with fail
    go_ret
    exact ⟨ret_int hv.out.symm, rfl⟩
end Go.Proofs.YtlkcjjalkdlicaaDoor
end

section
/-
  The contract of the reference's Align at a program: the greatest alignment of its slots. Conditions: those of the types.
-/
namespace Go.Proofs.YtlkcjjalkdlicaaDoor
open Go.RowKit

/-- The greatest alignment of the first k functions. -/
def alP (F : Pg) (k : Nat) : Int := (F.take k).foldl (fun m f => max m (alignV f.slots)) 16
theorem alP_succ {F : Pg} {k : Nat} {f : Fn} (h : F[k]? = some f) : alP F (k + 1) = max (alP F k) (alignV f.slots) := by
  unfold alP
  rw [List.take_add_one, h, List.foldl_append]
  rfl

set_option maxHeartbeats 1000000 in
theorem rpalign_any (A : Option Addr) (n c : Nat) (hs : List Hd) (F : Pg) (lo B : Nat) (w : World) (H : Hid (PgAt w lo B A n c hs F)) (hB : B ≤ w.heap.size) :
    Calls Tryd.prog 29 #[gv A n c] w fun e w' => e = .returned (.int .i64 (alP F n)) ∧ Below w.heap.size w w' := by
  have hn := cap_le H.out.cap
  have HB1 := hide (below1 w (.cells #[.slice A n c] 26))
  have H1 := hide (H.out.below ((below1 w (.cells #[.slice A n c] 26)).mono hB))
  have HR := hide (Row.new w 26 [.slice A n c])
  obtain ⟨W, hW⟩ : ∃ W, w.alloc (.cells #[.slice A n c] 26) = W := ⟨_, rfl⟩
  rw [hW] at HB1 H1 HR
  have HW := hide hW
  clear hW
  have x0 := HR.out.cell (k := 0) rfl
  have hBW : B ≤ W.heap.size := Nat.le_trans hB HB1.out.size
  go_enter Tryd.func29, Tryd.ntmps29
  go_wp2_with fail
  rw [HW.out]
  go_loop [3, 4] (fun m i => ∃ (k : Nat) (x : Int), k ≤ n ∧ i = .int .i64 k ∧ m = .int .i64 x ∧ Hid (x = alP F k)) (fun _ i => n - (intOf i).toNat)
  case atStart => exact ⟨0, 16, by omega, rfl, rfl, hide rfl⟩
  case round =>
    obtain ⟨k, x, hk, rfl, rfl, hx⟩ := hrel
    by_cases hlt : k < n
    · have hltz : (k : Int) < (n : Int) := by omega
      have hkz : (0 : Int) ≤ (k : Int) := by omega
      obtain ⟨b, off, P, A1, n1, c1, A2, n2, c2, f, rfl, hbB, hf, _, hd, p0, p1, p2⟩ := fn_at H1.out hlt
      have hst := alP_succ hf
      rw [← hx.out] at hst
      have ca := ralign_any A1 n1 c1 f.slots B W (hide hd.l1) (cap_le hd.k1) (hide hd.s1)
      obtain ⟨y, hy⟩ : ∃ y, alignV f.slots = y := ⟨_, rfl⟩
      rw [hy] at ca hst
      have HST := hide hst
      have CA := hide ca
      clear hst hy ca hd hf
      go_wp2_with fail
      refine (CA.out).mono ?_
      rintro e w2 ⟨rfl, rfl⟩
      go_wp2_with fail
      all_goals
        go_round
        case rel => exact ⟨k + 1, _, by omega, by go_num, rfl, hide (by rw [HST.out] <;> omega)⟩
        case measure => simp [intOf]; omega
    · obtain rfl : k = n := by omega
      go_wp2_with fail
      go_ret
      exact ⟨ret_int (by rw [hx.out]), HB1.out⟩
end Go.Proofs.YtlkcjjalkdlicaaDoor
end

section
/-
  What a drawn program gives for its plain lowering; the greatest alignment of its slots is one. No function of the program is named here.
-/
namespace Go.Proofs.YtlkcjjalkdlicaaDoor
open Go.RowKit

theorem powB_max {a b : Int} (ha : powB a = true) (hb : powB b = true) : powB (max a b) = true := by
  rcases Int.le_total a b with h | h
  · rw [Int.max_eq_right h]; exact hb
  · rw [Int.max_eq_left h]; exact ha
theorem alM_pow {l : List (Int × Int)} (h : ∀ u ∈ l, slotB u.1 u.2 = true) : ∀ k, k ≤ l.length → powB (alM l k) = true ∧ 16 ≤ alM l k := by
  intro k
  induction k with
  | zero => intro _; rw [alM_zero]; exact ⟨by decide, by omega⟩
  | succ k ih =>
    intro hk
    obtain ⟨h1, h2⟩ := ih (by omega)
    rw [alM_succ l k (by omega)]
    have hs := h _ (List.getElem_mem (show k < l.length by omega))
    unfold slotB at hs
    simp only [Bool.and_eq_true] at hs
    exact ⟨powB_max h1 hs.2, by omega⟩
theorem slots_all {l : List (Int × Int)} (h : slotsE l = 0) : ∀ u ∈ l, slotB u.1 u.2 = true := by
  intro u hu
  unfold slotsE at h
  split at h
  · omega
  · split at h
    · omega
    · rename_i h2
      simp only [Bool.not_eq_true, List.any_eq_false] at h2
      have := h2 u hu
      simpa using this
theorem alP_pow {F : Pg} (h : ∀ f ∈ F, slotsE f.slots = 0) : ∀ k, k ≤ F.length → powB (alP F k) = true ∧ 16 ≤ alP F k := by
  intro k
  induction k with
  | zero => intro _; rw [show alP F 0 = 16 from rfl]; exact ⟨by decide, by omega⟩
  | succ k ih =>
    intro hk
    obtain ⟨h1, h2⟩ := ih (by omega)
    have hx := List.getElem?_eq_getElem (show k < F.length by omega)
    have hs := h _ (List.getElem_mem (show k < F.length by omega))
    rw [alP_succ hx]
    have ha : powB (alignV F[k].slots) = true := by
      unfold alignV
      rw [if_pos hs]
      exact (alM_pow (slots_all hs) _ (Nat.le_refl _)).1
    exact ⟨powB_max h1 ha, by omega⟩
/-- What an instruction without an error names is there. -/
theorem ins_low {N : Nat} {f : Fn} {x : Ins} (h : insE N f x = 0) (hp : f.params ≤ 8) : LowOk f.slots.length x := by
  obtain ⟨_, h1, h2, _, _, _⟩ := insE_zero.1 h
  rw [opndE_zero] at h1 h2
  refine ⟨fun e => ?_, fun e => ?_, fun e => ⟨?_, ?_⟩, fun e => ?_, fun e => ?_⟩ <;> rw [e] at h1 h2
  · exact withB_true.1 h2
  · exact withB_true.1 h1
  · exact withB_true.1 h1
  · exact withB_true.1 h2
  · have := withB_true.1 h1
    have e8 : cntV N f (shpOf 18).1 = 8 := rfl
    omega
  · have := withB_true.1 h2
    have e8 : cntV N f (shpOf 19).2.1 = f.params := rfl
    omega
theorem ins_call {N : Nat} {f : Fn} {x : Ins} (h : insE N f x = 0) (e : x.op = 22) : 0 ≤ x.a ∧ x.a < N := by
  obtain ⟨_, h1, _⟩ := insE_zero.1 h
  rw [opndE_zero, e] at h1
  exact withB_true.1 h1
theorem good_low {funcs most : Nat} {F : Pg} (h : PgGood funcs most F) (hf : funcs ≤ 80) (hm : most ≤ 100) : LowPg2 F := by
  obtain ⟨h1, _, h3⟩ := pgE_zero.1 h.err
  have hpar : ∀ g ∈ F, 0 ≤ g.params ∧ g.params ≤ 8 := fun g hg => (fnE_zero.1 (h3 g hg)).2.2.1
  have hfew : ∀ f ∈ F, f.slots.length ≤ 6 ∧ f.code.length ≤ 7 + 5 * most := fun f hf => by
    obtain ⟨i, hi, rfl⟩ := List.mem_iff_getElem.1 hf
    have := (h.fn i _ (List.getElem?_eq_getElem hi)).1
    exact ⟨this.few, this.short⟩
  refine ⟨⟨h1, fun f hf => ⟨fun x hx e => ?_, fun x hx e => ?_, hpar⟩, fun f hf => slots_all (fnE_zero.1 (h3 f hf)).2.1, fun f hf => (hfew f hf).1⟩, fun f hf x hx => ?_, fun f hf => by have := (hfew f hf).2; omega⟩
  · exact (ins_low ((fnE_zero.1 (h3 f hf)).2.2.2.1 x hx) (hpar f hf).2).2.2.2.1 e
  · exact ins_call ((fnE_zero.1 (h3 f hf)).2.2.2.1 x hx) e
  · exact ins_low ((fnE_zero.1 (h3 f hf)).2.2.2.1 x hx) (hpar f hf).2
/-- What holds of a drawn target's frames. -/
def FmOk (g : Fm) : Prop := (0 ≤ g.size ∧ g.size ≤ 268435456) ∧ 1 ≤ g.code.length ∧ g.code.length ≤ 1024 ∧ ∀ x ∈ g.code, x.op = 16 → 0 ≤ x.c ∧ x.c ≤ 16
theorem low_ok {funcs most : Nat} {F : Pg} {al : Int} (h : PgGood funcs most F) (hf : funcs ≤ 80) (hm : most ≤ 100) (ha : powB al = true) : ∀ g ∈ F.map (lowF F al), FmOk g := by
  intro g hg
  obtain ⟨f, hf2, rfl⟩ := List.mem_map.1 hg
  have hl := good_low h hf hm
  obtain ⟨i, hi, rfl⟩ := List.mem_iff_getElem.1 hf2
  have hgd := (h.fn i _ (List.getElem?_eq_getElem hi)).1
  have hlen : (lowF F al F[i]).code.length = F[i].code.length := by unfold lowF; simp
  refine ⟨low_size (hl.pg.arg _ hf2) (hl.pg.slot _ hf2) (hl.pg.six _ hf2) ha, by rw [hlen]; exact hgd.some, by rw [hlen]; exact hl.short _ hf2, fun x hx e => ?_⟩
  unfold lowF at hx
  simp only at hx
  obtain ⟨z, hz, rfl⟩ := List.mem_map.1 hx
  have hlo := hl.low _ hf2 z hz
  have hsl := hl.pg.slot _ hf2
  have hsz : ∀ k : Int, 0 ≤ k ∧ k < F[i].slots.length → 0 ≤ sizeAt F[i].slots k ∧ sizeAt F[i].slots k ≤ 16 := fun k hk => by
    obtain ⟨j, rfl⟩ := Int.eq_ofNat_of_zero_le hk.1
    have hj : j < F[i].slots.length := by omega
    rw [sz_at hj]
    have hs := hsl _ (List.getElem_mem hj)
    unfold slotB at hs
    simp only [Bool.and_eq_true] at hs
    have := szB_b hs.1
    omega
  unfold lowX at e ⊢
  by_cases h15 : z.op = 15
  · rw [if_pos h15] at e; simp at e
  · rw [if_neg h15] at e ⊢
    by_cases h16 : z.op = 16
    · rw [if_pos h16]; exact hsz _ (hlo.2.1 h16)
    · rw [if_neg h16] at e ⊢
      by_cases h17 : z.op = 17
      · rw [if_pos h17] at e; simp at e
      · rw [if_neg h17] at e ⊢
        by_cases h18 : z.op = 18
        · rw [if_pos h18]; simp
        · rw [if_neg h18] at e ⊢
          by_cases h19 : z.op = 19
          · rw [if_pos h19] at e; simp at e
          · rw [if_neg h19] at e; exact absurd e h16
end Go.Proofs.YtlkcjjalkdlicaaDoor
end
