import Derived.Test.YtipjeihfhnilcaaDoorMEslots
import Derived.Test.YtipjeihfhnilcaaDoorMPinstr
set_option linter.unusedVariables false
set_option linter.unusedSimpArgs false
section
/-
  The contracts of sir.closed, sir.CheckFunc at a function that is there, and sir.Check: the first error. Conditions: the table of operations lies as its initialiser lays it.
-/
namespace Go.Proofs.YtipjeihfhnilcaaDoor
open Go.RowKit

theorem closedB_at {l : List Ins} {k : Nat} (h : k + 1 = l.length) : closedB l = termB (l[k]'(by omega)).op := by
  unfold closedB
  rw [List.getLast?_eq_getElem?, show l.length - 1 = k by omega, List.getElem?_eq_getElem (by omega)]
theorem fnE_long {N : Nat} {f : Fn} (h : 1024 < f.code.length) : fnE N f = 3 := by unfold fnE; rw [if_pos h]
theorem fnE_slots {N : Nat} {f : Fn} (h : f.code.length ≤ 1024) (h2 : slotsE f.slots ≠ 0) : fnE N f = slotsE f.slots := by unfold fnE; rw [if_neg (by omega), if_pos h2]
theorem fnE_params {N : Nat} {f : Fn} (h : f.code.length ≤ 1024) (h2 : slotsE f.slots = 0) (h3 : withB f.params 9 = false) : fnE N f = 4 := by unfold fnE; rw [if_neg (by omega), if_neg (by simpa using h2), if_pos h3]
theorem fnE_instr {N : Nat} {f : Fn} {k : Nat} {e : Int} (h : f.code.length ≤ 1024) (h2 : slotsE f.slots = 0) (h3 : withB f.params 9 = true) (hk : k < f.code.length) (he : insE N f f.code[k] = e) (h0 : e ≠ 0) (hb : ∀ j (hj : j < f.code.length), j < k → insE N f f.code[j] = 0) : fnE N f = e := by
  have hf : firstE (f.code.map (insE N f)) = e := firstE_hit (k := k) (by rw [List.getElem?_map, List.getElem?_eq_getElem hk]; simp [he]) h0 fun j hj => by
    have hl : j < f.code.length := by omega
    rw [List.getElem?_map, List.getElem?_eq_getElem hl]; simp [hb j hl hj]
  unfold fnE
  rw [if_neg (by omega), if_neg (by simpa using h2), if_neg (by simp [h3]), if_pos (by rw [hf]; exact h0), hf]
theorem fnE_end {N : Nat} {f : Fn} (h : f.code.length ≤ 1024) (h2 : slotsE f.slots = 0) (h3 : withB f.params 9 = true) (hb : ∀ j (hj : j < f.code.length), insE N f f.code[j] = 0) : fnE N f = if closedB f.code = false then 6 else 0 := by
  have hf : firstE (f.code.map (insE N f)) = 0 := firstE_zero.2 fun e he => by
    obtain ⟨x, hx, rfl⟩ := List.mem_map.1 he
    obtain ⟨j, hj, rfl⟩ := List.mem_iff_getElem.1 hx
    exact hb j hj
  unfold fnE
  rw [if_neg (by omega), if_neg (by simpa using h2), if_neg (by simp [h3]), if_neg (by simpa using hf)]

set_option maxHeartbeats 400000 in
theorem closed_any (A : Option Addr) (n c : Nat) (l : List Ins) (B : Nat) (w : World) (hn : Hid (l.length = n)) (hm : n ≤ 4611686018427387904) (h : Hid (Sees w B A (icells l))) :
    Calls Tryd.prog 48 #[.slice A n c] w fun e w' => e = .returned (.bool (closedB l)) ∧ w = w' := by
  cases n with
  | zero =>
    have hc := hide (show closedB l = false by rw [List.eq_nil_of_length_eq_zero hn.out]; rfl)
    go_enter Tryd.func48, Tryd.ntmps48
    go_wp2_with fail
    go_ret
    exact ⟨ret_bool hc.out.symm, rfl⟩
  | succ k =>
    have hk : k < l.length := by have := hn.out; omega
    obtain ⟨b, off, rfl, _, x0, -, -, -, -⟩ := ins_at h.out hk
    have hc := hide (closedB_at (l := l) (k := k) hn.out.symm)
    obtain ⟨op, hop⟩ : ∃ op, (l[k]'hk).op = op := ⟨_, rfl⟩
    rw [hop] at x0
    have hcc := hide (hop ▸ hc.out : closedB l = termB op)
    have ht := term_any op
    clear hop hc
    have hpos : decide ((0 : Int) < ((k + 1 : Nat) : Int)) = true := decide_eq_true (by omega)
    have hi0 : (0 : Int) ≤ ((k + 1 : Nat) : Int) - 1 := by omega
    have hi1 : ((k + 1 : Nat) : Int) - 1 < ((k + 1 : Nat) : Int) := by omega
    have hin : (((k + 1 : Nat) : Int) - 1).toNat = k := by omega
    go_enter Tryd.func48, Tryd.ntmps48
    go_wp2_with fail
    refine (ht _).mono ?_
    rintro e w' ⟨rfl, rfl⟩
    go_wp2_with fail
    go_ret
    exact ⟨ret_bool hcc.out.symm, rfl⟩

theorem boxes2o (w : World) (l1 l2 : List Value) (t1 t2 : TypeId) : ∃ W, (w.alloc (.cells l1.toArray t1)).alloc (.cells l2.toArray t2) = W ∧ Below w.heap.size w W ∧ w.heap.size + 2 = W.heap.size ∧ Row W w.heap.size t1 l1 ∧ Row W (w.heap.size + 1) t2 l2 := by
  refine ⟨_, rfl, below2 _ _ _, by simp, (Row.new w t1 l1).alloc _, ?_⟩
  exact heap_at _ _ (by simp)

set_option maxRecDepth 100000 in
set_option maxHeartbeats 4000000 in
theorem chkfn_any (A : Option Addr) (n c : Nat) (hs : List Hd) (F : Pg) (lo B i : Nat) (f : Fn) (w : World) (H : Hid (PgAt w lo B A n c hs F)) (hB : B ≤ w.heap.size) (hT : Hid (Shapes w)) (hi : i < n) (hf : Hid (F[i]? = some f)) :
    Calls Tryd.prog 36 #[gv A n c, .int .i64 (i : Int)] w fun e w' => e = .returned (.int .i64 (fnE n f)) ∧ Below w.heap.size w w' := by
  obtain ⟨b, off, P, A1, n1, c1, A2, n2, c2, f0, rfl, hbB, hf0, _, h, p0, p1, p2⟩ := fn_at H.out hi
  obtain rfl : f0 = f := by have := hf.out; rw [hf0] at this; injection this
  have Hh := hide h
  have hn2 := cap_le h.k2
  have hn1 := cap_le h.k1
  have hn := cap_le H.out.cap
  simp only at hn2 hn1
  have hbw : b < w.heap.size := by omega
  have hwi := within_any (i : Int) (n : Int)
  rw [withB_true.2 ⟨by omega, by omega⟩] at hwi
  have hiz : (0 : Int) ≤ (i : Int) := by omega
  have hiz' : (i : Int) < (n : Int) := by omega
  have HI := hide hwi
  have L2 := hide (show f0.code.length = n2 from h.l2)
  have L1 := hide (show f0.slots.length = n1 from h.l1)
  have LP := hide (show P = f0.params from h.p)
  obtain ⟨W, hW, hbW, hsW, r0, r1⟩ := boxes2o w [.slice (some ⟨b, off, none⟩) n c] [.int .i64 P, .slice A1 n1 c1, .slice A2 n2 c2] 26 52
  have HW := hide hW
  have HS := hide hsW
  have HBW := hide hbW
  have R0 := hide r0
  have R1 := hide r1
  have y1 := r1.cell (k := 1) rfl
  have y2 := r1.cell (k := 2) rfl
  clear hwi h hf0 hW hsW hbW r0 r1
  by_cases hlong : 1024 < n2
  · have HR := hide (show fnE n f0 = 3 from fnE_long (by rw [L2.out]; exact hlong))
    have hlz : (1024 : Int) < (n2 : Int) := by omega
    go_enter Tryd.func36, Tryd.ntmps36
    go_wp2_with fail
    refine (HI.out _).mono ?_
    rintro e w' ⟨rfl, rfl⟩
    go_wp2_with fail
    go_ret
    exact ⟨ret_int HR.out.symm, below2 _ _ _⟩
  · have hshort : f0.code.length ≤ 1024 := by have := L2.out; omega
    have cs : Calls Tryd.prog 46 #[.slice A1 n1 c1] W fun e w' => e = .returned (.int .i64 (slotsE f0.slots)) ∧ Below W.heap.size W w' := slots_any' A1 n1 c1 f0.slots W (hide L1.out) hn1 (hide ((Hh.out.s1.below (HBW.out.mono hB)).more (Nat.le_trans hB HBW.out.size)))
    obtain ⟨se, hse⟩ : ∃ se, slotsE f0.slots = se := ⟨_, rfl⟩
    rw [hse] at cs
    have HSE := hide hse
    have CS := hide cs
    clear hse cs
    by_cases hs0 : se = 0
    · subst hs0
      have cp := within_any P 9
      obtain ⟨pe, hpe⟩ : ∃ pe, withB P 9 = pe := ⟨_, rfl⟩
      rw [hpe] at cp
      have CP := hide cp
      have HPE := hide (show withB f0.params 9 = pe by rw [← LP.out]; exact hpe)
      clear cp hpe
      go_enter Tryd.func36, Tryd.ntmps36
      go_wp2_with fail
      refine (HI.out _).mono ?_
      rintro e w' ⟨rfl, rfl⟩
      go_wp2_with fail
      rw [HW.out]
      clear HW
      refine (CS.out).mono ?_
      rintro e w1 ⟨rfl, hb1⟩
      have u0 := (R1.out.call hb1).cell (k := 0) rfl
      have u2 := (R1.out.call hb1).cell (k := 2) rfl
      have HB1 := hide hb1
      clear hb1 y1 y2 CS
      go_wp2_with fail
      refine (CP.out _).mono ?_
      rintro e w' ⟨rfl, rfl⟩
      cases pe with
      | false =>
        have HR := hide (show fnE n f0 = 4 from fnE_params hshort HSE.out HPE.out)
        go_wp2_with fail
        go_ret
        exact ⟨ret_int HR.out.symm, HBW.out.trans (HB1.out.mono HBW.out.size)⟩
      | true =>
        go_wp2_with fail
        clear u0 u2
        go_loopw [37] (fun s wr => ∃ k : Nat, k ≤ n2 ∧ s = .int .i64 k ∧ Hid (∀ j (hj : j < f0.code.length), j < k → insE n f0 f0.code[j] = 0) ∧ Hid (Below W.heap.size W wr)) (fun s _ => n2 - (intOf s).toNat)
        case atStart => exact ⟨0, by omega, rfl, hide (fun j hj h => by omega), HB1⟩
        case round =>
          obtain ⟨k, hk, rfl, hno, hbr⟩ := hrel
          have v0 := (R0.out.call hbr.out).cell (k := 0) rfl
          have v2 := (R1.out.call hbr.out).cell (k := 2) rfl
          have HBR := hide (HBW.out.trans (hbr.out.mono HBW.out.size))
          by_cases hlt : k < n2
          · have hkl : k < f0.code.length := by have := L2.out; omega
            have hx := List.getElem?_eq_getElem hkl
            have ci := chkins_any (some ⟨b, off, none⟩) n c hs F lo B i k f0 f0.code[k] wr (hide (H.out.below (HBR.out.mono hB))) (Nat.le_trans hB HBR.out.size) (hide (hT.out.below HBR.out)) hi hf (hide hx)
            have HIT := hide (fun h0 => fnE_instr (N := n) (f := f0) hshort HSE.out HPE.out hkl rfl h0 hno.out)
            obtain ⟨ie, hie⟩ : ∃ ie, insE n f0 f0.code[k] = ie := ⟨_, rfl⟩
            rw [hie] at ci HIT
            have HIE := hide hie
            have CI := hide ci
            clear ci hie hx
            by_cases h0 : ie = 0
            · subst h0
              go_wp2_with fail
              refine (CI.out).mono ?_
              rintro e w2 ⟨rfl, hb2⟩
              have HB2 := hide (below_call hbr.out hb2)
              clear hb2 v0 v2
              go_wp2_with fail
              go_roundw
              case rel =>
                refine ⟨k + 1, by omega, by go_num, hide fun j hj hjk => ?_, HB2⟩
                by_cases e : j = k
                · subst e; exact HIE.out
                · exact hno.out j hj (by omega)
              case measure => simp [intOf]; omega
            · have hne : (ie != 0) = true := by rw [bne_iff_ne]; exact h0
              have HR := hide (HIT.out h0)
              clear HIT h0
              go_wp2_with fail
              refine (CI.out).mono ?_
              rintro e w2 ⟨rfl, hb2⟩
              have HB2 := hide (below_call HBR.out hb2)
              clear hb2 v0 v2
              go_wp2_with fail
              go_ret
              exact ⟨ret_int HR.out.symm, HB2.out⟩
          · obtain rfl : k = n2 := by omega
            have HE := hide (fnE_end (N := n) (f := f0) hshort HSE.out HPE.out (fun j hj => hno.out j hj (by have := L2.out; omega)))
            have cc := closed_any A2 k c2 f0.code B wr (hide L2.out) hn2 (hide (Hh.out.s2.below (HBR.out.mono hB)))
            obtain ⟨ce, hce⟩ : ∃ ce, closedB f0.code = ce := ⟨_, rfl⟩
            rw [hce] at cc
            have HCE := hide hce
            have CC := hide cc
            clear cc hce
            cases ce with
            | true =>
              go_wp2_with fail
              refine (CC.out).mono ?_
              rintro e w' ⟨rfl, rfl⟩
              go_wp2_with fail
              go_ret
              exact ⟨ret_int (by rw [HE.out, HCE.out]; rfl), HBR.out⟩
            | false =>
              go_wp2_with fail
              refine (CC.out).mono ?_
              rintro e w' ⟨rfl, rfl⟩
              go_wp2_with fail
              go_ret
              exact ⟨ret_int (by rw [HE.out, HCE.out]; rfl), HBR.out⟩
    · have hne : (se != 0) = true := by rw [bne_iff_ne]; exact hs0
      have HR := hide (show fnE n f0 = se by rw [fnE_slots hshort (by rw [HSE.out]; exact hs0), HSE.out])
      clear hs0
      go_enter Tryd.func36, Tryd.ntmps36
      go_wp2_with fail
      refine (HI.out _).mono ?_
      rintro e w' ⟨rfl, rfl⟩
      go_wp2_with fail
      rw [HW.out]
      clear HW
      refine (CS.out).mono ?_
      rintro e w1 ⟨rfl, hb1⟩
      have HB1 := hide (HBW.out.trans (hb1.mono HBW.out.size))
      clear hb1 y1 y2 CS
      go_wp2_with fail
      go_ret
      exact ⟨ret_int HR.out.symm, HB1.out⟩

theorem pgE_many {F : Pg} (h : 80 < F.length) : pgE F = 3 := by unfold pgE; rw [if_pos h]
theorem pgE_entry {F : Pg} {f : Fn} (h : F.length ≤ 80) (hf : F[0]? = some f) (hp : f.params ≠ 0) : pgE F = 7 := by
  unfold pgE
  rw [if_neg (by omega)]
  cases F with
  | nil => simp at hf
  | cons g r => simp at hf; subst hf; simp only; rw [if_pos hp]
theorem pgE_rest {F : Pg} {f : Fn} (h : F.length ≤ 80) (hf : F[0]? = some f) (hp : f.params = 0) : pgE F = firstE (F.map (fnE F.length)) := by
  unfold pgE
  rw [if_neg (by omega)]
  cases F with
  | nil => simp at hf
  | cons g r => simp at hf; subst hf; simp only; rw [if_neg (by simpa using hp)]

set_option maxRecDepth 100000 in
set_option maxHeartbeats 4000000 in
theorem check_any (A : Option Addr) (n c : Nat) (hs : List Hd) (F : Pg) (lo B : Nat) (w : World) (H : Hid (PgAt w lo B A n c hs F)) (hB : B ≤ w.heap.size) (hT : Hid (Shapes w)) :
    Calls Tryd.prog 29 #[gv A n c] w fun e w' => e = .returned (.int .i64 (pgE F)) ∧ Below w.heap.size w w' := by
  have hn := cap_le H.out.cap
  have HL := hide H.out.len
  by_cases hmany : 80 < n
  · have HR := hide (show pgE F = 3 from pgE_many (by rw [HL.out]; exact hmany))
    have hz : (80 : Int) < (n : Int) := by omega
    go_enter Tryd.func29, Tryd.ntmps29
    go_wp2_with fail
    go_ret
    exact ⟨ret_int HR.out.symm, below1 _ _⟩
  · by_cases hzero : n = 0
    · subst hzero
      have HR := hide (show pgE F = 4 by rw [List.eq_nil_of_length_eq_zero HL.out]; rfl)
      go_enter Tryd.func29, Tryd.ntmps29
      go_wp2_with fail
      go_ret
      exact ⟨ret_int HR.out.symm, below1 _ _⟩
    · have hpos : 0 < n := by omega
      obtain ⟨b, off, P, A1, n1, c1, A2, n2, c2, f0, rfl, hbB, hf0, _, h, p0, p1, p2⟩ := fn_at H.out hpos
      have hP : P = f0.params := h.p
      have hbw : b < w.heap.size := by omega
      have hle : F.length ≤ 80 := by have := HL.out; omega
      have hz : ¬ (80 : Int) < (n : Int) := by omega
      have hz0 : ((n : Int) == 0) = false := by simp; omega
      rw [Nat.zero_mul, Nat.add_zero] at p0
      by_cases hp : P = 0
      · subst hp
        have HR := hide (pgE_rest hle hf0 hP.symm)
        clear h hf0 p1 p2 hP hzero
        have HB0 := hide (below1 w (.cells #[.slice (some ⟨b, off, none⟩) n c] 26))
        have R0 := hide (Row.new w 26 [.slice (some ⟨b, off, none⟩) n c])
        go_enter Tryd.func29, Tryd.ntmps29
        go_wp2_with fail
        go_loopw [25] (fun s wr => ∃ k : Nat, k ≤ n ∧ s = .int .i64 k ∧ Hid (∀ j (hj : j < F.length), j < k → fnE n F[j] = 0) ∧ Hid (Below (w.alloc (.cells #[.slice (some ⟨b, off, none⟩) n c] 26)).heap.size (w.alloc (.cells #[.slice (some ⟨b, off, none⟩) n c] 26)) wr)) (fun s _ => n - (intOf s).toNat)
        case atStart => exact ⟨0, by omega, rfl, hide (fun j hj h => by omega), hide (Below.refl _ _)⟩
        case round =>
          obtain ⟨k, hk, rfl, hno, hbr⟩ := hrel
          have v0 := (R0.out.call hbr.out).cell (k := 0) rfl
          have HBR := hide (HB0.out.trans (hbr.out.mono HB0.out.size))
          by_cases hlt : k < n
          · have hkl : k < F.length := by have := HL.out; omega
            have hx := List.getElem?_eq_getElem hkl
            have ci := chkfn_any (some ⟨b, off, none⟩) n c hs F lo B k F[k] wr (hide (H.out.below (HBR.out.mono hB))) (Nat.le_trans hB HBR.out.size) (hide (hT.out.below HBR.out)) hlt (hide hx)
            have HIT := hide (fun h0 : fnE n F[k] ≠ 0 => show pgE F = fnE n F[k] by
              rw [HR.out, HL.out]
              exact firstE_hit (k := k) (by rw [List.getElem?_map, List.getElem?_eq_getElem hkl]; rfl) h0 fun j hj => by
                have hl : j < F.length := by omega
                rw [List.getElem?_map, List.getElem?_eq_getElem hl]; simp [hno.out j hl hj])
            obtain ⟨ie, hie⟩ : ∃ ie, fnE n F[k] = ie := ⟨_, rfl⟩
            rw [hie] at ci HIT
            have HIE := hide hie
            have CI := hide ci
            clear ci hie hx
            by_cases h0 : ie = 0
            · subst h0
              go_wp2_with fail
              refine (CI.out).mono ?_
              rintro e w2 ⟨rfl, hb2⟩
              have HB2 := hide (below_call hbr.out hb2)
              clear hb2 v0
              go_wp2_with fail
              go_roundw
              case rel =>
                refine ⟨k + 1, by omega, by go_num, hide fun j hj hjk => ?_, HB2⟩
                by_cases e : j = k
                · subst e; exact HIE.out
                · exact hno.out j hj (by omega)
              case measure => simp [intOf]; omega
            · have hne : (ie != 0) = true := by rw [bne_iff_ne]; exact h0
              have HR' := hide (HIT.out h0)
              clear HIT h0
              go_wp2_with fail
              refine (CI.out).mono ?_
              rintro e w2 ⟨rfl, hb2⟩
              have HB2 := hide (below_call HBR.out hb2)
              clear hb2 v0
              go_wp2_with fail
              go_ret
              exact ⟨ret_int HR'.out.symm, HB2.out⟩
          · obtain rfl : k = n := by omega
            have HE := hide (show pgE F = 0 by
              rw [HR.out, HL.out, firstE_zero]
              intro e he
              obtain ⟨x, hx, rfl⟩ := List.mem_map.1 he
              obtain ⟨j, hj, rfl⟩ := List.mem_iff_getElem.1 hx
              exact hno.out j hj (by have := HL.out; omega))
            go_wp2_with fail
            go_ret
            exact ⟨ret_int HE.out.symm, HBR.out⟩
      · have hne : (P != 0) = true := by rw [bne_iff_ne]; exact hp
        have HR := hide (pgE_entry hle hf0 (by rw [← hP]; exact hp))
        clear h hf0 p1 p2 hP hp hzero
        go_enter Tryd.func29, Tryd.ntmps29
        go_wp2_with fail
        go_ret
        exact ⟨ret_int HR.out.symm, below1 _ _⟩
end Go.Proofs.YtipjeihfhnilcaaDoor
end
