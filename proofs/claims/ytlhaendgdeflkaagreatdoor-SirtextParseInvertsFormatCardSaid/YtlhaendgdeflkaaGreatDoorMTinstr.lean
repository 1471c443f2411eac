import Derived.Test.YtlhaendgdeflkaaGreatDoorMGv
import Derived.Test.YtlhaendgdeflkaaGreatDoorMTrinstr
import Derived.Test.YtlhaendgdeflkaaGreatDoorMGd
import Derived.Lib.OthersKept
import Derived.Shelf.Strings.FieldsFuncAny
set_option linter.unusedVariables false
set_option linter.unusedSimpArgs false
section
/-
  The contract of the program's Instr (chapter 7): the text of any instruction. Conditions: the tables of the names and of the powers of ten lie as they are laid.
-/
namespace Go.Proofs.YtlhaendgdeflkaaGreatDoor
open Go.RowKit

/-- The table of the names and letters of the operations. -/
def Synt (w : World) : Prop := ∀ k : Nat, k < 25 → w.cell? ⟨0, k * 2, none⟩ = some (.string ⟨(nameT (k : Int)).toArray⟩) ∧ w.cell? ⟨0, k * 2 + 1, none⟩ = some (.string ⟨(lettT (k : Int)).toArray⟩)
theorem cell_lt {w : World} {g k : Nat} {v : Value} (h : w.cell? ⟨g, k, none⟩ = some v) : g < w.heap.size := by
  rcases Nat.lt_or_ge g w.heap.size with h1 | h1
  · exact h1
  · simp [World.cell?, Array.getElem?_eq_none h1] at h
theorem Synt.lt {w : World} (h : Synt w) : 0 < w.heap.size := cell_lt (h 0 (by omega)).1
theorem Synt.below {w w' : World} (h : Synt w) (hb : Below w.heap.size w w') : Synt w' := fun k hk => by
  obtain ⟨h1, h2⟩ := h k hk
  exact ⟨by rw [hb.cell (p := ⟨_, _, none⟩) (cell_lt h1)]; exact h1, by rw [hb.cell (p := ⟨_, _, none⟩) (cell_lt h2)]; exact h2⟩

theorem three_boxes (w : World) (l1 l2 l3 : List Value) (t1 t2 t3 : TypeId) : ∃ W, ((w.alloc (.cells l1.toArray t1)).alloc (.cells l2.toArray t2)).alloc (.cells l3.toArray t3) = W ∧ Below w.heap.size w W ∧ w.heap.size + 1 + 1 + 1 = W.heap.size ∧
    Row W w.heap.size t1 l1 ∧ Row W (w.heap.size + 1) t2 l2 ∧ Row W (w.heap.size + 1 + 1) t3 l3 := by
  refine ⟨_, rfl, ?_, by simp, ((Row.new w t1 l1).alloc _).alloc _, ?_, ?_⟩
  · exact (((Below.refl _ w).alloc (Nat.le_refl _) _).alloc (by simp) _).alloc (by simp; omega) _
  · have := (Row.new (w.alloc (.cells l1.toArray t1)) t2 l2).alloc (.cells l3.toArray t3)
    simpa using this
  · have := Row.new ((w.alloc (.cells l1.toArray t1)).alloc (.cells l2.toArray t2)) t3 l3
    simpa using this
theorem Row.iterAt {w : World} {g t k pos : Nat} {cs : List Value} {s : ByteArray} (h : Row w g t cs) (hk : w.heap[k]? = some (.stringIter s pos)) (pos' : Nat) : Row (w.iterAt k s pos') g t cs := by
  refine (Lib.iterAt_other w k g s pos' fun e => ?_).trans h
  subst e
  have := hk.symm.trans h
  cases this

/-- strings.Join at words of the call's own. -/
theorem join_own (l : List (List UInt8)) (sep : List UInt8) (v : Value) (B : Nat) (w : World) (h : w.ownsRow B 9 1 v l.length (wcells l)) (hl : 0 < l.length) (hN : l.length ≤ 1000000) (hj : (Lib.join l sep).length ≤ 140737488355328) :
    Calls Tryz.prog 34 #[v, .string ⟨sep.toArray⟩] w fun e w' => e = .returned (.string ⟨(Lib.join l sep).toArray⟩) ∧ Below w.heap.size w w' := by
  obtain ⟨g, c, rfl, hg, hlt, hc, _⟩ := own_block h hl
  have hm : (l.map fun x => (⟨x.toArray⟩ : ByteArray)).map (·.data.toList) = l := by
    rw [List.map_map]
    conv => rhs; rw [← List.map_id l]
    rfl
  have hcells := h.cells (g := g) rfl
  have := Tryz.strings_Join g 0 c (l.map fun x => ⟨x.toArray⟩) ⟨sep.toArray⟩ w (fun j x hx => by
    have h2 := hcells j (.string x) (by
      rw [List.getElem?_map] at hx
      unfold wcells
      rw [List.getElem?_map]
      cases hl : l[j]? with
      | none => rw [hl] at hx; cases hx
      | some y => rw [hl] at hx; injection hx with hx; subst hx; rfl)
    rw [Lib.add_plain] at h2
    exact h2) hlt (by simp; omega) (by simpa using hc) (by rw [hm]; exact hj)
  rw [hm, List.length_map] at this
  exact this

theorem rune_str (c : UInt8) (h : c.toNat < 128) (ci : Int) (e : ci = (c.toNat : Int)) (W : World) : (convert 21 9 (.int .i32 ci)).run Tryz.prog W = .ok (.string ⟨#[c]⟩) W := by
  have u1 := Tryz.underlying21
  have u2 := Tryz.underlying9
  subst e
  simp only [convert, run_underlying u1, run_underlying u2]
  have hv : Utf8.valid (c.toNat : Int) = true := by
    unfold Utf8.valid
    have : (c.toNat : Int) < 55296 := by omega
    simp [this]
  have h2 : Utf8.encode (c.toNat : Int) = ⟨#[c]⟩ := by
    unfold Utf8.encode
    simp [hv, h]
  simp [Conv.intToString, h2]
/-- What an append to the words keeps. -/
theorem kept_round {w3 w4 : World} {x : Value} {s3 : Value} {base n : Nat} {xs : List Value} (own : w3.ownsRow base 9 1 s3 n xs) (hg : (w3.alloc (.cells #[x] 9)).grownBy w4 s3.ownBlock) :
    (∀ (k : Nat) (s : ByteArray) (p : Nat), w3.heap[k]? = some (.stringIter s p) → w4.heap[k]? = some (.stringIter s p)) ∧ (∀ (g t : Nat) (cs : List Value), t ≠ 9 → Row w3 g t cs → Row w4 g t cs) ∧ (∀ (B : Nat), Below B w3 w3 → B ≤ base → B ≤ w3.heap.size → Below B w3 w4) := by
  have hlt : ∀ (k : Nat) (o : Obj), w3.heap[k]? = some o → k < w3.heap.size := fun k o h => by
    rcases Nat.lt_or_ge k w3.heap.size with h1 | h1
    · exact h1
    · rw [Array.getElem?_eq_none h1] at h; cases h
  refine ⟨fun k s p h => ?_, fun g t cs ht h => ?_, fun B _ hB hs => ?_⟩
  · have h1 := hlt k _ h
    rw [hg.block k (by simp; omega) (own_ne_iter own h), Below.heap_alloc w3 _ k h1]
    exact h
  · exact (h.alloc _).grown hg (own_ne_row own h ht)
  · exact below_append ((Below.refl B w3).alloc hs _) (own.alloc (.cells #[x] 9)) hB hg (by simp; omega)

theorem opd_len (k n : Int) (h0 : -9223372036854775808 ≤ n) (h1 : n ≤ 9223372036854775807) : (Lib.joinTail [32] (opdT k n)).length ≤ 23 := by
  rw [tail_opd]
  split
  · simp
  · have := Lib.itoa_length_le n h0 h1
    have hm : (markT k).length = 1 := by unfold markT; (repeat' split) <;> rfl
    simp only [List.length_cons, List.length_append]
    omega
theorem insT_len {x : Ins} (hx : InsB x) : (insT x).length ≤ 140737488355328 := by
  by_cases h : withB x.op 25 = true
  · rw [insT_tail h, tail_app, tail_app, tail_app]
    have h1 := name_len x.op
    have h2 := opd_len (shpOf x.op).1 x.a hx.a0 hx.a1
    have h3 := opd_len (shpOf x.op).2.1 x.b hx.b0 hx.b1
    have h4 := opd_len (shpOf x.op).2.2.1 x.c hx.c0 hx.c1
    have h5 : (Lib.joinTail [32] (immT (shpOf x.op).2.2.2 x.imm)).length ≤ 21 := by
      rw [tail_imm]
      split
      · have := Lib.nDigits_le20 x.imm.toNat (by have := hx.m1; omega)
        rw [List.length_cons, Lib.decDigits_length]; omega
      · simp
    simp only [List.length_append]
    omega
  · unfold insT
    rw [if_neg h]
    simp
theorem abc_cell (x : Ins) (i : Nat) (h : i < 3) : ([.int .i64 x.a, .int .i64 x.b, .int .i64 x.c] : List Value)[i]? = some (.int .i64 (abcT x i)) := by
  match i, h with
  | 0, _ => rfl
  | 1, _ => rfl
  | 2, _ => rfl

set_option maxHeartbeats 8000000 in
set_option maxRecDepth 100000 in
theorem dinstr_in (x : Ins) (hx : InsB x) (w : World) (hP : Lib.TabIs Tryz.prog w "internal/strconv.uint64pow10" .u64 Lib.pow10Tab) (hS : Hid (Synt w)) (k : Nat) (hk : k < 25) (ek : x.op = (k : Int)) :
    Calls Tryz.prog 15 #[iv x.op x.a x.b x.c x.imm] w fun e w' => e = .returned (.string ⟨(insT x).toArray⟩) ∧ Below w.heap.size w w' := by
  have ho : withB x.op 25 = true := withB_true.2 (by omega)
  obtain ⟨W, hW, hbW, hsz, R0, R1, R2⟩ := three_boxes w (icell x) [.string ⟨(nameT x.op).toArray⟩] [.int .i64 x.a, .int .i64 x.b, .int .i64 x.c] 44 9 77
  obtain ⟨s0, s1⟩ := hS.out k hk
  have hSW := hS.out.below hbW
  obtain ⟨_, s1W⟩ := hSW k hk
  have hgl := hS.out.lt
  have hgl1 : 0 < w.heap.size + 1 := by omega
  have hgl2 : 0 < w.heap.size + 1 + 1 := by omega
  have hpo : Lib.TabIs Tryz.prog W "internal/strconv.uint64pow10" .u64 Lib.pow10Tab := (Lib.tabBelow_of_tabIs hP).on hbW |>.here
  have hown0 : W.ownsRow (w.heap.size + 1) 9 1 (.slice (some ⟨w.heap.size + 1, 0, none⟩) 1 1) (0 + 1) (wcells (nameT x.op :: lwordsT x 0)) := own_row (xs := [.string ⟨(nameT x.op).toArray⟩]) R1 (Nat.le_refl _) (by unfold maxLen; simp)
  have hit0 := World.iter_heap W ⟨(lettT x.op).toArray⟩ 0
  have hbI : Below w.heap.size w (W.iter ⟨(lettT x.op).toArray⟩ 0) := hbW.alloc hbW.size _
  have hownI : (W.iter ⟨(lettT x.op).toArray⟩ 0).ownsRow (w.heap.size + 1) 9 1 (.slice (some ⟨w.heap.size + 1, 0, none⟩) 1 1) (0 + 1) (wcells (nameT x.op :: lwordsT x 0)) := hown0.alloc _
  have R0I : Row (W.iter ⟨(lettT x.op).toArray⟩ 0) w.heap.size 44 (icell x) := R0.alloc _
  have R2I : Row (W.iter ⟨(lettT x.op).toArray⟩ 0) (w.heap.size + 1 + 1) 77 [.int .i64 x.a, .int .i64 x.b, .int .i64 x.c] := R2.alloc _
  have hasc := lett_asc x.op
  have hl3 := lett_len x.op
  have hwl := words_lett ho
  have hti : insT x = Lib.join (wordsT x) [32] := by unfold insT; rw [if_pos ho]
  obtain ⟨i0, hi, hz0, hz1, hz2⟩ := info_parts info_str
  have hm0 := hx.m0
  have hm1 := hx.m1
  have habc : ∀ j, -9223372036854775808 ≤ abcT x j ∧ abcT x j ≤ 9223372036854775807 := fun j => by
    unfold abcT
    split
    · exact ⟨hx.a0, hx.a1⟩
    · split
      · exact ⟨hx.b0, hx.b1⟩
      · exact ⟨hx.c0, hx.c1⟩
  rw [← ek] at s0 s1 s1W
  have ek' : x.op = (k : Int) := ek
  obtain ⟨L, eL⟩ : ∃ L, L = lettT x.op := ⟨_, rfl⟩
  rw [← eL] at s1 s1W hit0 hbI hownI R0I R2I hasc hl3 hwl
  obtain ⟨nm, en⟩ : ∃ nm, nm = nameT x.op := ⟨_, rfl⟩
  rw [← en] at s0 hW hown0 hownI R1
  have hi' := hide hi
  have EL := hide eL; have EN := hide en; have HWL := hide hwl; have HTI := hide hti; have HX := hide hx; have HO := hide ho; have HASC := hide hasc; have HL3 := hide hl3; have HABC := hide habc
  have HT := hide (Lib.tabBelow_of_tabIs hP)
  have HM0 := hide hm0; have HM1 := hide hm1; have HPO := hide hpo; have HP0 := hide hP; have HW := hide hW; have HBW := hide hbW; have HBI := hide hbI; have HOI := hide hownI; have HR0 := hide R0I; have HR2 := hide R2I; have HSZ := hide hsz
  have hk25 : (k : Int) < 25 := by omega
  have c4 := R0.cell (k := 4) rfl
  have c0 := R0.cell (k := 0) rfl
  clear eL en hwl hti hx ho hasc hl3 habc hm0 hm1 hpo hP hW hbW hbI hownI R0I R2I hsz hSW hown0 R0 R1 R2 ek
  obtain ⟨zo, za, zb, zc, zm⟩ := x
  dsimp only at *
  subst ek'
  go_enter Tryz.func15, Tryz.ntmps15
  go_upto_region 5 with (fail)
  rw [show (((w.alloc (.cells #[.int .i64 (k : Int), .int .i64 za, .int .i64 zb, .int .i64 zc, .int .u64 zm] 44)).alloc (.cells #[.string ⟨nm.toArray⟩] 9)).alloc (.cells #[.int .i64 za, .int .i64 zb, .int .i64 zc] 77)) = W from HW.out]
  clear s0 s1 HP0
  go_wp2
  go_loopw [3] (fun s3 wr => ∃ pos : Nat, Hid (pos ≤ L.length) ∧ Hid (wr.ownsRow (w.heap.size + 1) 9 1 s3 (pos + 1) (wcells (nm :: lwordsT ⟨k, za, zb, zc, zm⟩ pos))) ∧ wr.heap[W.heap.size]? = some (.stringIter ⟨L.toArray⟩ pos) ∧ Hid (Row wr w.heap.size 44 (icell ⟨k, za, zb, zc, zm⟩)) ∧
      Hid (Row wr (w.heap.size + 1 + 1) 77 [.int .i64 za, .int .i64 zb, .int .i64 zc]) ∧ Hid (Below w.heap.size w wr)) (fun _ wr => L.length - wr.iterPos W.heap.size)
  case atStart => exact ⟨0, hide (Nat.zero_le _), HOI, hit0, HR0, HR2, HBI⟩
  case round =>
    clear hit0
    obtain ⟨pos, hp, hown, hit, hR0, hR2, hB⟩ := hrel
    have hLs : (⟨L.toArray⟩ : ByteArray).size = L.length := by simp [ByteArray.size]
    by_cases hlt : pos < L.length
    · have hlt' : pos < (⟨L.toArray⟩ : ByteArray).size := by rw [hLs]; exact hlt
      obtain ⟨c, ec⟩ : ∃ c, L[pos]? = some c := ⟨L[pos], List.getElem?_eq_getElem hlt⟩
      have hc128 := HASC.out pos c ec
      have hcp : (⟨L.toArray⟩ : ByteArray)[pos]'hlt' = c := by
        have := (List.getElem?_eq_some_iff.1 ec).2
        rw [← this]; rfl
      obtain ⟨ci, eci⟩ : ∃ ci : Int, ci = (c.toNat : Int) := ⟨_, rfl⟩
      obtain ⟨w2, hnx, hit2, hR02, hR22, hown2, hB2, hs2⟩ : ∃ w2, (∀ ty, (Instr.next (.pointer (some ⟨W.heap.size, 0, none⟩)) true ty).run Tryz.prog wr = .ok (.tuple #[.bool true, .int .i64 pos, .int .i32 ci]) w2) ∧ Hid (w2.heap[W.heap.size]? = some (.stringIter ⟨L.toArray⟩ (pos + 1))) ∧
          Row w2 w.heap.size 44 (icell ⟨k, za, zb, zc, zm⟩) ∧ Row w2 (w.heap.size + 1 + 1) 77 [.int .i64 za, .int .i64 zb, .int .i64 zc] ∧ Hid (w2.ownsRow (w.heap.size + 1) 9 1 u3 (pos + 1) (wcells (nm :: lwordsT ⟨k, za, zb, zc, zm⟩ pos))) ∧ Hid (Below w.heap.size w w2) ∧ Hid (w2.heap.size = wr.heap.size) := by
        refine ⟨wr.iterAt W.heap.size ⟨L.toArray⟩ (pos + 1), fun ty => ?_, Lib.iterAt_heap _ _ _ _ _ hit, hR0.out.iterAt hit _, hR2.out.iterAt hit _, own_iterAt hown.out hit _, Lib.below_iterAt hB.out (by have := HSZ.out; omega) _ _, Lib.iterAt_size _ _ _ _⟩
        have := Lib.run_next_ascii_at (P := Tryz.prog) wr W.heap.size ⟨L.toArray⟩ pos ty hit hlt' (by rw [hcp]; exact hc128)
        rw [hcp, ← eci] at this
        exact this
      have hit0r := hit
      have HIT := hide hit0r
      clear hit0r hit hcp hLs hlt'
      have hP2 : Lib.TabIs Tryz.prog w2 "internal/strconv.uint64pow10" .u64 Lib.pow10Tab := (HT.out.on hB2.out).here
      have hi4 := hR02.cell (k := 4) rfl
      have hw3 : Hid (wordT ⟨k, za, zb, zc, zm⟩ pos c = wordT ⟨k, za, zb, zc, zm⟩ pos ((lettT (k : Int)).getD pos 0)) := hide (by rw [← EL.out, List.getD_eq_getElem?_getD, ec]; rfl)
      have hwl22 := word_len (x := ⟨k, za, zb, zc, zm⟩) pos c HM0.out HM1.out HABC.out
      obtain ⟨t, et⟩ : ∃ t, t = wordT ⟨k, za, zb, zc, zm⟩ pos c := ⟨_, rfl⟩
      rw [← et] at hw3 hwl22
      have ECI := hide eci
      have hP2' := hide hP2
      have hcells : Hid (wcells (nm :: lwordsT ⟨k, za, zb, zc, zm⟩ pos) ++ [.string ⟨t.toArray⟩] = wcells (nm :: lwordsT ⟨k, za, zb, zc, zm⟩ (pos + 1))) := by
        refine hide ?_
        rw [lwords_succ]
        dsimp only
        rw [← hw3.out]
        simp [wcells]
      have hR02' := hide hR02
      have hR22' := hide hR22
      have hcv := rune_str c hc128 ci eci
      have hpos3 : pos < 3 := by have := HL3.out; omega
      have hpi : (pos : Int) < 3 := by omega
      have hab := hR22.cell (abc_cell ⟨k, za, zb, zc, zm⟩ pos hpos3)
      obtain ⟨ab, eab⟩ : ∃ ab, ab = abcT ⟨k, za, zb, zc, zm⟩ pos := ⟨_, rfl⟩
      rw [← eab] at hab
      have EAB := hide eab
      have ET := hide et
      have HWL22 := hide hwl22
      clear eci hP2 hR02 hR22 et eab hwl22
      by_cases h105 : ci = 105
      · have hc : c = 105 := by
          have := ECI.out
          rw [h105] at this
          have h2 : c.toNat = (105 : UInt8).toNat := by have h3 : (105 : UInt8).toNat = 105 := rfl; omega
          exact UInt8.toNat_inj.1 h2
        have htm : t = Lib.decDigits zm.toNat := by rw [ET.out, wordT, if_pos hc]
        have hf := fmtu_any zm.toNat (by have := HM1.out; have := HM0.out; omega) w2 hP2'.out
        rw [← htm, Int.toNat_of_nonneg HM0.out] at hf
        have HF := hide hf
        clear hf htm hc hcv hab
        subst h105
        go_wp2_with fail
        refine HF.out.mono ?_
        rintro e w3 ⟨rfl, hb3⟩
        have hB3 := below_step hB2.out hb3
        have hown3 := own_below hown2.out hb3
        have hit3 := (hb3.block W.heap.size (by have := hs2.out; have := (Array.getElem?_eq_some_iff.1 hit2.out).1; omega)).trans hit2.out
        have hR03 := hR02'.out.call hb3
        have hR23 := hR22'.out.call hb3
        have hsz3 := hb3.size
        go_wp2_with (at_builtin; refine wpList_append_own _ rfl (.tmp 40) (.tmp 44) 34 rfl (w.heap.size + 1) 9 i0 (.string ⟨#[]⟩) 1 16 Tryz.underlying34 hi'.out hz0 hz1 hz2 rfl (by decide) _ (pos + 1) (wcells (nm :: lwordsT ⟨k, za, zb, zc, zm⟩ pos)) rfl (hown3.alloc _) ⟨w3.heap.size, 0, none⟩ 1 1 [.string ⟨t.toArray⟩] rfl rfl (one_new _ _ _) (one_string _) (by unfold maxLen; omega) (by omega) (by have := hs2.out; have := HSZ.out; have := hB2.out.size; simp; omega) ?_; intro v4 w4 hown4 hg4 _)
        go_wp2
        go_roundw
        case rel =>
          obtain ⟨kI, kR, kB⟩ := kept_round hown3 hg4
          refine ⟨pos + 1, hide hlt, ?_, kI _ _ _ hit3, hide (kR _ _ _ (by decide) hR03), hide (kR _ _ _ (by decide) hR23), hide (hB3.trans (kB _ (Below.refl _ _) (Nat.le_succ _) (by have := hB2.out.size; omega)))⟩
          refine hide ?_
          rw [← hcells.out]
          exact hown4
        case measure =>
          obtain ⟨kI, _, _⟩ := kept_round hown3 hg4
          simp only [World.iterPos, kI _ _ _ hit3, HIT.out]
          omega
      · have hc : c ≠ 105 := by
          intro h; subst h
          exact h105 ECI.out
        have htm : t = c :: Lib.itoa ab := by rw [ET.out, wordT, if_neg hc, EAB.out]
        have habb := HABC.out pos
        rw [← EAB.out] at habb
        have hf := itoa_any ab habb.1 habb.2 w2 hP2'.out
        have HF := hide hf
        have hcat : ((⟨#[c]⟩ : ByteArray) ++ ⟨(Lib.itoa ab).toArray⟩) = ⟨t.toArray⟩ := by rw [htm]; exact cat_eq [c] _
        have hcn : ¬ 9223372036854775807 < 1 + (Lib.itoa ab).length := by have := Lib.itoa_length_le ab habb.1 habb.2; omega
        clear hf htm hc habb
        go_wp2_with fail
        refine HF.out.mono ?_
        rintro e w3 ⟨rfl, hb3⟩
        have hB3 := below_step hB2.out hb3
        have hown3 := own_below hown2.out hb3
        have hit3 := (hb3.block W.heap.size (by have := hs2.out; have := (Array.getElem?_eq_some_iff.1 hit2.out).1; omega)).trans hit2.out
        have hR03 := hR02'.out.call hb3
        have hR23 := hR22'.out.call hb3
        have hsz3 := hb3.size
        go_wp2_with (at_builtin; refine wpList_append_own _ rfl (.tmp 46) (.tmp 54) 34 rfl (w.heap.size + 1) 9 i0 (.string ⟨#[]⟩) 1 16 Tryz.underlying34 hi'.out hz0 hz1 hz2 rfl (by decide) _ (pos + 1) (wcells (nm :: lwordsT ⟨k, za, zb, zc, zm⟩ pos)) rfl (hown3.alloc _) ⟨w3.heap.size, 0, none⟩ 1 1 [.string ⟨t.toArray⟩] rfl rfl (one_new _ _ _) (one_string _) (by unfold maxLen; omega) (by omega) (by have := hs2.out; have := HSZ.out; have := hB2.out.size; simp; omega) ?_; intro v4 w4 hown4 hg4 _)
        go_wp2
        go_roundw
        case rel =>
          obtain ⟨kI, kR, kB⟩ := kept_round hown3 hg4
          refine ⟨pos + 1, hide hlt, ?_, kI _ _ _ hit3, hide (kR _ _ _ (by decide) hR03), hide (kR _ _ _ (by decide) hR23), hide (hB3.trans (kB _ (Below.refl _ _) (Nat.le_succ _) (by have := hB2.out.size; omega)))⟩
          refine hide ?_
          rw [← hcells.out]
          exact hown4
        case measure =>
          obtain ⟨kI, _, _⟩ := kept_round hown3 hg4
          simp only [World.iterPos, kI _ _ _ hit3, HIT.out]
          omega
    · have hnx : ∀ ty, (Instr.next (.pointer (some ⟨W.heap.size, 0, none⟩)) true ty).run Tryz.prog wr = _ := fun ty => Lib.run_next_end_at wr W.heap.size ⟨L.toArray⟩ pos ty hit (by rw [hLs]; exact hlt)
      have hpL : pos = L.length := by have := hp.out; omega
      have hln : (nm :: lwordsT ⟨k, za, zb, zc, zm⟩ pos).length = pos + 1 := by rw [List.length_cons, lwords_len]
      have hwd : wordsT ⟨(k : Int), za, zb, zc, zm⟩ = nm :: lwordsT ⟨(k : Int), za, zb, zc, zm⟩ pos := by
        have := HWL.out
        rw [← EN.out, ← hpL] at this
        exact this
      have hjl : (Lib.join (nm :: lwordsT ⟨(k : Int), za, zb, zc, zm⟩ pos) [32]).length ≤ 140737488355328 := by
        rw [← hwd, ← HTI.out]
        exact insT_len HX.out
      have hj := join_own (nm :: lwordsT ⟨(k : Int), za, zb, zc, zm⟩ pos) [32] u3 (w.heap.size + 1) wr (by rw [hln]; exact hown.out) (by simp) (by have := HL3.out; rw [hln]; omega) hjl
      rw [← hwd, ← HTI.out] at hj
      have HJ := hide hj
      clear hj hpL hln hwd hjl
      go_wp2_with fail
      refine HJ.out.mono ?_
      rintro e w5 ⟨rfl, hb5⟩
      go_wp2
      go_ret
      exact ⟨rfl, below_step hB.out hb5⟩
end Go.Proofs.YtlhaendgdeflkaaGreatDoor
end
