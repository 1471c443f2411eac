import Derived.Test.YtgcjckbndkddmaaDoorMGm
import Derived.Test.YtgcjckbndkddmaaDoorMGb
import Derived.Test.YtgcjckbndkddmaaDoorMGg
import Derived.Test.YtgcjckbndkddmaaDoorMGj
import Derived.Test.YtgcjckbndkddmaaDoorMGq
import Derived.Lib.SmallJoins
import Derived.Lib.SliceRun
import Derived.OwnWalk
set_option linter.unusedVariables false
set_option linter.unusedSimpArgs false
section
/-
  The developers' checksum and open; bytes.Equal and bytes.HasPrefix at slices of bytes. Conditions: those of the types.
-/
namespace Go.Proofs.YtgcjckbndkddmaaDoor
open Go.RowKit

/-- The four bytes of a checksum in a new block. -/
def CkPost (zs : List Int) (w : World) (e : Ending) (w' : World) : Prop :=
  ∃ g, e = .returned (.slice (some ⟨g, 0, none⟩) 4 4) ∧ w.heap.size ≤ g ∧ Row w' g 5 (cellsU8 (crcI (crcN zs))) ∧ Below w.heap.size w w'

set_option maxHeartbeats 800000 in
theorem dsum_any (A : Option Addr) (n c : Nat) (zs : List Int) (B : Nat) (w : World) (hn : Hid (zs.length = n)) (hm : n ≤ 4611686018427387904) (hs : Hid (Sees w B A (cellsU8 zs))) (hz : Hid (Byt zs)) :
    Calls Tryd.prog 32 #[.slice A n c] w (CkPost zs w) := by
  have cc := crc_any A n c zs B w hn hm hs.out hz
  have hlt := crcN_lt zs
  obtain ⟨C, hC⟩ : ∃ C, crcN zs = C := ⟨_, rfl⟩
  rw [show (4294967295 - crcAll 4294967295 zs : Nat) = C from hC] at cc
  rw [hC] at hlt
  have EC := hide (show cellsU8 (crcI (crcN zs)) = [.int .u8 ((C / 16777216 % 256 : Nat) : Int), .int .u8 ((C / 65536 % 256 : Nat) : Int), .int .u8 ((C / 256 % 256 : Nat) : Int), .int .u8 ((C % 256 : Nat) : Int)] by rw [hC]; rfl)
  have d0 : (C : Int) / 16777216 % 256 = ((C / 16777216 % 256 : Nat) : Int) := by omega
  have d1 : (C : Int) / 65536 % 256 = ((C / 65536 % 256 : Nat) : Int) := by omega
  have d2 : (C : Int) / 256 % 256 = ((C / 256 % 256 : Nat) : Int) := by omega
  have d3 : (C : Int) % 256 = ((C % 256 : Nat) : Int) := by omega
  have d0' : (C : Int) / 16777216 = ((C / 16777216 % 256 : Nat) : Int) := by omega
  obtain ⟨x0, hx0⟩ : ∃ x : Int, ((C / 16777216 % 256 : Nat) : Int) = x := ⟨_, rfl⟩
  obtain ⟨x1, hx1⟩ : ∃ x : Int, ((C / 65536 % 256 : Nat) : Int) = x := ⟨_, rfl⟩
  obtain ⟨x2, hx2⟩ : ∃ x : Int, ((C / 256 % 256 : Nat) : Int) = x := ⟨_, rfl⟩
  obtain ⟨x3, hx3⟩ : ∃ x : Int, ((C % 256 : Nat) : Int) = x := ⟨_, rfl⟩
  rw [hx0] at d0 d0' EC
  rw [hx1] at d1 EC
  rw [hx2] at d2 EC
  rw [hx3] at d3 EC
  clear hx0 hx1 hx2 hx3 hC
  go_enter Tryd.func32, Tryd.ntmps32
  go_wp2_with fail
  refine cc.mono ?_
  rintro e w' ⟨rfl, rfl⟩
  go_wp2
  go_ret
  refine ⟨w.heap.size, rfl, Nat.le_refl _, ?_, below1 w _⟩
  rw [EC.out, ← d1, ← d2, ← d3]
  exact Row.new w _ _

/-- The string of bytes. -/
theorem str_inj {xs ys : List Int} (hx : Byt xs) (hy : Byt ys) (h : strOfNums xs = strOfNums ys) : xs = ys := by
  have h1 := congrArg (fun s : ByteArray => s.data.toList.map UInt8.toNat) h
  simp only [strOfNums, List.map_map] at h1
  have back : ∀ {zs : List Int}, Byt zs → zs = (zs.map (UInt8.toNat ∘ fun n => UInt8.ofNat n.toNat)).map (fun k : Nat => (k : Int)) := fun {zs} hz => by
    rw [List.map_map]
    conv => lhs; rw [← List.map_id zs]
    refine List.map_congr_left fun z hz' => ?_
    have := hz z hz'
    simp only [Function.comp, id]
    rw [UInt8.toNat_ofNat']
    omega
  rw [back hx, back hy, h1]
theorem bytes_beq (X Y : ByteArray) : (X.toList == Y.toList) = decide (X = Y) := by
  rw [Bool.eq_iff_iff, beq_iff_eq, decide_eq_true_eq, ByteArray.toList_eq, ByteArray.toList_eq]
  constructor
  · intro h
    cases X; cases Y
    have h2 := Array.toList_inj.1 h
    simp only at h2
    rw [h2]
  · rintro rfl; rfl
theorem conv_str {w : World} {B b off n c : Nat} {zs : List Int} (hn : zs.length = n) (hs : Sees w B (some ⟨b, off, none⟩) (cellsU8 zs)) (hz : Byt zs) :
    (convert 22 9 (.slice (some ⟨b, off, none⟩) n c)).run Tryd.prog w = .ok (.string (strOfNums zs)) w := by
  refine run_convert_bytes_arg w 22 5 Tryd.underlying22 Tryd.underlying5 b off n c zs hn (fun i hi => ?_) 9 Tryd.underlying9
  obtain ⟨b', off', z, e, _, hcell, _, _, hzk⟩ := byte_at (zs := zs) (k := i) hs (by omega) hz
  injection e with e
  injection e with e1 e2
  subst e1 e2
  rw [hcell, List.getD_eq_getElem?_getD, hzk.out]
  rfl
set_option maxHeartbeats 800000 in
theorem beq_any (b off n c b' off' n' c' : Nat) (xs ys : List Int) (B B' : Nat) (w : World) (hn : Hid (xs.length = n)) (hn' : Hid (ys.length = n')) (hs : Hid (Sees w B (some ⟨b, off, none⟩) (cellsU8 xs))) (hs' : Hid (Sees w B' (some ⟨b', off', none⟩) (cellsU8 ys))) (hx : Hid (Byt xs)) (hy : Hid (Byt ys)) :
    Calls Tryd.prog 59 #[.slice (some ⟨b, off, none⟩) n c, .slice (some ⟨b', off', none⟩) n' c'] w fun e w' => e = .returned (.bool (decide (xs = ys))) ∧ w = w' := by
  have c1 := conv_str (c := c) hn.out hs.out hx.out
  have c2 := conv_str (c := c') hn'.out hs'.out hy.out
  have E := hide (show decide (xs = ys) = decide (strOfNums xs = strOfNums ys) from decide_eq_decide.2 ⟨fun h => by rw [h], fun h => str_inj hx.out hy.out h⟩)
  rw [E.out]
  clear E
  generalize strOfNums xs = X at c1 ⊢
  generalize strOfNums ys = Y at c2 ⊢
  go_enter Tryd.func59, Tryd.ntmps59
  go_wp2
  go_ret
  exact ⟨ret_bool (bytes_beq X Y), rfl⟩

/-- What open gives. -/
def openS (zs : List Int) : Rd Unit :=
  if 1048576 < zs.length then .no 3 else if zs.length < 9 then .no 1
  else if zs.take 4 = magic ∧ zs.drop (zs.length - 4) = crcI (crcN (zs.take (zs.length - 4))) then .ok () ((zs.take (zs.length - 4)).drop 4) else .no 2
theorem parse_open (zs : List Int) : parseR zs = (match (openS zs).to pgR with
    | .no e => (e, [])
    | .ok L _ => (0, L)) := by
  unfold parseR openS
  by_cases h1 : 1048576 < zs.length
  · rw [if_pos h1, if_pos h1]; rfl
  · rw [if_neg h1, if_neg h1]
    by_cases h2 : zs.length < 9
    · rw [if_pos h2, if_pos h2]; rfl
    · rw [if_neg h2, if_neg h2]
      by_cases h3 : zs.take 4 = magic ∧ zs.drop (zs.length - 4) = crcI (crcN (zs.take (zs.length - 4)))
      · rw [if_pos h3, if_pos h3]; rfl
      · rw [if_neg h3, if_neg h3]; rfl
def OpPost (zs : List Int) (w : World) (e : Ending) (w' : World) : Prop :=
  ∃ (A : Option Addr) (n c : Nat) (ds : List Int) (x : Int), e = .returned (.agg #[.slice A n c, .int .i64 x]) ∧ Rest w' w.heap.size A n c ds ∧ DSt ds x (openS zs) ∧ Below w.heap.size w w'
theorem op_no {zs : List Int} {x : Int} {w w' : World} (h : openS zs = .no x) (hx : 1 ≤ x ∧ x ≤ 4) (hb : Below w.heap.size w w') : OpPost zs w (.returned (.agg #[.slice none 0 0, .int .i64 x])) w' :=
  ⟨none, 0, 0, [], x, rfl, Rest.nil_ _ _, by rw [h]; exact ⟨rfl, hx⟩, hb⟩

set_option maxRecDepth 100000 in
set_option maxHeartbeats 800000 in
theorem dopen_far (A : Option Addr) (n c : Nat) (zs : List Int) (w : World) (hn : Hid (zs.length = n)) (h : 1048576 < n ∨ n < 9) (hm : n ≤ 9223372036854775807) :
    Calls Tryd.prog 37 #[.slice A n c] w (OpPost zs w) := by
  obtain ⟨W, hW⟩ : ∃ W, w.alloc (.cells #[.slice none 0 0, .int .i64 0] 69) = W := ⟨_, rfl⟩
  have HW := hide hW
  have R0 := hide (show Row W w.heap.size 69 [.slice none 0 0, .int .i64 0] by rw [← hW]; exact Row.new w _ _)
  have hbW := hide (show Below w.heap.size w W by rw [← hW]; exact below1 w _)
  have r0 := R0.out.cell (k := 0) rfl
  have r1 := R0.out.cell (k := 1) rfl
  have z0 := R0.out.free 0
  have z1 := R0.out.free 1
  have hsz : w.heap.size ≤ W.heap.size := hbW.out.size
  clear hW
  rcases h with h | h
  · have E := hide (show openS zs = .no 3 by unfold openS; rw [if_pos (by rw [hn.out]; exact h)])
    have hz : (1048576 : Int) < (n : Int) := by omega
    have hf := hide ((R0.out.set_ 0 (.slice none 0 0)).set_ 1 (.int .i64 3))
    have HB := hide (below_put (below_put hbW.out hsz (Nat.le_refl _) 0 (.slice none 0 0)) (by simpa [World.setCell] using hsz) (Nat.le_refl _) 1 (.int .i64 3))
    go_enter Tryd.func37, Tryd.ntmps37
    go_upto_region 1 with (fail)
    rw [HW.out]
    clear HW
    go_wp2
    have f0 := hf.out.cell (k := 0) rfl
    have f1 := hf.out.cell (k := 1) rfl
    exact bodyPost_ret (v := .agg #[.slice none 0 0, .int .i64 3]) (by simp [results, Tryd.results37, go_sem, f0, f1]) rfl (op_no E.out (by omega) HB.out)
  · have E := hide (show openS zs = .no 1 by unfold openS; rw [if_neg (by rw [hn.out]; omega), if_pos (by rw [hn.out]; exact h)])
    have hz : (n : Int) < 9 := by omega
    have hf := hide ((R0.out.set_ 0 (.slice none 0 0)).set_ 1 (.int .i64 1))
    have HB := hide (below_put (below_put hbW.out hsz (Nat.le_refl _) 0 (.slice none 0 0)) (by simpa [World.setCell] using hsz) (Nat.le_refl _) 1 (.int .i64 1))
    go_enter Tryd.func37, Tryd.ntmps37
    go_upto_region 1 with (fail)
    rw [HW.out]
    clear HW
    go_wp2
    have f0 := hf.out.cell (k := 0) rfl
    have f1 := hf.out.cell (k := 1) rfl
    exact bodyPost_ret (v := .agg #[.slice none 0 0, .int .i64 1]) (by simp [results, Tryd.results37, go_sem, f0, f1]) rfl (op_no E.out (by omega) HB.out)

theorem magic_byt' : Byt magic := by intro z hz; simp [magic] at hz; omega
set_option maxHeartbeats 800000 in
theorem hpre_any (b off n c b' off' c' : Nat) (xs : List Int) (B B' : Nat) (w : World) (hn : Hid (xs.length = n)) (h4 : 4 ≤ n) (hnc : n ≤ c) (hcm : c ≤ 9223372036854775807) (hs : Hid (Sees w B (some ⟨b, off, none⟩) (cellsU8 xs))) (hs' : Hid (Sees w B' (some ⟨b', off', none⟩) (cellsU8 magic))) (hx : Hid (Byt xs)) :
    Calls Tryd.prog 58 #[.slice (some ⟨b, off, none⟩) n c, .slice (some ⟨b', off', none⟩) 4 c'] w fun e w' => e = .returned (.bool (decide (xs.take 4 = magic))) ∧ w = w' := by
  have hsT := hs.out.take 4
  rw [take_cells] at hsT
  have cb := beq_any b off 4 c b' off' 4 c' (xs.take 4) magic B B' w (hide (by rw [List.length_take, hn.out]; omega)) (hide rfl) (hide hsT) hs' (hide (hx.out.take 4)) (hide magic_byt')
  have hz : (4 : Int) ≤ (n : Int) := by omega
  have hz2 : (4 : Int) ≤ (c : Int) := by omega
  obtain ⟨v, hv⟩ : ∃ v, decide (xs.take 4 = magic) = v := ⟨_, rfl⟩
  rw [hv] at cb ⊢
  clear hsT hv
  go_enter Tryd.func58, Tryd.ntmps58
  go_wp2_with fail
  refine cb.mono ?_
  rintro e w' ⟨rfl, rfl⟩
  clear cb
  go_wp2
  go_ret
  exact ⟨rfl, rfl⟩

set_option maxRecDepth 100000 in
set_option maxHeartbeats 2000000 in
theorem dopen_main (b off m c : Nat) (zs : List Int) (w : World) (hn : Hid (zs.length = m + 4)) (h9 : 5 ≤ m) (h20 : m ≤ 1048572) (hnc : m + 4 ≤ c) (hcm : c ≤ 9223372036854775807) (hs : Hid (Sees w w.heap.size (some ⟨b, off, none⟩) (cellsU8 zs))) (hz : Hid (Byt zs)) :
    Calls Tryd.prog 37 #[.slice (some ⟨b, off, none⟩) (m + 4) c] w (OpPost zs w) := by
  obtain ⟨W, hW⟩ : ∃ W, w.alloc (.cells #[.slice none 0 0, .int .i64 0] 69) = W := ⟨_, rfl⟩
  have HW := hide hW
  have R0 := hide (show Row W w.heap.size 69 [.slice none 0 0, .int .i64 0] by rw [← hW]; exact Row.new w _ _)
  have hbW := hide (show Below w.heap.size w W by rw [← hW]; exact below1 w _)
  have hsW := hide (show Sees W w.heap.size (some ⟨b, off, none⟩) (cellsU8 zs) by rw [← hW]; exact hs.out.alloc (Nat.le_refl _) _)
  have hsz : w.heap.size ≤ W.heap.size := hbW.out.size
  have hWR : w.heap.size < W.heap.size := R0.out.lt
  clear hW
  have hmz : (0 : Int) ≤ (m : Int) := by omega
  have hmc : (m : Int) ≤ (c : Int) := by omega
  have hcm' : ¬ c = m := by omega
  have hm20 : ¬ ((1048576 : Int) < (m : Int) + 4) := by omega
  have hd20 : decide ((1048576 : Int) < (m : Int) + 4) = false := decide_eq_false hm20
  have hm9 : ¬ ((m : Int) + 4 < 9) := by omega
  have hd9 : decide ((m : Int) + 4 < 9) = false := decide_eq_false hm9
  have H9 := hide h9
  have H20 := hide h20
  have HNC := hide hnc
  clear h9 h20 hnc
  have hw1 : IntKind.i64.wrap ((m : Int) + 4 - 4) = (m : Int) := by rw [IntKind.wrap_i64]; omega
  go_enter Tryd.func37, Tryd.ntmps37
  go_upto_region 1 with (fail)
  rw [HW.out]
  clear HW
  go_wp2_with fail
  go_quiet (fail)
  go_upto_region 6 with (fail)
  obtain ⟨W1, hW1⟩ : ∃ W1, W.drewN nq = W1 := ⟨_, rfl⟩
  rw [hW1]
  have kc := Joins.run_convert_bytes_const_at (P := Tryd.prog) W1 22 5 #[.int .u8 83, .int .u8 73, .int .u8 82, .int .u8 49] 4 4 W1.heap.size rfl Tryd.underlying22 Tryd.underlying5
  obtain ⟨W2, hW2⟩ : ∃ W2, W1.alloc (.cells #[.int .u8 83, .int .u8 73, .int .u8 82, .int .u8 49] 5 ((#[.int .u8 83, .int .u8 73, .int .u8 82, .int .u8 49] : Array Value).size, (#[.int .u8 83, .int .u8 73, .int .u8 82, .int .u8 49] : Array Value).size + 1)) = W2 := ⟨_, rfl⟩
  rw [hW2] at kc
  have R2 := hide (show Row W2 w.heap.size 69 [.slice none 0 0, .int .i64 0] by rw [← hW2, ← hW1]; exact (R0.out.drewN nq).alloc _)
  have hb1 := hide (show Below w.heap.size w W1 by rw [← hW1]; exact below_draws hbW.out nq)
  have hb2 := hide (show Below w.heap.size w W2 by rw [← hW2]; exact hb1.out.alloc hb1.out.size _)
  have hs2 := hide (show Sees W2 w.heap.size (some ⟨b, off, none⟩) (cellsU8 zs) by rw [← hW2, ← hW1]; exact (hsW.out.draws nq).alloc (by have := hb1.out.size; rw [← hW1] at this; exact this) _)
  have hg2 := hide (show Sees W2 (W1.heap.size + 1) (some ⟨W1.heap.size, 0, none⟩) (cellsU8 magic) from fun k u hu => ⟨W1.heap.size, 0, rfl, by omega, by
    rw [← hW2, Nat.zero_add, Joins.cell_alloc_mark_at _ _ _ _ _ _ rfl]
    rw [← hu]
    simp [cellsU8, magic]⟩)
  have HT := hide (show Sees W2 w.heap.size (some ⟨b, off, none⟩) (cellsU8 (zs.take m)) by have h := hs2.out.take m; rwa [take_cells] at h)
  have HTL := hide (show (zs.take m).length = m by rw [List.length_take, hn.out]; omega)
  have HTB := hide (hz.out.take m)
  have chp := hpre_any b off m c W1.heap.size 0 4 (zs.take m) w.heap.size (W1.heap.size + 1) W2 HTL (by have := H9.out; omega) (by have := HNC.out; omega) hcm HT hg2 HTB
  have cks := dsum_any (some ⟨b, off, none⟩) m c (zs.take m) w.heap.size W2 HTL (by have := H20.out; omega) HT HTB
  have HEQ := hide (show ∀ (W3 : World) (gk : Nat), Below W2.heap.size W2 W3 → Row W3 gk 5 (cellsU8 (crcI (crcN (zs.take m)))) → Calls Tryd.prog 59 #[.slice (some ⟨b, off + m, none⟩) 4 (c - m), .slice (some ⟨gk, 0, none⟩) 4 4] W3 fun e w' => e = .returned (.bool (decide (zs.drop m = crcI (crcN (zs.take m))))) ∧ W3 = w' from fun W3 gk hb3 hr3 =>
    beq_any b (off + m) 4 (c - m) gk 0 4 4 (zs.drop m) (crcI (crcN (zs.take m))) w.heap.size W3.heap.size W3 (hide (by rw [List.length_drop, hn.out]; omega)) (hide rfl) (hide (by
      have h := (hs2.out.below (hb3.mono hb2.out.size)).drop m
      rw [show (cellsU8 zs).drop m = cellsU8 (zs.drop m) by simp [cellsU8]] at h
      rwa [show (some (⟨b, off, none⟩ : Addr)).map (·.add m) = some ⟨b, off + m, none⟩ by simp [WideShapes.add_plain]] at h)) (hide (fun k u hu => ⟨gk, 0, rfl, hr3.lt, by rw [Nat.zero_add]; exact hr3.cell hu⟩)) (hide (hz.out.drop m)) (hide (crcI_bytes _)))
  rw [show (zs.take m).take 4 = zs.take 4 by rw [List.take_take, Nat.min_eq_left (by have := H9.out; omega)]] at chp
  obtain ⟨v1, hv1⟩ : ∃ v, decide (zs.take 4 = magic) = v := ⟨_, rfl⟩
  obtain ⟨v2, hv2⟩ : ∃ v, decide (zs.drop m = crcI (crcN (zs.take m))) = v := ⟨_, rfl⟩
  rw [hv1] at chp
  rw [hv2] at HEQ
  have HV1 := hide hv1
  have HV2 := hide hv2
  clear hW1 hW2 hv1 hv2 R0 hbW hsW HT HTL HTB hg2 hw1 hmz hmc hcm' hm20 hd20 hm9 hd9
  go_wp2_with fail
  refine chp.mono ?_
  rintro e w' ⟨rfl, rfl⟩
  clear chp kc
  cases v1 with
  | false =>
    have E := hide (show openS zs = .no 2 by
      unfold openS
      rw [if_neg (by rw [hn.out]; have := H20.out; omega), if_neg (by rw [hn.out]; have := H9.out; omega), if_neg]
      rw [hn.out, Nat.add_sub_cancel]
      exact fun h => by have := HV1.out; rw [decide_eq_false_iff_not] at this; exact this h.1)
    have r0 := R2.out.cell (k := 0) rfl
    have r1 := R2.out.cell (k := 1) rfl
    have z0 := R2.out.free 0
    have z1 := R2.out.free 1
    have hf := hide ((R2.out.set_ 0 (.slice none 0 0)).set_ 1 (.int .i64 2))
    have hsq := hb2.out.size
    have HB := hide (below_put (below_put hb2.out hsq (Nat.le_refl _) 0 (.slice none 0 0)) (by simpa [World.setCell] using hsq) (Nat.le_refl _) 1 (.int .i64 2))
    go_wp2
    have f0 := hf.out.cell (k := 0) rfl
    have f1 := hf.out.cell (k := 1) rfl
    exact bodyPost_ret (v := .agg #[.slice none 0 0, .int .i64 2]) (by simp [results, Tryd.results37, go_sem, f0, f1]) rfl (op_no E.out (by omega) HB.out)
  | true =>
    go_wp2_with fail
    refine cks.mono ?_
    rintro e w3 ⟨gk, rfl, hgk, hr3, hb3⟩
    have ceq := HEQ.out w3 gk hb3 hr3
    have R3 := hide (R2.out.call hb3)
    have HB3 := hide (hb2.out.trans (hb3.mono hb2.out.size))
    have hs3 := hide (hs2.out.below (hb3.mono hb2.out.size))
    clear hr3 hb3 hgk cks R2 HEQ
    go_wp2_with fail
    refine ceq.mono ?_
    rintro e w' ⟨rfl, rfl⟩
    clear ceq
    cases v2 with
    | false =>
      have E := hide (show openS zs = .no 2 by
        unfold openS
        rw [if_neg (by rw [hn.out]; have := H20.out; omega), if_neg (by rw [hn.out]; have := H9.out; omega), if_neg]
        rw [hn.out, Nat.add_sub_cancel]
        exact fun h => by have := HV2.out; rw [decide_eq_false_iff_not] at this; exact this h.2)
      have r0 := R3.out.cell (k := 0) rfl
      have r1 := R3.out.cell (k := 1) rfl
      have z0 := R3.out.free 0
      have z1 := R3.out.free 1
      have hf := hide ((R3.out.set_ 0 (.slice none 0 0)).set_ 1 (.int .i64 2))
      have hsq := HB3.out.size
      have HB := hide (below_put (below_put HB3.out hsq (Nat.le_refl _) 0 (.slice none 0 0)) (by simpa [World.setCell] using hsq) (Nat.le_refl _) 1 (.int .i64 2))
      go_wp2
      have f0 := hf.out.cell (k := 0) rfl
      have f1 := hf.out.cell (k := 1) rfl
      exact bodyPost_ret (v := .agg #[.slice none 0 0, .int .i64 2]) (by simp [results, Tryd.results37, go_sem, f0, f1]) rfl (op_no E.out (by omega) HB.out)
    | true =>
      have E := hide (show openS zs = .ok () ((zs.take m).drop 4) by
        unfold openS
        rw [if_neg (by rw [hn.out]; have := H20.out; omega), if_neg (by rw [hn.out]; have := H9.out; omega), if_pos, hn.out, Nat.add_sub_cancel]
        rw [hn.out, Nat.add_sub_cancel]
        exact ⟨of_decide_eq_true HV1.out, of_decide_eq_true HV2.out⟩)
      have r0 := R3.out.cell (k := 0) rfl
      have r1 := R3.out.cell (k := 1) rfl
      have z0 := R3.out.free 0
      have z1 := R3.out.free 1
      have hf := hide ((R3.out.set_ 0 (.slice (some ⟨b, off + 4, none⟩) (m - 4) (c - 4))).set_ 1 (.int .i64 0))
      have hsq := HB3.out.size
      have HB := hide (below_put (below_put HB3.out hsq (Nat.le_refl _) 0 (.slice (some ⟨b, off + 4, none⟩) (m - 4) (c - 4))) (by simpa [World.setCell] using hsq) (Nat.le_refl _) 1 (.int .i64 0))
      have hm4 : (4 : Int) ≤ (m : Int) := by have := H9.out; omega
      have hc4 : ¬ c = 4 := by have := H9.out; have := HNC.out; omega
      have HRE := hide (show Rest ((w3.setCell ⟨w.heap.size, 0, none⟩ (.slice (some ⟨b, off + 4, none⟩) (m - 4) (c - 4))).setCell ⟨w.heap.size, 1, none⟩ (.int .i64 0)) w.heap.size (some ⟨b, off + 4, none⟩) (m - 4) (c - 4) ((zs.take m).drop 4) from by
        have h1 : Rest w3 w.heap.size (some ⟨b, off, none⟩) m c (zs.take m) := ⟨.inr ⟨b, off, rfl, by have := HNC.out; omega⟩, by rw [List.length_take, hn.out]; omega, hcm, by have := H20.out; omega, hz.out.take m, by have h := hs3.out.take m; rwa [take_cells] at h⟩
        exact ((h1.drop_ (k := 4) (by have := H9.out; omega)).keep fun p hp => World.cell?_setCell_other _ _ _ _ (fun e => by subst e; simp at hp)).keep fun p hp => World.cell?_setCell_other _ _ _ _ (fun e => by subst e; simp at hp))
      go_wp2
      have f0 := hf.out.cell (k := 0) rfl
      have f1 := hf.out.cell (k := 1) rfl
      exact bodyPost_ret (v := .agg #[.slice (some ⟨b, off + 4, none⟩) (m - 4) (c - 4), .int .i64 0]) (by simp [results, Tryd.results37, go_sem, f0, f1]) rfl ⟨_, _, _, _, 0, rfl, HRE.out, by rw [E.out]; exact ⟨rfl, rfl⟩, HB.out⟩
end Go.Proofs.YtgcjckbndkddmaaDoor
end

section
/-
  The developers' Parse. Conditions: those of the types.
-/
namespace Go.Proofs.YtgcjckbndkddmaaDoor
open Go.RowKit

theorem dopen_any (A : Option Addr) (n c : Nat) (zs : List Int) (w : World) (hn : Hid (zs.length = n)) (hnc : n ≤ c) (hcm : c ≤ 9223372036854775807) (hs : Hid (Sees w w.heap.size A (cellsU8 zs))) (hz : Hid (Byt zs)) :
    Calls Tryd.prog 37 #[.slice A n c] w (OpPost zs w) := by
  by_cases h : 1048576 < n ∨ n < 9
  · exact dopen_far A n c zs w hn h (by omega)
  · obtain ⟨m, rfl⟩ : ∃ m, n = m + 4 := ⟨n - 4, by omega⟩
    obtain ⟨b, off, _, rfl, _⟩ := byte_at (zs := zs) (k := 0) hs.out (by rw [hn.out]; omega) hz.out
    exact dopen_main b off m c zs w hn (by omega) (by omega) hnc hcm hs hz

theorem hcells_set {l : List Hd} {i : Nat} {x : Hd} (h : l[i]? = some x) (y : Hd) : (((hcells l).set (i * 3) (.int .i64 y.p)).set (i * 3 + 1) (.slice y.a1 y.n1 y.c1)).set (i * 3 + 2) (.slice y.a2 y.n2 y.c2) = hcells (l.set i y) := by
  have hk : i < l.length := (List.getElem?_eq_some_iff.1 h).1
  have s0 := flat_set hcell_len l i x ⟨y.p, x.a1, x.n1, x.c1, x.a2, x.n2, x.c2⟩ h 0 (by omega) (.int .i64 y.p) rfl
  have s1 := flat_set hcell_len (l.set i ⟨y.p, x.a1, x.n1, x.c1, x.a2, x.n2, x.c2⟩) i ⟨y.p, x.a1, x.n1, x.c1, x.a2, x.n2, x.c2⟩ ⟨y.p, y.a1, y.n1, y.c1, x.a2, x.n2, x.c2⟩ (by rw [List.getElem?_set_self hk]) 1 (by omega) (.slice y.a1 y.n1 y.c1) rfl
  have s2 := flat_set hcell_len (l.set i ⟨y.p, y.a1, y.n1, y.c1, x.a2, x.n2, x.c2⟩) i ⟨y.p, y.a1, y.n1, y.c1, x.a2, x.n2, x.c2⟩ y (by rw [List.getElem?_set_self hk]) 2 (by omega) (.slice y.a2 y.n2 y.c2) rfl
  rw [List.set_set] at s1 s2
  unfold hcells
  rw [Nat.add_zero] at s0
  rw [s0, s1, s2]
/-- Heads and functions, one more. -/
theorem Hds.snoc {w : World} {lo B : Nat} {hs : List Hd} {F : Pg} {h : Hd} {f : Fn} (H : Hds w lo B hs F) (hd : HdAt w lo B h f) : Hds w lo B (hs ++ [h]) (F ++ [f]) := by
  refine ⟨by simp [H.len], fun k h' f' e1 e2 => ?_⟩
  rcases Nat.lt_or_ge k hs.length with hk | hk
  · rw [List.getElem?_append_left hk] at e1
    rw [List.getElem?_append_left (by rw [← H.len]; exact hk)] at e2
    exact H.at_ k h' f' e1 e2
  · rw [List.getElem?_append_right hk] at e1
    rw [List.getElem?_append_right (by rw [← H.len]; exact hk), ← H.len] at e2
    cases hj : k - hs.length with
    | zero =>
      rw [hj] at e1 e2
      simp at e1 e2
      subst e1 e2
      exact hd
    | succ j => rw [hj] at e1; simp at e1
theorem fn_pick {S : Rd Unit} {f : Fn} (h : ∀ u r, S.to fnR = .ok u r → f = u.1) : ∃ a : Fn × List Int, a.1 = f ∧ ∀ s r, S.to fnR = .ok s r → a = s := by
  cases hm : S.to fnR with
  | no x => exact ⟨(f, []), rfl, fun s r e => by cases e⟩
  | ok u r => exact ⟨u, (h u r hm).symm, fun s r e => by injection e⟩
theorem end_cases {α : Type} (S : Rd Unit) (a : α) : (∃ x, S.fin = .no x ∧ S.to (endR a) = .no x) ∨ (S.fin = .ok () [] ∧ S.to (endR a) = .ok a []) := by
  cases S with
  | no x => exact .inl ⟨x, rfl, rfl⟩
  | ok u t =>
    by_cases h : t = []
    · subst h; exact .inr ⟨rfl, rfl⟩
    · refine .inl ⟨2, ?_, ?_⟩
      · show (if t = [] then (Rd.ok () [] : Rd Unit) else .no 2) = .no 2
        rw [if_neg h]
      · show endR a t = .no 2
        unfold endR
        rw [if_neg h]
theorem dinfo_func : (Tryd.prog.info? 53).map (fun i => (i.zero, i.size, i.bytes)) = some (some (.agg #[.int .i64 0, .slice none 0 0, .slice none 0 0]), 3, 56) := by kernel_rfl
/-- What the loop of functions keeps. -/
def ParF (D G n : Nat) (S2 : Rd Unit) (w : World) (i : Nat) (wr : World) : Prop :=
  ∃ (S : Rd Unit) (L : List (Fn × List Int)) (hs : List Hd), L.length = i ∧ hs.length = i ∧ DR wr D S ∧ Below w.heap.size w wr ∧ Row wr w.heap.size 28 [.slice none 0 0] ∧
    Row wr G 53 (hcells (hs ++ List.replicate (n - i) ⟨0, none, 0, 0, none, 0, 0⟩)) ∧ Hds wr (G + 1) wr.heap.size hs (L.map (·.1)) ∧ LoopI fnR S2 n S (n - i) L
theorem below_inner {w w' w'' : World} {D : Nat} (h : Below w.heap.size w w') (hG : w'.grownBy w'' (some D)) (hD : w.heap.size ≤ D) : Below w.heap.size w w'' := h.grown hG h.size fun k hk => by injection hk with hk; omega

set_option maxRecDepth 100000 in
set_option maxHeartbeats 2400000 in
theorem dparse_any (A : Option Addr) (n c : Nat) (zs : List Int) (w : World) (hn : Hid (zs.length = n)) (hnc : n ≤ c) (hcm : c ≤ 9223372036854775807) (hs : Hid (Sees w w.heap.size A (cellsU8 zs))) (hz : Hid (Byt zs)) :
    Calls Tryd.prog 17 #[.slice A n c] w (PrPost (parseF zs) (parseR zs).1 w) := by
  obtain ⟨i0, hi, hz0, hz1, hz2⟩ := info_parts dinfo_func
  obtain ⟨W, hW⟩ : ∃ W, w.alloc (.cells #[.slice none 0 0] 28) = W := ⟨_, rfl⟩
  have HW := hide hW
  have hsW := hide (show Sees W W.heap.size A (cellsU8 zs) by rw [← hW]; exact (hs.out.alloc (Nat.le_refl _) _).more (by simp))
  have R0 := hide (show Row W w.heap.size 28 [.slice none 0 0] by rw [← hW]; exact Row.new w _ _)
  have hbW := hide (show Below w.heap.size w W by rw [← hW]; exact below1 w _)
  have hWs : W.heap.size = w.heap.size + 1 := by rw [← hW]; simp
  clear hW
  go_enter Tryd.func17, Tryd.ntmps17
  go_wp2_with fail
  rw [HW.out]
  clear HW
  refine (dopen_any A n c zs W hn hnc hcm hsW hz).mono ?_
  rintro e w1 ⟨A1, n1, c1, ds, x, rfl, hr, hst, hb⟩
  obtain ⟨D, hD⟩ : ∃ D, w1.heap.size = D := ⟨_, rfl⟩
  have hWD : W.heap.size ≤ D := by rw [← hD]; exact hb.size
  obtain ⟨W2, hW2⟩ : ∃ W2, w1.alloc (.cells #[.slice A1 n1 c1, .int .i64 x] 69) = W2 := ⟨_, rfl⟩
  have HW2 := hide hW2
  have HDD := hide hD
  have D2 := hide (show DR W2 D (openS zs) from ⟨A1, n1, c1, ds, x, by rw [← hW2, ← hD]; exact Row.new w1 69 [.slice A1 n1 c1, .int .i64 x], by
    rw [← hW2]
    exact (hr.more hWD).keep fun p hp => World.cell?_alloc_lt w1 _ p (by omega), hst⟩)
  have B2 := hide (show Below w.heap.size w W2 by rw [← hW2]; exact (hbW.out.trans (hb.mono hbW.out.size)).alloc (by rw [hD]; omega) _)
  have R2 := hide (show Row W2 w.heap.size 28 [.slice none 0 0] by rw [← hW2]; exact (R0.out.call hb).alloc _)
  clear hW2 hb hst hr hsW R0 hbW hD
  go_upto_region 2 with (fail)
  rw [HW2.out, HDD.out]
  clear HW2 HDD
  have cc := dcount_any D 80 (openS zs) W2 D2 (by omega)
  have hn80 := dcount_val (most := 80) (S := openS zs) (by omega)
  obtain ⟨S2, hS2⟩ : ∃ S2, ((openS zs).to (countR 80)).st = S2 := ⟨_, rfl⟩
  obtain ⟨k, hk⟩ : ∃ k, ((openS zs).to (countR 80)).val 0 = k := ⟨_, rfl⟩
  rw [hS2, hk, show ((80 : Nat) : Int) = 80 from rfl] at cc
  rw [hk] at hn80
  have HST := hide (fun SA (L : List (Fn × List Int)) (h2 : ∀ (β : Type) (K : List (Fn × List Int) → List Int → Rd β), (S2.to (timesR fnR k)).and K = SA.to (K L)) => pg_steps (openS zs) S2 SA k L hS2.symm hk.symm h2)
  have hmk := make_flat (P := Tryd.prog) (f := hcell) (a := (⟨0, none, 0, 0, none, 0, 0⟩ : Hd)) Tryd.underlying26 hi hz0 hz1 hcell_len rfl k (by rw [hz2]; omega) (by omega)
  clear hS2 hk
  go_wp2_with fail
  refine cc.mono ?_
  rintro e w3 ⟨rfl, hR, hG⟩
  obtain ⟨G, hGe⟩ : ∃ G, w3.heap.size = G := ⟨_, rfl⟩
  have hDG : D < G := by rw [← hGe]; exact hR.lt
  have hmk1 := hmk w3
  obtain ⟨W4, hW4⟩ : ∃ W4, w3.alloc (.cells ((List.replicate k (⟨0, none, 0, 0, none, 0, 0⟩ : Hd)).flatMap hcell).toArray 53) = W4 := ⟨_, rfl⟩
  rw [hW4, hGe] at hmk1
  have FI := hide (show ParF D G k S2 w 0 W4 from ⟨S2, [], [], rfl, rfl, by rw [← hW4]; exact hR.alloc _, by rw [← hW4]; exact (below_inner B2.out hG (by omega)).alloc (by omega) _,
    by rw [← hW4]; exact (R2.out.grown hG (fun e => by injection e with e; omega)).alloc _, by rw [← hW4, ← hGe]; exact Row.new w3 _ _, ⟨rfl, fun k h f e => by simp at e⟩, LoopI.start _ _ _⟩)
  clear hW4 hR hG hGe hmk cc B2 R2 D2
  go_wp2_with fail
  clear hmk1
  go_loopw [6, 13] (fun _ iv wr => ∃ i : Nat, i ≤ k ∧ iv = .int .i64 (i : Int) ∧ Hid (ParF D G k S2 w i wr)) (fun _ iv _ => k - (intOf iv).toNat)
  case atStart => exact ⟨0, Nat.zero_le _, rfl, FI⟩
  case round =>
    obtain ⟨i, hin, rfl, hF⟩ := hrel
    obtain ⟨S4, L, hs', hL, hHl, hDR, hBl, hRes, hRow, hHds, hLo⟩ := hF.out
    have HDR := hide hDR
    have HBl := hide hBl
    have HRes := hide hRes
    have HRow := hide hRow
    have HHds := hide hHds
    have HLo := hide hLo
    have HL := hide hL
    have HHl := hide hHl
    clear hDR hBl hRes hRow hHds hLo hL hHl FI
    by_cases hlt : i < k
    · have hlz : (i : Int) < (k : Int) := by omega
      have hiz : (0 : Int) ≤ (i : Int) := by omega
      go_wp2_with fail
      refine (dfunc_any D S4 wr HDR).mono ?_
      rintro e w5 ⟨P, B1, m1, e1, B2, m2, e2, f, rfl, hhd, hR, hG, hfv⟩
      obtain ⟨a, ha, has⟩ := fn_pick hfv
      have hGl : G < wr.heap.size := HRow.out.lt
      have Row5 := hide (HRow.out.grown hG (fun e => by injection e with e; omega))
      have hat := fill_at (z := (⟨0, none, 0, 0, none, 0, 0⟩ : Hd)) HHl.out hlt
      have hrow := fun j hj => flat_at hcell_len _ i _ hat j hj
      have a0 := Row5.out.cell (hrow 0 (by omega))
      have a1 := Row5.out.cell (hrow 1 (by omega))
      have a2 := Row5.out.cell (hrow 2 (by omega))
      rw [Nat.add_zero] at a0
      have z0 := Row5.out.free (i * 3)
      have z1 := Row5.out.free (i * 3 + 1)
      have z2 := Row5.out.free (i * 3 + 2)
      obtain ⟨W6, hW6⟩ : ∃ W6, ((w5.setCell ⟨G, i * 3, none⟩ (.int .i64 P)).setCell ⟨G, i * 3 + 1, none⟩ (.slice B1 m1 e1)).setCell ⟨G, i * 3 + 2, none⟩ (.slice B2 m2 e2) = W6 := ⟨_, rfl⟩
      have hsz6 : W6.heap.size = w5.heap.size := by rw [← hW6]; simp [World.setCell]
      have off6 : ∀ p : Addr, p.block ≠ G → W6.cell? p = w5.cell? p := fun p hp => by
        rw [← hW6, World.cell?_setCell_other _ _ _ _ (fun e => by subst e; exact hp rfl), World.cell?_setCell_other _ _ _ _ (fun e => by subst e; exact hp rfl), World.cell?_setCell_other _ _ _ _ (fun e => by subst e; exact hp rfl)]
      have HN := hide (show ParF D G k S2 w (i + 1) W6 from by
        have R6 := ((Row5.out.set_ (i * 3) (.int .i64 P)).set_ (i * 3 + 1) (.slice B1 m1 e1)).set_ (i * 3 + 2) (.slice B2 m2 e2)
        rw [hcells_set hat ⟨P, B1, m1, e1, B2, m2, e2⟩, fill_set HHl.out hlt, hW6] at R6
        have hgr : w5.grownBy W6 (some G) := by
          rw [← hW6]
          exact grown_set (grown_set (grown_put w5 G (i * 3) _) _ _) _ _
        refine ⟨(S4.to fnR).st, L ++ [a], hs' ++ [⟨P, B1, m1, e1, B2, m2, e2⟩], by simp [HL.out], by simp [HHl.out], hR.kept hgr (fun k hk => by injection hk with hk; omega),
          below_inner (below_inner HBl.out hG (by omega)) hgr (by omega), (HRes.out.grown hG (fun e => by injection e with e; omega)).grown hgr (fun e => by injection e with e; omega), R6, ?_, ?_⟩
        · rw [List.map_append]
          refine Hds.snoc ?_ ?_
          · exact ((HHds.out.keep (w' := w5) fun p h1 h2 => World.cell?_of_block (hG.block p.block h2 (fun e => by injection e with e; omega))).keep (fun p h1 h2 => off6 p (by omega))).more (by rw [hsz6]; exact hG.size) (Nat.le_refl _)
          · show HdAt W6 (G + 1) W6.heap.size _ a.1
            rw [ha]
            exact (hhd.keep (fun p h1 h2 => off6 p (by omega))).more (by omega) (by omega)
        · have h1 := HLo.out
          rw [show k - i = (k - (i + 1)) + 1 by omega] at h1
          exact h1.next has)
      have HW6 := hide hW6
      clear hhd hR hG hfv ha has hat hrow hW6 hF HDR HBl HRes HRow HHds HLo Row5 off6
      go_wp2_with fail
      rw [HW6.out]
      go_roundw
      case rel => exact ⟨i + 1, by omega, by go_num, HN⟩
      case measure => simp [intOf]; omega
    · have hi2 : k = i := by omega
      subst hi2
      have hlz : ¬ ((k : Int) < (k : Int)) := by omega
      have H5 := hide (show ∀ (β : Type) (K : List (Fn × List Int) → List Int → Rd β), (S2.to (timesR fnR k)).and K = S4.to (K L) from fun β K => by
        have h1 := HLo.out
        rw [Nat.sub_self] at h1
        exact h1.done β K)
      have HPG := hide (show (openS zs).to pgR = S4.to (endR L) from HST.out S4 L H5.out)
      clear hlt HLo HST H5 hF
      go_wp2_with fail
      refine (dend_any D S4 wr HDR).mono ?_
      rintro e w7 ⟨rfl, hR, hG⟩
      obtain ⟨q1, q2, q3⟩ := dr_error hR
      have HB7 := hide (below_inner HBl.out hG (by omega))
      have HR7 := hide (HRes.out.grown hG (fun e => by injection e with e; omega))
      have HG7 := hide (HRow.out.grown hG (fun e => by injection e with e; omega))
      have r0 := HR7.out.cell (k := 0) rfl
      have z0 := HR7.out.free 0
      have hwl := HR7.out.lt
      rcases end_cases S4 L with ⟨x, e1, e2⟩ | ⟨e1, e2⟩
      · rw [e1] at hR q1
        have hx := hR.bad
        have EP := hide (show parseR zs = (x, []) by rw [parse_open zs, HPG.out, e2])
        have hne : (x == 0) = false := by rw [beq_eq_false_iff_ne]; omega
        have q1' : w7.cell? ⟨D, 1, none⟩ = some (.int .i64 x) := q1
        have f0 : (w7.setCell ⟨w.heap.size, 0, none⟩ (.slice none 0 0)).drew.cell? ⟨w.heap.size, 0, none⟩ = some (.slice none 0 0) := World.cell?_setCell_same _ _ _ r0
        have HF0 := hide f0
        clear f0
        have HBF := hide (below_put HB7.out (by omega) (Nat.le_refl _) 0 (.slice none 0 0))
        have HBD := hide (below_draws HBF.out 1)
        have FIN := hide (fun (w9 : World) (hb : Below w.heap.size w w9) => (show PrPost (parseF zs) (parseR zs).1 w (.returned (.tuple #[gv none 0 0, .int .i64 x])) w9 from ⟨none, 0, 0, [], by rw [EP.out], by
          rw [show parseF zs = [] by unfold parseF; rw [EP.out]; rfl]
          exact zero_pg _ _ _, hb⟩))
        clear hR hG q1 q2 q3 e1 e2 hx HPG HDR HBl HRes HRow HHds EP HG7 HR7
        go_wp2_with fail
        go_region
        go_wp2
        have f0 := HF0.out
        exact bodyPost_ret (v := .tuple #[gv none 0 0, .int .i64 x]) (by simp [results, Tryd.results17, go_sem, f0]) rfl (FIN.out _ HBD.out)
      · have EP := hide (show parseR zs = (0, L) by rw [parse_open zs, HPG.out, e2])
        rw [e1] at q1
        have q1' : w7.cell? ⟨D, 1, none⟩ = some (.int .i64 0) := q1
        obtain ⟨W8, hW8⟩ : ∃ W8, w7.setCell ⟨w.heap.size, 0, none⟩ (.slice (some ⟨G, 0, none⟩) k k) = W8 := ⟨_, rfl⟩
        have hs8 : W8.heap.size = w7.heap.size := by rw [← hW8]; simp [World.setCell]
        have HB8 := hide (show Below w.heap.size w W8 by rw [← hW8]; exact below_put HB7.out (by omega) (Nat.le_refl _) 0 _)
        have off8 : ∀ p : Addr, p.block ≠ w.heap.size → W8.cell? p = w7.cell? p := fun p hp => by rw [← hW8, World.cell?_setCell_other _ _ _ _ (fun e => by subst e; exact hp rfl)]
        have f0 : W8.cell? ⟨w.heap.size, 0, none⟩ = some (.slice (some ⟨G, 0, none⟩) k k) := by rw [← hW8]; exact World.cell?_setCell_same _ _ _ r0
        have hGl := HG7.out.lt
        have FIN := hide (show PrPost (parseF zs) (parseR zs).1 w (.returned (.tuple #[gv (some ⟨G, 0, none⟩) k k, .int .i64 0])) W8 from by
          refine ⟨some ⟨G, 0, none⟩, k, k, hs', by rw [EP.out], ?_, HB8.out⟩
          rw [show parseF zs = L.map (·.1) by unfold parseF; rw [EP.out]]
          refine ⟨by rw [List.length_map, HL.out], ⟨(fun e => by cases e), Nat.le_refl _, by omega⟩, (fun a ha => by injection ha with ha; subst ha; simp only; omega), (fun j u hu => ⟨G, 0, rfl, by omega, ?_⟩), ?_⟩
          · rw [off8 _ (by simp; omega), Nat.zero_add]
            refine HG7.out.cell ?_
            rw [Nat.sub_self, List.replicate_zero, List.append_nil]
            exact hu
          · exact ((HHds.out.keep (w' := w7) fun p h1 h2 => World.cell?_of_block (hG.block p.block h2 (fun e => by injection e with e; omega))).keep (fun p h1 h2 => off8 p (by omega))).more (by rw [hs8]; exact hG.size) (by omega))
        have HW8 := hide hW8
        clear hR hG q1 q2 q3 e1 e2 hW8 HPG HDR HBl HRes HRow HHds EP HG7 HR7 off8
        go_wp2_with fail
        rw [HW8.out]
        exact bodyPost_ret (v := .tuple #[gv (some ⟨G, 0, none⟩) k k, .int .i64 0]) (by simp [results, Tryd.results17, go_sem, f0]) rfl FIN.out
end Go.Proofs.YtgcjckbndkddmaaDoor
end

section
/-
  The developers' Decode: what it gives for any bytes. Conditions: those of the types; the table of operations lies as its initialiser lays it.
-/
namespace Go.Proofs.YtgcjckbndkddmaaDoor
open Go.RowKit

set_option maxRecDepth 100000 in
set_option maxHeartbeats 1600000 in
theorem ddecode_any (A : Option Addr) (n c : Nat) (zs : List Int) (w : World) (hn : Hid (zs.length = n)) (hnc : n ≤ c) (hcm : c ≤ 9223372036854775807) (hs : Hid (Sees w w.heap.size A (cellsU8 zs))) (hz : Hid (Byt zs)) (hT : Hid (Shapes w)) :
    Calls Tryd.prog 19 #[.slice A n c] w (PrPost (decF zs) (decE zs) w) := by
  obtain ⟨W, hW⟩ : ∃ W, w.alloc (.cells #[.slice none 0 0] 28) = W := ⟨_, rfl⟩
  have HW := hide hW
  have hsW := hide (show Sees W W.heap.size A (cellsU8 zs) by rw [← hW]; exact (hs.out.alloc (Nat.le_refl _) _).more (by simp))
  have hrW := hide (show Row W w.heap.size 28 [.slice none 0 0] by rw [← hW]; exact Row.new w _ _)
  have hbW := hide (show Below w.heap.size w W by rw [← hW]; exact below1 w _)
  have hWs : W.heap.size = w.heap.size + 1 := by rw [← hW]; simp
  clear hW
  have ED := hide (show decE zs = if (parseR zs).1 = 0 then pgE (parseF zs) else (parseR zs).1 from rfl)
  have EF := hide (show decF zs = if decE zs = 0 then parseF zs else [] from rfl)
  go_enter Tryd.func19, Tryd.ntmps19
  go_wp2_with fail
  rw [HW.out]
  refine (dparse_any A n c zs W hn hnc hcm hsW hz).mono ?_
  rintro e w1 ⟨A1, n1, c1, hs1, rfl, hp, hb⟩
  obtain ⟨gq, hgq⟩ : ∃ gq, w1.heap.size = gq := ⟨_, rfl⟩
  obtain ⟨w2, hw2⟩ : ∃ w2, w1.alloc (.cells #[.slice A1 n1 c1] 28) = w2 := ⟨_, rfl⟩
  have HW2 := hide hw2
  have HGQ := hide hgq
  have h1 := hb.size
  have rq2 := hide (show Row w2 gq 28 [.slice A1 n1 c1] by rw [← hw2, ← hgq]; exact Row.new w1 28 [.slice A1 n1 c1])
  have q0 := rq2.out.cell (k := 0) rfl
  have hr2 := hide (show Row w2 w.heap.size 28 [.slice none 0 0] by rw [← hw2]; exact (hrW.out.below hb (by omega)).alloc _)
  have hb2 := hide (show Below w.heap.size w w2 by rw [← hw2]; exact ((hbW.out.trans (hb.mono (by omega))).alloc (by omega) _))
  have hp2 := hide (show PgAt w2 W.heap.size w2.heap.size A1 n1 c1 hs1 (parseF zs) by rw [← hw2]; exact hp.alloc _)
  have hl := hr2.out.lt
  have cc := check_any A1 n1 c1 hs1 (parseF zs) W.heap.size w2.heap.size w2 hp2 (Nat.le_refl _) (hide (hT.out.below hb2.out))
  clear hp hb hw2 hgq h1
  by_cases hpe : (parseR zs).1 = 0
  · rw [if_pos hpe] at ED
    rw [hpe]
    clear hpe
    go_upto_region 2 with (fail)
    rw [HW2.out, HGQ.out]
    clear HW2 HGQ
    by_cases hce : pgE (parseF zs) = 0
    · rw [hce] at cc
      have E := hide (show decE zs = 0 by rw [ED.out, hce])
      have E2 := hide (show decF zs = parseF zs by rw [EF.out, if_pos E.out])
      clear hce
      go_wp2_with fail
      refine cc.mono ?_
      rintro e w3 ⟨rfl, hb3⟩
      have q3 := (rq2.out.call hb3).cell (k := 0) rfl
      have hr3 := hide (hr2.out.call hb3)
      have z0 := hr3.out.cell (k := 0) rfl
      have y0 := hr3.out.free 0
      have HB3 := hide (hb2.out.trans (hb3.mono hb2.out.size))
      have HP3 := hide (hp2.out.call hb3)
      have hl3 := hr3.out.lt
      have f0 : (w3.setCell ⟨w.heap.size, 0, none⟩ (.slice A1 n1 c1)).cell? ⟨w.heap.size, 0, none⟩ = some (.slice A1 n1 c1) := World.cell?_setCell_same _ _ _ z0
      have FIN : PrPost (decF zs) (decE zs) w (.returned (.tuple #[gv A1 n1 c1, .int .i64 0])) (w3.setCell ⟨w.heap.size, 0, none⟩ (.slice A1 n1 c1)) := by
        rw [E.out, E2.out]
        refine ⟨A1, n1, c1, hs1, rfl, ?_, below_put HB3.out (by omega) (Nat.le_refl _) 0 _⟩
        rw [show (w3.setCell ⟨w.heap.size, 0, none⟩ (.slice A1 n1 c1)).heap.size = w3.heap.size by simp [World.setCell]]
        exact (HP3.out.keep fun p h1 _ => World.cell?_setCell_other _ _ _ _ (fun e => by have := congrArg Addr.block e; simp at this; omega)).more (Nat.le_refl _) (by omega)
      have HF := hide FIN
      clear FIN hb3 q0
      go_wp2_with fail
      exact bodyPost_ret (v := .tuple #[gv A1 n1 c1, .int .i64 0]) (by simp [results, Tryd.results19, go_sem, f0]) rfl HF.out
    · have hcb : (pgE (parseF zs) == 0) = false := by rw [beq_eq_false_iff_ne]; exact hce
      have E2 := hide (show decF zs = [] by rw [EF.out, if_neg (by rw [ED.out]; exact hce)])
      obtain ⟨x, hx⟩ : ∃ x, pgE (parseF zs) = x := ⟨_, rfl⟩
      rw [hx] at cc hcb ED
      clear hx hce
      go_wp2_with fail
      refine cc.mono ?_
      rintro e w3 ⟨rfl, hb3⟩
      have hr3 := hide (hr2.out.call hb3)
      have z0 := hr3.out.cell (k := 0) rfl
      have y0 := hr3.out.free 0
      have HB3 := hide (hb2.out.trans (hb3.mono hb2.out.size))
      have hl3 := hr3.out.lt
      have f0 : (w3.setCell ⟨w.heap.size, 0, none⟩ (.slice none 0 0)).cell? ⟨w.heap.size, 0, none⟩ = some (.slice none 0 0) := World.cell?_setCell_same _ _ _ z0
      have FIN : PrPost (decF zs) (decE zs) w (.returned (.tuple #[gv none 0 0, .int .i64 x])) (w3.setCell ⟨w.heap.size, 0, none⟩ (.slice none 0 0)) := by
        rw [ED.out, E2.out]
        exact ⟨none, 0, 0, [], rfl, zero_pg _ _ _, below_put HB3.out (by omega) (Nat.le_refl _) 0 _⟩
      have HF := hide FIN
      clear FIN hb3 q0
      go_wp2_with fail
      exact bodyPost_ret (v := .tuple #[gv none 0 0, .int .i64 x]) (by simp [results, Tryd.results19, go_sem, f0]) rfl HF.out
  · have hpb : ((parseR zs).1 == 0) = false := by rw [beq_eq_false_iff_ne]; exact hpe
    have E2 := hide (show decF zs = [] by rw [EF.out, if_neg (by rw [ED.out, if_neg hpe]; exact hpe)])
    rw [if_neg hpe] at ED
    obtain ⟨x, hx⟩ : ∃ x, (parseR zs).1 = x := ⟨_, rfl⟩
    rw [hx] at hpb ED ⊢
    clear hx hpe cc
    go_upto_region 2 with (fail)
    rw [HW2.out, HGQ.out]
    clear HW2 HGQ
    have z0 := hr2.out.cell (k := 0) rfl
    have y0 := hr2.out.free 0
    have f0 : (w2.setCell ⟨w.heap.size, 0, none⟩ (.slice none 0 0)).cell? ⟨w.heap.size, 0, none⟩ = some (.slice none 0 0) := World.cell?_setCell_same _ _ _ z0
    have FIN : PrPost (decF zs) (decE zs) w (.returned (.tuple #[gv none 0 0, .int .i64 x])) (w2.setCell ⟨w.heap.size, 0, none⟩ (.slice none 0 0)) := by
      rw [ED.out, E2.out]
      exact ⟨none, 0, 0, [], rfl, zero_pg _ _ _, below_put hb2.out (by omega) (Nat.le_refl _) 0 _⟩
    have HF := hide FIN
    clear FIN q0
    go_wp2_with fail
    exact bodyPost_ret (v := .tuple #[gv none 0 0, .int .i64 x]) (by simp [results, Tryd.results19, go_sem, f0]) rfl HF.out
end Go.Proofs.YtgcjckbndkddmaaDoor
end

section
/-
  The developers' Functions; slices.Clone at slices of bytes. Conditions: those of the types.
-/
namespace Go.Proofs.YtgcjckbndkddmaaDoor
open Go.RowKit

/-- An empty row that was just made. -/
theorem bown_empty (w : World) (e : TypeId) (size : Nat) : (w.alloc (.cells #[] e)).ownsRow w.heap.size e size (.slice (some ⟨w.heap.size, 0, none⟩) 0 0) 0 [] :=
  ⟨by simp, .inr ⟨w.heap.size, 0, #[], rfl, Nat.le_refl _, heap_alloc_new w _, Nat.le_refl _, by unfold maxLen; omega, by simp, by simp⟩⟩

/-- A copy of bytes, behind w. -/
def ClPost (n : Nat) (zs : List Int) (w : World) (e : Ending) (w' : World) : Prop :=
  ∃ (A2 : Option Addr) (c2 : Nat), e = .returned (.slice A2 n c2) ∧ DsAt w' w.heap.size w'.heap.size A2 n c2 zs ∧ Below w.heap.size w w'
set_option maxHeartbeats 800000 in
theorem bclone_any (A : Option Addr) (n c : Nat) (zs : List Int) (B : Nat) (w : World) (hA : Hid (A = none → c = 0)) (hn : Hid (zs.length = n)) (hnc : n ≤ c) (hm : n ≤ 1099511627776) (hs : Hid (Sees w B A (cellsU8 zs))) (hB : B ≤ w.heap.size) :
    Calls Tryd.prog 43 #[.slice A n c] w (ClPost n zs w) := by
  have hq := fun w => Lib.run_eql_slice_nil (P := Tryd.prog) w 22 5 A n c 0 0 Tryd.underlying22
  cases A with
  | none =>
    obtain rfl : c = 0 := hA.out rfl
    obtain rfl : n = 0 := by omega
    have hl : zs = [] := List.eq_nil_of_length_eq_zero hn.out
    subst hl
    go_enter Tryd.func43, Tryd.ntmps43
    go_wp2_with fail
    go_ret
    exact ⟨none, 0, rfl, zero_desc _ _ _, Below.refl _ _⟩
  | some ad =>
    obtain ⟨i0, hi, hz0, hz1, hz2⟩ := info_parts Tryd.info5
    have hsrc : ∀ (j : Nat) (u : Value), (cellsU8 zs)[j]? = some u → (w.alloc (.cells #[] 5)).cell? (ad.add j) = some u := by
      intro j u hu
      have hj : 0 < (cellsU8 zs).length := by
        rcases Nat.eq_zero_or_pos (cellsU8 zs).length with h0 | h0
        · rw [List.getElem?_eq_none (by omega)] at hu; simp at hu
        · exact h0
      obtain ⟨ad', he, hc⟩ := Sees.src (Sees.alloc hs.out hB (.cells #[] 5)) hj
      have he' : ad = ad' := Option.some.inj he
      rw [he']
      exact hc j u hu
    have HS := hide hsrc
    have hlen := hide (show (cellsU8 zs).length = n * 1 by simp [cellsU8, hn.out])
    clear hsrc hs
    go_enter Tryd.func43, Tryd.ntmps43
    go_wp2_with (at_builtin; refine wpList_append_own _ rfl (.tmp 5) (.tmp 6) 22 rfl w.heap.size 5 i0 (.int .u8 0) 1 1 Tryd.underlying22 hi hz0 hz1 hz2 rfl (by decide) _ 0 [] rfl (bown_empty w _ 1) ad n c (cellsU8 zs) rfl hlen.out HS.out (one_u8 zs) (by unfold maxLen; omega) (by omega) (by simp) ?_)
    intro v' w2 ho2 hg2 _
    obtain ⟨A2, c2, rfl, hA2, hnc2, hfar, hsee⟩ := own_seen ho2
    have HO := hide (show DsAt w2 w.heap.size w2.heap.size A2 n c2 zs from ⟨hn.out, ⟨hA2, hnc2, by omega⟩, hfar, hsee⟩)
    have hB' := hide (below_append (below1 w (.cells #[] 5)) (bown_empty w 5 1) (Nat.le_refl _) hg2 (by simp))
    clear ho2 hg2 hA2 hnc2 hfar hsee
    go_wp2_with fail
    go_ret
    exact ⟨A2, c2, rfl, HO.out, hB'.out⟩

theorem fn_descr {l : List Int} {a : Fn × List Int} {r : List Int} (h : fnR l = .ok a r) : descrR l = .ok a.2 r := by
  unfold fnR at h
  unfold descrR
  cases hm : numR l with
  | no x => rw [hm] at h; cases h
  | ok n r1 =>
    rw [hm] at h
    rw [Rd.and_ok] at h ⊢
    unfold takeR
    by_cases hn : r1.length < n
    · rw [if_pos hn] at h; cases h
    · rw [if_neg hn] at h ⊢
      obtain ⟨f, r2, e1, e2⟩ := Rd.and_eq h
      injection e2 with e3 e4
      subst e3 e4
      rfl
theorem DsAt.kept {w w' : World} {lo lo' B B' n c : Nat} {A : Option Addr} {ds : List Int} (h : DsAt w lo B A n c ds) (hk : ∀ p : Addr, lo ≤ p.block → p.block < B → w'.cell? p = w.cell? p) (hB : B ≤ B') (hl : lo' ≤ lo) : DsAt w' lo' B' A n c ds :=
  ⟨h.len, h.cap, h.far.more hl, (h.see.keepF h.far hk).more hB⟩
/-- A slice of bytes as a cell. -/
def sCell (r : Option Addr × Nat × Nat) : List Value := [.slice r.1 r.2.1 r.2.2]
theorem sCell_len (r : Option Addr × Nat × Nat) : (sCell r).length = 1 := rfl
theorem sCell_map (l : List (Option Addr × Nat × Nat)) : l.flatMap sCell = l.map fun r => .slice r.1 r.2.1 r.2.2 := by
  induction l with
  | nil => rfl
  | cons a r ih => rw [List.flatMap_cons, ih]; rfl
theorem dinfo_bytes : (Tryd.prog.info? 22).map (fun i => (i.zero, i.size, i.bytes)) = some (some (.slice none 0 0), 1, 24) := by kernel_rfl
/-- What the loop of descriptions keeps. -/
def FunL (D G n : Nat) (all : List (List Int)) (w : World) (i : Nat) (wr : World) : Prop :=
  ∃ (l : List Int) (L2 : List (Fn × List Int)) (rs : List (Option Addr × Nat × Nat)) (Ds : List (List Int)), rs.length = i ∧ Ds.length = i ∧ DR wr D (.ok () l) ∧ Below w.heap.size w wr ∧ Row wr G 22 ((rs ++ List.replicate (n - i) (none, 0, 0)).flatMap sCell) ∧
    (∀ (k : Nat) (r : Option Addr × Nat × Nat) (d : List Int), rs[k]? = some r → Ds[k]? = some d → DsAt wr (G + 1) wr.heap.size r.1 r.2.1 r.2.2 d) ∧ timesR fnR (n - i) l = .ok L2 [] ∧ all = Ds ++ L2.map (·.2)

set_option maxRecDepth 100000 in
set_option maxHeartbeats 2400000 in
theorem dfuncs_any (A : Option Addr) (n c : Nat) (zs : List Int) (w : World) (hn : Hid (zs.length = n)) (hnc : n ≤ c) (hcm : c ≤ 9223372036854775807) (hs : Hid (Sees w w.heap.size A (cellsU8 zs))) (hz : Hid (Byt zs)) :
    Calls Tryd.prog 22 #[.slice A n c] w (FsPost zs w) := by
  obtain ⟨i0, hi, hz0, hz1, hz2⟩ := info_parts dinfo_bytes
  go_enter Tryd.func22, Tryd.ntmps22
  go_wp2_with fail
  refine (dparse_any A n c zs w hn hnc hcm hs hz).mono ?_
  rintro e w1 ⟨A1, n1, c1, hs1, rfl, -, hb⟩
  obtain ⟨x, hx⟩ : ∃ x, (parseR zs).1 = x := ⟨_, rfl⟩
  rw [hx]
  have HX := hide hx
  obtain ⟨W2, hW2⟩ : ∃ W2, w1.alloc (.cells #[.slice A1 n1 c1] 28) = W2 := ⟨_, rfl⟩
  have B2 := hide (show Below w.heap.size w W2 by rw [← hW2]; exact hb.alloc hb.size _)
  have HW2 := hide hW2
  clear hW2 hb hx
  by_cases hx0 : x = 0
  · subst hx0
    go_upto_region 4 with (fail)
    rw [HW2.out]
    clear HW2
    have hs2 := hide ((hs.out.below B2.out).more B2.out.size)
    go_wp2_with fail
    refine (dopen_any A n c zs W2 hn hnc hcm hs2 hz).mono ?_
    rintro e w3 ⟨A3, n3, c3, ds, x3, rfl, hr, hst, hb⟩
    obtain ⟨D, hD⟩ : ∃ D, w3.heap.size = D := ⟨_, rfl⟩
    have hWD : W2.heap.size ≤ D := by rw [← hD]; exact hb.size
    have hwD : w.heap.size ≤ D := by have := B2.out.size; omega
    obtain ⟨W4, hW4⟩ : ∃ W4, w3.alloc (.cells #[.slice A3 n3 c3, .int .i64 x3] 69) = W4 := ⟨_, rfl⟩
    have HW4 := hide hW4
    have HDD := hide hD
    have D4 := hide (show DR W4 D (openS zs) from ⟨A3, n3, c3, ds, x3, by rw [← hW4, ← hD]; exact Row.new w3 69 [.slice A3 n3 c3, .int .i64 x3], by
      rw [← hW4]
      exact (hr.more hWD).keep fun p hp => World.cell?_alloc_lt w3 _ p (by omega), hst⟩)
    have B4 := hide (show Below w.heap.size w W4 by rw [← hW4]; exact (B2.out.trans (hb.mono B2.out.size)).alloc (by rw [hD]; omega) _)
    -- what Parse found
    have key : ∃ (l0 r0 : List Int) (k : Nat) (L : List (Fn × List Int)), openS zs = .ok () l0 ∧ countR 80 l0 = .ok k r0 ∧ timesR fnR k r0 = .ok L [] ∧ parseD zs = L.map (·.2) ∧ L.length = k := by
      have h1 := HX.out
      have h2 := parse_open zs
      cases hm : (openS zs).to pgR with
      | no y =>
        rw [hm] at h2
        have h3 : (parseR zs).1 = y := by rw [h2]
        have hfair : ((openS zs).to pgR).fair := by
          cases ho : openS zs with
          | no z => have := D4.out; rw [ho] at this; exact this.bad
          | ok u l => exact pgR_fair l
        rw [hm] at hfair
        have : 1 ≤ y := hfair.1
        omega
      | ok L r =>
        rw [hm] at h2
        cases ho : openS zs with
        | no z => rw [ho] at hm; cases hm
        | ok u l0 =>
          rw [ho] at hm
          have hm' : pgR l0 = .ok L r := hm
          unfold pgR at hm'
          obtain ⟨k, r0, e1, e2⟩ := Rd.and_eq hm'
          obtain ⟨L', r', e3, e4⟩ := Rd.and_eq e2
          obtain ⟨g1, g2, g3⟩ := endR_ok e4
          subst g1 g3
          refine ⟨l0, r0, k, L, rfl, e1, e3, by unfold parseD; rw [h2], ?_⟩
          have hb := D4.out
          rw [ho] at hb
          have hby := (countR_ok hb.byt.1 e1).1
          have hby2 : Byt r0 := by have := hb.byt.1; rw [hby] at this; exact this.right
          exact (timesR_ok (f := fun u : Fn × List Int => lenY u.1) (ok := fun _ => True) (fun l a r hz h => ⟨(fnR_ok hz h).1, trivial⟩) k r0 L [] hby2 e3).2.1
    obtain ⟨l0, r0, k, L, ko, kc', kt, kd, kl⟩ := key
    rw [ko] at D4
    have KT := hide kt
    have KD := hide kd
    have KC := hide kc'
    clear hW4 hb hst hr hD ko kt kd kc' hs2
    go_upto_region 5 with (fail)
    rw [HW4.out, HDD.out]
    clear HW4 HDD
    have cc := dcount_any D 80 (.ok () l0) W4 D4 (by omega)
    have hn80 := dcount_val (most := 80) (S := .ok () l0) (by omega)
    rw [show (Rd.ok () l0 : Rd Unit).to (countR 80) = .ok k r0 from KC.out] at cc hn80
    rw [show ((80 : Nat) : Int) = 80 from rfl, show ((Rd.ok k r0 : Rd Nat).val 0 : Nat) = k from rfl] at cc
    have hk80 : k ≤ 80 := hn80
    have hmk := make_flat (P := Tryd.prog) (f := sCell) (a := ((none, 0, 0) : Option Addr × Nat × Nat)) Tryd.underlying39 hi hz0 hz1 sCell_len rfl k (by rw [hz2]; omega) (by omega)
    clear hn80
    go_wp2_with fail
    refine cc.mono ?_
    rintro e w5 ⟨rfl, hR, hG⟩
    obtain ⟨G, hGe⟩ : ∃ G, w5.heap.size = G := ⟨_, rfl⟩
    have hDG : D < G := by rw [← hGe]; exact hR.lt
    have hmk1 := hmk w5
    obtain ⟨W6, hW6⟩ : ∃ W6, w5.alloc (.cells ((List.replicate k ((none, 0, 0) : Option Addr × Nat × Nat)).flatMap sCell).toArray 22) = W6 := ⟨_, rfl⟩
    rw [hW6, hGe] at hmk1
    have FI := hide (show FunL D G k (parseD zs) w 0 W6 from ⟨r0, L, [], [], rfl, rfl, by rw [← hW6]; exact hR.alloc _, by rw [← hW6]; exact (below_inner B4.out hG hwD).alloc (by omega) _,
      by rw [← hW6, ← hGe]; exact Row.new w5 _ _, (fun k r d e => by simp at e), KT.out, KD.out⟩)
    clear hW6 hR hG hGe hmk cc B4 D4
    go_wp2_with fail
    clear hmk1
    go_loopw [8, 23] (fun _ iv wr => ∃ i : Nat, i ≤ k ∧ iv = .int .i64 (i : Int) ∧ Hid (FunL D G k (parseD zs) w i wr)) (fun _ iv _ => k - (intOf iv).toNat)
    case atStart => exact ⟨0, Nat.zero_le _, rfl, FI⟩
    case round =>
      obtain ⟨i, hin, rfl, hF⟩ := hrel
      obtain ⟨l, L2, rs, Ds, hrl, hdl, hDR, hBl, hRow, hds, htm, hall⟩ := hF.out
      have HDR := hide hDR
      have HBl := hide hBl
      have HRow := hide hRow
      have HDS := hide hds
      have HTM := hide htm
      have HALL := hide hall
      have HRL := hide hrl
      have HDL := hide hdl
      clear hDR hBl hRow hds htm hall hrl hdl FI
      by_cases hlt : i < k
      · have hlz : (i : Int) < (k : Int) := by omega
        have hiz : (0 : Int) ≤ (i : Int) := by omega
        have key2 : ∃ a r L3, fnR l = .ok a r ∧ timesR fnR (k - (i + 1)) r = .ok L3 [] ∧ L2 = a :: L3 := by
          have h1 := HTM.out
          rw [show k - i = (k - (i + 1)) + 1 by omega] at h1
          simp only [timesR] at h1
          obtain ⟨a, r, e1, e2⟩ := Rd.and_eq h1
          obtain ⟨L3, r2, e3, e4⟩ := Rd.and_eq e2
          injection e4 with e5 e6
          subst e6
          exact ⟨a, r, L3, e1, e3, e5.symm⟩
        obtain ⟨a, r, L3, ka, kt3, kl2⟩ := key2
        have cd := ddescr_any D (.ok () l) wr HDR
        rw [show (Rd.ok () l : Rd Unit).to descrR = .ok a.2 r from fn_descr ka] at cd
        have KT3 := hide kt3
        have KL2 := hide kl2
        clear ka kt3 kl2
        go_wp2_with fail
        refine cd.mono ?_
        rintro e w7 ⟨A7, n7, c7, d7, rfl, hr, hd, hR, hG⟩
        have hd' : d7 = a.2 := hd
        have hD7 := hR.lt
        have R7 := hide hR
        have B7 := hide (below_inner HBl.out hG hwD)
        have W7 := hide (HRow.out.grown hG (fun e => by injection e with e; omega))
        have hGl := HRow.out.lt
        have cl := bclone_any A7 n7 c7 d7 D w7 (hide hr.cap.1) (hide hr.len) hr.cap.2 (by have := hr.most; omega) (hide hr.see) (by omega)
        have HG := hide hG
        have HE := hide hd'
        clear hr hd hR hG hd' cd
        go_wp2_with fail
        refine cl.mono ?_
        rintro e w8 ⟨A8, c8, rfl, hd8, hb8⟩
        have W8 := hide (W7.out.call hb8)
        have hat := fill_at (z := ((none, 0, 0) : Option Addr × Nat × Nat)) HRL.out hlt
        have hrow := flat_at sCell_len _ i _ hat 0 (by omega)
        rw [Nat.mul_one, Nat.add_zero] at hrow
        have a0 := W8.out.cell hrow
        have z0 := W8.out.free i
        obtain ⟨W9, hW9⟩ : ∃ W9, w8.setCell ⟨G, i, none⟩ (.slice A8 n7 c8) = W9 := ⟨_, rfl⟩
        have hsz9 : W9.heap.size = w8.heap.size := by rw [← hW9]; simp [World.setCell]
        have off9 : ∀ p : Addr, p.block ≠ G → W9.cell? p = w8.cell? p := fun p hp => by rw [← hW9, World.cell?_setCell_other _ _ _ _ (fun e => by subst e; exact hp rfl)]
        have hgr : w8.grownBy W9 (some G) := by rw [← hW9]; exact grown_put w8 G i _
        have HN := hide (show FunL D G k (parseD zs) w (i + 1) W9 from by
          have R9 := W8.out.set_ i (.slice A8 n7 c8)
          have hfs := flat_set sCell_len _ i _ (A8, n7, c8) hat 0 (by omega) (.slice A8 n7 c8) rfl
          rw [Nat.mul_one, Nat.add_zero] at hfs
          rw [hfs, fill_set HRL.out hlt, hW9] at R9
          refine ⟨r, L3, rs ++ [(A8, n7, c8)], Ds ++ [a.2], by simp [HRL.out], by simp [HDL.out], (R7.out.below hb8).kept hgr (fun k hk => by injection hk with hk; omega), below_inner (below_call B7.out hb8) hgr (by omega), R9, fun j q d e1 e2 => ?_, KT3.out, ?_⟩
          · rcases Nat.lt_or_ge j i with hj | hj
            · rw [List.getElem?_append_left (by rw [HRL.out]; exact hj)] at e1
              rw [List.getElem?_append_left (by rw [HDL.out]; exact hj)] at e2
              refine (HDS.out j q d e1 e2).kept (fun p h1 h2 => ?_) (by rw [hsz9]; have := hb8.size; have := HG.out.size; omega) (Nat.le_refl _)
              rw [off9 p (by omega), hb8.cell (by have := HG.out.size; omega)]
              exact World.cell?_of_block (HG.out.block p.block h2 (fun e => by injection e with e; omega))
            · rw [List.getElem?_append_right (by rw [HRL.out]; exact hj), HRL.out] at e1
              rw [List.getElem?_append_right (by rw [HDL.out]; exact hj), HDL.out] at e2
              cases hz : j - i with
              | zero =>
                rw [hz] at e1 e2
                simp at e1 e2
                subst e1 e2
                rw [HE.out] at hd8
                exact hd8.kept (fun p h1 h2 => off9 p (by have := HG.out.size; omega)) (by omega) (by have := HG.out.size; omega)
              | succ m => rw [hz] at e1; simp at e1
          · rw [HALL.out, KL2.out]
            simp)
        have HW9 := hide hW9
        clear hd8 hb8 hW9 hrow hat cl off9 hgr hF HDR HBl HRow HDS HTM HALL R7 B7 W7
        go_wp2_with fail
        rw [HW9.out]
        go_roundw
        case rel => exact ⟨i + 1, by omega, by go_num, HN⟩
        case measure => simp [intOf]; omega
      · have hi2 : k = i := by omega
        subst hi2
        have hlz : ¬ ((k : Int) < (k : Int)) := by omega
        have FIN := hide (show FsPost zs w (.returned (.tuple #[.slice (some ⟨G, 0, none⟩) k k, .int .i64 0])) wr from by
          have h1 := HTM.out
          rw [Nat.sub_self] at h1
          have h2 : L2 = [] := by simp only [timesR] at h1; injection h1 with h1 _; exact h1.symm
          have h3 := HALL.out
          rw [h2, List.map_nil, List.append_nil] at h3
          refine ⟨some ⟨G, 0, none⟩, k, k, rs, by rw [HX.out], ?_, HBl.out⟩
          rw [h3]
          have hGl := HRow.out.lt
          refine ⟨HDL.out, HRL.out, ⟨(fun e => by cases e), Nat.le_refl _, by omega⟩, (fun a ha => by injection ha with ha; subst ha; simp only; omega), (fun j u hu => ⟨G, 0, rfl, by omega, ?_⟩), fun j q d e1 e2 => (HDS.out j q d e1 e2).kept (fun _ _ _ => rfl) (Nat.le_refl _) (by omega)⟩
          rw [Nat.zero_add]
          refine HRow.out.cell ?_
          rw [Nat.sub_self, List.replicate_zero, List.append_nil, sCell_map]
          exact hu)
        clear hlt hF HDR HBl HRow HDS HTM HALL
        go_wp2_with fail
        go_ret2
        exact FIN.out
  · have hne : (x == 0) = false := by rw [beq_eq_false_iff_ne]; exact hx0
    have FIN := hide (show FsPost zs w (.returned (.tuple #[.slice none 0 0, .int .i64 x])) W2 from ⟨none, 0, 0, [], by rw [HX.out], by
      rw [show parseD zs = [] by
        have h1 := HX.out
        have h2 := parse_open zs
        unfold parseD
        cases hm : (openS zs).to pgR with
        | no y => rw [hm] at h2; rw [h2]; rfl
        | ok L r => rw [hm] at h2; rw [h2] at h1; exact absurd h1.symm hx0]
      exact zero_dl _ _ _, B2.out⟩)
    clear hx0
    go_upto_region 2 with (fail)
    rw [HW2.out]
    clear HW2
    go_wp2_with fail
    go_ret2
    exact FIN.out
end Go.Proofs.YtgcjckbndkddmaaDoor
end
