import Derived.Test.YtjbgepjdohfhkaaMFbf
import Derived.Test.YtjbgepjdohfhkaaMHdef
import Derived.Test.YtjbgepjdohfhkaaMAmath
set_option linter.unusedVariables false
set_option linter.unusedSimpArgs false
section
/-
  The contract of liveness.readersOf: for each slot the instructions that read it. Conditions: those of the types; the function is right.
-/
namespace Go.Proofs.Ytjbgepjdohfhkaa
open Go.RowKit

def rdB (l : List Ins) (s : Int) (k : Nat) : Bool := match l[k]? with
  | none => false
  | some x => decide (s ∈ usL x.op x.b)
def rdN (l : List Ins) (m : Nat) (s : Int) : List Nat := (List.range m).filter fun k => rdB l s k
def usK (l : List Ins) (m : Nat) : List Int := match l[m]? with
  | none => []
  | some x => usL x.op x.b
/-- The readers among the first m instructions, and the first i uses of the next one. -/
def rdL (l : List Ins) (M m i : Nat) : List (List Nat) := (List.range M).map fun s : Nat => rdN l m (s : Int) ++ (if (s : Int) ∈ (usK l m).take i then [m] else [])
section
variable {l : List Ins} {M m i s : Nat} {x : Ins}
theorem usK_some (h : l[m]? = some x) : usK l m = usL x.op x.b := by unfold usK; rw [h]
theorem rdL_len (l : List Ins) (M m i : Nat) : (rdL l M m i).length = M := by simp [rdL]
theorem rdL_at (h : s < M) : (rdL l M m i)[s]? = some (rdN l m (s : Int) ++ (if (s : Int) ∈ (usK l m).take i then [m] else [])) := by simp [rdL, h]
theorem rdL_start (l : List Ins) (M : Nat) : rdL l M 0 0 = List.replicate M [] := by
  refine List.ext_getElem? fun s => ?_
  by_cases h : s < M
  · rw [rdL_at h, List.getElem?_replicate, if_pos h]; simp [rdN]
  · rw [List.getElem?_eq_none (by rw [rdL_len]; omega), List.getElem?_eq_none (by simp; omega)]
theorem usL_len1 (o b : Int) : (usL o b).length ≤ 1 := by unfold usL; split <;> simp
theorem usK_len1 (l : List Ins) (m : Nat) : (usK l m).length ≤ 1 := by
  unfold usK
  split
  · simp
  · exact usL_len1 _ _
theorem rdN_succ (l : List Ins) (m : Nat) (s : Int) : rdN l (m + 1) s = rdN l m s ++ (if s ∈ usK l m then [m] else []) := by
  unfold rdN
  rw [List.range_succ, List.filter_append]
  congr 1
  unfold rdB usK
  cases h : l[m]? with
  | none => simp [h]
  | some x => simp [List.filter_cons, h]
theorem rdL_next (l : List Ins) (M m : Nat) : rdL l M m (usK l m).length = rdL l M (m + 1) 0 := by
  refine List.ext_getElem? fun s => ?_
  by_cases h : s < M
  · rw [rdL_at h, rdL_at h, List.take_length, rdN_succ]; simp
  · rw [List.getElem?_eq_none (by rw [rdL_len]; omega), List.getElem?_eq_none (by rw [rdL_len]; omega)]
theorem rdL_fresh (h : s < M) : (rdL l M m 0)[s]? = some (rdN l m (s : Int)) := by rw [rdL_at h]; simp
theorem rdL_step (hu : usK l m = [(s : Int)]) (h : s < M) : rdL l M m 1 = (rdL l M m 0).set s (rdN l m (s : Int) ++ [m]) := by
  refine List.ext_getElem? fun j => ?_
  by_cases hj : j < M
  · rw [rdL_at hj, List.getElem?_set, hu, rdL_fresh hj]
    by_cases e : s = j
    · subst e
      have : s < (rdL l M m 0).length := by rw [rdL_len]; exact h
      simp [this]
    · have : ¬ ((j : Int) = (s : Int)) := by omega
      simp [e, this]
  · rw [List.getElem?_eq_none (by rw [rdL_len]; omega), List.getElem?_eq_none (by rw [List.length_set, rdL_len]; omega)]
theorem rdN_len (l : List Ins) (m : Nat) (s : Int) : (rdN l m s).length ≤ m := by
  unfold rdN
  exact Nat.le_trans (List.length_filter_le _ _) (by simp)
theorem mem_rdN {s : Int} {j : Nat} : j ∈ rdN l l.length s ↔ ∃ x, l[j]? = some x ∧ s ∈ usL x.op x.b := by
  unfold rdN
  rw [List.mem_filter, List.mem_range]
  unfold rdB
  constructor
  · rintro ⟨h1, h2⟩
    rw [List.getElem?_eq_getElem h1] at h2
    exact ⟨_, List.getElem?_eq_getElem h1, by simpa using h2⟩
  · rintro ⟨x, hx, hu⟩
    exact ⟨(List.getElem?_eq_some_iff.1 hx).1, by rw [hx]; simpa using hu⟩
end
section
variable {P : Int} {A1 : Option Addr} {n1 c1 : Nat} {A2 : Option Addr} {n2 c2 : Nat} {l : List Ins}
set_option maxRecDepth 100000 in
set_option maxHeartbeats 2000000 in
theorem readers_any (w : World) (hC : Hid (CdAt w A2 n2 l)) (hok : Hid (LvOk l n1)) :
    Calls Try.prog 20 #[fv P A1 n1 c1 A2 n2 c2] w (ListsPost (rdL l n1 n2 0) w) := by
  obtain ⟨i0, hi, hz0, hz1, hz2⟩ := info_parts infoI
  obtain ⟨j0, ji, jz0, jz1, jz2⟩ := info_parts infoS
  have hlen := hC.out.len
  have hn2 := hC.out.few
  have hm := hok.out.few
  have hmk := fmade2 (P := Try.prog) Try.underlying28 ji jz0 jz1 (by omega) rfl n1 (by omega) (L := nils n1) rfl
  obtain ⟨W1, hW1⟩ : ∃ W, w.alloc (.cells #[.int .i64 P, .slice A1 n1 c1, .slice A2 n2 c2] 27) = W := ⟨_, rfl⟩
  have R1 := hide (show Row W1 w.heap.size 27 [.int .i64 P, .slice A1 n1 c1, .slice A2 n2 c2] by rw [← hW1]; exact Row.new w _ _)
  have hsz1 : W1.heap.size = w.heap.size + 1 := by rw [← hW1]; simp
  obtain ⟨W2, hW2⟩ : ∃ W, W1.alloc (.cells (nils n1).toArray 38) = W := ⟨_, rfl⟩
  have I2 := hide (show BfI w P A1 n1 c1 A2 n2 c2 (nils n1) (rdL l n1 0 0) W2 by
    rw [rdL_start, ← hW2]
    exact ⟨LLs.make ((Row.new W1 _ _).at_ hsz1) (by omega), R1.out.alloc _, by rw [← hW1]; exact below2 _ _ _⟩)
  have HW1 := hide hW1
  have HW2 := hide hW2
  have HS1 := hide hsz1
  have hmin : min (n1 : Int) 512 = (n1 : Int) := by omega
  clear hW1 hW2 hsz1
  go_enter Try.func20, Try.ntmps20
  go_upto_region 1 with (fail)
  rw [HW1.out]
  have q1 := R1.out.cell (k := 1) rfl
  go_upto_region 2 with (fail)
  rw [HS1.out, HW2.out]
  clear q1 hmk HW1 HS1 HW2 R1
  have q2 := I2.out.f.cell (k := 2) rfl
  go_wp2_with fail
  clear q2
  go_loopw [16] (fun s16 wr => ∃ (m : Nat) (vs : List Value), s16 = .int .i64 (m : Int) ∧ m ≤ n2 ∧ Hid (BfI w P A1 n1 c1 A2 n2 c2 vs (rdL l n1 m 0) wr)) (fun s16 _ => n2 - (intOf s16).toNat)
  case atStart => exact ⟨0, _, rfl, by omega, I2⟩
  case round =>
    obtain ⟨m, vs, rfl, hmn, hI⟩ := hrel
    clear I2
    by_cases hlt : m < n2
    · have hm64 : (m : Int) < (n2 : Int) := by omega
      have hm0 : (0 : Int) ≤ (m : Int) := by omega
      have hml : m < l.length := by omega
      obtain ⟨x, hx⟩ : ∃ x, l[m]? = some x := ⟨_, List.getElem?_eq_getElem hml⟩
      obtain ⟨_, hxe⟩ := List.getElem?_eq_some_iff.1 hx
      obtain ⟨b2, o2, rfl, hb2, y0, y1, y2, y3, y4⟩ := ins_at hC.out.see hml
      rw [hxe] at y0 y1 y2 y3 y4
      have z0 := keep_cellB hI.out.b y0
      have z1 := keep_cellB hI.out.b y1
      have z2 := keep_cellB hI.out.b y2
      have z3 := keep_cellB hI.out.b y3
      have z4 := keep_cellB hI.out.b y4
      have hUS := usK_some hx
      have hUL := usK_len1 l m
      have hUB : ∀ z ∈ usL x.op x.b, 0 ≤ z ∧ z < n1 := fun z hz => usL_mem hok.out hx hz
      obtain ⟨U, hU⟩ : ∃ U, usL x.op x.b = U := ⟨_, rfl⟩
      have hNX := rdL_next l n1 m
      rw [hU] at hUS hUB
      rw [hUS] at hUL hNX
      obtain ⟨W4, hW4⟩ : ∃ V, wr.alloc (.cells #[.int .i64 x.op, .int .i64 x.a, .int .i64 x.b, .int .i64 x.c, .int .u64 x.imm] 45) = V := ⟨_, rfl⟩
      have hb4 : Below wr.heap.size wr W4 := by rw [← hW4]; exact below1 _ _
      have I4 := hide (hI.out.call hb4)
      have R4 := hide (show Row W4 wr.heap.size 45 [.int .i64 x.op, .int .i64 x.a, .int .i64 x.b, .int .i64 x.c, .int .u64 x.imm] by rw [← hW4]; exact Row.new wr _ _)
      have cu := euses_any x.op x.a x.b x.c x.imm W4
      rw [hU] at cu
      have HW4 := hide hW4
      have HUS := hide hUS
      have HUB := hide hUB
      have HNX := hide hNX
      obtain ⟨X, hX⟩ : ∃ X, wr.heap.size = X := ⟨_, rfl⟩
      rw [hX] at R4
      have HX := hide hX
      clear hxe hx hU hUS hUB hNX hW4 hb4 hX y0 y1 y2 y3 y4 hI hml
      go_upto_region 5 with (fail)
      rw [HW4.out, HX.out]
      clear z0 z1 z2 z3 z4 HW4 HX
      have y0 := R4.out.cell (k := 0) rfl
      have y1 := R4.out.cell (k := 1) rfl
      have y2 := R4.out.cell (k := 2) rfl
      have y3 := R4.out.cell (k := 3) rfl
      have y4 := R4.out.cell (k := 4) rfl
      go_wp2_with fail
      refine cu.mono ?_
      rintro e w5 ⟨A5, c5, rfl, ho5, hb5⟩
      have I5 := hide (I4.out.call hb5)
      have N5 := hide (own_lower ho5 (show w.heap.size ≤ W4.heap.size from I4.out.b.size))
      have D5 := hide (I4.out.apart ho5)
      clear hb5 ho5 cu y0 y1 y2 y3 y4 I4 R4
      go_wp2_with fail
      go_loopw [7, 24] (fun s7 s24 wq => ∃ (i : Nat) (vs : List Value), s24 = .int .i64 (i : Int) ∧ i ≤ U.length ∧ Hid (BfI w P A1 n1 c1 (some ⟨b2, o2, none⟩) n2 c2 vs (rdL l n1 m i) wq) ∧ Hid (wq.ownsRow w.heap.size 3 1 (.slice A5 U.length c5) U.length (cellsI U)) ∧ Hid (Dis (.slice A5 U.length c5) vs)) (fun _ s24 _ => U.length - (intOf s24).toNat)
      case atStart => exact ⟨0, vs, rfl, by omega, I5, N5, D5⟩
      case round =>
        obtain ⟨i, vs2, rfl, hix, hI, hN, hD⟩ := hrel
        clear I5 N5 D5
        by_cases hlt2 : i < U.length
        · obtain ⟨g5, c5', he5, -, -, -, -⟩ := own_block hN.out (by omega)
          injection he5 with he5 _ he5c
          subst he5 he5c
          obtain rfl : i = 0 := by omega
          obtain ⟨z, hUz⟩ : ∃ z, U = [z] := by
            match U, hUL, hlt2 with
            | [], _, h => simp at h
            | [z], _, _ => exact ⟨z, rfl⟩
            | _ :: _ :: _, h, _ => simp at h
          obtain ⟨hz0', hz1'⟩ := HUB.out z (by rw [hUz]; simp)
          obtain ⟨s, rfl⟩ := Int.eq_ofNat_of_zero_le hz0'
          have x0 : wr.cell? ⟨g5, 0, none⟩ = some (.int .i64 (s : Int)) := (hN.out.cellAt 0 (by omega)).trans (by rw [hUz]; rfl)
          have hsn : s < n1 := by omega
          have hz := rdL_fresh (l := l) (m := m) hsn
          obtain ⟨Aj, cj, hv, z0, hoj⟩ := hI.out.l.at2 hz
          have hnj := rdN_len l m (s : Int)
          have HAP := hide (fun (o : Obj) (w2 : World) (v' : Value) (ho : w2.ownsRow w.heap.size 3 1 v' ((rdN l m (s : Int)).length + 1) (cellsI (toI (rdN l m (s : Int))) ++ [.int .i64 (m : Int)])) (hg : (wr.alloc o).grownBy w2 (Value.slice Aj (rdN l m (s : Int)).length cj).ownBlock) (hw : ∀ k, v'.ownBlock = some k → (Value.slice Aj (rdN l m (s : Int)).length cj).ownBlock = some k ∨ k = wr.heap.size + 1) =>
            hI.out.app hv hz (by omega) ho hg (fun k hk => by simpa using hw k hk) hN.out hD.out)
          rw [← rdL_step (HUS.out.trans hUz) hsn] at HAP
          have HO := hide hoj
          obtain ⟨zs, hzs⟩ : ∃ zs, rdN l m (s : Int) = zs := ⟨_, rfl⟩
          rw [hzs] at hz hv z0 hnj HAP HO
          have HSZ := hide hI.out.b.size
          have hs0 : (0 : Int) ≤ (s : Int) := by omega
          have hsn' : (s : Int) < (n1 : Int) := by omega
          have hUpos : (0 : Int) < (U.length : Int) := by omega
          clear hz hzs hv hoj hsn hz1' hz0' hUz
          go_upto_region 10 with (at_builtin; refine wpList_append_where rfl (.tmp 41) (.tmp 43) 38 rfl w.heap.size 3 i0 (.int .i64 0) 1 8 Try.underlying38 hi hz0 hz1 hz2 rfl (by decide) _ zs.length (cellsI (toI zs)) rfl (HO.out.alloc _) ⟨wr.heap.size, 0, none⟩ 1 1 [.int .i64 (m : Int)] rfl rfl (one_new _ _ _) (one_cell _) (by unfold maxLen; omega) (by omega) (Nat.le_trans HSZ.out (by simp)) ?_)
          intro v7 w7 ho7 hg7 hw7
          obtain ⟨A7, c7, rfl, -, -⟩ := own_form ho7
          obtain ⟨ia, ib, ic, z1, z2, -⟩ := HAP.out _ w7 _ ho7 hg7 hw7
          have I7 := hide ia
          have N7 := hide ib
          have D7 := hide ic
          clear ia ib ic ho7 hg7 hw7 HAP hI hN hD z0 x0 HO
          go_wp2_with fail
          go_roundw
          case rel => exact ⟨1, _, by go_num, by omega, I7, N7, D7⟩
          case measure => simp [intOf]; omega
        · obtain rfl : i = U.length := by omega
          have I8 := hide (show BfI w P A1 n1 c1 (some ⟨b2, o2, none⟩) n2 c2 vs2 (rdL l n1 (m + 1) 0) wr by rw [← HNX.out]; exact hI.out)
          clear hI hN hD
          go_wp2_with fail
          go_roundw
          case rel => exact ⟨m + 1, vs2, by go_num, by omega, I8⟩
          case measure => simp [intOf]; omega
    · obtain rfl : m = n2 := by omega
      have FIN := hide (show ListsPost (rdL l n1 m 0) w (.returned (.slice (some ⟨w.heap.size + 1, 0, none⟩) n1 n1)) wr from ⟨w.heap.size + 1, vs, by rw [rdL_len], hI.out.l, hI.out.b⟩)
      clear hI
      go_wp2_with fail
      go_ret
      exact FIN.out
end
end Go.Proofs.Ytjbgepjdohfhkaa
end
