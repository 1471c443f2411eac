import Derived.Test.YtjbgepjdohfhkaaMFnx
import Derived.Test.YtjbgepjdohfhkaaMFrn
import Derived.Test.YtjbgepjdohfhkaaMFrows
import Derived.Deep.AppendLies
import Derived.Laws.MakeOwn
import Derived.Maps.AppendAt
import Derived.ChangeAlike
set_option linter.unusedVariables false
set_option linter.unusedSimpArgs false
section
/-
  The contracts of flow.Before and of the reference's Before: for each instruction the ones that it may follow. Conditions: those of the types; the function is right.
-/
namespace Go.Proofs.Ytjbgepjdohfhkaa
open Go.RowKit

theorem fmade2 {P : Program} {t e : TypeId} {i : TypeInfo} {z : Value} {L : List Value} (ht : P.underlying t = some (.slice e)) (hi : P.info? e = some i) (hz : i.zero = some z) (hs : i.size = 1) (hb : i.bytes ≤ 64) (hc : z.cells = #[z])
    (n : Nat) (hm : n ≤ 1048576) (hL : List.replicate n z = L) (W : World) :
    (Instr.makeSlice t (.int .i64 (n : Int)) (.int .i64 (n : Int))).run P W = .ok (.slice (some ⟨W.heap.size, 0, none⟩) n n) (W.alloc (.cells L.toArray e)) := by
  have hbn : i.bytes * n ≤ 64 * 1048576 := Nat.mul_le_mul hb hm
  have h := run_make W t e i _ ht hi hz .i64 .i64 (n : Int) (n : Int) (by omega) (by omega) (by rw [← Int.natCast_mul]; omega) (by omega)
  rw [h, show ((n : Int)).toNat = n by omega, hs, Nat.mul_one, hc, madeCells_list z n, hL]
theorem Row.append2 {wr w2 : World} {base G t n : Nat} {v : Value} {xs cs : List Value} {o : Obj} (h : Row wr G t cs) (ho : wr.ownsRow base 3 1 v n xs) (ht : t ≠ 3) (hg : (wr.alloc o).grownBy w2 v.ownBlock) : Row w2 G t cs :=
  (h.alloc o).grown hg fun e => by
    rcases fown_apart ho h ht with h1 | h1
    · rw [h1] at e; cases e
    · exact h1 e.symm
theorem infoS : (Try.prog.info? 38).map (fun i => (i.zero, i.size, i.bytes)) = some (some (.slice none 0 0), 1, 24) := by kernel_rfl
section
variable {w w' : World} {base g : Nat} {vs : List Value} {zss : List (List Nat)}
theorem LLs.lt (h : LLs w base g vs zss) {i b : Nat} {u : Value} (h1 : vs[i]? = some u) (h2 : u.ownBlock = some b) : b < w.heap.size := by
  have hi : i < zss.length := by rw [← h.len]; exact (List.getElem?_eq_some_iff.1 h1).1
  exact ((h.own i u _ h1 (List.getElem?_eq_getElem hi)).lt b h2).2
theorem LLs.at2 (h : LLs w base g vs zss) {j : Nat} {zs : List Nat} (hz : zss[j]? = some zs) : ∃ (A : Option Addr) (c : Nat), vs[j]? = some (.slice A zs.length c) ∧ w.cell? ⟨g, j, none⟩ = some (.slice A zs.length c) ∧ w.ownsRow base 3 1 (.slice A zs.length c) zs.length (cellsI (toI zs)) := by
  obtain ⟨hj, hz⟩ := List.getElem?_eq_some_iff.1 hz
  obtain ⟨A, n, c, h1, h2, rfl, -, h3⟩ := h.at_ hj
  rw [hz] at h1 h2 h3
  exact ⟨A, c, h1, h2, h3⟩
end
/-- A list of n nils. -/
def nils (n : Nat) : List Value := List.replicate n (.slice none 0 0)
/-- What the loops keep in memory. -/
structure BfI (w : World) (P : Int) (A1 : Option Addr) (n1 c1 : Nat) (A2 : Option Addr) (n2 c2 : Nat) (vs : List Value) (zss : List (List Nat)) (wr : World) : Prop where
  l : LLs wr w.heap.size (w.heap.size + 1) vs zss
  f : Row wr w.heap.size 27 [.int .i64 P, .slice A1 n1 c1, .slice A2 n2 c2]
  b : Below w.heap.size w wr
/-- A row that none of the lists lies in. -/
def Dis (v : Value) (vs : List Value) : Prop := ∀ b, v.ownBlock = some b → ∀ (i : Nat) (u : Value), vs[i]? = some u → u.ownBlock ≠ some b
section
variable {P : Int} {A1 : Option Addr} {n1 c1 : Nat} {A2 : Option Addr} {n2 c2 : Nat} {l : List Ins} {w wr w2 : World} {vs : List Value} {zss : List (List Nat)}
theorem BfI.call (h : BfI w P A1 n1 c1 A2 n2 c2 vs zss wr) (hb : Below wr.heap.size wr w2) : BfI w P A1 n1 c1 A2 n2 c2 vs zss w2 := ⟨h.l.below hb, h.f.call hb, below_call h.b hb⟩
theorem BfI.apart (h : BfI w P A1 n1 c1 A2 n2 c2 vs zss wr) {v : Value} {n : Nat} {xs : List Value} (ho : w2.ownsRow wr.heap.size 3 1 v n xs) : Dis v vs := fun b hb i u hu e => by
  have h1 := (ho.lt b hb).1
  have h2 := h.l.lt hu e
  omega
theorem BfI.app {o : Obj} {j x n : Nat} {v v' y : Value} {zs : List Nat} {ys : List Value} (h : BfI w P A1 n1 c1 A2 n2 c2 vs zss wr) (hv : vs[j]? = some v) (hz : zss[j]? = some zs) (hx : x ≤ 1000000)
    (ho : w2.ownsRow w.heap.size 3 1 v' (zs.length + 1) (cellsI (toI zs) ++ [.int .i64 (x : Int)])) (hg : (wr.alloc o).grownBy w2 v.ownBlock) (hw : ∀ k, v'.ownBlock = some k → v.ownBlock = some k ∨ k = (wr.alloc o).heap.size)
    (hN : wr.ownsRow w.heap.size 3 1 y n ys) (hD : Dis y vs) :
    BfI w P A1 n1 c1 A2 n2 c2 (vs.set j v') (zss.set j (zs ++ [x])) (w2.setCell ⟨w.heap.size + 1, j, none⟩ v') ∧ (w2.setCell ⟨w.heap.size + 1, j, none⟩ v').ownsRow w.heap.size 3 1 y n ys ∧ Dis y (vs.set j v') ∧
      w2.frozen? ⟨w.heap.size + 1, j, none⟩ = false ∧ w2.cell? ⟨w.heap.size + 1, j, none⟩ = some v ∧ w2.ownsRow w.heap.size 3 1 y n ys := by
  have hvo := h.l.own j v zs hv hz
  have hR := h.l.row.append2 hvo fty_ne hg
  have hy : y.ownBlock = none ∨ y.ownBlock ≠ v.ownBlock := by
    cases hb : y.ownBlock with
    | none => exact .inl rfl
    | some b => exact .inr fun e => hD b hb j v hv e.symm
  have hN2 := (hN.alloc o).kept hg hy
  refine ⟨⟨h.l.app hv hz hx ho hg hw, (h.f.append2 hvo (by decide) hg).far (p := ⟨w.heap.size + 1, j, none⟩) (by simp) _, (below_append (h.b.alloc h.b.size o) (hvo.alloc o) (Nat.le_refl _) hg (Nat.le_trans h.b.size (by simp))).setCell (p := ⟨w.heap.size + 1, j, none⟩) (by simp) _⟩,
    hN2.kept (fgrown_set _ _ _ _) (fown_apart hN2 hR fty_ne), fun b hb i u hu e => ?_, hR.free j, hR.cell hv, hN2⟩
  rw [List.getElem?_set] at hu
  by_cases q : j = i
  · rw [if_pos q] at hu
    split at hu
    · injection hu with hu
      subst hu
      rcases hw b e with h1 | h1
      · exact hD b hb j v hv h1
      · have h2 := (hN.lt b hb).2
        have hs : (wr.alloc o).heap.size = wr.heap.size + 1 := by simp
        omega
    · cases hu
  · rw [if_neg q] at hu
    exact hD b hb i u hu e
set_option maxRecDepth 100000 in
set_option maxHeartbeats 2000000 in
theorem before_any (w : World) (hC : Hid (CdAt w A2 n2 l)) (hok : Hid (FlowOk l)) :
    Calls Try.prog 19 #[fv P A1 n1 c1 A2 n2 c2] w (ListsPost (befL l n2 n2 0) w) := by
  obtain ⟨i0, hi, hz0, hz1, hz2⟩ := info_parts infoI
  obtain ⟨j0, ji, jz0, jz1, jz2⟩ := info_parts infoS
  have hlen := hC.out.len
  have hn2 := hC.out.few
  have hmk := fmade2 (P := Try.prog) Try.underlying28 ji jz0 jz1 (by omega) rfl n2 (by omega) (L := nils n2) rfl
  have HL := hide hlen
  obtain ⟨W1, hW1⟩ : ∃ W, w.alloc (.cells #[.int .i64 P, .slice A1 n1 c1, .slice A2 n2 c2] 27) = W := ⟨_, rfl⟩
  have R1 := hide (show Row W1 w.heap.size 27 [.int .i64 P, .slice A1 n1 c1, .slice A2 n2 c2] by rw [← hW1]; exact Row.new w _ _)
  have hsz1 : W1.heap.size = w.heap.size + 1 := by rw [← hW1]; simp
  obtain ⟨W2, hW2⟩ : ∃ W, W1.alloc (.cells (nils n2).toArray 38) = W := ⟨_, rfl⟩
  have I2 := hide (show BfI w P A1 n1 c1 A2 n2 c2 (nils n2) (befL l n2 0 0) W2 by
    rw [befL_start, ← hW2]
    exact ⟨LLs.make ((Row.new W1 _ _).at_ hsz1) (by omega), R1.out.alloc _, by rw [← hW1]; exact below2 _ _ _⟩)
  have HW1 := hide hW1
  have HW2 := hide hW2
  have HS1 := hide hsz1
  clear hW1 hW2 hlen hsz1
  go_enter Try.func19, Try.ntmps19
  go_upto_region 1 with (fail)
  rw [HW1.out]
  have q2 := R1.out.cell (k := 2) rfl
  go_upto_region 2 with (fail)
  rw [HS1.out, HW2.out]
  clear q2 hmk HW1 HS1 HW2 R1
  have q2 := I2.out.f.cell (k := 2) rfl
  go_wp2_with fail
  clear q2
  go_loopw [14] (fun s14 wr => ∃ (m : Nat) (vs : List Value), s14 = .int .i64 (m : Int) ∧ m ≤ n2 ∧ Hid (BfI w P A1 n1 c1 A2 n2 c2 vs (befL l n2 m 0) wr)) (fun s14 _ => n2 - (intOf s14).toNat)
  case atStart => exact ⟨0, _, rfl, by omega, I2⟩
  case round =>
    obtain ⟨m, vs, rfl, hmn, hI⟩ := hrel
    by_cases hlt : m < n2
    · have hm64 : (m : Int) < (n2 : Int) := by omega
      have cn := fnext_any (P := P) (A1 := A1) (n1 := n1) (c1 := c1) (c2 := c2) (m : Int) wr (hide (hC.out.below hI.out.b)) hok.out
      rw [sucZ_nat] at cn
      have hXS := hide (fun (j : Nat) (h : j ∈ suc l m) => suc_lt hok.out h)
      have hX2 := hide (suc_len l m)
      have hNX := hide (befL_next l n2 m)
      obtain ⟨xs, hxs⟩ : ∃ xs, suc l m = xs := ⟨_, rfl⟩
      rw [hxs] at cn hXS hX2 hNX
      have HXS := hide hxs
      have q0 := hI.out.f.cell (k := 0) rfl
      have q1 := hI.out.f.cell (k := 1) rfl
      have q2 := hI.out.f.cell (k := 2) rfl
      clear hxs I2
      go_wp2_with fail
      refine cn.mono ?_
      rintro e w5 ⟨A5, c5, rfl, ho5, hb5⟩
      have I5 := hide (hI.out.call hb5)
      have N5 := hide (show w5.ownsRow wr.heap.size 3 1 (.slice A5 xs.length c5) xs.length (cellsI (toI xs)) by rw [toI_len] at ho5; exact ho5)
      have D5 := hide (hI.out.apart N5.out)
      have N5 := hide (own_lower N5.out (show w.heap.size ≤ wr.heap.size from hI.out.b.size))
      rw [toI_len]
      clear hb5 ho5 cn q0 q1 q2 hI
      go_wp2_with fail
      go_loopw [21] (fun s21 wq => ∃ (i : Nat) (vs : List Value), s21 = .int .i64 (i : Int) ∧ i ≤ xs.length ∧ Hid (BfI w P A1 n1 c1 A2 n2 c2 vs (befL l n2 m i) wq) ∧ Hid (wq.ownsRow w.heap.size 3 1 (.slice A5 xs.length c5) xs.length (cellsI (toI xs))) ∧ Hid (Dis (.slice A5 xs.length c5) vs)) (fun s21 _ => xs.length - (intOf s21).toNat)
      case atStart => exact ⟨0, vs, rfl, by omega, I5, N5, D5⟩
      case round =>
        obtain ⟨i, vs2, rfl, hix, hI, hN, hD⟩ := hrel
        clear I5 N5 D5
        have hx2 : xs.length ≤ 2 := hX2.out
        by_cases hlt2 : i < xs.length
        · obtain ⟨g5, c5', he5, -, -, -, -⟩ := own_block hN.out (by omega)
          injection he5 with he5 _ he5c
          subst he5 he5c
          have hjx := List.getElem?_eq_getElem hlt2
          have hjm := List.getElem_mem hlt2
          have x0 : wr.cell? ⟨g5, i, none⟩ = some (.int .i64 ((xs[i] : Nat) : Int)) := by
            rw [hN.out.cellAt i (by omega), cellsI, List.getElem?_map, toI_get, hjx]; rfl
          have hjn : xs[i] < n2 := by have h1 := hXS.out xs[i] hjm; have h2 := HL.out; omega
          have HJ := hide (show (suc l m)[i]? = some xs[i] by rw [HXS.out]; exact hjx)
          generalize xs[i] = j at x0 hjn HJ
          have hz := befL_fresh (l := l) (n := n2) HJ.out hjn
          obtain ⟨Aj, cj, hv, z0, hoj⟩ := hI.out.l.at2 hz
          have hnj := befN_len l m j
          have HAP := hide (fun (o : Obj) (w2 : World) (v' : Value) (ho : w2.ownsRow w.heap.size 3 1 v' ((befN l m j).length + 1) (cellsI (toI (befN l m j)) ++ [.int .i64 (m : Int)])) (hg : (wr.alloc o).grownBy w2 (Value.slice Aj (befN l m j).length cj).ownBlock) (hw : ∀ k, v'.ownBlock = some k → (Value.slice Aj (befN l m j).length cj).ownBlock = some k ∨ k = wr.heap.size + 1) =>
            hI.out.app hv hz (by omega) ho hg (fun k hk => by simpa using hw k hk) hN.out hD.out)
          rw [← befL_step HJ.out hjn] at HAP
          have HO := hide hoj
          obtain ⟨zs, hzs⟩ : ∃ zs, befN l m j = zs := ⟨_, rfl⟩
          rw [hzs] at hz hv z0 hnj HAP HO
          have HSZ := hide hI.out.b.size
          have hi0 : (0 : Int) ≤ (i : Int) := by omega
          have hin : (i : Int) < (xs.length : Int) := by omega
          have hjj0 : (0 : Int) ≤ (j : Int) := by omega
          have hjjn : (j : Int) < (n2 : Int) := by omega
          clear hjx hjm hz hzs hv hoj
          go_upto_region 9 with (at_builtin; refine wpList_append_where rfl (.tmp 30) (.tmp 32) 38 rfl w.heap.size 3 i0 (.int .i64 0) 1 8 Try.underlying38 hi hz0 hz1 hz2 rfl (by decide) _ zs.length (cellsI (toI zs)) rfl (HO.out.alloc _) ⟨wr.heap.size, 0, none⟩ 1 1 [.int .i64 (m : Int)] rfl rfl (one_new _ _ _) (one_cell _) (by unfold maxLen; omega) (by omega) (Nat.le_trans HSZ.out (by simp)) ?_)
          intro v7 w7 ho7 hg7 hw7
          obtain ⟨A7, c7, rfl, -, -⟩ := own_form ho7
          obtain ⟨ia, ib, ic, z1, z2, -⟩ := HAP.out _ w7 _ ho7 hg7 hw7
          have I7 := hide ia
          have N7 := hide ib
          have D7 := hide ic
          clear ia ib ic ho7 hg7 hw7 HAP hI hN hD z0 x0 HO
          go_wp2_with fail
          go_roundw
          case rel => exact ⟨i + 1, _, by go_num, by omega, I7, N7, D7⟩
          case measure => simp [intOf]; omega
        · obtain rfl : i = xs.length := by omega
          have I8 := hide (show BfI w P A1 n1 c1 A2 n2 c2 vs2 (befL l n2 (m + 1) 0) wr by rw [← hNX.out]; exact hI.out)
          clear hI hN hD
          go_wp2_with fail
          go_roundw
          case rel => exact ⟨m + 1, vs2, by go_num, by omega, I8⟩
          case measure => simp [intOf]; omega
    · obtain rfl : m = n2 := by omega
      have FIN := hide (show ListsPost (befL l m m 0) w (.returned (.slice (some ⟨w.heap.size + 1, 0, none⟩) m m)) wr from ⟨w.heap.size + 1, vs, by rw [befL_len], hI.out.l, hI.out.b⟩)
      clear hI I2
      go_wp2_with fail
      go_ret
      exact FIN.out
end
end Go.Proofs.Ytjbgepjdohfhkaa
end
