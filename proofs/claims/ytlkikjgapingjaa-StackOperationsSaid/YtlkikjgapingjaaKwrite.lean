/-
  The contract of stack.write: bytes copied into a stack of the caller's own, and marked as used. Conditions: those of the types; the bytes lie on the stack; at least one.
-/
import Derived.Test.YtlkikjgapingjaaKrpush
import Derived.Laws.CopyOwn
namespace Go.Proofs.Ytlkikjgapingjaa
open Go.RowKit
attribute [local go_sem ↓] Go.wp_at_zero Go.wp_at_succ

theorem own_heap {w : World} {base g n c : Nat} {e : TypeId} {xs : List Value} (h : w.ownsRow base e 1 (.slice (some ⟨g, 0, none⟩) n c) n xs) :
    ∃ cur : List Value, w.heap[g]? = some (.cells cur.toArray e (0, 0)) ∧ cur.length = c ∧ cur.take n = xs ∧ n ≤ c ∧ c ≤ maxLen ∧ base ≤ g := by
  rcases h.2 with ⟨h2, _⟩ | ⟨g', cap, cur, h2, hg, hh, hc, hm, hs, ht⟩
  · cases h2
  · injection h2 with h3 h4 h5
    injection h3 with h3
    injection h3 with h3
    subst h3 h5
    refine ⟨cur.toList, by simpa using hh, by simpa using hs, ?_, hc, hm, hg⟩
    simpa using ht
theorem heap_own {w : World} {base g n c : Nat} {e : TypeId} {cur : List Value} (hg : w.heap[g]? = some (.cells cur.toArray e (0, 0))) (hl : cur.length = c) (hn : n ≤ c) (hm : c ≤ maxLen) (hb : base ≤ g) : w.ownsRow base e 1 (.slice (some ⟨g, 0, none⟩) n c) n (cur.take n) :=
  ⟨by simp; omega, .inr ⟨g, c, cur.toArray, rfl, hb, hg, hn, hm, by simpa using hl, by simp⟩⟩
theorem splice_take {α : Type} (L cs : List α) (off n : Nat) (h : off + cs.length ≤ n) (hn : n ≤ L.length) : (splice L off cs).take n = splice (L.take n) off cs := by
  apply List.ext_getElem?
  intro j
  rw [List.getElem?_take]
  by_cases hj : j < n
  · rw [if_pos hj, splice_at _ _ _ (by omega), splice_at _ _ _ (by simp; omega), List.getElem?_take, if_pos hj]
  · rw [if_neg hj]
    symm
    apply List.getElem?_eq_none
    rw [length_splice _ _ _ (by simp; omega)]
    simp; omega
theorem row_turned (w : World) (g : Nat) (cs : Array Value) : w.grownBy (w.setRow g cs) (some g) :=
  ⟨rfl, rfl, rfl, by simp [World.setRow], fun i hi hne => setRow_other w g i cs (fun h => hne (by rw [h]))⟩
/-- A row of the call's own, into which something was copied. -/
theorem own_copied {w : World} {base g n c off : Nat} {e : TypeId} {cs cur : List Value} (hh : w.heap[g]? = some (.cells cur.toArray e (0, 0))) (hl : cur.length = c) (hn : n ≤ c) (hm : c ≤ maxLen) (hb : base ≤ g) (ho : off + cs.length ≤ n) :
    (w.setRow g (cur.take off ++ (cs ++ cur.drop (off + cs.length))).toArray).ownsRow base e 1 (.slice (some ⟨g, 0, none⟩) n c) n (splice (cur.take n) off cs) := by
  have h2 := heap_own (w := w.setRow g (splice cur off cs).toArray) (base := base) (n := n) (c := c) (setRow_heap w g _ _ e _ hh) (by rw [length_splice _ _ _ (by omega)]; exact hl) hn hm hb
  rw [splice_take _ _ _ _ ho (by omega)] at h2
  exact h2
theorem size_u8 : (Try.prog.info? 5).map (·.size) = some 1 := by kernel_rfl

/-- What holds at the head of the loop. -/
def WrRel (S : Sk) (g1 c1 g2 c2 : Nat) (zs : List Int) (w : World) (base a m : Nat) (i : Value) (wr : World) : Prop :=
  ∃ k : Nat, k ≤ m ∧ i = .int .i64 (k : Int) ∧ Hid (Row wr w.heap.size 25 [.slice (some ⟨g1, 0, none⟩) S.bs.length c1, .slice (some ⟨g2, 0, none⟩) S.bs.length c2, .int .i64 (S.sp : Int)]) ∧
    Hid (wr.ownsRow base 5 1 (.slice (some ⟨g1, 0, none⟩) S.bs.length c1) S.bs.length (splice (cellsU8 S.bs) a (cellsU8 zs))) ∧ Hid (wr.ownsRow base 4 1 (.slice (some ⟨g2, 0, none⟩) S.bs.length c2) S.bs.length (splice (cellsB S.us) a ((List.replicate m (Value.bool true)).take k))) ∧ Hid (Below base w wr)

set_option maxRecDepth 100000 in
set_option maxHeartbeats 4000000 in
theorem write_any {A1 A2 : Option Addr} {c1 c2 : Nat} {S : Sk} (a m : Nat) (A3 : Option Addr) (c3 base : Nat) (zs : List Int) (w : World) (hO : Hid (StkOwn w base A1 c1 A2 c2 S 5 4)) (hz : Hid (Sees w w.heap.size A3 (cellsU8 zs))) (hl : Hid (zs.length = m)) (hb : Hid (∀ z ∈ zs, 0 ≤ z ∧ z ≤ 255)) (hm : 1 ≤ m) (h16 : m ≤ 16) (ha : a + m ≤ S.bs.length) (hbase : base ≤ w.heap.size) :
    Calls Try.prog 36 #[sv A1 c1 A2 c2 S, .int .i64 (a : Int), .slice A3 m c3] w fun e w' => e = .returned (.tuple #[]) ∧ StkOwn w' base A1 c1 A2 c2 (putS S a zs) 5 4 ∧ Below base w w' := by
  have hok := hide hO.out.ok
  have hmost := hok.out.most
  obtain ⟨g1, q1, hv1, hg1, hgl1, hn1, hM1⟩ := own_block hO.out.o1 (show 0 < S.bs.length by omega)
  injection hv1 with hv1 _ hv3
  subst hv1 hv3
  obtain ⟨g2, q2, hv1, hg2, hgl2, hn2, hM2⟩ := own_block hO.out.o2 (show 0 < S.bs.length by omega)
  injection hv1 with hv1 _ hv3
  subst hv1 hv3
  obtain ⟨ad, hA3, hsrc⟩ := hz.out.src (show 0 < (cellsU8 zs).length by rw [cellsU8_length, hl.out]; omega)
  subst hA3
  obtain ⟨W0, hW0⟩ : ∃ W, w.alloc (.cells #[.slice (some ⟨g1, 0, none⟩) S.bs.length c1, .slice (some ⟨g2, 0, none⟩) S.bs.length c2, .int .i64 (S.sp : Int)] 25) = W := ⟨_, rfl⟩
  have HW0 := hide hW0
  have RX := hide (show Row W0 w.heap.size 25 [.slice (some ⟨g1, 0, none⟩) S.bs.length c1, .slice (some ⟨g2, 0, none⟩) S.bs.length c2, .int .i64 (S.sp : Int)] by rw [← hW0]; exact Row.new w _ _)
  have B0 := hide (show Below w.heap.size w W0 by rw [← hW0]; exact below1 w _)
  have O1 := hide (own_below hO.out.o1 B0.out)
  have O2 := hide (own_below hO.out.o2 B0.out)
  have hne := hide (show g2 ≠ g1 from fun h => by
    rcases own_apart O1.out O2.out (by decide) with h1 | h1
    · simp [Value.ownBlock] at h1
    · exact h1 (by simp [Value.ownBlock, h]))
  obtain ⟨cur, hh, hcl, hct, _⟩ := own_heap O1.out
  have HH := hide hh
  have HCL := hide hcl
  have HS := hide (show ∀ (j : Nat) (v : Value), (cellsU8 zs)[j]? = some v → W0.cell? (ad.add j) = some v from fun j v hj => keep_cellB B0.out (hsrc j v hj))
  have hlen := hide (show (cellsU8 zs).length = m by rw [cellsU8_length]; exact hl.out)
  have C1 := hide (own_copied (off := a) (cs := cellsU8 zs) (base := base) hh hcl hn1 hM1 hg1 (by rw [hlen.out]; exact ha))
  rw [hct] at C1
  obtain ⟨W1, hW1⟩ : ∃ W, W0.setRow g1 (cur.take a ++ (cellsU8 zs ++ cur.drop (a + (cellsU8 zs).length))).toArray = W := ⟨_, rfl⟩
  have HW1 := hide hW1
  have T1 := hide (show W0.grownBy W1 (some g1) by rw [← hW1]; exact row_turned W0 g1 _)
  rw [hW1] at C1
  have HCP : ∀ ty, (Builtin.copy_ #[22, 22] ty #[.slice (some ⟨g1, a, none⟩) (S.bs.length - a) (c1 - a), .slice (some ad) m c3]).run Try.prog W0 = .ok (goInt (cellsU8 zs).length) W1 := by
    intro ty
    rw [← hW1]
    have := run_copy_row (P := Try.prog) W0 22 22 ty 5 g1 a (S.bs.length - a) (c1 - a) ad m c3 cur.toArray 5 (cellsU8 zs) Try.underlying22 size_u8 hh (by rw [hlen.out]; exact (Nat.min_eq_left (by omega)).symm) HS.out (by rw [hlen.out]; simp [hcl]; omega) (cellsU8_one zs)
    simpa using this
  have R1 := hide (RX.out.grown T1.out (by simp; omega))
  have O21 := hide (O2.out.kept T1.out (.inr (by simp [Value.ownBlock]; exact hne.out)))
  have B1 := hide (show Below base w W1 from (B0.out.mono hbase).grown T1.out (by have := B0.out.size; omega) (fun k hk => by injection hk with hk; omega))
  clear hsrc hh hcl hW0 hW1
  have f0 := RX.out.cell (k := 0) rfl
  have f1 := R1.out.cell (k := 1) rfl
  go_enter Try.func36, Try.ntmps36
  go_upto_region 1 with (fail)
  rw [HW0.out]
  have hna : ¬ (c1 = a) := by omega
  go_wp2_with (simp only [HCP])
  go_loopw [15] (fun i wr => WrRel S g1 c1 g2 c2 zs w base a m i wr) (fun i _ => m - (intOf i).toNat)
  case atStart =>
    refine ⟨0, by omega, rfl, R1, C1, hide ?_, B1⟩
    rw [List.take_zero, splice_none _ _ (by rw [cellsB_length, hok.out.len]; omega)]
    exact O21.out
  case round =>
    obtain ⟨k, hk, rfl, RX', P1, P2, BB⟩ := hrel
    clear f0 f1 C1 O1 O2 RX R1 T1 O21 B1 HCP HH HCL HS HW0 HW1 B0 hO
    have f0 := RX'.out.cell (k := 0) rfl
    have f1 := RX'.out.cell (k := 1) rfl
    by_cases hlt : k < m
    · have hlen2 := hide P2.out.1
      have hc : (wr.cell? ⟨g2, a + k, none⟩).isSome = true := by rw [P2.out.cellAt (a + k) (by omega), List.getElem?_eq_getElem (by rw [hlen2.out]; omega)]; rfl
      obtain ⟨u, hc⟩ := Option.isSome_iff_exists.1 hc
      have hf : wr.frozen? ⟨g2, a + k, none⟩ = false := P2.out.frozenAt (a + k)
      have hst := P2.out.stored (a + k) (.bool true)
      rw [splice_step _ _ _ _ (Value.bool true) (by rw [cellsB_length, hok.out.len]; simp; omega) (by rw [List.getElem?_replicate]; simp [hlt])] at hst
      have Hst1 := hide hst.1
      have Hst2 := hide hst.2
      clear hst
      go_wp2_with fail
      refine ⟨⟨k + 1, by omega, by go_num, ?_, ?_, Hst1, ?_⟩, by simp [intOf]; omega⟩
      · exact hide (RX'.out.far (p := ⟨g2, a + k, none⟩) (by simp; omega) _)
      · exact hide (P1.out.kept Hst2.out (.inr (by simp [Value.ownBlock]; exact fun h => hne.out h.symm)))
      · exact hide (BB.out.setCell (p := ⟨g2, a + k, none⟩) (by simp; omega) _)
    · obtain rfl : k = m := by omega
      rw [List.take_of_length_le (by simp)] at P2
      go_wp2_with fail
      go_end0
      refine ⟨rfl, ⟨hok.out.put (by rw [hl.out]; exact ha) hb.out, ?_, ?_⟩, BB.out⟩
      · rw [put_len (by rw [hl.out]; exact ha), show (putS S a zs).bs = splice S.bs a zs from rfl, cellsU8_splice]
        exact P1.out
      · rw [put_len (by rw [hl.out]; exact ha), show (putS S a zs).us = splice S.us a (List.replicate zs.length true) from rfl, cellsB_splice, cellsB_all, hl.out]
        exact P2.out
end Go.Proofs.Ytlkikjgapingjaa
