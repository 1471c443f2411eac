import Derived.Test.YtipjeihfhnilcaaMKmp
set_option linter.unusedVariables false
set_option linter.unusedSimpArgs false
section
/-
  The contract of Memory's write (chapter 9): bytes copied into a stack of the caller's own, and marked as used. Conditions: those of the types; the bytes lie on the stack; at least one.
-/
namespace Go.Proofs.Ytipjeihfhnilcaa
open Go.RowKit
attribute [local go_sem ↓] Go.wp_at_zero Go.wp_at_succ

section
variable {g o base : Nat} {T : TypeId} {cs : List Value} {A1 A2 : Option Addr} {c1 c2 : Nat} {S : Sk}
/-- What holds at the head of the loop. -/
def MwRel (S : Sk) (T : TypeId) (cs : List Value) (g g1 c1 g2 c2 : Nat) (zs : List Int) (w : World) (base a m : Nat) (i : Value) (wr : World) : Prop :=
  ∃ k : Nat, k ≤ m ∧ i = .int .i64 (k : Int) ∧ Hid (Row wr g T cs) ∧
    Hid (wr.ownsRow base 5 1 (.slice (some ⟨g1, 0, none⟩) S.bs.length c1) S.bs.length (splice (cellsU8 S.bs) a (cellsU8 zs))) ∧ Hid (wr.ownsRow base 4 1 (.slice (some ⟨g2, 0, none⟩) S.bs.length c2) S.bs.length (splice (cellsB S.us) a ((List.replicate m (Value.bool true)).take k))) ∧ Hid (MKp w wr g base)

set_option maxRecDepth 100000 in
set_option maxHeartbeats 4000000 in
theorem mwrite_any (a m : Nat) (A3 : Option Addr) (c3 : Nat) (zs : List Int) (w : World) (h : Hid (MemAt w g o base T cs A1 c1 A2 c2 S)) (hz : Hid (Sees w w.heap.size A3 (cellsU8 zs))) (hl : Hid (zs.length = m)) (hb : Hid (∀ z ∈ zs, 0 ≤ z ∧ z ≤ 255)) (hm : 1 ≤ m) (h16 : m ≤ 16) (ha : a + m ≤ S.bs.length) :
    Calls Try.prog 61 #[.pointer (some ⟨g, o, none⟩), .int .i64 (a : Int), .slice A3 m c3] w fun e w' => e = .returned (.tuple #[]) ∧ MemAt w' g o base T cs A1 c1 A2 c2 (putS S a zs) ∧ MKp w w' g base := by
  have hok := hide h.out.own.ok
  have hmost := hok.out.most
  obtain ⟨g1, q1, hv1, hg1, hgl1, hn1, hM1⟩ := own_block h.out.own.o1 (show 0 < S.bs.length by omega)
  injection hv1 with hv1 _ hv3
  subst hv1 hv3
  obtain ⟨g2, q2, hv1, hg2, hgl2, hn2, hM2⟩ := own_block h.out.own.o2 (show 0 < S.bs.length by omega)
  injection hv1 with hv1 _ hv3
  subst hv1 hv3
  obtain ⟨ad, hA3, hsrc⟩ := hz.out.src (show 0 < (cellsU8 zs).length by rw [cellsU8_length, hl.out]; omega)
  subst hA3
  have hne := hide (show g2 ≠ g1 from fun e => by
    rcases kown_apart h.out.own.o1 h.out.own.o2 (by decide) with h1 | h1
    · simp [Value.ownBlock] at h1
    · exact h1 (by simp [Value.ownBlock, e]))
  have hgg1 := hide (show g1 ≠ g from fun e => by
    rcases own_offR h.out.own.o1 h.out.row h.out.t1 with h1 | h1
    · simp [Value.ownBlock] at h1
    · exact h1 (by simp [Value.ownBlock, e]))
  have hgg2 := hide (show g2 ≠ g from fun e => by
    rcases own_offR h.out.own.o2 h.out.row h.out.t2 with h1 | h1
    · simp [Value.ownBlock] at h1
    · exact h1 (by simp [Value.ownBlock, e]))
  obtain ⟨cur, hh, hcl, hct, _⟩ := own_heap h.out.own.o1
  have HH := hide hh
  have HCL := hide hcl
  have HS := hide (show ∀ (j : Nat) (v : Value), (cellsU8 zs)[j]? = some v → w.cell? (ad.add j) = some v from fun j v hj => hsrc j v hj)
  have hlen := hide (show (cellsU8 zs).length = m by rw [cellsU8_length]; exact hl.out)
  have C1 := hide (own_copied (off := a) (cs := cellsU8 zs) (base := base) hh hcl hn1 hM1 hg1 (by rw [hlen.out]; exact ha))
  rw [hct] at C1
  obtain ⟨W1, hW1⟩ : ∃ W, w.setRow g1 (cur.take a ++ (cellsU8 zs ++ cur.drop (a + (cellsU8 zs).length))).toArray = W := ⟨_, rfl⟩
  have HW1 := hide hW1
  have T1 := hide (show w.grownBy W1 (some g1) by rw [← hW1]; exact row_turned w g1 _)
  rw [hW1] at C1
  have HCP : ∀ ty, (Builtin.copy_ #[22, 22] ty #[.slice (some ⟨g1, a, none⟩) (S.bs.length - a) (c1 - a), .slice (some ad) m c3]).run Try.prog w = .ok (goInt (cellsU8 zs).length) W1 := by
    intro ty
    rw [← hW1]
    have := run_copy_row (P := Try.prog) w 22 22 ty 5 g1 a (S.bs.length - a) (c1 - a) ad m c3 cur.toArray 5 (cellsU8 zs) Try.underlying22 size_u8 hh (by rw [hlen.out]; exact (Nat.min_eq_left (by omega)).symm) HS.out (by rw [hlen.out]; simp [hcl]; omega) (cellsU8_one zs)
    simpa using this
  have R1 := hide (h.out.row.grown T1.out (fun e => hgg1.out (by first | exact Option.some.inj e | exact (Option.some.inj e).symm)))
  have O21 := hide (h.out.own.o2.kept T1.out (.inr (by simp [Value.ownBlock]; exact hne.out)))
  have K1 := hide (MKp.of_row T1.out h.out.own.o1 (.inl rfl) g)
  clear hsrc hh hcl hW1
  have f0 := h.out.row.cell h.out.k0
  have f1 := R1.out.cell h.out.k1
  have hna : ¬ (c1 = a) := by omega
  go_enter Try.func61, Try.ntmps61
  go_wp2_with (simp only [HCP])
  go_loopw [18] (fun i wr => MwRel S T cs g g1 c1 g2 c2 zs w base a m i wr) (fun i _ => m - (intOf i).toNat)
  case atStart =>
    refine ⟨0, by omega, rfl, R1, C1, hide ?_, K1⟩
    rw [List.take_zero, splice_none _ _ (by rw [cellsB_length, hok.out.len]; omega)]
    exact O21.out
  case round =>
    obtain ⟨k, hk, rfl, RX', P1, P2, BB⟩ := hrel
    have hk1 := hide h.out.k1
    have HF := hide h.out
    clear f0 f1 C1 R1 T1 O21 K1 HCP HH HCL HS HW1 h
    have f1 := RX'.out.cell hk1.out
    by_cases hlt : k < m
    · have hlen2 := hide P2.out.1
      have hc : (wr.cell? ⟨g2, a + k, none⟩).isSome = true := by rw [P2.out.cellAt (a + k) (by omega), List.getElem?_eq_getElem (by rw [hlen2.out]; omega)]; rfl
      obtain ⟨u, hc⟩ := Option.isSome_iff_exists.1 hc
      have hf : wr.frozen? ⟨g2, a + k, none⟩ = false := P2.out.frozenAt (a + k)
      have hst := P2.out.stored (a + k) (.bool true)
      rw [splice_step _ _ _ _ (Value.bool true) (by rw [cellsB_length, hok.out.len]; simp; omega) (by rw [List.getElem?_replicate]; simp [hlt])] at hst
      have Hst1 := hide hst.1
      have Hst2 := hide hst.2
      clear hst
      go_wp2_with fail
      refine ⟨⟨k + 1, by omega, by go_num, ?_, ?_, Hst1, ?_⟩, by simp [intOf]; omega⟩
      · exact hide (RX'.out.grown Hst2.out (fun e => hgg2.out (by first | exact Option.some.inj e | exact (Option.some.inj e).symm)))
      · exact hide (P1.out.kept Hst2.out (.inr (by simp [Value.ownBlock]; exact fun h => hne.out h.symm)))
      · exact hide (BB.out.trans (MKp.of_row Hst2.out P2.out (.inr rfl) g))
    · obtain rfl : k = m := by omega
      rw [List.take_of_length_le (by simp)] at P2
      go_wp2_with fail
      go_end0
      have PL := put_len (S := S) (a := a) (zs := zs) (by rw [hl.out]; exact ha)
      refine ⟨rfl, ⟨RX'.out, by rw [PL]; exact HF.out.k0, by rw [PL]; exact HF.out.k1, HF.out.k2, ⟨hok.out.put (by rw [hl.out]; exact ha) hb.out, ?_, ?_⟩, HF.out.gb, HF.out.t1, HF.out.t2⟩, BB.out⟩
      · rw [PL, show (putS S a zs).bs = splice S.bs a zs from rfl, cellsU8_splice]
        exact P1.out
      · rw [PL, show (putS S a zs).us = splice S.us a (List.replicate zs.length true) from rfl, cellsB_splice, cellsB_all, hl.out]
        exact P2.out
end
end Go.Proofs.Ytipjeihfhnilcaa
end
