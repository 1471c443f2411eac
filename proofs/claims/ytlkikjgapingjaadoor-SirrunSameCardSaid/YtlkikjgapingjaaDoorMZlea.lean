import Derived.Test.YtlkikjgapingjaaDoorMZent
set_option linter.unusedVariables false
set_option linter.unusedSimpArgs false
section
/-
  The contract of the machine's leave (chapter 8). Conditions: those of the types.
-/
namespace Go.Proofs.YtlkikjgapingjaaDoor
open Go.RowKit

section
variable {g base : Nat} {vi vt vf vs : Value} {zs : List Zn} {s : Mch}
theorem own_shrink {w : World} {e size k c : Nat} {A : Option Addr} {xs : List Value} (h : w.ownsRow base e size (.slice A (k + 1) c) (k + 1) xs) : w.ownsRow base e size (.slice A k c) k (xs.take (k * size)) := by
  have hl := h.1
  rcases h.2 with ⟨e1, h0⟩ | ⟨G, cap, cur, hv, hb, hh, hn, hm, hs, ht⟩
  · omega
  · injection hv with h1 h2 h3
    subst h1 h3
    refine ⟨by rw [List.length_take, hl, Nat.min_eq_left (Nat.mul_le_mul_right _ (by omega))], .inr ⟨G, c, cur, rfl, hb, hh, by omega, hm, hs, ?_⟩⟩
    rw [← ht, List.take_take, Nat.min_eq_left (Nat.mul_le_mul_right _ (by omega))]
theorem MRaw.left_ {w : World} {A : Option Addr} {k c : Nat} {ys : List Zn} {z : Zn} (h : MRaw w g base vi vt vf (.slice A (k + 1) c) (ys ++ [z]) s) (hk : ys.length = k) :
    MRaw (w.setCell ⟨g, 25, none⟩ (.slice A k c)) g base vi vt vf (.slice A k c) ys { s with st := s.st.dropLast } := by
  have hg : w.grownBy (w.setCell ⟨g, 25, none⟩ (.slice A k c)) (some g) := put_grown w g 25 _
  have hB : Below base w (w.setCell ⟨g, 25, none⟩ (.slice A k c)) := (Below.refl _ _).setCell h.gb _
  have hst : s.st = ys.map (·.1) ++ [z.1] := by rw [← h.eq, List.map_append]; rfl
  have hsl : s.st.length = k + 1 := by rw [hst, List.length_append, List.length_map, hk]; rfl
  have hdl : s.st.dropLast = ys.map (·.1) := by rw [hst, List.dropLast_concat]
  refine ⟨?_, h.gb, h.r8, h.inp.below hB, h.tr.kept hg (own_off h.tr h.row (by decide)), ?_, hdl.symm, ?_, fun b hb => h.low b (by rw [blocksZ_app]; exact List.mem_append_left _ hb), fun z' hz => ?_⟩
  · have := h.row.set_ 25 (.slice A k c)
    rwa [mcells_set h.r8 9] at this
  · have ho := h.st
    rw [hsl] at ho
    have h2 := own_shrink ho
    rw [acells_app, List.take_append_of_le_length (by rw [acells_len, hk]; exact Nat.le_refl _), List.take_of_length_le (by rw [acells_len, hk]; exact Nat.le_refl _)] at h2
    show World.ownsRow _ base _ 4 _ s.st.dropLast.length _
    rw [show s.st.dropLast.length = k by rw [List.length_dropLast, hsl]; rfl]
    exact h2.kept hg (own_off h2 h.row (by decide))
  · have := h.asc
    rw [blocksZ_app, List.pairwise_append] at this
    exact this.1
  · have hm := h.maps z' (List.mem_append_left _ hz)
    exact ⟨hm.1.setCell ⟨g, 25, none⟩ (hm.1.not_row h.row) _, hm.2.setCell ⟨g, 25, none⟩ (hm.2.not_row h.row) _⟩
theorem MRaw.resulted {w : World} (h : MRaw w g base vi vt vf vs zs s) (V : Nat) : MRaw ((w.setCell ⟨g, 19, none⟩ (.int .u64 (lo V))).setCell ⟨g, 20, none⟩ (.int .u64 (hi V))) g base vi vt vf vs zs { s with res := V } := by
  refine h.store2 19 20 _ _ ?_ rfl rfl rfl (Nat.le_refl _) h.r8
  unfold mcells
  have h3 : (vcells s.regs).length = 16 := by rw [vcells_len, h.r8]
  rw [List.set_append_right _ _ (by omega), List.set_append_right _ _ (by omega), h3]
  rfl
set_option maxHeartbeats 4000000 in
theorem leave_any (w : World) (hn : Hid (1 ≤ s.st.length)) (hl : Hid (s.st.length ≤ 1000000)) (h : Hid (MRaw w g base vi vt vf vs zs s)) :
    Calls Tryd.prog 46 #[.pointer (some ⟨g, 0, none⟩)] w fun e w' => e = .returned (.tuple #[]) ∧ (∃ vs' zs', MRaw w' g base vi vt vf vs' zs' s.leave) ∧ Below base w w' := by
  obtain ⟨G, c, k, z, ys, ht⟩ := h.out.topAt hn.out hl.out
  obtain ⟨rfl, rfl, hk, -, -, -, -, -, hkm⟩ := ht
  have hcap : k + 1 ≤ c ∧ c ≤ 9223372036854775807 := by
    rcases h.out.st.2 with ⟨e1, _⟩ | ⟨_, cap, _, hv, _, _, hn2, hm, _⟩
    · cases e1
    · injection hv with _ h2 h3
      subst h3
      have := h.out.len
      rw [List.length_append] at this
      simp only [List.length_cons, List.length_nil] at this
      exact ⟨by omega, hm⟩
  obtain ⟨hc1, hc2⟩ := hcap
  have hlen := hide (show s.st.length = k + 1 by have := h.out.len; rw [List.length_append, hk] at this; simp only [List.length_cons, List.length_nil] at this; omega)
  have c0 := h.out.far 9 rfl
  have c1 := h.out.row.free 25
  have H2 := hide (h.out.left_ hk)
  have H2 := hide (H2.out.drewN 1)
  obtain ⟨W2, hW2⟩ : ∃ W2, (w.setCell ⟨g, 25, none⟩ (.slice (some ⟨G, 0, none⟩) k c)).drewN 1 = W2 := ⟨_, rfl⟩
  rw [hW2] at H2
  have HW2 := hide (show (w.setCell ⟨g, 25, none⟩ (.slice (some ⟨G, 0, none⟩) k c)).drew = W2 from hW2)
  have B2 := hide (show Below base w W2 by rw [← hW2]; exact below_draws ((Below.refl _ _).setCell (p := ⟨g, 25, none⟩) h.out.gb _) 1)
  have hk0 : (0 : Int) ≤ (k : Int) := by omega
  have hkc : (k : Int) ≤ (c : Int) := by omega
  clear hW2
  go_enter Tryd.func46, Tryd.ntmps46
  go_upto_region 1 with (first | go_region)
  rw [HW2.out]
  have d0 := H2.out.far 9 rfl
  obtain ⟨q0, q1⟩ := H2.out.reg (i := 0) (by omega)
  have r0 := H2.out.far 3 rfl
  have r1 := H2.out.far 4 rfl
  have r2 := H2.out.row.free 19
  have r3 := H2.out.row.free 20
  clear c0 c1 HW2
  by_cases hk0' : k = 0
  · subst hk0'
    obtain ⟨V, hV⟩ : ∃ V, s.regs.getD 0 0 = V := ⟨_, rfl⟩
    rw [show ({ s with st := s.st.dropLast } : Mch).regs.getD 0 0 = V from hV] at q0 q1
    obtain ⟨W3, hW3⟩ : ∃ W3, (W2.setCell ⟨g, 19, none⟩ (.int .u64 (lo V))).setCell ⟨g, 20, none⟩ (.int .u64 (hi V)) = W3 := ⟨_, rfl⟩
    have H3 := hide (show MRaw W3 g base vi vt vf (.slice (some ⟨G, 0, none⟩) 0 c) ys { s with st := s.st.dropLast, res := V } by rw [← hW3]; exact H2.out.resulted V)
    have B3 := hide (show Below base w W3 by rw [← hW3]; exact B2.out.trans (((Below.refl _ _).setCell (p := ⟨g, 19, none⟩) h.out.gb _).setCell (p := ⟨g, 20, none⟩) h.out.gb _))
    have HV := hide hV
    have HW3 := hide hW3
    clear hV hW3 hk
    go_upto_region 3 with (fail)
    rw [HW3.out]
    have ce := cend_any 0 W3 H3
    go_wp2_with fail
    refine ce.mono ?_
    rintro e w7 ⟨rfl, h7, hg7⟩
    have H7 := hide h7
    have B7 := hide (B3.out.trans (H3.out.gB hg7))
    clear ce h7 hg7
    go_wp2_with fail
    go_end0
    refine ⟨rfl, ⟨.slice (some ⟨G, 0, none⟩) 0 c, ys, ?_⟩, B7.out⟩
    have q := H7.out
    unfold Mch.leave
    dsimp only
    rw [if_pos (by have := hlen.out; omega), show s.reg 0 = V from HV.out]
    exact q
  · have hkz : ¬ ((k : Int) = 0) := by omega
    have hkb : ((k : Int) == 0) = false := by rw [beq_eq_false_iff_ne]; exact hkz
    go_wp2_with fail
    go_end0
    refine ⟨rfl, ⟨.slice (some ⟨G, 0, none⟩) k c, ys, ?_⟩, B2.out⟩
    unfold Mch.leave
    dsimp only
    rw [if_neg (by rw [hlen.out]; omega)]
    exact H2.out
end
end Go.Proofs.YtlkikjgapingjaaDoor
end
