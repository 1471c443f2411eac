import Derived.Test.YtlkcjjalkdlicaaDoorMZcall
set_option linter.unusedVariables false
set_option linter.unusedSimpArgs false
section
/-
  The contract of the machine's leave (chapter 8). Conditions: those of the types.
-/
namespace Go.Proofs.YtlkcjjalkdlicaaDoor
open Go.RowKit

section
variable {g base : Nat} {vi vt vf vs : Value} {zs : List Zn} {s : Mch}
theorem own_shrink {w : World} {e size k c : Nat} {A : Option Addr} {xs : List Value} (h : w.ownsRow base e size (.slice A (k + 1) c) (k + 1) xs) : w.ownsRow base e size (.slice A k c) k (xs.take (k * size)) := by
  have hl := h.1
  rcases h.2 with ⟨e1, h0⟩ | ⟨G, cap, cur, hv, hb, hh, hn, hm, hs, ht⟩
  · omega
  · injection hv with h1 h2 h3
    subst h1 h3
    refine ⟨by rw [List.length_take, hl, Nat.min_eq_left (Nat.mul_le_mul_right _ (by omega))], .inr ⟨G, c, cur, rfl, hb, hh, by omega, hm, hs, ?_⟩⟩
    rw [← ht, List.take_take, Nat.min_eq_left (Nat.mul_le_mul_right _ (by omega))]
theorem MRaw.left_ {w : World} {A : Option Addr} {k c : Nat} {ys : List Zn} {z : Zn} (h : MRaw w g base vi vt vf (.slice A (k + 1) c) (ys ++ [z]) s) (hk : ys.length = k) :
    MRaw (w.setCell ⟨g, 25, none⟩ (.slice A k c)) g base vi vt vf (.slice A k c) ys { s with st := s.st.dropLast } := by
  have hg : w.grownBy (w.setCell ⟨g, 25, none⟩ (.slice A k c)) (some g) := put_grown w g 25 _
  have hB : Below base w (w.setCell ⟨g, 25, none⟩ (.slice A k c)) := (Below.refl _ _).setCell h.gb _
  have hst : s.st = ys.map (·.1) ++ [z.1] := by rw [← h.eq, List.map_append]; rfl
  have hsl : s.st.length = k + 1 := by rw [hst, List.length_append, List.length_map, hk]; rfl
  have hdl : s.st.dropLast = ys.map (·.1) := by rw [hst, List.dropLast_concat]
  refine ⟨?_, h.gb, h.r8, h.inp.below hB, h.tr.kept hg (own_off h.tr h.row (by decide)), ?_, hdl.symm, ?_, fun b hb => h.low b (by rw [blocksZ_app]; exact List.mem_append_left _ hb), fun z' hz => ?_⟩
  · have := h.row.set_ 25 (.slice A k c)
    rwa [mcells_set h.r8 9] at this
  · have ho := h.st
    rw [hsl] at ho
    have h2 := own_shrink ho
    rw [acells_app, List.take_append_of_le_length (by rw [acells_len, hk]; exact Nat.le_refl _), List.take_of_length_le (by rw [acells_len, hk]; exact Nat.le_refl _)] at h2
    show World.ownsRow _ base _ 4 _ s.st.dropLast.length _
    rw [show s.st.dropLast.length = k by rw [List.length_dropLast, hsl]; rfl]
    exact h2.kept hg (own_off h2 h.row (by decide))
  · have := h.asc
    rw [blocksZ_app, List.pairwise_append] at this
    exact this.1
  · have hm := h.maps z' (List.mem_append_left _ hz)
    exact ⟨hm.1.setCell ⟨g, 25, none⟩ (hm.1.not_row h.row) _, hm.2.setCell ⟨g, 25, none⟩ (hm.2.not_row h.row) _⟩
theorem MRaw.resulted {w : World} (h : MRaw w g base vi vt vf vs zs s) (V : Nat) : MRaw ((w.setCell ⟨g, 19, none⟩ (.int .u64 (lo V))).setCell ⟨g, 20, none⟩ (.int .u64 (hi V))) g base vi vt vf vs zs { s with res := V } := by
  refine h.store2 19 20 _ _ ?_ rfl rfl rfl (Nat.le_refl _) h.r8
  unfold mcells
  have h3 : (vcells s.regs).length = 16 := by rw [vcells_len, h.r8]
  rw [List.set_append_right _ _ (by omega), List.set_append_right _ _ (by omega), h3]
  rfl
set_option maxHeartbeats 4000000 in
theorem leave_any (w : World) (hn : Hid (1 ≤ s.st.length)) (hl : Hid (s.st.length ≤ 1000000)) (h : Hid (MRaw w g base vi vt vf vs zs s)) :
    Calls Tryd.prog 111 #[.pointer (some ⟨g, 0, none⟩)] w fun e w' => e = .returned (.tuple #[]) ∧ (∃ vs' zs', MRaw w' g base vi vt vf vs' zs' s.leave) ∧ Below base w w' := by
  obtain ⟨G, c, k, z, ys, ht⟩ := h.out.topAt hn.out hl.out
  obtain ⟨rfl, rfl, hk, -, -, -, -, -, hkm⟩ := ht
  have hcap : k + 1 ≤ c ∧ c ≤ 9223372036854775807 := by
    rcases h.out.st.2 with ⟨e1, _⟩ | ⟨_, cap, _, hv, _, _, hn2, hm, _⟩
    · cases e1
    · injection hv with _ h2 h3
      subst h3
      have := h.out.len
      rw [List.length_append] at this
      simp only [List.length_cons, List.length_nil] at this
      exact ⟨by omega, hm⟩
  obtain ⟨hc1, hc2⟩ := hcap
  have hlen := hide (show s.st.length = k + 1 by have := h.out.len; rw [List.length_append, hk] at this; simp only [List.length_cons, List.length_nil] at this; omega)
  have c0 := h.out.far 9 rfl
  have c1 := h.out.row.free 25
  have H2 := hide (h.out.left_ hk)
  have H2 := hide (H2.out.drewN 1)
  obtain ⟨W2, hW2⟩ : ∃ W2, (w.setCell ⟨g, 25, none⟩ (.slice (some ⟨G, 0, none⟩) k c)).drewN 1 = W2 := ⟨_, rfl⟩
  rw [hW2] at H2
  have HW2 := hide (show (w.setCell ⟨g, 25, none⟩ (.slice (some ⟨G, 0, none⟩) k c)).drew = W2 from hW2)
  have B2 := hide (show Below base w W2 by rw [← hW2]; exact below_draws ((Below.refl _ _).setCell (p := ⟨g, 25, none⟩) h.out.gb _) 1)
  have hk0 : (0 : Int) ≤ (k : Int) := by omega
  have hkc : (k : Int) ≤ (c : Int) := by omega
  clear hW2
  go_enter Tryd.func111, Tryd.ntmps111
  go_upto_region 1 with (first | go_region)
  rw [HW2.out]
  have d0 := H2.out.far 9 rfl
  obtain ⟨q0, q1⟩ := H2.out.reg (i := 0) (by omega)
  have r0 := H2.out.far 3 rfl
  have r1 := H2.out.far 4 rfl
  have r2 := H2.out.row.free 19
  have r3 := H2.out.row.free 20
  clear c0 c1 HW2
  by_cases hk0' : k = 0
  · subst hk0'
    obtain ⟨V, hV⟩ : ∃ V, s.regs.getD 0 0 = V := ⟨_, rfl⟩
    rw [show ({ s with st := s.st.dropLast } : Mch).regs.getD 0 0 = V from hV] at q0 q1
    obtain ⟨W3, hW3⟩ : ∃ W3, (W2.setCell ⟨g, 19, none⟩ (.int .u64 (lo V))).setCell ⟨g, 20, none⟩ (.int .u64 (hi V)) = W3 := ⟨_, rfl⟩
    have H3 := hide (show MRaw W3 g base vi vt vf (.slice (some ⟨G, 0, none⟩) 0 c) ys { s with st := s.st.dropLast, res := V } by rw [← hW3]; exact H2.out.resulted V)
    have B3 := hide (show Below base w W3 by rw [← hW3]; exact B2.out.trans (((Below.refl _ _).setCell (p := ⟨g, 19, none⟩) h.out.gb _).setCell (p := ⟨g, 20, none⟩) h.out.gb _))
    have HV := hide hV
    have HW3 := hide hW3
    clear hV hW3 hk
    go_upto_region 3 with (fail)
    rw [HW3.out]
    have ce := cend_any 0 W3 H3
    go_wp2_with fail
    refine ce.mono ?_
    rintro e w7 ⟨rfl, h7, hg7⟩
    have H7 := hide h7
    have B7 := hide (B3.out.trans (H3.out.gB hg7))
    clear ce h7 hg7
    go_wp2_with fail
    go_end0
    refine ⟨rfl, ⟨.slice (some ⟨G, 0, none⟩) 0 c, ys, ?_⟩, B7.out⟩
    have q := H7.out
    unfold Mch.leave
    dsimp only
    rw [if_pos (by have := hlen.out; omega), show s.reg 0 = V from HV.out]
    exact q
  · have hkz : ¬ ((k : Int) = 0) := by omega
    have hkb : ((k : Int) == 0) = false := by rw [beq_eq_false_iff_ne]; exact hkz
    go_wp2_with fail
    go_end0
    refine ⟨rfl, ⟨.slice (some ⟨G, 0, none⟩) k c, ys, ?_⟩, B2.out⟩
    unfold Mch.leave
    dsimp only
    rw [if_neg (by rw [hlen.out]; omega)]
    exact H2.out
end
end Go.Proofs.YtlkcjjalkdlicaaDoor
end

section
/-
  What stores make of the activation that runs (chapter 8): its next instruction, its slots, its arguments. No function of the program is named here.
-/
namespace Go.Proofs.YtlkcjjalkdlicaaDoor
open Go.RowKit

section
variable {w w' : World} {g base : Nat} {vi vt vf vs : Value} {zs ys : List Zn} {z : Zn} {s : Mch} {G c k : Nat}
/-- The maps of all activations, of at most K entries. -/
def MapsK (w : World) (zs : List Zn) (K : Nat) : Prop := ∀ z ∈ zs, CellsAt w z.2.1 K z.1.sl ∧ CellsAt w z.2.2 K z.1.ar
theorem MapsK.call {K : Nat} (h : MapsK w zs K) (hb : Below w.heap.size w w') : MapsK w' zs K := fun z hz => ⟨(h z hz).1.below hb (h z hz).1.lt, (h z hz).2.below hb (h z hz).2.lt⟩
theorem MapsK.drewN {K : Nat} (h : MapsK w zs K) (n : Nat) : MapsK (w.drewN n) zs K := h
theorem MapsK.put {K t : Nat} {cs : Array Value} {fr : Nat × Nat} (h : MapsK w zs K) (hr : w.heap[g]? = some (.cells cs t fr)) (j : Nat) (u : Value) : MapsK (w.setCell ⟨g, j, none⟩ u) zs K := fun z hz =>
  ⟨(h z hz).1.setCell ⟨g, j, none⟩ ((h z hz).1.not_row hr) u, (h z hz).2.setCell ⟨g, j, none⟩ ((h z hz).2.not_row hr) u⟩
theorem st_top (h : (ys ++ [z]).map (·.1) = s.st) : s.top = z.1 ∧ s.st.dropLast = ys.map (·.1) := by
  have e : s.st = ys.map (·.1) ++ [z.1] := by rw [← h, List.map_append]; rfl
  refine ⟨?_, by rw [e, List.dropLast_concat]⟩
  unfold Mch.top
  rw [e, List.getLastD_concat]
theorem acells_set (ys : List Zn) (z z' : Zn) (j : Nat) (u : Value) (hj : j < 4) (hz : acell z' = (acell z).set j u) : (acells (ys ++ [z])).set (ys.length * 4 + j) u = acells (ys ++ [z']) := by
  have := flat_set acell_len (ys ++ [z]) ys.length z z' (by simp) j hj u hz
  unfold acells
  rw [this]
  congr 1
  rw [List.set_append_right _ _ (Nat.le_refl _), Nat.sub_self, List.set_cons_zero]
/-- The next instruction is stored. -/
theorem MRaw.pcSet (h : MRaw w g base vi vt vf (.slice (some ⟨G, 0, none⟩) (k + 1) c) (ys ++ [z]) s) (hk : ys.length = k) (n : Nat) :
    MRaw (w.setCell ⟨G, k * 4 + 1, none⟩ (.int .i64 (n : Int))) g base vi vt vf (.slice (some ⟨G, 0, none⟩) (k + 1) c) (ys ++ [({ z.1 with pc := n }, z.2)]) (s.jump n) ∧ w.grownBy (w.setCell ⟨G, k * 4 + 1, none⟩ (.int .i64 (n : Int))) (some G) ∧ base ≤ G ∧ (∃ cs, w.heap[G]? = some (.cells cs 137 (0, 0))) := by
  have hg := put_grown w G (k * 4 + 1) (.int .i64 (n : Int))
  obtain ⟨hb, cs, hh⟩ : base ≤ G ∧ ∃ cs, w.heap[G]? = some (.cells cs 137 (0, 0)) := by
    rcases h.st.2 with ⟨e1, _⟩ | ⟨G', cap, cur, hv, hb, hh, _⟩
    · cases e1
    · injection hv with hv
      injection hv with hv
      injection hv with hv
      subst hv
      exact ⟨hb, cur, hh⟩
  obtain ⟨ht, hd⟩ := st_top h.eq
  have hB : Below base w (w.setCell ⟨G, k * 4 + 1, none⟩ (.int .i64 (n : Int))) := (Below.refl _ _).setCell hb _
  obtain ⟨a1, a2, _, _⟩ := h.off_grown (row := some G) rfl hh hg
  have hst2 : (s.jump n).st = s.st.dropLast ++ [{ s.top with pc := n }] := rfl
  have hlen : (s.jump n).st.length = s.st.length := by
    have h1 := h.len
    rw [hst2, List.length_append, List.length_dropLast]
    rw [List.length_append] at h1
    simp only [List.length_cons, List.length_nil] at h1 ⊢
    omega
  refine ⟨⟨a1 (by decide), h.gb, h.r8, h.inp.below hB, a2 (by decide), ?_, ?_, ?_, ?_, ?_⟩, hg, hb, cs, hh⟩
  · have hsl : s.st.length = k + 1 := by
      have := h.len
      rw [List.length_append, hk] at this
      simp only [List.length_cons, List.length_nil] at this
      omega
    have ho := h.st
    rw [hsl] at ho
    rw [hlen, hsl, ← acells_set ys z ({ z.1 with pc := n }, z.2) 1 (.int .i64 (n : Int)) (by omega) rfl, hk]
    exact (ho.stored (k * 4 + 1) (.int .i64 (n : Int))).1
  · rw [hst2, ht, hd, List.map_append]
    rfl
  · have := h.asc
    rw [blocksZ_app] at this ⊢
    exact this
  · intro b hb
    refine h.low b ?_
    rw [blocksZ_app] at hb ⊢
    exact hb
  · intro z' hz
    rcases List.mem_append.1 hz with hz | hz
    · have hm := h.maps z' (List.mem_append_left _ hz)
      exact ⟨hm.1.setCell ⟨G, k * 4 + 1, none⟩ (hm.1.not_row hh) _, hm.2.setCell ⟨G, k * 4 + 1, none⟩ (hm.2.not_row hh) _⟩
    · obtain rfl : z' = ({ z.1 with pc := n }, z.2) := by simpa using hz
      have hm := h.maps z (by simp)
      exact ⟨hm.1.setCell ⟨G, k * 4 + 1, none⟩ (hm.1.not_row hh) _, hm.2.setCell ⟨G, k * 4 + 1, none⟩ (hm.2.not_row hh) _⟩
/-- A map of the activation that runs has changed. -/
theorem MRaw.mapSet {b : Nat} (z' : Zn) (h : MRaw w g base vi vt vf vs (ys ++ [z]) s) (hb : b = z.2.1 ∨ b = z.2.2) (hz : z'.2 = z.2) (hf : z'.1.f = z.1.f) (hp : z'.1.pc = z.1.pc) (hg : w.grownBy w' (some b)) (h1 : CellsAt w' z.2.1 s.steps z'.1.sl) (h2 : CellsAt w' z.2.2 s.steps z'.1.ar) :
    MRaw w' g base vi vt vf vs (ys ++ [z']) (s.setTop z'.1) ∧ Below base w w' := by
  have hbb : b ∈ blocksZ (ys ++ [z]) := by
    rw [blocksZ_app]
    refine List.mem_append_right _ ?_
    show b ∈ [z.2.1, z.2.2]
    rcases hb with rfl | rfl <;> simp
  have hlow := h.low b hbb
  have hB : Below base w w' := (Below.refl _ _).grown hg h.bl (fun j hj => by injection hj with hj; omega)
  have hmap : ∃ K m, CellsAt w b K m := by
    rcases hb with rfl | rfl
    · exact ⟨_, _, (h.maps z (by simp)).1⟩
    · exact ⟨_, _, (h.maps z (by simp)).2⟩
  obtain ⟨K, m, hm⟩ := hmap
  have own : ∀ {e size n : Nat} {v : Value} {xs : List Value}, w.ownsRow base e size v n xs → v.ownBlock = none ∨ v.ownBlock ≠ some b := fun {e size n v xs} ho => by
    rcases ho.2 with ⟨rfl, _⟩ | ⟨j, cap, cur, rfl, _, hh, _⟩
    · exact .inl rfl
    · exact .inr (fun e => by injection e with e; exact hm.not_row hh e.symm)
  obtain ⟨ht, hd⟩ := st_top h.eq
  have hst2 : (s.setTop z'.1).st = s.st.dropLast ++ [z'.1] := rfl
  have hlen : (s.setTop z'.1).st.length = s.st.length := by
    have h1 := h.len
    rw [hst2, List.length_append, List.length_dropLast]
    rw [List.length_append] at h1
    simp only [List.length_cons, List.length_nil] at h1 ⊢
    omega
  have hbz : blocksZ (ys ++ [z']) = blocksZ (ys ++ [z]) := by
    rw [blocksZ_app, blocksZ_app]
    show _ ++ [z'.2.1, z'.2.2] = _ ++ [z.2.1, z.2.2]
    rw [hz]
  have hac : acells (ys ++ [z']) = acells (ys ++ [z]) := by
    rw [acells_app, acells_app]
    show _ ++ acell z' = _ ++ acell z
    unfold acell
    rw [hz, hf, hp]
  refine ⟨⟨h.row.grown hg (fun e => by injection e with e; exact hm.not_row h.row e.symm), h.gb, h.r8, h.inp.below hB, h.tr.kept hg (own h.tr), ?_, ?_, ?_, ?_, ?_⟩, hB⟩
  · rw [hlen, hac]; exact h.st.kept hg (own h.st)
  · rw [hst2, hd, List.map_append]; rfl
  · rw [hbz]; exact h.asc
  · rw [hbz]; exact h.low
  · intro z2 hz2
    rcases List.mem_append.1 hz2 with hz2 | hz2
    · have hm2 := h.maps z2 (List.mem_append_left _ hz2)
      have hasc := h.asc
      rw [blocksZ_app, List.pairwise_append] at hasc
      have lt1 : ∀ a, (a = z2.2.1 ∨ a = z2.2.2) → a ≠ b := fun a ha => by
        have h1 : a ∈ blocksZ ys := by
          unfold blocksZ
          exact List.mem_flatMap.2 ⟨z2, hz2, by rcases ha with rfl | rfl <;> simp⟩
        have h2 : b ∈ blocksZ [z] := by
          show b ∈ [z.2.1, z.2.2]
          rcases hb with rfl | rfl <;> simp
        have := hasc.2.2 a h1 b h2
        omega
      exact ⟨hm2.1.kept hg (fun e => by injection e with e; exact lt1 _ (.inl rfl) e), hm2.2.kept hg (fun e => by injection e with e; exact lt1 _ (.inr rfl) e)⟩
    · obtain rfl : z2 = z' := by simpa using hz2
      rw [hz]
      exact ⟨h1, h2⟩
theorem MRaw.two (h : MRaw w g base vi vt vf vs (ys ++ [z]) s) : z.2.1 ≠ z.2.2 := by
  have := h.asc
  rw [blocksZ_app, List.pairwise_append] at this
  have h2 : [z.2.1, z.2.2].Pairwise (· < ·) := this.2.1
  simp at h2
  omega
end
end Go.Proofs.YtlkcjjalkdlicaaDoor
end
