import Derived.Test.YtlkikjgapingjaaDoorMZlea
set_option linter.unusedVariables false
set_option linter.unusedSimpArgs false
section
/-
  What stores make of the activation that runs (chapter 8): its next instruction, its slots, its arguments. No function of the program is named here.
-/
namespace Go.Proofs.YtlkikjgapingjaaDoor
open Go.RowKit

section
variable {w w' : World} {g base : Nat} {vi vt vf vs : Value} {zs ys : List Zn} {z : Zn} {s : Mch} {G c k : Nat}
/-- The maps of all activations, of at most K entries. -/
def MapsK (w : World) (zs : List Zn) (K : Nat) : Prop := ∀ z ∈ zs, CellsAt w z.2.1 K z.1.sl ∧ CellsAt w z.2.2 K z.1.ar
theorem MapsK.call {K : Nat} (h : MapsK w zs K) (hb : Below w.heap.size w w') : MapsK w' zs K := fun z hz => ⟨(h z hz).1.below hb (h z hz).1.lt, (h z hz).2.below hb (h z hz).2.lt⟩
theorem MapsK.drewN {K : Nat} (h : MapsK w zs K) (n : Nat) : MapsK (w.drewN n) zs K := h
theorem MapsK.put {K t : Nat} {cs : Array Value} {fr : Nat × Nat} (h : MapsK w zs K) (hr : w.heap[g]? = some (.cells cs t fr)) (j : Nat) (u : Value) : MapsK (w.setCell ⟨g, j, none⟩ u) zs K := fun z hz =>
  ⟨(h z hz).1.setCell ⟨g, j, none⟩ ((h z hz).1.not_row hr) u, (h z hz).2.setCell ⟨g, j, none⟩ ((h z hz).2.not_row hr) u⟩
theorem st_top (h : (ys ++ [z]).map (·.1) = s.st) : s.top = z.1 ∧ s.st.dropLast = ys.map (·.1) := by
  have e : s.st = ys.map (·.1) ++ [z.1] := by rw [← h, List.map_append]; rfl
  refine ⟨?_, by rw [e, List.dropLast_concat]⟩
  unfold Mch.top
  rw [e, List.getLastD_concat]
theorem acells_set (ys : List Zn) (z z' : Zn) (j : Nat) (u : Value) (hj : j < 4) (hz : acell z' = (acell z).set j u) : (acells (ys ++ [z])).set (ys.length * 4 + j) u = acells (ys ++ [z']) := by
  have := flat_set acell_len (ys ++ [z]) ys.length z z' (by simp) j hj u hz
  unfold acells
  rw [this]
  congr 1
  rw [List.set_append_right _ _ (Nat.le_refl _), Nat.sub_self, List.set_cons_zero]
/-- The next instruction is stored. -/
theorem MRaw.pcSet (h : MRaw w g base vi vt vf (.slice (some ⟨G, 0, none⟩) (k + 1) c) (ys ++ [z]) s) (hk : ys.length = k) (n : Nat) :
    MRaw (w.setCell ⟨G, k * 4 + 1, none⟩ (.int .i64 (n : Int))) g base vi vt vf (.slice (some ⟨G, 0, none⟩) (k + 1) c) (ys ++ [({ z.1 with pc := n }, z.2)]) (s.jump n) ∧ w.grownBy (w.setCell ⟨G, k * 4 + 1, none⟩ (.int .i64 (n : Int))) (some G) ∧ base ≤ G ∧ (∃ cs, w.heap[G]? = some (.cells cs 81 (0, 0))) := by
  have hg := put_grown w G (k * 4 + 1) (.int .i64 (n : Int))
  obtain ⟨hb, cs, hh⟩ : base ≤ G ∧ ∃ cs, w.heap[G]? = some (.cells cs 81 (0, 0)) := by
    rcases h.st.2 with ⟨e1, _⟩ | ⟨G', cap, cur, hv, hb, hh, _⟩
    · cases e1
    · injection hv with hv
      injection hv with hv
      injection hv with hv
      subst hv
      exact ⟨hb, cur, hh⟩
  obtain ⟨ht, hd⟩ := st_top h.eq
  have hB : Below base w (w.setCell ⟨G, k * 4 + 1, none⟩ (.int .i64 (n : Int))) := (Below.refl _ _).setCell hb _
  obtain ⟨a1, a2, _, _⟩ := h.off_grown (row := some G) rfl hh hg
  have hst2 : (s.jump n).st = s.st.dropLast ++ [{ s.top with pc := n }] := rfl
  have hlen : (s.jump n).st.length = s.st.length := by
    have h1 := h.len
    rw [hst2, List.length_append, List.length_dropLast]
    rw [List.length_append] at h1
    simp only [List.length_cons, List.length_nil] at h1 ⊢
    omega
  refine ⟨⟨a1 (by decide), h.gb, h.r8, h.inp.below hB, a2 (by decide), ?_, ?_, ?_, ?_, ?_⟩, hg, hb, cs, hh⟩
  · have hsl : s.st.length = k + 1 := by
      have := h.len
      rw [List.length_append, hk] at this
      simp only [List.length_cons, List.length_nil] at this
      omega
    have ho := h.st
    rw [hsl] at ho
    rw [hlen, hsl, ← acells_set ys z ({ z.1 with pc := n }, z.2) 1 (.int .i64 (n : Int)) (by omega) rfl, hk]
    exact (ho.stored (k * 4 + 1) (.int .i64 (n : Int))).1
  · rw [hst2, ht, hd, List.map_append]
    rfl
  · have := h.asc
    rw [blocksZ_app] at this ⊢
    exact this
  · intro b hb
    refine h.low b ?_
    rw [blocksZ_app] at hb ⊢
    exact hb
  · intro z' hz
    rcases List.mem_append.1 hz with hz | hz
    · have hm := h.maps z' (List.mem_append_left _ hz)
      exact ⟨hm.1.setCell ⟨G, k * 4 + 1, none⟩ (hm.1.not_row hh) _, hm.2.setCell ⟨G, k * 4 + 1, none⟩ (hm.2.not_row hh) _⟩
    · obtain rfl : z' = ({ z.1 with pc := n }, z.2) := by simpa using hz
      have hm := h.maps z (by simp)
      exact ⟨hm.1.setCell ⟨G, k * 4 + 1, none⟩ (hm.1.not_row hh) _, hm.2.setCell ⟨G, k * 4 + 1, none⟩ (hm.2.not_row hh) _⟩
/-- A map of the activation that runs has changed. -/
theorem MRaw.mapSet {b : Nat} (z' : Zn) (h : MRaw w g base vi vt vf vs (ys ++ [z]) s) (hb : b = z.2.1 ∨ b = z.2.2) (hz : z'.2 = z.2) (hf : z'.1.f = z.1.f) (hp : z'.1.pc = z.1.pc) (hg : w.grownBy w' (some b)) (h1 : CellsAt w' z.2.1 s.steps z'.1.sl) (h2 : CellsAt w' z.2.2 s.steps z'.1.ar) :
    MRaw w' g base vi vt vf vs (ys ++ [z']) (s.setTop z'.1) ∧ Below base w w' := by
  have hbb : b ∈ blocksZ (ys ++ [z]) := by
    rw [blocksZ_app]
    refine List.mem_append_right _ ?_
    show b ∈ [z.2.1, z.2.2]
    rcases hb with rfl | rfl <;> simp
  have hlow := h.low b hbb
  have hB : Below base w w' := (Below.refl _ _).grown hg h.bl (fun j hj => by injection hj with hj; omega)
  have hmap : ∃ K m, CellsAt w b K m := by
    rcases hb with rfl | rfl
    · exact ⟨_, _, (h.maps z (by simp)).1⟩
    · exact ⟨_, _, (h.maps z (by simp)).2⟩
  obtain ⟨K, m, hm⟩ := hmap
  have own : ∀ {e size n : Nat} {v : Value} {xs : List Value}, w.ownsRow base e size v n xs → v.ownBlock = none ∨ v.ownBlock ≠ some b := fun {e size n v xs} ho => by
    rcases ho.2 with ⟨rfl, _⟩ | ⟨j, cap, cur, rfl, _, hh, _⟩
    · exact .inl rfl
    · exact .inr (fun e => by injection e with e; exact hm.not_row hh e.symm)
  obtain ⟨ht, hd⟩ := st_top h.eq
  have hst2 : (s.setTop z'.1).st = s.st.dropLast ++ [z'.1] := rfl
  have hlen : (s.setTop z'.1).st.length = s.st.length := by
    have h1 := h.len
    rw [hst2, List.length_append, List.length_dropLast]
    rw [List.length_append] at h1
    simp only [List.length_cons, List.length_nil] at h1 ⊢
    omega
  have hbz : blocksZ (ys ++ [z']) = blocksZ (ys ++ [z]) := by
    rw [blocksZ_app, blocksZ_app]
    show _ ++ [z'.2.1, z'.2.2] = _ ++ [z.2.1, z.2.2]
    rw [hz]
  have hac : acells (ys ++ [z']) = acells (ys ++ [z]) := by
    rw [acells_app, acells_app]
    show _ ++ acell z' = _ ++ acell z
    unfold acell
    rw [hz, hf, hp]
  refine ⟨⟨h.row.grown hg (fun e => by injection e with e; exact hm.not_row h.row e.symm), h.gb, h.r8, h.inp.below hB, h.tr.kept hg (own h.tr), ?_, ?_, ?_, ?_, ?_⟩, hB⟩
  · rw [hlen, hac]; exact h.st.kept hg (own h.st)
  · rw [hst2, hd, List.map_append]; rfl
  · rw [hbz]; exact h.asc
  · rw [hbz]; exact h.low
  · intro z2 hz2
    rcases List.mem_append.1 hz2 with hz2 | hz2
    · have hm2 := h.maps z2 (List.mem_append_left _ hz2)
      have hasc := h.asc
      rw [blocksZ_app, List.pairwise_append] at hasc
      have lt1 : ∀ a, (a = z2.2.1 ∨ a = z2.2.2) → a ≠ b := fun a ha => by
        have h1 : a ∈ blocksZ ys := by
          unfold blocksZ
          exact List.mem_flatMap.2 ⟨z2, hz2, by rcases ha with rfl | rfl <;> simp⟩
        have h2 : b ∈ blocksZ [z] := by
          show b ∈ [z.2.1, z.2.2]
          rcases hb with rfl | rfl <;> simp
        have := hasc.2.2 a h1 b h2
        omega
      exact ⟨hm2.1.kept hg (fun e => by injection e with e; exact lt1 _ (.inl rfl) e), hm2.2.kept hg (fun e => by injection e with e; exact lt1 _ (.inr rfl) e)⟩
    · obtain rfl : z2 = z' := by simpa using hz2
      rw [hz]
      exact ⟨h1, h2⟩
theorem MRaw.two (h : MRaw w g base vi vt vf vs (ys ++ [z]) s) : z.2.1 ≠ z.2.2 := by
  have := h.asc
  rw [blocksZ_app, List.pairwise_append] at this
  have h2 : [z.2.1, z.2.2].Pairwise (· < ·) := this.2.1
  simp at h2
  omega
end
end Go.Proofs.YtlkikjgapingjaaDoor
end
