import Derived.Test.YtjgoldlebmfiiaaMMtgt
import Derived.Test.YtjgoldlebmfiiaaMDprog
import Derived.Test.YtjgoldlebmfiiaaMKf
set_option linter.unusedVariables false
set_option linter.unusedSimpArgs false
section
/-
  What a drawn program gives for its plain lowering; the greatest alignment of its slots is one. No function of the program is named here.
-/
namespace Go.Proofs.Ytjgoldlebmfiiaa
open Go.RowKit

theorem powB_max {a b : Int} (ha : powB a = true) (hb : powB b = true) : powB (max a b) = true := by
  rcases Int.le_total a b with h | h
  · rw [Int.max_eq_right h]; exact hb
  · rw [Int.max_eq_left h]; exact ha
theorem alM_pow {l : List (Int × Int)} (h : ∀ u ∈ l, slotB u.1 u.2 = true) : ∀ k, k ≤ l.length → powB (alM l k) = true ∧ 16 ≤ alM l k := by
  intro k
  induction k with
  | zero => intro _; rw [alM_zero]; exact ⟨by decide, by omega⟩
  | succ k ih =>
    intro hk
    obtain ⟨h1, h2⟩ := ih (by omega)
    rw [alM_succ l k (by omega)]
    have hs := h _ (List.getElem_mem (show k < l.length by omega))
    unfold slotB at hs
    simp only [Bool.and_eq_true] at hs
    exact ⟨powB_max h1 hs.2, by omega⟩
theorem slots_all {l : List (Int × Int)} (h : slotsE l = 0) : ∀ u ∈ l, slotB u.1 u.2 = true := by
  intro u hu
  unfold slotsE at h
  split at h
  · omega
  · split at h
    · omega
    · rename_i h2
      simp only [Bool.not_eq_true, List.any_eq_false] at h2
      have := h2 u hu
      simpa using this
theorem alP_pow {F : Pg} (h : ∀ f ∈ F, slotsE f.slots = 0) : ∀ k, k ≤ F.length → powB (alP F k) = true ∧ 16 ≤ alP F k := by
  intro k
  induction k with
  | zero => intro _; rw [show alP F 0 = 16 from rfl]; exact ⟨by decide, by omega⟩
  | succ k ih =>
    intro hk
    obtain ⟨h1, h2⟩ := ih (by omega)
    have hx := List.getElem?_eq_getElem (show k < F.length by omega)
    have hs := h _ (List.getElem_mem (show k < F.length by omega))
    rw [alP_succ hx]
    have ha : powB (alignV F[k].slots) = true := by
      unfold alignV
      rw [if_pos hs]
      exact (alM_pow (slots_all hs) _ (Nat.le_refl _)).1
    exact ⟨powB_max h1 ha, by omega⟩
/-- What an instruction without an error names is there. -/
theorem ins_low {N : Nat} {f : Fn} {x : Ins} (h : insE N f x = 0) (hp : f.params ≤ 8) : LowOk f.slots.length x := by
  obtain ⟨_, h1, h2, _, _, _⟩ := insE_zero.1 h
  rw [opndE_zero] at h1 h2
  refine ⟨fun e => ?_, fun e => ?_, fun e => ⟨?_, ?_⟩, fun e => ?_, fun e => ?_⟩ <;> rw [e] at h1 h2
  · exact withB_true.1 h2
  · exact withB_true.1 h1
  · exact withB_true.1 h1
  · exact withB_true.1 h2
  · have := withB_true.1 h1
    have e8 : cntV N f (shpOf 18).1 = 8 := rfl
    omega
  · have := withB_true.1 h2
    have e8 : cntV N f (shpOf 19).2.1 = f.params := rfl
    omega
theorem ins_call {N : Nat} {f : Fn} {x : Ins} (h : insE N f x = 0) (e : x.op = 22) : 0 ≤ x.a ∧ x.a < N := by
  obtain ⟨_, h1, _⟩ := insE_zero.1 h
  rw [opndE_zero, e] at h1
  exact withB_true.1 h1
theorem good_low {funcs most : Nat} {F : Pg} (h : PgGood funcs most F) (hf : funcs ≤ 80) (hm : most ≤ 100) : LowPg2 F := by
  obtain ⟨h1, _, h3⟩ := pgE_zero.1 h.err
  have hpar : ∀ g ∈ F, 0 ≤ g.params ∧ g.params ≤ 8 := fun g hg => (fnE_zero.1 (h3 g hg)).2.2.1
  have hfew : ∀ f ∈ F, f.slots.length ≤ 6 ∧ f.code.length ≤ 7 + 5 * most := fun f hf => by
    obtain ⟨i, hi, rfl⟩ := List.mem_iff_getElem.1 hf
    have := (h.fn i _ (List.getElem?_eq_getElem hi)).1
    exact ⟨this.few, this.short⟩
  refine ⟨⟨h1, fun f hf => ⟨fun x hx e => ?_, fun x hx e => ?_, hpar⟩, fun f hf => slots_all (fnE_zero.1 (h3 f hf)).2.1, fun f hf => (hfew f hf).1⟩, fun f hf x hx => ?_, fun f hf => by have := (hfew f hf).2; omega⟩
  · exact (ins_low ((fnE_zero.1 (h3 f hf)).2.2.2.1 x hx) (hpar f hf).2).2.2.2.1 e
  · exact ins_call ((fnE_zero.1 (h3 f hf)).2.2.2.1 x hx) e
  · exact ins_low ((fnE_zero.1 (h3 f hf)).2.2.2.1 x hx) (hpar f hf).2
/-- What holds of a drawn target's frames. -/
def FmOk (g : Fm) : Prop := (0 ≤ g.size ∧ g.size ≤ 268435456) ∧ 1 ≤ g.code.length ∧ g.code.length ≤ 1024 ∧ ∀ x ∈ g.code, x.op = 16 → 0 ≤ x.c ∧ x.c ≤ 16
theorem low_ok {funcs most : Nat} {F : Pg} {al : Int} (h : PgGood funcs most F) (hf : funcs ≤ 80) (hm : most ≤ 100) (ha : powB al = true) : ∀ g ∈ F.map (lowF F al), FmOk g := by
  intro g hg
  obtain ⟨f, hf2, rfl⟩ := List.mem_map.1 hg
  have hl := good_low h hf hm
  obtain ⟨i, hi, rfl⟩ := List.mem_iff_getElem.1 hf2
  have hgd := (h.fn i _ (List.getElem?_eq_getElem hi)).1
  have hlen : (lowF F al F[i]).code.length = F[i].code.length := by unfold lowF; simp
  refine ⟨low_size (hl.pg.arg _ hf2) (hl.pg.slot _ hf2) (hl.pg.six _ hf2) ha, by rw [hlen]; exact hgd.some, by rw [hlen]; exact hl.short _ hf2, fun x hx e => ?_⟩
  unfold lowF at hx
  simp only at hx
  obtain ⟨z, hz, rfl⟩ := List.mem_map.1 hx
  have hlo := hl.low _ hf2 z hz
  have hsl := hl.pg.slot _ hf2
  have hsz : ∀ k : Int, 0 ≤ k ∧ k < F[i].slots.length → 0 ≤ sizeAt F[i].slots k ∧ sizeAt F[i].slots k ≤ 16 := fun k hk => by
    obtain ⟨j, rfl⟩ := Int.eq_ofNat_of_zero_le hk.1
    have hj : j < F[i].slots.length := by omega
    rw [sz_at hj]
    have hs := hsl _ (List.getElem_mem hj)
    unfold slotB at hs
    simp only [Bool.and_eq_true] at hs
    have := szB_b hs.1
    omega
  unfold lowX at e ⊢
  by_cases h15 : z.op = 15
  · rw [if_pos h15] at e; simp at e
  · rw [if_neg h15] at e ⊢
    by_cases h16 : z.op = 16
    · rw [if_pos h16]; exact hsz _ (hlo.2.1 h16)
    · rw [if_neg h16] at e ⊢
      by_cases h17 : z.op = 17
      · rw [if_pos h17] at e; simp at e
      · rw [if_neg h17] at e ⊢
        by_cases h18 : z.op = 18
        · rw [if_pos h18]; simp
        · rw [if_neg h18] at e ⊢
          by_cases h19 : z.op = 19
          · rw [if_pos h19] at e; simp at e
          · rw [if_neg h19] at e; exact absurd e h16
end Go.Proofs.Ytjgoldlebmfiiaa
end
