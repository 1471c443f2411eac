import Derived.Test.YtipjeihfhnilcaaDoorMZst
set_option linter.unusedVariables false
set_option linter.unusedSimpArgs false
section
/-
  The contracts of the machine's access (chapter 8), whatever the operation. Conditions: those of the types.
-/
namespace Go.Proofs.YtipjeihfhnilcaaDoor
open Go.RowKit

structure SmallM (s : Mch) : Prop where
  rv : ∀ V ∈ s.regs, V < two128
  iv : ∀ v ∈ s.inp, v < 18446744073709551616
  tl : s.trace.length ≤ 1000000
theorem SmallM.reg {s : Mch} (h : SmallM s) (i : Nat) : s.regs.getD i 0 < two128 := by
  rw [List.getD_eq_getElem?_getD]
  cases e : s.regs[i]? with
  | none => decide
  | some V => exact h.rv V (List.mem_of_getElem? e)
theorem kind_reg {N : Nat} {f : Fn} {n : Int} (h : opndE N f 1 n = 0) : ∃ i : Nat, n = (i : Int) ∧ i < 8 := by
  have h1 := withB_true.1 (opndE_zero.1 h)
  have : cntV N f 1 = 8 := rfl
  exact ⟨n.toNat, by omega, by omega⟩
theorem kind_none {N : Nat} {f : Fn} {n : Int} (h : opndE N f 0 n = 0) : n = 0 := by
  have h1 := withB_true.1 (opndE_zero.1 h)
  have : cntV N f 0 = 1 := rfl
  omega
theorem kind_slot {N : Nat} {f : Fn} {n : Int} (h : opndE N f 2 n = 0) : ∃ i : Nat, n = (i : Int) ∧ i < f.slots.length := by
  have h1 := withB_true.1 (opndE_zero.1 h)
  have : cntV N f 2 = f.slots.length := rfl
  exact ⟨n.toNat, by omega, by omega⟩
theorem kind_fn {N : Nat} {f : Fn} {n : Int} (h : opndE N f 3 n = 0) : ∃ i : Nat, n = (i : Int) ∧ i < N := by
  have h1 := withB_true.1 (opndE_zero.1 h)
  have : cntV N f 3 = N := rfl
  exact ⟨n.toNat, by omega, by omega⟩
theorem kind_arg {N : Nat} {f : Fn} {n : Int} (h : opndE N f 4 n = 0) : ∃ i : Nat, n = (i : Int) ∧ i < 8 := by
  have h1 := withB_true.1 (opndE_zero.1 h)
  have : cntV N f 4 = 8 := rfl
  exact ⟨n.toNat, by omega, by omega⟩
theorem kind_par {N : Nat} {f : Fn} {n : Int} (h : opndE N f 5 n = 0) : ∃ i : Nat, n = (i : Int) ∧ (i : Int) < f.params := by
  have h1 := withB_true.1 (opndE_zero.1 h)
  have : cntV N f 5 = f.params := rfl
  exact ⟨n.toNat, by omega, by omega⟩
theorem kind_target {N : Nat} {f : Fn} {n : Int} (h : opndE N f 6 n = 0) : ∃ i : Nat, n = (i : Int) ∧ i < f.code.length := by
  have h1 := withB_true.1 (opndE_zero.1 h)
  have : cntV N f 6 = f.code.length := rfl
  exact ⟨n.toNat, by omega, by omega⟩
section
variable {g base fu : Nat} {vi vt vf vs : Value} {zs : List Zn} {s : Mch}
theorem access_any {G c k : Nat} {z : Zn} {ys : List Zn} {F : Pg} {f : Fn} {lo : Nat} {A : Option Addr} {nF cF : Nat} {hs : List Hd} (x : Ins) (w : World) (hf : F[z.1.f]? = some f) (hx : insE F.length f x = 0) (hop : 15 ≤ x.op ∧ x.op ≤ 19) (hfs : f.slots.length ≤ 512) (hfp : f.params ≤ 8) (hF : F.length ≤ 80)
    (hp : x.op = 19 → 1 ≤ k) (hvf : vf = .slice A nF cF) (hPg : Hid (PgAt w lo base A nF cF hs F)) (hs : SmallM s) (hk : ys.length = k) (hkm : k ≤ 1000000) (K : Nat) (hK : Hid (MapsK w (ys ++ [z]) K)) (hKs : K + 1 ≤ s.steps) (hK2 : K ≤ 1000000) (h : Hid (MRaw w g base fu vi vt vf (.slice (some ⟨G, 0, none⟩) (k + 1) c) (ys ++ [z]) s)) :
    Calls Tryd.prog 40 #[.pointer (some ⟨g, 0, none⟩), ivI x] w fun e w' => e = .returned (.tuple #[]) ∧ (∃ vs' zs', MRaw w' g base fu vi vt vf vs' zs' (s.accessM F x)) ∧ Below base w w' := by
  obtain ⟨ho, e1, e2, e3, e4, _⟩ := insE_zero.1 hx
  obtain ⟨htop, _⟩ := st_top h.out.eq
  obtain ⟨op, xa, xb, xc, imm⟩ := x
  dsimp only at *
  unfold ivI Mch.accessM
  dsimp only
  rw [htop]
  rcases (show op = 15 ∨ op = 16 ∨ op = 17 ∨ op = 18 ∨ op = 19 by omega) with rfl | rfl | rfl | rfl | rfl
  · obtain ⟨a, rfl, ha⟩ := kind_reg e1
    obtain ⟨b, rfl, hb⟩ := kind_slot e2
    obtain rfl := kind_none e3
    obtain rfl : imm = 0 := e4.resolve_left (by decide)
    exact access_15 a b w ha (by omega) hk hkm h
  · obtain ⟨a, rfl, ha⟩ := kind_slot e1
    obtain ⟨b, rfl, hb⟩ := kind_reg e2
    obtain rfl := kind_none e3
    obtain rfl : imm = 0 := e4.resolve_left (by decide)
    have hfl : z.1.f < nF := by rw [← hPg.out.len]; exact (List.getElem?_eq_some_iff.1 hf).1
    obtain ⟨bF, oF, P, A1, n1, c1, A2, n2, c2, f', rfl, hbF, hf', _, hHd, _, d1, _⟩ := fn_at hPg.out hfl
    rw [hf] at hf'
    injection hf' with hf'
    subst hf'
    obtain ⟨bS, oS, rfl, hbS, u1, _⟩ := pair_at hHd.s1 ha
    have hn1 : f.slots.length = n1 := hHd.l1
    have hsz : slotSz F z.1.f (a : Int) = (f.slots[a]).1 := by
      have eF : F.getD z.1.f ⟨0, [], []⟩ = f := by rw [List.getD_eq_getElem?_getD, hf]; rfl
      unfold slotSz sizeAt
      rw [eF, Int.toNat_natCast, List.getD_eq_getElem?_getD, List.getElem?_eq_getElem ha]
      rfl
    have q := access_16 (G := G) (c := c) (k := k) (z := z) (ys := ys) a b _ (f.slots[a]).1 bF oF nF cF bS oS n1 c1 w (by omega) (by omega) hb (hide rfl) (hide (hs.reg b)) hvf hfl (by have := hPg.out.len; omega) (hide hbF) (hide hbS) d1 u1 K hK hKs hK2 hk hkm h
    rw [hsz]
    rw [if_neg (by decide), if_pos rfl]
    rw [reg_nat]
    exact q
  · obtain ⟨a, rfl, ha⟩ := kind_slot e1
    obtain ⟨b, rfl, hb⟩ := kind_slot e2
    obtain rfl := kind_none e3
    obtain rfl : imm = 0 := e4.resolve_left (by decide)
    exact access_17 a b w (by omega) (by omega) K hK hKs hK2 hk hkm h
  · obtain ⟨a, rfl, ha⟩ := kind_arg e1
    obtain ⟨b, rfl, hb⟩ := kind_reg e2
    obtain rfl := kind_none e3
    obtain rfl : imm = 0 := e4.resolve_left (by decide)
    have q := access_18 (G := G) (c := c) (k := k) (z := z) (ys := ys) a b _ w (by omega) hb (hide rfl) K hK hKs hK2 hk hkm h
    rw [if_neg (by decide), if_neg (by decide), if_neg (by decide), if_pos rfl, reg_nat]
    exact q
  · obtain ⟨a, rfl, ha⟩ := kind_reg e1
    obtain ⟨b, rfl, hb⟩ := kind_par e2
    obtain rfl := kind_none e3
    obtain rfl : imm = 0 := e4.resolve_left (by decide)
    have hk1 := hp rfl
    obtain ⟨j, rfl⟩ : ∃ j, k = j + 1 := ⟨k - 1, by omega⟩
    obtain ⟨zc, hzc⟩ : ∃ zc, ys[j]? = some zc := ⟨_, List.getElem?_eq_getElem (by omega)⟩
    have hcal : s.caller = zc.1 := by
      have e : s.st = ys.map (·.1) ++ [z.1] := by rw [← h.out.eq, List.map_append]; rfl
      unfold Mch.caller
      rw [e, List.length_append, List.length_map, hk, List.getD_eq_getElem?_getD]
      rw [show j + 1 + [z.1].length - 2 = j by simp, List.getElem?_append_left (by rw [List.length_map, hk]; omega), List.getElem?_map, hzc]
      rfl
    have q := access_19 (G := G) (c := c) (k := j + 1) (z := z) (ys := ys) (zc := zc) a b j w ha (by omega) rfl (hide hzc) hk hkm h
    rw [if_neg (by decide), if_neg (by decide), if_neg (by decide), if_neg (by decide), hcal]
    exact q
end
end Go.Proofs.YtipjeihfhnilcaaDoor
end
