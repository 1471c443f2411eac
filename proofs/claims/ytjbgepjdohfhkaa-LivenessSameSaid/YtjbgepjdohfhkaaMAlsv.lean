import Derived.Test.YtjbgepjdohfhkaaMAspr
import Derived.Test.YtjbgepjdohfhkaaMArdo
set_option linter.unusedVariables false
set_option linter.unusedSimpArgs false
section
/-
  The contract of liveness.Solve: it gives the least solution. Conditions: those of the types; the function is right.
-/
namespace Go.Proofs.Ytjbgepjdohfhkaa
open Go.RowKit

/-- Of a set, what is below s. -/
def oK (L : List (List Int)) (s k : Nat) : List Int := (L.getD k []).filter fun z => decide (z < (s : Int))
theorem asc_cut {L : List Int} (h : Asc L) (s : Int) (d : Bool) (hd : d = true ↔ s ∈ L) : L.filter (fun z => decide (z < s + 1)) = L.filter (fun z => decide (z < s)) ++ if d = true then [s] else [] := by
  have hp := h.1
  clear h
  induction L with
  | nil => cases d with
    | true => exact absurd (hd.1 rfl) (by simp)
    | false => simp
  | cons a t ih =>
    have hp2 := List.pairwise_cons.1 hp
    rcases Int.lt_trichotomy a s with q | q | q
    · have := ih (by rw [hd, List.mem_cons]; exact ⟨fun r => r.resolve_left (by omega), .inr⟩) hp2.2
      rw [List.filter_cons_of_pos (by simp; omega), List.filter_cons_of_pos (by simpa using q), this, List.cons_append]
    · subst q
      have h1 : t.filter (fun z => decide (z < a + 1)) = [] := List.filter_eq_nil_iff.2 fun z hz => by have := hp2.1 z hz; simp; omega
      have h2 : t.filter (fun z => decide (z < a)) = [] := List.filter_eq_nil_iff.2 fun z hz => by have := hp2.1 z hz; simp; omega
      rw [List.filter_cons_of_pos (by simp; omega), List.filter_cons_of_neg (by simp), h1, h2, if_pos (hd.2 (by simp))]
      rfl
    · have h1 : t.filter (fun z => decide (z < s + 1)) = [] := List.filter_eq_nil_iff.2 fun z hz => by have := hp2.1 z hz; simp; omega
      have h2 : t.filter (fun z => decide (z < s)) = [] := List.filter_eq_nil_iff.2 fun z hz => by have := hp2.1 z hz; simp; omega
      rw [List.filter_cons_of_neg (by simp; omega), List.filter_cons_of_neg (by simp; omega), h1, h2, if_neg (by
        rw [hd, List.mem_cons]
        rintro (r | r)
        · omega
        · have := hp2.1 s r; omega)]
      rfl
section
variable {l : List Ins} {M n : Nat} {L : List (List Int)}
theorem oK_zero (hL : LvIn n M L) (k : Nat) : oK L 0 k = [] := List.filter_eq_nil_iff.2 fun z hz => by have := ((hL.asc k).2 z hz).1; simp; omega
theorem oK_all (hL : LvIn n M L) (k : Nat) : oK L M k = L.getD k [] := List.filter_eq_self.2 fun z hz => by have := hL.lt k z hz; simpa using this
theorem oK_step (hL : LvIn n M L) (s k : Nat) (d : Bool) (hd : d = true ↔ (s : Int) ∈ L.getD k []) : oK L (s + 1) k = oK L s k ++ if d = true then [(s : Int)] else [] := by
  unfold oK
  rw [← asc_cut (hL.asc k) (s : Int) d hd]
  rfl
theorem oK_few (hL : LvIn n M L) (s k : Nat) : (oK L s k).length ≤ 512 ∧ ∀ z ∈ oK L s k, z < (s : Int) := by
  refine ⟨Nat.le_trans (List.length_filter_le _ _) (hL.asc k).length, fun z hz => ?_⟩
  have := (List.mem_filter.1 hz).2
  simpa using this
end
theorem Rws.map {w : World} {base : Nat} {T T' : Rt} (h : Rws w base T) (φ : Nat → Nat → Nat × Nat) (h1 : ∀ a i p, T' a i = some p → T (φ a i).1 (φ a i).2 = some p) (h2 : ∀ a i b j p q, T' a i = some p → T' b j = some q → φ a i = φ b j → a = b ∧ i = j) : Rws w base T' :=
  ⟨fun a i v zs e => h.own _ _ v zs (h1 a i _ e), fun a i b j v u zs ys k e1 e2 f1 f2 => by
    obtain ⟨q1, q2⟩ := h.ne _ _ _ _ v u zs ys k (h1 a i _ e1) (h1 b j _ e2) f1 f2
    exact h2 a i b j _ _ e1 e2 (Prod.ext q1 q2), fun a i v zs e => h.rng _ _ v zs (h1 a i _ e)⟩
/-- The readers of slot s become the worklist. -/
def mv3 (T : Rt) (s : Nat) : Rt := fun a i => if a = 3 then (if i = 0 then T 1 s else none) else if a = 1 ∧ i ≤ s then none else T a i
theorem mv3_rws {w : World} {base : Nat} {T : Rt} (h : Rws w base T) (s : Nat) : Rws w base (mv3 T s) := by
  refine h.map (fun a i => if a = 3 then (1, s) else (a, i)) (fun a i p e => ?_) (fun a i b j p q e1 e2 e3 => ?_)
  · unfold mv3 at e
    by_cases h3 : a = 3
    · rw [if_pos h3] at e
      simp only [h3, if_true]
      split at e
      · exact e
      · cases e
    · rw [if_neg h3] at e
      simp only [h3, if_false]
      split at e
      · cases e
      · exact e
  · unfold mv3 at e1 e2
    by_cases h3 : a = 3 <;> by_cases g3 : b = 3
    · simp only [h3, g3, if_true] at e1 e2
      refine ⟨by omega, ?_⟩
      split at e1
      · split at e2
        · omega
        · cases e2
      · cases e1
    · simp only [h3, g3, if_true, if_false] at e1 e2 e3
      rw [← (Prod.mk.inj e3).1, ← (Prod.mk.inj e3).2, if_pos ⟨rfl, Nat.le_refl _⟩] at e2
      cases e2
    · simp only [h3, g3, if_true, if_false] at e1 e2 e3
      rw [(Prod.mk.inj e3).1, (Prod.mk.inj e3).2, if_pos ⟨rfl, Nat.le_refl _⟩] at e1
      cases e1
    · simp only [h3, g3, if_false] at e3
      exact ⟨(Prod.mk.inj e3).1, (Prod.mk.inj e3).2⟩
theorem mv3_0 (T : Rt) (s i : Nat) : mv3 T s 0 i = T 0 i := by simp [mv3]
theorem mv3_2 (T : Rt) (s i : Nat) : mv3 T s 2 i = T 2 i := by simp [mv3]
theorem mv3_3 (T : Rt) (s : Nat) : mv3 T s 3 0 = T 1 s := by simp [mv3]
theorem mv3_1 (T : Rt) {s i : Nat} (h : s < i) : mv3 T s 1 i = T 1 i := by
  unfold mv3
  rw [if_neg (by omega), if_neg (by omega)]
/-- The three tables at the start. -/
def tab0 (vb vr : List Value) (zb zr : List (List Nat)) (n : Nat) : Rt := fun a i =>
  if a = 0 then (match vb[i]?, zb[i]? with | some v, some z => some (v, toI z) | _, _ => none)
  else if a = 1 then (match vr[i]?, zr[i]? with | some v, some z => some (v, toI z) | _, _ => none)
  else if a = 2 then (if i < n then some (.slice none 0 0, []) else none) else none
section
variable {vb vr : List Value} {zb zr : List (List Nat)} {n : Nat}
theorem tab0_0 {i : Nat} {p : Value × List Int} (h : tab0 vb vr zb zr n 0 i = some p) : ∃ v z, vb[i]? = some v ∧ zb[i]? = some z ∧ p = (v, toI z) := by
  simp only [tab0, if_true] at h
  split at h
  · rename_i v z h1 h2
    injection h with h
    exact ⟨v, z, h1, h2, h.symm⟩
  · cases h
theorem tab0_1 {i : Nat} {p : Value × List Int} (h : tab0 vb vr zb zr n 1 i = some p) : ∃ v z, vr[i]? = some v ∧ zr[i]? = some z ∧ p = (v, toI z) := by
  simp only [tab0, if_true] at h
  rw [if_neg (by omega)] at h
  split at h
  · rename_i v z h1 h2
    injection h with h
    exact ⟨v, z, h1, h2, h.symm⟩
  · cases h
theorem tab0_2 {i : Nat} (hi : i < n) : tab0 vb vr zb zr n 2 i = some (.slice none 0 0, []) := by
  unfold tab0
  rw [if_neg (by omega), if_neg (by omega), if_pos rfl, if_pos hi]
theorem tab0_at0 {i : Nat} {v : Value} {z : List Nat} (h1 : vb[i]? = some v) (h2 : zb[i]? = some z) : tab0 vb vr zb zr n 0 i = some (v, toI z) := by
  unfold tab0
  rw [if_pos rfl, h1, h2]
theorem tab0_at1 {i : Nat} {v : Value} {z : List Nat} (h1 : vr[i]? = some v) (h2 : zr[i]? = some z) : tab0 vb vr zb zr n 1 i = some (v, toI z) := by
  unfold tab0
  rw [if_neg (by omega), if_pos rfl, h1, h2]
theorem tab0_rws {w : World} {base base2 gb gr : Nat} (hb : LLs w base gb vb zb) (hr : LLs w base2 gr vr zr) (h12 : base ≤ base2) (hlt : ∀ (i : Nat) (v : Value) (k : Nat), vb[i]? = some v → v.ownBlock = some k → k < base2) : Rws w base (tab0 vb vr zb zr n) := by
  have cases_ : ∀ (a i : Nat) (v : Value) (zs : List Int), tab0 vb vr zb zr n a i = some (v, zs) → (a = 0 ∧ ∃ z, vb[i]? = some v ∧ zb[i]? = some z ∧ zs = toI z) ∨ (a = 1 ∧ ∃ z, vr[i]? = some v ∧ zr[i]? = some z ∧ zs = toI z) ∨ (a = 2 ∧ v = .slice none 0 0 ∧ zs = []) := fun a i v zs e => by
    by_cases h0 : a = 0
    · subst h0
      obtain ⟨v', z, e1, e2, e3⟩ := tab0_0 e
      injection e3 with e4 e5
      subst e4
      exact .inl ⟨rfl, z, e1, e2, e5⟩
    · by_cases h1 : a = 1
      · subst h1
        obtain ⟨v', z, e1, e2, e3⟩ := tab0_1 e
        injection e3 with e4 e5
        subst e4
        exact .inr (.inl ⟨rfl, z, e1, e2, e5⟩)
      · unfold tab0 at e
        rw [if_neg h0, if_neg h1] at e
        split at e
        · rename_i h2
          split at e
          · injection e with e
            injection e with e1 e2
            exact .inr (.inr ⟨h2, e1.symm, e2.symm⟩)
          · cases e
        · cases e
  refine ⟨fun a i v zs e => ?_, fun a i b j v u zs ys k e1 e2 f1 f2 => ?_, fun a i v zs e => ?_⟩
  · rcases cases_ a i v zs e with ⟨-, z, h1, h2, rfl⟩ | ⟨-, z, h1, h2, rfl⟩ | ⟨-, rfl, rfl⟩
    · rw [toI_len]; exact hb.own i v z h1 h2
    · rw [toI_len]; exact own_lower (hr.own i v z h1 h2) h12
    · exact World.ownsRow_nil w base 3 1
  · rcases cases_ a i v zs e1 with ⟨rfl, z, h1, h2, -⟩ | ⟨rfl, z, h1, h2, -⟩ | ⟨-, rfl, -⟩
    · rcases cases_ b j u ys e2 with ⟨rfl, y, g1, g2, -⟩ | ⟨rfl, y, g1, g2, -⟩ | ⟨-, rfl, -⟩
      · exact ⟨rfl, hb.ne i j v u k h1 g1 f1 f2⟩
      · have q1 := hlt i v k h1 f1
        have q2 := ((hr.own j u y g1 g2).lt k f2).1
        omega
      · cases f2
    · rcases cases_ b j u ys e2 with ⟨rfl, y, g1, g2, -⟩ | ⟨rfl, y, g1, g2, -⟩ | ⟨-, rfl, -⟩
      · have q1 := hlt j u k g1 f2
        have q2 := ((hr.own i v z h1 h2).lt k f1).1
        omega
      · exact ⟨rfl, hr.ne i j v u k h1 g1 f1 f2⟩
      · cases f2
    · cases f1
  · rcases cases_ a i v zs e with ⟨-, z, h1, h2, rfl⟩ | ⟨-, z, h1, h2, rfl⟩ | ⟨-, rfl, rfl⟩
    · intro y hy
      obtain ⟨m, hm, rfl⟩ := List.mem_map.1 hy
      have := hb.rng i z h2 m hm
      omega
    · intro y hy
      obtain ⟨m, hm, rfl⟩ := List.mem_map.1 hy
      have := hr.rng i z h2 m hm
      omega
    · intro y hy; cases hy
theorem LLs.hdr {w : World} {base gb : Nat} (h : LLs w base gb vb zb) {m : Nat} (hm : zb.length = m) {T : Nat → Option (Value × List Int)} (hT : ∀ i v z, vb[i]? = some v → zb[i]? = some z → T i = some (v, toI z)) : Hdr w gb m T :=
  ⟨vb, by rw [h.len, hm], h.row, fun i hi => by
    have h1 := List.getElem?_eq_getElem (show i < vb.length by rw [h.len, hm]; exact hi)
    have h2 := List.getElem?_eq_getElem (show i < zb.length by rw [hm]; exact hi)
    exact ⟨_, hT i _ _ h1 h2, h1⟩⟩
theorem Hdr.anw {w : World} {base g m : Nat} {T : Rt} {L : List (List Int)} (h : Hdr w g m (T 2)) (hr : Rws w base T) (hg : base ≤ g) (hl : L.length = m) (he : ∀ k, k < m → ∃ v, T 2 k = some (v, L.getD k [])) : ∃ vs, Anw w base g vs [] L := by
  obtain ⟨vs, h1, h2, h3⟩ := h
  have key : ∀ (i : Nat) (zs : List Int), L[i]? = some zs → ∃ v, vs[i]? = some v ∧ T 2 i = some (v, zs) := fun i zs hz => by
    have hi : i < m := by rw [← hl]; exact (List.getElem?_eq_some_iff.1 hz).1
    obtain ⟨p, hp, hv⟩ := h3 i hi
    obtain ⟨v, hv2⟩ := he i hi
    rw [hp] at hv2
    injection hv2 with hv2
    refine ⟨v, by rw [hv, hv2], by rw [hp, hv2, List.getD_eq_getElem?_getD, hz]; rfl⟩
  refine ⟨vs, by rw [h1, hl], by rw [List.append_nil]; exact h2, hg, fun i v zs hv hz => ?_, fun i zs hz => ?_⟩
  · obtain ⟨v', e1, e2⟩ := key i zs hz
    rw [hv] at e1
    injection e1 with e1
    subst e1
    exact hr.own 2 i v zs e2
  · obtain ⟨v', e1, e2⟩ := key i zs hz
    exact hr.rng 2 i v' zs e2
end
/-- What Solve keeps. -/
structure LsI (w : World) (P : Int) (A1 : Option Addr) (n1 c1 : Nat) (A2 : Option Addr) (n2 c2 : Nat) (gb go gr : Nat) (vr : List Value) (l : List Ins) (L : List (List Int)) (s : Nat) (T : Rt) (wr : World) : Prop where
  f : Row wr w.heap.size 27 [.int .i64 P, .slice A1 n1 c1, .slice A2 n2 c2]
  res : Row wr (w.heap.size + 1) 30 [.slice none 0 0]
  r : Rws wr (w.heap.size + 2) T
  hb : Hdr wr gb n2 (T 0)
  ho : Hdr wr go n2 (T 2)
  hr : Row wr gr 38 vr
  e0 : ∀ j : Nat, j < n2 → ∃ v, T 0 j = some (v, toI (befN l n2 j))
  e1 : ∀ i : Nat, s ≤ i → i < n1 → ∃ v, vr[i]? = some v ∧ T 1 i = some (v, toI (rdN l n2 (i : Int)))
  e2 : ∀ k : Nat, k < n2 → ∃ v, T 2 k = some (v, oK L s k)
  b : Below w.heap.size w wr
  bs : w.heap.size + 2 ≤ wr.heap.size
  bgb : w.heap.size + 2 ≤ gb
  bgo : w.heap.size + 2 ≤ go
  gg : gb ≠ go
  gr : gr ≠ go
section
variable {P : Int} {A1 : Option Addr} {n1 c1 : Nat} {A2 : Option Addr} {n2 c2 : Nat} {gb go gr s : Nat} {vr : List Value} {l : List Ins} {L : List (List Int)} {T : Rt} {w wr w2 : World}
/-- One slot has spread. -/
theorem LsI.next (h : LsI w P A1 n1 c1 A2 n2 c2 gb go gr vr l L s T wr) (hL : LvIn n2 n1 L) (hLv : ∀ k : Nat, (s : Int) ∈ L.getD k [] ↔ Lv l k (s : Int)) {e : Ending} (hp : SprPost (w.heap.size + 2) gb go n2 l (s : Int) (oK L s) (mv3 T s) wr e w2) :
    e = .returned (.tuple #[]) ∧ ∃ T2, LsI w P A1 n1 c1 A2 n2 c2 gb go gr vr l L (s + 1) T2 w2 := by
  obtain ⟨he, D, T2, q1, q2, q3, q4, q5, q6, q7, q8⟩ := hp
  refine ⟨he, T2, q8.k _ _ _ h.f (by decide) (by have := h.bgo; omega), q8.k _ _ _ h.res (by decide) (by have := h.bgo; omega), q1, q2, q3, q8.k _ _ _ h.hr (by decide) h.gr, fun j hj => ?_, fun i h1 h2 => ?_, fun k hk => ?_, h.b.trans (q8.b.mono (by omega)), Nat.le_trans h.bs q8.b.size, h.bgb, h.bgo, h.gg, h.gr⟩
  · rw [q4, mv3_0]; exact h.e0 j hj
  · rw [q5, mv3_1 T (by omega)]; exact h.e1 i (by omega) h2
  · rw [oK_step hL s k (D k) ((q7 k).trans (hLv k).symm)]; exact q6 k hk
set_option maxRecDepth 100000 in
set_option maxHeartbeats 4000000 in
theorem lsolve_any (w : World) (hC : Hid (CdAt w A2 n2 l)) (hok : Hid (LvOk l n1)) :
    Calls Try.prog 8 #[fv P A1 n1 c1 A2 n2 c2] w (LvPost (solL l n1) w) := by
  obtain ⟨j0, ji, jz0, jz1, jz2⟩ := info_parts infoS
  have hlen := hC.out.len
  have hn2 := hC.out.few
  have hm1 := hok.out.few
  have hmk := fmade2 (P := Try.prog) Try.underlying28 ji jz0 jz1 (by omega) rfl n2 (by omega) (L := nils n2) rfl
  obtain ⟨W2, hW2⟩ : ∃ W, (w.alloc (.cells #[.int .i64 P, .slice A1 n1 c1, .slice A2 n2 c2] 27)).alloc (.cells #[.slice none 0 0] 30) = W := ⟨_, rfl⟩
  have F2 := hide (show Row W2 w.heap.size 27 [.int .i64 P, .slice A1 n1 c1, .slice A2 n2 c2] by rw [← hW2]; exact (Row.new w _ _).alloc _)
  have R2 := hide (show Row W2 (w.heap.size + 1) 30 [.slice none 0 0] by rw [← hW2]; exact (Row.new _ _ _).at_ (by simp))
  have B2 := hide (show Below w.heap.size w W2 by rw [← hW2]; exact below2 w _ _)
  have hs2 : W2.heap.size = w.heap.size + 2 := by rw [← hW2]; simp
  have HW2 := hide hW2
  have HS2 := hide hs2
  have q0 := F2.out.cell (k := 0) rfl
  have q1 := F2.out.cell (k := 1) rfl
  have q2 := F2.out.cell (k := 2) rfl
  have cb := before_any (P := P) (A1 := A1) (n1 := n1) (c1 := c1) (c2 := c2) W2 (hide (hC.out.below B2.out)) (hide hok.out.flow)
  unfold ListsPost at cb
  rw [befL_len] at cb
  clear hW2 hs2
  go_enter Try.func8, Try.ntmps8
  go_upto_region 1 with (fail)
  rw [HW2.out]
  clear HW2
  go_wp2_with fail
  refine cb.mono ?_
  rintro e w3 ⟨gb, vb, rfl, hLb, hb3⟩
  have F3 := hide (F2.out.call hb3)
  have R3 := hide (R2.out.call hb3)
  have B3 := hide (below_call B2.out hb3)
  have LB3 := hide (show LLs w3 (w.heap.size + 2) gb vb (befL l n2 n2 0) by rw [← HS2.out]; exact hLb)
  have hs3 : w.heap.size + 2 ≤ w3.heap.size := by have := hb3.size; have := HS2.out; omega
  obtain ⟨W4, hW4⟩ : ∃ W, w3.alloc (.cells (nils n2).toArray 38) = W := ⟨_, rfl⟩
  have hb4 : Below w3.heap.size w3 W4 := by rw [← hW4]; exact below1 _ _
  have F4 := hide (F3.out.call hb4)
  have R4 := hide (R3.out.call hb4)
  have B4 := hide (below_call B3.out hb4)
  have LB4 := hide (LB3.out.below hb4)
  have O4 := hide (show Row W4 w3.heap.size 38 (nils n2) by rw [← hW4]; exact Row.new w3 _ _)
  have HGB := hide LB3.out.row.lt
  have HW4 := hide hW4
  have hs4 : w.heap.size + 2 ≤ W4.heap.size := by have := hb4.size; omega
  obtain ⟨go, hgo⟩ : ∃ go, w3.heap.size = go := ⟨_, rfl⟩
  rw [hgo] at O4 HGB hs3
  have HGO := hide hgo
  clear hb3 hLb cb q0 q1 q2 F2 R2 B2 hW4 hb4 HS2 hgo
  have q2 := F3.out.cell (k := 2) rfl
  go_upto_region 3 with (fail)
  rw [HW4.out, HGO.out]
  clear q2 HW4 HGO F3 R3 B3 LB3 hmk
  have q0 := F4.out.cell (k := 0) rfl
  have q1 := F4.out.cell (k := 1) rfl
  have q2 := F4.out.cell (k := 2) rfl
  have cr := readers_any (P := P) (A1 := A1) (c1 := c1) (c2 := c2) W4 (hide (hC.out.below B4.out)) hok
  unfold ListsPost at cr
  rw [rdL_len] at cr
  go_wp2_with fail
  refine cr.mono ?_
  rintro e w5 ⟨gr, vr, rfl, hLr, hb5⟩
  have I5 := hide (show LsI w P A1 n1 c1 A2 n2 c2 gb go gr vr l (solL l n1) 0 (tab0 vb vr (befL l n2 n2 0) (rdL l n1 n2 0) n2) w5 from
    ⟨F4.out.call hb5, R4.out.call hb5, tab0_rws (LB4.out.below hb5) hLr hs4 (fun i v k h1 h2 => LB4.out.lt h1 h2), (LB4.out.below hb5).hdr (befL_len _ _ _ _) (fun i v z h1 h2 => tab0_at0 h1 h2),
      ⟨nils n2, by simp [nils], O4.out.call hb5, fun i hi => ⟨_, tab0_2 hi, by unfold nils; rw [List.getElem?_replicate, if_pos hi]⟩⟩, hLr.row,
      fun j hj => by
        have h1 := befL_at (l := l) (m := n2) (i := 0) hj
        simp only [List.take_zero, List.not_mem_nil, if_false, List.append_nil] at h1
        have h2 := List.getElem?_eq_getElem (show j < vb.length by rw [LB4.out.len, befL_len]; exact hj)
        exact ⟨_, tab0_at0 h2 h1⟩,
      fun i _ hi => by
        have h1 := rdL_fresh (l := l) (m := n2) hi
        have h2 := List.getElem?_eq_getElem (show i < vr.length by rw [hLr.len, rdL_len]; exact hi)
        exact ⟨_, h2, tab0_at1 h2 h1⟩,
      fun k hk => by rw [oK_zero (show LvIn n2 n1 (solL l n1) by rw [← hlen]; exact sol_in hok.out)]; exact ⟨_, tab0_2 hk⟩,
      below_call B4.out hb5, Nat.le_trans hs4 hb5.size, LB4.out.gb, hs3, by have := HGB.out; omega, by have h1 := hLr.gb; have h2 := O4.out.lt; omega⟩)
  clear hLr hb5 cr q0 q1 q2 F4 R4 B4 LB4 O4 HGB hs3 hs4
  go_wp2_with fail
  obtain ⟨T1, hT1⟩ : ∃ T1, tab0 vb vr (befL l n2 n2 0) (rdL l n1 n2 0) n2 = T1 := ⟨_, rfl⟩
  rw [hT1] at I5
  clear hT1
  have HLI := hide (show LvIn n2 n1 (solL l n1) by rw [← hlen]; exact sol_in hok.out)
  have HLV := hide (fun (k : Nat) (z : Int) => mem_sol (k := k) (z := z) hok.out)
  have hsl : (solL l n1).length = n2 := HLI.out.len
  obtain ⟨L, hL⟩ : ∃ L, solL l n1 = L := ⟨_, rfl⟩
  rw [hL] at I5 HLI HLV hsl
  have HLQ := hide hL
  clear hL
  go_loopw [5, 6, 16] (fun s5 s6 s16 wr => ∃ (s : Nat) (T : Rt), s16 = .int .i64 (s : Int) ∧ s ≤ n1 ∧ Hid (LsI w P A1 n1 c1 A2 n2 c2 gb go gr vr l L s T wr)) (fun _ _ s16 _ => n1 - (intOf s16).toNat)
  case atStart => exact ⟨0, T1, rfl, by omega, I5⟩
  case round =>
    obtain ⟨s, T, rfl, hsn, hI⟩ := hrel
    clear I5
    by_cases hlt : s < n1
    · have hs0 : (0 : Int) ≤ (s : Int) := by omega
      have hs1 : (s : Int) < (n1 : Int) := by omega
      obtain ⟨vs, hvs, hTs⟩ := hI.out.e1 s (Nat.le_refl _) hlt
      obtain ⟨As, cs, rfl, -, -⟩ := hI.out.r.lst hTs
      rw [toI_len] at hvs hTs
      have z0 := hI.out.hr.cell hvs
      have hrl := rdN_len l n2 (s : Int)
      have q0 := hI.out.f.cell (k := 0) rfl
      have q1 := hI.out.f.cell (k := 1) rfl
      have q2 := hI.out.f.cell (k := 2) rfl
      have HRD := hide (fun j : Nat => (show j ∈ rdN l n2 (s : Int) ↔ ∃ x, l[j]? = some x ∧ (s : Int) ∈ usL x.op x.b by rw [← hlen]; exact mem_rdN))
      have cs' := spread_any (base := w.heap.size + 2) (gb := gb) (go := go) (n2 := n2) (l := l) (s := (s : Int)) (O := oK L s) (T0 := mv3 T s) (A2 := A2) (c2 := c2) (cb := n2) (co := n2) (A := As) (c := cs) (R := rdN l n2 (s : Int)) wr hlen hn2
        (hide ((hC.out.see.below hI.out.b).more (by omega))) (hide (mv3_rws hI.out.r s)) (hide (hI.out.hb.as_ fun i _ => mv3_0 T s i)) (hide (hI.out.ho.as_ fun i _ => mv3_2 T s i)) hI.out.bgb hI.out.bgo hI.out.gg hI.out.bs (hide fun j hj => by rw [mv3_0]; exact hI.out.e0 j hj)
        (hide fun k hk => by rw [mv3_2]; exact hI.out.e2 k hk) (hide fun k _ => oK_few HLI.out s k) (hide (by rw [mv3_3]; exact hTs)) rfl hrl HRD (by omega) (by omega)
      obtain ⟨R, hR⟩ : ∃ R, rdN l n2 (s : Int) = R := ⟨_, rfl⟩
      rw [hR] at cs' z0 hvs hrl
      have HNX := hide (fun (e : Ending) (w2 : World) hp => hI.out.next (e := e) (w2 := w2) HLI.out (fun k => HLV.out k (s : Int)) hp)
      clear hvs hTs hR HRD hI
      go_wp2_with fail
      refine cs'.mono ?_
      intro e w6 h6
      obtain ⟨rfl, T6, hI6⟩ := HNX.out _ _ h6
      have I6 := hide hI6
      clear hI6 h6 HNX cs' z0 q0 q1 q2
      go_wp2_with fail
      go_roundw
      case rel => exact ⟨s + 1, T6, by go_num, by omega, I6⟩
      case measure => simp [intOf]; omega
    · obtain rfl : s = n1 := by omega
      obtain ⟨vo, hAo⟩ := hI.out.ho.anw hI.out.r hI.out.bgo hsl (fun k hk => by have := hI.out.e2 k hk; rwa [oK_all HLI.out k] at this)
      have z1 := hI.out.res.cell (k := 0) rfl
      have z2 := hI.out.res.free 0
      obtain ⟨W9, hW9⟩ : ∃ W, wr.setCell ⟨w.heap.size + 1, 0, none⟩ (.slice (some ⟨go, 0, none⟩) n2 n2) = W := ⟨_, rfl⟩
      have HF := hide (show LvPost L w (.returned (.agg #[.slice (some ⟨go, 0, none⟩) n2 n2])) W9 from
        ⟨go, n2, vo, [], by rw [hsl], by rw [← hW9]; exact (hAo.lower (by omega)).farc (p := ⟨w.heap.size + 1, 0, none⟩) hI.out.res rfl (by decide) (by decide), by rw [← hW9]; exact hI.out.b.setCell (p := ⟨w.heap.size + 1, 0, none⟩) (by simp) _⟩)
      have R9 := hI.out.res.set_ 0 (.slice (some ⟨go, 0, none⟩) n2 n2)
      rw [hW9] at R9
      have HW9 := hide hW9
      have hld := load_row (agg_live (w := W9)) (size_live (w := W9)) rfl R9
      clear hW9 R9 hI hAo
      go_wp2_with fail
      rw [HW9.out]
      exact bodyPost_ret (results_cell1 (fn := Try.f8) (t := 2) (T := 30) rfl _ W9 _ _ _ rfl hld) rfl (by rw [HLQ.out]; exact HF.out)
end
end Go.Proofs.Ytjbgepjdohfhkaa
end
