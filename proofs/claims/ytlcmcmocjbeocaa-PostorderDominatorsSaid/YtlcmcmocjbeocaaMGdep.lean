import Derived.Test.YtlcmcmocjbeocaaMGstk
import Derived.Test.YtlcmcmocjbeocaaMGdfs
import Derived.Test.YtlcmcmocjbeocaaMFnx
set_option linter.unusedVariables false
set_option linter.unusedSimpArgs false
section
/-
  What postorder's search keeps in memory, and the contract of its closure visit. Conditions: those of the types; the function is right.
-/
namespace Go.Proofs.Ytlcmcmocjbeocaa
open Go.RowKit

/-- A slice that holds these numbers, in a block that u's row does not lie in. -/
def RsAt (w : World) (u : Value) (v : Value) (rest : List Nat) : Prop :=
  ∃ A c, v = .slice A rest.length c ∧ rest.length ≤ c ∧ c ≤ maxLen ∧ (0 < rest.length → ∃ b off cs, A = some ⟨b, off, none⟩ ∧ Row w b 3 cs ∧ (∀ i x : Nat, rest[i]? = some x → cs[off + i]? = some (.int .i64 (x : Int))) ∧ u.ownBlock ≠ some b)
section
variable {w w2 wr : World} {u u2 v : Value} {rest : List Nat} {j : Nat}
theorem RsAt.keep (h : RsAt w u v rest) (hk : ∀ (b : Nat) (cs : List Value), Row w b 3 cs → u.ownBlock ≠ some b → Row w2 b 3 cs ∧ u2.ownBlock ≠ some b) : RsAt w2 u2 v rest := by
  obtain ⟨A, c, h1, h2, h3, h4⟩ := h
  refine ⟨A, c, h1, h2, h3, fun h0 => ?_⟩
  obtain ⟨b, off, cs, e, hr, hx, hu⟩ := h4 h0
  obtain ⟨q1, q2⟩ := hk b cs hr hu
  exact ⟨b, off, cs, e, q1, hx, q2⟩
theorem RsAt.call (h : RsAt w u v rest) (hb : Below w.heap.size w w2) : RsAt w2 u v rest := h.keep fun _ _ hr hu => ⟨hr.call hb, hu⟩
theorem RsAt.skp {base : Nat} (h : RsAt w u v rest) (hs : SKp base w w2) : RsAt w2 u v rest := h.keep fun b cs hr hu => ⟨hs.k b _ cs hr (by decide) (by decide), hu⟩
theorem RsAt.far (h : RsAt w u v rest) {g t : Nat} {cs : List Value} (hr : Row w g t cs) (ht : t ≠ 3) (k : Nat) (x : Value) : RsAt (w.setCell ⟨g, k, none⟩ x) u v rest :=
  h.keep fun _ _ hb hu => ⟨hb.far (p := ⟨g, k, none⟩) (hb.ne_ hr fun e => ht e.symm) _, hu⟩
theorem RsAt.one (h : RsAt w u v []) : ∃ A c, v = .slice A 0 c := by
  obtain ⟨A, c, h1, -⟩ := h
  exact ⟨A, c, h1⟩
/-- The first number, and what is left. -/
theorem RsAt.cons (h : RsAt w u v (j :: rest)) : ∃ (b off c : Nat), v = .slice (some ⟨b, off, none⟩) (rest.length + 1) c ∧ rest.length + 1 ≤ c ∧ c ≤ maxLen ∧ w.cell? ⟨b, off, none⟩ = some (.int .i64 (j : Int)) ∧ (∀ A, (c = 1 → True) → (1 < c → A = some ⟨b, off + 1, none⟩) → RsAt w u (.slice A rest.length (c - 1)) rest) := by
  obtain ⟨A, c, h1, h2, h3, h4⟩ := h
  obtain ⟨b, off, cs, rfl, hr, hx, hu⟩ := h4 (by simp)
  rw [List.length_cons] at h1 h2
  refine ⟨b, off, c, h1, h2, h3, ?_, fun A _ hA => ⟨A, c - 1, rfl, by omega, by omega, fun h0 => ⟨b, off + 1, cs, hA (by omega), hr, fun i x hi => ?_, hu⟩⟩⟩
  · have := hx 0 j rfl
    rw [Nat.add_zero] at this
    exact hr.cell this
  · have := hx (i + 1) x (by simpa using hi)
    rw [show off + 1 + i = off + (i + 1) by omega]
    exact this
/-- What Next gives. -/
theorem RsAt.own {A : Option Addr} {c : Nat} (h : w2.ownsRow wr.heap.size 3 1 (.slice A rest.length c) rest.length (cellsI (toI rest))) (hu : ∀ b, u.ownBlock = some b → b < wr.heap.size) : RsAt w2 u (.slice A rest.length c) rest := by
  have hl := h.1
  rcases h.2 with ⟨e, h0⟩ | ⟨G, cap, cur, e, hG, hh, hc, hm, hs, ht⟩
  · injection e with e1 e2 e3
    exact ⟨A, c, rfl, by omega, by rw [e3]; unfold maxLen; omega, fun hp => by omega⟩
  · injection e with e1 e2 e3
    subst e1 e3
    refine ⟨_, c, rfl, hc, hm, fun _ => ⟨G, 0, cur.toList, rfl, ?_, fun i x hi => ?_, fun hb => ?_⟩⟩
    · exact hh
    · have h1 : (cellsI (toI rest))[i]? = some (.int .i64 (x : Int)) := by rw [cellsI, List.getElem?_map, toI_get, hi]; rfl
      rw [← ht] at h1
      rw [Nat.zero_add]
      rw [List.getElem?_take] at h1
      split at h1
      · exact h1
      · cases h1
    · have := hu G hb; omega
/-- Over an append to u's row. -/
theorem RsAt.grown {base : Nat} {n : Nat} {xs : List Value} {o : Obj} (h : RsAt w u v rest) (hg : (w.alloc o).grownBy w2 u.ownBlock) (hw : ∀ k, u2.ownBlock = some k → u.ownBlock = some k ∨ k = (w.alloc o).heap.size) : RsAt w2 u2 v rest :=
  h.keep fun b cs hr hu => ⟨(hr.alloc o).grown hg fun e => hu e.symm, fun e => by
    rcases hw b e with q | q
    · exact hu q
    · have := (hr.alloc o).lt; omega⟩
end
/-- The stack's items hold its numbers, and slices of what is left of each. -/
structure ItAt (w : World) (u : Value) (its : List (Nat × Value)) (st : List (Nat × List Nat)) : Prop where
  len : its.length = st.length
  at_ : ∀ (i : Nat) (it : Nat × Value) (s : Nat × List Nat), its[i]? = some it → st[i]? = some s → it.1 = s.1 ∧ RsAt w u it.2 s.2
/-- What the search keeps in memory. -/
structure DpI (w : World) (P : Int) (A1 : Option Addr) (n1 c1 : Nat) (A2 : Option Addr) (n2 c2 : Nat) (gv gw gR : Nat) (R : List Bool) (its : List (Nat × Value)) (v : Value) (st : List (Nat × List Nat)) (L : List Nat) (u : Value) (wr : World) : Prop where
  f : Row wr w.heap.size 27 [.int .i64 P, .slice A1 n1 c1, .slice A2 n2 c2]
  vb : Row wr gv 36 [.slice (some ⟨gR, 0, none⟩) n2 n2]
  vr : Row wr gR 4 (bcells R)
  gRb : w.heap.size ≤ gR
  rl : R.length = n2
  sk : SkA wr w.heap.size gw v its
  it : ItAt wr u its st
  left : wr.ownsRow w.heap.size 3 1 u L.length (cellsI (toI L))
  b : Below w.heap.size w wr
section
variable {w wr w2 : World} {P : Int} {A1 : Option Addr} {n1 c1 : Nat} {A2 : Option Addr} {n2 c2 : Nat} {gv gw gR : Nat} {R : List Bool} {its : List (Nat × Value)} {v v2 u : Value} {st : List (Nat × List Nat)} {L : List Nat} {l : List Ins} {k : Nat}
theorem ItAt.keep {u2 : Value} (h : ItAt wr u its st) (hk : ∀ v rest, RsAt wr u v rest → RsAt w2 u2 v rest) : ItAt w2 u2 its st := ⟨h.len, fun i it s h1 h2 => ⟨(h.at_ i it s h1 h2).1, hk _ _ (h.at_ i it s h1 h2).2⟩⟩
theorem ItAt.push {rest : List Nat} (h : ItAt wr u its st) (hr : RsAt wr u v rest) : ItAt wr u (its ++ [(k, v)]) (st ++ [(k, rest)]) := by
  refine ⟨by simp [h.len], fun i it s h1 h2 => ?_⟩
  rcases Nat.lt_or_ge i its.length with c | c
  · rw [List.getElem?_append_left c] at h1
    rw [List.getElem?_append_left (by rw [← h.len]; exact c)] at h2
    exact h.at_ i it s h1 h2
  · rw [List.getElem?_append_right c] at h1
    rw [List.getElem?_append_right (by rw [← h.len]; exact c), ← h.len] at h2
    have h3 : i - its.length = 0 := by
      have := (List.getElem?_eq_some_iff.1 h1).1
      simp at this; omega
    rw [h3] at h1 h2
    injection h1 with h1
    injection h2 with h2
    subst h1 h2
    exact ⟨rfl, hr⟩
theorem DpI.call (h : DpI w P A1 n1 c1 A2 n2 c2 gv gw gR R its v st L u wr) (hb : Below wr.heap.size wr w2) : DpI w P A1 n1 c1 A2 n2 c2 gv gw gR R its v st L u w2 :=
  ⟨h.f.call hb, h.vb.call hb, h.vr.call hb, h.gRb, h.rl, h.sk.call hb, h.it.keep fun _ _ q => q.call hb, own_below h.left hb, below_call h.b hb⟩
theorem DpI.mark (h : DpI w P A1 n1 c1 A2 n2 c2 gv gw gR R its v st L u wr) (k : Nat) : DpI w P A1 n1 c1 A2 n2 c2 gv gw gR (R.set k true) its v st L u (wr.setCell ⟨gR, k, none⟩ (.bool true)) :=
  ⟨h.f.far (p := ⟨gR, k, none⟩) (h.f.ne_ h.vr (by decide)) _, h.vb.far (p := ⟨gR, k, none⟩) (h.vb.ne_ h.vr (by decide)) _, by rw [← bcells_set]; exact h.vr.set_ k (.bool true), h.gRb, by simpa using h.rl,
    ⟨h.sk.box.far (p := ⟨gR, k, none⟩) (h.sk.box.ne_ h.vr (by decide)) _, h.sk.own.kept (fgrown_set wr gR k _) (fown_apart h.sk.own h.vr (by decide)), h.sk.gb, h.sk.few⟩,
    h.it.keep fun _ _ q => q.far h.vr (by decide) k _, h.left.kept (fgrown_set wr gR k _) (fown_apart h.left h.vr (by decide)), h.b.setCell (p := ⟨gR, k, none⟩) h.gRb _⟩
/-- Over a method of the stack. -/
theorem DpI.skp {its2 : List (Nat × Value)} {st2 : List (Nat × List Nat)} (h : DpI w P A1 n1 c1 A2 n2 c2 gv gw gR R its v st L u wr) (hs : SKp w.heap.size wr w2) (hk : SkA w2 w.heap.size gw v2 its2) (hi : ItAt w2 u its2 st2) (ho : w2.ownsRow w.heap.size 3 1 u L.length (cellsI (toI L))) : DpI w P A1 n1 c1 A2 n2 c2 gv gw gR R its2 v2 st2 L u w2 :=
  ⟨hs.k _ _ _ h.f (by decide) (by decide), hs.k _ _ _ h.vb (by decide) (by decide), hs.k _ _ _ h.vr (by decide) (by decide), h.gRb, h.rl, hk, hi, ho, h.b.trans hs.b⟩
/-- A row of ints, over a method of the stack. -/
theorem SKp.own {base n : Nat} {xs : List Value} (hs : SKp base w w2) (h : w.ownsRow base 3 1 v n xs) : w2.ownsRow base 3 1 v n xs := by
  refine ⟨h.1, ?_⟩
  rcases h.2 with q | ⟨G, cap, cur, e, hG, hh, r⟩
  · exact .inl q
  · exact .inr ⟨G, cap, cur, e, hG, hs.k G _ cur.toList hh (by decide) (by decide), r⟩
set_option maxRecDepth 100000 in
set_option maxHeartbeats 4000000 in
theorem visit_any (hC : Hid (CdAt w A2 n2 l)) (hok : Hid (FlowOk l)) (h : Hid (DpI w P A1 n1 c1 A2 n2 c2 gv gw gR R its v st L u wr)) (hk : k < n2) (hfew : its.length ≤ 1999) :
    Calls Try.prog 36 #[.int .i64 (k : Int), .pointer (some ⟨gv, 0, none⟩), .pointer (some ⟨gw, 0, none⟩), .pointer (some ⟨w.heap.size, 0, none⟩)] wr fun e w' =>
      e = .returned (.tuple #[]) ∧ ∃ v' y, DpI w P A1 n1 c1 A2 n2 c2 gv gw gR (R.set k true) (its ++ [(k, y)]) v' (st ++ [(k, suc l k)]) L u w' := by
  obtain ⟨W1, hW1⟩ : ∃ W, wr.setCell ⟨gR, k, none⟩ (.bool true) = W := ⟨_, rfl⟩
  have I1 := hide (show DpI w P A1 n1 c1 A2 n2 c2 gv gw gR (R.set k true) its v st L u W1 by rw [← hW1]; exact h.out.mark k)
  have HW1 := hide hW1
  have q0 := h.out.vb.cell (k := 0) rfl
  have hk0 : (0 : Int) ≤ (k : Int) := by omega
  have hkn : (k : Int) < (n2 : Int) := by omega
  obtain ⟨b, hb⟩ : ∃ b, R[k]? = some b := ⟨_, List.getElem?_eq_getElem (by rw [h.out.rl]; exact hk)⟩
  have z0 := h.out.vr.cell (bcells_at hb)
  have z1 := h.out.vr.free k
  have cn := fnext_any (P := P) (A1 := A1) (n1 := n1) (c1 := c1) (c2 := c2) (k : Int) W1 (hide (hC.out.below I1.out.b)) hok.out
  rw [sucZ_nat] at cn
  have hX2 := hide (suc_len l k)
  obtain ⟨xs, hxs⟩ : ∃ xs, suc l k = xs := ⟨_, rfl⟩
  rw [hxs] at cn hX2 ⊢
  clear hW1 hb hxs
  go_enter Try.func36, Try.ntmps36
  go_upto_region 1 with (fail)
  rw [HW1.out]
  clear q0 z0 z1 HW1 h
  have q0 := I1.out.f.cell (k := 0) rfl
  have q1 := I1.out.f.cell (k := 1) rfl
  have q2 := I1.out.f.cell (k := 2) rfl
  go_wp2_with fail
  refine cn.mono ?_
  rintro e w5 ⟨A5, c5, rfl, ho5, hb5⟩
  have I5 := hide (I1.out.call hb5)
  rw [toI_len] at ho5 ⊢
  have RS := hide (RsAt.own (u := u) ho5 (fun b hb => (I1.out.left.lt b hb).2))
  have cp := sk_push k A5 xs.length c5 w5 (hide I5.out.sk) hfew
  clear ho5 hb5 cn q0 q1 q2 I1
  go_wp2_with fail
  refine cp.mono ?_
  rintro e w6 ⟨rfl, v6, hk6, hs6⟩
  have FIN := hide (show DpI w P A1 n1 c1 A2 n2 c2 gv gw gR (R.set k true) (its ++ [(k, .slice A5 xs.length c5)]) v6 (st ++ [(k, xs)]) L u w6 from
    I5.out.skp hs6 hk6 ((I5.out.it.push RS.out).keep fun _ _ q => q.skp hs6) (hs6.own I5.out.left))
  clear hk6 hs6 cp I5
  go_wp2_with fail
  go_end0
  exact ⟨rfl, _, _, FIN.out⟩
end
end Go.Proofs.Ytlcmcmocjbeocaa
end
