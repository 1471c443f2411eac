import Derived.Test.YtlcmcmocjbeocaaMPmem
import Derived.Test.YtlcmcmocjbeocaaMBmath
import Derived.Test.YtlcmcmocjbeocaaMPmath
import Derived.Laws.AppendOwn
set_option linter.unusedVariables false
set_option linter.unusedSimpArgs false
section
/-
  Appends whose source is told by 'Sees' (nil let in), for elements of any size; rows of instructions that a loop fills. No function of the program is named here.
-/
namespace Go.Proofs.Ytlcmcmocjbeocaa
open Go.RowKit

/-- append(v, x...), v nil or a row of the call's own, x any slice that 'Sees' tells. -/
theorem wpList_append_seesN {P : Program} {w : World} {ops : Array Oper} {rest : List Oper} {o : Oper} {a : Act} {Q : Exit → Act → World → Prop} (hgd : o.guard = none) (s x : Operand) (t : TypeId)
    (ho : o.op = .call { callee := .builtin .append, args := #[s, x], argTypes := #[t, t] })
    (base : Nat) (e : TypeId) (i : TypeInfo) (z : Value) (size bytes : Nat) (ht : P.underlying t = some (.slice e)) (hi : P.info? e = some i) (hz : i.zero = some z)
    (hsize : i.size = size) (hby : i.bytes = bytes) (hzs : z.cells.size = size) (hsz : 0 < size)
    (v : Value) (n : Nat) (xs : List Value) (hs : a.eval s = v) (hown : w.ownsRow base e size v n xs)
    (B : Nat) (A : Option Addr) (m c : Nat) (news : List Value) (hx : a.eval x = .slice A m c) (hA : Hid (A = none → c = 0)) (hl : Hid (news.length = m * size)) (hsee : Hid (Sees w B A news)) (hmc : Hid (m ≤ c)) (h1 : ∀ u ∈ news, u.oneCell' = true)
    (h63 : n + m ≤ maxLen) (hbytes : (n + m) * bytes ≤ 140737488355328) (hbase : base ≤ w.heap.size)
    (h : ∀ v' w', w'.ownsRow base e size v' (n + m) (xs ++ news) → w.grownBy w' v.ownBlock → wpList P ops Q rest (a.put o.dst v') w') : wpList P ops Q (o :: rest) a w := by
  have hl := hl.out
  have hmc := hmc.out
  rcases A with _ | ad
  · have hc := hA.out rfl
    have hm : m = 0 := by omega
    subst hm hc
    have hn : news = [] := List.eq_nil_of_length_eq_zero (by omega)
    subst hn
    exact wpList_append_own_none hgd s x t ho base e i size ht hi v n xs hs hown hx (h v w (by simpa using hown) (World.grownBy.refl w _))
  · refine wpList_append_own w hgd s x t ho base e i z size bytes ht hi hz hsize hby hzs hsz v n xs hs hown ad m c news hx hl (fun j u hu => ?_) h1 h63 hbytes hbase (fun v' w' h2 h3 _ => h v' w' h2 h3)
    rcases Nat.lt_or_ge 0 news.length with hp | hp
    · obtain ⟨ad', he, hc⟩ := hsee.out.src hp
      injection he with he
      subst he
      exact hc j u hu
    · have : news = [] := List.eq_nil_of_length_eq_zero (by omega)
      subst this
      simp at hu

section
variable {w w' : World} {base : Nat} {e : TypeId} {size n : Nat} {v : Value} {xs : List Value}
/-- An owned row's value, as a slice with its bounds, and what stands there. -/
theorem own_seen (h : w.ownsRow base e size v n xs) : ∃ A c, v = .slice A n c ∧ (A = none → c = 0) ∧ n ≤ c ∧ Far base A ∧ Sees w w.heap.size A xs := by
  obtain ⟨A, c, rfl, hA, hm⟩ := own_form h
  refine ⟨A, c, rfl, hA, ?_, ?_, Sees.ownN h⟩
  · rcases h.2 with ⟨he, h0⟩ | ⟨g, cap, cur, he, hg, hh, hc, _⟩
    · omega
    · injection he with _ _ hcc; omega
  · intro a ha
    subst ha
    rcases h.2 with ⟨he, h0⟩ | ⟨g, cap, cur, he, hg, hh, hc, _⟩
    · injection he with he; cases he
    · injection he with he
      injection he with he
      subst he
      exact hg
theorem own_far_block (h : w.ownsRow base e size v n xs) {g : Nat} (hg : g < base) : some g ≠ v.ownBlock := fun e => by
  have := (h.lt g e.symm).1
  omega
end

/-- The same, of the operation by itself. -/
theorem wp_append_seesN {P : Program} {w : World} {o : Oper} {a : Act} {K : Act → World → Prop} {Q : Exit → Act → World → Prop} (s x : Operand) (t : TypeId)
    (ho : o.op = .call { callee := .builtin .append, args := #[s, x], argTypes := #[t, t] })
    (base : Nat) (e : TypeId) (i : TypeInfo) (z : Value) (size bytes : Nat) (ht : P.underlying t = some (.slice e)) (hi : P.info? e = some i) (hz : i.zero = some z)
    (hsize : i.size = size) (hby : i.bytes = bytes) (hzs : z.cells.size = size) (hsz : 0 < size)
    (v : Value) (n : Nat) (xs : List Value) (hs : a.eval s = v) (hown : w.ownsRow base e size v n xs)
    (B : Nat) (A : Option Addr) (m c : Nat) (news : List Value) (hx : a.eval x = .slice A m c) (hA : Hid (A = none → c = 0)) (hl : Hid (news.length = m * size)) (hsee : Hid (Sees w B A news)) (hmc : Hid (m ≤ c)) (h1 : ∀ u ∈ news, u.oneCell' = true)
    (h63 : n + m ≤ maxLen) (hbytes : (n + m) * bytes ≤ 140737488355328) (hbase : base ≤ w.heap.size)
    (h : ∀ v' w', w'.ownsRow base e size v' (n + m) (xs ++ news) → w.grownBy w' v.ownBlock → K (a.put o.dst v') w') : o.wp P a w K Q := by
  have hl := hl.out
  have hmc := hmc.out
  rcases A with _ | ad
  · have hc := hA.out rfl
    have hm : m = 0 := by omega
    subst hm hc
    have hn : news = [] := List.eq_nil_of_length_eq_zero (by omega)
    subst hn
    have hrun := run_append_owned_none (P := P) (w := w) base t o.type e i size ht hi v n xs hown
    unfold Oper.wp
    simp [execOp, ho, resolve, invoke, builtin, hs, hx, hrun, Result.andThen]
    exact h v w (by simpa using hown) (World.grownBy.refl w _)
  · refine wp_append_own w s x t ho base e i z size bytes ht hi hz hsize hby hzs hsz v n xs hs hown ad m c news hx hl (fun j u hu => ?_) h1 h63 hbytes hbase (fun v' w' h2 h3 _ => h v' w' h2 h3)
    rcases Nat.lt_or_ge 0 news.length with hp | hp
    · obtain ⟨ad', he, hc⟩ := hsee.out.src hp
      injection he with he
      subst he
      exact hc j u hu
    · have : news = [] := List.eq_nil_of_length_eq_zero (by omega)
      subst this
      simp at hu
end Go.Proofs.Ytlcmcmocjbeocaa
end

section
/-
  An append to a row of the call's own: the row stays where it was, or lies in a new block. No function of the program is named here.
-/
namespace Go.Proofs.Ytlcmcmocjbeocaa
open Go.RowKit

theorem append_where {P : Program} (w : World) (base : Nat) (t ty e : TypeId) (i : TypeInfo) (z : Value) (size bytes : Nat) (ht : P.underlying t = some (.slice e)) (hi : P.info? e = some i) (hz : i.zero = some z)
    (hsize : i.size = size) (hby : i.bytes = bytes) (hzs : z.cells.size = size) (hsz : 0 < size)
    (v : Value) (n : Nat) (xs : List Value) (hown : w.ownsRow base e size v n xs)
    (a : Addr) (m c : Nat) (news : List Value) (hl : news.length = m * size) (hnews : ∀ j u, news[j]? = some u → w.cell? (a.add j) = some u) (h1 : ∀ u ∈ news, u.oneCell' = true)
    (h63 : n + m ≤ maxLen) (hbytes : (n + m) * bytes ≤ 140737488355328) (hbase : base ≤ w.heap.size) :
    ∃ v' w', (Builtin.append_ #[t, t] ty #[v, .slice (some a) m c]).run P w = .ok v' w' ∧ w'.ownsRow base e size v' (n + m) (xs ++ news) ∧ w.grownBy w' v.ownBlock ∧ ∀ k, v'.ownBlock = some k → v.ownBlock = some k ∨ k = w.heap.size := by
  obtain ⟨v', w', hr, h2, h3, h4⟩ := run_append_own (P := P) w base t ty e i z size bytes ht hi hz hsize hby hzs hsz v n xs hown a m c news hl hnews h1 h63 hbytes hbase
  refine ⟨v', w', hr, h2, h3, fun k hk => ?_⟩
  subst hsize hby
  have h63' : n + m ≤ 9223372036854775807 := by simp only [maxLen] at h63; omega
  rcases hown.2 with ⟨rfl, rfl⟩ | ⟨g, cap, cur, rfl, hbg, hg, hnc, hcm, hcs, htake⟩
  · by_cases hm : m = 0
    · rw [h4.2 ⟨rfl, hm⟩] at hk
      cases hk
    · have hr2 := run_append_nil (P := P) w t ty e i z ht hi hz a m c news hl hnews (by omega) (by omega) (by simp only [Nat.zero_add] at hbytes; omega)
      rw [hr] at hr2
      injection hr2 with e1 e2
      subst e1
      simp [Value.ownBlock] at hk
      exact .inr hk.symm
  · by_cases hroom : n + m ≤ cap
    · have hfit : n * i.size + news.length ≤ cur.size := by rw [hl, hcs, ← Nat.add_mul]; exact Nat.mul_le_mul_right _ hroom
      have hr2 := run_append_room (P := P) w t ty e i ht hi g n cap cur hg a m c news hl hnews h1 hroom hfit
      rw [hr] at hr2
      injection hr2 with e1 e2
      subst e1
      exact .inl hk
    · have holds : ∀ j u, xs[j]? = some u → w.cell? ((⟨g, 0, none⟩ : Addr).add j) = some u := hown.cells (g := g) rfl
      have hr2 := run_append_grow (P := P) w t ty e i z ht hi hz ⟨g, 0, none⟩ n cap xs hown.1 holds a m c news hl hnews (by omega) (by omega) (growslice_fits (by omega) hbytes)
      rw [hr] at hr2
      injection hr2 with e1 e2
      subst e1
      simp [Value.ownBlock] at hk
      exact .inr hk.symm

theorem wp_append_where {P : Program} {w : World} {o : Oper} {a : Act} {K : Act → World → Prop} {Q : Exit → Act → World → Prop} (s x : Operand) (t : TypeId)
    (ho : o.op = .call { callee := .builtin .append, args := #[s, x], argTypes := #[t, t] })
    (base : Nat) (e : TypeId) (i : TypeInfo) (z : Value) (size bytes : Nat) (ht : P.underlying t = some (.slice e)) (hi : P.info? e = some i) (hz : i.zero = some z)
    (hsize : i.size = size) (hby : i.bytes = bytes) (hzs : z.cells.size = size) (hsz : 0 < size)
    (v : Value) (n : Nat) (xs : List Value) (hs : a.eval s = v) (hown : w.ownsRow base e size v n xs)
    (ad : Addr) (m c : Nat) (news : List Value) (hx : a.eval x = .slice (some ad) m c) (hl : news.length = m * size) (hnews : ∀ j u, news[j]? = some u → w.cell? (ad.add j) = some u) (h1 : ∀ u ∈ news, u.oneCell' = true)
    (h63 : n + m ≤ maxLen) (hbytes : (n + m) * bytes ≤ 140737488355328) (hbase : base ≤ w.heap.size)
    (h : ∀ v' w', w'.ownsRow base e size v' (n + m) (xs ++ news) → w.grownBy w' v.ownBlock → (∀ k, v'.ownBlock = some k → v.ownBlock = some k ∨ k = w.heap.size) → K (a.put o.dst v') w') : o.wp P a w K Q := by
  obtain ⟨v', w', hrun, h2, h3, h4⟩ := append_where (P := P) w base t o.type e i z size bytes ht hi hz hsize hby hzs hsz v n xs hown ad m c news hl hnews h1 h63 hbytes hbase
  unfold Oper.wp
  simp [execOp, ho, resolve, invoke, builtin, hs, hx, hrun, Result.andThen]
  exact h v' w' h2 h3 h4
theorem wpList_append_where {P : Program} {w : World} {ops : Array Oper} {rest : List Oper} {o : Oper} {a : Act} {Q : Exit → Act → World → Prop} (hgd : o.guard = none) (s x : Operand) (t : TypeId)
    (ho : o.op = .call { callee := .builtin .append, args := #[s, x], argTypes := #[t, t] })
    (base : Nat) (e : TypeId) (i : TypeInfo) (z : Value) (size bytes : Nat) (ht : P.underlying t = some (.slice e)) (hi : P.info? e = some i) (hz : i.zero = some z)
    (hsize : i.size = size) (hby : i.bytes = bytes) (hzs : z.cells.size = size) (hsz : 0 < size)
    (v : Value) (n : Nat) (xs : List Value) (hs : a.eval s = v) (hown : w.ownsRow base e size v n xs)
    (ad : Addr) (m c : Nat) (news : List Value) (hx : a.eval x = .slice (some ad) m c) (hl : news.length = m * size) (hnews : ∀ j u, news[j]? = some u → w.cell? (ad.add j) = some u) (h1 : ∀ u ∈ news, u.oneCell' = true)
    (h63 : n + m ≤ maxLen) (hbytes : (n + m) * bytes ≤ 140737488355328) (hbase : base ≤ w.heap.size)
    (h : ∀ v' w', w'.ownsRow base e size v' (n + m) (xs ++ news) → w.grownBy w' v.ownBlock → (∀ k, v'.ownBlock = some k → v.ownBlock = some k ∨ k = w.heap.size) → wpList P ops Q rest (a.put o.dst v') w') : wpList P ops Q (o :: rest) a w :=
  wpList_plain hgd fun _ hK => wp_append_where s x t ho base e i z size bytes ht hi hz hsize hby hzs hsz v n xs hs hown ad m c news hx hl hnews h1 h63 hbytes hbase fun v' w' h2 h3 h4 => hK _ _ (h v' w' h2 h3 h4)
end Go.Proofs.Ytlcmcmocjbeocaa
end

section
/-
  Lists of lists of ints in memory: a row of the call's own that holds slices, each nil or a row of the call's own too. No function of the program is named here.
-/
namespace Go.Proofs.Ytlcmcmocjbeocaa
open Go.RowKit

theorem fgrown_set (w : World) (g k : Nat) (u : Value) : w.grownBy (w.setCell ⟨g, k, none⟩ u) (some g) :=
  ⟨rfl, rfl, rfl, by simp [World.setCell], fun j _ hne => Below.heap_setCell w ⟨g, k, none⟩ u j (fun e => hne (by rw [e]))⟩
theorem fown_apart {w : World} {base e size n g t : Nat} {v : Value} {xs cs : List Value} (h : w.ownsRow base e size v n xs) (hr : Row w g t cs) (ht : t ≠ e) : v.ownBlock = none ∨ v.ownBlock ≠ some g := by
  rcases h.2 with ⟨rfl, _⟩ | ⟨g', cap, cur, rfl, _, hg, _⟩
  · exact .inl rfl
  · refine .inr fun he => ?_
    simp only [Value.ownBlock, Option.some.injEq] at he
    subst he
    have : some (Obj.cells cs.toArray t (0, 0)) = some (Obj.cells cur e (0, 0)) := hr.symm.trans hg
    injection this with this
    injection this with _ h2 _
    exact ht h2
theorem fty_ne : 30 ≠ 3 := by decide

/-- Block g holds the slices vs; slice i holds the numbers of list i of zss. -/
structure LLs (w : World) (base g : Nat) (vs : List Value) (zss : List (List Nat)) : Prop where
  len : vs.length = zss.length
  row : Row w g 30 vs
  gb : base ≤ g
  own : ∀ (i : Nat) (v : Value) (zs : List Nat), vs[i]? = some v → zss[i]? = some zs → w.ownsRow base 3 1 v zs.length (cellsI (toI zs))
  ne : ∀ (i j : Nat) (v v' : Value) (b : Nat), vs[i]? = some v → vs[j]? = some v' → v.ownBlock = some b → v'.ownBlock = some b → i = j
  rng : ∀ (i : Nat) (zs : List Nat), zss[i]? = some zs → ∀ z ∈ zs, z ≤ 1000000
section
variable {w w' : World} {base g : Nat} {vs : List Value} {zss : List (List Nat)}
theorem LLs.below (h : LLs w base g vs zss) (hb : Below w.heap.size w w') : LLs w' base g vs zss :=
  ⟨h.len, h.row.call hb, h.gb, fun i v zs h1 h2 => own_below (h.own i v zs h1 h2) hb, h.ne, h.rng⟩
theorem LLs.drewN (h : LLs w base g vs zss) (k : Nat) : LLs (w.drewN k) base g vs zss := ⟨h.len, h.row, h.gb, h.own, h.ne, h.rng⟩
theorem LLs.lower {base' : Nat} (h : LLs w base g vs zss) (hb : base' ≤ base) : LLs w base' g vs zss :=
  ⟨h.len, h.row, Nat.le_trans hb h.gb, fun i v zs h1 h2 => own_lower (h.own i v zs h1 h2) hb, h.ne, h.rng⟩
theorem LLs.make {n : Nat} (h : Row w g 30 (List.replicate n (.slice none 0 0))) (hb : base ≤ g) : LLs w base g (List.replicate n (.slice none 0 0)) (List.replicate n []) := by
  refine ⟨by simp, h, hb, fun i v zs h1 h2 => ?_, fun i j v v' b h1 _ h3 _ => ?_, fun i zs h1 z hz => ?_⟩
  · rw [List.getElem?_replicate] at h1 h2
    split at h1
    · injection h1 with h1
      rename_i hi
      rw [if_pos hi] at h2
      injection h2 with h2
      subst h1 h2
      exact World.ownsRow_nil w base 3 1
    · cases h1
  · rw [List.getElem?_replicate] at h1
    split at h1
    · injection h1 with h1
      subst h1
      cases h3
    · cases h1
  · rw [List.getElem?_replicate] at h1
    split at h1
    · injection h1 with h1
      subst h1
      simp at hz
    · cases h1
/-- List j has got one number more. -/
theorem LLs.app {o : Obj} {j x : Nat} {v v' : Value} {zs : List Nat} (h : LLs w base g vs zss) (hv : vs[j]? = some v) (hz : zss[j]? = some zs) (hx : x ≤ 1000000)
    (ho : w'.ownsRow base 3 1 v' (zs.length + 1) (cellsI (toI zs) ++ [.int .i64 (x : Int)])) (hg : (w.alloc o).grownBy w' v.ownBlock) (hw : ∀ k, v'.ownBlock = some k → v.ownBlock = some k ∨ k = (w.alloc o).heap.size) :
    LLs (w'.setCell ⟨g, j, none⟩ v') base g (vs.set j v') (zss.set j (zs ++ [x])) := by
  have hj : j < vs.length := (List.getElem?_eq_some_iff.1 hv).1
  have hj' : j < zss.length := (List.getElem?_eq_some_iff.1 hz).1
  have hvo := h.own j v zs hv hz
  have hR : Row w' g 30 vs := by
    have h1 := fown_apart hvo h.row fty_ne
    exact (h.row.alloc o).grown hg (fun e => by
      rcases h1 with h1 | h1
      · rw [h1] at e; cases e
      · exact h1 e.symm)
  have hR' := hR.set_ j v'
  have hlt : ∀ (i : Nat) (u : Value) (b : Nat), vs[i]? = some u → u.ownBlock = some b → b < w.heap.size := fun i u b h1 h2 => by
    have hi : i < zss.length := by rw [← h.len]; exact (List.getElem?_eq_some_iff.1 h1).1
    exact ((h.own i u _ h1 (List.getElem?_eq_getElem hi)).lt b h2).2
  have keep : ∀ (i : Nat) (u : Value) (ys : List Nat), i ≠ j → vs[i]? = some u → zss[i]? = some ys → (w'.setCell ⟨g, j, none⟩ v').ownsRow base 3 1 u ys.length (cellsI (toI ys)) := fun i u ys hne h1 h2 => by
    have q0 := h.own i u ys h1 h2
    have q1 : u.ownBlock = none ∨ u.ownBlock ≠ v.ownBlock := by
      cases hb : u.ownBlock with
      | none => exact .inl rfl
      | some b => exact .inr fun e => hne (h.ne i j u v b h1 hv hb e.symm)
    have q2 := (q0.alloc o).kept hg q1
    exact q2.kept (fgrown_set w' g j v') (fown_apart q2 hR fty_ne)
  refine ⟨by simpa using h.len, hR', h.gb, fun i u ys h1 h2 => ?_, fun i i' u u' b h1 h2 h3 h4 => ?_, fun i ys h1 z hz' => ?_⟩
  · rw [List.getElem?_set] at h1 h2
    by_cases e : j = i
    · subst e
      rw [if_pos rfl, if_pos hj] at h1
      rw [if_pos rfl, if_pos hj'] at h2
      injection h1 with h1
      injection h2 with h2
      subst h1 h2
      have q : w'.ownsRow base 3 1 v' (zs ++ [x]).length (cellsI (toI (zs ++ [x]))) := by
        rw [toI_append, cellsI_append, List.length_append]; exact ho
      exact q.kept (fgrown_set w' g j v') (fown_apart q hR fty_ne)
    · rw [if_neg e] at h1 h2
      exact keep i u ys (fun h => e h.symm) h1 h2
  · rw [List.getElem?_set] at h1 h2
    have far : ∀ (m : Nat) (y : Value), j ≠ m → vs[m]? = some y → y.ownBlock = some b → v'.ownBlock = some b → False := fun m y hm hy hyb hb => by
      rcases hw b hb with q | q
      · exact hm (h.ne j m v y b hv hy q hyb)
      · have := hlt m y b hy hyb
        have hs : (w.alloc o).heap.size = w.heap.size + 1 := by simp
        omega
    by_cases e : j = i
    · by_cases e' : j = i'
      · omega
      · subst e
        rw [if_pos rfl, if_pos hj] at h1
        rw [if_neg e'] at h2
        injection h1 with h1
        subst h1
        exact (far i' u' e' h2 h4 h3).elim
    · rw [if_neg e] at h1
      by_cases e' : j = i'
      · subst e'
        rw [if_pos rfl, if_pos hj] at h2
        injection h2 with h2
        subst h2
        exact (far i u e h1 h3 h4).elim
      · rw [if_neg e'] at h2
        exact h.ne i i' u u' b h1 h2 h3 h4
  · rw [List.getElem?_set] at h1
    by_cases e : j = i
    · rw [if_pos e, if_pos hj'] at h1
      injection h1 with h1
      subst h1
      rw [List.mem_append] at hz'
      rcases hz' with hz' | hz'
      · exact h.rng j zs hz z hz'
      · simp at hz'; omega
    · rw [if_neg e] at h1
      exact h.rng i ys h1 z hz'
/-- List i can be read. -/
theorem LLs.at_ (h : LLs w base g vs zss) {i : Nat} (hi : i < zss.length) : ∃ (A : Option Addr) (n c : Nat), vs[i]? = some (.slice A n c) ∧ w.cell? ⟨g, i, none⟩ = some (.slice A n c) ∧ n = zss[i].length ∧ Lst w A n (toI zss[i]) ∧ w.ownsRow base 3 1 (.slice A n c) n (cellsI (toI zss[i])) := by
  have hv : i < vs.length := by rw [h.len]; exact hi
  have h1 := List.getElem?_eq_getElem hv
  have h2 := List.getElem?_eq_getElem hi
  have ho := h.own i _ _ h1 h2
  obtain ⟨A, c, e, -, hm⟩ := own_form ho
  rw [e] at h1 ho
  refine ⟨A, _, c, h1, h.row.cell h1, rfl, ⟨toI_len _, by unfold maxLen at hm; omega, Sees.ownN ho, fun z hz => ?_⟩, ho⟩
  obtain ⟨y, hy, rfl⟩ := List.mem_map.1 hz
  have := h.rng i _ h2 y hy
  omega
end
/-- What a function that hands back a list of lists leaves. -/
def ListsPost (zss : List (List Nat)) (w : World) (e : Ending) (w' : World) : Prop :=
  ∃ (g : Nat) (vs : List Value), e = .returned (.slice (some ⟨g, 0, none⟩) zss.length zss.length) ∧ LLs w' w.heap.size g vs zss ∧ Below w.heap.size w w'
end Go.Proofs.Ytlcmcmocjbeocaa
end
