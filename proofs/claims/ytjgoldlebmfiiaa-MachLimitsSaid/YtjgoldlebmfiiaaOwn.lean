/-
  Rows that the call itself made: kept over what is 'Below' them; an append whose source is told by 'Sees' (nil let in); a row made and filled by copy. No function of the program is named here.
-/
import Derived.Test.YtjgoldlebmfiiaaKit
import Derived.Laws.CopyOwn
import Derived.Laws.AppendOwnNone
namespace Go.Proofs.Ytjgoldlebmfiiaa
open Go.RowKit

section
variable {w w' : World} {base : Nat} {e : TypeId} {size n : Nat} {v : Value} {xs : List Value}

theorem own_below (h : w.ownsRow base e size v n xs) (hb : Below w.heap.size w w') : w'.ownsRow base e size v n xs := by
  refine ⟨h.1, ?_⟩
  rcases h.2 with h2 | ⟨g, cap, cur, hv, hg, hh, hr⟩
  · exact .inl h2
  · refine .inr ⟨g, cap, cur, hv, hg, ?_, hr⟩
    have hlt : g < w.heap.size := by
      rcases Nat.lt_or_ge g w.heap.size with h1 | h1
      · exact h1
      · rw [Array.getElem?_eq_none h1] at hh; simp at hh
    rw [hb.block g hlt]; exact hh
theorem own_draws (h : w.ownsRow base e size v n xs) (k : Nat) : (w.drewN k).ownsRow base e size v n xs := h
theorem below_draws {B : Nat} {a : World} (h : Below B a w) (k : Nat) : Below B a (w.drewN k) := ⟨h.os, h.tape, h.output, h.size, h.block⟩
/-- The form of an owned row's value. -/
theorem own_form (h : w.ownsRow base e size v n xs) : ∃ A c, v = .slice A n c ∧ (A = none → c = 0) ∧ n ≤ maxLen := by
  rcases h.2 with ⟨rfl, rfl⟩ | ⟨g, cap, cur, rfl, _, _, hc, hm, _⟩
  · exact ⟨none, 0, rfl, fun _ => rfl, by omega⟩
  · exact ⟨some ⟨g, 0, none⟩, cap, rfl, fun hn => by simp at hn, by omega⟩
theorem own_block (h : w.ownsRow base e size v n xs) (hn : 0 < n) : ∃ g c, v = .slice (some ⟨g, 0, none⟩) n c ∧ base ≤ g ∧ g < w.heap.size ∧ n ≤ c ∧ c ≤ maxLen := by
  rcases h.2 with ⟨rfl, rfl⟩ | ⟨g, cap, cur, rfl, hg, hh, hc, hm, _⟩
  · omega
  · refine ⟨g, cap, rfl, hg, ?_, hc, hm⟩
    rcases Nat.lt_or_ge g w.heap.size with h1 | h1
    · exact h1
    · rw [Array.getElem?_eq_none h1] at hh; simp at hh
theorem own_len (h : w.ownsRow base e 1 v n xs) : xs.length = n := by have := h.1; omega
/-- What the caller held is as it was: an append to a row of the call's own. -/
theorem below_append {B : Nat} {a : World} (hb : Below B a w) (h : w.ownsRow base e size v n xs) (hB : B ≤ base) (hg : w.grownBy w' v.ownBlock) (hs : B ≤ w.heap.size) : Below B a w' :=
  hb.grown hg hs fun k hk => by have := (h.lt k hk).1; omega

theorem below_step {w0 w w' : World} (h : Below w0.heap.size w0 w) (h' : Below w.heap.size w w') : Below w0.heap.size w0 w' := h.trans (h'.mono h.size)
theorem one_new (w : World) (x : Value) (t : TypeId) : ∀ (j : Nat) (u : Value), [x][j]? = some u → (w.alloc (.cells #[x] t)).cell? ((⟨w.heap.size, 0, none⟩ : Addr).add j) = some u := by
  intro j u hu
  cases j with
  | zero =>
    simp at hu
    subst hu
    rw [WideShapes.add_plain, World.cell?_alloc_at _ _ _ _ rfl]
    rfl
  | succ j => simp at hu

theorem Sees.src {B : Nat} {A : Option Addr} (h : Sees w B A xs) (hp : 0 < xs.length) : ∃ ad, A = some ad ∧ ∀ (j : Nat) (u : Value), xs[j]? = some u → w.cell? (ad.add j) = some u := by
  obtain ⟨b, off, rfl, _, _⟩ := h 0 xs[0] (List.getElem?_eq_getElem hp)
  refine ⟨_, rfl, fun j u hu => ?_⟩
  obtain ⟨b', off', he, _, hc⟩ := h j u hu
  injection he with he
  injection he with h1 h2
  subst h1 h2
  rw [WideShapes.add_plain]; exact hc
end

/-- append(v, x...), v nil or a row of the call's own, x any slice that 'Sees' tells. -/
theorem wpList_append_sees {P : Program} {w : World} {ops : Array Oper} {rest : List Oper} {o : Oper} {a : Act} {Q : Exit → Act → World → Prop} (hgd : o.guard = none) (s x : Operand) (t : TypeId)
    (ho : o.op = .call { callee := .builtin .append, args := #[s, x], argTypes := #[t, t] })
    (base : Nat) (e : TypeId) (i : TypeInfo) (z : Value) (bytes : Nat) (ht : P.underlying t = some (.slice e)) (hi : P.info? e = some i) (hz : i.zero = some z)
    (hsize : i.size = 1) (hby : i.bytes = bytes) (hzs : z.cells.size = 1)
    (v : Value) (n : Nat) (xs : List Value) (hs : a.eval s = v) (hown : w.ownsRow base e 1 v n xs)
    (B : Nat) (A : Option Addr) (m c : Nat) (news : List Value) (hx : a.eval x = .slice A m c) (hA : Hid (A = none → c = 0)) (hl : news.length = m) (hsee : Sees w B A news) (h1 : ∀ u ∈ news, u.oneCell' = true)
    (h63 : n + m ≤ maxLen) (hbytes : (n + m) * bytes ≤ 140737488355328) (hbase : base ≤ w.heap.size)
    (h : ∀ v' w', w'.ownsRow base e 1 v' (n + m) (xs ++ news) → w.grownBy w' v.ownBlock → wpList P ops Q rest (a.put o.dst v') w') : wpList P ops Q (o :: rest) a w := by
  rcases A with _ | ad
  · have hm : news = [] := by
      rcases news with _ | ⟨u, r⟩
      · rfl
      · obtain ⟨_, _, he, _⟩ := hsee 0 u rfl
        simp at he
    subst hm
    simp at hl
    subst hl
    obtain rfl := hA.out rfl
    exact wpList_append_own_none hgd s x t ho base e i 1 ht hi v n xs hs hown hx (h v w (by simpa using hown) (World.grownBy.refl w _))
  · refine wpList_append_own w hgd s x t ho base e i z 1 bytes ht hi hz hsize hby hzs (by decide) v n xs hs hown ad m c news hx (by omega) (fun j u hu => ?_) h1 h63 hbytes hbase (fun v' w' h2 h3 _ => h v' w' h2 h3)
    rcases Nat.lt_or_ge 0 news.length with hp | hp
    · obtain ⟨ad', he, hc⟩ := hsee.src hp
      injection he with he
      subst he
      exact hc j u hu
    · have : news = [] := List.eq_nil_of_length_eq_zero (by omega)
      subst this
      simp at hu

/-- A row made with room for more, and filled from its head on. -/
theorem own_filled {w : World} {base g n L : Nat} {e : TypeId} {z : Value} {cs : List Value} (hn : cs.length = n) (hg : w.heap[g]? = some (.cells (splice (List.replicate (n + L) z) 0 cs).toArray e (0, 0))) (hb : base ≤ g) (hm : n + L ≤ maxLen) :
    w.ownsRow base e 1 (.slice (some ⟨g, 0, none⟩) n (n + L)) n cs := by
  subst hn
  refine ⟨by simp, .inr ⟨g, cs.length + L, _, rfl, hb, hg, by omega, hm, ?_, ?_⟩⟩
  · simp [splice]
  · simp [splice]

theorem madeCells_list (z : Value) (k : Nat) : madeCells #[z] k = (List.replicate k z).toArray := by
  rw [← toList_madeCells_one z k]
end Go.Proofs.Ytjgoldlebmfiiaa
