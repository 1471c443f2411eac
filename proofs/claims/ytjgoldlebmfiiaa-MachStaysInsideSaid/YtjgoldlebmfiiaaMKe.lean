import Derived.Test.YtjgoldlebmfiiaaMKb
import Derived.Test.YtjgoldlebmfiiaaMKa
import Derived.Laws.AppendOwn
import Derived.Maps.AppendAt
import Derived.Maps.Range
set_option linter.unusedVariables false
set_option linter.unusedSimpArgs false
section
/-
  Appends whose source is told by 'Sees' (nil let in), for elements of any size; rows of instructions that a loop fills. No function of the program is named here.
-/
namespace Go.Proofs.Ytjgoldlebmfiiaa
open Go.RowKit

/-- append(v, x...), v nil or a row of the call's own, x any slice that 'Sees' tells. -/
theorem wpList_append_seesN {P : Program} {w : World} {ops : Array Oper} {rest : List Oper} {o : Oper} {a : Act} {Q : Exit → Act → World → Prop} (hgd : o.guard = none) (s x : Operand) (t : TypeId)
    (ho : o.op = .call { callee := .builtin .append, args := #[s, x], argTypes := #[t, t] })
    (base : Nat) (e : TypeId) (i : TypeInfo) (z : Value) (size bytes : Nat) (ht : P.underlying t = some (.slice e)) (hi : P.info? e = some i) (hz : i.zero = some z)
    (hsize : i.size = size) (hby : i.bytes = bytes) (hzs : z.cells.size = size) (hsz : 0 < size)
    (v : Value) (n : Nat) (xs : List Value) (hs : a.eval s = v) (hown : w.ownsRow base e size v n xs)
    (B : Nat) (A : Option Addr) (m c : Nat) (news : List Value) (hx : a.eval x = .slice A m c) (hA : Hid (A = none → c = 0)) (hl : Hid (news.length = m * size)) (hsee : Hid (Sees w B A news)) (hmc : Hid (m ≤ c)) (h1 : ∀ u ∈ news, u.oneCell' = true)
    (h63 : n + m ≤ maxLen) (hbytes : (n + m) * bytes ≤ 140737488355328) (hbase : base ≤ w.heap.size)
    (h : ∀ v' w', w'.ownsRow base e size v' (n + m) (xs ++ news) → w.grownBy w' v.ownBlock → wpList P ops Q rest (a.put o.dst v') w') : wpList P ops Q (o :: rest) a w := by
  have hl := hl.out
  have hmc := hmc.out
  rcases A with _ | ad
  · have hc := hA.out rfl
    have hm : m = 0 := by omega
    subst hm hc
    have hn : news = [] := List.eq_nil_of_length_eq_zero (by omega)
    subst hn
    exact wpList_append_own_none hgd s x t ho base e i size ht hi v n xs hs hown hx (h v w (by simpa using hown) (World.grownBy.refl w _))
  · refine wpList_append_own w hgd s x t ho base e i z size bytes ht hi hz hsize hby hzs hsz v n xs hs hown ad m c news hx hl (fun j u hu => ?_) h1 h63 hbytes hbase (fun v' w' h2 h3 _ => h v' w' h2 h3)
    rcases Nat.lt_or_ge 0 news.length with hp | hp
    · obtain ⟨ad', he, hc⟩ := hsee.out.src hp
      injection he with he
      subst he
      exact hc j u hu
    · have : news = [] := List.eq_nil_of_length_eq_zero (by omega)
      subst this
      simp at hu

section
variable {w w' : World} {base : Nat} {e : TypeId} {size n : Nat} {v : Value} {xs : List Value}
/-- An owned row's value, as a slice with its bounds, and what stands there. -/
theorem own_seen (h : w.ownsRow base e size v n xs) : ∃ A c, v = .slice A n c ∧ (A = none → c = 0) ∧ n ≤ c ∧ Far base A ∧ Sees w w.heap.size A xs := by
  obtain ⟨A, c, rfl, hA, hm⟩ := own_form h
  refine ⟨A, c, rfl, hA, ?_, ?_, Sees.ownN h⟩
  · rcases h.2 with ⟨he, h0⟩ | ⟨g, cap, cur, he, hg, hh, hc, _⟩
    · omega
    · injection he with _ _ hcc; omega
  · intro a ha
    subst ha
    rcases h.2 with ⟨he, h0⟩ | ⟨g, cap, cur, he, hg, hh, hc, _⟩
    · injection he with he; cases he
    · injection he with he
      injection he with he
      subst he
      exact hg
theorem own_far_block (h : w.ownsRow base e size v n xs) {g : Nat} (hg : g < base) : some g ≠ v.ownBlock := fun e => by
  have := (h.lt g e.symm).1
  omega
end

/-- The same, of the operation by itself. -/
theorem wp_append_seesN {P : Program} {w : World} {o : Oper} {a : Act} {K : Act → World → Prop} {Q : Exit → Act → World → Prop} (s x : Operand) (t : TypeId)
    (ho : o.op = .call { callee := .builtin .append, args := #[s, x], argTypes := #[t, t] })
    (base : Nat) (e : TypeId) (i : TypeInfo) (z : Value) (size bytes : Nat) (ht : P.underlying t = some (.slice e)) (hi : P.info? e = some i) (hz : i.zero = some z)
    (hsize : i.size = size) (hby : i.bytes = bytes) (hzs : z.cells.size = size) (hsz : 0 < size)
    (v : Value) (n : Nat) (xs : List Value) (hs : a.eval s = v) (hown : w.ownsRow base e size v n xs)
    (B : Nat) (A : Option Addr) (m c : Nat) (news : List Value) (hx : a.eval x = .slice A m c) (hA : Hid (A = none → c = 0)) (hl : Hid (news.length = m * size)) (hsee : Hid (Sees w B A news)) (hmc : Hid (m ≤ c)) (h1 : ∀ u ∈ news, u.oneCell' = true)
    (h63 : n + m ≤ maxLen) (hbytes : (n + m) * bytes ≤ 140737488355328) (hbase : base ≤ w.heap.size)
    (h : ∀ v' w', w'.ownsRow base e size v' (n + m) (xs ++ news) → w.grownBy w' v.ownBlock → K (a.put o.dst v') w') : o.wp P a w K Q := by
  have hl := hl.out
  have hmc := hmc.out
  rcases A with _ | ad
  · have hc := hA.out rfl
    have hm : m = 0 := by omega
    subst hm hc
    have hn : news = [] := List.eq_nil_of_length_eq_zero (by omega)
    subst hn
    have hrun := run_append_owned_none (P := P) (w := w) base t o.type e i size ht hi v n xs hown
    unfold Oper.wp
    simp [execOp, ho, resolve, invoke, builtin, hs, hx, hrun, Result.andThen]
    exact h v w (by simpa using hown) (World.grownBy.refl w _)
  · refine wp_append_own w s x t ho base e i z size bytes ht hi hz hsize hby hzs hsz v n xs hs hown ad m c news hx hl (fun j u hu => ?_) h1 h63 hbytes hbase (fun v' w' h2 h3 _ => h v' w' h2 h3)
    rcases Nat.lt_or_ge 0 news.length with hp | hp
    · obtain ⟨ad', he, hc⟩ := hsee.out.src hp
      injection he with he
      subst he
      exact hc j u hu
    · have : news = [] := List.eq_nil_of_length_eq_zero (by omega)
      subst this
      simp at hu
end Go.Proofs.Ytjgoldlebmfiiaa
end

section
/-
  What the program says of the type int. No function of the program is named here.
-/
namespace Go.Proofs.Ytjgoldlebmfiiaa
open Go.RowKit

theorem Try.info3 : (Try.prog.info? 3).map (fun i => (i.zero, i.size, i.bytes)) = some (some (.int .i64 0), 1, 8) := by kernel_rfl
end Go.Proofs.Ytjgoldlebmfiiaa
end

section
/-
  The contracts of spillframedraw's New, Left, Next: a list of choices behind a pointer. 'Codes w g': block g is such an object, its list below it. Conditions: those of the types; a choice from 1 to 2^32 values.
-/
namespace Go.Proofs.Ytjgoldlebmfiiaa
open Go.RowKit

/-- Block g holds a list of choices and a place in it; the list lies below g. -/
def Codes (w : World) (g : Nat) : Prop :=
  ∃ (A : Option Addr) (n c : Nat) (zs : List Int) (i : Nat), Row w g 51 [.slice A n c, .int .i64 (i : Int)] ∧ Sees w g A (cellsU8 zs) ∧ zs.length = n ∧ n ≤ 9223372036854775807 ∧ (∀ z ∈ zs, 0 ≤ z ∧ z ≤ 255) ∧ i ≤ n
theorem Codes.lt {w : World} {g : Nat} (h : Codes w g) : g < w.heap.size := by
  obtain ⟨A, n, c, zs, i, r, _⟩ := h
  exact r.lt
theorem Codes.below {w w' : World} {g : Nat} (h : Codes w g) (hb : Below w.heap.size w w') : Codes w' g := by
  have hl := h.lt
  obtain ⟨A, n, c, zs, i, r, s, h⟩ := h
  exact ⟨A, n, c, zs, i, r.call hb, s.keep fun p hp => hb.cell (by omega), h⟩
theorem Codes.kept {w w' : World} {g : Nat} {row : Option Nat} (h : Codes w g) (hg : w.grownBy w' row) (hr : ∀ k, row = some k → g < k) : Codes w' g := by
  have hl := h.lt
  obtain ⟨A, n, c, zs, i, r, s, h⟩ := h
  refine ⟨A, n, c, zs, i, r.grown hg (fun e => ?_), s.keep fun p hp => ?_, h⟩
  · have := hr g e.symm
    omega
  · exact World.cell?_of_block (hg.block p.block (by omega) (fun e => by have := hr p.block e.symm; omega))
theorem Codes.drewN {w : World} {g : Nat} (h : Codes w g) (n : Nat) : Codes (w.drewN n) g := by
  obtain ⟨A, n', c, zs, i, r, s, h⟩ := h
  exact ⟨A, n', c, zs, i, r.drewN n, s.draws n, h⟩
theorem Codes.drew {w : World} {g : Nat} (h : Codes w g) : Codes w.drew g := h.drewN 1
theorem Codes.alloc {w : World} {g : Nat} (h : Codes w g) (o : Obj) : Codes (w.alloc o) g := h.below (below1 w o)

theorem grown_draws {w w' : World} {row : Option Nat} (h : w.grownBy w' row) (k : Nat) : w.grownBy (w'.drewN k) row := ⟨h.os, h.tape, h.output, h.size, h.block⟩
theorem grown_set {w w' : World} {g : Nat} (h : w.grownBy w' (some g)) (k : Nat) (u : Value) : w.grownBy (w'.setCell ⟨g, k, none⟩ u) (some g) :=
  ⟨h.os, h.tape, h.output, by simpa [World.setCell] using h.size, fun i hi hne => (Below.heap_setCell w' ⟨g, k, none⟩ u i (by rintro rfl; exact hne rfl)).trans (h.block i hi hne)⟩
theorem grown_below {w w' : World} (h : Below w.heap.size w w') (row : Option Nat) : w.grownBy w' row := ⟨h.os, h.tape, h.output, h.size, fun i hi _ => h.block i hi⟩
/-- What lies below B is as it was, if only block g has turned and B is at most g. -/
theorem below_grown {B g : Nat} {w w' w'' : World} (h : Below B w w') (hg : w'.grownBy w'' (some g)) (hB : B ≤ g) (hs : B ≤ w'.heap.size) : Below B w w'' :=
  h.grown hg hs fun k hk => by injection hk with hk; omega

theorem take_cells (zs : List Int) (k : Nat) : (cellsU8 zs).take k = cellsU8 (zs.take k) := by simp [cellsU8]

set_option maxHeartbeats 400000 in
theorem new_any (A : Option Addr) (n c : Nat) (zs : List Int) (l : Nat) (w : World) (hA : Hid (A = none → c = 0)) (hn : Hid (zs.length = n)) (hnc : n ≤ c) (hm : n ≤ 9223372036854775807) (hl : l ≤ 1000000) (hs : Hid (Sees w w.heap.size A (cellsU8 zs))) (hz : Hid (∀ z ∈ zs, 0 ≤ z ∧ z ≤ 255)) :
    Calls Try.prog 12 #[.slice A n c, .int .i64 (l : Int)] w fun e w' => e = .returned (.pointer (some ⟨w.heap.size, 0, none⟩)) ∧ Codes w' w.heap.size ∧ Below w.heap.size w w' := by
  have key : ∀ (m : Nat) (A' : Option Addr) (c' : Nat), m ≤ n → A' = A → Codes (w.alloc (.cells #[.slice A' m c', .int .i64 0] 51)) w.heap.size := by
    rintro m A' c' hmn rfl
    refine ⟨A', m, c', zs.take m, 0, Row.new w _ _, ?_, by have := hn.out; simp; omega, by omega, fun z h => hz.out z (List.mem_of_mem_take h), by omega⟩
    rw [← take_cells]
    exact (hs.out.alloc (Nat.le_refl _) _).take m
  by_cases hlt : n ≤ l
  · go_enter Try.func12, Try.ntmps12
    go_wp2
    go_ret
    exact ⟨rfl, key _ _ _ (by omega) rfl, below1 _ _⟩
  · go_enter Try.func12, Try.ntmps12
    go_wp2
    go_ret
    exact ⟨rfl, key _ _ _ (by omega) rfl, below1 _ _⟩

set_option maxHeartbeats 400000 in
theorem left_any (g : Nat) (A : Option Addr) (n c i : Nat) (w : World) (hr : Hid (Row w g 51 [.slice A n c, .int .i64 (i : Int)])) (b : Bool) (hb : Hid (decide ((i : Int) < (n : Int)) = b)) :
    Calls Try.prog 36 #[.pointer (some ⟨g, 0, none⟩)] w fun e w' => e = .returned (.bool b) ∧ ∃ k, w' = w.drewN k := by
  have c0 := hr.out.cell (k := 0) rfl
  have c1 := hr.out.cell (k := 1) rfl
  go_enter Try.func36, Try.ntmps36
  go_wp2
  go_quiet (fail)
  go_wp2
  go_ret
  exact ⟨ret_bool (by rw [← hb.out]; simp), _, rfl⟩

def NextPost (g : Nat) (k : Int) (w : World) (e : Ending) (w' : World) : Prop := ∃ v : Int, e = .returned (.int .i64 v) ∧ 0 ≤ v ∧ v < k ∧ Codes w' g ∧ w.grownBy w' (some g) ∧ w'.heap.size = w.heap.size

set_option maxHeartbeats 800000 in
theorem next_any (g : Nat) (k : Int) (w : World) (h : Hid (Codes w g)) (hk : 1 ≤ k) (hk1 : k ≤ 4294967296) : Calls Try.prog 20 #[.pointer (some ⟨g, 0, none⟩), .int .i64 k] w (NextPost g k w) := by
  obtain ⟨A, n, c, zs, i, r, s, hn, hm, hz, hi⟩ := h.out
  have hr := hide r
  by_cases hlt : i < n
  · have cl := left_any g A n c i w hr true (decide_eq_true (by omega))
    obtain ⟨b, off, v, rfl, hbg, hcell, v0, v1, _⟩ := byte_at s (by omega : i < zs.length) hz
    have hs := hide s
    have Hn := hide hn
    have Hz := hide hz
    have x0 : 0 ≤ v * k := Int.mul_nonneg v0 (by omega)
    have x1 : v * k ≤ 255 * k := Int.mul_le_mul_of_nonneg_right v1 (by omega)
    have c0 := r.cell (k := 0) rfl
    have c1 := r.cell (k := 1) rfl
    have z1 := r.free 1
    have hi0 : (0 : Int) ≤ (i : Int) := by omega
    have hi1 : (i : Int) < (n : Int) := by omega
    clear s hz hn r
    go_enter Try.func20, Try.ntmps20
    go_wp2_with fail
    refine cl.mono ?_
    rintro e w' ⟨rfl, q, rfl⟩
    go_wp2_with fail
    go_quiet (fail)
    go_wp2_with fail
    go_ret
    refine ⟨_, rfl, by omega, by omega, ?_, ?_, by simp [World.setCell]⟩
    · refine ⟨some ⟨b, off, none⟩, n, c, zs, i + 1, ?_, ?_, Hn.out, hm, Hz.out, by omega⟩
      · exact ((hr.out.drewN _).set_ 1 _)
      · exact (hs.out.draws _).keep fun p hp => World.cell?_setCell_other _ _ _ _ (fun e => by subst e; simp at hp)
    · exact grown_set (grown_draws (World.grownBy.refl w _) _) 1 _
  · have cl := left_any g A n c i w hr false (decide_eq_false (by omega))
    clear s hn hz
    go_enter Try.func20, Try.ntmps20
    go_wp2_with fail
    refine cl.mono ?_
    rintro e w' ⟨rfl, q, rfl⟩
    go_wp2_with fail
    go_ret
    exact ⟨0, rfl, by omega, by omega, h.out.drewN q, grown_draws (World.grownBy.refl w _) q, rfl⟩
end Go.Proofs.Ytjgoldlebmfiiaa
end

section
/-
  The contract of spillframedraw's Word. Conditions: the receiver is a list of choices.
-/
namespace Go.Proofs.Ytjgoldlebmfiiaa
open Go.RowKit

/-- A word of 64 bits. -/
def isW (v : Int) : Prop := 0 ≤ v ∧ v ≤ 18446744073709551615
theorem wrap_isW (z : Int) : isW (IntKind.u64.wrap z) := by
  simp only [isW, IntKind.wrap, IntKind.signed, IntKind.bits]
  simp
  omega
def WordPost (g : Nat) (w : World) (e : Ending) (w' : World) : Prop := ∃ v : Int, e = .returned (.int .u64 v) ∧ isW v ∧ Codes w' g ∧ w.grownBy w' (some g) ∧ w'.heap.size = w.heap.size

set_option maxHeartbeats 1000000 in
theorem cword_any (g : Nat) (w : World) (h : Hid (Codes w g)) : Calls Try.prog 22 #[.pointer (some ⟨g, 0, none⟩)] w (WordPost g w) := by
  have c := next_any g
  go_enter Try.func22, Try.ntmps22
  go_wp2_with fail
  refine (c 6 _ h (by omega) (by omega)).mono ?_
  rintro e w1 ⟨v, rfl, v0, v1, hC, hG, hz⟩
  have HC := hide hC
  have HG := hide hG
  have HZ := hide hz
  clear hC hG hz
  rcases (show v = 0 ∨ v = 1 ∨ v = 2 ∨ 3 ≤ v by omega) with rfl | rfl | rfl | hv
  · go_wp2_with fail
    refine (c 3 _ HC (by omega) (by omega)).mono ?_
    rintro e w2 ⟨u, rfl, u0, u1, hC2, hG2, hz2⟩
    have HC2 := hide hC2
    have HG2 := hide (HG.out.trans hG2)
    have HZ2 := hide (hz2.trans HZ.out)
    clear hC2 hG2 hz2
    go_wp2_with fail
    go_ret
    exact ⟨_, rfl, ⟨by omega, by omega⟩, HC2.out, HG2.out, HZ2.out⟩
  · go_wp2_with fail
    refine (c 64 _ HC (by omega) (by omega)).mono ?_
    rintro e w2 ⟨u, rfl, u0, u1, hC2, hG2, hz2⟩
    have HC2 := hide hC2
    have HG2 := hide (HG.out.trans hG2)
    have HZ2 := hide (hz2.trans HZ.out)
    clear hC2 hG2 hz2
    go_wp2_with fail
    go_ret
    exact ⟨_, rfl, wrap_isW _, HC2.out, HG2.out, HZ2.out⟩
  · go_wp2_with fail
    go_ret
    exact ⟨0, rfl, ⟨by omega, by omega⟩, HC.out, HG.out, HZ.out⟩
  · have b0 : (v == 0) = false := by simp; omega
    have b1 : (v == 1) = false := by simp; omega
    have b2 : (v == 2) = false := by simp; omega
    go_wp2_with fail
    refine (c 256 _ HC (by omega) (by omega)).mono ?_
    rintro e w2 ⟨u, rfl, u0, u1, hC2, hG2, hz2⟩
    have HC2 := hide hC2
    have HG2 := hide (HG.out.trans hG2)
    have HZ2 := hide (hz2.trans HZ.out)
    clear hC2 hG2 hz2
    go_wp2_with fail
    go_ret
    exact ⟨u, rfl, ⟨by omega, by omega⟩, HC2.out, HG2.out, HZ2.out⟩
end Go.Proofs.Ytjgoldlebmfiiaa
end

section
/-
  Lists of pairs that a loop draws: what the loop keeps. No function of the program is named here.
-/
namespace Go.Proofs.Ytjgoldlebmfiiaa
open Go.RowKit

theorem two_new (w : World) (x y : Value) (t : TypeId) : ∀ (j : Nat) (u : Value), [x, y][j]? = some u → (w.alloc (.cells #[x, y] t)).cell? ((⟨w.heap.size, 0, none⟩ : Addr).add j) = some u := by
  intro j u hu
  rw [WideShapes.add_plain, Nat.zero_add]
  exact (Row.new w t [x, y]).cell hu
theorem two_cells (x y : Int) : ∀ u ∈ [Value.int .i64 x, Value.int .i64 y], u.oneCell' = true := by
  intro u hu
  simp only [List.mem_cons, List.not_mem_nil, or_false] at hu
  rcases hu with rfl | rfl <;> rfl

/-- What a loop that draws pairs keeps: how many are still to come, the pairs, the choices. -/
def ListRel (ok : Int → Int → Bool) (w0 : World) (g t m : Nat) (nv lv : Value) (wr : World) : Prop :=
  ∃ (k : Nat) (l : List (Int × Int)), k + l.length ≤ m ∧ nv = .int .i64 (k : Int) ∧ wr.ownsRow w0.heap.size t 2 lv l.length (pcells l) ∧ (∀ u ∈ l, ok u.1 u.2 = true) ∧ Codes wr g ∧ w0.grownBy wr (some g)

section
variable {w0 wr w2 w3 : World} {g t : Nat} {lv v' : Value} {l : List (Int × Int)}
theorem own_far (ho : wr.ownsRow w0.heap.size t 2 lv l.length (pcells l)) (hg : g < w0.heap.size) : lv.ownBlock = none ∨ lv.ownBlock ≠ some g := by
  cases e : lv.ownBlock with
  | none => exact .inl rfl
  | some k => exact .inr fun h => by have := (ho.lt k e).1; injection h with h; omega
/-- After choices. -/
theorem own_drawn (ho : wr.ownsRow w0.heap.size t 2 lv l.length (pcells l)) (hg : g < w0.heap.size) (hG : wr.grownBy w2 (some g)) : w2.ownsRow w0.heap.size t 2 lv l.length (pcells l) := ho.kept hG (own_far ho hg)
/-- After an append of one pair. -/
theorem ListRel.step {ok : Int → Int → Bool} {m k : Nat} {x y : Int} {e : TypeId} (hk : k + 1 + l.length ≤ m) (hg : g < w0.heap.size) (ho : w2.ownsRow w0.heap.size t 2 lv l.length (pcells l)) (hok : ∀ u ∈ l, ok u.1 u.2 = true) (hxy : ok x y = true) (hC : Codes w2 g) (hG : w0.grownBy w2 (some g))
    (ho' : w3.ownsRow w0.heap.size t 2 v' (l.length + 1) (pcells l ++ [.int .i64 x, .int .i64 y])) (hg' : (w2.alloc (.cells #[.int .i64 x, .int .i64 y] e)).grownBy w3 lv.ownBlock) :
    ListRel ok w0 g t m (.int .i64 (k : Int)) v' w3 := by
  refine ⟨k, l ++ [(x, y)], by simp; omega, rfl, ?_, fun u hu => ?_, (hC.alloc _).kept hg' (fun j hj => ?_), (hG.trans (World.grownBy_alloc _ _ _)).andThen hg' (fun j hj => .inl (ho.lt j hj).1)⟩
  · rw [pcells_append, pcells_one]
    simpa using ho'
  · rcases List.mem_append.1 hu with h | h
    · exact hok u h
    · simp at h; subst h; exact hxy
  · have := (ho.lt j hj).1
    omega
theorem ListRel.start {ok : Int → Int → Bool} {m k : Nat} (hk : k ≤ m) (hC : Codes wr g) (hG : w0.grownBy wr (some g)) : ListRel ok w0 g t m (.int .i64 (k : Int)) (.slice none 0 0) wr :=
  ⟨k, [], by simpa using hk, rfl, ⟨by simp [pcells], .inl ⟨rfl, rfl⟩⟩, (fun u hu => by cases hu), hC, hG⟩
end
/-- What such a loop leaves. -/
def ListPost (ok : Int → Int → Bool) (g t m : Nat) (w : World) (e : Ending) (w' : World) : Prop :=
  ∃ (A : Option Addr) (c : Nat) (l : List (Int × Int)), e = .returned (.slice A l.length c) ∧ (A = none → c = 0) ∧ w'.ownsRow w.heap.size t 2 (.slice A l.length c) l.length (pcells l) ∧ l.length ≤ m ∧ (∀ u ∈ l, ok u.1 u.2 = true) ∧ Codes w' g ∧ w.grownBy w' (some g)
end Go.Proofs.Ytjgoldlebmfiiaa
end

section
/-
  The contract of spillframedraw's like. Conditions: the receiver is a list of choices; the slot is there.
-/
namespace Go.Proofs.Ytjgoldlebmfiiaa
open Go.RowKit

/-- Ints as cells. -/
def cellsJ (zs : List Int) : List Value := zs.map (Value.int .i64)
theorem cellsJ_append (l m : List Int) : cellsJ (l ++ m) = cellsJ l ++ cellsJ m := by simp [cellsJ]
theorem cellsJ_length (l : List Int) : (cellsJ l).length = l.length := by simp [cellsJ]
theorem inum_at {w : World} {B : Nat} {A : Option Addr} {zs : List Int} {k : Nat} (h : Sees w B A (cellsJ zs)) (hk : k < zs.length) : ∃ b off, A = some ⟨b, off, none⟩ ∧ b < B ∧ w.cell? ⟨b, off + k, none⟩ = some (.int .i64 zs[k]) :=
  h k (.int .i64 zs[k]) (by simp [cellsJ, List.getElem?_map, List.getElem?_eq_getElem hk])
/-- A slot of the same size as slot s. -/
def LikePost (g : Nat) (l : List (Int × Int)) (s : Int) (w : World) (e : Ending) (w' : World) : Prop := ∃ r : Nat, e = .returned (.int .i64 (r : Int)) ∧ r < l.length ∧ sizeAt l (r : Int) = sizeAt l s ∧ Codes w' g ∧ w.grownBy w' (some g)
/-- What the loop keeps: places of slots of that size, and s among them once it has been passed. -/
def LikeI (g : Nat) (l : List (Int × Int)) (s : Nat) (w w0 : World) (k : Nat) (lv : Value) (wr : World) : Prop :=
  ∃ zs : List Int, zs.length ≤ k ∧ (s < k → zs ≠ []) ∧ (∀ z ∈ zs, ∃ r : Nat, z = (r : Int) ∧ r < l.length ∧ sizeAt l z = sizeAt l (s : Int)) ∧ wr.ownsRow w0.heap.size 3 1 lv zs.length (cellsJ zs) ∧ Codes wr g ∧ w.grownBy wr (some g) ∧ Below w0.heap.size w0 wr
theorem sizeAt_nat (l : List (Int × Int)) (k : Nat) (h : k < l.length) : sizeAt l (k : Int) = l[k].1 := by
  unfold sizeAt; rw [Int.toNat_natCast, List.getD_eq_getElem?_getD, List.getElem?_eq_getElem h]; rfl

theorem LikeI.skip {g s k : Nat} {l : List (Int × Int)} {w w0 wr : World} {lv : Value} (h : LikeI g l s w w0 k lv wr) (hks : k ≠ s) (q : Nat) : LikeI g l s w w0 (k + 1) lv (wr.drewN q) := by
  obtain ⟨zs, h1, h2, h3, h4, h5, h6, h7⟩ := h
  exact ⟨zs, by omega, (fun hs => h2 (by omega)), h3, own_draws h4 q, h5.drewN q, grown_draws h6 q, below_draws h7 q⟩
theorem LikeI.add {g s k : Nat} {l : List (Int × Int)} {w w0 wr w3 : World} {lv v' : Value} {zs : List Int} {t : TypeId} (hk : zs.length ≤ k) (h3 : ∀ z ∈ zs, ∃ r : Nat, z = (r : Int) ∧ r < l.length ∧ sizeAt l z = sizeAt l (s : Int)) (hkl : k < l.length) (he : sizeAt l (k : Int) = sizeAt l (s : Int)) (hg0 : g < w0.heap.size) (hw0 : w.heap.size ≤ w0.heap.size)
    (h4 : wr.ownsRow w0.heap.size 3 1 lv zs.length (cellsJ zs)) (h5 : Codes wr g) (h6 : w.grownBy wr (some g)) (h7 : Below w0.heap.size w0 wr) (q : Nat)
    (ho : w3.ownsRow w0.heap.size 3 1 v' (zs.length + 1) (cellsJ zs ++ [.int .i64 (k : Int)])) (hg : ((wr.drewN q).alloc (.cells #[.int .i64 (k : Int)] t)).grownBy w3 lv.ownBlock) : LikeI g l s w w0 (k + 1) v' w3 := by
  refine ⟨zs ++ [(k : Int)], by simp; omega, (fun _ => by simp), (fun z hz => ?_), by rw [cellsJ_append]; simpa [cellsJ] using ho, ((h5.drewN q).alloc _).kept hg (fun j hj => ?_), ((grown_draws h6 q).trans (World.grownBy_alloc _ _ _)).andThen hg (fun j hj => .inl ?_), ?_⟩
  · rcases List.mem_append.1 hz with h | h
    · exact h3 z h
    · simp at h; subst h; exact ⟨k, rfl, hkl, he⟩
  · have := (h4.lt j hj).1; omega
  · have := (h4.lt j hj).1; omega
  · exact below_append ((below_draws h7 q).alloc h7.size _) ((own_draws h4 q).alloc _) (Nat.le_refl _) hg (by have := h7.size; simp; omega)

set_option maxRecDepth 100000 in
set_option maxHeartbeats 4000000 in
theorem like_any (g : Nat) (P : Int) (A1 : Option Addr) (n1 c1 : Nat) (A2 : Option Addr) (n2 c2 : Nat) (l : List (Int × Int)) (s B : Nat) (w : World) (h : Hid (Codes w g)) (hl : Hid (l.length = n1)) (hn1 : n1 ≤ 1000) (hs : s < n1) (hsee : Hid (Sees w B A1 (pcells l))) (hB : B ≤ w.heap.size) :
    Calls Try.prog 69 #[.pointer (some ⟨g, 0, none⟩), fv P A1 n1 c1 A2 n2 c2, .int .i64 (s : Int)] w (LikePost g l s w) := by
  obtain ⟨i0, hi, hz0, hz1, hz2⟩ := info_parts Try.info3
  have hgl := h.out.lt
  obtain ⟨W, hW⟩ : ∃ W, w.alloc (.cells #[.int .i64 P, .slice A1 n1 c1, .slice A2 n2 c2] 75) = W := ⟨_, rfl⟩
  have HW := hide hW
  have hr : Row W w.heap.size 75 [.int .i64 P, .slice A1 n1 c1, .slice A2 n2 c2] := hW ▸ Row.new w _ [.int .i64 P, .slice A1 n1 c1, .slice A2 n2 c2]
  have HR := hide hr
  have hbW : Below w.heap.size w W := hW ▸ below1 w _
  have hsz : w.heap.size + 1 = W.heap.size := by rw [← hW]; simp
  have HB := hide hbW
  have HS := hide hsz
  have HI : Hid (LikeI g l s w W 0 (.slice none 0 0) W) := hide ⟨[], by simp, (fun h => by omega), (fun z hz => by cases hz), World.ownsRow_nil _ _ _ _, h.out.below hbW, grown_below hbW _, Below.refl _ _⟩
  clear hW hr hbW hsz
  go_enter Try.func69, Try.ntmps69
  go_wp2_with fail
  rw [HW.out]
  go_loopw [7, 8] (fun lv kv wr => ∃ k : Nat, k ≤ n1 ∧ kv = .int .i64 (k : Int) ∧ Hid (LikeI g l s w W k lv wr)) (fun _ kv _ => n1 - (intOf kv).toNat)
  case atStart => exact ⟨0, by omega, rfl, HI⟩
  case round =>
    obtain ⟨k, hk, rfl, hI⟩ := hrel
    obtain ⟨zs, hzk, hzs, hza, hown, hC, hG, hb⟩ := hI.out
    have hrr := HR.out.call hb
    have x1 := hrr.cell (k := 1) rfl
    have HC := hide hC
    have HG := hide hG
    have HBR := hide hb
    have HO := hide hown
    have HZA := hide hza
    have HZS := hide hzs
    have HRL := hide hrr.lt
    clear hrr hI hC hG hb hown hza hzs
    by_cases hlt : k < n1
    · have hkl : k < l.length := by have := hl.out; omega
      have hsl : s < l.length := by have := hl.out; omega
      have hsee2 := hsee.out.below (((HB.out.trans (HBR.out.mono HB.out.size))).mono hB)
      obtain ⟨b, off, rfl, hbB, c0, -⟩ := pair_at hsee2 hkl
      obtain ⟨b', off', he, _, d0, -⟩ := pair_at hsee2 hsl
      injection he with he
      injection he with e1 e2
      subst e1 e2
      have E1 := hide (sizeAt_nat l k hkl)
      have E2 := hide (sizeAt_nat l s hsl)
      obtain ⟨s1, hs1⟩ : ∃ x, l[k].1 = x := ⟨_, rfl⟩
      obtain ⟨s2, hs2⟩ : ∃ x, l[s].1 = x := ⟨_, rfl⟩
      rw [hs1] at c0 E1
      rw [hs2] at d0 E2
      have hkz : (0 : Int) ≤ (k : Int) := by omega
      have hkz' : (k : Int) < (n1 : Int) := by omega
      have hsz0 : (0 : Int) ≤ (s : Int) := by omega
      have hsz' : (s : Int) < (n1 : Int) := by omega
      clear hs1 hs2 hsee2
      by_cases hss : s1 = s2
      · subst hss
        go_wp2_with fail
        go_quiet (fail)
        go_wp2_with (at_builtin; refine wpList_append_own _ rfl (.tmp 29) (.tmp 31) 72 rfl W.heap.size 3 i0 (.int .i64 0) 1 8 Try.underlying72 hi hz0 hz1 hz2 rfl (by decide) _ zs.length (cellsJ zs) rfl ((own_draws HO.out _).alloc _) ⟨_, 0, none⟩ 1 1 [.int .i64 (k : Int)] rfl rfl (one_new _ _ _) (fun u hu => by simp at hu; subst hu; rfl) (by unfold maxLen; omega) (by omega) (by simp; have := HBR.out.size; omega) ?_)
        intro v' w3 ho3 hg3 _
        have HN := hide (LikeI.add (s := s) hzk HZA.out hkl (E1.out.trans E2.out.symm) (by have := HS.out; omega) (by have := HS.out; omega) HO.out HC.out HG.out HBR.out _ ho3 hg3)
        clear ho3 hg3
        go_wp2_with fail
        go_roundw
        case rel => exact ⟨k + 1, by omega, by go_num, HN⟩
        case measure => simp [intOf]; omega
      · have hne : (s1 == s2) = false := by simpa using hss
        have hks : Hid (k ≠ s) := hide (by rintro rfl; exact hss (E1.out.symm.trans E2.out))
        have HIK := hide (fun q => LikeI.skip (g := g) (l := l) (w := w) (w0 := W) ⟨zs, hzk, HZS.out, HZA.out, HO.out, HC.out, HG.out, HBR.out⟩ hks.out q)
        go_wp2_with fail
        go_quiet (fail)
        go_wp2_with fail
        go_roundw
        case rel => exact ⟨k + 1, by omega, by go_num, hide (HIK.out _)⟩
        case measure => simp [intOf]; omega
    · obtain rfl : k = n1 := by omega
      have hzp : 1 ≤ zs.length := by
        rcases Nat.lt_or_ge 0 zs.length with h1 | h1
        · exact h1
        · exact absurd (List.eq_nil_of_length_eq_zero (by omega)) (HZS.out hs)
      obtain ⟨A, c, rfl, hA, hnc, hfar, hse⟩ := own_seen HO.out
      have HSE := hide hse
      have HF := hide hfar
      clear hse hfar hA
      go_wp2_with fail
      refine (next_any g (zs.length : Int) _ HC (by omega) (by omega)).mono ?_
      rintro e w2 ⟨v, rfl, v0, v1, hC2, hG2, hz2⟩
      obtain ⟨j, rfl⟩ := Int.eq_ofNat_of_zero_le v0
      have hjl : j < zs.length := by omega
      have hkeep : Sees w2 wr.heap.size A (cellsJ zs) := HSE.out.keepF HF.out fun p h1 h2 => World.cell?_of_block (hG2.block p.block h2 (fun e => by injection e with e; have := HS.out; omega))
      obtain ⟨b, off, rfl, _, u0⟩ := inum_at hkeep hjl
      obtain ⟨r, hr, hrl, hrs⟩ := HZA.out _ (List.getElem_mem hjl)
      rw [hr] at u0
      have HRS := hide (hr ▸ hrs)
      have HRL2 := hide hrl
      have HC2 := hide hC2
      have HG2 := hide (HG.out.trans hG2)
      clear hC2 hG2 hz2 hkeep hr hrs hrl
      go_wp2_with fail
      go_ret
      exact ⟨r, rfl, HRL2.out, HRS.out, HC2.out, HG2.out⟩
end Go.Proofs.Ytjgoldlebmfiiaa
end

section
/-
  The mathematics of drawn instructions: which are right whatever code stands around them. Nothing here names the program.
-/
namespace Go.Proofs.Ytjgoldlebmfiiaa
open Go.RowKit

/-- The error of an instruction speaks of parameters, slots and the number of instructions alone. -/
theorem insE_congr {N : Nat} {f f' : Fn} {x : Ins} (hp : f.params = f'.params) (hs : f.slots = f'.slots) (hl : f.code.length = f'.code.length) : insE N f x = insE N f' x := by
  have h : ∀ k n, opndE N f k n = opndE N f' k n := fun k n => by unfold opndE cntV; rw [hp, hs, hl]
  unfold insE opndsE moveBad
  rw [h, h, h, hs]
theorem ins_ok {N : Nat} {f : Fn} {op a b c m k1 k2 k3 : Int} {im : Bool} (hs : shpOf op = (k1, k2, k3, im)) (ho : 0 ≤ op ∧ op < 25) (ha : withB a (cntV N f k1) = true) (hb : withB b (cntV N f k2) = true) (hc : withB c (cntV N f k3) = true) (hm : im = true ∨ m = 0) (h17 : op ≠ 17 ∨ sizeAt f.slots a = sizeAt f.slots b) : insE N f ⟨op, a, b, c, m⟩ = 0 := by
  rw [insE_zero]
  simp only [hs]
  refine ⟨ho, opndE_zero.2 ha, opndE_zero.2 hb, opndE_zero.2 hc, hm, ?_⟩
  unfold moveBad
  rcases h17 with h | h
  · simp only [decide_eq_false h, Bool.false_and]
  · simp only [h, decide_true, Bool.not_true, Bool.and_false]

/-- An Imm field of 64 bits. -/
def immI (x : Ins) : Prop := 0 ≤ x.imm ∧ x.imm ≤ 18446744073709551615
/-- An instruction of function i that is right whatever code stands around it: no jump, no end; it calls later functions alone. -/
def goodI (N i : Nat) (P : Int) (l : List (Int × Int)) (x : Ins) : Prop := (x.op ≠ 20 ∧ x.op ≠ 21 ∧ x.op ≠ 23 ∧ x.op ≠ 24 ∧ immI x) ∧ (∀ c, insE N ⟨P, l, c⟩ x = 0) ∧ (x.op = 22 → (i : Int) < x.a)
/-- Such a one, or a jump whose target is still to come. -/
def preI (N i : Nat) (P : Int) (l : List (Int × Int)) (x : Ins) : Prop := goodI N i P l x ∨ (∃ a, 0 ≤ a ∧ a < 8 ∧ x = ⟨21, a, -1, 0, 0⟩) ∨ x = ⟨20, -1, 0, 0, 0⟩

section
variable {N i : Nat} {P : Int} {l : List (Int × Int)}
theorem mk_good {op a b c m : Int} (h : op ≠ 20 ∧ op ≠ 21 ∧ op ≠ 23 ∧ op ≠ 24) (hi : ∀ d, insE N ⟨P, l, d⟩ ⟨op, a, b, c, m⟩ = 0) (hc : op = 22 → (i : Int) < a) (hm : 0 ≤ m ∧ m ≤ 18446744073709551615 := by decide) : goodI N i P l ⟨op, a, b, c, m⟩ := ⟨⟨h.1, h.2.1, h.2.2.1, h.2.2.2, hm⟩, hi, hc⟩
theorem w1 : withB 0 1 = true := by decide
theorem good_store {s r : Int} (s0 : 0 ≤ s) (s1 : s < l.length) (r0 : 0 ≤ r) (r1 : r < 8) : goodI N i P l ⟨16, s, r, 0, 0⟩ :=
  mk_good (by decide) (fun c => ins_ok (k1 := 2) (k2 := 1) (k3 := 0) (im := false) rfl ⟨by decide, by decide⟩ (withB_true.2 ⟨s0, s1⟩) (withB_true.2 ⟨r0, r1⟩) w1 (.inr rfl) (.inl (by decide))) (fun h => absurd h (by decide))
theorem good_load {s r : Int} (s0 : 0 ≤ s) (s1 : s < l.length) (r0 : 0 ≤ r) (r1 : r < 8) : goodI N i P l ⟨15, r, s, 0, 0⟩ :=
  mk_good (by decide) (fun c => ins_ok (k1 := 1) (k2 := 2) (k3 := 0) (im := false) rfl ⟨by decide, by decide⟩ (withB_true.2 ⟨r0, r1⟩) (withB_true.2 ⟨s0, s1⟩) w1 (.inr rfl) (.inl (by decide))) (fun h => absurd h (by decide))
theorem good_move {s r : Int} (s0 : 0 ≤ s) (s1 : s < l.length) (r0 : 0 ≤ r) (r1 : r < l.length) (he : sizeAt l r = sizeAt l s) : goodI N i P l ⟨17, r, s, 0, 0⟩ :=
  mk_good (by decide) (fun c => ins_ok (k1 := 2) (k2 := 2) (k3 := 0) (im := false) rfl ⟨by decide, by decide⟩ (withB_true.2 ⟨r0, r1⟩) (withB_true.2 ⟨s0, s1⟩) w1 (.inr rfl) (.inr he)) (fun h => absurd h (by decide))
theorem good_const {r m : Int} (r0 : 0 ≤ r) (r1 : r < 8) (hm : 0 ≤ m ∧ m ≤ 18446744073709551615) : goodI N i P l ⟨0, r, 0, 0, m⟩ :=
  mk_good (by decide) (fun c => ins_ok (k1 := 1) (k2 := 0) (k3 := 0) (im := true) rfl ⟨by decide, by decide⟩ (withB_true.2 ⟨r0, r1⟩) w1 w1 (.inl rfl) (.inl (by decide))) (fun h => absurd h (by decide)) hm
theorem good_three {v r x y : Int} (v0 : 0 ≤ v) (v1 : v < 10) (r0 : 0 ≤ r) (r1 : r < 8) (x0 : 0 ≤ x) (x1 : x < 8) (y0 : 0 ≤ y) (y1 : y < 8) : goodI N i P l ⟨2 + v, r, x, y, 0⟩ := by
  have hs : shpOf (2 + v) = (1, 1, 1, false) := by
    rcases (show v = 0 ∨ v = 1 ∨ v = 2 ∨ v = 3 ∨ v = 4 ∨ v = 5 ∨ v = 6 ∨ v = 7 ∨ v = 8 ∨ v = 9 by omega) with rfl | rfl | rfl | rfl | rfl | rfl | rfl | rfl | rfl | rfl <;> rfl
  exact ⟨⟨by simp only; omega, by simp only; omega, by simp only; omega, by simp only; omega, (show (0 : Int) ≤ 0 ∧ (0 : Int) ≤ 18446744073709551615 by decide)⟩, fun c => ins_ok hs ⟨by omega, by omega⟩ (withB_true.2 ⟨r0, r1⟩) (withB_true.2 ⟨x0, x1⟩) (withB_true.2 ⟨y0, y1⟩) (.inr rfl) (.inl (by omega)), fun h => by simp only at h; omega⟩
theorem good_out {r : Int} (r0 : 0 ≤ r) (r1 : r < 8) : goodI N i P l ⟨14, r, 0, 0, 0⟩ :=
  mk_good (by decide) (fun c => ins_ok (k1 := 1) (k2 := 0) (k3 := 0) (im := false) rfl ⟨by decide, by decide⟩ (withB_true.2 ⟨r0, r1⟩) w1 w1 (.inr rfl) (.inl (by decide))) (fun h => absurd h (by decide))
theorem good_in {r : Int} (r0 : 0 ≤ r) (r1 : r < 8) : goodI N i P l ⟨13, r, 0, 0, 0⟩ :=
  mk_good (by decide) (fun c => ins_ok (k1 := 1) (k2 := 0) (k3 := 0) (im := false) rfl ⟨by decide, by decide⟩ (withB_true.2 ⟨r0, r1⟩) w1 w1 (.inr rfl) (.inl (by decide))) (fun h => absurd h (by decide))
theorem good_high {r : Int} (r0 : 0 ≤ r) (r1 : r < 8) : goodI N i P l ⟨12, r, 0, 0, 0⟩ :=
  mk_good (by decide) (fun c => ins_ok (k1 := 1) (k2 := 1) (k3 := 0) (im := false) rfl ⟨by decide, by decide⟩ (withB_true.2 ⟨r0, r1⟩) (show withB 0 8 = true by decide) w1 (.inr rfl) (.inl (by decide))) (fun h => absurd h (by decide))
theorem good_copy {r : Int} (r0 : 0 ≤ r) (r1 : r < 8) : goodI N i P l ⟨1, r, 0, 0, 0⟩ :=
  mk_good (by decide) (fun c => ins_ok (k1 := 1) (k2 := 1) (k3 := 0) (im := false) rfl ⟨by decide, by decide⟩ (withB_true.2 ⟨r0, r1⟩) (show withB 0 8 = true by decide) w1 (.inr rfl) (.inl (by decide))) (fun h => absurd h (by decide))
theorem good_param {r b : Int} (r0 : 0 ≤ r) (r1 : r < 8) (b0 : 0 ≤ b) (b1 : b < P) : goodI N i P l ⟨19, r, b, 0, 0⟩ :=
  mk_good (by decide) (fun c => ins_ok (k1 := 1) (k2 := 5) (k3 := 0) (im := false) rfl ⟨by decide, by decide⟩ (withB_true.2 ⟨r0, r1⟩) (withB_true.2 ⟨b0, b1⟩) w1 (.inr rfl) (.inl (by decide))) (fun h => absurd h (by decide))
theorem good_arg {a b : Int} (a0 : 0 ≤ a) (a1 : a < 8) (b0 : 0 ≤ b) (b1 : b < 8) : goodI N i P l ⟨18, a, b, 0, 0⟩ :=
  mk_good (by decide) (fun c => ins_ok (k1 := 4) (k2 := 1) (k3 := 0) (im := false) rfl ⟨by decide, by decide⟩ (withB_true.2 ⟨a0, a1⟩) (withB_true.2 ⟨b0, b1⟩) w1 (.inr rfl) (.inl (by decide))) (fun h => absurd h (by decide))
theorem good_call {j : Int} (j0 : (i : Int) < j) (j1 : j < N) : goodI N i P l ⟨22, j, 0, 0, 0⟩ :=
  mk_good (by decide) (fun c => ins_ok (k1 := 3) (k2 := 0) (k3 := 0) (im := false) rfl ⟨by decide, by decide⟩ (withB_true.2 ⟨by omega, j1⟩) w1 w1 (.inr rfl) (.inl (by decide))) (fun _ => j0)
theorem jump_ok {f : Fn} {t : Int} (t0 : 0 ≤ t) (t1 : t < f.code.length) : insE N f ⟨20, t, 0, 0, 0⟩ = 0 :=
  ins_ok (k1 := 6) (k2 := 0) (k3 := 0) (im := false) rfl ⟨by decide, by decide⟩ (withB_true.2 ⟨t0, t1⟩) w1 w1 (.inr rfl) (.inl (by decide))
theorem branch_ok {f : Fn} {a t : Int} (a0 : 0 ≤ a) (a1 : a < 8) (t0 : 0 ≤ t) (t1 : t < f.code.length) : insE N f ⟨21, a, t, 0, 0⟩ = 0 :=
  ins_ok (k1 := 1) (k2 := 6) (k3 := 0) (im := false) rfl ⟨by decide, by decide⟩ (withB_true.2 ⟨a0, a1⟩) (withB_true.2 ⟨t0, t1⟩) w1 (.inr rfl) (.inl (by decide))
theorem ret_ok {f : Fn} : insE N f ⟨23, 0, 0, 0, 0⟩ = 0 := ins_ok (k1 := 0) (k2 := 0) (k3 := 0) (im := false) rfl ⟨by decide, by decide⟩ w1 w1 w1 (.inr rfl) (.inl (by decide))
theorem trap_ok {f : Fn} {m : Int} : insE N f ⟨24, 0, 0, 0, m⟩ = 0 := ins_ok (k1 := 0) (k2 := 0) (k3 := 0) (im := true) rfl ⟨by decide, by decide⟩ w1 w1 w1 (.inl rfl) (.inl (by decide))
end
end Go.Proofs.Ytjgoldlebmfiiaa
end

section
/-
  The contract of spillframedraw's Int: an int. Condition: the receiver is a list of choices.
-/
namespace Go.Proofs.Ytjgoldlebmfiiaa
open Go.RowKit

/-- An int is drawn. -/
def IntPost (g : Nat) (w : World) (e : Ending) (w' : World) : Prop := ∃ v : Int, e = .returned (.int .i64 v) ∧ Codes w' g ∧ w.grownBy w' (some g)

set_option maxHeartbeats 2000000 in
theorem int_any (g : Nat) (w : World) (h : Hid (Codes w g)) : Calls Try.prog 21 #[.pointer (some ⟨g, 0, none⟩)] w (IntPost g w) := by
  have c := next_any g
  have hgl := h.out.lt
  go_enter Try.func21, Try.ntmps21
  go_wp2_with fail
  refine (c 12 _ h (by omega) (by omega)).mono ?_
  rintro e w1 ⟨k, rfl, k0, k1, hC, hG, hz⟩
  have HC := hide hC
  have HG := hide hG
  have hw1 : w.heap.size ≤ w1.heap.size := hG.size
  clear hC hG hz
  by_cases hk : k = 11
  · subst hk
    obtain ⟨w2, hw2⟩ : ∃ w2, w1.alloc (.cells #[.int .i64 9223372036854775807, .int .i64 (-9223372036854775808), .int .i64 2147483648, .int .i64 2147483647, .int .i64 (-1), .int .i64 16777216, .int .i64 33554432, .int .i64 1048577, .int .i64 512, .int .i64 80] 3) = w2 := ⟨_, rfl⟩
    have HW2 := hide hw2
    have hr : Row w2 w1.heap.size 3 [.int .i64 9223372036854775807, .int .i64 (-9223372036854775808), .int .i64 2147483648, .int .i64 2147483647, .int .i64 (-1), .int .i64 16777216, .int .i64 33554432, .int .i64 1048577, .int .i64 512, .int .i64 80] := hw2 ▸ Row.new w1 _ _
    have HR := hide hr
    have HC2 : Hid (Codes w2 g) := hide (hw2 ▸ HC.out.alloc _)
    have HG2 : Hid (w.grownBy w2 (some g)) := hide (hw2 ▸ HG.out.trans (World.grownBy_alloc _ _ _))
    clear hw2 hr
    go_wp2_with fail
    rw [HW2.out]
    refine (c 10 _ HC2 (by omega) (by omega)).mono ?_
    rintro e w3 ⟨v, rfl, v0, v1, hC3, hG3, hz3⟩
    have HC3 := hide hC3
    have HG3 := hide (HG2.out.trans hG3)
    have hr3 := HR.out.grown hG3 (fun e => by injection e with e; omega)
    obtain ⟨v, rfl⟩ := Int.eq_ofNat_of_zero_le v0
    have hx : ∃ x : Int, w3.cell? ⟨w1.heap.size, v, none⟩ = some (.int .i64 x) := by
      rcases (show v = 0 ∨ v = 1 ∨ v = 2 ∨ v = 3 ∨ v = 4 ∨ v = 5 ∨ v = 6 ∨ v = 7 ∨ v = 8 ∨ v = 9 by omega) with rfl | rfl | rfl | rfl | rfl | rfl | rfl | rfl | rfl | rfl <;> exact ⟨_, hr3.cell rfl⟩
    obtain ⟨x, hx⟩ := hx
    clear hC3 hG3 hz3 hr3 HR HW2
    go_wp2_with fail
    go_ret
    exact ⟨x, rfl, HC3.out, HG3.out⟩
  · have hk' : (k == 11) = false := by simpa using hk
    go_wp2_with fail
    refine (c 256 _ HC (by omega) (by omega)).mono ?_
    rintro e w2 ⟨u, rfl, u0, u1, hC2, hG2, hz2⟩
    have HC2 := hide hC2
    have HG2 := hide (HG.out.trans hG2)
    clear hC2 hG2 hz2
    go_wp2_with fail
    refine (c 7 _ HC2 (by omega) (by omega)).mono ?_
    rintro e w3 ⟨v, rfl, v0, v1, hC3, hG3, hz3⟩
    have HC3 := hide hC3
    have HG3 := hide (HG2.out.trans hG3)
    clear hC3 hG3 hz3
    go_wp2_with fail
    go_ret
    exact ⟨_, rfl, HC3.out, HG3.out⟩
end Go.Proofs.Ytjgoldlebmfiiaa
end
