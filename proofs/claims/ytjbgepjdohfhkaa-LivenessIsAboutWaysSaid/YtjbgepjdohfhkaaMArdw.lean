import Derived.Test.YtjbgepjdohfhkaaMAmath
import Derived.Test.YtjbgepjdohfhkaaMFsm
import Derived.Test.YtjbgepjdohfhkaaMKit
import Derived.Test.YtjbgepjdohfhkaaMFrows
import Derived.Test.YtjbgepjdohfhkaaMRct
import Derived.Test.YtjbgepjdohfhkaaMFrn
import Derived.Test.YtjbgepjdohfhkaaMFbf
import Derived.Test.YtjbgepjdohfhkaaMAstm
import Derived.Test.YtjbgepjdohfhkaaMBrf
import Derived.Test.YtjbgepjdohfhkaaMAwk
import Derived.Test.YtjbgepjdohfhkaaMAscn
import Derived.Test.YtjbgepjdohfhkaaMLaw
import Derived.Laws.MakeOwn
import Derived.Maps.AppendAt
import Derived.ChangeAlike
import Derived.Deep.LoopGhost
set_option linter.unusedVariables false
set_option linter.unusedSimpArgs false
section
/-
  Ways, as mathematics: what the law's own search (read) keeps. No function of the program is named here.
-/
namespace Go.Proofs.Ytjbgepjdohfhkaa
open Go.RowKit

/-- Instruction j is come to from behind k with no write of s between. -/
inductive Wy (l : List Ins) (k : Nat) (s : Int) : Nat → Prop where
  | first {j : Nat} : j ∈ suc l k → Wy l k s j
  | next {m j : Nat} {x : Ins} : Wy l k s m → l[m]? = some x → ¬ (defB x.op = true ∧ s = x.a) → j ∈ suc l m → Wy l k s j
theorem wy_lv {l : List Ins} {k j : Nat} {s : Int} (h : Wy l k s j) : Bg l s j → Lv l k s := by
  induction h with
  | first hj =>
    rintro ⟨x, hx, hu | hu⟩
    · exact .use hj hx hu
    · exact .on hj hx hu.1 hu.2
  | next hm hx hn hj ih =>
    rintro ⟨y, hy, hu | hu⟩
    · exact ih ⟨_, hx, .inr ⟨hn, .use hj hy hu⟩⟩
    · exact ih ⟨_, hx, .inr ⟨hn, .on hj hy hu.1 hu.2⟩⟩
/-- D: seen; W: to be looked at. -/
structure RdI (l : List Ins) (k : Nat) (s : Int) (D : Nat → Bool) (W : List Nat) : Prop where
  way : ∀ j ∈ W, Wy l k s j
  one : ∀ j ∈ suc l k, D j = true ∨ j ∈ W
  dn : ∀ m x, D m = true → l[m]? = some x → s ∉ usL x.op x.b ∧ (¬ (defB x.op = true ∧ s = x.a) → ∀ j ∈ suc l m, D j = true ∨ j ∈ W)
section
variable {l : List Ins} {k j : Nat} {s : Int} {D : Nat → Bool} {W : List Nat} {x : Ins}
theorem RdI.start (l : List Ins) (k : Nat) (s : Int) : RdI l k s (fun _ => false) (suc l k) := ⟨fun j hj => .first hj, fun j hj => .inr hj, fun m x h => by cases h⟩
theorem RdI.old (h : RdI l k s D (j :: W)) (hd : D j = true) : RdI l k s D W := by
  have key : ∀ i, D i = true ∨ i ∈ j :: W → D i = true ∨ i ∈ W := fun i q => by
    rcases q with q | q
    · exact .inl q
    · rcases List.mem_cons.1 q with r | r
      · exact .inl (r ▸ hd)
      · exact .inr r
  exact ⟨fun i hi => h.way i (List.mem_cons_of_mem _ hi), fun i hi => key i (h.one i hi), fun m y hm hy => ⟨(h.dn m y hm hy).1, fun q i hi => key i ((h.dn m y hm hy).2 q i hi)⟩⟩
theorem RdI.found (h : RdI l k s D (j :: W)) (hx : l[j]? = some x) (hu : s ∈ usL x.op x.b) : Lv l k s := wy_lv (h.way j List.mem_cons_self) ⟨x, hx, .inl hu⟩
theorem RdI.stop (h : RdI l k s D (j :: W)) (hx : l[j]? = some x) (hu : s ∉ usL x.op x.b) (hd : defB x.op = true ∧ s = x.a) : RdI l k s (mark1 D j) W := by
  have key : ∀ i, D i = true ∨ i ∈ j :: W → mark1 D j i = true ∨ i ∈ W := fun i q => by
    rcases q with q | q
    · exact .inl (mark1_old j q)
    · rcases List.mem_cons.1 q with r | r
      · exact .inl (r ▸ mark1_same D j)
      · exact .inr r
  refine ⟨fun i hi => h.way i (List.mem_cons_of_mem _ hi), fun i hi => key i (h.one i hi), fun m y hm hy => ?_⟩
  by_cases e : m = j
  · subst e
    rw [hx] at hy
    injection hy with hy
    subst hy
    exact ⟨hu, fun q => (q hd).elim⟩
  · rw [mark1_ne e] at hm
    exact ⟨(h.dn m y hm hy).1, fun q i hi => key i ((h.dn m y hm hy).2 q i hi)⟩
theorem RdI.more (h : RdI l k s D (j :: W)) (hx : l[j]? = some x) (hu : s ∉ usL x.op x.b) (hd : ¬ (defB x.op = true ∧ s = x.a)) : RdI l k s (mark1 D j) (W ++ suc l j) := by
  have key : ∀ i, D i = true ∨ i ∈ j :: W → mark1 D j i = true ∨ i ∈ W ++ suc l j := fun i q => by
    rcases q with q | q
    · exact .inl (mark1_old j q)
    · rcases List.mem_cons.1 q with r | r
      · exact .inl (r ▸ mark1_same D j)
      · exact .inr (List.mem_append_left _ r)
  refine ⟨fun i hi => ?_, fun i hi => key i (h.one i hi), fun m y hm hy => ?_⟩
  · rcases List.mem_append.1 hi with q | q
    · exact h.way i (List.mem_cons_of_mem _ q)
    · exact .next (h.way j List.mem_cons_self) hx hd q
  · by_cases e : m = j
    · subst e
      rw [hx] at hy
      injection hy with hy
      subst hy
      exact ⟨hu, fun _ i hi => .inr (List.mem_append_right _ hi)⟩
    · rw [mark1_ne e] at hm
      exact ⟨(h.dn m y hm hy).1, fun q i hi => key i ((h.dn m y hm hy).2 q i hi)⟩
theorem RdI.none_ (h : RdI l k s D []) : ¬ Lv l k s := by
  have key : ∀ (m : Nat) (z : Int), Lv l m z → z = s → (∀ j ∈ suc l m, D j = true) → False := by
    intro m z hz
    induction hz with
    | use hj hx hu => intro e hs; subst e; exact (h.dn _ _ (hs _ hj) hx).1 hu
    | on hj hx hn _ ih =>
      intro e hs
      subst e
      exact ih rfl fun i hi => by
        rcases (h.dn _ _ (hs _ hj) hx).2 hn i hi with q | q
        · exact q
        · cases q
  exact fun hv => key k s hv rfl fun j hj => by
    rcases h.one j hj with q | q
    · exact q
    · cases q
end
end Go.Proofs.Ytjbgepjdohfhkaa
end

section
/-
  Rows of bools of a call's own: bools as cells, what a function that hands them back leaves. No function of the program is named here.
-/
namespace Go.Proofs.Ytjbgepjdohfhkaa
open Go.RowKit

theorem fmade {P : Program} {t e : TypeId} {i : TypeInfo} {z : Value} {L : List Value} (ht : P.underlying t = some (.slice e)) (hi : P.info? e = some i) (hz : i.zero = some z) (hs : i.size = 1) (hb : i.bytes ≤ 64) (hc : z.cells = #[z])
    (n : Nat) (hm : n ≤ 1048576) (hL : List.replicate n z = L) (W : World) :
    (Instr.makeSlice t (.int .i64 (n : Int)) (.int .i64 (n : Int))).run P W = .ok (.slice (some ⟨W.heap.size, 0, none⟩) n n) (W.alloc (.cells L.toArray e)) := by
  have hbn : i.bytes * n ≤ 64 * 1048576 := Nat.mul_le_mul hb hm
  have h := run_make W t e i _ ht hi hz .i64 .i64 (n : Int) (n : Int) (by omega) (by omega) (by rw [← Int.natCast_mul]; omega) (by omega)
  rw [h, show ((n : Int)).toNat = n by omega, hs, Nat.mul_one, hc, madeCells_list z n, hL]
/-- Bools as cells. -/
def bcells (l : List Bool) : List Value := l.map Value.bool
theorem bcells_at {l : List Bool} {k : Nat} {b : Bool} (h : l[k]? = some b) : (bcells l)[k]? = some (.bool b) := by simp [bcells, h]
theorem bcells_set (l : List Bool) (k : Nat) (b : Bool) : (bcells l).set k (.bool b) = bcells (l.set k b) := by simp [bcells, List.map_set]
theorem bcells_rep (n : Nat) (b : Bool) : bcells (List.replicate n b) = List.replicate n (.bool b) := by simp [bcells]
/-- What a function that hands back bools leaves. -/
def BoolsPost (R : List Bool) (w : World) (e : Ending) (w' : World) : Prop :=
  ∃ G, e = .returned (.slice (some ⟨G, 0, none⟩) R.length R.length) ∧ Row w' G 4 (bcells R) ∧ w.heap.size ≤ G ∧ Below w.heap.size w w'
theorem infoB : (Try.prog.info? 4).map (fun i => (i.zero, i.size, i.bytes)) = some (some (.bool false), 1, 1) := by kernel_rfl

theorem fbt_ne : 4 ≠ 3 := by decide
/-- A row of another type, over an append. -/
theorem Row.append {wr w2 : World} {base G t n : Nat} {v : Value} {xs cs : List Value} {o : Obj} (h : Row wr G t cs) (ho : wr.ownsRow base 3 1 v n xs) (ht : t ≠ 3) (hg : (wr.alloc o).grownBy w2 v.ownBlock) : Row w2 G t cs :=
  (h.alloc o).grown hg fun e => by
    rcases fown_apart ho h ht with h1 | h1
    · rw [h1] at e; cases e
    · exact h1 e.symm
theorem IntRel.far {w wr : World} {l : List Int} {v u : Value} {G t k : Nat} {cs : List Value} (h : IntRel w l v wr) (hr : Row wr G t cs) (ht : t ≠ 3) (hG : w.heap.size ≤ G) : IntRel w l v (wr.setCell ⟨G, k, none⟩ u) :=
  ⟨h.1.kept (fgrown_set wr G k u) (fown_apart h.1 hr ht), h.2.setCell (p := ⟨G, k, none⟩) hG _⟩
/-- The reached ones, in a row of the call's own. -/
def RchPost (l : List Ins) (n : Nat) (w : World) (e : Ending) (w' : World) : Prop := ∃ R, IsRch (suc l) n R ∧ BoolsPost R w e w'
end Go.Proofs.Ytjbgepjdohfhkaa
end

section
/-
  The contract of spillframeref04.Has: whether a number is in a list of ints. Conditions: those of the types.
-/
namespace Go.Proofs.Ytjbgepjdohfhkaa
open Go.RowKit

theorem rhas_any (A : Option Addr) (n c : Nat) (zs : List Int) (x : Int) (w : World) (h : Hid (Lst w A n zs)) :
    Calls Try.prog 12 #[.slice A n c, .int .i64 x] w fun e w' => e = .returned (.bool (hasB zs x)) ∧ w = w' := by
  have hl := h.out.le
  have HB := hide (show hasB zs x = decide (x ∈ zs) from rfl)
  go_enter Try.func12, Try.ntmps12
  go_wp2_with fail
  go_loop [5] (fun i => ∃ k : Nat, k ≤ n ∧ i = .int .i64 k ∧ Hid (x ∉ zs.take k)) (fun i => n - (intOf i).toNat)
  case atStart => exact ⟨0, by omega, rfl, hide (by simp)⟩
  case round =>
    obtain ⟨k, hk, rfl, hT⟩ := hrel
    by_cases hlt : k < n
    · have l1 : k < zs.length := by have := h.out.len; omega
      obtain ⟨b1, o1, rfl, _, hc1⟩ := int_at h.out.see l1
      have N1 := hide (fun heq : zs[k] = x => (show hasB zs x = true by unfold hasB; rw [decide_eq_true_iff, ← heq]; exact List.getElem_mem l1))
      have N2 := hide (fun hne : zs[k] ≠ x => (show x ∉ zs.take (k + 1) by
        rw [take_snoc l1, List.mem_append, List.mem_singleton]
        rintro (h1 | h1)
        · exact hT.out h1
        · exact hne h1.symm))
      generalize zs[k] = y at hc1 N1 N2
      clear l1
      by_cases hxy : y = x
      · subst hxy
        have H1 := hide (N1.out rfl)
        clear N1 N2
        go_wp2_with fail
        go_ret
        exact ⟨by rw [H1.out]; rfl, rfl⟩
      · have hne : (y == x) = false := by rw [beq_eq_false_iff_ne]; exact hxy
        have H2 := hide (N2.out hxy)
        clear N1 N2 hxy
        go_wp2_with fail
        go_round
        case rel => exact ⟨k + 1, by omega, by go_num, H2⟩
        case measure => simp [intOf]; omega
    · obtain rfl : k = n := by omega
      have H1 := hide (show hasB zs x = false by
        have h1 := hT.out
        rw [List.take_of_length_le (by have := h.out.len; omega)] at h1
        exact decide_eq_false h1)
      go_wp2_with fail
      go_ret
      exact ⟨by rw [H1.out]; rfl, rfl⟩

end Go.Proofs.Ytjbgepjdohfhkaa
end

section
/-
  The contract of the law's own search (read): whether a slot may be read behind an instruction, before it is written. Conditions: those of the types; the function is right.
-/
namespace Go.Proofs.Ytjbgepjdohfhkaa
open Go.RowKit

def bits (D : Nat → Bool) (n : Nat) : List Bool := (List.range n).map D
theorem bits_len (D : Nat → Bool) (n : Nat) : (bits D n).length = n := by simp [bits]
theorem bits_at {D : Nat → Bool} {n j : Nat} (h : j < n) : (bits D n)[j]? = some (D j) := by simp [bits, h]
theorem bits_mark {D : Nat → Bool} {n j : Nat} (h : j < n) : (bits D n).set j true = bits (mark1 D j) n := by
  refine List.ext_getElem? fun m => ?_
  by_cases hm : m < n
  · rw [List.getElem?_set, bits_at hm]
    by_cases e : j = m
    · subst e
      rw [if_pos rfl, if_pos (by rw [bits_len]; exact h), bits_at h, mark1_same]
    · rw [if_neg e, bits_at hm, mark1_ne (fun q => e q.symm)]
  · rw [List.getElem?_eq_none (by rw [List.length_set, bits_len]; omega), List.getElem?_eq_none (by rw [bits_len]; omega)]
theorem bits_none (n : Nat) : bits (fun _ => false) n = List.replicate n false := by
  refine List.ext_getElem? fun m => ?_
  by_cases hm : m < n
  · rw [bits_at hm, List.getElem?_replicate, if_pos hm]
  · rw [List.getElem?_eq_none (by rw [bits_len]; omega), List.getElem?_eq_none (by simp; omega)]
/-- What it keeps in memory. -/
structure RwI (w : World) (P : Int) (A1 : Option Addr) (n1 c1 : Nat) (A2 : Option Addr) (n2 c2 : Nat) (D : Nat → Bool) (W : List Nat) (v : Value) (wr : World) : Prop where
  f : Row wr w.heap.size 27 [.int .i64 P, .slice A1 n1 c1, .slice A2 n2 c2]
  sn : Row wr (w.heap.size + 1) 4 (bcells (bits D n2))
  td : wr.ownsRow w.heap.size 3 1 v W.length (cellsI (toI W))
  b : Below w.heap.size w wr
section
variable {P : Int} {A1 : Option Addr} {n1 c1 : Nat} {A2 : Option Addr} {n2 c2 : Nat} {l : List Ins} {M k : Nat} {s : Int} {D : Nat → Bool} {W : List Nat} {v : Value} {w wr w2 : World}
theorem RwI.call (h : RwI w P A1 n1 c1 A2 n2 c2 D W v wr) (hb : Below wr.heap.size wr w2) : RwI w P A1 n1 c1 A2 n2 c2 D W v w2 := ⟨h.f.call hb, h.sn.call hb, own_below h.td hb, below_call h.b hb⟩
theorem RwI.mark (h : RwI w P A1 n1 c1 A2 n2 c2 D W v wr) {j : Nat} (hj : j < n2) : RwI w P A1 n1 c1 A2 n2 c2 (mark1 D j) W v (wr.setCell ⟨w.heap.size + 1, j, none⟩ (.bool true)) :=
  ⟨h.f.far (p := ⟨w.heap.size + 1, j, none⟩) (by simp) _, by rw [← bits_mark hj, ← bcells_set]; exact h.sn.set_ j _, h.td.kept (fgrown_set wr (w.heap.size + 1) j _) (fown_apart h.td h.sn fbt_ne), h.b.setCell (p := ⟨w.heap.size + 1, j, none⟩) (by simp) _⟩
theorem RwI.turn {W' : List Nat} {u : Value} {m : Nat} {xs : List Value} (h : RwI w P A1 n1 c1 A2 n2 c2 D W v wr) (hu : wr.ownsRow w.heap.size 3 1 u m xs) (hg : wr.grownBy w2 u.ownBlock) {v' : Value} (ho : w2.ownsRow w.heap.size 3 1 v' W'.length (cellsI (toI W'))) : RwI w P A1 n1 c1 A2 n2 c2 D W' v' w2 := by
  have key : ∀ (g t : Nat) (cs : List Value), Row wr g t cs → t ≠ 3 → Row w2 g t cs := fun g t cs hr ht => hr.grown hg fun e => by
    rcases fown_apart hu hr ht with q | q
    · rw [q] at e; cases e
    · exact q e.symm
  exact ⟨key _ _ _ h.f (by decide), key _ _ _ h.sn fbt_ne, ho, below_append h.b hu (Nat.le_refl _) hg h.b.size⟩
theorem wy_lt (hf : FlowOk l) {j : Nat} (h : Wy l k s j) : j < l.length := by
  cases h with
  | first hj => exact suc_lt hf hj
  | next _ _ _ hj => exact suc_lt hf hj
def rdPost (l : List Ins) (k : Nat) (s : Int) (w : World) (e : Ending) (w' : World) : Prop := ∃ b : Bool, e = .returned (.bool b) ∧ (b = true ↔ Lv l k s) ∧ Below w.heap.size w w'
set_option maxRecDepth 100000 in
set_option maxHeartbeats 4000000 in
theorem read_any (w : World) (hC : Hid (CdAt w A2 n2 l)) (hok : Hid (LvOk l M)) (hk : k < n2) (hs0 : 0 ≤ s) (hs1 : s < 512) :
    Calls Try.prog 13 #[fv P A1 n1 c1 A2 n2 c2, .int .i64 (k : Int), .int .i64 s] w (rdPost l k s w) := by
  obtain ⟨i0, hi, hz0, hz1, hz2⟩ := info_parts infoI
  obtain ⟨j0, ji, jz0, jz1, jz2⟩ := info_parts infoB
  have hlen := hC.out.len
  have hn2 := hC.out.few
  have hmk := fmade (P := Try.prog) Try.underlying58 ji jz0 jz1 (by omega) rfl n2 (by omega) (by rw [← bcells_rep])
  obtain ⟨W1, hW1⟩ : ∃ W, w.alloc (.cells #[.int .i64 P, .slice A1 n1 c1, .slice A2 n2 c2] 27) = W := ⟨_, rfl⟩
  have R1 := hide (show Row W1 w.heap.size 27 [.int .i64 P, .slice A1 n1 c1, .slice A2 n2 c2] by rw [← hW1]; exact Row.new w _ _)
  have hsz1 : W1.heap.size = w.heap.size + 1 := by rw [← hW1]; simp
  obtain ⟨W2, hW2⟩ : ∃ W, W1.alloc (.cells (bcells (List.replicate n2 false)).toArray 4) = W := ⟨_, rfl⟩
  have F2 := hide (show Row W2 w.heap.size 27 [.int .i64 P, .slice A1 n1 c1, .slice A2 n2 c2] by rw [← hW2]; exact R1.out.alloc _)
  have S2 := hide (show Row W2 (w.heap.size + 1) 4 (bcells (bits (fun _ => false) n2)) by rw [← hW2, bits_none]; exact (Row.new W1 _ _).at_ hsz1)
  have B2 := hide (show Below w.heap.size w W2 by rw [← hW2, ← hW1]; exact below2 _ _ _)
  have HW1 := hide hW1
  have HW2 := hide hW2
  have HS1 := hide hsz1
  have hcu := cntU_le (fun _ => false) n2
  clear hW1 hW2 hsz1
  go_enter Try.func13, Try.ntmps13
  go_upto_region 1 with (fail)
  rw [HW1.out]
  have q2 := R1.out.cell (k := 2) rfl
  go_upto_region 2 with (fail)
  rw [HS1.out, HW2.out]
  clear q2 hmk HW1 HS1 HW2 R1
  have q0 := F2.out.cell (k := 0) rfl
  have q1 := F2.out.cell (k := 1) rfl
  have q2 := F2.out.cell (k := 2) rfl
  have cn := rnext_any (P := P) (A1 := A1) (n1 := n1) (c1 := c1) (c2 := c2) (k : Int) W2 (hide (hC.out.below B2.out)) hok.out.flow
  rw [sucZ_nat] at cn
  have hx2 := suc_len l k
  go_wp2_with fail
  refine cn.mono ?_
  rintro e w5 ⟨A5, c5, rfl, ho5, hb5⟩
  have I5 := hide (show RwI w P A1 n1 c1 A2 n2 c2 (fun _ => false) (suc l k) (.slice A5 (toI (suc l k)).length c5) w5 from ⟨F2.out.call hb5, S2.out.call hb5, by rw [toI_len] at ho5 ⊢; exact own_lower ho5 B2.out.size, below_call B2.out hb5⟩)
  have M5 := hide (RdI.start l k s)
  clear ho5 hb5 cn q0 q1 q2 F2 S2 B2
  go_wp2_with fail
  go_loopg [8, 9, 10, 11] (n2 * 3 + 3) (fun gg s8 s9 s10 s11 wr => ∃ (D : Nat → Bool) (W : List Nat), cntU D n2 * 3 + W.length + 1 ≤ gg ∧ cntU D n2 * 3 + W.length ≤ n2 * 3 + 2 ∧ Hid (RdI l k s D W) ∧ Hid (RwI w P A1 n1 c1 A2 n2 c2 D W s8 wr))
  case atStart => exact ⟨_, _, by omega, by omega, M5, I5⟩
  case round =>
    obtain ⟨D, W, hg1, hg2, hM, hI⟩ := hrel
    clear I5 M5
    have hSt := hI.out.td
    rcases W with _ | ⟨j, W'⟩
    · obtain ⟨A8, c8, rfl, -, -⟩ := own_form hSt
      have HF := hide (show rdPost l k s w (.returned (.bool false)) wr from ⟨false, rfl, ⟨fun e => (by cases e), fun hv => (hM.out.none_ hv).elim⟩, hI.out.b⟩)
      clear hSt hM hI
      go_wp2_with fail
      go_ret
      exact HF.out
    · simp only [List.length_cons] at hg1 hg2 hSt
      obtain ⟨g8, c8, rfl, -, -, hcap, hcm⟩ := own_block hSt (by omega)
      have hjn : j < n2 := by have := wy_lt hok.out.flow (hM.out.way j List.mem_cons_self); omega
      have x0 : wr.cell? ⟨g8, 0, none⟩ = some (.int .i64 (j : Int)) := (hSt.cellAt 0 (by omega)).trans rfl
      have hSee := hide (show Sees wr wr.heap.size (some ⟨g8, 1, none⟩) (cellsI (toI W')) from (Sees.ownN hSt).drop 1)
      have ho0 : wr.ownsRow w.heap.size 3 1 (.slice none 0 0) 0 [] := ⟨rfl, .inl ⟨rfl, rfl⟩⟩
      have HTN := hide (fun (w2 : World) (v' : Value) (hg : wr.grownBy w2 (Value.slice none 0 0).ownBlock) (ho : w2.ownsRow w.heap.size 3 1 v' W'.length (cellsI (toI W'))) => hI.out.turn ho0 hg ho)
      have hwl : W'.length ≤ 4000 := by omega
      have hp0 : (0 : Int) < (W'.length : Int) + 1 := by omega
      have hp1 : (1 : Int) ≤ (W'.length : Int) + 1 := by omega
      have hp2 : (W'.length : Int) + 1 ≤ (c8 : Int) := by omega
      have HSZ := hide hI.out.b.size
      have HC1 := hide (cellsI_one (toI W'))
      have HCL := hide (show (cellsI (toI W')).length = W'.length by rw [cellsI_length, toI_len])
      clear hSt hI
      by_cases hc1 : c8 = 1
      · have hw0 : W' = [] := List.eq_nil_of_length_eq_zero (by omega)
        have hSe0 := hide (show Sees wr wr.heap.size (some ⟨g8, 0, none⟩) (cellsI (toI ([] : List Nat))) from Sees.nil_ _ _ _)
        subst hc1 hw0
        clear hSee
        go_upto_region 6 with (at_builtin; refine wpList_append_sees rfl (.const (.slice none 0 0)) (.tmp 26) 38 rfl w.heap.size 3 i0 (.int .i64 0) 8 Try.underlying38 hi hz0 hz1 hz2 rfl _ 0 [] rfl ho0 wr.heap.size (some ⟨g8, 0, none⟩) 0 0 (cellsI (toI ([] : List Nat))) rfl (hide (fun e => by cases e)) HCL.out hSe0.out HC1.out (by unfold maxLen; omega) (by omega) HSZ.out ?_)
        intro v7 w7 ho7 hg7
        have hI7 := HTN.out w7 v7 hg7 (by simpa using ho7)
        have I7 := hide hI7
        obtain ⟨A7, c7, rfl, -, -⟩ := own_form hI7.td
        clear ho7 hg7 hI7 HTN ho0 x0
        have y0 := I7.out.sn.cell (k := j) (bcells_at (bits_at hjn))
        have y1 := I7.out.sn.free j
        have hj0 : (0 : Int) ≤ (j : Int) := by omega
        have hjn' : (j : Int) < (n2 : Int) := by omega
        cases hD : D j with
        | true =>
          rw [hD] at y0
          have M7 := hide (hM.out.old hD)
          clear hM
          go_wp2_with fail
          go_roundg (gk - 1)
          case rel => exact ⟨D, ([] : List Nat), by omega, by omega, M7, I7⟩
          case measure => omega
        | false =>
          rw [hD] at y0
          have hcm := cntU_mark hjn hD
          have I8 := hide (I7.out.mark hjn)
          obtain ⟨W8, hW8⟩ : ∃ V, w7.setCell ⟨w.heap.size + 1, j, none⟩ (.bool true) = V := ⟨_, rfl⟩
          rw [hW8] at I8
          have HW8 := hide hW8
          have hjl : j < l.length := by omega
          obtain ⟨x, hx⟩ : ∃ x, l[j]? = some x := ⟨_, List.getElem?_eq_getElem hjl⟩
          obtain ⟨_, hxe⟩ := List.getElem?_eq_some_iff.1 hx
          obtain ⟨b2, o2, rfl, hb2, x0, x1, x2, x3, x4⟩ := ins_at hC.out.see hjl
          rw [hxe] at x0 x1 x2 x3 x4
          have KX := hide (fun (V : World) (hb : Below w.heap.size w V) => (show V.cell? ⟨b2, o2 + j * 5, none⟩ = some (.int .i64 x.op) ∧ V.cell? ⟨b2, o2 + j * 5 + 1, none⟩ = some (.int .i64 x.a) ∧ V.cell? ⟨b2, o2 + j * 5 + 2, none⟩ = some (.int .i64 x.b) ∧ V.cell? ⟨b2, o2 + j * 5 + 3, none⟩ = some (.int .i64 x.c) ∧ V.cell? ⟨b2, o2 + j * 5 + 4, none⟩ = some (.int .u64 x.imm) from
            ⟨keep_cellB hb x0, keep_cellB hb x1, keep_cellB hb x2, keep_cellB hb x3, keep_cellB hb x4⟩))
          have HX := hide hx
          have HUA := hide (hok.out.usAsc hx)
          clear x0 x1 x2 x3 x4 hb2 hxe hx hW8 hD hjl
          go_upto_region 8 with (fail)
          rw [HW8.out]
          clear y0 y1 HW8 I7
          have q0 := I8.out.f.cell (k := 0) rfl
          have q1 := I8.out.f.cell (k := 1) rfl
          have q2 := I8.out.f.cell (k := 2) rfl
          obtain ⟨x0, x1, x2, x3, x4⟩ := KX.out W8 I8.out.b
          go_wp2_with fail
          refine (ruses_any x.op x.a x.b x.c x.imm W8).mono ?_
          rintro e w9 hP
          obtain ⟨A9, c9, rfl, hl9, -, hb9⟩ := OutPost.open (r := usL x.op x.b) (w := W8) (w' := w9) hP HUA
          have I9 := hide (I8.out.call hb9)
          clear hP hb9 x0 x1 x2 x3 x4 q0 q1 q2 I8
          go_wp2_with fail
          refine (rhas_any A9 _ c9 (usL x.op x.b) s w9 hl9).mono ?_
          rintro e w9' ⟨rfl, rfl⟩
          by_cases hu : s ∈ usL x.op x.b
          · rw [show hasB (usL x.op x.b) s = true from decide_eq_true hu]
            have HF := hide (show rdPost l k s w (.returned (.bool true)) w9 from ⟨true, rfl, ⟨fun _ => hM.out.found HX.out hu, fun _ => rfl⟩, I9.out.b⟩)
            clear hM hl9 I9
            go_wp2_with fail
            go_ret
            exact HF.out
          · rw [show hasB (usL x.op x.b) s = false from decide_eq_false hu]
            have q0 := I9.out.f.cell (k := 0) rfl
            have q1 := I9.out.f.cell (k := 1) rfl
            have q2 := I9.out.f.cell (k := 2) rfl
            obtain ⟨x0, x1, x2, x3, x4⟩ := KX.out w9 I9.out.b
            have cd := rdefines_any x.op x.a x.b x.c x.imm w9
            unfold DefPost at cd
            by_cases hd : defB x.op = true ∧ s = x.a
            · have M9 := hide (hM.out.stop HX.out hu hd)
              rw [dfI_on hd.1, hd.1] at cd
              have hne : (x.a != s) = false := by rw [hd.2]; simp
              clear hM hl9 hd hu
              go_wp2_with fail
              refine cd.mono ?_
              rintro e w10 ⟨rfl, hb10⟩
              have I10 := hide (I9.out.call hb10)
              clear hb10 cd x0 x1 x2 x3 x4 q0 q1 q2 I9 KX
              go_wp2_with fail
              go_roundg (gk - 1)
              case rel => exact ⟨_, ([] : List Nat), by omega, by omega, M9, I10⟩
              case measure => omega
            · have M9 := hide (hM.out.more HX.out hu hd)
              clear hM hl9 hu KX
              have hcond : (defB x.op = true ∧ (x.a != s) = true) ∨ defB x.op = false := by
                cases h1 : defB x.op with
                | false => exact .inr rfl
                | true => exact .inl ⟨rfl, by rw [bne_iff_ne]; exact fun e => hd ⟨h1, e.symm⟩⟩
              clear hd
              have hx2 := suc_len l j
              have NX := hide (fun (V : World) (hb : Below w.heap.size w V) => (show Calls Try.prog 26 #[fv P A1 n1 c1 (some ⟨b2, o2, none⟩) n2 c2, .int .i64 (j : Int)] V (OutPost (toI (suc l j)) V) by
                have q := rnext_any (P := P) (A1 := A1) (n1 := n1) (c1 := c1) (c2 := c2) (j : Int) V (hide (hC.out.below hb)) hok.out.flow
                rw [sucZ_nat] at q
                exact q))
              go_wp2_with fail
              refine cd.mono ?_
              rintro e w10 ⟨rfl, hb10⟩
              have I10 := hide (I9.out.call hb10)
              clear hb10 cd x0 x1 x2 x3 x4 q0 q1 q2 I9
              rcases hcond with ⟨h1, h2⟩ | h1
              · rw [dfI_on h1, h1]
                clear h1
                have q0 := I10.out.f.cell (k := 0) rfl
                have q1 := I10.out.f.cell (k := 1) rfl
                have q2 := I10.out.f.cell (k := 2) rfl
                have cx := NX.out w10 I10.out.b
                obtain ⟨xs, hxs⟩ : ∃ xs, suc l j = xs := ⟨_, rfl⟩
                rw [hxs] at cx hx2 M9
                clear hxs
                go_wp2_with fail
                refine cx.mono ?_
                rintro e w11 hP
                unfold OutPost at hP
                obtain ⟨A11, c11, rfl, ho11, hb11⟩ := hP
                rw [toI_len] at ho11 ⊢
                have I11 := hide (I10.out.call hb11)
                have S11 := hide (Sees.ownN ho11)
                have HA11 := hide (show A11 = none → c11 = 0 by obtain ⟨A', c', e, h1, -⟩ := own_form ho11; injection e with e1 _ e3; subst e1 e3; exact h1)
                have HX1 := hide (cellsI_one (toI xs))
                have HXL := hide (show (cellsI (toI xs)).length = xs.length by rw [cellsI_length, toI_len])
                have HT2 := hide (fun (w2 : World) (v' : Value) (hg : w11.grownBy w2 (Value.slice A7 ([] : List Nat).length c7).ownBlock) (ho : w2.ownsRow w.heap.size 3 1 v' (([] : List Nat) ++ xs).length (cellsI (toI (([] : List Nat) ++ xs)))) => I11.out.turn I11.out.td hg ho)
                have HTD := hide I11.out.td
                have HS11 := hide I11.out.b.size
                clear ho11 hb11 cx q0 q1 q2 I10 NX I11
                go_wp2_with (at_builtin; refine wpList_append_sees rfl (.tmp 59) (.tmp 62) 38 rfl w.heap.size 3 i0 (.int .i64 0) 8 Try.underlying38 hi hz0 hz1 hz2 rfl _ ([] : List Nat).length (cellsI (toI ([] : List Nat))) rfl HTD.out w11.heap.size A11 xs.length c11 (cellsI (toI xs)) rfl HA11 HXL.out S11.out HX1.out (by unfold maxLen; omega) (by omega) HS11.out ?_)
                intro v12 w12 ho12 hg12
                have I12 := hide (HT2.out w12 v12 hg12 (by first | (rw [toI_append, cellsI_append, List.length_append]; exact ho12) | simpa [toI, cellsI] using ho12))
                clear ho12 hg12 HT2 HTD S11
                go_wp2_with fail
                go_roundg (gk - 1)
                case rel => exact ⟨_, ([] : List Nat) ++ xs, by rw [List.length_append]; omega, by rw [List.length_append]; omega, M9, I12⟩
                case measure => omega
              · rw [h1]
                clear h1
                have q0 := I10.out.f.cell (k := 0) rfl
                have q1 := I10.out.f.cell (k := 1) rfl
                have q2 := I10.out.f.cell (k := 2) rfl
                have cx := NX.out w10 I10.out.b
                obtain ⟨xs, hxs⟩ : ∃ xs, suc l j = xs := ⟨_, rfl⟩
                rw [hxs] at cx hx2 M9
                clear hxs
                go_wp2_with fail
                refine cx.mono ?_
                rintro e w11 hP
                unfold OutPost at hP
                obtain ⟨A11, c11, rfl, ho11, hb11⟩ := hP
                rw [toI_len] at ho11 ⊢
                have I11 := hide (I10.out.call hb11)
                have S11 := hide (Sees.ownN ho11)
                have HA11 := hide (show A11 = none → c11 = 0 by obtain ⟨A', c', e, h1, -⟩ := own_form ho11; injection e with e1 _ e3; subst e1 e3; exact h1)
                have HX1 := hide (cellsI_one (toI xs))
                have HXL := hide (show (cellsI (toI xs)).length = xs.length by rw [cellsI_length, toI_len])
                have HT2 := hide (fun (w2 : World) (v' : Value) (hg : w11.grownBy w2 (Value.slice A7 ([] : List Nat).length c7).ownBlock) (ho : w2.ownsRow w.heap.size 3 1 v' (([] : List Nat) ++ xs).length (cellsI (toI (([] : List Nat) ++ xs)))) => I11.out.turn I11.out.td hg ho)
                have HTD := hide I11.out.td
                have HS11 := hide I11.out.b.size
                clear ho11 hb11 cx q0 q1 q2 I10 NX I11
                go_wp2_with (at_builtin; refine wpList_append_sees rfl (.tmp 59) (.tmp 62) 38 rfl w.heap.size 3 i0 (.int .i64 0) 8 Try.underlying38 hi hz0 hz1 hz2 rfl _ ([] : List Nat).length (cellsI (toI ([] : List Nat))) rfl HTD.out w11.heap.size A11 xs.length c11 (cellsI (toI xs)) rfl HA11 HXL.out S11.out HX1.out (by unfold maxLen; omega) (by omega) HS11.out ?_)
                intro v12 w12 ho12 hg12
                have I12 := hide (HT2.out w12 v12 hg12 (by first | (rw [toI_append, cellsI_append, List.length_append]; exact ho12) | simpa [toI, cellsI] using ho12))
                clear ho12 hg12 HT2 HTD S11
                go_wp2_with fail
                go_roundg (gk - 1)
                case rel => exact ⟨_, ([] : List Nat) ++ xs, by rw [List.length_append]; omega, by rw [List.length_append]; omega, M9, I12⟩
                case measure => omega
      · go_upto_region 6 with (at_builtin; refine wpList_append_sees rfl (.const (.slice none 0 0)) (.tmp 26) 38 rfl w.heap.size 3 i0 (.int .i64 0) 8 Try.underlying38 hi hz0 hz1 hz2 rfl _ 0 [] rfl ho0 wr.heap.size (some ⟨g8, 1, none⟩) W'.length (c8 - 1) (cellsI (toI W')) rfl (hide (fun e => by cases e)) HCL.out hSee.out HC1.out (by unfold maxLen; omega) (by omega) HSZ.out ?_)
        intro v7 w7 ho7 hg7
        have hI7 := HTN.out w7 v7 hg7 (by simpa using ho7)
        have I7 := hide hI7
        obtain ⟨A7, c7, rfl, -, -⟩ := own_form hI7.td
        clear ho7 hg7 hI7 HTN ho0 x0
        have y0 := I7.out.sn.cell (k := j) (bcells_at (bits_at hjn))
        have y1 := I7.out.sn.free j
        have hj0 : (0 : Int) ≤ (j : Int) := by omega
        have hjn' : (j : Int) < (n2 : Int) := by omega
        cases hD : D j with
        | true =>
          rw [hD] at y0
          have M7 := hide (hM.out.old hD)
          clear hM
          go_wp2_with fail
          go_roundg (gk - 1)
          case rel => exact ⟨D, W', by omega, by omega, M7, I7⟩
          case measure => omega
        | false =>
          rw [hD] at y0
          have hcm := cntU_mark hjn hD
          have I8 := hide (I7.out.mark hjn)
          obtain ⟨W8, hW8⟩ : ∃ V, w7.setCell ⟨w.heap.size + 1, j, none⟩ (.bool true) = V := ⟨_, rfl⟩
          rw [hW8] at I8
          have HW8 := hide hW8
          have hjl : j < l.length := by omega
          obtain ⟨x, hx⟩ : ∃ x, l[j]? = some x := ⟨_, List.getElem?_eq_getElem hjl⟩
          obtain ⟨_, hxe⟩ := List.getElem?_eq_some_iff.1 hx
          obtain ⟨b2, o2, rfl, hb2, x0, x1, x2, x3, x4⟩ := ins_at hC.out.see hjl
          rw [hxe] at x0 x1 x2 x3 x4
          have KX := hide (fun (V : World) (hb : Below w.heap.size w V) => (show V.cell? ⟨b2, o2 + j * 5, none⟩ = some (.int .i64 x.op) ∧ V.cell? ⟨b2, o2 + j * 5 + 1, none⟩ = some (.int .i64 x.a) ∧ V.cell? ⟨b2, o2 + j * 5 + 2, none⟩ = some (.int .i64 x.b) ∧ V.cell? ⟨b2, o2 + j * 5 + 3, none⟩ = some (.int .i64 x.c) ∧ V.cell? ⟨b2, o2 + j * 5 + 4, none⟩ = some (.int .u64 x.imm) from
            ⟨keep_cellB hb x0, keep_cellB hb x1, keep_cellB hb x2, keep_cellB hb x3, keep_cellB hb x4⟩))
          have HX := hide hx
          have HUA := hide (hok.out.usAsc hx)
          clear x0 x1 x2 x3 x4 hb2 hxe hx hW8 hD hjl
          go_upto_region 8 with (fail)
          rw [HW8.out]
          clear y0 y1 HW8 I7
          have q0 := I8.out.f.cell (k := 0) rfl
          have q1 := I8.out.f.cell (k := 1) rfl
          have q2 := I8.out.f.cell (k := 2) rfl
          obtain ⟨x0, x1, x2, x3, x4⟩ := KX.out W8 I8.out.b
          go_wp2_with fail
          refine (ruses_any x.op x.a x.b x.c x.imm W8).mono ?_
          rintro e w9 hP
          obtain ⟨A9, c9, rfl, hl9, -, hb9⟩ := OutPost.open (r := usL x.op x.b) (w := W8) (w' := w9) hP HUA
          have I9 := hide (I8.out.call hb9)
          clear hP hb9 x0 x1 x2 x3 x4 q0 q1 q2 I8
          go_wp2_with fail
          refine (rhas_any A9 _ c9 (usL x.op x.b) s w9 hl9).mono ?_
          rintro e w9' ⟨rfl, rfl⟩
          by_cases hu : s ∈ usL x.op x.b
          · rw [show hasB (usL x.op x.b) s = true from decide_eq_true hu]
            have HF := hide (show rdPost l k s w (.returned (.bool true)) w9 from ⟨true, rfl, ⟨fun _ => hM.out.found HX.out hu, fun _ => rfl⟩, I9.out.b⟩)
            clear hM hl9 I9
            go_wp2_with fail
            go_ret
            exact HF.out
          · rw [show hasB (usL x.op x.b) s = false from decide_eq_false hu]
            have q0 := I9.out.f.cell (k := 0) rfl
            have q1 := I9.out.f.cell (k := 1) rfl
            have q2 := I9.out.f.cell (k := 2) rfl
            obtain ⟨x0, x1, x2, x3, x4⟩ := KX.out w9 I9.out.b
            have cd := rdefines_any x.op x.a x.b x.c x.imm w9
            unfold DefPost at cd
            by_cases hd : defB x.op = true ∧ s = x.a
            · have M9 := hide (hM.out.stop HX.out hu hd)
              rw [dfI_on hd.1, hd.1] at cd
              have hne : (x.a != s) = false := by rw [hd.2]; simp
              clear hM hl9 hd hu
              go_wp2_with fail
              refine cd.mono ?_
              rintro e w10 ⟨rfl, hb10⟩
              have I10 := hide (I9.out.call hb10)
              clear hb10 cd x0 x1 x2 x3 x4 q0 q1 q2 I9 KX
              go_wp2_with fail
              go_roundg (gk - 1)
              case rel => exact ⟨_, W', by omega, by omega, M9, I10⟩
              case measure => omega
            · have M9 := hide (hM.out.more HX.out hu hd)
              clear hM hl9 hu KX
              have hcond : (defB x.op = true ∧ (x.a != s) = true) ∨ defB x.op = false := by
                cases h1 : defB x.op with
                | false => exact .inr rfl
                | true => exact .inl ⟨rfl, by rw [bne_iff_ne]; exact fun e => hd ⟨h1, e.symm⟩⟩
              clear hd
              have hx2 := suc_len l j
              have NX := hide (fun (V : World) (hb : Below w.heap.size w V) => (show Calls Try.prog 26 #[fv P A1 n1 c1 (some ⟨b2, o2, none⟩) n2 c2, .int .i64 (j : Int)] V (OutPost (toI (suc l j)) V) by
                have q := rnext_any (P := P) (A1 := A1) (n1 := n1) (c1 := c1) (c2 := c2) (j : Int) V (hide (hC.out.below hb)) hok.out.flow
                rw [sucZ_nat] at q
                exact q))
              go_wp2_with fail
              refine cd.mono ?_
              rintro e w10 ⟨rfl, hb10⟩
              have I10 := hide (I9.out.call hb10)
              clear hb10 cd x0 x1 x2 x3 x4 q0 q1 q2 I9
              rcases hcond with ⟨h1, h2⟩ | h1
              · rw [dfI_on h1, h1]
                clear h1
                have q0 := I10.out.f.cell (k := 0) rfl
                have q1 := I10.out.f.cell (k := 1) rfl
                have q2 := I10.out.f.cell (k := 2) rfl
                have cx := NX.out w10 I10.out.b
                obtain ⟨xs, hxs⟩ : ∃ xs, suc l j = xs := ⟨_, rfl⟩
                rw [hxs] at cx hx2 M9
                clear hxs
                go_wp2_with fail
                refine cx.mono ?_
                rintro e w11 hP
                unfold OutPost at hP
                obtain ⟨A11, c11, rfl, ho11, hb11⟩ := hP
                rw [toI_len] at ho11 ⊢
                have I11 := hide (I10.out.call hb11)
                have S11 := hide (Sees.ownN ho11)
                have HA11 := hide (show A11 = none → c11 = 0 by obtain ⟨A', c', e, h1, -⟩ := own_form ho11; injection e with e1 _ e3; subst e1 e3; exact h1)
                have HX1 := hide (cellsI_one (toI xs))
                have HXL := hide (show (cellsI (toI xs)).length = xs.length by rw [cellsI_length, toI_len])
                have HT2 := hide (fun (w2 : World) (v' : Value) (hg : w11.grownBy w2 (Value.slice A7 W'.length c7).ownBlock) (ho : w2.ownsRow w.heap.size 3 1 v' (W' ++ xs).length (cellsI (toI (W' ++ xs)))) => I11.out.turn I11.out.td hg ho)
                have HTD := hide I11.out.td
                have HS11 := hide I11.out.b.size
                clear ho11 hb11 cx q0 q1 q2 I10 NX I11
                go_wp2_with (at_builtin; refine wpList_append_sees rfl (.tmp 59) (.tmp 62) 38 rfl w.heap.size 3 i0 (.int .i64 0) 8 Try.underlying38 hi hz0 hz1 hz2 rfl _ W'.length (cellsI (toI W')) rfl HTD.out w11.heap.size A11 xs.length c11 (cellsI (toI xs)) rfl HA11 HXL.out S11.out HX1.out (by unfold maxLen; omega) (by omega) HS11.out ?_)
                intro v12 w12 ho12 hg12
                have I12 := hide (HT2.out w12 v12 hg12 (by first | (rw [toI_append, cellsI_append, List.length_append]; exact ho12) | simpa [toI, cellsI] using ho12))
                clear ho12 hg12 HT2 HTD S11
                go_wp2_with fail
                go_roundg (gk - 1)
                case rel => exact ⟨_, W' ++ xs, by rw [List.length_append]; omega, by rw [List.length_append]; omega, M9, I12⟩
                case measure => omega
              · rw [h1]
                clear h1
                have q0 := I10.out.f.cell (k := 0) rfl
                have q1 := I10.out.f.cell (k := 1) rfl
                have q2 := I10.out.f.cell (k := 2) rfl
                have cx := NX.out w10 I10.out.b
                obtain ⟨xs, hxs⟩ : ∃ xs, suc l j = xs := ⟨_, rfl⟩
                rw [hxs] at cx hx2 M9
                clear hxs
                go_wp2_with fail
                refine cx.mono ?_
                rintro e w11 hP
                unfold OutPost at hP
                obtain ⟨A11, c11, rfl, ho11, hb11⟩ := hP
                rw [toI_len] at ho11 ⊢
                have I11 := hide (I10.out.call hb11)
                have S11 := hide (Sees.ownN ho11)
                have HA11 := hide (show A11 = none → c11 = 0 by obtain ⟨A', c', e, h1, -⟩ := own_form ho11; injection e with e1 _ e3; subst e1 e3; exact h1)
                have HX1 := hide (cellsI_one (toI xs))
                have HXL := hide (show (cellsI (toI xs)).length = xs.length by rw [cellsI_length, toI_len])
                have HT2 := hide (fun (w2 : World) (v' : Value) (hg : w11.grownBy w2 (Value.slice A7 W'.length c7).ownBlock) (ho : w2.ownsRow w.heap.size 3 1 v' (W' ++ xs).length (cellsI (toI (W' ++ xs)))) => I11.out.turn I11.out.td hg ho)
                have HTD := hide I11.out.td
                have HS11 := hide I11.out.b.size
                clear ho11 hb11 cx q0 q1 q2 I10 NX I11
                go_wp2_with (at_builtin; refine wpList_append_sees rfl (.tmp 59) (.tmp 62) 38 rfl w.heap.size 3 i0 (.int .i64 0) 8 Try.underlying38 hi hz0 hz1 hz2 rfl _ W'.length (cellsI (toI W')) rfl HTD.out w11.heap.size A11 xs.length c11 (cellsI (toI xs)) rfl HA11 HXL.out S11.out HX1.out (by unfold maxLen; omega) (by omega) HS11.out ?_)
                intro v12 w12 ho12 hg12
                have I12 := hide (HT2.out w12 v12 hg12 (by first | (rw [toI_append, cellsI_append, List.length_append]; exact ho12) | simpa [toI, cellsI] using ho12))
                clear ho12 hg12 HT2 HTD S11
                go_wp2_with fail
                go_roundg (gk - 1)
                case rel => exact ⟨_, W' ++ xs, by rw [List.length_append]; omega, by rw [List.length_append]; omega, M9, I12⟩
                case measure => omega
end
end Go.Proofs.Ytjbgepjdohfhkaa
end

section
/-
  LivenessIsAboutWays's law, walked: it returns true. Conditions: those of the types.
-/
namespace Go.Proofs.Ytjbgepjdohfhkaa
open Go.RowKit

set_option maxRecDepth 100000 in
set_option maxHeartbeats 4000000 in
theorem wylaw_walk (A0 : Option Addr) (n0 c0 : Nat) (zs : List Int) (w : World)
    (hA : Hid (A0 = none → c0 = 0)) (hn : Hid (zs.length = n0)) (hnc : n0 ≤ c0) (hm : n0 ≤ 9223372036854775807) (hs : Hid (Sees w w.heap.size A0 (cellsU8 zs))) (hz : Hid (∀ z ∈ zs, 0 ≤ z ∧ z ≤ 255)) :
    Calls Try.prog 4 #[.slice A0 n0 c0] w fun e w' => e = .returned (.bool true) ∧ Below w.heap.size w w' := by
  go_enter Try.func4, Try.ntmps4
  go_wp2_with fail
  refine (awake16_any w).mono ?_
  rintro e w1 ⟨rfl, hb1⟩
  have HB1 := hide hb1
  have HS1 := hide ((hs.out.below hb1).more hb1.size)
  clear hb1
  go_wp2_with fail
  refine (scene16_any A0 n0 c0 zs w1 hA hn hnc hm HS1 hz).mono ?_
  rintro e w2 ⟨P, A1, n1, c1, A2, n2, c2, f, N, L, gL, cL, vs, sp, g, lo, rfl, hH, hE, hF, hLI, hLS, hO, hCd, hgl, hwg, hb2⟩
  obtain ⟨W, hW⟩ : ∃ V, (w2.alloc (.cells #[.int .i64 P, .slice A1 n1 c1, .slice A2 n2 c2] 27)).alloc (.cells #[.slice (some ⟨gL, 0, none⟩) n2 cL] 30) = V := ⟨_, rfl⟩
  have hb3 : Below w2.heap.size w2 W := by rw [← hW]; exact below2 _ _ _
  obtain ⟨B, hB⟩ : ∃ B, w2.heap.size = B := ⟨_, rfl⟩
  have HBB := hide hB
  have RB := hide (show Row W B 27 [.int .i64 P, .slice A1 n1 c1, .slice A2 n2 c2] by rw [← hW, ← hB]; exact (Row.new w2 _ _).alloc _)
  have HCd := hide (show CdAt W A2 n2 f.code from (hH.calls hb3).cd (fnE_zero.1 hE).1)
  have hs1 : f.slots.length = n1 := hH.l1
  have hn6 : n1 ≤ 6 := by omega
  have HOK := hide (show LvOk f.code n1 by rw [← hs1]; exact lv_ok hE (by omega))
  have HW := hide hW
  have HB3 := hide (below_call (below_call HB1.out hb2) hb3)
  clear hW hb3 hb2 hO hCd hLI hLS hH hB hwg hgl HB1 HS1 hE
  go_upto_region 4 with (fail)
  rw [HW.out, HBB.out]
  clear HW HBB
  have hlen := HCd.out.len
  have hn2 := HCd.out.few
  have hsl : (solL f.code n1).length = n2 := by rw [(sol_in HOK.out).len, hlen]
  have HLV := hide (fun (k : Nat) (z : Int) => mem_sol (k := k) (z := z) HOK.out)
  have q0 := RB.out.cell (k := 0) rfl
  have q1 := RB.out.cell (k := 1) rfl
  have q2 := RB.out.cell (k := 2) rfl
  have cs := lsolve_any (P := P) (A1 := A1) (c1 := c1) (c2 := c2) W HCd HOK
  obtain ⟨sol, hsol⟩ : ∃ s, solL f.code n1 = s := ⟨_, rfl⟩
  rw [hsol] at cs hsl HLV
  clear hsol
  go_wp2_with fail
  refine cs.mono ?_
  rintro e w4 ⟨g6, c6, v6, p6, rfl, o6, hb4⟩
  rw [hsl]
  obtain ⟨W5, hW5⟩ : ∃ V, w4.alloc (.cells #[.slice (some ⟨g6, 0, none⟩) n2 c6] 30) = V := ⟨_, rfl⟩
  have hb5 : Below w4.heap.size w4 W5 := by rw [← hW5]; exact below1 _ _
  obtain ⟨X, hX⟩ : ∃ X, w4.heap.size = X := ⟨_, rfl⟩
  have HX := hide hX
  have R6 := hide (show Row W5 X 30 [.slice (some ⟨g6, 0, none⟩) n2 c6] by rw [← hW5, ← hX]; exact Row.new w4 _ _)
  have RB5 := hide ((RB.out.call hb4).call hb5)
  have HC5 := hide ((HCd.out.below hb4).below hb5)
  have O5 := hide ((o6.below hb5).ann hsl (by omega))
  have HB5 := hide (below_call (below_call HB3.out hb4) hb5)
  have HW5 := hide hW5
  clear hb4 hb5 hX hW5 o6 cs q0 q1 q2 RB HCd HB3
  go_upto_region 5 with (fail)
  try rw [HW5.out]
  try rw [HX.out]
  clear HW5 HX
  have q2 := RB5.out.cell (k := 2) rfl
  have x0 := R6.out.cell (k := 0) rfl
  go_wp2_with fail
  clear q2 x0
  go_loopw [7, 8] (fun s7 s8 wr => ∃ k : Nat, s7 = .int .i64 (k : Int) ∧ k ≤ n2 ∧ Hid (Below W5.heap.size W5 wr)) (fun s7 _ _ => n2 - (intOf s7).toNat)
  case atStart => exact ⟨0, rfl, by omega, hide (Below.refl _ _)⟩
  case round =>
    obtain ⟨k, rfl, hk, hbr⟩ := hrel
    have q2 := (RB5.out.call hbr.out).cell (k := 2) rfl
    by_cases hlt : k < n2
    · have hk0 : (0 : Int) ≤ (k : Int) := by omega
      have hkn : (k : Int) < (n2 : Int) := by omega
      go_wp2_with fail
      go_loopw [8] (fun s8 wr => ∃ s : Nat, s8 = .int .i64 (s : Int) ∧ s ≤ n1 ∧ Hid (Below W5.heap.size W5 wr)) (fun s8 _ => n1 - (intOf s8).toNat)
      case atStart => exact ⟨0, rfl, by omega, hbr⟩
      case round =>
        obtain ⟨s, rfl, hsn, hbs⟩ := hrel
        have r1 := (RB5.out.call hbs.out).cell (k := 1) rfl
        by_cases hls : s < n1
        · have hs0 : (0 : Int) ≤ (s : Int) := by omega
          have hsn' : (s : Int) < (n1 : Int) := by omega
          obtain ⟨b1, o1, A1', c1', hA1, -, z0, hl1, -⟩ := (O5.out.below hbs.out).at_ hlt
          injection hA1 with hA1
          injection hA1 with hA1 hA2
          subst hA1 hA2
          obtain ⟨bb, hbb⟩ : ∃ b, decide ((s : Int) ∈ sol.getD k []) = b := ⟨_, rfl⟩
          have HLk := hide (show bb = true ↔ Lv f.code k (s : Int) by rw [← hbb, decide_eq_true_iff]; exact HLV.out k (s : Int))
          obtain ⟨zk, hzk⟩ : ∃ z, sol.getD k [] = z := ⟨_, rfl⟩
          rw [hzk] at z0 hl1 hbb
          rw [Nat.zero_add] at z0
          have C1 := hide (fun p : After wr => (show Calls Try.prog 12 #[.slice A1' zk.length c1', .int .i64 (s : Int)] p.w (fun e w' => e = .returned (.bool bb) ∧ Below p.w.heap.size p.w w') from
            (rhas_any A1' zk.length c1' zk (s : Int) p.w (hide (hl1.below p.b))).mono fun e w' q => ⟨by rw [q.1]; unfold hasB; rw [hbb], by rw [← q.2]; exact Below.refl _ _⟩))
          have C2 := hide (fun p : After wr => (show Calls Try.prog 13 #[fv P A1 n1 c1 A2 n2 c2, .int .i64 (k : Int), .int .i64 (s : Int)] p.w (fun e w' => e = .returned (.bool bb) ∧ Below p.w.heap.size p.w w') from
            (read_any (P := P) (A1 := A1) (n1 := n1) (c1 := c1) (c2 := c2) (k := k) (s := (s : Int)) p.w (hide (HC5.out.below (below_call hbs.out p.b))) HOK hlt (by omega) (by omega)).mono fun e w' q => by
              obtain ⟨b, rfl, hbi, hbl⟩ := q
              have e1 : b = bb := by
                have := hbi.trans HLk.out.symm
                cases b <;> cases bb <;> simp_all
              rw [e1]
              exact ⟨rfl, hbl⟩))
          have y0 := fun p : After wr => after_cell ((R6.out.call hbs.out).cell (k := 0) rfl) p
          have y1 := fun p : After wr => after_cell z0 p
          have y2 := fun p : After wr => after_cell ((RB5.out.call hbs.out).cell (k := 0) rfl) p
          have y3 := fun p : After wr => after_cell ((RB5.out.call hbs.out).cell (k := 1) rfl) p
          have y4 := fun p : After wr => after_cell ((RB5.out.call hbs.out).cell (k := 2) rfl) p
          clear hbb hzk z0 hl1
          go_upto_region 13 with (fail)
          clear r1 q2
          refine wp_region_after (by kernel_rfl) (by kernel_rfl) ?_
          repeat (go_big_quiet_step (first | (go_at_call 12; with_reducible exact after_of (C1.out _)) | (go_at_call 13; with_reducible exact after_of (C2.out _))))
          refine wpQuiet_nil ?_
          intro _ hw'
          obtain ⟨p1, hw''⟩ := hw'
          subst hw''
          have HB2 := hide (below_call hbs.out p1.b)
          clear y0 y1 y2 y3 y4 C1 C2
          go_wp2_with fail
          go_roundw
          case rel => exact ⟨s + 1, by go_num, by omega, HB2⟩
          case measure => simp [intOf]; omega
        · obtain rfl : s = n1 := by omega
          go_wp2_with fail
          go_roundw
          case rel => exact ⟨k + 1, by go_num, by omega, hbs⟩
          case measure => simp [intOf]; omega
    · obtain rfl : k = n2 := by omega
      have HF := hide (below_call HB5.out hbr.out)
      go_wp2_with fail
      go_ret
      exact ⟨rfl, HF.out⟩
end Go.Proofs.Ytjbgepjdohfhkaa
end

section
/-
  LivenessIsAboutWays: for every input the law returns true, and each argument reads behind the call as it did before. No condition: every input that the row speaks of.
-/
namespace Go.Proofs.Ytjbgepjdohfhkaa
open Go.ChangeShapes Go.WideShapes Go.ChangeAt Go.RowKit

namespace rowLivenessIsAboutWays
theorem own_knob : ownKnob Try.prog.godebug = none := by kernel_rfl
theorem laid_out : laidOutB Try.prog = true := by kernel_rfl
theorem cells_u8 : Try.prog.cellsOf 5 = 1 := by kernel_rfl
set_option maxRecDepth 100000 in
theorem contract (H : Type) (enc : TypeId × Value → H) (W : World) (base : Nat) (args : Array Value) (ds gs : List (DataW H)) (before : List MemPlace)
    (hval : ∀ (j : Nat) t v, Try.f4.params[j]? = some t → args[j]? = some v → Value.okWide Try.prog W .any base t v)
    (hW : DataW.Whole enc Try.prog Try.f4.params.toList Rows.livenessIsAboutWaysSpec.vars false W args.toList ds gs before) :
    Calls Try.prog 4 args W fun e W' => ∃ v, e = .returned v ∧ Rows.livenessIsAboutWaysSpec.post enc Try.prog Try.f4 false true false false W args v W' := by
  have hW' := hW
  obtain ⟨p, q, hA, hV, rfl, hfz, hnd⟩ := hW
  have hA : DataW.TrodAll enc Try.prog W 0 (fun _ => true) true Try.f4.params.toList args.toList ds p := hA
  rw [Try.params4] at hA hval
  obtain ⟨v0, vs0, d0, ds0, p0, q0, hargs, rfl, rfl, h0, r0⟩ := trodAll_cons hA
  obtain ⟨rfl, rfl, rfl⟩ := trodAll_nil r0
  obtain rfl : args = #[v0] := by cases args; simp_all
  obtain ⟨A0, n0, c0, zs0, rfl, hA0, hn0, hm0, hs0, hz0, hc0⟩ := open_u8s Try.underlying22 Try.underlying5 cells_u8 (hval 0 22 v0 rfl rfl) h0
  refine (wylaw_walk A0 n0 c0 zs0 W (hide hA0) (hide hn0) hc0 hm0 (hide hs0) (hide hz0)).mono fun e W' ⟨he, hB⟩ => ⟨_, he, ?_⟩
  exact law_post laid_out (by decide +kernel) rfl rfl Try.underlying4 rfl hW' hB

set_option maxRecDepth 100000 in
theorem lifted (os : Os) (started : os.Started) (H : Type) (enc : TypeId × Value → H) :
    ReturnsInHanded {} Try.checked os 4 .any (Rows.livenessIsAboutWaysSpec.pre6 enc Try.prog Try.f4 Rows.livenessIsAboutWaysRow.domain false) (Rows.livenessIsAboutWaysSpec.post enc Try.prog Try.f4 false true false false) := by
  refine returnsInHanded_of_change (C := Try.checked) own_knob started (by kernel_rfl) Try.func4
    (ChangeSpec.witness6 (enc := enc) (C := Try.checked) false ⟨#[], #[.slice none 0 0], []⟩ 8 (by kernel_rfl) (by kernel_rfl) (by kernel_rfl) (by kernel_rfl)) ?_
  intro W base args ds gs before hval hW _ _
  exact contract H enc W base args ds gs before hval hW

theorem proved : Rows.LivenessIsAboutWaysSaid :=
  OpenClaim.holds_of_wide 4 Try.f4 rfl rfl rfl rfl rfl rfl rfl ⟨rfl, rfl, rfl, rfl, rfl⟩ rfl rfl rfl rfl rfl (by kernel_rfl) Try.func4 (by kernel_rfl)
    (of_decide_eq_true (by kernel_rfl)) (by unfold Func.isWrapper; first | (rw [if_pos (by decide +kernel)]; kernel_rfl) | (rw [if_neg (by decide +kernel)]; exact ⟨rfl, rfl⟩))
    (fun os started H enc _ => lifted os started H enc)
end rowLivenessIsAboutWays
end Go.Proofs.Ytjbgepjdohfhkaa
end
