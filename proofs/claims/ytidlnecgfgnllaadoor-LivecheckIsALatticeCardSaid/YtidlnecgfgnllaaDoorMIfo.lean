import Derived.Test.YtidlnecgfgnllaaDoorMFgr
import Derived.Test.YtidlnecgfgnllaaDoorMDraw
import Derived.Test.YtidlnecgfgnllaaDoorMOwr
import Derived.Maps.Range
set_option linter.unusedVariables false
set_option linter.unusedSimpArgs false
section
/-
  What the program says of the type int. No function of the program is named here.
-/
namespace Go.Proofs.YtidlnecgfgnllaaDoor
open Go.RowKit

theorem Tryd.info3 : (Tryd.prog.info? 3).map (fun i => (i.zero, i.size, i.bytes)) = some (some (.int .i64 0), 1, 8) := by kernel_rfl
end Go.Proofs.YtidlnecgfgnllaaDoor
end

section
/-
  The contract of spillframedraw's Word. Conditions: the receiver is a list of choices.
-/
namespace Go.Proofs.YtidlnecgfgnllaaDoor
open Go.RowKit

/-- A word of 64 bits. -/
def isW (v : Int) : Prop := 0 ≤ v ∧ v ≤ 18446744073709551615
theorem wrap_isW (z : Int) : isW (IntKind.u64.wrap z) := by
  simp only [isW, IntKind.wrap, IntKind.signed, IntKind.bits]
  simp
  omega
def WordPost (g : Nat) (w : World) (e : Ending) (w' : World) : Prop := ∃ v : Int, e = .returned (.int .u64 v) ∧ isW v ∧ Codes w' g ∧ w.grownBy w' (some g) ∧ w'.heap.size = w.heap.size

set_option maxHeartbeats 1000000 in
theorem cword_any (g : Nat) (w : World) (h : Hid (Codes w g)) : Calls Tryd.prog 62 #[.pointer (some ⟨g, 0, none⟩)] w (WordPost g w) := by
  have c := next_any g
  go_enter Tryd.func62, Tryd.ntmps62
  go_wp2_with fail
  refine (c 6 _ h (by omega) (by omega)).mono ?_
  rintro e w1 ⟨v, rfl, v0, v1, hC, hG, hz⟩
  have HC := hide hC
  have HG := hide hG
  have HZ := hide hz
  clear hC hG hz
  rcases (show v = 0 ∨ v = 1 ∨ v = 2 ∨ 3 ≤ v by omega) with rfl | rfl | rfl | hv
  · go_wp2_with fail
    refine (c 3 _ HC (by omega) (by omega)).mono ?_
    rintro e w2 ⟨u, rfl, u0, u1, hC2, hG2, hz2⟩
    have HC2 := hide hC2
    have HG2 := hide (HG.out.trans hG2)
    have HZ2 := hide (hz2.trans HZ.out)
    clear hC2 hG2 hz2
    go_wp2_with fail
    go_ret
    exact ⟨_, rfl, ⟨by omega, by omega⟩, HC2.out, HG2.out, HZ2.out⟩
  · go_wp2_with fail
    refine (c 64 _ HC (by omega) (by omega)).mono ?_
    rintro e w2 ⟨u, rfl, u0, u1, hC2, hG2, hz2⟩
    have HC2 := hide hC2
    have HG2 := hide (HG.out.trans hG2)
    have HZ2 := hide (hz2.trans HZ.out)
    clear hC2 hG2 hz2
    go_wp2_with fail
    go_ret
    exact ⟨_, rfl, wrap_isW _, HC2.out, HG2.out, HZ2.out⟩
  · go_wp2_with fail
    go_ret
    exact ⟨0, rfl, ⟨by omega, by omega⟩, HC.out, HG.out, HZ.out⟩
  · have b0 : (v == 0) = false := by simp; omega
    have b1 : (v == 1) = false := by simp; omega
    have b2 : (v == 2) = false := by simp; omega
    go_wp2_with fail
    refine (c 256 _ HC (by omega) (by omega)).mono ?_
    rintro e w2 ⟨u, rfl, u0, u1, hC2, hG2, hz2⟩
    have HC2 := hide hC2
    have HG2 := hide (HG.out.trans hG2)
    have HZ2 := hide (hz2.trans HZ.out)
    clear hC2 hG2 hz2
    go_wp2_with fail
    go_ret
    exact ⟨u, rfl, ⟨by omega, by omega⟩, HC2.out, HG2.out, HZ2.out⟩
end Go.Proofs.YtidlnecgfgnllaaDoor
end

section
/-
  Lists of pairs that a loop draws: what the loop keeps. No function of the program is named here.
-/
namespace Go.Proofs.YtidlnecgfgnllaaDoor
open Go.RowKit

theorem two_new (w : World) (x y : Value) (t : TypeId) : ∀ (j : Nat) (u : Value), [x, y][j]? = some u → (w.alloc (.cells #[x, y] t)).cell? ((⟨w.heap.size, 0, none⟩ : Addr).add j) = some u := by
  intro j u hu
  rw [WideShapes.add_plain, Nat.zero_add]
  exact (Row.new w t [x, y]).cell hu
theorem two_cells (x y : Int) : ∀ u ∈ [Value.int .i64 x, Value.int .i64 y], u.oneCell' = true := by
  intro u hu
  simp only [List.mem_cons, List.not_mem_nil, or_false] at hu
  rcases hu with rfl | rfl <;> rfl

/-- What a loop that draws pairs keeps: how many are still to come, the pairs, the choices. -/
def ListRel (ok : Int → Int → Bool) (w0 : World) (g t m : Nat) (nv lv : Value) (wr : World) : Prop :=
  ∃ (k : Nat) (l : List (Int × Int)), k + l.length ≤ m ∧ nv = .int .i64 (k : Int) ∧ wr.ownsRow w0.heap.size t 2 lv l.length (pcells l) ∧ (∀ u ∈ l, ok u.1 u.2 = true) ∧ Codes wr g ∧ w0.grownBy wr (some g)

section
variable {w0 wr w2 w3 : World} {g t : Nat} {lv v' : Value} {l : List (Int × Int)}
theorem own_far (ho : wr.ownsRow w0.heap.size t 2 lv l.length (pcells l)) (hg : g < w0.heap.size) : lv.ownBlock = none ∨ lv.ownBlock ≠ some g := by
  cases e : lv.ownBlock with
  | none => exact .inl rfl
  | some k => exact .inr fun h => by have := (ho.lt k e).1; injection h with h; omega
/-- After choices. -/
theorem own_drawn (ho : wr.ownsRow w0.heap.size t 2 lv l.length (pcells l)) (hg : g < w0.heap.size) (hG : wr.grownBy w2 (some g)) : w2.ownsRow w0.heap.size t 2 lv l.length (pcells l) := ho.kept hG (own_far ho hg)
/-- After an append of one pair. -/
theorem ListRel.step {ok : Int → Int → Bool} {m k : Nat} {x y : Int} {e : TypeId} (hk : k + 1 + l.length ≤ m) (hg : g < w0.heap.size) (ho : w2.ownsRow w0.heap.size t 2 lv l.length (pcells l)) (hok : ∀ u ∈ l, ok u.1 u.2 = true) (hxy : ok x y = true) (hC : Codes w2 g) (hG : w0.grownBy w2 (some g))
    (ho' : w3.ownsRow w0.heap.size t 2 v' (l.length + 1) (pcells l ++ [.int .i64 x, .int .i64 y])) (hg' : (w2.alloc (.cells #[.int .i64 x, .int .i64 y] e)).grownBy w3 lv.ownBlock) :
    ListRel ok w0 g t m (.int .i64 (k : Int)) v' w3 := by
  refine ⟨k, l ++ [(x, y)], by simp; omega, rfl, ?_, fun u hu => ?_, (hC.alloc _).kept hg' (fun j hj => ?_), (hG.trans (World.grownBy_alloc _ _ _)).andThen hg' (fun j hj => .inl (ho.lt j hj).1)⟩
  · rw [pcells_append, pcells_one]
    simpa using ho'
  · rcases List.mem_append.1 hu with h | h
    · exact hok u h
    · simp at h; subst h; exact hxy
  · have := (ho.lt j hj).1
    omega
theorem ListRel.start {ok : Int → Int → Bool} {m k : Nat} (hk : k ≤ m) (hC : Codes wr g) (hG : w0.grownBy wr (some g)) : ListRel ok w0 g t m (.int .i64 (k : Int)) (.slice none 0 0) wr :=
  ⟨k, [], by simpa using hk, rfl, ⟨by simp [pcells], .inl ⟨rfl, rfl⟩⟩, (fun u hu => by cases hu), hC, hG⟩
end
/-- What such a loop leaves. -/
def ListPost (ok : Int → Int → Bool) (g t m : Nat) (w : World) (e : Ending) (w' : World) : Prop :=
  ∃ (A : Option Addr) (c : Nat) (l : List (Int × Int)), e = .returned (.slice A l.length c) ∧ (A = none → c = 0) ∧ w'.ownsRow w.heap.size t 2 (.slice A l.length c) l.length (pcells l) ∧ l.length ≤ m ∧ (∀ u ∈ l, ok u.1 u.2 = true) ∧ Codes w' g ∧ w.grownBy w' (some g)
end Go.Proofs.YtidlnecgfgnllaaDoor
end

section
/-
  The contract of spillframedraw's like. Conditions: the receiver is a list of choices; the slot is there.
-/
namespace Go.Proofs.YtidlnecgfgnllaaDoor
open Go.RowKit

/-- Ints as cells. -/
def cellsJ (zs : List Int) : List Value := zs.map (Value.int .i64)
theorem cellsJ_append (l m : List Int) : cellsJ (l ++ m) = cellsJ l ++ cellsJ m := by simp [cellsJ]
theorem cellsJ_length (l : List Int) : (cellsJ l).length = l.length := by simp [cellsJ]
theorem inum_at {w : World} {B : Nat} {A : Option Addr} {zs : List Int} {k : Nat} (h : Sees w B A (cellsJ zs)) (hk : k < zs.length) : ∃ b off, A = some ⟨b, off, none⟩ ∧ b < B ∧ w.cell? ⟨b, off + k, none⟩ = some (.int .i64 zs[k]) :=
  h k (.int .i64 zs[k]) (by simp [cellsJ, List.getElem?_map, List.getElem?_eq_getElem hk])
/-- A slot of the same size as slot s. -/
def LikePost (g : Nat) (l : List (Int × Int)) (s : Int) (w : World) (e : Ending) (w' : World) : Prop := ∃ r : Nat, e = .returned (.int .i64 (r : Int)) ∧ r < l.length ∧ sizeAt l (r : Int) = sizeAt l s ∧ Codes w' g ∧ w.grownBy w' (some g)
/-- What the loop keeps: places of slots of that size, and s among them once it has been passed. -/
def LikeI (g : Nat) (l : List (Int × Int)) (s : Nat) (w w0 : World) (k : Nat) (lv : Value) (wr : World) : Prop :=
  ∃ zs : List Int, zs.length ≤ k ∧ (s < k → zs ≠ []) ∧ (∀ z ∈ zs, ∃ r : Nat, z = (r : Int) ∧ r < l.length ∧ sizeAt l z = sizeAt l (s : Int)) ∧ wr.ownsRow w0.heap.size 3 1 lv zs.length (cellsJ zs) ∧ Codes wr g ∧ w.grownBy wr (some g) ∧ Below w0.heap.size w0 wr
theorem sizeAt_nat (l : List (Int × Int)) (k : Nat) (h : k < l.length) : sizeAt l (k : Int) = l[k].1 := by
  unfold sizeAt; rw [Int.toNat_natCast, List.getD_eq_getElem?_getD, List.getElem?_eq_getElem h]; rfl

theorem LikeI.skip {g s k : Nat} {l : List (Int × Int)} {w w0 wr : World} {lv : Value} (h : LikeI g l s w w0 k lv wr) (hks : k ≠ s) (q : Nat) : LikeI g l s w w0 (k + 1) lv (wr.drewN q) := by
  obtain ⟨zs, h1, h2, h3, h4, h5, h6, h7⟩ := h
  exact ⟨zs, by omega, (fun hs => h2 (by omega)), h3, own_draws h4 q, h5.drewN q, grown_draws h6 q, below_draws h7 q⟩
theorem LikeI.add {g s k : Nat} {l : List (Int × Int)} {w w0 wr w3 : World} {lv v' : Value} {zs : List Int} {t : TypeId} (hk : zs.length ≤ k) (h3 : ∀ z ∈ zs, ∃ r : Nat, z = (r : Int) ∧ r < l.length ∧ sizeAt l z = sizeAt l (s : Int)) (hkl : k < l.length) (he : sizeAt l (k : Int) = sizeAt l (s : Int)) (hg0 : g < w0.heap.size) (hw0 : w.heap.size ≤ w0.heap.size)
    (h4 : wr.ownsRow w0.heap.size 3 1 lv zs.length (cellsJ zs)) (h5 : Codes wr g) (h6 : w.grownBy wr (some g)) (h7 : Below w0.heap.size w0 wr) (q : Nat)
    (ho : w3.ownsRow w0.heap.size 3 1 v' (zs.length + 1) (cellsJ zs ++ [.int .i64 (k : Int)])) (hg : ((wr.drewN q).alloc (.cells #[.int .i64 (k : Int)] t)).grownBy w3 lv.ownBlock) : LikeI g l s w w0 (k + 1) v' w3 := by
  refine ⟨zs ++ [(k : Int)], by simp; omega, (fun _ => by simp), (fun z hz => ?_), by rw [cellsJ_append]; simpa [cellsJ] using ho, ((h5.drewN q).alloc _).kept hg (fun j hj => ?_), ((grown_draws h6 q).trans (World.grownBy_alloc _ _ _)).andThen hg (fun j hj => .inl ?_), ?_⟩
  · rcases List.mem_append.1 hz with h | h
    · exact h3 z h
    · simp at h; subst h; exact ⟨k, rfl, hkl, he⟩
  · have := (h4.lt j hj).1; omega
  · have := (h4.lt j hj).1; omega
  · exact below_append ((below_draws h7 q).alloc h7.size _) ((own_draws h4 q).alloc _) (Nat.le_refl _) hg (by have := h7.size; simp; omega)

set_option maxRecDepth 100000 in
set_option maxHeartbeats 4000000 in
theorem like_any (g : Nat) (P : Int) (A1 : Option Addr) (n1 c1 : Nat) (A2 : Option Addr) (n2 c2 : Nat) (l : List (Int × Int)) (s B : Nat) (w : World) (h : Hid (Codes w g)) (hl : Hid (l.length = n1)) (hn1 : n1 ≤ 1000) (hs : s < n1) (hsee : Hid (Sees w B A1 (pcells l))) (hB : B ≤ w.heap.size) :
    Calls Tryd.prog 81 #[.pointer (some ⟨g, 0, none⟩), fv P A1 n1 c1 A2 n2 c2, .int .i64 (s : Int)] w (LikePost g l s w) := by
  obtain ⟨i0, hi, hz0, hz1, hz2⟩ := info_parts Tryd.info3
  have hgl := h.out.lt
  obtain ⟨W, hW⟩ : ∃ W, w.alloc (.cells #[.int .i64 P, .slice A1 n1 c1, .slice A2 n2 c2] 30) = W := ⟨_, rfl⟩
  have HW := hide hW
  have hr : Row W w.heap.size 30 [.int .i64 P, .slice A1 n1 c1, .slice A2 n2 c2] := hW ▸ Row.new w _ [.int .i64 P, .slice A1 n1 c1, .slice A2 n2 c2]
  have HR := hide hr
  have hbW : Below w.heap.size w W := hW ▸ below1 w _
  have hsz : w.heap.size + 1 = W.heap.size := by rw [← hW]; simp
  have HB := hide hbW
  have HS := hide hsz
  have HI : Hid (LikeI g l s w W 0 (.slice none 0 0) W) := hide ⟨[], by simp, (fun h => by omega), (fun z hz => by cases hz), World.ownsRow_nil _ _ _ _, h.out.below hbW, grown_below hbW _, Below.refl _ _⟩
  clear hW hr hbW hsz
  go_enter Tryd.func81, Tryd.ntmps81
  go_wp2_with fail
  rw [HW.out]
  go_loopw [7, 8] (fun lv kv wr => ∃ k : Nat, k ≤ n1 ∧ kv = .int .i64 (k : Int) ∧ Hid (LikeI g l s w W k lv wr)) (fun _ kv _ => n1 - (intOf kv).toNat)
  case atStart => exact ⟨0, by omega, rfl, HI⟩
  case round =>
    obtain ⟨k, hk, rfl, hI⟩ := hrel
    obtain ⟨zs, hzk, hzs, hza, hown, hC, hG, hb⟩ := hI.out
    have hrr := HR.out.call hb
    have x1 := hrr.cell (k := 1) rfl
    have HC := hide hC
    have HG := hide hG
    have HBR := hide hb
    have HO := hide hown
    have HZA := hide hza
    have HZS := hide hzs
    have HRL := hide hrr.lt
    clear hrr hI hC hG hb hown hza hzs
    by_cases hlt : k < n1
    · have hkl : k < l.length := by have := hl.out; omega
      have hsl : s < l.length := by have := hl.out; omega
      have hsee2 := hsee.out.below (((HB.out.trans (HBR.out.mono HB.out.size))).mono hB)
      obtain ⟨b, off, rfl, hbB, c0, -⟩ := pair_at hsee2 hkl
      obtain ⟨b', off', he, _, d0, -⟩ := pair_at hsee2 hsl
      injection he with he
      injection he with e1 e2
      subst e1 e2
      have E1 := hide (sizeAt_nat l k hkl)
      have E2 := hide (sizeAt_nat l s hsl)
      obtain ⟨s1, hs1⟩ : ∃ x, l[k].1 = x := ⟨_, rfl⟩
      obtain ⟨s2, hs2⟩ : ∃ x, l[s].1 = x := ⟨_, rfl⟩
      rw [hs1] at c0 E1
      rw [hs2] at d0 E2
      have hkz : (0 : Int) ≤ (k : Int) := by omega
      have hkz' : (k : Int) < (n1 : Int) := by omega
      have hsz0 : (0 : Int) ≤ (s : Int) := by omega
      have hsz' : (s : Int) < (n1 : Int) := by omega
      clear hs1 hs2 hsee2
      by_cases hss : s1 = s2
      · subst hss
        go_wp2_with fail
        go_quiet (fail)
        go_wp2_with (at_builtin; refine wpList_append_own _ rfl (.tmp 29) (.tmp 31) 42 rfl W.heap.size 3 i0 (.int .i64 0) 1 8 Tryd.underlying42 hi hz0 hz1 hz2 rfl (by decide) _ zs.length (cellsJ zs) rfl ((own_draws HO.out _).alloc _) ⟨_, 0, none⟩ 1 1 [.int .i64 (k : Int)] rfl rfl (one_new _ _ _) (fun u hu => by simp at hu; subst hu; rfl) (by unfold maxLen; omega) (by omega) (by simp; have := HBR.out.size; omega) ?_)
        intro v' w3 ho3 hg3 _
        have HN := hide (LikeI.add (s := s) hzk HZA.out hkl (E1.out.trans E2.out.symm) (by have := HS.out; omega) (by have := HS.out; omega) HO.out HC.out HG.out HBR.out _ ho3 hg3)
        clear ho3 hg3
        go_wp2_with fail
        go_roundw
        case rel => exact ⟨k + 1, by omega, by go_num, HN⟩
        case measure => simp [intOf]; omega
      · have hne : (s1 == s2) = false := by simpa using hss
        have hks : Hid (k ≠ s) := hide (by rintro rfl; exact hss (E1.out.symm.trans E2.out))
        have HIK := hide (fun q => LikeI.skip (g := g) (l := l) (w := w) (w0 := W) ⟨zs, hzk, HZS.out, HZA.out, HO.out, HC.out, HG.out, HBR.out⟩ hks.out q)
        go_wp2_with fail
        go_quiet (fail)
        go_wp2_with fail
        go_roundw
        case rel => exact ⟨k + 1, by omega, by go_num, hide (HIK.out _)⟩
        case measure => simp [intOf]; omega
    · obtain rfl : k = n1 := by omega
      have hzp : 1 ≤ zs.length := by
        rcases Nat.lt_or_ge 0 zs.length with h1 | h1
        · exact h1
        · exact absurd (List.eq_nil_of_length_eq_zero (by omega)) (HZS.out hs)
      obtain ⟨A, c, rfl, hA, hnc, hfar, hse⟩ := own_seen HO.out
      have HSE := hide hse
      have HF := hide hfar
      clear hse hfar hA
      go_wp2_with fail
      refine (next_any g (zs.length : Int) _ HC (by omega) (by omega)).mono ?_
      rintro e w2 ⟨v, rfl, v0, v1, hC2, hG2, hz2⟩
      obtain ⟨j, rfl⟩ := Int.eq_ofNat_of_zero_le v0
      have hjl : j < zs.length := by omega
      have hkeep : Sees w2 wr.heap.size A (cellsJ zs) := HSE.out.keepF HF.out fun p h1 h2 => World.cell?_of_block (hG2.block p.block h2 (fun e => by injection e with e; have := HS.out; omega))
      obtain ⟨b, off, rfl, _, u0⟩ := inum_at hkeep hjl
      obtain ⟨r, hr, hrl, hrs⟩ := HZA.out _ (List.getElem_mem hjl)
      rw [hr] at u0
      have HRS := hide (hr ▸ hrs)
      have HRL2 := hide hrl
      have HC2 := hide hC2
      have HG2 := hide (HG.out.trans hG2)
      clear hC2 hG2 hz2 hkeep hr hrs hrl
      go_wp2_with fail
      go_ret
      exact ⟨r, rfl, HRL2.out, HRS.out, HC2.out, HG2.out⟩
end Go.Proofs.YtidlnecgfgnllaaDoor
end

section
/-
  The mathematics of drawn instructions: which are right whatever code stands around them. Nothing here names the program.
-/
namespace Go.Proofs.YtidlnecgfgnllaaDoor
open Go.RowKit

/-- The error of an instruction speaks of parameters, slots and the number of instructions alone. -/
theorem insE_congr {N : Nat} {f f' : Fn} {x : Ins} (hp : f.params = f'.params) (hs : f.slots = f'.slots) (hl : f.code.length = f'.code.length) : insE N f x = insE N f' x := by
  have h : ∀ k n, opndE N f k n = opndE N f' k n := fun k n => by unfold opndE cntV; rw [hp, hs, hl]
  unfold insE opndsE moveBad
  rw [h, h, h, hs]
theorem ins_ok {N : Nat} {f : Fn} {op a b c m k1 k2 k3 : Int} {im : Bool} (hs : shpOf op = (k1, k2, k3, im)) (ho : 0 ≤ op ∧ op < 25) (ha : withB a (cntV N f k1) = true) (hb : withB b (cntV N f k2) = true) (hc : withB c (cntV N f k3) = true) (hm : im = true ∨ m = 0) (h17 : op ≠ 17 ∨ sizeAt f.slots a = sizeAt f.slots b) : insE N f ⟨op, a, b, c, m⟩ = 0 := by
  rw [insE_zero]
  simp only [hs]
  refine ⟨ho, opndE_zero.2 ha, opndE_zero.2 hb, opndE_zero.2 hc, hm, ?_⟩
  unfold moveBad
  rcases h17 with h | h
  · simp only [decide_eq_false h, Bool.false_and]
  · simp only [h, decide_true, Bool.not_true, Bool.and_false]

/-- An Imm field of 64 bits. -/
def immI (x : Ins) : Prop := 0 ≤ x.imm ∧ x.imm ≤ 18446744073709551615
/-- An instruction of function i that is right whatever code stands around it: no jump, no end; it calls later functions alone. -/
def goodI (N i : Nat) (P : Int) (l : List (Int × Int)) (x : Ins) : Prop := (x.op ≠ 20 ∧ x.op ≠ 21 ∧ x.op ≠ 23 ∧ x.op ≠ 24 ∧ immI x) ∧ (∀ c, insE N ⟨P, l, c⟩ x = 0) ∧ (x.op = 22 → (i : Int) < x.a)
/-- Such a one, or a jump whose target is still to come. -/
def preI (N i : Nat) (P : Int) (l : List (Int × Int)) (x : Ins) : Prop := goodI N i P l x ∨ (∃ a, 0 ≤ a ∧ a < 8 ∧ x = ⟨21, a, -1, 0, 0⟩) ∨ x = ⟨20, -1, 0, 0, 0⟩

section
variable {N i : Nat} {P : Int} {l : List (Int × Int)}
theorem mk_good {op a b c m : Int} (h : op ≠ 20 ∧ op ≠ 21 ∧ op ≠ 23 ∧ op ≠ 24) (hi : ∀ d, insE N ⟨P, l, d⟩ ⟨op, a, b, c, m⟩ = 0) (hc : op = 22 → (i : Int) < a) (hm : 0 ≤ m ∧ m ≤ 18446744073709551615 := by decide) : goodI N i P l ⟨op, a, b, c, m⟩ := ⟨⟨h.1, h.2.1, h.2.2.1, h.2.2.2, hm⟩, hi, hc⟩
theorem w1 : withB 0 1 = true := by decide
theorem good_store {s r : Int} (s0 : 0 ≤ s) (s1 : s < l.length) (r0 : 0 ≤ r) (r1 : r < 8) : goodI N i P l ⟨16, s, r, 0, 0⟩ :=
  mk_good (by decide) (fun c => ins_ok (k1 := 2) (k2 := 1) (k3 := 0) (im := false) rfl ⟨by decide, by decide⟩ (withB_true.2 ⟨s0, s1⟩) (withB_true.2 ⟨r0, r1⟩) w1 (.inr rfl) (.inl (by decide))) (fun h => absurd h (by decide))
theorem good_load {s r : Int} (s0 : 0 ≤ s) (s1 : s < l.length) (r0 : 0 ≤ r) (r1 : r < 8) : goodI N i P l ⟨15, r, s, 0, 0⟩ :=
  mk_good (by decide) (fun c => ins_ok (k1 := 1) (k2 := 2) (k3 := 0) (im := false) rfl ⟨by decide, by decide⟩ (withB_true.2 ⟨r0, r1⟩) (withB_true.2 ⟨s0, s1⟩) w1 (.inr rfl) (.inl (by decide))) (fun h => absurd h (by decide))
theorem good_move {s r : Int} (s0 : 0 ≤ s) (s1 : s < l.length) (r0 : 0 ≤ r) (r1 : r < l.length) (he : sizeAt l r = sizeAt l s) : goodI N i P l ⟨17, r, s, 0, 0⟩ :=
  mk_good (by decide) (fun c => ins_ok (k1 := 2) (k2 := 2) (k3 := 0) (im := false) rfl ⟨by decide, by decide⟩ (withB_true.2 ⟨r0, r1⟩) (withB_true.2 ⟨s0, s1⟩) w1 (.inr rfl) (.inr he)) (fun h => absurd h (by decide))
theorem good_const {r m : Int} (r0 : 0 ≤ r) (r1 : r < 8) (hm : 0 ≤ m ∧ m ≤ 18446744073709551615) : goodI N i P l ⟨0, r, 0, 0, m⟩ :=
  mk_good (by decide) (fun c => ins_ok (k1 := 1) (k2 := 0) (k3 := 0) (im := true) rfl ⟨by decide, by decide⟩ (withB_true.2 ⟨r0, r1⟩) w1 w1 (.inl rfl) (.inl (by decide))) (fun h => absurd h (by decide)) hm
theorem good_three {v r x y : Int} (v0 : 0 ≤ v) (v1 : v < 10) (r0 : 0 ≤ r) (r1 : r < 8) (x0 : 0 ≤ x) (x1 : x < 8) (y0 : 0 ≤ y) (y1 : y < 8) : goodI N i P l ⟨2 + v, r, x, y, 0⟩ := by
  have hs : shpOf (2 + v) = (1, 1, 1, false) := by
    rcases (show v = 0 ∨ v = 1 ∨ v = 2 ∨ v = 3 ∨ v = 4 ∨ v = 5 ∨ v = 6 ∨ v = 7 ∨ v = 8 ∨ v = 9 by omega) with rfl | rfl | rfl | rfl | rfl | rfl | rfl | rfl | rfl | rfl <;> rfl
  exact ⟨⟨by simp only; omega, by simp only; omega, by simp only; omega, by simp only; omega, (show (0 : Int) ≤ 0 ∧ (0 : Int) ≤ 18446744073709551615 by decide)⟩, fun c => ins_ok hs ⟨by omega, by omega⟩ (withB_true.2 ⟨r0, r1⟩) (withB_true.2 ⟨x0, x1⟩) (withB_true.2 ⟨y0, y1⟩) (.inr rfl) (.inl (by omega)), fun h => by simp only at h; omega⟩
theorem good_out {r : Int} (r0 : 0 ≤ r) (r1 : r < 8) : goodI N i P l ⟨14, r, 0, 0, 0⟩ :=
  mk_good (by decide) (fun c => ins_ok (k1 := 1) (k2 := 0) (k3 := 0) (im := false) rfl ⟨by decide, by decide⟩ (withB_true.2 ⟨r0, r1⟩) w1 w1 (.inr rfl) (.inl (by decide))) (fun h => absurd h (by decide))
theorem good_in {r : Int} (r0 : 0 ≤ r) (r1 : r < 8) : goodI N i P l ⟨13, r, 0, 0, 0⟩ :=
  mk_good (by decide) (fun c => ins_ok (k1 := 1) (k2 := 0) (k3 := 0) (im := false) rfl ⟨by decide, by decide⟩ (withB_true.2 ⟨r0, r1⟩) w1 w1 (.inr rfl) (.inl (by decide))) (fun h => absurd h (by decide))
theorem good_high {r : Int} (r0 : 0 ≤ r) (r1 : r < 8) : goodI N i P l ⟨12, r, 0, 0, 0⟩ :=
  mk_good (by decide) (fun c => ins_ok (k1 := 1) (k2 := 1) (k3 := 0) (im := false) rfl ⟨by decide, by decide⟩ (withB_true.2 ⟨r0, r1⟩) (show withB 0 8 = true by decide) w1 (.inr rfl) (.inl (by decide))) (fun h => absurd h (by decide))
theorem good_copy {r : Int} (r0 : 0 ≤ r) (r1 : r < 8) : goodI N i P l ⟨1, r, 0, 0, 0⟩ :=
  mk_good (by decide) (fun c => ins_ok (k1 := 1) (k2 := 1) (k3 := 0) (im := false) rfl ⟨by decide, by decide⟩ (withB_true.2 ⟨r0, r1⟩) (show withB 0 8 = true by decide) w1 (.inr rfl) (.inl (by decide))) (fun h => absurd h (by decide))
theorem good_param {r b : Int} (r0 : 0 ≤ r) (r1 : r < 8) (b0 : 0 ≤ b) (b1 : b < P) : goodI N i P l ⟨19, r, b, 0, 0⟩ :=
  mk_good (by decide) (fun c => ins_ok (k1 := 1) (k2 := 5) (k3 := 0) (im := false) rfl ⟨by decide, by decide⟩ (withB_true.2 ⟨r0, r1⟩) (withB_true.2 ⟨b0, b1⟩) w1 (.inr rfl) (.inl (by decide))) (fun h => absurd h (by decide))
theorem good_arg {a b : Int} (a0 : 0 ≤ a) (a1 : a < 8) (b0 : 0 ≤ b) (b1 : b < 8) : goodI N i P l ⟨18, a, b, 0, 0⟩ :=
  mk_good (by decide) (fun c => ins_ok (k1 := 4) (k2 := 1) (k3 := 0) (im := false) rfl ⟨by decide, by decide⟩ (withB_true.2 ⟨a0, a1⟩) (withB_true.2 ⟨b0, b1⟩) w1 (.inr rfl) (.inl (by decide))) (fun h => absurd h (by decide))
theorem good_call {j : Int} (j0 : (i : Int) < j) (j1 : j < N) : goodI N i P l ⟨22, j, 0, 0, 0⟩ :=
  mk_good (by decide) (fun c => ins_ok (k1 := 3) (k2 := 0) (k3 := 0) (im := false) rfl ⟨by decide, by decide⟩ (withB_true.2 ⟨by omega, j1⟩) w1 w1 (.inr rfl) (.inl (by decide))) (fun _ => j0)
theorem jump_ok {f : Fn} {t : Int} (t0 : 0 ≤ t) (t1 : t < f.code.length) : insE N f ⟨20, t, 0, 0, 0⟩ = 0 :=
  ins_ok (k1 := 6) (k2 := 0) (k3 := 0) (im := false) rfl ⟨by decide, by decide⟩ (withB_true.2 ⟨t0, t1⟩) w1 w1 (.inr rfl) (.inl (by decide))
theorem branch_ok {f : Fn} {a t : Int} (a0 : 0 ≤ a) (a1 : a < 8) (t0 : 0 ≤ t) (t1 : t < f.code.length) : insE N f ⟨21, a, t, 0, 0⟩ = 0 :=
  ins_ok (k1 := 1) (k2 := 6) (k3 := 0) (im := false) rfl ⟨by decide, by decide⟩ (withB_true.2 ⟨a0, a1⟩) (withB_true.2 ⟨t0, t1⟩) w1 (.inr rfl) (.inl (by decide))
theorem ret_ok {f : Fn} : insE N f ⟨23, 0, 0, 0, 0⟩ = 0 := ins_ok (k1 := 0) (k2 := 0) (k3 := 0) (im := false) rfl ⟨by decide, by decide⟩ w1 w1 w1 (.inr rfl) (.inl (by decide))
theorem trap_ok {f : Fn} {m : Int} : insE N f ⟨24, 0, 0, 0, m⟩ = 0 := ins_ok (k1 := 0) (k2 := 0) (k3 := 0) (im := true) rfl ⟨by decide, by decide⟩ w1 w1 w1 (.inl rfl) (.inl (by decide))
end
end Go.Proofs.YtidlnecgfgnllaaDoor
end
