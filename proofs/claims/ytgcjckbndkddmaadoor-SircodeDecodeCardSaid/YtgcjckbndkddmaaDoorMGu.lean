import Derived.Test.YtgcjckbndkddmaaDoorMGo
import Derived.Test.YtgcjckbndkddmaaDoorMGn
import Derived.Test.YtgcjckbndkddmaaDoorMGj
import Derived.Test.YtgcjckbndkddmaaDoorMGc
import Derived.Test.YtgcjckbndkddmaaDoorMPrsame
import Derived.Test.YtgcjckbndkddmaaDoorMDprog
set_option linter.unusedVariables false
set_option linter.unusedSimpArgs false
section
/-
  What the laws of chapter 6 share: awake, mended, bytes at a slice. Conditions: those of the types; the listed tables lie as their initialisers lay them.
-/
namespace Go.Proofs.YtgcjckbndkddmaaDoor
open Go.RowKit

/-- Bytes at a slice, below block B. -/
structure BsAt (w : World) (B : Nat) (A : Option Addr) (n c : Nat) (zs : List Int) : Prop where
  len : zs.length = n
  nc : n ≤ c
  nil_ : A = none → c = 0
  cm : c ≤ 9223372036854775807
  byt : Byt zs
  see : Sees w B A (cellsU8 zs)
section
variable {w w' : World} {B B' n c : Nat} {A : Option Addr} {zs : List Int}
theorem BsAt.below (h : BsAt w B A n c zs) (hb : Below B w w') : BsAt w' B A n c zs := ⟨h.len, h.nc, h.nil_, h.cm, h.byt, h.see.below hb⟩
theorem BsAt.more (h : BsAt w B A n c zs) (hB : B ≤ B') : BsAt w B' A n c zs := ⟨h.len, h.nc, h.nil_, h.cm, h.byt, h.see.more hB⟩
theorem BsAt.call (h : BsAt w w.heap.size A n c zs) (hb : Below w.heap.size w w') : BsAt w' w'.heap.size A n c zs := (h.below hb).more hb.size
theorem BsAt.keep (h : BsAt w B A n c zs) (hk : ∀ p : Addr, p.block < B → w'.cell? p = w.cell? p) : BsAt w' B A n c zs := ⟨h.len, h.nc, h.nil_, h.cm, h.byt, h.see.keep hk⟩
theorem BsAt.own {base : Nat} {t : TypeId} (h : w.ownsRow base t 1 (.slice A n c) n (cellsU8 zs)) (hz : Byt zs) : BsAt w w.heap.size A n c zs := by
  obtain ⟨A', c', e, hA, hnc, _, hs⟩ := own_seen h
  obtain ⟨A'', c'', e', _, hcm⟩ := own_form h
  injection e with e1 _ e3
  subst e1 e3
  have hc : c ≤ maxLen := by
    rcases h.2 with ⟨he, h0⟩ | ⟨g, cap, cur, he, _, _, _, hm, _⟩
    · injection he with _ _ he; subst he; omega
    · injection he with _ _ he; omega
  exact ⟨by have := own_len h; simpa [cellsU8] using this, hnc, hA, by unfold maxLen at hc; exact hc, hz, hs⟩
/-- The first k bytes. -/
theorem BsAt.take (h : BsAt w B A n c zs) {k : Nat} (hk : k ≤ n) : BsAt w B A k c (zs.take k) := ⟨by rw [List.length_take, h.len]; omega, by have := h.nc; omega, h.nil_, h.cm, h.byt.take k, by have := h.see.take k; rwa [take_cells] at this⟩
end

/-- The smallest program. -/
def F0 : Pg := [⟨0, [], [⟨23, 0, 0, 0, 0⟩]⟩]
theorem F0_ok : pgE F0 = 0 := by
  rw [pgE_zero]
  refine ⟨by decide, ⟨_, [], rfl, rfl⟩, fun f hf => ?_⟩
  simp [F0] at hf
  subst hf
  rw [fnE_zero]
  refine ⟨by decide, by rw [slotsE_few (by decide)]; rfl, by decide, fun x hx => ?_, rfl⟩
  simp at hx
  subst hx
  exact ret_ok
theorem F0_bytes : pgY F0 = [83, 73, 82, 49, 1, 4, 0, 0, 1, 23] := by
  have h : fnY ⟨0, [], [⟨23, 0, 0, 0, 0⟩]⟩ = [0, 0, 1, 23] := by
    unfold fnY
    rw [show ((0 : Int).toNat) = 0 from rfl]
    simp only [List.length_nil, List.length_cons, List.flatMap_nil, List.flatMap_cons]
    rw [digsI_small (by decide : 0 < 128), digsI_small (by decide : 0 + 1 < 128)]
    rfl
  unfold pgY F0
  simp only [List.flatMap_cons, List.flatMap_nil, lenY, h, List.length_cons, List.length_nil]
  rw [digsI_small (by decide : 0 + 1 < 128), digsI_small (by decide : 0 + 1 + 1 + 1 + 1 < 128)]
  rfl
theorem F0_enc : encE F0 = 0 ∧ (encY F0).length = 14 := by
  have hl : (encY F0).length = 14 := by
    unfold encY
    rw [withY_length, F0_bytes]
    rfl
  refine ⟨?_, hl⟩
  unfold encE
  rw [if_neg (by simp [F0_ok]), if_neg (by rw [hl]; decide)]

set_option maxRecDepth 100000 in
set_option maxHeartbeats 1600000 in
theorem awake_any (w : World) (hT : Hid (Tab w)) (hS : Hid (Shapes w)) : Calls Tryd.prog 8 #[] w fun e w' => e = .returned (.bool true) ∧ Below w.heap.size w w' := by
  obtain ⟨W1, hW1⟩ : ∃ W1, w.alloc (.cells #[.int .i64 23, .int .i64 0, .int .i64 0, .int .i64 0, .int .u64 0] 49) = W1 := ⟨_, rfl⟩
  obtain ⟨W2, hW2⟩ : ∃ W2, W1.alloc (.cells #[.int .i64 0, .slice none 0 0, .slice (some ⟨w.heap.size, 0, none⟩) 1 1] 53) = W2 := ⟨_, rfl⟩
  have hs1 : W1.heap.size = w.heap.size + 1 := by rw [← hW1]; simp
  have HB := hide (show Below w.heap.size w W2 by rw [← hW2, ← hW1]; exact below2 w _ _)
  have hr1 : Row W2 w.heap.size 49 [.int .i64 23, .int .i64 0, .int .i64 0, .int .i64 0, .int .u64 0] := by rw [← hW2, ← hW1]; exact (Row.new w 49 [.int .i64 23, .int .i64 0, .int .i64 0, .int .i64 0, .int .u64 0]).alloc _
  have hr2 : Row W2 (w.heap.size + 1) 53 [.int .i64 0, .slice none 0 0, .slice (some ⟨w.heap.size, 0, none⟩) 1 1] := by rw [← hW2, ← hs1]; exact Row.new W1 _ [.int .i64 0, .slice none 0 0, .slice (some ⟨w.heap.size, 0, none⟩) 1 1]
  have hsz : W2.heap.size = w.heap.size + 1 + 1 := by rw [← hW2]; simp [hs1]
  have HP := hide (show PgAt W2 w.heap.size W2.heap.size (some ⟨w.heap.size + 1, 0, none⟩) 1 1 [⟨0, none, 0, 0, some ⟨w.heap.size, 0, none⟩, 1, 1⟩] F0 from
    ⟨rfl, ⟨(fun e => by cases e), Nat.le_refl _, by omega⟩, (fun a ha => by injection ha with ha; subst ha; simp only; omega), (fun k u hu => ⟨w.heap.size + 1, 0, rfl, by omega, by rw [Nat.zero_add]; exact hr2.cell hu⟩), ⟨rfl, fun k h f e1 e2 => by
      cases k with
      | zero =>
        simp [F0] at e1 e2
        subst e1 e2
        exact ⟨rfl, rfl, rfl, ⟨fun _ => rfl, Nat.le_refl _, Nat.zero_le _⟩, ⟨(fun e => by cases e), Nat.le_refl _, by simp only; omega⟩, Far.none _, (fun a ha => by injection ha with ha; subst ha; simp), Sees.nil_ _ _ _, fun k u hu => ⟨w.heap.size, 0, rfl, by omega, by rw [Nat.zero_add]; exact hr1.cell hu⟩⟩
      | succ j => simp at e1⟩⟩)
  have ce := dencode_any W2 w.heap.size (some ⟨w.heap.size + 1, 0, none⟩) 1 1 _ F0 HP (hide (fun f hf x hx => by simp [F0] at hf; subst hf; simp at hx; subst hx; exact ⟨by decide, by decide⟩)) (hide (hT.out.below HB.out)) (hide (hS.out.below HB.out))
  have HW1 := hide hW1
  have HW2 := hide hW2
  clear hW1 hW2 hr1 hr2 hs1 hsz
  go_enter Tryd.func8, Tryd.ntmps8
  go_wp2_with fail
  rw [HW1.out, HW2.out]
  refine ce.mono ?_
  rintro e w3 ⟨r, n, rfl, ho, hb⟩
  obtain ⟨h1, h2⟩ := F0_enc
  rw [h1] at ho ⊢
  rw [if_pos rfl] at ho
  have hn : n = 14 := by have := own_len ho; simpa [cellsU8, h2] using this.symm
  subst hn
  obtain ⟨A, c, rfl, -, -, -, -⟩ := own_seen ho
  have HB3 := hide (below_call HB.out hb)
  clear ho hb h1 h2 ce
  go_wp2_with fail
  go_ret
  exact ⟨rfl, HB3.out⟩

/-- Bytes whose last four are made their checksum. -/
def mendY (zs : List Int) : List Int := if zs.length < 4 then zs else withY (zs.take (zs.length - 4))
theorem mendY_byt {zs : List Int} (h : Byt zs) : Byt (mendY zs) := by
  unfold mendY
  split
  · exact h
  · exact (h.take _).app (crcI_bytes _)
/-- Bytes that a call returns. -/
def BsPost (ys : List Int) (w : World) (e : Ending) (w' : World) : Prop := ∃ (A : Option Addr) (n c : Nat), e = .returned (.slice A n c) ∧ BsAt w' w'.heap.size A n c ys ∧ Below w.heap.size w w'

set_option maxRecDepth 100000 in
set_option maxHeartbeats 1600000 in
theorem mended_any (A : Option Addr) (n c : Nat) (zs : List Int) (w : World) (h : Hid (BsAt w w.heap.size A n c zs)) (hm : n ≤ 1099511627776) :
    Calls Tryd.prog 16 #[.slice A n c] w (BsPost (mendY zs) w) := by
  by_cases h4 : n < 4
  · have hz : (n : Int) < 4 := by omega
    have FIN := hide (show BsPost (mendY zs) w (.returned (.slice A n c)) w from ⟨A, n, c, rfl, by unfold mendY; rw [if_pos (by rw [h.out.len]; exact h4)]; exact h.out, Below.refl _ _⟩)
    go_enter Tryd.func16, Tryd.ntmps16
    go_wp2_with fail
    go_ret
    exact FIN.out
  · obtain ⟨m, rfl⟩ : ∃ m, n = m + 4 := ⟨n - 4, by omega⟩
    obtain ⟨b, off, _, rfl, _⟩ := byte_at (zs := zs) (k := 0) h.out.see (by rw [h.out.len]; omega) h.out.byt
    obtain ⟨i0, hi, hz0, hz1, hz2⟩ := info_parts Tryd.info5
    have hz : ¬ ((m : Int) + 4 < 4) := by omega
    have hw1 : IntKind.i64.wrap ((m : Int) + 4 - 4) = (m : Int) := by rw [IntKind.wrap_i64]; omega
    have hmz : (0 : Int) ≤ (m : Int) := by omega
    have hnc := h.out.nc
    have hmc : (m : Int) ≤ (c : Int) := by omega
    have hmc' := hide (show m ≤ c by omega)
    have HT := hide (h.out.take (k := m) (by omega))
    have EM := hide (show mendY zs = withY (zs.take m) by unfold mendY; rw [if_neg (by rw [h.out.len]; omega), h.out.len, Nat.add_sub_cancel])
    clear hnc
    go_enter Tryd.func16, Tryd.ntmps16
    go_wp2_with (at_builtin; refine wpList_append_seesN rfl (.const (.slice none 0 0)) (.tmp 11) 22 rfl w.heap.size 5 i0 (.int .u8 0) 1 1 Tryd.underlying22 hi hz0 hz1 hz2 rfl (by decide) (.slice none 0 0) 0 [] rfl (World.ownsRow_nil _ _ _ _) w.heap.size (some ⟨b, off, none⟩) m c (cellsU8 (zs.take m)) rfl (hide (fun e => by cases e)) (hide (by have := HT.out.len; simp [cellsU8]; simpa using this)) (hide HT.out.see) hmc' (one_u8 _) (by unfold maxLen; omega) (by omega) (Nat.le_refl _) ?_)
    intro v1 w1 ho0 hg1
    have ho1 : w1.ownsRow w.heap.size 5 1 v1 m (cellsU8 (zs.take m)) := by simpa using ho0
    clear ho0
    have B1 := hide (show Below w.heap.size w w1 from (Below.refl _ _).grown hg1 (Nat.le_refl _) (fun k hk => by cases hk))
    have O1 := hide ho1
    have cp := rputcrc_any v1 m (zs.take m) w.heap.size w1 O1 (hide B1.out.size) (by omega) (hide HT.out.byt)
    obtain ⟨A1, c1, rfl, -, -, -, -⟩ := own_seen O1.out
    clear ho1 hg1
    go_wp2_with fail
    refine cp.mono ?_
    rintro e w2 ⟨r2, rfl, ho2, hg2⟩
    have B2 := hide (below_append B1.out O1.out (Nat.le_refl _) hg2 B1.out.size)
    obtain ⟨A2, c2, rfl, -, -, -, -⟩ := own_seen ho2
    have FIN := hide (show BsPost (mendY zs) w (.returned (.slice A2 (m + 4) c2)) w2 from ⟨A2, m + 4, c2, rfl, by rw [EM.out]; exact BsAt.own ho2 (HT.out.byt.app (crcI_bytes _)), B2.out⟩)
    clear ho2 hg2 cp
    go_wp2_with fail
    go_ret
    exact FIN.out
end Go.Proofs.YtgcjckbndkddmaaDoor
end

section
/-
  A changed byte; drawn programs are small. The walk of the law that Decode inverts Encode. Conditions: those of the types; the listed tables lie as their initialisers lay them.
-/
namespace Go.Proofs.YtgcjckbndkddmaaDoor
open Go.RowKit

theorem mod_nat (x : Int) (n : Nat) (w : World) (hn : 1 ≤ n) (hn2 : n ≤ 2000000) : Calls Tryd.prog 15 #[.int .i64 x, .int .i64 n] w fun e w' => (∃ i : Nat, i < n ∧ e = .returned (.int .i64 i)) ∧ w = w' :=
  (mod_any x n w (by omega) (by omega)).mono fun e w' ⟨he, hw⟩ => ⟨⟨(x % n).toNat, by have := Int.emod_lt_of_pos x (show (0 : Int) < n by omega); have := Int.emod_nonneg x (show (n : Int) ≠ 0 by omega); omega, by
    rw [he, Int.toNat_of_nonneg (Int.emod_nonneg x (by omega))]⟩, hw⟩
theorem xor_byte (z y : Int) (z0 : 0 ≤ z) (z1 : z ≤ 255) (y0 : 0 ≤ y) (y1 : y ≤ 255) : 0 ≤ bits BinOp.xor IntKind.u8 z y ∧ bits BinOp.xor IntKind.u8 z y ≤ 255 ∧ (y ≠ 0 → bits BinOp.xor IntKind.u8 z y ≠ z) := by
  obtain ⟨a, rfl⟩ := Int.eq_ofNat_of_zero_le z0
  obtain ⟨b, rfl⟩ := Int.eq_ofNat_of_zero_le y0
  rw [u8_xor_nat a b (by omega) (by omega)]
  have hx : a ^^^ b < 2 ^ 8 := Nat.xor_lt_two_pow (by omega) (by omega)
  refine ⟨by omega, by omega, fun hne h => ?_⟩
  have h1 : a ^^^ b = a ^^^ 0 := by rw [Nat.xor_zero]; omega
  have := xor_inj' h1
  omega
/-- A drawn program is small. -/
theorem drawn_small {funcs most : Nat} {F : Pg} (h : PgGood funcs most F) (hf : funcs ≤ 5) (hm : most ≤ 12) : PgW F ∧ encE F = 0 ∧ (encY F).length ≤ 20000 ∧ 14 ≤ (encY F).length ∧ ∀ f ∈ F, ∀ x ∈ f.code, 0 ≤ x.imm ∧ x.imm ≤ 18446744073709551615 := by
  have hg : ∀ f ∈ F, ∃ i, FnGood F.length i most f := fun f hfm => by
    obtain ⟨k, hk, rfl⟩ := List.getElem_of_mem hfm
    exact ⟨k, (h.fn k _ (List.getElem?_eq_getElem hk)).1⟩
  have him : ∀ f ∈ F, ∀ x ∈ f.code, 0 ≤ x.imm ∧ x.imm ≤ 18446744073709551615 := fun f hfm => (hg f hfm).elim fun _ g => g.imm
  have hw := pgW_of h.err him
  have hfn : ∀ f ∈ F, (lenY f).length ≤ 2907 ∧ 5 ≤ (lenY f).length := fun f hfm => by
    obtain ⟨i, g⟩ := hg f hfm
    have fw := hw.2 f hfm
    have h1 := flat_le (f := slY) f.slots (fun s m => slY_len (fw.sl s m))
    have h2 := flat_le (f := insY) f.code (fun x m => insY_len (fw.cd x m))
    have hp := fw.p
    have h3 := lenv_31 (n := f.params.toNat) (by omega)
    have h4 := lenv_31 (n := f.slots.length) (by have := fw.s; omega)
    have h5 := lenv_31 (n := f.code.length) (by have := fw.c; omega)
    have k3 := lenv_pos f.params.toNat
    have k4 := lenv_pos f.slots.length
    have k5 := lenv_pos f.code.length
    have g1 := g.few
    have g2 := g.short
    have g3 := g.some
    have hins : 1 ≤ (f.code.flatMap insY).length := by
      match hc : f.code, g3 with
      | x :: r, _ => simp [insY]
    have hl : (fnY f).length ≤ 2897 ∧ 4 ≤ (fnY f).length := by
      simp only [fnY, List.length_append, digsI_length]
      omega
    have h6 := lenv_31 (n := (fnY f).length) (by omega)
    have k6 := lenv_pos (fnY f).length
    simp only [lenY, List.length_append, digsI_length]
    omega
  have h1 := flat_le (f := lenY) F (fun f hfm => (hfn f hfm).1)
  have h2 := lenv_31 (n := F.length) (by have := h.few; omega)
  have k2 := lenv_pos F.length
  have h3 := h.few
  have h4 := h.one
  have hge : 5 ≤ (F.flatMap lenY).length := by
    match hF : F, h4 with
    | f :: r, _ =>
      have := (hfn f (by first | exact List.mem_cons_self | (rw [hF]; exact List.mem_cons_self))).2
      simp only [List.flatMap_cons, List.length_append]
      omega
  have hl : (encY F).length ≤ 20000 ∧ 14 ≤ (encY F).length := by
    unfold encY pgY magic
    rw [withY_length]
    simp only [List.length_append, List.length_cons, List.length_nil, digsI_length]
    omega
  refine ⟨hw, ?_, hl.1, hl.2, him⟩
  unfold encE
  rw [if_neg (by simp [h.err]), if_neg (by omega)]
theorem decode_enc {F : Pg} (hw : PgW F) (he : pgE F = 0) (hl : (encY F).length ≤ 1048576) : decE (encY F) = 0 ∧ decF (encY F) = F := by
  obtain ⟨h1, h2, _⟩ := parse_enc hw hl
  have h3 : decE (encY F) = 0 := by unfold decE; rw [if_pos h1, h2, he]
  exact ⟨h3, by unfold decF; rw [if_pos h3, h2]⟩
theorem encY_byt {F : Pg} (h : PgW F) : Byt (encY F) := (pgY_byt h).app (crcI_bytes _)

set_option maxRecDepth 100000 in
set_option maxHeartbeats 4000000 in
theorem invlaw_walk (A0 : Option Addr) (n0 c0 : Nat) (zs : List Int) (x y : Int) (w : World) (h : Hid (BsAt w w.heap.size A0 n0 c0 zs)) (y0 : 0 ≤ y) (y1 : y ≤ 255) (hT : Hid (Tab w)) (hS : Hid (Shapes w)) :
    Calls Tryd.prog 5 #[.slice A0 n0 c0, .int .i64 x, .int .u8 y] w fun e w' => e = .returned (.bool true) ∧ Below w.heap.size w w' := by
  obtain ⟨i0, hi, hz0, hz1, hz2⟩ := info_parts Tryd.info5
  go_enter Tryd.func5, Tryd.ntmps5
  go_wp2_with fail
  refine (awake_any w hT hS).mono ?_
  rintro e w1 ⟨rfl, hb1⟩
  have B1 := hide hb1
  have C1 := hide (h.out.call hb1)
  clear hb1
  go_wp2_with fail
  refine (new_any A0 n0 c0 zs 300 w1 (hide C1.out.nil_) (hide C1.out.len) C1.out.nc (by have := C1.out.cm; have := C1.out.nc; omega) (by omega) (hide C1.out.see) (hide C1.out.byt)).mono ?_
  rintro e w2 ⟨rfl, hC2, hb2⟩
  have HC2 := hide hC2
  have B2 := hide (below_call B1.out hb2)
  have hg2 : w1.heap.size < w2.heap.size := hC2.lt
  have hgw : w.heap.size ≤ w1.heap.size := B1.out.size
  clear hC2 hb2
  go_wp2_with fail
  refine (prog_any w1.heap.size 5 12 w2 HC2 (by omega) (by omega) (by omega)).mono ?_
  rintro e w3 ⟨AP, nP, cP, hsP, F, rfl, hpg, hgood, hC3, hG3⟩
  obtain ⟨hW, hE, hL, hL14, him⟩ := drawn_small hgood (by omega) (by omega)
  obtain ⟨hD1, hD2⟩ := decode_enc hW hgood.err (by omega)
  have HW := hide hW
  have HE := hide hE
  have HL := hide hL
  have HL14 := hide hL14
  have HIM := hide him
  have HD1 := hide hD1
  have HD2 := hide hD2
  have B3 := hide (below_inner B2.out hG3 (by omega))
  obtain ⟨P, hP⟩ : ∃ P, w3.heap.size = P := ⟨_, rfl⟩
  obtain ⟨W4, hW4⟩ : ∃ W4, w3.alloc (.cells #[.slice AP nP cP] 28) = W4 := ⟨_, rfl⟩
  have HW4 := hide hW4
  have HPP := hide hP
  have R4 := hide (show Row W4 P 28 [.slice AP nP cP] by rw [← hW4, ← hP]; exact Row.new w3 28 [.slice AP nP cP])
  have B4 := hide (show Below w.heap.size w W4 by rw [← hW4]; exact B3.out.alloc B3.out.size _)
  have G4 := hide (show PgAt W4 w2.heap.size W4.heap.size AP nP cP hsP F by rw [← hW4]; exact hpg.alloc _)
  have p4 := R4.out.cell (k := 0) rfl
  clear hpg hgood hC3 hG3 hW hE hL hL14 him hD1 hD2 hP hW4
  go_upto_region 4 with (fail)
  rw [HW4.out, HPP.out]
  clear HW4 HPP
  go_wp2_with fail
  refine (dencode_any W4 w2.heap.size AP nP cP hsP F G4 HIM (hide (hT.out.below B4.out)) (hide (hS.out.below B4.out))).mono ?_
  rintro e w5 ⟨r5, n5, rfl, ho5, hb5⟩
  rw [HE.out] at ho5 ⊢
  rw [if_pos rfl] at ho5
  have hn5 : (encY F).length = n5 := by have := own_len ho5; simpa [cellsU8] using this
  obtain ⟨A5, c5, rfl, -, -, -, -⟩ := own_seen ho5
  have D5 := hide (BsAt.own ho5 (encY_byt HW.out))
  have B5 := hide (below_call B4.out hb5)
  have R5 := hide (R4.out.call hb5)
  have G5 := hide (G4.out.call hb5)
  have hn5a : n5 ≤ 20000 := by have := HL.out; omega
  have hn5b : 14 ≤ n5 := by have := HL14.out; omega
  have HN5 := hide hn5
  clear ho5 hb5 hn5 p4
  go_wp2_with fail
  have cD := ddecode_any A5 n5 c5 (encY F) w5 (hide D5.out.len) D5.out.nc D5.out.cm (hide D5.out.see) (hide D5.out.byt) (hide (hS.out.below B5.out))
  rw [HD1.out, HD2.out] at cD
  refine cD.mono ?_
  rintro e w6 ⟨A6, n6, c6, hs6, rfl, hp6, hb6⟩
  obtain ⟨Q, hQ⟩ : ∃ Q, w6.heap.size = Q := ⟨_, rfl⟩
  obtain ⟨W7, hW7⟩ : ∃ W7, w6.alloc (.cells #[.slice A6 n6 c6] 28) = W7 := ⟨_, rfl⟩
  have HW7 := hide hW7
  have HQQ := hide hQ
  have B6 := hide (below_call B5.out hb6)
  have B7 := hide (show Below w.heap.size w W7 by rw [← hW7]; exact B6.out.alloc B6.out.size _)
  have R7 := hide (show Row W7 P 28 [.slice AP nP cP] by rw [← hW7]; exact (R5.out.call hb6).alloc _)
  have Q7 := hide (show Row W7 Q 28 [.slice A6 n6 c6] by rw [← hW7, ← hQ]; exact Row.new w6 28 [.slice A6 n6 c6])
  have G7 := hide (show PgAt W7 w2.heap.size W7.heap.size AP nP cP hsP F by rw [← hW7]; exact (G5.out.call hb6).alloc _)
  have H7 := hide (show PgAt W7 w5.heap.size W7.heap.size A6 n6 c6 hs6 F by rw [← hW7]; exact hp6.alloc _)
  have D7 := hide (show BsAt W7 W7.heap.size A5 n5 c5 (encY F) by rw [← hW7]; exact (D5.out.call hb6).call (below1 w6 _))
  have p7 := R7.out.cell (k := 0) rfl
  have q7 := Q7.out.cell (k := 0) rfl
  have hn0 : ((n5 : Int) == 0) = false := by rw [beq_eq_false_iff_ne]; omega
  clear hp6 hb6 hQ hW7 cD
  go_upto_region 6 with (fail)
  rw [HW7.out, HQQ.out]
  clear HW7 HQQ
  have cS := rsame_any AP nP cP hsP F A6 n6 c6 hs6 F w2.heap.size w5.heap.size W7.heap.size W7.heap.size W7 G7 H7 (Nat.le_refl _) (Nat.le_refl _)
  rw [show decide (F = F) = true from decide_eq_true rfl] at cS
  go_wp2_with fail
  refine cS.mono ?_
  rintro e w8 ⟨rfl, hb8⟩
  have B8 := hide (below_call B7.out hb8)
  have D8 := hide (D7.out.call hb8)
  clear hb8 cS p7 q7
  go_wp2_with (at_builtin; refine wpList_append_seesN rfl (.const (.slice none 0 0)) (.tmp 47) 22 rfl w8.heap.size 5 i0 (.int .u8 0) 1 1 Tryd.underlying22 hi hz0 hz1 hz2 rfl (by decide) (.slice none 0 0) 0 [] rfl (World.ownsRow_nil _ _ _ _) w8.heap.size A5 n5 c5 (cellsU8 (encY F)) rfl (hide D8.out.nil_) (hide (by have := D8.out.len; simp [cellsU8]; omega)) (hide D8.out.see) (hide D8.out.nc) (one_u8 _) (by unfold maxLen; omega) (by omega) (Nat.le_refl _) ?_)
  intro v9 w9 ho0 hg9
  have ho9 : w9.ownsRow w8.heap.size 5 1 v9 n5 (cellsU8 (encY F)) := by simpa using ho0
  have B9 := hide (below_call B8.out ((Below.refl w8.heap.size w8).grown hg9 (Nat.le_refl _) (fun k hk => by cases hk)))
  obtain ⟨g, c9, rfl, hg8, hg9', -, -⟩ := own_block ho9 (by omega)
  have O9 := hide ho9
  clear ho0 hg9 ho9
  go_wp2_with fail
  refine (mod_nat x n5 _ (by omega) (by omega)).mono ?_
  rintro e w' ⟨⟨i, hin, rfl⟩, rfl⟩
  have hil : i < (encY F).length := by rw [HN5.out]; exact hin
  have hzi := hide (List.getElem?_eq_getElem hil)
  obtain ⟨z, hzz⟩ : ∃ z, (encY F)[i] = z := ⟨_, rfl⟩
  have hzb := encY_byt HW.out z (by rw [← hzz]; exact List.getElem_mem _)
  rw [hzz] at hzi
  have hc : w9.cell? ⟨g, i, none⟩ = some (.int .u8 z) := by rw [O9.out.cellAt i (by omega)]; simp [cellsU8, hzi.out]
  have hf : w9.frozen? ⟨g, i, none⟩ = false := O9.out.frozenAt i
  have hiz : (0 : Int) ≤ (i : Int) := by omega
  have hiz2 : (i : Int) < (n5 : Int) := by omega
  have hx8 := xor_byte z (max y 1) hzb.1 hzb.2 (by omega) (by omega)
  obtain ⟨z', hz'⟩ : ∃ z', bits BinOp.xor IntKind.u8 z (max y 1) = z' := ⟨_, rfl⟩
  rw [hz'] at hx8
  have HX8 := hide hx8
  have HZ' := hide hz'
  obtain ⟨W10, hW10⟩ : ∃ W10, w9.setCell ⟨g, i, none⟩ (.int .u8 z') = W10 := ⟨_, rfl⟩
  have O10 := hide (show W10.ownsRow w8.heap.size 5 1 (.slice (some ⟨g, 0, none⟩) n5 c9) n5 (cellsU8 ((encY F).set i z')) by
    have := (O9.out.stored i (.int .u8 z')).1
    rw [hW10] at this
    rwa [show (cellsU8 (encY F)).set i (.int .u8 z') = cellsU8 ((encY F).set i z') by simp [cellsU8, List.map_set]] at this)
  have B10 := hide (show Below w.heap.size w W10 by rw [← hW10]; exact below_put B9.out B9.out.size (by have := B8.out.size; omega) i _)
  have D10 := hide (BsAt.own O10.out ((encY_byt HW.out).set i HX8.out.1 HX8.out.2.1))
  have EP := hide (show parseR ((encY F).set i z') = (2, []) from parse_turned (L := pgY F) (pgY_byt HW.out) (by have := @pgY_len F; omega) (by have h1 := HL.out; unfold encY at h1; rw [withY_length] at h1; omega) i hzi.out HX8.out.1 HX8.out.2.1 (HX8.out.2.2 (by omega)))
  have ED := hide (show decE ((encY F).set i z') = 2 by unfold decE; rw [EP.out]; rfl)
  have cD := ddecode_any (some ⟨g, 0, none⟩) n5 c9 ((encY F).set i z') W10 (hide D10.out.len) D10.out.nc D10.out.cm (hide D10.out.see) (hide D10.out.byt) (hide (hS.out.below B10.out))
  rw [ED.out] at cD
  have HW10 := hide hW10
  clear hzz hx8 hz' hW10 hzb
  go_upto_region 10 with (fail)
  rw [HZ'.out, HW10.out]
  clear hc hf HZ' HW10
  go_wp2_with fail
  refine cD.mono ?_
  rintro e w11 ⟨A11, n11, c11, hs11, rfl, -, hb11⟩
  have B11 := hide ((below_call B10.out hb11))
  have B12 := hide (B11.out.alloc B11.out.size (.cells #[.slice A11 n11 c11] 28))
  clear hb11 cD
  go_wp2_with fail
  go_ret
  exact ⟨rfl, B12.out⟩
end Go.Proofs.YtgcjckbndkddmaaDoor
end
