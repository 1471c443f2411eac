import Derived.Test.YtafegghdhdgioaaDoorMScan
import Derived.Test.YtafegghdhdgioaaDoorMKit
import Derived.Test.YtafegghdhdgioaaDoorMPmath
import Derived.Test.YtafegghdhdgioaaDoorMBitsm
import Derived.Maps.Range
import Derived.RegionTactic
import Derived.Deep.RegionLaw
import Derived.Deep.DeepCutAuto
set_option linter.unusedVariables false
set_option linter.unusedSimpArgs false
section
/-
  What a call may turn beside new blocks: one block, and one row that it grows. No function of the program is named here.
-/
namespace Go.Proofs.YtafegghdhdgioaaDoor
open Go.RowKit

theorem grown_put1 (w : World) (g k : Nat) (u : Value) : w.grownBy (w.setCell ⟨g, k, none⟩ u) (some g) := ⟨rfl, rfl, rfl, by simp [World.setCell], fun i _ hi => Below.heap_setCell w ⟨g, k, none⟩ u i (fun e => hi (by rw [e]))⟩
/-- Only the block Bx, and the row v, may have turned; v' is the row now. -/
structure JKp (w w' : World) (Bx : Nat) (v v' : Value) : Prop where
  os : w'.os = w.os
  tape : w'.tape = w.tape
  output : w'.output = w.output
  size : w.heap.size ≤ w'.heap.size
  blk : ∀ k, k < w.heap.size → k ≠ Bx → v.ownBlock ≠ some k → w'.heap[k]? = w.heap[k]?
  own : ∀ k, v'.ownBlock = some k → v.ownBlock = some k ∨ w.heap.size ≤ k
section
variable {w w' w'' : World} {Bx : Nat} {v v' v'' : Value}
theorem JKp.refl (w : World) (Bx : Nat) (v : Value) : JKp w w Bx v v := ⟨rfl, rfl, rfl, Nat.le_refl _, fun _ _ _ _ => rfl, fun _ h => .inl h⟩
theorem JKp.trans (h : JKp w w' Bx v v') (h' : JKp w' w'' Bx v' v'') : JKp w w'' Bx v v'' :=
  ⟨h'.os.trans h.os, h'.tape.trans h.tape, h'.output.trans h.output, Nat.le_trans h.size h'.size, fun k hk h1 h2 => (h'.blk k (Nat.lt_of_lt_of_le hk h.size) h1 (fun e => by
    rcases h.own k e with e | e
    · exact h2 e
    · omega)).trans (h.blk k hk h1 h2), fun k hk => by
    rcases h'.own k hk with e | e
    · exact h.own k e
    · exact .inr (Nat.le_trans h.size e)⟩
theorem JKp.row {g t : Nat} {cs : List Value} (h : JKp w w' Bx v v') (r : Row w g t cs) (h1 : g ≠ Bx) (h2 : v.ownBlock ≠ some g) : Row w' g t cs := by
  unfold Row
  rw [h.blk g r.lt h1 h2]
  exact r
theorem JKp.below {B : Nat} (h : JKp w w' Bx v v') (hB : B ≤ w.heap.size) (h1 : B ≤ Bx) (h2 : ∀ k, v.ownBlock = some k → B ≤ k) : Below B w w' :=
  ⟨h.os, h.tape, h.output, h.size, fun k hk => h.blk k (by omega) (by omega) (fun e => by have := h2 k e; omega)⟩
theorem JKp.of_below (h : Below w.heap.size w w') (Bx : Nat) (v : Value) : JKp w w' Bx v v := ⟨h.os, h.tape, h.output, h.size, fun k hk _ _ => h.block k hk, fun _ e => .inl e⟩
theorem JKp.of_row (h : w.grownBy w' v.ownBlock) (ho : ∀ k, v'.ownBlock = some k → v.ownBlock = some k ∨ w.heap.size ≤ k) (Bx : Nat) : JKp w w' Bx v v' := ⟨h.os, h.tape, h.output, h.size, fun k hk _ h2 => h.block k hk (fun e => h2 e.symm), ho⟩
theorem JKp.set (w : World) (Bx k : Nat) (v u : Value) : JKp w (w.setCell ⟨Bx, k, none⟩ u) Bx v v :=
  have h := grown_put1 w Bx k u
  ⟨h.os, h.tape, h.output, h.size, fun j hj h1 _ => h.block j hj (fun e => h1 (by injection e)), fun _ e => .inl e⟩
end
end Go.Proofs.YtafegghdhdgioaaDoor
end

section
/-
  An append to a row of the call's own: the row stays where it was, or lies in a new block. No function of the program is named here.
-/
namespace Go.Proofs.YtafegghdhdgioaaDoor
open Go.RowKit

theorem append_where {P : Program} (w : World) (base : Nat) (t ty e : TypeId) (i : TypeInfo) (z : Value) (size bytes : Nat) (ht : P.underlying t = some (.slice e)) (hi : P.info? e = some i) (hz : i.zero = some z)
    (hsize : i.size = size) (hby : i.bytes = bytes) (hzs : z.cells.size = size) (hsz : 0 < size)
    (v : Value) (n : Nat) (xs : List Value) (hown : w.ownsRow base e size v n xs)
    (a : Addr) (m c : Nat) (news : List Value) (hl : news.length = m * size) (hnews : ∀ j u, news[j]? = some u → w.cell? (a.add j) = some u) (h1 : ∀ u ∈ news, u.oneCell' = true)
    (h63 : n + m ≤ maxLen) (hbytes : (n + m) * bytes ≤ 140737488355328) (hbase : base ≤ w.heap.size) :
    ∃ v' w', (Builtin.append_ #[t, t] ty #[v, .slice (some a) m c]).run P w = .ok v' w' ∧ w'.ownsRow base e size v' (n + m) (xs ++ news) ∧ w.grownBy w' v.ownBlock ∧ ∀ k, v'.ownBlock = some k → v.ownBlock = some k ∨ k = w.heap.size := by
  obtain ⟨v', w', hr, h2, h3, h4⟩ := run_append_own (P := P) w base t ty e i z size bytes ht hi hz hsize hby hzs hsz v n xs hown a m c news hl hnews h1 h63 hbytes hbase
  refine ⟨v', w', hr, h2, h3, fun k hk => ?_⟩
  subst hsize hby
  have h63' : n + m ≤ 9223372036854775807 := by simp only [maxLen] at h63; omega
  rcases hown.2 with ⟨rfl, rfl⟩ | ⟨g, cap, cur, rfl, hbg, hg, hnc, hcm, hcs, htake⟩
  · by_cases hm : m = 0
    · rw [h4.2 ⟨rfl, hm⟩] at hk
      cases hk
    · have hr2 := run_append_nil (P := P) w t ty e i z ht hi hz a m c news hl hnews (by omega) (by omega) (by simp only [Nat.zero_add] at hbytes; omega)
      rw [hr] at hr2
      injection hr2 with e1 e2
      subst e1
      simp [Value.ownBlock] at hk
      exact .inr hk.symm
  · by_cases hroom : n + m ≤ cap
    · have hfit : n * i.size + news.length ≤ cur.size := by rw [hl, hcs, ← Nat.add_mul]; exact Nat.mul_le_mul_right _ hroom
      have hr2 := run_append_room (P := P) w t ty e i ht hi g n cap cur hg a m c news hl hnews h1 hroom hfit
      rw [hr] at hr2
      injection hr2 with e1 e2
      subst e1
      exact .inl hk
    · have holds : ∀ j u, xs[j]? = some u → w.cell? ((⟨g, 0, none⟩ : Addr).add j) = some u := hown.cells (g := g) rfl
      have hr2 := run_append_grow (P := P) w t ty e i z ht hi hz ⟨g, 0, none⟩ n cap xs hown.1 holds a m c news hl hnews (by omega) (by omega) (growslice_fits (by omega) hbytes)
      rw [hr] at hr2
      injection hr2 with e1 e2
      subst e1
      simp [Value.ownBlock] at hk
      exact .inr hk.symm

theorem wp_append_where {P : Program} {w : World} {o : Oper} {a : Act} {K : Act → World → Prop} {Q : Exit → Act → World → Prop} (s x : Operand) (t : TypeId)
    (ho : o.op = .call { callee := .builtin .append, args := #[s, x], argTypes := #[t, t] })
    (base : Nat) (e : TypeId) (i : TypeInfo) (z : Value) (size bytes : Nat) (ht : P.underlying t = some (.slice e)) (hi : P.info? e = some i) (hz : i.zero = some z)
    (hsize : i.size = size) (hby : i.bytes = bytes) (hzs : z.cells.size = size) (hsz : 0 < size)
    (v : Value) (n : Nat) (xs : List Value) (hs : a.eval s = v) (hown : w.ownsRow base e size v n xs)
    (ad : Addr) (m c : Nat) (news : List Value) (hx : a.eval x = .slice (some ad) m c) (hl : news.length = m * size) (hnews : ∀ j u, news[j]? = some u → w.cell? (ad.add j) = some u) (h1 : ∀ u ∈ news, u.oneCell' = true)
    (h63 : n + m ≤ maxLen) (hbytes : (n + m) * bytes ≤ 140737488355328) (hbase : base ≤ w.heap.size)
    (h : ∀ v' w', w'.ownsRow base e size v' (n + m) (xs ++ news) → w.grownBy w' v.ownBlock → (∀ k, v'.ownBlock = some k → v.ownBlock = some k ∨ k = w.heap.size) → K (a.put o.dst v') w') : o.wp P a w K Q := by
  obtain ⟨v', w', hrun, h2, h3, h4⟩ := append_where (P := P) w base t o.type e i z size bytes ht hi hz hsize hby hzs hsz v n xs hown ad m c news hl hnews h1 h63 hbytes hbase
  unfold Oper.wp
  simp [execOp, ho, resolve, invoke, builtin, hs, hx, hrun, Result.andThen]
  exact h v' w' h2 h3 h4
theorem wpList_append_where {P : Program} {w : World} {ops : Array Oper} {rest : List Oper} {o : Oper} {a : Act} {Q : Exit → Act → World → Prop} (hgd : o.guard = none) (s x : Operand) (t : TypeId)
    (ho : o.op = .call { callee := .builtin .append, args := #[s, x], argTypes := #[t, t] })
    (base : Nat) (e : TypeId) (i : TypeInfo) (z : Value) (size bytes : Nat) (ht : P.underlying t = some (.slice e)) (hi : P.info? e = some i) (hz : i.zero = some z)
    (hsize : i.size = size) (hby : i.bytes = bytes) (hzs : z.cells.size = size) (hsz : 0 < size)
    (v : Value) (n : Nat) (xs : List Value) (hs : a.eval s = v) (hown : w.ownsRow base e size v n xs)
    (ad : Addr) (m c : Nat) (news : List Value) (hx : a.eval x = .slice (some ad) m c) (hl : news.length = m * size) (hnews : ∀ j u, news[j]? = some u → w.cell? (ad.add j) = some u) (h1 : ∀ u ∈ news, u.oneCell' = true)
    (h63 : n + m ≤ maxLen) (hbytes : (n + m) * bytes ≤ 140737488355328) (hbase : base ≤ w.heap.size)
    (h : ∀ v' w', w'.ownsRow base e size v' (n + m) (xs ++ news) → w.grownBy w' v.ownBlock → (∀ k, v'.ownBlock = some k → v.ownBlock = some k ∨ k = w.heap.size) → wpList P ops Q rest (a.put o.dst v') w') : wpList P ops Q (o :: rest) a w :=
  wpList_plain hgd fun _ hK => wp_append_where s x t ho base e i z size bytes ht hi hz hsize hby hzs hsz v n xs hs hown ad m c news hx hl hnews h1 h63 hbytes hbase fun v' w' h2 h3 h4 => hK _ _ (h v' w' h2 h3 h4)
end Go.Proofs.YtafegghdhdgioaaDoor
end

section
/-
  Bytes that are read: what reading leaves and gives, by the mathematics of the format. No function of the program is named here.
-/
namespace Go.Proofs.YtafegghdhdgioaaDoor
open Go.RowKit

/-- The bytes that are read. -/
structure Src (n c : Nat) (zs : List Int) : Prop where
  len : zs.length = n
  nc : n ≤ c
  cm : c ≤ 9223372036854775807
  most : n ≤ 1048576
  byt : Byt zs
def Rd.to {α : Type} (S : Rd Unit) (p : List Int → Rd α) : Rd α := S.and fun _ l => p l
def Rd.st {α : Type} (m : Rd α) : Rd Unit := m.and fun _ r => .ok () r
def Rd.val {α : Type} (d : α) (m : Rd α) : α := match m with
  | .no _ => d
  | .ok a _ => a
theorem scan_none (l : List Int) : ∀ i v : Nat, (scan l i v).2.2 ≠ 0 → scan l i v = (0, 0, (scan l i v).2.2) := by
  induction l with
  | nil => intro i v _; rfl
  | cons z r ih =>
    intro i v h
    rw [scan] at h ⊢
    split at h
    · rename_i h1
      rw [if_pos h1]
    · rename_i h1
      rw [if_neg h1]
      split at h
      · rename_i h2
        rw [if_pos h2]
        exact ih _ _ h
      · rename_i h2
        rw [if_neg h2]
        split at h
        · rename_i h3
          rw [if_pos h3]
        · exact absurd rfl h
theorem wordR_scan {l r : List Int} {v : Nat} (h : wordR l = .ok v r) : ∃ j, scan l 0 0 = (v, j, 0) ∧ r = l.drop j := by
  unfold wordR at h
  split at h
  · rename_i h0
    injection h with h1 h2
    exact ⟨_, Prod.ext h1 (Prod.ext rfl h0), h2.symm⟩
  · cases h
theorem wordR_scan_no {l : List Int} {e : Int} (h : wordR l = .no e) : ∃ m : Nat, e = m ∧ m ≠ 0 ∧ m ≤ 2 ∧ scan l 0 0 = (0, 0, m) := by
  unfold wordR at h
  split at h
  · cases h
  · rename_i h0
    injection h with h1
    exact ⟨_, h1.symm, h0, scan_err l 0 0, scan_none l 0 0 h0⟩

theorem Rd.to_and {α β : Type} (S : Rd Unit) (p : List Int → Rd α) (k : α → List Int → Rd β) : S.to (fun l => (p l).and k) = (S.to p).and k := by
  cases S with
  | no e => rfl
  | ok a r => rfl
theorem Rd.st_to {α β : Type} (m : Rd α) (p : List Int → Rd β) : m.st.to p = m.and fun _ r => p r := by
  cases m with
  | no e => rfl
  | ok a r => rfl
/-- The state behind an operand, and its value. -/
def stN (u : Bool) (p : List Int → Rd Nat) (S : Rd Unit) : Rd Unit := if u then (S.to p).st else S
def vlN (u : Bool) (p : List Int → Rd Nat) (S : Rd Unit) : Nat := if u then (S.to p).val 0 else 0
theorem stN_no (u : Bool) (p : List Int → Rd Nat) (x : Int) : stN u p (.no x) = .no x := by cases u <;> rfl
theorem stN_ok (u : Bool) (p : List Int → Rd Nat) (t : List Int) : stN u p (.ok () t) = (optR u p t).st := by cases u <;> rfl
theorem vlN_ok (u : Bool) (p : List Int → Rd Nat) (t : List Int) : vlN u p (.ok () t) = (optR u p t).val 0 := by cases u <;> rfl
end Go.Proofs.YtafegghdhdgioaaDoor
end

section
/-
  Small words for readers and writers of bytes. No function of the program is named here.
-/
namespace Go.Proofs.YtafegghdhdgioaaDoor
open Go.RowKit

theorem grown_put (w : World) (g k : Nat) (u : Value) : w.grownBy (w.setCell ⟨g, k, none⟩ u) (some g) := grown_set (World.grownBy.refl w _) k u
theorem pow_wrap {k : Nat} (hk : k ≤ 24) : wrap64 ((2 : Int) ^ k) = (2 : Int) ^ k := by
  have h1 : ((2 : Int) ^ k) = ((2 ^ k : Nat) : Int) := by simp
  have h2 : 2 ^ k ≤ 2 ^ 24 := Nat.pow_le_pow_right (by omega) hk
  rw [h1]
  obtain ⟨m, hm⟩ : ∃ m, m = 2 ^ k := ⟨_, rfl⟩
  rw [← hm] at h2 ⊢
  unfold wrap64; omega
end Go.Proofs.YtafegghdhdgioaaDoor
end

section
/-
  The contract of the reference's PutUint: the bytes given, then the digits. Conditions: at most 2^40 bytes come in; v is a uint64.
-/
namespace Go.Proofs.YtafegghdhdgioaaDoor
open Go.RowKit

set_option maxRecDepth 100000 in
set_option maxHeartbeats 800000 in
theorem refput_any (A : Option Addr) (n c : Nat) (zs : List Int) (v : Int) (B : Nat) (w : World) (hA : Hid (A = none → c = 0)) (hn : Hid (zs.length = n)) (hm : n ≤ 1099511627776) (hs : Sees w B A (cellsU8 zs)) (h0 : 0 ≤ v) (hv : v ≤ 18446744073709551615) :
    Calls Tryd.prog 42 #[.slice A n c, .int .u64 v] w fun e w' => ∃ r, e = .returned r ∧ w'.ownsRow w.heap.size 5 1 r (n + lenv v.toNat) (cellsU8 (zs ++ digsI v.toNat)) ∧ Below w.heap.size w w' := by
  obtain ⟨i0, hi, hz0, hz1, hz2⟩ := info_parts Tryd.info5
  have hl10 := lenv_le v.toNat (by omega)
  go_enter Tryd.func42, Tryd.ntmps42
  go_wp2_with (at_builtin; refine wpList_append_sees rfl (.const (.slice none 0 0)) (.tmp 6) 22 rfl w.heap.size 5 i0 (.int .u8 0) 1 Tryd.underlying22 hi hz0 hz1 hz2 rfl _ 0 [] rfl (World.ownsRow_nil _ _ _ _) B A n c (cellsU8 zs) rfl hA (by simpa [cellsU8] using hn.out) hs (one_u8 zs) (by unfold maxLen; omega) (by omega) (Nat.le_refl _) ?_)
  intro out1 w1 hown1 hg1
  have hb1 : Below w.heap.size w w1 := below_append (Below.refl _ _) (World.ownsRow_nil w w.heap.size 5 1) (Nat.le_refl _) hg1 (Nat.le_refl _)
  clear hg1 hs hA
  go_wp2_with fail
  go_loopw [1, 5] (fun a out wr => PutRel w 5 n zs v.toNat a out wr) (fun a _ _ => (intOf a).toNat)
  case atStart => exact ⟨v, 0, [], h0, hv, by omega, rfl, by simpa using hown1, hb1, by omega, by simp⟩
  case round =>
    obtain ⟨u, j, ds, hu0, hu1, hj, rfl, hown, hb, hl', hd'⟩ := hrel
    have hl := hide hl'
    have hd := hide hd'
    have hp := lenv_pos u.toNat
    have hj9 : j ≤ 9 := by omega
    have hbs : w.heap.size ≤ wr.heap.size := hb.size
    clear hl' hd' hp
    by_cases hlt : 128 ≤ u
    · have hor := or_128 u hu0
      go_wp2_with (at_builtin; refine wpList_append_own _ rfl (.tmp 10) (.tmp 14) 22 rfl w.heap.size 5 i0 (.int .u8 0) 1 1 Tryd.underlying22 hi hz0 hz1 hz2 rfl (by decide) _ (n + j) (cellsU8 (zs ++ ds)) rfl (hown.alloc _) ⟨wr.heap.size, 0, none⟩ 1 1 [.int .u8 (u % 128 + 128)] rfl rfl (one_new _ _ _) (one_byte _) (by unfold maxLen; omega) (by omega) (by simp; omega) ?_)
      intro v' w' hown' hg' _
      have hb' := below_append (hb.alloc hbs _) (hown.alloc _) (Nat.le_refl _) hg' (by simp; omega)
      have hR := PutRel.more hlt hu1 hj9 hown' hb' hl.out hd.out
      clear hown' hb' hor hown hb
      go_wp2
      go_roundw
      case rel => exact hR
      case measure => simp [intOf]; omega
    · have hor : u % 256 = u := by omega
      go_wp2_with (at_builtin; refine wpList_append_own _ rfl (.tmp 18) (.tmp 21) 22 rfl w.heap.size 5 i0 (.int .u8 0) 1 1 Tryd.underlying22 hi hz0 hz1 hz2 rfl (by decide) _ (n + j) (cellsU8 (zs ++ ds)) rfl (hown.alloc _) ⟨wr.heap.size, 0, none⟩ 1 1 [.int .u8 u] rfl rfl (one_new _ _ _) (one_byte _) (by unfold maxLen; omega) (by omega) (by simp; omega) ?_)
      intro v' w' hown' hg' _
      have hb' := below_append (hb.alloc hbs _) (hown.alloc _) (Nat.le_refl _) hg' (by simp; omega)
      have hF := PutRel.last (by omega) hown' hl.out hd.out
      clear hown' hor hown hb
      go_wp2
      go_ret
      exact ⟨_, rfl, hF, hb'⟩
end Go.Proofs.YtafegghdhdgioaaDoor
end

section
/-
  The contracts of varint.Crc and of the reference's Crc.
-/
namespace Go.Proofs.YtafegghdhdgioaaDoor
open Go.RowKit

theorem crc_bit_go (n : Nat) (h : n ≤ 4294967295) : bits BinOp.xor IntKind.u32 ((n : Int) / 2) (bits BinOp.and IntKind.u32 (n : Int) 1 * 3988292384 % 4294967296) = (crcBit n : Nat) := by
  have ha : bits BinOp.and IntKind.u32 (n : Int) 1 = ((n % 2 : Nat) : Int) := by
    rw [show (1 : Int) = ((1 : Nat) : Int) from rfl, u32_and_nat n 1 (by omega) (by omega), Nat.and_one_is_mod]
  rw [ha, show (n : Int) / 2 = ((n / 2 : Nat) : Int) by omega, show (((n % 2 : Nat) : Int) * 3988292384 % 4294967296) = (((n % 2) * 3988292384 : Nat) : Int) by omega, u32_xor_nat _ _ (by omega) (by omega)]
  rfl
theorem xor_u32 (s : Nat) (z : Int) (hs : s ≤ 4294967295) (h0 : 0 ≤ z) (h1 : z ≤ 255) : bits BinOp.xor IntKind.u32 (s : Int) z = ((s ^^^ z.toNat : Nat) : Int) := by
  obtain ⟨k, rfl⟩ := Int.eq_ofNat_of_zero_le h0
  rw [u32_xor_nat _ _ (by omega) (by omega)]
  rfl
theorem not_u32 (s : Nat) (hs : s ≤ 4294967295) : bits BinOp.xor IntKind.u32 IntKind.u32.max (s : Int) = ((4294967295 - s : Nat) : Int) := by
  show IntKind.u32.wrap ((BitVec.ofInt 32 IntKind.u32.max ^^^ BitVec.ofInt 32 (s : Int)).toNat : Int) = _
  have e : BitVec.ofInt 32 IntKind.u32.max = BitVec.allOnes 32 := by decide
  rw [e, BitVec.allOnes_xor, BitVec.toNat_not, ofInt_u32 s (by omega), IntKind.wrap_u32']
  omega

set_option maxRecDepth 100000 in
set_option maxHeartbeats 400000 in
theorem shift_any (c : Int) (w : World) (h0 : 0 ≤ c) (h1 : c ≤ 4294967295) :
    Calls Tryd.prog 126 #[.int .u32 c] w fun e w' => e = .returned (.int .u32 (crcBits 8 c.toNat)) ∧ w = w' := by
  go_enter Tryd.func126, Tryd.ntmps126
  go_wp2
  go_loop [0, 3] (fun a k => ∃ (n : Nat) (j : Nat), n ≤ 4294967295 ∧ j ≤ 8 ∧ a = .int .u32 n ∧ k = .int .i64 j ∧ Hid (n = crcBits j c.toNat)) (fun _ k => 8 - (intOf k).toNat)
  case atStart => exact ⟨c.toNat, 0, by omega, by omega, by rw [Int.toNat_of_nonneg h0], rfl, rfl⟩
  case round =>
    obtain ⟨n, j, hn, hj, rfl, rfl, hr⟩ := hrel
    by_cases hlt : j < 8
    · go_wp2
      go_round
      case rel =>
        have hb := crcBit_lt (c := n) (by omega)
        exact ⟨crcBit n, j + 1, by omega, by omega, by rw [crc_bit_go n hn], by go_num, by have := hr.out; subst this; rfl⟩
      case measure => simp [intOf]; omega
    · go_wp2
      go_ret
      obtain rfl : j = 8 := by omega
      exact ⟨ret_int (by have h := hr.out; omega), rfl⟩

set_option maxRecDepth 100000 in
set_option maxHeartbeats 400000 in
theorem crc_any (A : Option Addr) (n c : Nat) (zs : List Int) (B : Nat) (w : World) (hn : Hid (zs.length = n)) (hm : n ≤ 4611686018427387904) (hs : Sees w B A (cellsU8 zs)) (hz : Hid (∀ z ∈ zs, 0 ≤ z ∧ z ≤ 255)) :
    Calls Tryd.prog 95 #[.slice A n c] w fun e w' => e = .returned (.int .u32 ((4294967295 - crcAll 4294967295 zs : Nat) : Int)) ∧ w = w' := by
  go_enter Tryd.func95, Tryd.ntmps95
  go_wp2
  go_loop [3, 8] (fun a k => ∃ (s : Nat) (j : Nat), s ≤ 4294967295 ∧ j ≤ n ∧ a = .int .u32 s ∧ k = .int .i64 j ∧ Hid (s = crcAll 4294967295 (zs.take j))) (fun _ k => n - (intOf k).toNat)
  case atStart => exact ⟨4294967295, 0, by omega, by omega, rfl, rfl, rfl⟩
  case round =>
    obtain ⟨s, j, hs', hj, rfl, rfl, hr⟩ := hrel
    by_cases hlt : j < n
    · obtain ⟨b, off, z, rfl, _, hc, z0, z1, hzk⟩ := byte_at (zs := zs) (k := j) hs (by have := hn.out; omega) hz.out
      have hx := xor_lt32 (s := s) (n := z.toNat) (by omega) (by omega)
      clear hs
      go_wp2_with fail
      rw [xor_u32 s z hs' z0 z1]
      refine (shift_any _ _ (by omega) (by omega)).mono ?_
      rintro e w' ⟨rfl, rfl⟩
      have hb := crcBits_lt (c := s ^^^ z.toNat) (by omega) 8
      have hR := hide (show crcBits 8 (s ^^^ z.toNat) = crcAll 4294967295 (zs.take (j + 1)) by rw [take_more hzk.out, crcAll_snoc, ← hr.out]; rfl)
      clear hr
      go_wp2
      go_round
      case rel => exact ⟨_, j + 1, by omega, by omega, rfl, by go_num, hR⟩
      case measure => simp [intOf]; omega
    · clear hs
      go_wp2
      all_goals first
        | (exfalso; revert ‹IntKind.u32.signed = true›; decide)
        | (go_ret
           obtain rfl : j = n := by omega
           have := hr.out
           rw [List.take_of_length_le (by have := hn.out; omega)] at this
           exact ⟨ret_int (by rw [not_u32 s hs', this]), rfl⟩)

set_option maxRecDepth 100000 in
set_option maxHeartbeats 800000 in
theorem refcrc_any (A : Option Addr) (n c : Nat) (zs : List Int) (B : Nat) (w : World) (hn : Hid (zs.length = n)) (hm : n ≤ 4611686018427387904) (hs : Sees w B A (cellsU8 zs)) (hz : Hid (∀ z ∈ zs, 0 ≤ z ∧ z ≤ 255)) :
    Calls Tryd.prog 72 #[.slice A n c] w fun e w' => e = .returned (.int .u32 ((4294967295 - crcAll 4294967295 zs : Nat) : Int)) ∧ w = w' := by
  go_enter Tryd.func72, Tryd.ntmps72
  go_wp2
  go_loop [3, 4] (fun a k => ∃ (s : Nat) (j : Nat), s ≤ 4294967295 ∧ j ≤ n ∧ a = .int .u32 s ∧ k = .int .i64 j ∧ Hid (s = crcAll 4294967295 (zs.take j))) (fun _ k => n - (intOf k).toNat)
  case atStart => exact ⟨4294967295, 0, by omega, by omega, rfl, rfl, rfl⟩
  case round =>
    obtain ⟨s, j, hs', hj, rfl, rfl, hr⟩ := hrel
    by_cases hlt : j < n
    · obtain ⟨b, off, z, rfl, _, hc, z0, z1, hzk⟩ := byte_at (zs := zs) (k := j) hs (by have := hn.out; omega) hz.out
      have hx := xor_lt32 (s := s) (n := z.toNat) (by omega) (by omega)
      have hxor := xor_u32 s z hs' z0 z1
      clear hs
      go_wp2
      obtain ⟨x, hx'⟩ : ∃ x, x = s ^^^ z.toNat := ⟨_, rfl⟩
      rw [← hx'] at hx ⊢
      have Hx := hide hx'
      have hb0 := hide (crcBits_lt (c := x) hx 8)
      clear hx' hxor
      go_loop [3, 5] (fun a k => ∃ (m : Nat) (i : Nat), m ≤ 4294967295 ∧ i ≤ 8 ∧ a = .int .u32 m ∧ k = .int .i64 i ∧ Hid (m = crcBits i x)) (fun _ k => 8 - (intOf k).toNat)
      case atStart => exact ⟨x, 0, by omega, by omega, rfl, rfl, rfl⟩
      case round =>
        obtain ⟨m, i, hm', hi, rfl, rfl, hri⟩ := hrel
        have hand : bits BinOp.and IntKind.u32 (m : Int) 1 = ((m % 2 : Nat) : Int) := by
          rw [show (1 : Int) = ((1 : Nat) : Int) from rfl, u32_and_nat m 1 (by omega) (by omega), Nat.and_one_is_mod]
        have Hand := hide hand
        clear hand
        by_cases hi8 : i < 8
        · have hb := crcBit_lt (c := m) (by omega)
          have hR := hide (show crcBit m = crcBits (i + 1) x by have h := hri.out; subst h; rfl)
          by_cases hodd : m % 2 = 1
          · have ht : (bits BinOp.and IntKind.u32 (m : Int) 1 == 1) = true := by rw [Hand.out, hodd]; rfl
            have ho : bits BinOp.xor IntKind.u32 ((m : Int) / 2) 3988292384 = ((crcBit m : Nat) : Int) := by
              rw [show (3988292384 : Int) = ((3988292384 : Nat) : Int) from rfl, show (m : Int) / 2 = ((m / 2 : Nat) : Int) by omega, u32_xor_nat _ _ (by omega) (by omega), crcBit_odd hodd]
            clear hodd
            go_wp2
            go_round
            case rel => exact ⟨crcBit m, i + 1, by omega, by omega, rfl, by go_num, hR⟩
            case measure => simp [intOf]; omega
          · have ht : (bits BinOp.and IntKind.u32 (m : Int) 1 == 1) = false := by rw [Hand.out]; simp; omega
            have hev := hide (crcBit_even (c := m) (by omega))
            clear hodd
            go_wp2
            go_round
            case rel => exact ⟨crcBit m, i + 1, by omega, by omega, by rw [hev.out]; simp, by go_num, hR⟩
            case measure => simp [intOf]; omega
        · obtain rfl : i = 8 := by omega
          have hR := hide (show m = crcAll 4294967295 (zs.take (j + 1)) by rw [take_more hzk.out, crcAll_snoc, ← hr.out, hri.out, Hx.out]; rfl)
          go_wp2
          go_round
          case rel => exact ⟨m, j + 1, by omega, by omega, rfl, by go_num, hR⟩
          case measure => simp [intOf]; omega
    · clear hs
      go_wp2
      all_goals first
        | (exfalso; revert ‹IntKind.u32.signed = true›; decide)
        | (go_ret
           obtain rfl : j = n := by omega
           have := hr.out
           rw [List.take_of_length_le (by have := hn.out; omega)] at this
           exact ⟨ret_int (by rw [not_u32 s hs', this]), rfl⟩)
end Go.Proofs.YtafegghdhdgioaaDoor
end

section
/-
  Rows of bytes of the call's own; the reference's PutCrc. Conditions: those of the types.
-/
namespace Go.Proofs.YtafegghdhdgioaaDoor
open Go.RowKit


theorem own_less {w : World} {base base' : Nat} {e : TypeId} {size n : Nat} {v : Value} {xs : List Value} (h : w.ownsRow base e size v n xs) (hb : base' ≤ base) : w.ownsRow base' e size v n xs := by
  refine ⟨h.1, ?_⟩
  rcases h.2 with h2 | ⟨g, cap, cur, hv, hg, r⟩
  · exact .inl h2
  · exact .inr ⟨g, cap, cur, hv, by omega, r⟩
theorem wrap_u64_in (n : Int) (h0 : 0 ≤ n) (h1 : n ≤ 18446744073709551615) : IntKind.u64.wrap n = n := by
  simp [IntKind.wrap, IntKind.bits, IntKind.signed]
  omega
theorem cellsU8_app (a b : List Int) : cellsU8 (a ++ b) = cellsU8 a ++ cellsU8 b := by simp [cellsU8]

set_option maxRecDepth 100000 in
set_option maxHeartbeats 1600000 in
/-- PutCrc of a row of the call's own. -/
theorem rputcrc_any (v : Value) (n : Nat) (zs : List Int) (base : Nat) (w : World) (ho : Hid (w.ownsRow base 5 1 v n (cellsU8 zs))) (hb : Hid (base ≤ w.heap.size)) (hm : n ≤ 1099511627776) (hz : Hid (Byt zs)) :
    Calls Tryd.prog 45 #[v] w fun e w' => ∃ r, e = .returned r ∧ w'.ownsRow base 5 1 r (n + 4) (cellsU8 (withY zs)) ∧ w.grownBy w' v.ownBlock := by
  obtain ⟨i0, hi, hz0, hz1, hz2⟩ := info_parts Tryd.info5
  obtain ⟨A, c, rfl, hA, hnc, hfar, hsee⟩ := own_seen ho.out
  have hl : Hid (zs.length = n) := hide (by have := own_len ho.out; simpa [cellsU8] using this)
  have ct := refcrc_any A n c zs w.heap.size w hl (by omega) hsee hz
  rw [show 4294967295 - crcAll 4294967295 zs = crcN zs from rfl] at ct
  have hlt := crcN_lt zs
  have EC := hide (show cellsU8 (withY zs) = cellsU8 zs ++ [.int .u8 ((crcN zs / 16777216 % 256 : Nat) : Int), .int .u8 ((crcN zs / 65536 % 256 : Nat) : Int), .int .u8 ((crcN zs / 256 % 256 : Nat) : Int), .int .u8 ((crcN zs % 256 : Nat) : Int)] by
    unfold withY crcI
    rw [cellsU8_app]
    rfl)
  generalize crcN zs = C at ct hlt EC
  have d0 : (C : Int) / 16777216 % 256 = ((C / 16777216 % 256 : Nat) : Int) := by omega
  have d1 : (C : Int) / 65536 % 256 = ((C / 65536 % 256 : Nat) : Int) := by omega
  have d2 : (C : Int) / 256 % 256 = ((C / 256 % 256 : Nat) : Int) := by omega
  have d3 : (C : Int) % 256 = ((C % 256 : Nat) : Int) := by omega
  have d0' : (C : Int) / 16777216 = ((C / 16777216 % 256 : Nat) : Int) := by omega
  obtain ⟨x0, hx0⟩ : ∃ x : Int, ((C / 16777216 % 256 : Nat) : Int) = x := ⟨_, rfl⟩
  obtain ⟨x1, hx1⟩ : ∃ x : Int, ((C / 65536 % 256 : Nat) : Int) = x := ⟨_, rfl⟩
  obtain ⟨x2, hx2⟩ : ∃ x : Int, ((C / 256 % 256 : Nat) : Int) = x := ⟨_, rfl⟩
  obtain ⟨x3, hx3⟩ : ∃ x : Int, ((C % 256 : Nat) : Int) = x := ⟨_, rfl⟩
  rw [hx0] at d0 d0' EC
  rw [hx1] at d1 EC
  rw [hx2] at d2 EC
  rw [hx3] at d3 EC
  clear hx0 hx1 hx2 hx3
  go_enter Tryd.func45, Tryd.ntmps45
  go_wp2_with fail
  refine ct.mono ?_
  rintro e w' ⟨rfl, rfl⟩
  clear ct hsee hfar
  go_wp2_with (at_builtin; refine wpList_append_own _ rfl (.tmp 6) (.tmp 18) 22 rfl base 5 i0 (.int .u8 0) 1 1 Tryd.underlying22 hi hz0 hz1 hz2 rfl (by decide) _ n (cellsU8 zs) rfl (ho.out.alloc _) ⟨w.heap.size, 0, none⟩ 4 4 [.int .u8 x0, .int .u8 x1, .int .u8 x2, .int .u8 x3] rfl rfl (fun j u hu => by rw [WideShapes.add_plain, Nat.zero_add]; exact (Row.new w 5 [.int .u8 x0, .int .u8 x1, .int .u8 x2, .int .u8 x3]).cell hu) (fun u hu => by simp at hu; rcases hu with rfl | rfl | rfl | rfl <;> rfl) (by unfold maxLen; omega) (by omega) (by have := hb.out; simp; omega) ?_)
  intro v' w1 ho1 hg1 _
  have HO := hide ho1
  have HG := hide ((World.grownBy_alloc w (.cells #[.int .u8 x0, .int .u8 x1, .int .u8 x2, .int .u8 x3] 5) (Value.ownBlock (.slice A n c))).trans hg1)
  clear ho1 hg1
  go_wp2
  go_ret
  exact ⟨_, rfl, by rw [EC.out]; exact HO.out, HG.out⟩

end Go.Proofs.YtafegghdhdgioaaDoor
end
