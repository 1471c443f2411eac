import Derived.Test.YtlkcjjalkdlicaaDoorMVmath
import Derived.Test.YtlkcjjalkdlicaaDoorMKit
import Derived.Test.YtlkcjjalkdlicaaDoorMPmath
set_option linter.unusedVariables false
set_option linter.unusedSimpArgs false
section
/-
  Plain mathematics of the bytes of values: the bytes of a number, the number of bytes, sizes of slots. No function of the program is named here.
-/
namespace Go.Proofs.YtlkcjjalkdlicaaDoor
open Go.RowKit

/-- The size, or 0 if it is none. -/
def szN (n : Int) : Nat := if szB n then n.toNat else 0
theorem szN_le (n : Int) : szN n ≤ 16 := by
  unfold szN szB
  split
  · rename_i h; have := of_decide_eq_true h; omega
  · omega
theorem szN_yes {n : Int} (h : szB n = true) : (szN n : Int) = n := by
  unfold szN; rw [if_pos h]; unfold szB at h; have := of_decide_eq_true h; omega
theorem szN_no {n : Int} (h : szB n = false) : szN n = 0 := by unfold szN; rw [h]; rfl

/-- Byte k of X; the lowest n bytes; the number of bytes. -/
def byteOf (X k : Nat) : Nat := X / 2 ^ (8 * k) % 256
theorem byteOf_lt (X k : Nat) : byteOf X k < 256 := by unfold byteOf; omega
def bytesV (X : Nat) : Nat → List Int
  | 0 => []
  | n + 1 => bytesV X n ++ [(byteOf X n : Int)]
theorem bytesV_length (X n : Nat) : (bytesV X n).length = n := by
  induction n with
  | zero => rfl
  | succ n ih => simp [bytesV, ih]
theorem bytesV_mem (X n : Nat) : ∀ z ∈ bytesV X n, 0 ≤ z ∧ z ≤ 255 := by
  induction n with
  | zero => intro z h; cases h
  | succ n ih =>
    intro z h
    simp only [bytesV, List.mem_append, List.mem_singleton] at h
    rcases h with h | rfl
    · exact ih z h
    · have := byteOf_lt X n; omega

def valOf : List Int → Nat
  | [] => 0
  | z :: zs => z.toNat + 256 * valOf zs
theorem valOf_snoc (zs : List Int) (z : Int) : valOf (zs ++ [z]) = valOf zs + z.toNat * 2 ^ (8 * zs.length) := by
  induction zs with
  | nil => simp [valOf]
  | cons y ys ih =>
    simp only [List.cons_append, valOf, ih, List.length_cons]
    rw [show 8 * (ys.length + 1) = 8 * ys.length + 8 by omega, Nat.pow_add, Nat.mul_add, show (2 : Nat) ^ 8 = 256 by decide]
    rw [show 256 * (z.toNat * 2 ^ (8 * ys.length)) = z.toNat * (2 ^ (8 * ys.length) * 256) by rw [Nat.mul_comm 256, Nat.mul_assoc]]
    omega
theorem valOf_lt (zs : List Int) (h : ∀ z ∈ zs, 0 ≤ z ∧ z ≤ 255) : valOf zs < 2 ^ (8 * zs.length) := by
  induction zs with
  | nil => simp [valOf]
  | cons y ys ih =>
    have h1 := ih fun z hz => h z (List.mem_cons_of_mem _ hz)
    have h2 := h y List.mem_cons_self
    simp only [valOf, List.length_cons]
    rw [show 8 * (ys.length + 1) = 8 * ys.length + 8 by omega, Nat.pow_add, show (2 : Nat) ^ 8 = 256 by decide]
    omega
theorem valOf_bytesV (X n : Nat) : valOf (bytesV X n) = X % 2 ^ (8 * n) := by
  induction n with
  | zero => simp [bytesV, valOf, Nat.mod_one]
  | succ n ih =>
    rw [bytesV, valOf_snoc, ih, bytesV_length, show 8 * (n + 1) = 8 * n + 8 by omega, Nat.pow_add, Nat.mod_mul, show (2 : Nat) ^ 8 = 256 by decide, Int.toNat_natCast, Nat.mul_comm (byteOf X n)]
    rfl
theorem pow8_le {n : Nat} (h : n ≤ 16) : 2 ^ (8 * n) ≤ two128 := by
  rw [two128_eq]; exact Nat.pow_le_pow_right (by omega) (by omega)
theorem valOf_128 (zs : List Int) (h : ∀ z ∈ zs, 0 ≤ z ∧ z ≤ 255) (hl : zs.length ≤ 16) : valOf zs < two128 :=
  Nat.lt_of_lt_of_le (valOf_lt zs h) (pow8_le hl)
theorem trunc_lt (X n : Nat) (hn : n ≤ 16) : X % 2 ^ (8 * n) < two128 := Nat.lt_of_lt_of_le (Nat.mod_lt _ (Nat.two_pow_pos _)) (pow8_le hn)
theorem trunc_16 (X : Nat) (hX : X < two128) : X % 2 ^ (8 * 16) = X := Nat.mod_eq_of_lt (by rw [← show two128 = 2 ^ (8 * 16) by decide]; exact hX)

theorem mod_mod_pow (X a b : Nat) (h : a ≤ b) : X % 2 ^ b % 2 ^ a = X % 2 ^ a := Nat.mod_mod_of_dvd _ (Nat.pow_dvd_pow 2 h)
theorem byte_lo (X k : Nat) (hk : k < 8) : lo X / 2 ^ (8 * k) % 256 = (byteOf X k : Int) := by
  unfold lo byteOf
  rw [pow_cast, ← Int.natCast_ediv]
  have e : X % 18446744073709551616 / 2 ^ (8 * k) % 256 = X / 2 ^ (8 * k) % 256 := by
    rw [show (18446744073709551616 : Nat) = 2 ^ (8 * k) * 2 ^ (64 - 8 * k) by rw [← Nat.pow_add, show 8 * k + (64 - 8 * k) = 64 by omega], Nat.mod_mul_right_div_self, show (256 : Nat) = 2 ^ 8 by decide, mod_mod_pow _ _ _ (by omega)]
  rw [← e]
  generalize X % 18446744073709551616 / 2 ^ (8 * k) = q
  omega
theorem byte_hi (X k : Nat) (hX : X < two128) (hk : 8 ≤ k) : hi X / 2 ^ (8 * (k - 8)) % 256 = (byteOf X k : Int) := by
  unfold hi byteOf
  have e := hi_div X (8 * k) hX (by omega)
  rw [show 8 * k - 64 = 8 * (k - 8) by omega] at e
  rw [pow_cast, ← Int.natCast_ediv, e]
  generalize X / 2 ^ (8 * k) = q
  omega

/-- One byte more, in the low word. -/
theorem put_lo (V : Nat) (z : Int) (k : Nat) (hk : k < 8) (hV : V < 2 ^ (8 * k)) (z0 : 0 ≤ z) (z1 : z ≤ 255) :
    bits .or .u64 (lo V) (IntKind.u64.wrap (z * 2 ^ (8 * k))) = lo (V + z.toNat * 2 ^ (8 * k)) ∧ hi V = hi (V + z.toNat * 2 ^ (8 * k)) := by
  obtain ⟨c, rfl⟩ := Int.eq_ofNat_of_zero_le z0
  have hp : 2 ^ (8 * k) * 256 ≤ 18446744073709551616 := by
    rw [show (18446744073709551616 : Nat) = 2 ^ 64 by decide, show (256 : Nat) = 2 ^ 8 by decide, ← Nat.pow_add]
    exact Nat.pow_le_pow_right (by omega) (by omega)
  have hm : c * 2 ^ (8 * k) ≤ 255 * 2 ^ (8 * k) := Nat.mul_le_mul_right _ (by omega)
  have hor := Nat.two_pow_add_eq_or_of_lt hV c
  rw [Nat.mul_comm] at hor
  rw [pow_cast, ← Int.natCast_mul, IntKind.wrap_u64, Int.toNat_natCast]
  have e1 : ((c * 2 ^ (8 * k) : Nat) : Int) % 18446744073709551616 = ((c * 2 ^ (8 * k) : Nat) : Int) := by omega
  rw [e1]
  generalize c * 2 ^ (8 * k) = s at *
  generalize 2 ^ (8 * k) = p at *
  unfold lo hi
  rw [u64_or_nat _ _ (by omega) (by omega), show V % 18446744073709551616 = V by omega, Nat.or_comm, ← hor]
  constructor <;> omega
/-- One byte more, in the high word. -/
theorem put_hi (V : Nat) (z : Int) (k : Nat) (hk : 8 ≤ k) (hk2 : k < 16) (hV : V < 2 ^ (8 * k)) (z0 : 0 ≤ z) (z1 : z ≤ 255) :
    bits .or .u64 (hi V) (IntKind.u64.wrap (z * 2 ^ (8 * (k - 8)))) = hi (V + z.toNat * 2 ^ (8 * k)) ∧ lo V = lo (V + z.toNat * 2 ^ (8 * k)) := by
  obtain ⟨c, rfl⟩ := Int.eq_ofNat_of_zero_le z0
  obtain ⟨j, rfl⟩ : ∃ j, k = j + 8 := ⟨k - 8, by omega⟩
  have e8 : 2 ^ (8 * (j + 8)) = 18446744073709551616 * 2 ^ (8 * j) := by
    rw [show (18446744073709551616 : Nat) = 2 ^ 64 by decide, ← Nat.pow_add]; congr 1; omega
  have hp : 2 ^ (8 * j) * 256 ≤ 18446744073709551616 := by
    rw [show (18446744073709551616 : Nat) = 2 ^ 64 by decide, show (256 : Nat) = 2 ^ 8 by decide, ← Nat.pow_add]
    exact Nat.pow_le_pow_right (by omega) (by omega)
  have hm : c * 2 ^ (8 * j) ≤ 255 * 2 ^ (8 * j) := Nat.mul_le_mul_right _ (by omega)
  rw [e8] at hV ⊢
  have hV' : V / 18446744073709551616 < 2 ^ (8 * j) := by omega
  have hor := Nat.two_pow_add_eq_or_of_lt hV' c
  rw [Nat.mul_comm] at hor
  rw [show j + 8 - 8 = j by omega, pow_cast, ← Int.natCast_mul, IntKind.wrap_u64, Int.toNat_natCast, show c * (18446744073709551616 * 2 ^ (8 * j)) = 18446744073709551616 * (c * 2 ^ (8 * j)) by rw [Nat.mul_left_comm]]
  have e1 : ((c * 2 ^ (8 * j) : Nat) : Int) % 18446744073709551616 = ((c * 2 ^ (8 * j) : Nat) : Int) := by omega
  rw [e1]
  generalize c * 2 ^ (8 * j) = s at *
  generalize 2 ^ (8 * j) = p at *
  unfold lo hi
  rw [u64_or_nat _ _ (by omega) (by omega), show V / 18446744073709551616 % 18446744073709551616 = V / 18446744073709551616 by omega, Nat.or_comm, ← hor]
  constructor <;> omega

/-- The number of the first k bytes, at most 16. -/
theorem valOf_take (zs : List Int) (k : Nat) (z : Int) (h : zs[k]? = some z) : valOf (zs.take (k + 1)) = valOf (zs.take k) + z.toNat * 2 ^ (8 * k) := by
  have hk : k < zs.length := by
    rcases Nat.lt_or_ge k zs.length with h1 | h1
    · exact h1
    · rw [List.getElem?_eq_none h1] at h; simp at h
  rw [take_more h, valOf_snoc, List.length_take, Nat.min_eq_left (by omega)]
theorem valOf_take_lt (zs : List Int) (k : Nat) (hk : k ≤ zs.length) (h : ∀ z ∈ zs, 0 ≤ z ∧ z ≤ 255) : valOf (zs.take k) < 2 ^ (8 * k) := by
  have := valOf_lt (zs.take k) fun z hz => h z (List.mem_of_mem_take hz)
  rwa [List.length_take, Nat.min_eq_left hk] at this

/-- The mask of the lowest bytes. -/
theorem mask_lo (X m : Nat) (hm : m ≤ 64) (M : Int) (hM : M = ((2 ^ m - 1 : Nat) : Int)) : bits .and .u64 (lo X) M = lo (X % 2 ^ m) ∧ hi (X % 2 ^ m) = 0 := by
  have hp : 2 ^ m ≤ 18446744073709551616 := by
    rw [show (18446744073709551616 : Nat) = 2 ^ 64 by decide]; exact Nat.pow_le_pow_right (by omega) hm
  have hlt := Nat.mod_lt X (Nat.two_pow_pos m)
  have hpos := Nat.two_pow_pos m
  have e2 : X % 18446744073709551616 % 2 ^ m = X % 2 ^ m := by rw [show (18446744073709551616 : Nat) = 2 ^ 64 by decide]; exact mod_mod_pow X m 64 hm
  subst hM
  unfold lo hi
  rw [u64_and_nat _ _ (by omega) (by omega), Nat.and_two_pow_sub_one_eq_mod, e2]
  generalize X % 2 ^ m = q at *
  generalize 2 ^ m = p at *
  constructor <;> omega
end Go.Proofs.YtlkcjjalkdlicaaDoor
end

section
/-
  Plain mathematics of truncation, pairs and high words. No function of the program is named here.
-/
namespace Go.Proofs.YtlkcjjalkdlicaaDoor
open Go.RowKit

/-- The low words of two numbers; the high word of a number. -/
def pairV (X Y : Nat) : Nat := X % 18446744073709551616 + 18446744073709551616 * (Y % 18446744073709551616)
def highV (X : Nat) : Nat := X / 18446744073709551616 % 18446744073709551616
theorem pair_lo (X Y : Nat) : lo X = lo (pairV X Y) := by unfold lo pairV; omega
theorem pair_hi (X Y : Nat) : lo Y = hi (pairV X Y) := by unfold lo hi pairV; omega
theorem high_lo (X : Nat) : hi X = lo (highV X) := by unfold lo hi highV; omega
theorem high_hi (X : Nat) : hi (highV X) = 0 := by unfold hi highV; omega
theorem pair_high (X : Nat) (hX : X < two128) : pairV X (highV X) = X := by unfold pairV highV; unfold two128 at hX; omega

/-- The lowest bytes of a number. -/
def truncV (X : Nat) (n : Int) : Nat := X % 2 ^ (8 * szN n)
theorem truncV_lt (X : Nat) (n : Int) : truncV X n < two128 := trunc_lt X _ (szN_le n)
end Go.Proofs.YtlkcjjalkdlicaaDoor
end

section
/-
  The mathematics of a run of a source program (chapter 8): states, steps, runs with so much fuel; what more fuel changes. Nothing here names the program.
-/
namespace Go.Proofs.YtlkcjjalkdlicaaDoor
open Go.RowKit

/-- Values by number; none of the others is defined. -/
abbrev Cl := Int → Option Nat
def updC (m : Cl) (i : Int) (v : Nat) : Cl := fun j => if j = i then some v else m j
def noC : Cl := fun _ => none
/-- An activation: its function, its next instruction, its slots, its outgoing arguments. -/
structure Acn where
  f : Nat
  pc : Nat
  sl : Cl
  ar : Cl
/-- A machine: the last activation is the one that runs. -/
structure Mch where
  regs : List Nat
  inp : List Nat
  kind : Int
  code : Int
  res : Nat
  trace : List Nat
  steps : Nat
  ended : Bool
  st : List Acn
  depth : Nat

def Mch.top (s : Mch) : Acn := s.st.getLastD ⟨0, 0, noC, noC⟩
def Mch.reg (s : Mch) (i : Int) : Nat := s.regs.getD i.toNat 0
def Mch.setR (s : Mch) (i : Int) (v : Nat) : Mch := { s with regs := s.regs.set i.toNat v }
def Mch.stop (s : Mch) (k : Int) : Mch := { s with kind := k, ended := true }
def Mch.setTop (s : Mch) (a : Acn) : Mch := { s with st := s.st.dropLast ++ [a] }
def Mch.enter (s : Mch) (f : Nat) : Mch := { s with st := s.st ++ [⟨f, 0, noC, noC⟩], depth := max s.depth (s.st.length + 1) }
/-- The last activation is gone; if it was the only one the run has ended. -/
def Mch.leave (s : Mch) : Mch :=
  let t : Mch := { s with st := s.st.dropLast }
  if s.st.length ≤ 1 then ({ t with res := s.reg 0 } : Mch).stop 0 else t
/-- Add to Equal. -/
def Mch.applyM (s : Mch) (x : Ins) : Mch := if opOk x.op (s.reg x.c) then s.setR x.a (opRes x.op (s.reg x.b) (s.reg x.c)) else s.stop 2
def Mch.computeM (s : Mch) (x : Ins) : Mch :=
  if x.op = 0 then s.setR x.a x.imm.toNat
  else if x.op = 1 then s.setR x.a (s.reg x.b)
  else if x.op = 11 then s.setR x.a (pairV (s.reg x.b) (s.reg x.c))
  else if x.op = 12 then s.setR x.a (highV (s.reg x.b))
  else if x.op = 13 then ({ s with inp := s.inp.tail } : Mch).setR x.a (s.inp.headD 0)
  else if x.op = 14 then { s with trace := s.trace ++ [s.reg x.a] }
  else s.applyM x
/-- A value that is read: without one the run ends. -/
def Mch.read (s : Mch) (o : Option Nat) : Mch := if o = none then s.stop 3 else s
def Mch.caller (s : Mch) : Acn := s.st.getD (s.st.length - 2) ⟨0, 0, noC, noC⟩
def slotSz (F : Pg) (f : Nat) (k : Int) : Int := sizeAt (F.getD f ⟨0, [], []⟩).slots k
def Mch.accessM (F : Pg) (s : Mch) (x : Ins) : Mch :=
  if x.op = 15 then (s.read (s.top.sl x.b)).setR x.a ((s.top.sl x.b).getD 0)
  else if x.op = 16 then s.setTop { s.top with sl := updC s.top.sl x.a (truncV (s.reg x.b) (slotSz F s.top.f x.a)) }
  else if x.op = 17 then (s.read (s.top.sl x.b)).setTop { s.top with sl := updC s.top.sl x.a ((s.top.sl x.b).getD 0) }
  else if x.op = 18 then s.setTop { s.top with ar := updC s.top.ar x.a (s.reg x.b) }
  else (s.read (s.caller.ar x.b)).setR x.a ((s.caller.ar x.b).getD 0)
def Mch.jump (s : Mch) (n : Nat) : Mch := s.setTop { s.top with pc := n }
def Mch.transferM (s : Mch) (x : Ins) : Mch :=
  if x.op = 20 then s.jump x.a.toNat
  else if x.op = 21 then (if s.reg x.a % 18446744073709551616 = 0 then s else s.jump x.b.toNat)
  else if x.op = 22 then s.enter x.a.toNat
  else if x.op = 23 then s.leave
  else ({ s with code := x.imm } : Mch).stop 1
/-- The next instruction. -/
def insAt (F : Pg) (f pc : Nat) : Ins := (F.getD f ⟨0, [], []⟩).code.getD pc ⟨24, 0, 0, 0, 0⟩
def Mch.next (F : Pg) (s : Mch) : Ins := insAt F s.top.f s.top.pc
/-- The machine behind the instruction's fetch. -/
def Mch.fetched (s : Mch) : Mch := ({ s with steps := s.steps + 1 } : Mch).jump (s.top.pc + 1)
def Mch.exec (F : Pg) (s : Mch) (x : Ins) : Mch :=
  if 15 ≤ x.op ∧ x.op ≤ 19 then s.accessM F x else if 20 ≤ x.op ∧ x.op ≤ 24 then s.transferM x else s.computeM x
def Mch.stepM (F : Pg) (s : Mch) : Mch := s.fetched.exec F (s.next F)
/-- k steps, or fewer if the run ends before. -/
def iterM (F : Pg) : Nat → Mch → Mch
  | 0, s => s
  | k + 1, s => if s.ended then s else iterM F k (s.stepM F)
def startM (inp : List Nat) : Mch := ⟨List.replicate 8 0, inp, 0, 0, 0, [], 0, false, [⟨0, 0, noC, noC⟩], 1⟩
/-- A run with so much fuel. -/
def Mch.fuelled (s : Mch) : Mch := if s.ended then s else s.stop 4
def runM (F : Pg) (inp : List Nat) (fuel : Nat) : Mch := (iterM F fuel (startM inp)).fuelled

section
variable {F : Pg} {s : Mch}
theorem iterM_ended (h : s.ended = true) : ∀ k, iterM F k s = s
  | 0 => rfl
  | k + 1 => by rw [iterM, if_pos h]
theorem iterM_add (n : Nat) : ∀ (m : Nat) (s : Mch), iterM F (n + m) s = iterM F m (iterM F n s) := by
  induction n with
  | zero => intro m s; rw [Nat.zero_add]; rfl
  | succ n ih =>
    intro m s
    rw [show n + 1 + m = (n + m) + 1 by omega, iterM, iterM]
    by_cases h : s.ended = true
    · rw [if_pos h, if_pos h, iterM_ended h]
    · rw [if_neg h, if_neg h, ih]
theorem iterM_succ (k : Nat) (s : Mch) : iterM F (k + 1) s = if (iterM F k s).ended then iterM F k s else (iterM F k s).stepM F := by
  rw [iterM_add k 1 s, iterM]
  rfl
/-- What a step leaves of output and steps. -/
structure Moved (s t : Mch) : Prop where
  steps : t.steps = s.steps + 1
  trace : ∃ l, t.trace = s.trace ++ l
  kind : t.ended = true → 0 ≤ t.kind ∧ t.kind ≤ 3
theorem Moved.of {t : Mch} (h1 : t.steps = s.steps + 1) (h2 : t.trace = s.trace) (h3 : t.ended = true → 0 ≤ t.kind ∧ t.kind ≤ 3) : Moved s t := ⟨h1, ⟨[], by rw [h2, List.append_nil]⟩, h3⟩
theorem read_steps (s : Mch) (o : Option Nat) : (s.read o).steps = s.steps ∧ (s.read o).trace = s.trace ∧ (s.read o).depth = s.depth ∧ (s.read o).st = s.st ∧ (s.read o).regs = s.regs ∧ (s.read o).inp = s.inp := by
  unfold Mch.read; split <;> exact ⟨rfl, rfl, rfl, rfl, rfl, rfl⟩
theorem read_kind (s : Mch) (o : Option Nat) (h : s.ended = false) : (s.read o).ended = true → 0 ≤ (s.read o).kind ∧ (s.read o).kind ≤ 3 := by
  unfold Mch.read
  split
  · intro _; exact ⟨show (0 : Int) ≤ 3 by decide, show (3 : Int) ≤ 3 by decide⟩
  · intro h2; rw [h] at h2; cases h2
theorem step_moved (h : s.ended = false) : Moved s (s.stepM F) := by
  have hf : ∀ x : Mch, x.ended = false → x.ended = true → 0 ≤ x.kind ∧ x.kind ≤ 3 := fun x h1 h2 => by rw [h1] at h2; cases h2
  have k3 : (0 : Int) ≤ 3 ∧ (3 : Int) ≤ 3 := ⟨by decide, by decide⟩
  have hfe : s.fetched.ended = false := h
  unfold Mch.stepM Mch.exec
  generalize s.next F = x
  split
  · unfold Mch.accessM
    split
    · obtain ⟨r1, r2, _⟩ := read_steps s.fetched (s.fetched.top.sl x.b)
      exact Moved.of r1 r2 (read_kind _ _ hfe)
    · split
      · exact Moved.of rfl rfl (hf _ h)
      · split
        · obtain ⟨r1, r2, _⟩ := read_steps s.fetched (s.fetched.top.sl x.b)
          exact Moved.of r1 r2 (read_kind _ _ hfe)
        · split
          · exact Moved.of rfl rfl (hf _ h)
          · obtain ⟨r1, r2, _⟩ := read_steps s.fetched (s.fetched.caller.ar x.b)
            exact Moved.of r1 r2 (read_kind _ _ hfe)
  · split
    · unfold Mch.transferM
      split
      · exact Moved.of rfl rfl (hf _ h)
      · split
        · split
          · exact Moved.of rfl rfl (hf _ h)
          · exact Moved.of rfl rfl (hf _ h)
        · split
          · exact Moved.of rfl rfl (hf _ h)
          · split
            · unfold Mch.leave
              dsimp only
              split
              · exact Moved.of rfl rfl (fun _ => ⟨show (0 : Int) ≤ 0 by decide, show (0 : Int) ≤ 3 by decide⟩)
              · exact Moved.of rfl rfl (hf _ h)
            · exact Moved.of rfl rfl (fun _ => ⟨show (0 : Int) ≤ 1 by decide, show (1 : Int) ≤ 3 by decide⟩)
    · unfold Mch.computeM
      split
      · exact Moved.of rfl rfl (hf _ h)
      · split
        · exact Moved.of rfl rfl (hf _ h)
        · split
          · exact Moved.of rfl rfl (hf _ h)
          · split
            · exact Moved.of rfl rfl (hf _ h)
            · split
              · exact Moved.of rfl rfl (hf _ h)
              · split
                · exact ⟨rfl, ⟨_, rfl⟩, hf _ h⟩
                · unfold Mch.applyM
                  split
                  · exact Moved.of rfl rfl (hf _ h)
                  · exact Moved.of rfl rfl (fun _ => ⟨show (0 : Int) ≤ 2 by decide, show (2 : Int) ≤ 3 by decide⟩)
/-- What k steps leave. -/
structure Went (k : Nat) (s t : Mch) : Prop where
  most : t.steps ≤ s.steps + k
  least : s.steps ≤ t.steps
  all : t.ended = false → t.steps = s.steps + k
  trace : ∃ l, t.trace = s.trace ++ l
  kind : t.ended = true → 0 ≤ t.kind ∧ t.kind ≤ 3
theorem iter_went : ∀ (k : Nat) (s : Mch), (s.ended = true → 0 ≤ s.kind ∧ s.kind ≤ 3) → Went k s (iterM F k s)
  | 0, s, h => ⟨Nat.le_refl _, Nat.le_refl _, fun _ => rfl, ⟨[], by rw [List.append_nil]; rfl⟩, h⟩
  | k + 1, s, h => by
    rw [iterM]
    by_cases he : s.ended = true
    · rw [if_pos he]
      exact ⟨by omega, Nat.le_refl _, (fun h2 => by rw [he] at h2; cases h2), ⟨[], by rw [List.append_nil]⟩, h⟩
    · rw [if_neg he]
      have he' : s.ended = false := by simpa using he
      have hm := step_moved (F := F) he'
      have hw := iter_went k (s.stepM F) hm.kind
      have h1 := hm.steps
      obtain ⟨l1, hl1⟩ := hm.trace
      obtain ⟨l2, hl2⟩ := hw.trace
      exact ⟨by have := hw.most; omega, by have := hw.least; omega, fun h2 => by have := hw.all h2; omega, ⟨l1 ++ l2, by rw [hl2, hl1, List.append_assoc]⟩, hw.kind⟩
theorem run_went (F : Pg) (inp : List Nat) (n : Nat) : Went n (startM inp) (iterM F n (startM inp)) := iter_went n _ (fun h => by cases h)
theorem fuelled_ended (s : Mch) : s.fuelled.ended = true := by
  unfold Mch.fuelled; split
  · assumption
  · rfl
theorem fuelled_same (s : Mch) : s.fuelled.steps = s.steps ∧ s.fuelled.trace = s.trace := by
  unfold Mch.fuelled; split <;> exact ⟨rfl, rfl⟩
theorem fuelled_kind {s : Mch} (h : s.ended = true → 0 ≤ s.kind ∧ s.kind ≤ 3) : s.fuelled.kind = 4 ↔ s.ended = false := by
  unfold Mch.fuelled
  by_cases he : s.ended = true
  · rw [if_pos he]
    have := h he
    exact ⟨fun e => by omega, fun e => by rw [he] at e; cases e⟩
  · rw [if_neg he]
    exact ⟨fun _ => by simpa using he, fun _ => rfl⟩
/-- More fuel: a run that has ended by itself stays; another one's trace grows. -/
theorem more_fuel (F : Pg) (inp : List Nat) (n m : Nat) : (runM F inp n).kind ≠ 4 → runM F inp (n + m) = runM F inp n := fun h => by
  have hw := run_went F inp n
  have he : (iterM F n (startM inp)).ended = true := by
    cases e : (iterM F n (startM inp)).ended with
    | true => rfl
    | false => exact absurd ((fuelled_kind hw.kind).2 e) h
  unfold runM
  rw [iterM_add, iterM_ended he]
theorem run_most (F : Pg) (inp : List Nat) (n : Nat) : (runM F inp n).steps ≤ n := by
  have hw := run_went F inp n
  have := hw.most
  have h0 : (startM inp).steps = 0 := rfl
  unfold runM
  rw [(fuelled_same _).1]
  omega
theorem run_fuel {inp : List Nat} {n : Nat} (h : (runM F inp n).kind = 4) : (runM F inp n).steps = n ∧ (iterM F n (startM inp)).ended = false := by
  have hw := run_went F inp n
  have he := (fuelled_kind hw.kind).1 h
  have := hw.all he
  have h0 : (startM inp).steps = 0 := rfl
  unfold runM
  rw [(fuelled_same _).1]
  exact ⟨by omega, he⟩
theorem more_trace (F : Pg) (inp : List Nat) (n m : Nat) : ∃ l, (runM F inp (n + m)).trace = (runM F inp n).trace ++ l := by
  have hw := run_went F inp n
  have h2 := iter_went (F := F) m (iterM F n (startM inp)) hw.kind
  unfold runM
  rw [(fuelled_same _).2, (fuelled_same _).2, iterM_add]
  exact h2.trace
theorem more_steps (F : Pg) (inp : List Nat) (n m : Nat) : (runM F inp n).steps ≤ (runM F inp (n + m)).steps := by
  have hw := run_went F inp n
  have h2 := iter_went (F := F) m (iterM F n (startM inp)) hw.kind
  unfold runM
  rw [(fuelled_same _).1, (fuelled_same _).1, iterM_add]
  exact h2.least
/-- A run that ends with n + 1 units, but not with n, takes n + 1 steps. -/
theorem one_more {inp : List Nat} {n : Nat} (h : (runM F inp n).kind = 4) (h2 : (runM F inp (n + 1)).kind ≠ 4) : (runM F inp (n + 1)).steps = n + 1 := by
  obtain ⟨h3, h4⟩ := run_fuel h
  have hm := step_moved (F := F) h4
  have hw := run_went F inp n
  have h5 := hw.all h4
  have h0 : (startM inp).steps = 0 := rfl
  unfold runM
  rw [(fuelled_same _).1, iterM_succ, if_neg (by rw [h4]; decide), hm.steps]
  omega
theorem run_zero (F : Pg) (inp : List Nat) : (runM F inp 0).kind = 4 ∧ (runM F inp 0).steps = 0 := ⟨rfl, rfl⟩
end
end Go.Proofs.YtlkcjjalkdlicaaDoor
end
