import Derived.Test.YtlcmcmocjbeocaaGreatDoorMJmath
import Derived.Test.YtlcmcmocjbeocaaGreatDoorMMref
import Derived.Test.YtlcmcmocjbeocaaGreatDoorMBitsm
import Derived.Test.YtlcmcmocjbeocaaGreatDoorMPmem
import Derived.Maps.Range
set_option linter.unusedVariables false
set_option linter.unusedSimpArgs false
section
/-
  What a loop of reading keeps (split out of Qlop). No function of the program is named here.
-/
namespace Go.Proofs.YtlcmcmocjbeocaaGreatDoor
open Go.RowKit

/-- From a step's outcome on: its value, and the state behind it. -/
theorem Rd.and_to {α β : Type} (d : α) (m : Rd α) (k : α → List Int → Rd β) : m.and k = m.st.to (k (m.val d)) := by
  cases m with
  | no e => rfl
  | ok a r => rfl
/-- What a loop of n rounds that began at S0 keeps: k rounds are left, at S, with these read. -/
def LoopI {α : Type} (p : List Int → Rd α) (S0 : Rd Unit) (n : Nat) (S : Rd Unit) (k : Nat) (l : List α) : Prop :=
  ∀ (β : Type) (K : List α → List Int → Rd β), (S0.to (timesR p n)).and K = (S.to (timesR p k)).and fun bs => K (l ++ bs)
theorem LoopI.start {α : Type} (p : List Int → Rd α) (S0 : Rd Unit) (n : Nat) : LoopI p S0 n S0 n [] := fun β K => rfl
theorem LoopI.step {α : Type} {p : List Int → Rd α} {S0 : Rd Unit} {n k : Nat} {t : List Int} {l : List α} {a : α} (h : LoopI p S0 n (.ok () t) (k + 1) l) (ha : ∀ s r, (Rd.ok () t).to p = .ok s r → a = s) : LoopI p S0 n ((Rd.ok () t).to p).st k (l ++ [a]) := fun β K => by
  rw [h β K]
  show ((p t).and fun a r => (timesR p k r).and fun xs r => .ok (a :: xs) r).and _ = _
  cases hp : p t with
  | no e =>
    rw [show (Rd.ok () t : Rd Unit).to p = .no e from hp]
    rfl
  | ok b r =>
    obtain rfl := ha b r hp
    rw [show (Rd.ok () t : Rd Unit).to p = .ok a r from hp]
    show ((timesR p k r).and fun xs r => .ok (a :: xs) r).and _ = (timesR p k r).and _
    cases timesR p k r with
    | no e => rfl
    | ok bs r2 => show K (l ++ a :: bs) r2 = K (l ++ [a] ++ bs) r2; simp
theorem LoopI.done {α : Type} {p : List Int → Rd α} {S0 S : Rd Unit} {n : Nat} {l : List α} (h : LoopI p S0 n S 0 l) (β : Type) (K : List α → List Int → Rd β) : (S0.to (timesR p n)).and K = S.to (K l) := by
  rw [h β K]
  cases S with
  | no e => rfl
  | ok u t => show K (l ++ []) t = K l t; simp
theorem LoopI.broke {α : Type} {p : List Int → Rd α} {S0 : Rd Unit} {n k : Nat} {x : Int} {l : List α} (h : LoopI p S0 n (.no x) k l) (β : Type) (K : List α → List Int → Rd β) : (S0.to (timesR p n)).and K = (Rd.no x : Rd Unit).to (K l) := h β K
end Go.Proofs.YtlcmcmocjbeocaaGreatDoor
end

section
/-
  How chapter 11's reference reads a target's bytes (its own shapes of operands: an operation that the machine has not is read as chapter 5 reads it); that this reading inverts writing. No function of the program is named here.
-/
namespace Go.Proofs.YtlcmcmocjbeocaaGreatDoor
open Go.RowKit

def qA (o : Int) : Bool := memB o || useA o
def qB (o : Int) : Bool := memB o || useB o
def qC (o : Int) : Bool := memB o || useC o
def qI (o : Int) : Bool := !memB o && useI o
theorem q_mach {o : Int} (h0 : 0 ≤ o) (h1 : o < 25) (hx : exB o = true) : qA o = mA o ∧ qB o = mB o ∧ qC o = mC o ∧ qI o = mI o := by
  have e : ∀ k : Fin 25, exB (k.val : Int) = true → qA (k.val : Int) = mA (k.val : Int) ∧ qB (k.val : Int) = mB (k.val : Int) ∧ qC (k.val : Int) = mC (k.val : Int) ∧ qI (k.val : Int) = mI (k.val : Int) := by decide
  have := e ⟨o.toNat, by omega⟩
  simp only at this
  rw [Int.toNat_of_nonneg h0] at this
  exact this hx
def minsQ (l : List Int) : Rd Ins := match l with
  | [] => .no 2
  | z :: r => if 25 ≤ z then .no 2 else opsJ (qA z) (qB z) (qC z) (qI z) z r
def frQ (Al : Int) (l : List Int) : Rd Fm := (limR 8 l).and fun P r => (limR 2147483647 r).and fun q r => (limR 1024 r).and fun n r => (timesR minsQ n r).and fun C r => .ok ⟨P, q * Al, C⟩ r
def tgQ (l : List Int) : Rd (Int × Int × Tg) := (limR 24 l).and fun k r => (limR 2147483647 r).and fun b r => (limR 80 r).and fun n r => (timesR (frQ ((2 : Int) ^ k)) n r).and fun F r => .ok ((2 : Int) ^ k, (b : Int), F) r
theorem minsQ_minsY {x : Ins} (h : MInsW x) (hx : exB x.op = true) (r : List Int) : minsQ (minsY x ++ r) = .ok x r := by
  obtain ⟨o, a, b, c, m⟩ := x
  have ho := h.o
  simp only at ho hx
  have h0 : ¬ (25 ≤ o) := by omega
  obtain ⟨e1, e2, e3, e4⟩ := q_mach ho.1 ho.2 hx
  rw [show minsY ⟨o, a, b, c, m⟩ ++ r = o :: (opsY (mA o) (mB o) (mC o) (mI o) ⟨o, a, b, c, m⟩ ++ r) from rfl]
  unfold minsQ
  simp only
  rw [if_neg h0, e1, e2, e3, e4]
  unfold opsJ opsY
  simp only [List.append_assoc]
  rw [optJ_num h.a.1 h.a.2 h.ua, Rd.and_ok, optJ_num h.b.1 h.b.2 h.ub, Rd.and_ok, optJ_num h.c.1 h.c.2 h.uc, Rd.and_ok, optR_word h.m.1 h.m.2 h.ui, Rd.and_ok]
  rw [Int.toNat_of_nonneg h.a.1, Int.toNat_of_nonneg h.b.1, Int.toNat_of_nonneg h.c.1, Int.toNat_of_nonneg h.m.1]
theorem frQ_frY {k : Nat} {f : Fm} (h : FmW ((2 : Int) ^ k) f) (hx : ∀ x ∈ f.code, exB x.op = true) (r : List Int) : frQ ((2 : Int) ^ k) (frY ((2 : Int) ^ k) f ++ r) = .ok f r := by
  obtain ⟨P, S, C⟩ := f
  have hp := h.p
  have hs := div_in (k := k) h.s
  have hd := h.d
  have hc := h.c
  simp only at hp hs hd hc
  unfold frQ frY
  simp only [List.append_assoc]
  rw [limR_digs (by omega) (by omega), Rd.and_ok, limR_digs (by omega) (by omega), Rd.and_ok, limR_digs hc (by omega), Rd.and_ok, timesR_flat C (fun x m r => minsQ_minsY (h.cd x m) (hx x m) r), Rd.and_ok, Int.toNat_of_nonneg hp.1, Int.toNat_of_nonneg hs.1, hd]
theorem tgQ_tgY {Al b : Int} {F : Tg} (h : TgW Al b F) (hx : ∀ f ∈ F, ∀ x ∈ f.code, exB x.op = true) (r : List Int) : tgQ ((tgY Al b F).drop 4 ++ r) = .ok (Al, b, F) r := by
  obtain ⟨k, h4, hk, rfl⟩ := h.al
  have hb := h.b
  rw [show (tgY ((2 : Int) ^ k) b F).drop 4 = digsI (expo ((2 : Int) ^ k)) ++ (digsI b.toNat ++ (digsI F.length ++ F.flatMap (frY ((2 : Int) ^ k)))) from rfl, expo_pow]
  unfold tgQ
  simp only [List.append_assoc]
  rw [limR_digs hk (by omega), Rd.and_ok, limR_digs (by omega) (by omega), Rd.and_ok, limR_digs h.n (by omega), Rd.and_ok, timesR_flat F (fun f m r => frQ_frY (h.f f m) (hx f m) r), Rd.and_ok, Int.toNat_of_nonneg hb.1]
/-- A right target's operations are the machine's. -/
theorem tgE_ex {Al : Int} {F : Tg} (h : tgE Al F = 0) : ∀ f ∈ F, ∀ x ∈ f.code, exB x.op = true := by
  intro f hf x hx
  have h1 := (tgE_ok h).1
  have hz := fmE_zero (firstE_zero.1 h1 _ (List.mem_map.2 ⟨f, hf, rfl⟩))
  exact (mins_all (hz.2.2.1 x hx)).1
/-- The reference reads what was written. -/
theorem tgQ_enc {Al b : Int} {F : Tg} (h : JGood Al b F) : (encJ Al b F).take 4 = jmagic ∧ (encJ Al b F).drop ((encJ Al b F).length - 4) = crcI (crcN ((encJ Al b F).take ((encJ Al b F).length - 4))) ∧ tgQ (((encJ Al b F).take ((encJ Al b F).length - 4)).drop 4) = .ok (Al, b, F) [] := by
  obtain ⟨h1, h2, _⟩ := tgR_enc h
  refine ⟨h1, h2, ?_⟩
  unfold encJ
  rw [(withY_parts _).1]
  have := tgQ_tgY h.parts.2.2.2 (tgE_ex h.parts.1) []
  rwa [List.append_nil] at this
theorem JDec.badQ {zs : List Int} (h1 : ¬ 1048576 < zs.length) (h2 : ¬ zs.length < 10) (hn : zs.take 4 = jmagic → zs.drop (zs.length - 4) = crcI (crcN (zs.take (zs.length - 4))) → ∀ Al b F r, tgQ ((zs.take (zs.length - 4)).drop 4) = .ok (Al, b, F) r → ¬ (encJE Al b F = 0 ∧ encJ Al b F = zs)) : JDec zs 2 0 0 [] := by
  unfold JDec
  rw [if_neg h1, if_neg h2]
  refine .inr ⟨rfl, rfl, rfl, rfl, fun Al' b' F' hg he => ?_⟩
  obtain ⟨a1, a2, a3⟩ := tgQ_enc hg
  rw [he] at a1 a2 a3
  exact hn a1 a2 _ _ _ _ a3 ⟨hg.e, he⟩
theorem opsJ_st (ua ub uc ui : Bool) (z : Int) (t : List Int) : (opsJ ua ub uc ui z t).st = stN ui wordR (stN uc l31 (stN ub l31 (stN ua l31 (.ok () t)))) := by
  unfold opsJ
  rw [stN_ok]
  rcases optR ua l31 t with x | ⟨a, r⟩
  · simp only [Rd.st, Rd.and_no, stN_no]
  · simp only [Rd.st, Rd.and_ok, stN_ok]
    rcases optR ub l31 r with x | ⟨b, r2⟩
    · simp only [Rd.and_no, stN_no]
    · simp only [Rd.and_ok, stN_ok, Rd.st]
      rcases optR uc l31 r2 with x | ⟨c, r3⟩
      · simp only [Rd.and_no, stN_no]
      · simp only [Rd.and_ok, stN_ok, Rd.st]
        rcases optR ui wordR r3 with x | ⟨m, r4⟩
        · simp only [Rd.and_no]
        · simp only [Rd.and_ok]
theorem opsJ_val {ua ub uc ui : Bool} {z : Int} {t r : List Int} {x : Ins} (h : opsJ ua ub uc ui z t = .ok x r) :
    x = ⟨z, (vlN ua l31 (.ok () t) : Nat), (vlN ub l31 (stN ua l31 (.ok () t)) : Nat), (vlN uc l31 (stN ub l31 (stN ua l31 (.ok () t))) : Nat), (vlN ui wordR (stN uc l31 (stN ub l31 (stN ua l31 (.ok () t)))) : Nat)⟩ := by
  unfold opsJ at h
  obtain ⟨a, r1, e1, h⟩ := Rd.and_eq h
  obtain ⟨b, r2, e2, h⟩ := Rd.and_eq h
  obtain ⟨c, r3, e3, h⟩ := Rd.and_eq h
  obtain ⟨m, r4, e4, h⟩ := Rd.and_eq h
  injection h with h1 h2
  rw [stN_ok, vlN_ok, e1]
  simp only [Rd.st, Rd.and_ok, Rd.val]
  rw [stN_ok, vlN_ok, e2]
  simp only [Rd.st, Rd.and_ok, Rd.val]
  rw [stN_ok, vlN_ok, e3]
  simp only [Rd.st, Rd.and_ok, Rd.val]
  rw [vlN_ok, e4]
  exact h1.symm
theorem minsQ_far {z : Int} {t : List Int} (h : 25 ≤ z) : minsQ (z :: t) = .no 2 := by unfold minsQ; simp only; rw [if_pos h]
theorem minsQ_near {z : Int} {t : List Int} (h : z < 25) : minsQ (z :: t) = opsJ (qA z) (qB z) (qC z) (qI z) z t := by unfold minsQ; simp only; rw [if_neg (by omega)]
end Go.Proofs.YtlcmcmocjbeocaaGreatDoor
end

section
/-
  Small words for readers and writers of bytes. No function of the program is named here.
-/
namespace Go.Proofs.YtlcmcmocjbeocaaGreatDoor
open Go.RowKit

theorem grown_put (w : World) (g k : Nat) (u : Value) : w.grownBy (w.setCell ⟨g, k, none⟩ u) (some g) := grown_set (World.grownBy.refl w _) k u
theorem pow_wrap {k : Nat} (hk : k ≤ 24) : wrap64 ((2 : Int) ^ k) = (2 : Int) ^ k := by
  have h1 : ((2 : Int) ^ k) = ((2 ^ k : Nat) : Int) := by simp
  have h2 : 2 ^ k ≤ 2 ^ 24 := Nat.pow_le_pow_right (by omega) hk
  rw [h1]
  obtain ⟨m, hm⟩ : ∃ m, m = 2 ^ k := ⟨_, rfl⟩
  rw [← hm] at h2 ⊢
  unfold wrap64; omega
end Go.Proofs.YtlcmcmocjbeocaaGreatDoor
end
