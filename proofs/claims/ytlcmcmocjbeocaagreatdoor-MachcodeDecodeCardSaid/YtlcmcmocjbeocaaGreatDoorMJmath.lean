import Derived.Test.YtlcmcmocjbeocaaGreatDoorMPmem
import Derived.Test.YtlcmcmocjbeocaaGreatDoorMBitsm
set_option linter.unusedVariables false
set_option linter.unusedSimpArgs false
section
/-
  Plain mathematics of the bytes of a target (chapter 11): what is written, what is read by the reference and by the program; reading inverts writing. No function of the program is named here.
-/
namespace Go.Proofs.YtlcmcmocjbeocaaGreatDoor
open Go.RowKit

def mA (op : Int) : Bool := !decide ((mshpOf op).1 = 0)
def mB (op : Int) : Bool := !decide ((mshpOf op).2.1 = 0)
def mC (op : Int) : Bool := !decide ((mshpOf op).2.2.1 = 0)
def mI (op : Int) : Bool := (mshpOf op).2.2.2
/-- How many of the operands A, B, C an operation of the target uses. -/
def mcnt (op : Int) : Nat := if mC op then 3 else if mB op then 2 else if mA op then 1 else 0
theorem mcnt_le (op : Int) : mcnt op ≤ 3 := by unfold mcnt; (repeat' split) <;> omega
theorem m25 {op : Int} (h0 : 0 ≤ op) (h1 : op < 25) : op = 0 ∨ op = 1 ∨ op = 2 ∨ op = 3 ∨ op = 4 ∨ op = 5 ∨ op = 6 ∨ op = 7 ∨ op = 8 ∨ op = 9 ∨ op = 10 ∨ op = 11 ∨ op = 12 ∨ op = 13 ∨ op = 14 ∨ op = 15 ∨ op = 16 ∨ op = 17 ∨ op = 18 ∨ op = 19 ∨ op = 20 ∨ op = 21 ∨ op = 22 ∨ op = 23 ∨ op = 24 := by omega
theorem mcnt_uses {op : Int} (h0 : 0 ≤ op) (h1 : op < 25) : mA op = decide (0 < mcnt op) ∧ mB op = decide (1 < mcnt op) ∧ mC op = decide (2 < mcnt op) := by
  rcases m25 h0 h1 with rfl | rfl | rfl | rfl | rfl | rfl | rfl | rfl | rfl | rfl | rfl | rfl | rfl | rfl | rfl | rfl | rfl | rfl | rfl | rfl | rfl | rfl | rfl | rfl | rfl <;> decide

/-- The bytes of an instruction of a target. -/
def minsY (x : Ins) : List Int := x.op :: opsY (mA x.op) (mB x.op) (mC x.op) (mI x.op) x
/-- The bytes of a frame. -/
def frY (Al : Int) (f : Fm) : List Int := digsI f.params.toNat ++ (digsI (f.size / Al).toNat ++ (digsI f.code.length ++ f.code.flatMap minsY))
def jmagic : List Int := [70, 82, 77, 49]
/-- A target and a bound without the checksum. -/
def tgY (Al b : Int) (F : Tg) : List Int := jmagic ++ (digsI (expo Al) ++ (digsI b.toNat ++ (digsI F.length ++ F.flatMap (frY Al))))
def encJ (Al b : Int) (F : Tg) : List Int := withY (tgY Al b F)
/-- The error of Encode. -/
def encJE (Al b : Int) (F : Tg) : Int := if tgE Al F ≠ 0 then tgE Al F else if bndB b = false then 4 else if 1048576 < (encJ Al b F).length then 3 else 0

/-- An instruction that can be written. -/
structure MInsW (x : Ins) : Prop where
  o : 0 ≤ x.op ∧ x.op < 25
  a : 0 ≤ x.a ∧ x.a ≤ 2147483647
  b : 0 ≤ x.b ∧ x.b ≤ 2147483647
  c : 0 ≤ x.c ∧ x.c ≤ 2147483647
  m : 0 ≤ x.imm ∧ x.imm ≤ 18446744073709551615
  ua : mA x.op = false → x.a = 0
  ub : mB x.op = false → x.b = 0
  uc : mC x.op = false → x.c = 0
  ui : mI x.op = false → x.imm = 0
/-- A frame that can be written. -/
structure FmW (Al : Int) (f : Fm) : Prop where
  p : 0 ≤ f.params ∧ f.params ≤ 8
  s : 0 ≤ f.size ∧ f.size ≤ 2147483647
  d : f.size / Al * Al = f.size
  c : f.code.length ≤ 1024
  cd : ∀ x ∈ f.code, MInsW x
/-- A target and a bound that can be written. -/
structure TgW (Al b : Int) (F : Tg) : Prop where
  al : ∃ k : Nat, 4 ≤ k ∧ k ≤ 24 ∧ Al = (2 : Int) ^ k
  b : 0 ≤ b ∧ b ≤ 2147483647
  n : F.length ≤ 80
  f : ∀ f ∈ F, FmW Al f

theorem foundE_not {e1 e2 e3 imm : Int} {m : Bool} {k : Int} (h : (foundE e1 e2 e3 m imm).contains k = false) : e1 ≠ k ∧ e2 ≠ k ∧ e3 ≠ k ∧ (k = 2 → m = false → imm = 0) := by
  have h' : k ∉ foundE e1 e2 e3 m imm := fun hm => by rw [List.contains_iff_mem.2 hm] at h; cases h
  unfold foundE at h'
  refine ⟨fun e => h' (by subst e; simp), fun e => h' (by subst e; simp), fun e => h' (by subst e; simp), fun hk hm => Decidable.byContradiction fun hi => h' (by subst hk; rw [if_pos ⟨hm, hi⟩]; simp)⟩
theorem mrank_zero {l : List Int} (h : mrank l true = 0) : l.contains 2 = false ∧ l.contains 4 = false ∧ l.contains 5 = false ∧ l.contains 6 = false := by
  unfold mrank at h
  generalize l.contains 2 = b2 at h ⊢
  generalize l.contains 4 = b4 at h ⊢
  generalize l.contains 5 = b5 at h ⊢
  generalize l.contains 6 = b6 at h ⊢
  cases b2 <;> cases b4 <;> cases b5 <;> cases b6 <;> first | exact ⟨rfl, rfl, rfl, rfl⟩ | (exfalso; revert h; decide)
theorem mins_all {N : Nat} {f : Fm} {x : Ins} (h : minsE N f x = 0) : exB x.op = true ∧ (mopE N f.code.length (mshpOf x.op).1 x.a = 0 ∧ mopE N f.code.length (mshpOf x.op).2.1 x.b = 0 ∧ mopE N f.code.length (mshpOf x.op).2.2.1 x.c = 0) ∧ (mI x.op = false → x.imm = 0) ∧ covB f.params f.size x = true := by
  have hcov := mins_cov h
  unfold minsE at h
  by_cases he : exB x.op = false
  · rw [if_pos he] at h; omega
  rw [if_neg he] at h
  have c1 := mopE_cases N f.code.length (mshpOf x.op).1 x.a
  have c2 := mopE_cases N f.code.length (mshpOf x.op).2.1 x.b
  have c3 := mopE_cases N f.code.length (mshpOf x.op).2.2.1 x.c
  rw [hcov] at h
  unfold mfound at h
  obtain ⟨e1, he1⟩ : ∃ e, mopE N f.code.length (mshpOf x.op).1 x.a = e := ⟨_, rfl⟩
  obtain ⟨e2, he2⟩ : ∃ e, mopE N f.code.length (mshpOf x.op).2.1 x.b = e := ⟨_, rfl⟩
  obtain ⟨e3, he3⟩ : ∃ e, mopE N f.code.length (mshpOf x.op).2.2.1 x.c = e := ⟨_, rfl⟩
  rw [he1, he2, he3] at h
  rw [he1] at c1 ⊢
  rw [he2] at c2 ⊢
  rw [he3] at c3 ⊢
  obtain ⟨h2, h4, h5, h6⟩ := mrank_zero h
  have n2 := foundE_not h2
  have n4 := foundE_not h4
  have n5 := foundE_not h5
  have n6 := foundE_not h6
  exact ⟨by simpa using he, ⟨by omega, by omega, by omega⟩, fun hm => n2.2.2.2 rfl hm, hcov⟩
theorem mop_unused {N C k n : Int} (h : mopE N C k n = 0) (hk : k = 0) : n = 0 := by
  unfold mopE at h
  rw [if_pos hk] at h
  by_cases hn : n = 0
  · exact hn
  · rw [if_neg hn] at h; omega
theorem mop_in {N C k n : Int} (h : mopE N C k n = 0) (hk : k = 0 ∨ k = 1 ∨ k = 3 ∨ k = 4 ∨ k = 5) (hN : N ≤ 80) (hC : C ≤ 1024) : 0 ≤ n ∧ n ≤ 2147483647 := by
  unfold mopE at h
  have hz : ∀ {m : Int}, withB n m = true → m ≤ 2000 → 0 ≤ n ∧ n ≤ 2147483647 := fun {m} hb hm => by have := withB_true.1 hb; omega
  rcases hk with rfl | rfl | rfl | rfl | rfl
  · by_cases hn : n = 0
    · omega
    · simp [hn] at h
  · cases hb : withB n 8 with
    | true => exact hz hb (by omega)
    | false => simp [hb] at h
  · cases hb : szB n with
    | true => unfold szB at hb; have := of_decide_eq_true hb; omega
    | false => simp [hb] at h
  · cases hb : withB n N with
    | true => exact hz hb (by omega)
    | false => simp [hb] at h
  · cases hb : withB n C with
    | true => exact hz hb (by omega)
    | false => simp [hb] at h
/-- The kinds of the operands: an offset only where memory is read or written. -/
theorem m_kinds {op : Int} (h0 : 0 ≤ op) (h1 : op < 25) : ((mshpOf op).1 = 2 → wrB op = true) ∧ ((mshpOf op).2.1 = 2 → rdB op = true) ∧ (mshpOf op).2.2.1 ≠ 2 ∧ (0 ≤ (mshpOf op).1 ∧ (mshpOf op).1 ≤ 5) ∧ (0 ≤ (mshpOf op).2.1 ∧ (mshpOf op).2.1 ≤ 5) ∧ (0 ≤ (mshpOf op).2.2.1 ∧ (mshpOf op).2.2.1 ≤ 5) := by
  rcases m25 h0 h1 with rfl | rfl | rfl | rfl | rfl | rfl | rfl | rfl | rfl | rfl | rfl | rfl | rfl | rfl | rfl | rfl | rfl | rfl | rfl | rfl | rfl | rfl | rfl | rfl | rfl <;> decide
theorem minsW_of {N : Nat} {f : Fm} {x : Ins} {F : Tg} (h : minsE N f x = 0) (hk : InsOk F f x) (hN : N ≤ 80) (hc : f.code.length ≤ 1024) (hi : 0 ≤ x.imm ∧ x.imm ≤ 18446744073709551615) : MInsW x := by
  obtain ⟨he, ⟨e1, e2, e3⟩, hm, _⟩ := mins_all h
  have ho : 0 ≤ x.op ∧ x.op < 25 := by
    unfold exB at he
    rw [Bool.and_eq_true] at he
    exact withB_true.1 he.1
  obtain ⟨k1, k2, k3, r1, r2, r3⟩ := m_kinds ho.1 ho.2
  have hN' : ((N : Nat) : Int) ≤ 80 := by omega
  have hC' : ((f.code.length : Nat) : Int) ≤ 1024 := by omega
  have ba : 0 ≤ x.a ∧ x.a ≤ 2147483647 := by
    by_cases hz : (mshpOf x.op).1 = 2
    · have := hk.w (k1 hz); omega
    · exact mop_in e1 (by omega) hN' hC'
  have bb : 0 ≤ x.b ∧ x.b ≤ 2147483647 := by
    by_cases hz : (mshpOf x.op).2.1 = 2
    · have := hk.r (k2 hz); omega
    · exact mop_in e2 (by omega) hN' hC'
  have bc : 0 ≤ x.c ∧ x.c ≤ 2147483647 := mop_in e3 (by omega) hN' hC'
  refine ⟨ho, ba, bb, bc, hi, fun hu => mop_unused e1 (by simpa [mA] using hu), fun hu => mop_unused e2 (by simpa [mB] using hu), fun hu => mop_unused e3 (by simpa [mC] using hu), hm⟩
theorem tgE_al {Al : Int} {F : Tg} (h : tgE Al F = 0) : F.length ≤ 80 ∧ powB Al = true ∧ 16 ≤ Al := by
  unfold tgE at h
  by_cases h1 : 80 < F.length
  · rw [if_pos h1] at h; omega
  · rw [if_neg h1] at h
    cases F with
    | nil => simp at h
    | cons f r =>
      simp only at h
      by_cases h2 : powB Al = false ∨ Al < 16
      · rw [if_pos h2] at h; omega
      · exact ⟨by omega, by by_cases hp : powB Al = true <;> simp_all, by omega⟩
theorem tgW_of {Al b : Int} {F : Tg} (h : tgE Al F = 0) (hb : bndB b = true) (hi : ImmT F) : TgW Al b F := by
  obtain ⟨hn, hp, h16⟩ := tgE_al h
  obtain ⟨k, hk, rfl⟩ := powB_iff.1 hp
  have h1 := (tgE_ok h).1
  have h2 := tgE_ins h
  refine ⟨⟨k, ?_, hk, rfl⟩, bndB_iff.1 hb, hn, fun f hf => ?_⟩
  · rcases Nat.lt_or_ge k 4 with hl | hl
    · exfalso
      rcases (show k = 0 ∨ k = 1 ∨ k = 2 ∨ k = 3 by omega) with rfl | rfl | rfl | rfl <;> simp at h16
    · exact hl
  · have hz := fmE_zero (firstE_zero.1 h1 _ (List.mem_map.2 ⟨f, hf, rfl⟩))
    obtain ⟨⟨b1, b2⟩, b3⟩ := h2 f hf
    have hs := hz.1
    unfold shB at hs
    simp only [Bool.and_eq_true, decide_eq_true_eq] at hs
    refine ⟨b1, by omega, Int.ediv_mul_cancel (Int.dvd_of_emod_eq_zero hs.2.2.2), hz.2.1, fun x hx => minsW_of (hz.2.2.1 x hx) (b3 x hx) hn hz.2.1 (hi f hf x hx)⟩

-- the reference's reader: an error is an error, whichever
def limR (most : Nat) (l : List Int) : Rd Nat := (wordR l).and fun v r => if most < v then .no 2 else .ok v r
def l31 : List Int → Rd Nat := limR 2147483647
def opsJ (ua ub uc ui : Bool) (z : Int) (l : List Int) : Rd Ins :=
  (optR ua l31 l).and fun a r => (optR ub l31 r).and fun b r => (optR uc l31 r).and fun c r => (optR ui wordR r).and fun m r => .ok ⟨z, a, b, c, m⟩ r
def minsR (l : List Int) : Rd Ins := match l with
  | [] => .no 2
  | z :: r => if 25 ≤ z then .no 2 else opsJ (mA z) (mB z) (mC z) (mI z) z r
def frR (Al : Int) (l : List Int) : Rd Fm := (limR 8 l).and fun P r => (limR 2147483647 r).and fun q r => (limR 1024 r).and fun n r => (timesR minsR n r).and fun C r => .ok ⟨P, q * Al, C⟩ r
def tgR (l : List Int) : Rd (Int × Int × Tg) := (limR 24 l).and fun k r => (limR 2147483647 r).and fun b r => (limR 80 r).and fun n r => (timesR (frR ((2 : Int) ^ k)) n r).and fun F r => .ok ((2 : Int) ^ k, (b : Int), F) r
theorem limR_digs {u most : Nat} (hu : u ≤ most) (hm : most ≤ 2147483647) (r : List Int) : limR most (digsI u ++ r) = .ok u r := by
  unfold limR
  rw [wordR_digs (by omega), Rd.and_ok, if_neg (by omega)]
theorem optJ_num {u : Bool} {n : Int} (h0 : 0 ≤ n) (h1 : n ≤ 2147483647) (hu : u = false → n = 0) (r : List Int) : optR u l31 (optY u n ++ r) = .ok n.toNat r := by
  cases u with
  | true => rw [optY_on]; exact limR_digs (by omega) (by omega) r
  | false => obtain rfl := hu rfl; rfl
theorem minsR_minsY {x : Ins} (h : MInsW x) (r : List Int) : minsR (minsY x ++ r) = .ok x r := by
  obtain ⟨o, a, b, c, m⟩ := x
  have h0 : ¬ (25 ≤ o) := by have := h.o; simp at this; omega
  rw [show minsY ⟨o, a, b, c, m⟩ ++ r = o :: (opsY (mA o) (mB o) (mC o) (mI o) ⟨o, a, b, c, m⟩ ++ r) from rfl]
  unfold minsR
  simp only
  rw [if_neg h0]
  unfold opsJ opsY
  simp only [List.append_assoc]
  rw [optJ_num h.a.1 h.a.2 h.ua, Rd.and_ok, optJ_num h.b.1 h.b.2 h.ub, Rd.and_ok, optJ_num h.c.1 h.c.2 h.uc, Rd.and_ok, optR_word h.m.1 h.m.2 h.ui, Rd.and_ok]
  rw [Int.toNat_of_nonneg h.a.1, Int.toNat_of_nonneg h.b.1, Int.toNat_of_nonneg h.c.1, Int.toNat_of_nonneg h.m.1]
theorem two_pos (k : Nat) : (0 : Int) < (2 : Int) ^ k := Int.pow_pos (by decide)
theorem div_in {s : Int} {k : Nat} (h : 0 ≤ s ∧ s ≤ 2147483647) : 0 ≤ s / (2 : Int) ^ k ∧ s / (2 : Int) ^ k ≤ 2147483647 := by
  have hp := two_pos k
  refine ⟨Int.ediv_nonneg h.1 (by omega), ?_⟩
  have := Int.ediv_le_self ((2 : Int) ^ k) h.1
  omega
theorem frR_frY {k : Nat} {f : Fm} (h : FmW ((2 : Int) ^ k) f) (r : List Int) : frR ((2 : Int) ^ k) (frY ((2 : Int) ^ k) f ++ r) = .ok f r := by
  obtain ⟨P, S, C⟩ := f
  have hp := h.p
  have hs := div_in (k := k) h.s
  have hd := h.d
  have hc := h.c
  simp only at hp hs hd hc
  unfold frR frY
  simp only [List.append_assoc]
  rw [limR_digs (by omega) (by omega), Rd.and_ok, limR_digs (by omega) (by omega), Rd.and_ok, limR_digs hc (by omega), Rd.and_ok, timesR_flat C (fun x m r => minsR_minsY (h.cd x m) r), Rd.and_ok, Int.toNat_of_nonneg hp.1, Int.toNat_of_nonneg hs.1, hd]
theorem tgR_tgY {Al b : Int} {F : Tg} (h : TgW Al b F) (r : List Int) : tgR ((tgY Al b F).drop 4 ++ r) = .ok (Al, b, F) r := by
  obtain ⟨k, h4, hk, rfl⟩ := h.al
  have hb := h.b
  rw [show (tgY ((2 : Int) ^ k) b F).drop 4 = digsI (expo ((2 : Int) ^ k)) ++ (digsI b.toNat ++ (digsI F.length ++ F.flatMap (frY ((2 : Int) ^ k)))) from rfl, expo_pow]
  unfold tgR
  simp only [List.append_assoc]
  rw [limR_digs hk (by omega), Rd.and_ok, limR_digs (by omega) (by omega), Rd.and_ok, limR_digs h.n (by omega), Rd.and_ok, timesR_flat F (fun f m r => frR_frY (h.f f m) r), Rd.and_ok, Int.toNat_of_nonneg hb.1]

-- the program's reader: where the bytes are not what it wants it reads something else
/-- A number as an int of 64 bits. -/
def wr64 (v : Int) : Int := wrap64 v
def wordL (l : List Int) : Nat × List Int := match wordR l with
  | .no _ => (0, l)
  | .ok v r => (v, r)
def numL (l : List Int) : Int × List Int := (wr64 (wordL l).1, (wordL l).2)
def limL (most : Nat) (l : List Int) : Nat × List Int := (min (wordL l).1 most, (wordL l).2)
def opL (l : List Int) : Int × List Int := match l with
  | [] => (0, [])
  | z :: r => (z, r)
/-- The bytes left behind i numbers; number i; the first i of three. -/
def nRest (l : List Int) : Nat → List Int
  | 0 => l
  | i + 1 => (numL (nRest l i)).2
def nNum (l : List Int) (i j : Nat) : Int := if j < i then (numL (nRest l j)).1 else 0
def minsL (l : List Int) : Ins × List Int :=
  let o := (opL l).1
  let s := nRest (opL l).2 (mcnt o)
  (⟨o, nNum (opL l).2 (mcnt o) 0, nNum (opL l).2 (mcnt o) 1, nNum (opL l).2 (mcnt o) 2, if mI o then ((wordL s).1 : Int) else 0⟩, if mI o then (wordL s).2 else s)
def timesL {α : Type} (p : List Int → α × List Int) : Nat → List Int → List α × List Int
  | 0, l => ([], l)
  | n + 1, l => ((p l).1 :: (timesL p n (p l).2).1, (timesL p n (p l).2).2)
def frL (Al : Int) (l : List Int) : Fm × List Int :=
  let a := numL l
  let b := numL a.2
  let c := limL 1024 b.2
  let d := timesL minsL c.1 c.2
  (⟨a.1, wr64 (b.1 * Al), d.1⟩, d.2)
def tgL (l : List Int) : (Int × Int × Tg) × List Int :=
  let a := limL 24 l
  let b := numL a.2
  let c := limL 80 b.2
  let d := timesL (frL ((2 : Int) ^ a.1)) c.1 c.2
  (((2 : Int) ^ a.1, b.1, d.1), d.2)

theorem wr64_in {v : Int} (h0 : 0 ≤ v) (h1 : v ≤ 9223372036854775807) : wr64 v = v := by unfold wr64 wrap64; omega
theorem wordL_ok {l r : List Int} {v : Nat} (h : wordR l = .ok v r) : wordL l = (v, r) := by unfold wordL; rw [h]
theorem numL_ok {l r : List Int} {v : Nat} (h : wordR l = .ok v r) (hv : v ≤ 2147483647) : numL l = ((v : Int), r) := by
  unfold numL
  rw [wordL_ok h, wr64_in (by omega) (by simp; omega)]
theorem limR_word {most : Nat} {l r : List Int} {v : Nat} (h : limR most l = .ok v r) : wordR l = .ok v r ∧ v ≤ most := by
  unfold limR at h
  obtain ⟨a, s, h1, h2⟩ := Rd.and_eq h
  split at h2
  · cases h2
  · injection h2 with h3 h4
    subst h3 h4
    exact ⟨h1, by omega⟩
theorem numL_num {l r : List Int} {v : Nat} (h : l31 l = .ok v r) : numL l = ((v : Int), r) := by
  obtain ⟨h1, h2⟩ := limR_word h
  exact numL_ok h1 h2
theorem limL_ok {most : Nat} {l r : List Int} {v : Nat} (h : limR most l = .ok v r) : limL most l = (v, r) := by
  obtain ⟨h1, h2⟩ := limR_word h
  unfold limL
  rw [wordL_ok h1]
  simp only
  rw [Nat.min_eq_left h2]
theorem timesL_flat {α : Type} {q : List Int → α × List Int} {f : α → List Int} (l : List α) (h : ∀ a ∈ l, ∀ r, q (f a ++ r) = (a, r)) (r : List Int) : timesL q l.length (l.flatMap f ++ r) = (l, r) := by
  induction l with
  | nil => rfl
  | cons a s ih =>
    simp only [List.length_cons, List.flatMap_cons, List.append_assoc, timesL]
    rw [h a List.mem_cons_self]
    simp only
    rw [ih (fun b hb => h b (List.mem_cons_of_mem _ hb))]
theorem minsL_ok {l r : List Int} {x : Ins} (hl : ∀ z s, l = z :: s → (0 : Int) ≤ z) (h : minsR l = .ok x r) : minsL l = (x, r) := by
  cases l with
  | nil => cases h
  | cons z s =>
    have hz := hl z s rfl
    unfold minsR at h
    simp only at h
    by_cases h25 : 25 ≤ z
    · rw [if_pos h25] at h; cases h
    rw [if_neg h25] at h
    obtain ⟨ua, ub, uc⟩ := mcnt_uses hz (by omega)
    have hk := mcnt_le z
    unfold opsJ at h
    obtain ⟨a, r1, e1, h⟩ := Rd.and_eq h
    obtain ⟨b, r2, e2, h⟩ := Rd.and_eq h
    obtain ⟨c, r3, e3, h⟩ := Rd.and_eq h
    obtain ⟨m, r4, e4, h⟩ := Rd.and_eq h
    injection h with h1 h2
    subst h1 h2
    rw [ua] at e1
    rw [ub] at e2
    rw [uc] at e3
    unfold minsL opL
    simp only
    obtain ⟨k, hkk⟩ : ∃ k, mcnt z = k := ⟨_, rfl⟩
    rw [hkk] at e1 e2 e3 hk ⊢
    have off : ∀ {u : Bool} {p : List Int → Rd Nat} {l r : List Int} {v : Nat}, u = false → optR u p l = .ok v r → v = 0 ∧ l = r := fun {u p l r v} hu he => by
      subst hu
      simp only [optR] at he
      injection he with q1 q2
      exact ⟨q1.symm, q2⟩
    have on : ∀ {u : Bool} {l r : List Int} {v : Nat}, u = true → optR u l31 l = .ok v r → numL l = ((v : Int), r) := fun {u l r v} hu he => by
      subst hu
      exact numL_num he
    have key : nRest s k = r3 ∧ nNum s k 0 = (a : Int) ∧ nNum s k 1 = (b : Int) ∧ nNum s k 2 = (c : Int) := by
      rcases (show k = 0 ∨ k = 1 ∨ k = 2 ∨ k = 3 by omega) with rfl | rfl | rfl | rfl
      · obtain ⟨rfl, rfl⟩ := off (by decide) e1
        obtain ⟨rfl, rfl⟩ := off (by decide) e2
        obtain ⟨rfl, rfl⟩ := off (by decide) e3
        exact ⟨rfl, rfl, rfl, rfl⟩
      · have n1 := on (by decide) e1
        obtain ⟨rfl, rfl⟩ := off (by decide) e2
        obtain ⟨rfl, rfl⟩ := off (by decide) e3
        refine ⟨?_, ?_, rfl, rfl⟩ <;> simp [nRest, nNum, n1]
      · have n1 := on (by decide) e1
        have n2 := on (by decide) e2
        obtain ⟨rfl, rfl⟩ := off (by decide) e3
        refine ⟨?_, ?_, ?_, rfl⟩ <;> simp [nRest, nNum, n1, n2]
      · have n1 := on (by decide) e1
        have n2 := on (by decide) e2
        have n3 := on (by decide) e3
        refine ⟨?_, ?_, ?_, ?_⟩ <;> simp [nRest, nNum, n1, n2, n3]
    obtain ⟨k0, k1, k2, k3⟩ := key
    rw [k0, k1, k2, k3]
    cases hi : mI z with
    | true =>
      rw [hi] at e4
      have e5 : wordR r3 = .ok m r4 := e4
      rw [wordL_ok e5]
      rfl
    | false =>
      obtain ⟨rfl, rfl⟩ := off hi e4
      rfl
theorem minsL_minsY {x : Ins} (h : MInsW x) (r : List Int) : minsL (minsY x ++ r) = (x, r) :=
  minsL_ok (fun z s e => by
    unfold minsY at e
    rw [List.cons_append] at e
    injection e with e _
    rw [← e]; exact h.o.1) (minsR_minsY h r)
theorem limL_digs {u most : Nat} (hu : u ≤ most) (hm : most ≤ 2147483647) (r : List Int) : limL most (digsI u ++ r) = (u, r) := limL_ok (limR_digs hu hm r)
theorem numL_digs {u : Nat} (hu : u ≤ 2147483647) (r : List Int) : numL (digsI u ++ r) = ((u : Int), r) := numL_ok (wordR_digs (by omega) r) hu
theorem frL_frY {k : Nat} {f : Fm} (h : FmW ((2 : Int) ^ k) f) (r : List Int) : frL ((2 : Int) ^ k) (frY ((2 : Int) ^ k) f ++ r) = (f, r) := by
  obtain ⟨P, S, C⟩ := f
  have hp := h.p
  have hs0 := h.s
  have hs := div_in (k := k) h.s
  have hd := h.d
  have hc := h.c
  simp only at hp hs0 hs hd hc
  unfold frL frY
  simp only [List.append_assoc]
  rw [numL_digs (by omega)]
  simp only
  rw [numL_digs (by omega)]
  simp only
  rw [limL_digs hc (by omega)]
  simp only
  rw [timesL_flat C (fun x m r => minsL_minsY (h.cd x m) r)]
  simp only
  rw [Int.toNat_of_nonneg hp.1, Int.toNat_of_nonneg hs.1, hd, wr64_in hs0.1 (by omega)]
theorem tgL_tgY {Al b : Int} {F : Tg} (h : TgW Al b F) (r : List Int) : tgL ((tgY Al b F).drop 4 ++ r) = ((Al, b, F), r) := by
  obtain ⟨k, h4, hk, rfl⟩ := h.al
  have hb := h.b
  rw [show (tgY ((2 : Int) ^ k) b F).drop 4 = digsI (expo ((2 : Int) ^ k)) ++ (digsI b.toNat ++ (digsI F.length ++ F.flatMap (frY ((2 : Int) ^ k)))) from rfl, expo_pow]
  unfold tgL
  simp only [List.append_assoc]
  rw [limL_digs hk (by omega)]
  simp only
  rw [numL_digs (by omega)]
  simp only
  rw [limL_digs h.n (by omega)]
  simp only
  rw [timesL_flat F (fun f m r => frL_frY (h.f f m) r)]
  simp only
  rw [Int.toNat_of_nonneg hb.1]

/-- A target and a bound that Encode writes. -/
structure JGood (Al b : Int) (F : Tg) : Prop where
  e : encJE Al b F = 0
  i : ImmT F
theorem JGood.parts {Al b : Int} {F : Tg} (h : JGood Al b F) : tgE Al F = 0 ∧ bndB b = true ∧ (encJ Al b F).length ≤ 1048576 ∧ TgW Al b F := by
  have h0 := h.e
  unfold encJE at h0
  by_cases h1 : tgE Al F = 0
  · rw [if_neg (fun hne => hne h1)] at h0
    by_cases h2 : bndB b = false
    · rw [if_pos h2] at h0; omega
    · rw [if_neg h2] at h0
      by_cases h3 : 1048576 < (encJ Al b F).length
      · rw [if_pos h3] at h0; omega
      · have hb : bndB b = true := by simpa using h2
        exact ⟨h1, hb, by omega, tgW_of h1 hb h.i⟩
  · rw [if_pos h1] at h0; exact absurd h0 h1
theorem tgY_len (Al b : Int) (F : Tg) : 7 ≤ (tgY Al b F).length := by
  have h1 := lenv_pos (expo Al)
  have h2 := lenv_pos b.toNat
  have h3 := lenv_pos F.length
  simp [tgY, jmagic, digsI_length]
  omega
theorem encJ_len (Al b : Int) (F : Tg) : (encJ Al b F).length = (tgY Al b F).length + 4 := withY_length _
theorem encJ_rest (Al b : Int) (F : Tg) : (encJ Al b F).drop 4 = (tgY Al b F).drop 4 ++ crcI (crcN (tgY Al b F)) := by
  have := tgY_len Al b F
  unfold encJ withY
  rw [List.drop_append_of_le_length (by omega)]
/-- The program reads what was written. -/
theorem tgL_enc {Al b : Int} {F : Tg} (h : JGood Al b F) : (tgL ((encJ Al b F).drop 4)).1 = (Al, b, F) := by
  rw [encJ_rest, tgL_tgY h.parts.2.2.2]
/-- The reference reads what was written. -/
theorem tgR_enc {Al b : Int} {F : Tg} (h : JGood Al b F) : (encJ Al b F).take 4 = jmagic ∧ (encJ Al b F).drop ((encJ Al b F).length - 4) = crcI (crcN ((encJ Al b F).take ((encJ Al b F).length - 4))) ∧ tgR (((encJ Al b F).take ((encJ Al b F).length - 4)).drop 4) = .ok (Al, b, F) [] := by
  have h7 := tgY_len Al b F
  refine ⟨?_, ?_, ?_⟩
  · unfold encJ withY
    rw [List.take_append_of_le_length (by omega)]
    rfl
  · unfold encJ
    rw [(withY_parts _).1, (withY_parts _).2]
  · unfold encJ
    rw [(withY_parts _).1]
    have := tgR_tgY h.parts.2.2.2 []
    rwa [List.append_nil] at this
/-- What Decode gives for these bytes. -/
def JDec (zs : List Int) (e Al b : Int) (F : Tg) : Prop :=
  if 1048576 < zs.length then e = 3 ∧ Al = 0 ∧ b = 0 ∧ F = []
  else if zs.length < 10 then e = 1 ∧ Al = 0 ∧ b = 0 ∧ F = []
  else (e = 0 ∧ JGood Al b F ∧ encJ Al b F = zs) ∨ (e = 2 ∧ Al = 0 ∧ b = 0 ∧ F = [] ∧ ∀ Al b F, JGood Al b F → encJ Al b F ≠ zs)
theorem JDec.unique {zs : List Int} {e e' Al Al' b b' : Int} {F F' : Tg} (h : JDec zs e Al b F) (h' : JDec zs e' Al' b' F') : e = e' ∧ Al = Al' ∧ b = b' ∧ F = F' := by
  unfold JDec at h h'
  by_cases h1 : 1048576 < zs.length
  · rw [if_pos h1] at h h'
    obtain ⟨rfl, rfl, rfl, rfl⟩ := h
    obtain ⟨rfl, rfl, rfl, rfl⟩ := h'
    exact ⟨rfl, rfl, rfl, rfl⟩
  · rw [if_neg h1] at h h'
    by_cases h2 : zs.length < 10
    · rw [if_pos h2] at h h'
      obtain ⟨rfl, rfl, rfl, rfl⟩ := h
      obtain ⟨rfl, rfl, rfl, rfl⟩ := h'
      exact ⟨rfl, rfl, rfl, rfl⟩
    · rw [if_neg h2] at h h'
      rcases h with ⟨rfl, hg, he⟩ | ⟨rfl, rfl, rfl, rfl, hn⟩
      · rcases h' with ⟨rfl, hg', he'⟩ | ⟨rfl, rfl, rfl, rfl, hn'⟩
        · have q := tgL_enc hg
          rw [he, ← he', tgL_enc hg'] at q
          injection q with q1 q2
          injection q2 with q2 q3
          exact ⟨rfl, q1.symm, q2.symm, q3.symm⟩
        · exact absurd he (hn' _ _ _ hg)
      · rcases h' with ⟨rfl, hg', he'⟩ | ⟨rfl, rfl, rfl, rfl, hn'⟩
        · exact absurd he' (hn _ _ _ hg')
        · exact ⟨rfl, rfl, rfl, rfl⟩
theorem JDec.many {zs : List Int} (h : 1048576 < zs.length) : JDec zs 3 0 0 [] := by unfold JDec; rw [if_pos h]; exact ⟨rfl, rfl, rfl, rfl⟩
theorem JDec.few {zs : List Int} (h : zs.length < 10) : JDec zs 1 0 0 [] := by unfold JDec; rw [if_neg (by omega), if_pos h]; exact ⟨rfl, rfl, rfl, rfl⟩
theorem JDec.good {zs : List Int} {Al b : Int} {F : Tg} (h1 : ¬ 1048576 < zs.length) (h2 : ¬ zs.length < 10) (hg : JGood Al b F) (he : encJ Al b F = zs) : JDec zs 0 Al b F := by unfold JDec; rw [if_neg h1, if_neg h2]; exact .inl ⟨rfl, hg, he⟩
/-- What the program has read does not come back: no target has these bytes. -/
theorem JDec.badL {zs : List Int} {Al b : Int} {F : Tg} (h1 : ¬ 1048576 < zs.length) (h2 : ¬ zs.length < 10) (hr : (tgL (zs.drop 4)).1 = (Al, b, F)) (hn : ¬ (encJE Al b F = 0 ∧ encJ Al b F = zs)) : JDec zs 2 0 0 [] := by
  unfold JDec
  rw [if_neg h1, if_neg h2]
  refine .inr ⟨rfl, rfl, rfl, rfl, fun Al' b' F' hg he => hn ?_⟩
  have q := tgL_enc hg
  rw [he, hr] at q
  injection q with q1 q2
  injection q2 with q2 q3
  subst q1 q2 q3
  exact ⟨hg.e, he⟩
theorem JDec.badR {zs : List Int} (h1 : ¬ 1048576 < zs.length) (h2 : ¬ zs.length < 10) (hn : zs.take 4 = jmagic → zs.drop (zs.length - 4) = crcI (crcN (zs.take (zs.length - 4))) → ∀ Al b F r, tgR ((zs.take (zs.length - 4)).drop 4) = .ok (Al, b, F) r → ¬ (encJE Al b F = 0 ∧ encJ Al b F = zs)) : JDec zs 2 0 0 [] := by
  unfold JDec
  rw [if_neg h1, if_neg h2]
  refine .inr ⟨rfl, rfl, rfl, rfl, fun Al' b' F' hg he => ?_⟩
  obtain ⟨a1, a2, a3⟩ := tgR_enc hg
  rw [he] at a1 a2 a3
  exact hn a1 a2 _ _ _ _ a3 ⟨hg.e, he⟩
/-- A byte of a written target that has turned is found. -/
theorem jturned {L : List Int} (h : Byt L) (i : Nat) {z z' : Int} (hz : (withY L)[i]? = some z) (h0 : 0 ≤ z') (h1 : z' ≤ 255) (hne : z' ≠ z) : ∀ M : List Int, withY M ≠ (withY L).set i z' := by
  intro M e
  have hl : M.length = L.length := by
    have := congrArg List.length e
    rw [List.length_set, withY_length, withY_length] at this
    omega
  by_cases hi : i < L.length
  · have e2 : (withY L).set i z' = L.set i z' ++ crcI (crcN L) := by unfold withY; rw [List.set_append_left _ _ hi]
    have hz2 : L[i]? = some z := by unfold withY at hz; rwa [List.getElem?_append_left hi] at hz
    rw [e2] at e
    unfold withY at e
    obtain ⟨e3, e4⟩ := List.append_inj e (by rw [List.length_set]; exact hl)
    rw [e3] at e4
    exact crc_end_ne h i hz2 h0 h1 hne e4
  · have e2 : (withY L).set i z' = L ++ (crcI (crcN L)).set (i - L.length) z' := by unfold withY; rw [List.set_append_right _ _ (by omega)]
    rw [e2] at e
    unfold withY at e
    obtain ⟨e3, e4⟩ := List.append_inj e hl
    rw [e3] at e4
    have hz2 : (crcI (crcN L))[i - L.length]? = some z := by unfold withY at hz; rwa [List.getElem?_append_right (by omega)] at hz
    have hlt := (List.getElem?_eq_some_iff.1 hz2).1
    have h3 : ((crcI (crcN L)).set (i - L.length) z')[i - L.length]? = (crcI (crcN L))[i - L.length]? := by rw [← e4]
    rw [List.getElem?_set_self hlt, hz2] at h3
    injection h3 with h3
    exact hne h3
end Go.Proofs.YtlcmcmocjbeocaaGreatDoor
end

section
/-
  Bytes that are read: what reading leaves and gives, by the mathematics of the format. No function of the program is named here.
-/
namespace Go.Proofs.YtlcmcmocjbeocaaGreatDoor
open Go.RowKit

/-- The bytes that are read. -/
structure Src (n c : Nat) (zs : List Int) : Prop where
  len : zs.length = n
  nc : n ≤ c
  cm : c ≤ 9223372036854775807
  most : n ≤ 1048576
  byt : Byt zs
def Rd.to {α : Type} (S : Rd Unit) (p : List Int → Rd α) : Rd α := S.and fun _ l => p l
def Rd.st {α : Type} (m : Rd α) : Rd Unit := m.and fun _ r => .ok () r
def Rd.val {α : Type} (d : α) (m : Rd α) : α := match m with
  | .no _ => d
  | .ok a _ => a
theorem scan_none (l : List Int) : ∀ i v : Nat, (scan l i v).2.2 ≠ 0 → scan l i v = (0, 0, (scan l i v).2.2) := by
  induction l with
  | nil => intro i v _; rfl
  | cons z r ih =>
    intro i v h
    rw [scan] at h ⊢
    split at h
    · rename_i h1
      rw [if_pos h1]
    · rename_i h1
      rw [if_neg h1]
      split at h
      · rename_i h2
        rw [if_pos h2]
        exact ih _ _ h
      · rename_i h2
        rw [if_neg h2]
        split at h
        · rename_i h3
          rw [if_pos h3]
        · exact absurd rfl h
theorem wordR_scan {l r : List Int} {v : Nat} (h : wordR l = .ok v r) : ∃ j, scan l 0 0 = (v, j, 0) ∧ r = l.drop j := by
  unfold wordR at h
  split at h
  · rename_i h0
    injection h with h1 h2
    exact ⟨_, Prod.ext h1 (Prod.ext rfl h0), h2.symm⟩
  · cases h
theorem wordR_scan_no {l : List Int} {e : Int} (h : wordR l = .no e) : ∃ m : Nat, e = m ∧ m ≠ 0 ∧ m ≤ 2 ∧ scan l 0 0 = (0, 0, m) := by
  unfold wordR at h
  split at h
  · cases h
  · rename_i h0
    injection h with h1
    exact ⟨_, h1.symm, h0, scan_err l 0 0, scan_none l 0 0 h0⟩

theorem Rd.to_and {α β : Type} (S : Rd Unit) (p : List Int → Rd α) (k : α → List Int → Rd β) : S.to (fun l => (p l).and k) = (S.to p).and k := by
  cases S with
  | no e => rfl
  | ok a r => rfl
theorem Rd.st_to {α β : Type} (m : Rd α) (p : List Int → Rd β) : m.st.to p = m.and fun _ r => p r := by
  cases m with
  | no e => rfl
  | ok a r => rfl
/-- The state behind an operand, and its value. -/
def stN (u : Bool) (p : List Int → Rd Nat) (S : Rd Unit) : Rd Unit := if u then (S.to p).st else S
def vlN (u : Bool) (p : List Int → Rd Nat) (S : Rd Unit) : Nat := if u then (S.to p).val 0 else 0
theorem stN_no (u : Bool) (p : List Int → Rd Nat) (x : Int) : stN u p (.no x) = .no x := by cases u <;> rfl
theorem stN_ok (u : Bool) (p : List Int → Rd Nat) (t : List Int) : stN u p (.ok () t) = (optR u p t).st := by cases u <;> rfl
theorem vlN_ok (u : Bool) (p : List Int → Rd Nat) (t : List Int) : vlN u p (.ok () t) = (optR u p t).val 0 := by cases u <;> rfl
end Go.Proofs.YtlcmcmocjbeocaaGreatDoor
end

section
/-
  The contract of varint.Uint: it returns what 'uintAt' says, for every offset, and leaves memory alone. Condition: at most 2^62 bytes.
-/
namespace Go.Proofs.YtlcmcmocjbeocaaGreatDoor
open Go.RowKit

def UintPost (zs : List Int) (a : Int) (w : World) (e : Ending) (w' : World) : Prop := e = .returned (uintVal (uintAt zs a)) ∧ w = w'

set_option maxRecDepth 100000 in
set_option maxHeartbeats 800000 in
theorem uint_out (A : Option Addr) (n c : Nat) (zs : List Int) (a : Int) (w : World) (hn : Hid (zs.length = n)) (hm : n ≤ 4611686018427387904) (h : a < 0 ∨ (n : Int) < a) :
    Calls Tryz.prog 148 #[.slice A n c, .int .i64 a] w (UintPost zs a w) := by
  have H := hide (uintAt_out (zs := zs) (a := a) (by have := hn.out; omega))
  rcases h with h | h
  · go_enter Tryz.func148, Tryz.ntmps148
    go_wp2
    go_ret3
    exact ⟨by rw [H.out]; rfl, rfl⟩
  · have h0 : ¬ a < 0 := by omega
    go_enter Tryz.func148, Tryz.ntmps148
    go_wp2
    go_ret3
    exact ⟨by rw [H.out]; rfl, rfl⟩

set_option maxRecDepth 100000 in
set_option maxHeartbeats 1600000 in
theorem uint_in (A : Option Addr) (n c : Nat) (zs : List Int) (a : Nat) (B : Nat) (w : World) (hA : Hid (A = none → c = 0)) (hn : Hid (zs.length = n)) (hm : n ≤ 4611686018427387904) (hnc : n ≤ c) (hs : Sees w B A (cellsU8 zs)) (hz : Hid (∀ z ∈ zs, 0 ≤ z ∧ z ≤ 255))
    (han : a ≤ n) :
    Calls Tryz.prog 148 #[.slice A n c, .int .i64 a] w (UintPost zs a w) := by
  by_cases hca : c = a
  · obtain rfl : a = n := by omega
    subst hca
    have H := hide (uintAt_err (zs := zs) (a := c) (e := 1) (by have := hn.out; omega) (by rw [List.drop_eq_nil_of_le (by have := hn.out; omega)]; rfl) (by decide))
    clear hA hs hz
    go_enter Tryz.func148, Tryz.ntmps148
    go_wp2
    go_loop [7, 22] (fun _ k => k = .int .i64 0) (fun _ _ => 0)
    case atStart => exact rfl
    case round =>
      subst hrel
      go_wp2
      go_ret3
      exact ⟨by rw [H.out]; rfl, rfl⟩
  · rcases A with _ | ad
    · exact absurd (hA.out rfl) (by omega)
    · clear hA
      go_enter Tryz.func148, Tryz.ntmps148
      go_wp2
      go_loop [4, 5, 6, 7, 22] (fun x y z a' k => ∃ (v : Nat) (j : Nat), v ≤ 9223372036854775807 ∧ j ≤ 9 ∧ j ≤ n - a ∧ x = .int .u64 0 ∧ y = .int .i64 0 ∧ z = .int .i64 0 ∧ a' = .int .u64 v ∧ k = .int .i64 j ∧ Hid (v < 128 ^ j) ∧ Hid (scan (zs.drop a) 0 0 = scan (zs.drop (a + j)) j v)) (fun _ _ _ _ k => n - (intOf k).toNat)
      case atStart => exact ⟨0, 0, by omega, by omega, by omega, rfl, rfl, rfl, rfl, rfl, by show _ < _; decide, rfl⟩
      case round =>
        obtain ⟨v, j, hv, hj, hjn, rfl, rfl, rfl, rfl, rfl, hvj, hsc⟩ := hrel
        by_cases hlt : j < n - a
        · obtain ⟨b, off, z, he, _, hc, z0, z1, hzk⟩ := byte_at (zs := zs) (k := a + j) hs (by have := hn.out; omega) hz.out
          injection he with he
          subst he
          have hc' : w.cell? ⟨b, off + a + j, none⟩ = some (.int .u8 z) := by rw [Nat.add_assoc]; exact hc
          have hd := hide (drop_head hzk.out)
          have hal := hide (show a ≤ zs.length by have := hn.out; omega)
          clear hs hc
          by_cases hj9 : j = 9
          · subst hj9
            by_cases hz1 : 1 < z
            · have H := hide (uintAt_err hal.out (by rw [hsc.out, hd.out]; exact scan_fmt9 hz1) (by decide))
              clear hsc
              go_wp2
              go_ret3
              exact ⟨by rw [H.out]; rfl, rfl⟩
            · by_cases hz0 : z = 0
              · subst hz0
                have H := hide (uintAt_err hal.out (by rw [hsc.out, hd.out]; exact scan_zero (by decide)) (by decide))
                clear hsc
                go_wp2
                go_ret3
                exact ⟨by rw [H.out]; rfl, rfl⟩
              · obtain rfl : z = 1 := by omega
                have H := hide (uintAt_ok hal.out (by rw [hsc.out, hd.out]; exact scan_last (by omega) (by omega) (by omega)))
                have ho := or_tenth v (by omega)
                clear hsc
                go_wp2
                go_ret3
                exact ⟨by rw [H.out]; rfl, rfl⟩
          · have hj8 : j ≤ 8 := by omega
            have hb9 : ((j : Int) == 9) = false := by rw [beq_eq_false_iff_ne]; omega
            by_cases hz128 : 128 ≤ z
            · have H := hide (show scan (zs.drop a) 0 0 = _ by rw [hsc.out, hd.out, scan_more (by omega) hz128])
              have ho := or_digit v j (z - 128) hvj.out (by omega) (by omega) hj8
              have hlt' := digit_lt (d := (z - 128).toNat) hvj.out (by omega)
              have h8 := pow128_8 hj8
              obtain ⟨v', hv'⟩ : ∃ v' : Nat, v' = v + (z - 128).toNat * 128 ^ j := ⟨_, rfl⟩
              rw [← hv'] at ho hlt'
              have hb' : v' ≤ 9223372036854775807 := by omega
              have hvj' := hide (show v' < 128 ^ (j + 1) by rw [pow128_succ]; exact hlt')
              rw [show z.toNat - 128 = (z - 128).toNat by omega, ← hv'] at H
              clear hsc hvj hlt' h8 hv'
              go_wp2
              go_round
              case rel => exact ⟨v', j + 1, hb', by omega, by omega, rfl, rfl, rfl, rfl, by go_num, hvj', H⟩
              case measure => simp [intOf]; omega
            · by_cases hzz : z = 0 ∧ 0 < j
              · obtain ⟨rfl, hj0⟩ := hzz
                have H := hide (uintAt_err hal.out (by rw [hsc.out, hd.out]; exact scan_zero hj0) (by decide))
                clear hsc hvj
                go_wp2
                go_ret3
                exact ⟨by rw [H.out]; rfl, rfl⟩
              · have H := hide (uintAt_ok hal.out (by rw [hsc.out, hd.out]; exact scan_last (by omega) (by omega) (by omega)))
                have ho := or_digit v j z hvj.out (by omega) (by omega) hj8
                obtain ⟨v', hv'⟩ : ∃ v' : Nat, v' = v + z.toNat * 128 ^ j := ⟨_, rfl⟩
                rw [← hv'] at ho H
                have hv0 : z = 0 → v' = v := by rintro rfl; simp [hv']
                have hvz := hide (show j = 0 → v < 1 by rintro rfl; exact hvj.out)
                clear hsc hvj hv'
                by_cases hz00 : z = 0
                · subst hz00
                  obtain rfl : j = 0 := by omega
                  obtain rfl : v = 0 := by have h := hvz.out; omega
                  obtain rfl := hv0 rfl
                  have ho2 : bits BinOp.or IntKind.u64 0 0 = 0 := by decide
                  rw [Nat.add_zero] at hc'
                  clear ho hv0
                  go_wp2
                  go_ret3
                  exact ⟨by rw [H.out]; rfl, rfl⟩
                · have hb0 : (z == 0) = false := by rw [beq_eq_false_iff_ne]; exact hz00
                  go_wp2
                  go_ret3
                  exact ⟨by rw [H.out]; rfl, rfl⟩
        · have H := hide (uintAt_err (zs := zs) (a := a) (e := 1) (by have := hn.out; omega) (by rw [hsc.out, List.drop_eq_nil_of_le (by have := hn.out; omega)]; rfl) (by decide))
          clear hs hsc
          go_wp2
          go_ret3
          exact ⟨by rw [H.out]; rfl, rfl⟩
end Go.Proofs.YtlcmcmocjbeocaaGreatDoor
end
