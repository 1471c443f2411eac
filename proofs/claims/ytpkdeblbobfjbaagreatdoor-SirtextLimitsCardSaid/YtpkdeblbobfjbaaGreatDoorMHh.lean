import Derived.Test.YtpkdeblbobfjbaaGreatDoorMHa
import Derived.Test.YtpkdeblbobfjbaaGreatDoorMHg
import Derived.Test.YtpkdeblbobfjbaaGreatDoorMGw
import Derived.Test.YtpkdeblbobfjbaaGreatDoorMPrsame
import Derived.Test.YtpkdeblbobfjbaaGreatDoorMTlaid
import Derived.Test.YtpkdeblbobfjbaaGreatDoorMGt
import Derived.HandedShaped
import Derived.Shelf.Vars
import Derived.Stop.LaidErr
set_option linter.unusedVariables false
set_option linter.unusedSimpArgs false
section
/-
  The text at its limit (chapter 7): what its reading gives.
-/
namespace Go.Proofs.YtpkdeblbobfjbaaGreatDoor
open Go.RowKit

def longL : List UInt8 := [102, 117, 110, 99, 32, 48, 10, 114, 101, 116, 117, 114, 110, 10, 35]
theorem take_all {c : UInt8} (h : c ≠ 10) (n : Nat) : (35 :: List.replicate n c).takeWhile (· != 10) = 35 :: List.replicate n c ∧ (35 :: List.replicate n c).dropWhile (· != 10) = [] := by
  have hb : (c != 10) = true := by simpa using h
  have h1 : (List.replicate n c).takeWhile (· != 10) = List.replicate n c ∧ (List.replicate n c).dropWhile (· != 10) = [] := by
    induction n with
    | zero => exact ⟨rfl, rfl⟩
    | succ n ih => rw [List.replicate_succ, List.takeWhile_cons, List.dropWhile_cons, if_pos hb, if_pos hb, ih.1, ih.2]; exact ⟨rfl, rfl⟩
  rw [List.takeWhile_cons, List.dropWhile_cons, if_pos (by decide), if_pos (by decide), h1.1, h1.2]
  exact ⟨rfl, rfl⟩
theorem words_note (t : List UInt8) : wordsU (35 :: t) = [] := by
  have := splU_cut (35 :: t) []
  unfold wordsU
  rw [this]
  rfl
theorem long_run (n : Nat) : runU [] 0 (longL ++ List.replicate n 120) = (0, 0, [⟨0, [], [⟨23, 0, 0, 0, 0⟩]⟩]) := by
  have e1 : lnU [] (longL ++ List.replicate n 120) = (0, [⟨0, [], []⟩]) := rfl
  have e2 : lnU [⟨0, [], []⟩] ([114, 101, 116, 117, 114, 110, 10, 35] ++ List.replicate n 120) = (0, [⟨0, [], [⟨23, 0, 0, 0, 0⟩]⟩]) := rfl
  rw [runU_more (c := 10) (t := [114, 101, 116, 117, 114, 110, 10, 35] ++ List.replicate n 120) (by rw [e1]) rfl, e1]
  rw [runU_more (c := 10) (t := 35 :: List.replicate n 120) (by rw [e2]) rfl, e2]
  obtain ⟨h1, h2⟩ := take_all (c := 120) (by decide) n
  have e3 : lnU [⟨0, [], [⟨23, 0, 0, 0, 0⟩]⟩] (35 :: List.replicate n 120) = (0, [⟨0, [], [⟨23, 0, 0, 0, 0⟩]⟩]) := by
    unfold lnU
    rw [h1, words_note]
    rfl
  rw [runU_last (by rw [e3]) h2, e3]
theorem long_fits {n : Nat} (h : n ≤ 65521) : parseU (longL ++ List.replicate n 120) = (0, 0, [⟨0, [], [⟨23, 0, 0, 0, 0⟩]⟩]) := by
  unfold parseU
  rw [if_neg (by rw [List.length_append, List.length_replicate]; have : longL.length = 15 := rfl; omega), long_run]
  rfl
theorem long_many {n : Nat} (h : 65521 < n) : parseU (longL ++ List.replicate n 120) = (0, 3, []) := by
  unfold parseU
  rw [if_pos (by rw [List.length_append, List.length_replicate]; have : longL.length = 15 := rfl; omega)]
end Go.Proofs.YtpkdeblbobfjbaaGreatDoor
end

section
/-
  The walk of the law on limits (chapter 7): for all numbers it returns true, and what was in memory before the call is as it was. Conditions: those of the types; the listed tables lie as their initialisers lay them.
-/
namespace Go.Proofs.YtpkdeblbobfjbaaGreatDoor
open Go.RowKit

/-- What the laws of Parse ask of the memory. -/
structure Tabz (w : World) : Prop where
  m : MaxL w
  e : ErrR w
  t : Synt w
  s : Shapes w
theorem Tabz.below {w w' : World} (h : Tabz w) (hb : Below w.heap.size w w') : Tabz w' := ⟨h.m.below hb, h.e.below hb, h.t.below hb, h.s.below hb⟩
theorem dtp_any (s : List UInt8) (w : World) (hs1 : s.length ≤ 100000000) (h : Hid (Tabz w)) : Calls Tryz.prog 11 #[.string ⟨s.toArray⟩] w (PtPost s w) :=
  dtparse_any s w hs1 (hide h.out.m) (hide h.out.e) (hide h.out.t) (hide h.out.s)

def lits8 : List (List UInt8) :=
  [[49, 56, 52, 52, 54, 55, 52, 52, 48, 55, 51, 55, 48, 57, 53, 53, 49, 54, 49, 53], [49, 56, 52, 52, 54, 55, 52, 52, 48, 55, 51, 55, 48, 57, 53, 53, 49, 54, 49, 54], [57, 57, 57, 57, 57, 57, 57, 57, 57, 57, 57, 57, 57, 57, 57, 57, 57, 57, 57, 57],
   [49, 48, 48, 48, 48, 48, 48, 48, 48, 48, 48, 48, 48, 48, 48, 48, 48, 48, 48, 48, 48], [48, 48], [48], [45, 49], []]
theorem lits_at {d : Nat} (h : d < 8) : ∃ l, lits8[d]? = some l ∧ l.length ≤ 30 := by
  have h1 : ∀ l ∈ lits8, l.length ≤ 30 := by decide
  exact ⟨lits8[d]'h, List.getElem?_eq_getElem h, h1 _ (List.getElem_mem h)⟩
/-- i bytes 'x', the rest zero. -/
def xcells (i N : Nat) : List Value := List.replicate i (.int .u8 120) ++ List.replicate (N - i) (.int .u8 0)
theorem xcells_len {i N : Nat} (h : i ≤ N) : (xcells i N).length = N := by unfold xcells; rw [List.length_append, List.length_replicate, List.length_replicate]; omega
theorem xcells_set {i N : Nat} (h : i < N) : (xcells i N).set i (.int .u8 120) = xcells (i + 1) N := by
  unfold xcells
  rw [List.set_append_right _ _ (by rw [List.length_replicate]; exact Nat.le_refl _), List.length_replicate, Nat.sub_self, show N - i = (N - (i + 1)) + 1 by omega, List.replicate_succ, List.set_cons_zero, List.replicate_succ', List.append_assoc]
  rfl
theorem xcells_get {i N : Nat} (h : i < N) : (xcells i N)[i]? = some (.int .u8 0) := by
  unfold xcells
  rw [List.getElem?_append_right (by rw [List.length_replicate]; exact Nat.le_refl _), List.length_replicate, Nat.sub_self, List.getElem?_replicate]
  rw [if_pos (by omega)]
theorem xcells_full {N j : Nat} (h : j < N) : (xcells N N)[j]? = some (.int .u8 120) := by
  unfold xcells
  rw [List.getElem?_append_left (by rw [List.length_replicate]; exact h), List.getElem?_replicate, if_pos h]
theorem xcells_zero (N : Nat) : xcells 0 N = List.replicate N (.int .u8 0) := by unfold xcells; simp

theorem make_u8 {P : Program} {t e : TypeId} {i : TypeInfo} (ht : P.underlying t = some (.slice e)) (hi : P.info? e = some i) (hz : i.zero = some (.int .u8 0)) (hs : i.size = 1) (hb : i.bytes = 1)
    (n : Nat) (hm : n ≤ 100000) (W : World) :
    (Instr.makeSlice t (.int .i64 (n : Int)) (.int .i64 (n : Int))).run P W = .ok (.slice (some ⟨W.heap.size, 0, none⟩) n n) (W.alloc (.cells (xcells 0 n).toArray e)) := by
  have h := run_make W t e i _ ht hi hz .i64 .i64 (n : Int) (n : Int) (by omega) (by omega) (by rw [hb]; omega) (by omega)
  rw [h, show ((n : Int)).toNat = n by omega, hs, Nat.mul_one, xcells_zero]
  rw [show (Value.int IntKind.u8 0).cells = #[Value.int IntKind.u8 0] from rfl, madeCells_list]
theorem Tryz.info5w : (Tryz.prog.info? 5).map (fun i => (i.zero, i.size, i.bytes)) = some (some (.int .u8 0), 1, 1) := by kernel_rfl
theorem x_bytes {w : World} {g N : Nat} (h : Row w g 5 (xcells N N)) : (convert 22 9 (.slice (some ⟨g, 0, none⟩) N N)).run Tryz.prog w = .ok (.string ⟨(List.replicate N (120 : UInt8)).toArray⟩) w := by
  have := run_convert_bytes_back (P := Tryz.prog) w 22 9 5 ⟨g, 0, none⟩ N (List.replicate N (120 : UInt8)) Tryz.underlying22 Tryz.underlying5 Tryz.underlying9 (fun j hj => by
    have hj' : j < N := by simpa using hj
    rw [Lib.add_plain, Nat.zero_add, h.cell (xcells_full hj')]
    simp)
  rwa [List.length_replicate] at this

set_option maxHeartbeats 8000000 in
set_option maxRecDepth 100000 in
theorem limlaw_walk (z x : Int) (w : World) (hz1 : -128 ≤ z) (hz2 : z ≤ 127) (hx1 : 0 ≤ x) (hx2 : x ≤ 255) (hT : Hid (Tabz w)) (hP : Lib.TabIs Tryz.prog w "internal/strconv.uint64pow10" .u64 Lib.pow10Tab) :
    Calls Tryz.prog 5 #[.int .i8 z, .int .u8 x] w fun e w' => e = .returned (.bool true) ∧ Below w.heap.size w w' := by
  have ca := awake_any w hP (hide hT.out.t)
  obtain ⟨d, hd8, hxd⟩ : ∃ d : Nat, d < 8 ∧ x.tmod 8 = (d : Int) := ⟨(x % 8).toNat, by omega, by rw [Int.tmod_eq_emod_of_nonneg hx1]; omega⟩
  obtain ⟨l8, hl8, hlen8⟩ := lits_at hd8
  obtain ⟨rr, hrr, hr1, hr2⟩ : ∃ rr : Int, z.tmod 2 = rr ∧ -1 ≤ rr ∧ rr ≤ 1 := by
    refine ⟨z.tmod 2, rfl, ?_⟩
    rcases Int.le_total 0 z with h | h
    · rw [Int.tmod_eq_emod_of_nonneg h]; omega
    · rw [show z = -(-z) by omega, Int.neg_tmod, Int.tmod_eq_emod_of_nonneg (by omega)]; omega
  obtain ⟨NN, hNN⟩ : ∃ NN : Nat, (65521 : Int) + rr = (NN : Int) := ⟨((65521 : Int) + rr).toNat, by omega⟩
  clear hP
  go_enter Tryz.func5, Tryz.ntmps5
  go_wp2_with fail
  refine ca.mono ?_
  rintro e w1 ⟨rfl, hb1⟩
  have B1 := hide hb1
  have T1 := hide (hT.out.below hb1)
  clear ca hb1
  obtain ⟨W2, hW2⟩ : ∃ W2, w1.alloc (.cells (wcells lits8).toArray 9) = W2 := ⟨_, rfl⟩
  have R2 := Row.new w1 9 (wcells lits8)
  rw [hW2] at R2
  have q0 := R2.cell (k := d) (v := .string ⟨l8.toArray⟩) (by unfold wcells; rw [List.getElem?_map, hl8]; rfl)
  have B2 := hide (show Below w.heap.size w W2 by rw [← hW2]; exact B1.out.alloc B1.out.size _)
  have T2 := hide (hT.out.below B2.out)
  have hd8z : (d : Int) < 8 := by omega
  have hd0z : (0 : Int) ≤ (d : Int) := by omega
  obtain ⟨S1, hS1⟩ : ∃ S1, [102, 117, 110, 99, 32, 48, 10, 99, 111, 110, 115, 116, 32, 114, 48, 32] ++ l8 = S1 := ⟨_, rfl⟩
  obtain ⟨S, hS⟩ : ∃ S, S1 ++ [10, 114, 101, 116, 117, 114, 110, 10] = S := ⟨_, rfl⟩
  have hc1 : ((⟨#[102, 117, 110, 99, 32, 48, 10, 99, 111, 110, 115, 116, 32, 114, 48, 32]⟩ : ByteArray) ++ ⟨l8.toArray⟩) = ⟨S1.toArray⟩ := by rw [← hS1]; exact cat_eq [102, 117, 110, 99, 32, 48, 10, 99, 111, 110, 115, 116, 32, 114, 48, 32] l8
  have hc2 : ((⟨S1.toArray⟩ : ByteArray) ++ ⟨#[10, 114, 101, 116, 117, 114, 110, 10]⟩) = ⟨S.toArray⟩ := by rw [← hS]; exact cat_eq S1 [10, 114, 101, 116, 117, 114, 110, 10]
  have hl1 : S1.length ≤ 46 := by rw [← hS1, List.length_append]; simp only [List.length_cons, List.length_nil]; omega
  have hl : S.length ≤ 54 := by rw [← hS, List.length_append]; simp only [List.length_cons, List.length_nil]; omega
  have HW2 := hide (show w1.alloc (.cells #[.string ⟨#[49, 56, 52, 52, 54, 55, 52, 52, 48, 55, 51, 55, 48, 57, 53, 53, 49, 54, 49, 53]⟩, .string ⟨#[49, 56, 52, 52, 54, 55, 52, 52, 48, 55, 51, 55, 48, 57, 53, 53, 49, 54, 49, 54]⟩, .string ⟨#[57, 57, 57, 57, 57, 57, 57, 57, 57, 57, 57, 57, 57, 57, 57, 57, 57, 57, 57, 57]⟩, .string ⟨#[49, 48, 48, 48, 48, 48, 48, 48, 48, 48, 48, 48, 48, 48, 48, 48, 48, 48, 48, 48, 48]⟩, .string ⟨#[48, 48]⟩, .string ⟨#[48]⟩, .string ⟨#[45, 49]⟩, .string ⟨#[]⟩] 9) = W2 from hW2)
  clear hW2 R2 hl8 hS1 hS
  have hLL : ((⟨l8.toArray⟩ : ByteArray)).size = l8.length := str_size _
  have q1 : ∀ (hh : w1.alloc (.cells #[.string ⟨#[49, 56, 52, 52, 54, 55, 52, 52, 48, 55, 51, 55, 48, 57, 53, 53, 49, 54, 49, 53]⟩, .string ⟨#[49, 56, 52, 52, 54, 55, 52, 52, 48, 55, 51, 55, 48, 57, 53, 53, 49, 54, 49, 54]⟩, .string ⟨#[57, 57, 57, 57, 57, 57, 57, 57, 57, 57, 57, 57, 57, 57, 57, 57, 57, 57, 57, 57]⟩, .string ⟨#[49, 48, 48, 48, 48, 48, 48, 48, 48, 48, 48, 48, 48, 48, 48, 48, 48, 48, 48, 48, 48]⟩, .string ⟨#[48, 48]⟩, .string ⟨#[48]⟩, .string ⟨#[45, 49]⟩, .string ⟨#[]⟩] 9) = W2), True := fun _ => trivial
  clear q1
  rw [← HW2.out] at q0
  go_upto_region 4 with (fail)
  rw [HW2.out]
  clear q0 hc1 hc2
  go_wp2_with fail
  refine (dtp_any S W2 (by omega) T2).mono ?_
  rintro e w3 ⟨A, n, c, hs, rfl, hp3, hb3⟩
  have c2 := fun W => rtparse_any S W (by omega)
  unfold PtPost at c2
  obtain ⟨⟨x1, x2, xF⟩, hx⟩ : ∃ x, parseU S = x := ⟨_, rfl⟩
  rw [hx] at hp3 c2 ⊢
  dsimp only at hp3 c2 ⊢
  obtain ⟨W4, hW4⟩ : ∃ W4, w3.alloc (.cells #[.slice A n c] 29) = W4 := ⟨_, rfl⟩
  have R4 := hide (show Row W4 w3.heap.size 29 [.slice A n c] by rw [← hW4]; exact Row.new w3 29 [.slice A n c])
  have B3 := hide (B2.out.trans (hb3.mono B2.out.size))
  have B4 := hide (show Below w.heap.size w W4 by rw [← hW4]; exact B3.out.alloc B3.out.size _)
  have P4 := hide (show PgAt W4 W2.heap.size W4.heap.size A n c hs xF by rw [← hW4]; exact hp3.alloc _)
  have HW4 := hide hW4
  clear hW4 hp3 hb3 hx
  go_upto_region 5 with (fail)
  rw [HW4.out]
  clear HW4
  go_wp2_with fail
  refine (c2 W4).mono ?_
  rintro e w5 ⟨A', n', c', hs', rfl, hp5, hb5⟩
  dsimp only
  obtain ⟨W6, hW6⟩ : ∃ W6, w5.alloc (.cells #[.slice A' n' c'] 29) = W6 := ⟨_, rfl⟩
  have R6 := hide (show Row W6 w5.heap.size 29 [.slice A' n' c'] by rw [← hW6]; exact Row.new w5 29 [.slice A' n' c'])
  have B5 := hide (B4.out.trans (hb5.mono B4.out.size))
  have B6 := hide (show Below w.heap.size w W6 by rw [← hW6]; exact B5.out.alloc B5.out.size _)
  have P6 := hide (show PgAt W6 W4.heap.size W6.heap.size A' n' c' hs' xF by rw [← hW6]; exact hp5.alloc _)
  have R46 := hide (show Row W6 w3.heap.size 29 [.slice A n c] by rw [← hW6]; exact (R4.out.call hb5).alloc _)
  have P46 := hide (show PgAt W6 W2.heap.size W6.heap.size A n c hs xF by rw [← hW6]; exact (P4.out.call hb5).alloc _)
  have HW6 := hide hW6
  clear hW6 hp5 hb5 c2
  go_upto_region 7 with (fail)
  rw [HW6.out]
  clear HW6
  obtain ⟨u0, ui, uz0, uz1, uz2⟩ := info_parts Tryz.info5w
  have hmk := make_u8 (P := Tryz.prog) Tryz.underlying22 ui uz0 uz1 uz2 NN (by omega) W6
  have hwz : IntKind.i64.wrap z = z := by rw [IntKind.wrap_i64]; omega
  have hwr : IntKind.i64.wrap (65521 + rr) = (NN : Int) := by rw [IntKind.wrap_i64]; omega
  go_upto_region 9 with (fail)
  obtain ⟨G, hG⟩ : ∃ G, W6.heap.size = G := ⟨_, rfl⟩
  obtain ⟨W7, hW7⟩ : ∃ W7, W6.alloc (.cells (xcells 0 NN).toArray 5) = W7 := ⟨_, rfl⟩
  have R7 := hide (show Row W7 G 5 (xcells 0 NN) by rw [← hW7, ← hG]; exact Row.new W6 _ _)
  have B7 := hide (show Below W6.heap.size W6 W7 by rw [← hW7]; exact (Below.refl _ _).alloc (Nat.le_refl _) _)
  rw [hW7, hG]
  have HG := hide hG
  have HNN := hide hNN
  have hNb : NN ≤ 65522 := by omega
  have hNz : (NN : Int) ≤ 65522 := by omega
  obtain ⟨RL, hRL⟩ : ∃ RL, List.replicate NN (120 : UInt8) = RL := ⟨_, rfl⟩
  obtain ⟨LS, hLS⟩ : ∃ LS, longL ++ RL = LS := ⟨_, rfl⟩
  have hcl : ((⟨#[102, 117, 110, 99, 32, 48, 10, 114, 101, 116, 117, 114, 110, 10, 35]⟩ : ByteArray) ++ ⟨RL.toArray⟩) = ⟨LS.toArray⟩ := by rw [← hLS]; exact cat_eq longL RL
  have hlsz : LS.length ≤ 100000 := by rw [← hLS, ← hRL, List.length_append, List.length_replicate]; have : longL.length = 15 := rfl; omega
  have HPV : Hid ((parseU LS).1 = 0 ∧ ((0 < rr ∧ (parseU LS).2.1 = 3) ∨ (¬ 0 < rr ∧ (parseU LS).2.1 = 0))) := hide (by
    rw [← hLS, ← hRL]
    by_cases hp : 0 < rr
    · rw [long_many (by omega)]; exact ⟨rfl, .inl ⟨hp, rfl⟩⟩
    · rw [long_fits (by omega)]; exact ⟨rfl, .inr ⟨hp, rfl⟩⟩)
  have HRL := hide hRL
  have hrl : RL.length ≤ 65522 := by rw [← hRL, List.length_replicate]; omega
  clear hW7 hmk hwr hG hNN hLS hRL
  go_loopw [14] (fun iv wr => ∃ i : Nat, i ≤ NN ∧ iv = .int .i64 (i : Int) ∧ Hid (Row wr G 5 (xcells i NN)) ∧ Hid (Below W6.heap.size W6 wr)) (fun iv _ => NN - (intOf iv).toNat)
  case atStart => exact ⟨0, Nat.zero_le _, rfl, R7, B7⟩
  case round =>
    obtain ⟨i, hi, rfl, HR, HB⟩ := hrel
    by_cases hlt : i < NN
    · have hltz : (i : Int) < (NN : Int) := by omega
      have c0 := HR.out.cell (xcells_get hlt)
      have c1 := HR.out.free i
      have R8 := hide (show Row (wr.setCell ⟨G, i, none⟩ (.int .u8 120)) G 5 (xcells (i + 1) NN) by rw [← xcells_set hlt]; exact HR.out.set_ i (.int .u8 120))
      have B8 := hide (HB.out.setCell (p := ⟨G, i, none⟩) (by have := HG.out; simp only; omega) (.int .u8 120))
      go_wp2_with fail
      go_roundw
      case rel => exact ⟨i + 1, by omega, by go_num, R8, B8⟩
      case measure => simp [intOf]; omega
    · have hltz : ¬ ((i : Int) < (NN : Int)) := by omega
      have hiN : i = NN := by omega
      have hcv := x_bytes (show Row wr G 5 (xcells NN NN) by have := HR.out; rwa [hiN] at this)
      rw [HRL.out] at hcv
      have BW := hide (B6.out.trans (HB.out.mono B6.out.size))
      have cq := dtp_any LS wr (by omega) (hide (hT.out.below BW.out))
      have R4r := hide (R46.out.call HB.out)
      have R6r := hide (R6.out.call HB.out)
      have P4r := hide (P46.out.call HB.out)
      have P6r := hide (P6.out.call HB.out)
      obtain ⟨⟨y1, y2, yF⟩, hy⟩ : ∃ y, parseU LS = y := ⟨_, rfl⟩
      unfold PtPost at cq
      rw [hy] at cq HPV
      clear hiN hlt hy
      dsimp only at HPV
      go_wp2_with fail
      refine cq.mono ?_
      rintro e w9 ⟨A9, n9, c9, hs9, rfl, hp9, hb9⟩
      have BZ := hide ((BW.out.trans (hb9.mono BW.out.size)).alloc (BW.out.trans (hb9.mono BW.out.size)).size (.cells #[.slice A9 n9 c9] 29))
      have R4z := hide ((R4r.out.call hb9).alloc (.cells #[.slice A9 n9 c9] 29))
      have R6z := hide ((R6r.out.call hb9).alloc (.cells #[.slice A9 n9 c9] 29))
      have P4z := hide ((P4r.out.call hb9).alloc (.cells #[.slice A9 n9 c9] 29))
      have P6z := hide ((P6r.out.call hb9).alloc (.cells #[.slice A9 n9 c9] 29))
      clear cq hcv hp9 hb9
      dsimp only at BZ R4z R6z P4z P6z ⊢
      go_upto_region 13 with (fail)
      generalize w9.alloc (.cells #[.slice A9 n9 c9] 29) = wz at BZ R4z R6z P4z P6z ⊢
      have cs := rsame_any A n c hs xF A' n' c' hs' xF W2.heap.size W4.heap.size wz.heap.size wz.heap.size wz P4z P6z (Nat.le_refl _) (Nat.le_refl _)
      rw [show decide (xF = xF) = true by simp] at cs
      have t4 := R4z.out.cell (k := 0) rfl
      have t6 := R6z.out.cell (k := 0) rfl
      obtain ⟨hy1, hy2⟩ := HPV.out
      rcases hy2 with ⟨hp, hy2⟩ | ⟨hp, hy2⟩
      all_goals
        subst hy1 hy2
        go_wp2_with fail
        refine cs.mono ?_
        rintro e wf ⟨rfl, hbf⟩
        have FIN := hide (BZ.out.trans (hbf.mono BZ.out.size))
        clear cs hbf
        go_wp2_with fail
        go_ret
        exact ⟨rfl, FIN.out⟩
end Go.Proofs.YtpkdeblbobfjbaaGreatDoor
end

section
/-
  What the rows of Parse give the walks: the listed sentinel strconv.ErrRange, the library's greatest length out of the world's shape; a row's wrap that hands on both a condition on the world and its shape.
-/
namespace Go.Proofs.YtpkdeblbobfjbaaGreatDoor
open Go.ChangeShapes Go.WideShapes Go.ChangeAt Go.RowKit Go.Joins Go.Deep

theorem handed_and_shaped {H : Type} {enc : TypeId × Value → H} {a : Assume} {C : Checked} {os : Os} {f : FuncId} {fn : Func} {s : ChangeSpec} {conds : List PathCond} {apart fresh handsOn again : Bool} {X : World → Array Value → Prop}
    (hX : ∀ (w w' : World) (args : Array Value), w.heap = w'.heap → X w args → X w' args)
    (own : ownKnob C.prog.godebug = none) (started : os.Started) (noInit : C.prog.inits.idxOf? f = none) (hfn : C.prog.funcs[f]? = some fn)
    (witness : ∃ (w : World) (tape : Tape) (i : Input), w.os = os ∧ (w.forCall tape i).Shaped C.prog ∧ i.vars = [] ∧ Input.okWide C.prog (w.forCall tape i) .any w.heap.size f i ∧
      ((s.pre enc C.prog fn conds apart (w.forCall tape i).memory i.args ∧ X (w.forCall tape i).memory i.args) ∧ sizedMet enc C.prog fn (OpenSpec.ofChange s) apart (w.forCall tape i).memory i.args) ∧ a.holds C.prog (lone (Frame.enter C.prog f i.args .normal) [] (w.forCall tape i)))
    (contract : ∀ (W : World) (base : Nat) (args : Array Value) (ds gs : List (DataW H)) (before : List MemPlace),
      (∀ (j : Nat) t v, fn.params[j]? = some t → args[j]? = some v → Value.okWide C.prog W .any base t v) →
      DataW.Whole enc C.prog fn.params.toList s.vars apart W args.toList ds gs before → X W args → W.ShapedOpen C.prog →
      Calls C.prog f args W fun e W' => ∃ v, e = .returned v ∧ s.post enc C.prog fn apart fresh handsOn again W args v W') :
    ReturnsInHanded a C os f .any (fun w args => (s.pre enc C.prog fn conds apart w args ∧ X w args) ∧ sizedMet enc C.prog fn (OpenSpec.ofChange s) apart w args) (s.post enc C.prog fn apart fresh handsOn again) := by
  refine returnsInHanded_of_calls own started noInit witness ?_
  intro w tape i _ hsh _ hok hpre _
  obtain ⟨_, _, _, fn', hfn', _, _, _, _, hval⟩ := hok
  have e : fn' = fn := Option.some.inj (hfn'.symm.trans hfn)
  subst e
  obtain ⟨⟨⟨ds, gs, before, hw, _⟩, hx⟩, _⟩ := hpre
  have hw' := DataW.Whole.of_heap (w' := w.forCall tape i) (by rfl) hw
  refine (contract (w.forCall tape i) w.heap.size i.args ds gs before hval hw' (hX _ _ _ (by rfl) hx) hsh).mono fun e W' ⟨v, he, hp⟩ => ?_
  subst he
  exact ChangeSpec.post_blind hp
theorem maxl_of_shaped {W : World} (hsh : W.ShapedOpen Tryz.prog) : MaxL W :=
  cell_of_shapedOpen_int (P := Tryz.prog) (g := 1) (t := 3) (zero := #[.int .i64 0]) hsh (of_decide_eq_true (by kernel_rfl)) (by kernel_rfl) rfl (by kernel_rfl) (by kernel_rfl) Tryz.underlying3
theorem es_star : "*" ++ "errors.errorString" = "*errors.errorString" := by decide
theorem es_row (u : TypeId) (h : Tryz.prog.typeName? 3 u = some "*errors.errorString") : u = 183 :=
  typeName_ptr_named (nm := "errors.errorString") (by rw [es_star]; kernel_rfl) (by kernel_rfl) (by decide) u (by rw [es_star]; exact h)
theorem gER : Tryz.prog.globalNamed "strconv.ErrRange" = some 7 := by kernel_rfl
theorem tER : (Tryz.prog.globals[7]?).map (·.type) = some 105 := by kernel_rfl
theorem er_of_head {W : World} {rest : List (String × DataW Unit)} (h : laidMet Tryz.prog (("strconv.ErrRange", Rows.laid_strconv_ErrRange) :: rest) W) : ErrR W := by
  unfold Rows.laid_strconv_ErrRange at h
  obtain ⟨a, s, hv, _⟩ := laid_sentinel h gER tER Tryz.underlying105 es_row Tryz.underlying183 Tryz.underlying185 rfl rfl Tryz.underlying9 (by kernel_rfl) (by kernel_rfl)
  exact ⟨_, _, by have := World.var?_cell gER hv 0; simpa using this⟩
end Go.Proofs.YtpkdeblbobfjbaaGreatDoor
end
