import Derived.Test.YtlhaendgdeflkaaGreatDoorMQshp
import Derived.Test.YtlhaendgdeflkaaGreatDoorMGa
import Derived.Test.YtlhaendgdeflkaaGreatDoorShelf
import Derived.Lib.Join
import Derived.Lib.ItoaLen
import Derived.Lib.ItoaMem
import Derived.Lib.ItoaWalk
import Derived.Laws.IdiomStrings
import Derived.Lib.AppendIntMem
set_option linter.unusedVariables false
set_option linter.unusedSimpArgs false
section
/-
  The mathematics of the text of instructions, functions, programs: lists of bytes. Nothing here names the program.
-/
namespace Go.Proofs.YtlhaendgdeflkaaGreatDoor
open Go.RowKit

/-- The names of the operations. -/
def namesT : List (List UInt8) :=
  [[99, 111, 110, 115, 116], [99, 111, 112, 121], [97, 100, 100], [115, 117, 98], [109, 117, 108], [100, 105, 118], [97, 110, 100], [111, 114], [120, 111, 114], [108, 101, 115, 115], [101, 113, 117, 97, 108], [112, 97, 105, 114],
   [104, 105, 103, 104], [105, 110], [111, 117, 116], [108, 111, 97, 100], [115, 116, 111, 114, 101], [109, 111, 118, 101], [97, 114, 103], [112, 97, 114, 97, 109], [106, 117, 109, 112], [98, 114, 97, 110, 99, 104], [99, 97, 108, 108],
   [114, 101, 116, 117, 114, 110], [116, 114, 97, 112]]
def nameT (op : Int) : List UInt8 := namesT.getD op.toNat []
/-- The letters of the operands of each operation, as a program may keep them: 'i' is Imm. -/
def lettersT : List (List UInt8) :=
  [[114, 105], [114, 114], [114, 114, 114], [114, 114, 114], [114, 114, 114], [114, 114, 114], [114, 114, 114], [114, 114, 114], [114, 114, 114], [114, 114, 114], [114, 114, 114], [114, 114, 114],
   [114, 114], [114], [114], [114, 115], [115, 114], [115, 115], [97, 114], [114, 97], [64], [114, 64], [102], [], [105]]
def lettT (op : Int) : List UInt8 := lettersT.getD op.toNat []
/-- The mark of a kind of operand. -/
def markT (k : Int) : List UInt8 := if k = 1 then [114] else if k = 2 then [115] else if k = 3 then [102] else if k = 6 then [64] else [97]
def opdT (k n : Int) : List (List UInt8) := if k = 0 then [] else [markT k ++ Lib.itoa n]
def immT (m : Bool) (n : Int) : List (List UInt8) := if m then [Lib.decDigits n.toNat] else []
/-- The words of an instruction. -/
def wordsT (x : Ins) : List (List UInt8) := nameT x.op :: (opdT (shpOf x.op).1 x.a ++ (opdT (shpOf x.op).2.1 x.b ++ (opdT (shpOf x.op).2.2.1 x.c ++ immT (shpOf x.op).2.2.2 x.imm)))
def insT (x : Ins) : List UInt8 := if withB x.op 25 then Lib.join (wordsT x) [32] else [63]
/-- The word of one letter. -/
def abcT (x : Ins) (i : Nat) : Int := if i = 0 then x.a else if i = 1 then x.b else x.c
def wordT (x : Ins) (i : Nat) (c : UInt8) : List UInt8 := if c = 105 then Lib.decDigits x.imm.toNat else c :: Lib.itoa (abcT x i)
/-- The words of the first k letters. -/
def lwordsT (x : Ins) (k : Nat) : List (List UInt8) := (List.range k).map fun i => wordT x i ((lettT x.op).getD i 0)

theorem op25 {z : Int} (h : withB z 25 = true) : ∃ k : Fin 25, z = (k.val : Int) := by
  have h := withB_true.1 h
  exact ⟨⟨z.toNat, by omega⟩, by simp; omega⟩
theorem lett_len (z : Int) : (lettT z).length ≤ 3 := by
  have h : ∀ l ∈ lettersT, l.length ≤ 3 := by decide
  unfold lettT
  rw [List.getD_eq_getElem?_getD]
  cases e : lettersT[z.toNat]? with
  | none => simp
  | some l => exact h l (List.mem_of_getElem? e)
theorem lett_asc (z : Int) (i : Nat) (c : UInt8) (h : (lettT z)[i]? = some c) : c.toNat < 128 := by
  have H : ∀ l ∈ lettersT, ∀ c ∈ l, c.toNat < 128 := by decide
  unfold lettT at h
  rw [List.getD_eq_getElem?_getD] at h
  cases e : lettersT[z.toNat]? with
  | none => rw [e] at h; simp at h
  | some l => rw [e] at h; exact H l (List.mem_of_getElem? e) c (List.mem_of_getElem? h)
/-- The words by letters are the words by kinds. -/
theorem words_lett {x : Ins} (h : withB x.op 25 = true) : wordsT x = nameT x.op :: lwordsT x (lettT x.op).length := by
  obtain ⟨k, hk⟩ := op25 h
  unfold wordsT
  congr 1
  obtain ⟨o, a, b, c, m⟩ := x
  dsimp only at hk ⊢
  subst hk
  match k with
  | ⟨0, _⟩ => rfl
  | ⟨1, _⟩ => rfl
  | ⟨2, _⟩ => rfl
  | ⟨3, _⟩ => rfl
  | ⟨4, _⟩ => rfl
  | ⟨5, _⟩ => rfl
  | ⟨6, _⟩ => rfl
  | ⟨7, _⟩ => rfl
  | ⟨8, _⟩ => rfl
  | ⟨9, _⟩ => rfl
  | ⟨10, _⟩ => rfl
  | ⟨11, _⟩ => rfl
  | ⟨12, _⟩ => rfl
  | ⟨13, _⟩ => rfl
  | ⟨14, _⟩ => rfl
  | ⟨15, _⟩ => rfl
  | ⟨16, _⟩ => rfl
  | ⟨17, _⟩ => rfl
  | ⟨18, _⟩ => rfl
  | ⟨19, _⟩ => rfl
  | ⟨20, _⟩ => rfl
  | ⟨21, _⟩ => rfl
  | ⟨22, _⟩ => rfl
  | ⟨23, _⟩ => rfl
  | ⟨24, _⟩ => rfl
theorem lwords_succ (x : Ins) (k : Nat) : lwordsT x (k + 1) = lwordsT x k ++ [wordT x k ((lettT x.op).getD k 0)] := by
  unfold lwordsT
  rw [List.range_succ, List.map_append]
  rfl
theorem lwords_len (x : Ins) (k : Nat) : (lwordsT x k).length = k := by unfold lwordsT; simp
/-- How long a word is. -/
theorem word_len {x : Ins} (i : Nat) (c : UInt8) (hm : 0 ≤ x.imm) (hM : x.imm ≤ 18446744073709551615) (ha : ∀ j, -9223372036854775808 ≤ abcT x j ∧ abcT x j ≤ 9223372036854775807) : (wordT x i c).length ≤ 22 := by
  unfold wordT
  split
  · rw [Lib.decDigits_length]; have := Lib.nDigits_le20 x.imm.toNat (by omega); omega
  · have := Lib.itoa_length_le (abcT x i) (ha i).1 (ha i).2
    simp only [List.length_cons]; omega
/-- The text as pieces behind each other: a blank and a word. -/
theorem insT_tail {x : Ins} (h : withB x.op 25 = true) : insT x = nameT x.op ++ Lib.joinTail [32] (opdT (shpOf x.op).1 x.a ++ (opdT (shpOf x.op).2.1 x.b ++ (opdT (shpOf x.op).2.2.1 x.c ++ immT (shpOf x.op).2.2.2 x.imm))) := by
  unfold insT wordsT
  rw [if_pos h, Lib.join_cons]
theorem tail_app (a b : List (List UInt8)) : Lib.joinTail [32] (a ++ b) = Lib.joinTail [32] a ++ Lib.joinTail [32] b := by simp [Lib.joinTail]
theorem tail_opd (k n : Int) : Lib.joinTail [32] (opdT k n) = if k = 0 then [] else 32 :: (markT k ++ Lib.itoa n) := by
  unfold opdT; split <;> simp [Lib.joinTail]
theorem tail_imm (m : Bool) (n : Int) : Lib.joinTail [32] (immT m n) = if m then 32 :: Lib.decDigits n.toNat else [] := by
  unfold immT; split <;> simp [Lib.joinTail]
end Go.Proofs.YtlhaendgdeflkaaGreatDoor
end

section
/-
  Strings put together: what the walks of the texts use. No function of the program is named here.
-/
namespace Go.Proofs.YtlhaendgdeflkaaGreatDoor
open Go.RowKit

theorem ret_str {l m : List UInt8} (h : l = m) : Ending.returned (.string ⟨l.toArray⟩) = .returned (.string ⟨m.toArray⟩) := by rw [h]
/-- Two strings behind each other. -/
theorem cat_eq (l m : List UInt8) : ((⟨l.toArray⟩ : ByteArray) ++ ⟨m.toArray⟩) = ⟨(l ++ m).toArray⟩ := by
  apply ByteArray.ext; simp
theorem info_str : (Tryz.prog.info? 9).map (fun i => (i.zero, i.size, i.bytes)) = some (some (.string ⟨#[]⟩), 1, 16) := by kernel_rfl
/-- Words as cells. -/
def wcells (l : List (List UInt8)) : List Value := l.map fun x => .string ⟨x.toArray⟩
theorem wcells_len (l : List (List UInt8)) : (wcells l).length = l.length := by simp [wcells]
theorem wcells_app (l m : List (List UInt8)) : wcells (l ++ m) = wcells l ++ wcells m := by simp [wcells]
theorem one_string (s : ByteArray) : ∀ u ∈ [Value.string s], u.oneCell' = true := by
  intro u hu
  simp at hu
  subst hu
  rfl
/-- One concatenation: its result under a letter, and that it is no string too long. -/
theorem cat_step (a b : List UInt8) (h : a.length + b.length ≤ 1000000000) : ∃ r : List UInt8, ((⟨a.toArray⟩ : ByteArray) ++ ⟨b.toArray⟩) = ⟨r.toArray⟩ ∧ ¬ 9223372036854775807 < a.length + b.length ∧ Hid (r = a ++ b) ∧ Hid (r.length = a.length + b.length) :=
  ⟨a ++ b, cat_eq a b, by omega, rfl, by show (a ++ b).length = _; rw [List.length_append]⟩
theorem own_row {w : World} {g base t : Nat} {xs : List Value} (h : Row w g t xs) (hb : base ≤ g) (hm : xs.length ≤ maxLen) : w.ownsRow base t 1 (.slice (some ⟨g, 0, none⟩) xs.length xs.length) xs.length xs :=
  ⟨by omega, .inr ⟨g, xs.length, xs.toArray, rfl, hb, h, Nat.le_refl _, hm, by simp, by simp⟩⟩
theorem own_ne_row {w : World} {base e size n g t : Nat} {v : Value} {xs cs : List Value} (h : w.ownsRow base e size v n xs) (hr : Row w g t cs) (ht : t ≠ e) : some g ≠ v.ownBlock := by
  rcases h.2 with ⟨rfl, _⟩ | ⟨g', cap, cur, rfl, _, hg, _⟩
  · simp [Value.ownBlock]
  · intro he
    simp only [Value.ownBlock, Option.some.injEq] at he
    subst he
    have : some (Obj.cells cs.toArray t (0, 0)) = some (Obj.cells cur e (0, 0)) := hr.symm.trans hg
    injection this with this
    injection this with _ h2 _
    exact ht h2
end Go.Proofs.YtlhaendgdeflkaaGreatDoor
end

section
/-
  Decimal numbers as text: the contracts of strconv.FormatUint at base 10, of the reference's Decimal and Int. Condition of the library's: its table of powers of ten lies as it is laid.
-/
namespace Go.Proofs.YtlhaendgdeflkaaGreatDoor
open Go.RowKit Go.Sort Go.Lib

/-- The library's table of powers of ten, as long as nothing below block B changes. -/
abbrev P10 (B : Nat) (w : World) : Prop := Lib.TabBelow Tryz.prog B w "internal/strconv.uint64pow10" .u64 Lib.pow10Tab

set_option maxHeartbeats 6400000 in
set_option maxRecDepth 100000 in
theorem ifmtu_any (u : Nat) (hu64 : u < 18446744073709551616) (w : World) (htab : Lib.TabIs Tryz.prog w "internal/strconv.uint64pow10" .u64 Lib.pow10Tab) :
    Calls Tryz.prog 54 #[.int .u64 u, .int .i64 10] w fun e w' => e = .returned (.string ⟨(Lib.decDigits u).toArray⟩) ∧ Below w.heap.size w w' := by
  by_cases hs : u < 100
  · have hi : (u : Int) < 100 := by omega
    go_enter Tryz.func54, Tryz.ntmps54
    go_wp2_with (go_at_call 75; refine (Tryz.internal_strconv_small u hs _).mono ?_; rintro e w' ⟨rfl, rfl⟩)
    go_ret
    exact ⟨rfl, Below.refl _ _⟩
  · have hu1 : 1 ≤ u := by omega
    have hnd20 : Lib.nDigits u ≤ 20 := by have := Lib.numDigits_eq u hu1 hu64; split at this <;> omega
    have hal : Tryz.prog.arrayLen 126 = 24 := by kernel_rfl
    have hsl : ∀ W, (Instr.sliceAt 126 (.pointer (some ⟨w.heap.size, 0, none⟩)) none (some (.int .i64 (Lib.nDigits u : Int))) none).run Tryz.prog W = .ok (.slice (some ⟨w.heap.size, 0, none⟩) (Lib.nDigits u) 24) W := fun W => by
      rw [run_sliceAt_array_h W 126 ⟨w.heap.size, 0, none⟩ (by kernel_rfl) .i64 (Lib.nDigits u : Int) (by omega) (by rw [hal]; omega)]
      go_simp
    have hH0 := Lib.holds_zero0 w 126 (Lib.nDigits u) (by omega)
    have hfmt := Tryz.internal_strconv_formatBase10 w.heap.size 0 24 u (Array.replicate (Lib.nDigits u) 0) (w.alloc (.cells Lib.zeros24 126)) hH0 (by rw [Array.size_replicate]; exact Lib.lt_pow_nDigits u) hu64 (by rw [Array.size_replicate]; omega)
    rw [Array.size_replicate] at hfmt
    have HH0 := Lib.hid hH0
    have iu : (100 : Int) ≤ (u : Int) := by omega
    clear hH0 hal
    go_enter Tryz.func54, Tryz.ntmps54
    go_wp2_with (first
      | (go_at_call 76; refine (Tryz.internal_strconv_numDigits u hu1 hu64 _ (Lib.tabIs_alloc htab _)).mono ?_; rintro e w' ⟨rfl, rfl⟩))
    go_at_call 77
    refine hfmt.mono ?_
    rintro e w' ⟨rfl, k, v', dk, rfl, hF⟩
    have hcv : (convert 22 9 (.slice (some ⟨w.heap.size, 0, none⟩) (Lib.nDigits u) 24)).run Tryz.prog ((putRow (fun (b : UInt8) => Value.int .u8 (b.toNat : Int)) (w.alloc (.cells Lib.zeros24 126)) w.heap.size 0 dk).drewN k) = .ok (.string ⟨(Lib.decDigits u).toArray⟩) ((putRow (fun (b : UInt8) => Value.int .u8 (b.toNat : Int)) (w.alloc (.cells Lib.zeros24 126)) w.heap.size 0 dk).drewN k) := by
      have h := run_convert_bytes_back (P := Tryz.prog) ((putRow (fun (b : UInt8) => Value.int .u8 (b.toNat : Int)) (w.alloc (.cells Lib.zeros24 126)) w.heap.size 0 dk).drewN k) 22 9 5 ⟨w.heap.size, 0, none⟩ 24 (Lib.decDigits u) Tryz.underlying22 Tryz.underlying5 Tryz.underlying9 (fun j hj => by
        rw [Lib.row_is_numeral hF j hj, Lib.add_plain, World.cell?_drewN]
        exact cell?_putRow (fun (b : UInt8) => Value.int .u8 (b.toNat : Int)) _ w.heap.size 0 _ dk HH0.out (by rw [hF.size, Array.size_replicate]) j (by rw [hF.size]; rw [Lib.decDigits_length] at hj; exact hj))
      rw [Lib.decDigits_length] at h
      exact h
    go_wp2
    go_ret
    obtain ⟨os, eo⟩ := Lib.fin_at w (.cells Lib.zeros24 126) dk k 0
    refine ⟨rfl, ?_⟩
    rw [eo]
    exact Lib.below_grow _ _ (Nat.le_refl _) _ _

theorem fmtu_any (u : Nat) (hu64 : u < 18446744073709551616) (w : World) (htab : Lib.TabIs Tryz.prog w "internal/strconv.uint64pow10" .u64 Lib.pow10Tab) :
    Calls Tryz.prog 32 #[.int .u64 u, .int .i64 10] w fun e w' => e = .returned (.string ⟨(Lib.decDigits u).toArray⟩) ∧ Below w.heap.size w w' := by
  go_enter Tryz.func32, Tryz.ntmps32
  go_wp2_with (go_at_call 54; refine (ifmtu_any u hu64 _ htab).mono ?_; rintro e w' ⟨rfl, hb⟩)
  go_ret
  exact ⟨rfl, hb⟩

theorem itoa_any (n : Int) (h0 : -9223372036854775808 ≤ n) (h1 : n ≤ 9223372036854775807) (w : World) (htab : Lib.TabIs Tryz.prog w "internal/strconv.uint64pow10" .u64 Lib.pow10Tab) :
    Calls Tryz.prog 33 #[.int .i64 n] w fun e w' => e = .returned (.string ⟨(Lib.itoa n).toArray⟩) ∧ Below w.heap.size w w' := by
  refine (Tryz.strconv_Itoa n h0 h1 w htab).mono ?_
  rintro e w' ⟨he, k, os, rfl⟩
  exact ⟨he, Lib.below_grow _ _ (Nat.le_refl _) _ _⟩
end Go.Proofs.YtlhaendgdeflkaaGreatDoor
end

section
/-
  The contracts of the reference's Name and marks (chapter 7). No condition but those of the types.
-/
namespace Go.Proofs.YtlhaendgdeflkaaGreatDoor
open Go.RowKit

/-- The marks that the reference gives to the operands A, B, C of an operation. -/
def mA (op : Int) : List UInt8 := if op = 15 then [114] else if op = 16 then [115] else if op = 17 then [115] else if op = 18 then [97] else if op = 19 then [114] else if op = 20 then [64] else if op = 21 then [114] else if op = 22 then [102] else [114]
def mB (op : Int) : List UInt8 := if op = 15 then [115] else if op = 16 then [114] else if op = 17 then [115] else if op = 18 then [114] else if op = 19 then [97] else if op = 20 then [] else if op = 21 then [64] else if op = 22 then [] else [114]
def mC (op : Int) : List UInt8 := if op = 15 then [] else if op = 16 then [] else if op = 17 then [] else if op = 18 then [] else if op = 19 then [] else if op = 20 then [] else if op = 21 then [] else if op = 22 then [] else [114]
theorem mA_len (op : Int) : (mA op).length ≤ 1 := by unfold mA; (repeat' split) <;> simp
theorem mB_len (op : Int) : (mB op).length ≤ 1 := by unfold mB; (repeat' split) <;> simp
theorem mC_len (op : Int) : (mC op).length ≤ 1 := by unfold mC; (repeat' split) <;> simp
/-- A blank, a mark and a number, if the operand is used. -/
def pcT (u : Bool) (m t : List UInt8) : List UInt8 := if u then 32 :: (m ++ t) else []
theorem marks_ok {z : Int} (h : withB z 25 = true) : (useA z = true → mA z = markT (shpOf z).1) ∧ (useB z = true → mB z = markT (shpOf z).2.1) ∧ (useC z = true → mC z = markT (shpOf z).2.2.1) := by
  obtain ⟨k, rfl⟩ := op25 h
  have e : ∀ k : Fin 25, (useA (k.val : Int) = true → mA (k.val : Int) = markT (shpOf (k.val : Int)).1) ∧ (useB (k.val : Int) = true → mB (k.val : Int) = markT (shpOf (k.val : Int)).2.1) ∧ (useC (k.val : Int) = true → mC (k.val : Int) = markT (shpOf (k.val : Int)).2.2.1) := by decide
  exact e k
theorem tail_pc (u : Bool) (k n : Int) (m : List UInt8) (hu : u = !decide (k = 0)) (hm : u = true → m = markT k) : Lib.joinTail [32] (opdT k n) = pcT u m (Lib.itoa n) := by
  rw [tail_opd]
  unfold pcT
  by_cases hk : k = 0
  · rw [if_pos hk, if_neg (by rw [hu]; simp [hk])]
  · have : u = true := by rw [hu]; simp [hk]
    rw [if_neg hk, if_pos this, hm this]
theorem insT_pc {x : Ins} (h : withB x.op 25 = true) : insT x = nameT x.op ++ (pcT (useA x.op) (mA x.op) (Lib.itoa x.a) ++ (pcT (useB x.op) (mB x.op) (Lib.itoa x.b) ++ (pcT (useC x.op) (mC x.op) (Lib.itoa x.c) ++ pcT (useI x.op) [] (Lib.decDigits x.imm.toNat)))) := by
  obtain ⟨h1, h2, h3⟩ := marks_ok h
  rw [insT_tail h, tail_app, tail_app, tail_app, tail_pc _ _ _ _ rfl h1, tail_pc _ _ _ _ rfl h2, tail_pc _ _ _ _ rfl h3, tail_imm]
  rfl
theorem name_len (z : Int) : (nameT z).length ≤ 6 := by
  have h : ∀ l ∈ namesT, l.length ≤ 6 := by decide
  unfold nameT
  rw [List.getD_eq_getElem?_getD]
  cases e : namesT[z.toNat]? with
  | none => simp
  | some l => exact h l (List.mem_of_getElem? e)
theorem name_odd {z : Int} (h : withB z 25 = true) : nameT z ≠ [63] := by
  obtain ⟨k, rfl⟩ := op25 h
  have e : ∀ k : Fin 25, nameT (k.val : Int) ≠ [63] := by decide
  exact e k

/-- The names as a literal lays them. -/
theorem names_lit (k : Nat) (hk : k < 25) : ([Value.string { data := #[99, 111, 110, 115, 116] }, Value.string { data := #[99, 111, 112, 121] }, Value.string { data := #[97, 100, 100] }, Value.string { data := #[115, 117, 98] }, Value.string { data := #[109, 117, 108] }, Value.string { data := #[100, 105, 118] }, Value.string { data := #[97, 110, 100] }, Value.string { data := #[111, 114] }, Value.string { data := #[120, 111, 114] }, Value.string { data := #[108, 101, 115, 115] }, Value.string { data := #[101, 113, 117, 97, 108] }, Value.string { data := #[112, 97, 105, 114] }, Value.string { data := #[104, 105, 103, 104] }, Value.string { data := #[105, 110] }, Value.string { data := #[111, 117, 116] }, Value.string { data := #[108, 111, 97, 100] }, Value.string { data := #[115, 116, 111, 114, 101] }, Value.string { data := #[109, 111, 118, 101] }, Value.string { data := #[97, 114, 103] }, Value.string { data := #[112, 97, 114, 97, 109] }, Value.string { data := #[106, 117, 109, 112] }, Value.string { data := #[98, 114, 97, 110, 99, 104] }, Value.string { data := #[99, 97, 108, 108] }, Value.string { data := #[114, 101, 116, 117, 114, 110] }, Value.string { data := #[116, 114, 97, 112] }] : List Value)[k]? = some (.string ⟨(nameT (k : Int)).toArray⟩) := by
  have e : ([Value.string { data := #[99, 111, 110, 115, 116] }, Value.string { data := #[99, 111, 112, 121] }, Value.string { data := #[97, 100, 100] }, Value.string { data := #[115, 117, 98] }, Value.string { data := #[109, 117, 108] }, Value.string { data := #[100, 105, 118] }, Value.string { data := #[97, 110, 100] }, Value.string { data := #[111, 114] }, Value.string { data := #[120, 111, 114] }, Value.string { data := #[108, 101, 115, 115] }, Value.string { data := #[101, 113, 117, 97, 108] }, Value.string { data := #[112, 97, 105, 114] }, Value.string { data := #[104, 105, 103, 104] }, Value.string { data := #[105, 110] }, Value.string { data := #[111, 117, 116] }, Value.string { data := #[108, 111, 97, 100] }, Value.string { data := #[115, 116, 111, 114, 101] }, Value.string { data := #[109, 111, 118, 101] }, Value.string { data := #[97, 114, 103] }, Value.string { data := #[112, 97, 114, 97, 109] }, Value.string { data := #[106, 117, 109, 112] }, Value.string { data := #[98, 114, 97, 110, 99, 104] }, Value.string { data := #[99, 97, 108, 108] }, Value.string { data := #[114, 101, 116, 117, 114, 110] }, Value.string { data := #[116, 114, 97, 112] }] : List Value) = namesT.map (fun l => Value.string ⟨l.toArray⟩) := rfl
  rw [e, List.getElem?_map, nameT, List.getD_eq_getElem?_getD, Int.toNat_natCast, List.getElem?_eq_getElem (by exact hk)]
  rfl

set_option maxHeartbeats 4000000 in
theorem rname_any (op : Int) (w : World) :
    Calls Tryz.prog 37 #[.int .i64 op] w fun e w' => e = .returned (.string ⟨(if withB op 25 then nameT op else [63]).toArray⟩) ∧ Below w.heap.size w w' := by
  by_cases h : withB op 25 = true
  · rw [if_pos h]
    obtain ⟨k, rfl⟩ : ∃ k : Nat, op = (k : Int) := ⟨op.toNat, by have := withB_true.1 h; omega⟩
    have hk : k < 25 := by have := withB_true.1 h; omega
    have h25 : (k : Int) < 25 := by omega
    have hl := names_lit k hk
    obtain ⟨hkl, hg⟩ := List.getElem?_eq_some_iff.1 hl
    clear hl
    go_enter Tryz.func37, Tryz.ntmps37
    go_wp2
    go_ret
    exact ⟨rfl, (Below.refl _ _).alloc (Nat.le_refl _) _⟩
  · rw [if_neg h]
    by_cases h0 : op < 0
    · go_enter Tryz.func37, Tryz.ntmps37
      go_wp2
      go_ret
      exact ⟨rfl, (Below.refl _ _).alloc (Nat.le_refl _) _⟩
    · have h1 : 25 ≤ op := by
        have := withB_false.1 (by simpa using h); omega
      clear h
      go_enter Tryz.func37, Tryz.ntmps37
      go_wp2
      go_ret
      exact ⟨rfl, (Below.refl _ _).alloc (Nat.le_refl _) _⟩

set_option maxHeartbeats 4000000 in
theorem rmarks_any (op : Int) (w : World) :
    Calls Tryz.prog 39 #[.int .i64 op] w fun e w' => e = .returned (.tuple #[.string ⟨(mA op).toArray⟩, .string ⟨(mB op).toArray⟩, .string ⟨(mC op).toArray⟩]) ∧ w = w' := by
  by_cases h : op = 15 ∨ op = 16 ∨ op = 17 ∨ op = 18 ∨ op = 19 ∨ op = 20 ∨ op = 21 ∨ op = 22
  · rcases h with rfl | rfl | rfl | rfl | rfl | rfl | rfl | rfl
    all_goals
      go_enter Tryz.func39, Tryz.ntmps39
      go_wp2
      refine bodyPost_ret (by simp [results, Tryz.results39, go_sem]; decide) rfl ⟨rfl, rfl⟩
  · have h15 : ¬ op = 15 := by omega
    have h16 : ¬ op = 16 := by omega
    have h17 : ¬ op = 17 := by omega
    have h18 : ¬ op = 18 := by omega
    have h19 : ¬ op = 19 := by omega
    have h20 : ¬ op = 20 := by omega
    have h21 : ¬ op = 21 := by omega
    have h22 : ¬ op = 22 := by omega
    have ea : mA op = [114] := by unfold mA; simp [*]
    have eb : mB op = [114] := by unfold mB; simp [*]
    have ec : mC op = [114] := by unfold mC; simp [*]
    rw [ea, eb, ec]
    clear h ea eb ec
    go_enter Tryz.func39, Tryz.ntmps39
    go_wp2
    refine bodyPost_ret (by simp [results, Tryz.results39, go_sem]) rfl ⟨rfl, rfl⟩
end Go.Proofs.YtlhaendgdeflkaaGreatDoor
end

section
/-
  The contracts of the reference's Decimal and Int: decimal numbers as text. No condition but those of the types.
-/
namespace Go.Proofs.YtlhaendgdeflkaaGreatDoor
open Go.RowKit

/-- The last digit. -/
def digT (v : Nat) : UInt8 := UInt8.ofNat (48 + v % 10)
theorem dec_small {v : Nat} (h : v / 10 = 0) : Lib.decDigits v = [digT v] := by
  rw [digT, Lib.decDigits_one (by omega), Nat.mod_eq_of_lt (by omega)]
theorem dec_great {v : Nat} (h : v / 10 ≠ 0) : Lib.decDigits v = Lib.decDigits (v / 10) ++ [digT v] := by
  conv => lhs; rw [Lib.decDigits]
  rw [dif_neg (by omega)]
  rfl
theorem u8_dig (v : Nat) : ((digT v).toNat : Int) = 48 + (v : Int) % 10 := by
  unfold digT
  have : (UInt8.ofNat (48 + v % 10)).toNat = 48 + v % 10 := by simp [UInt8.toNat_ofNat']; omega
  rw [this]; omega

set_option maxHeartbeats 4000000 in
set_option maxRecDepth 100000 in
theorem rdecimal_any (u : Nat) (hu : u < 18446744073709551616) (w : World) :
    Calls Tryz.prog 36 #[.int .u64 u] w fun e w' => e = .returned (.string ⟨(Lib.decDigits u).toArray⟩) ∧ Below w.heap.size w w' := by
  have HU : Hid (u < 18446744073709551616) := hu
  obtain ⟨ui, eui⟩ : ∃ ui : Int, ui = (u : Int) := ⟨_, rfl⟩
  rw [← eui]
  have EU : Hid (ui = (u : Int)) := eui
  clear hu eui
  go_enter Tryz.func36, Tryz.ntmps36
  go_wp2
  go_loopw [0, 3] (fun s0 s3 wr => ∃ (v : Nat) (a : Int) (acc : List UInt8), s0 = .int .u64 a ∧ s3 = .string ⟨acc.toArray⟩ ∧ Hid (a = (v : Int)) ∧ Hid (v < 18446744073709551616) ∧ Hid (Lib.decDigits v ++ acc = Lib.decDigits u) ∧ Hid (Below w.heap.size w wr)) (fun s0 _ _ => (intOf s0).toNat)
  case atStart => exact ⟨u, ui, [], rfl, rfl, EU, HU, by simp [Hid], Below.refl _ _⟩
  case round =>
    obtain ⟨v, a, acc, rfl, rfl, ha, hv, hd, hb⟩ := hrel
    obtain ⟨d, hd0, hd9, Ed⟩ : ∃ d : Int, 0 ≤ d ∧ d ≤ 9 ∧ Hid (d = a % 10) := ⟨a % 10, by omega, by omega, rfl⟩
    obtain ⟨q, Eq⟩ : ∃ q : Int, Hid (q = a / 10) := ⟨a / 10, rfl⟩
    have hm : a.tmod 10 = d := by rw [Ed.out, ha.out, Int.tmod_eq_emod_of_nonneg (by omega)]
    have hq : a.tdiv 10 = q := by rw [Eq.out, ha.out, Int.tdiv_eq_ediv_of_nonneg (by omega)]
    have hcv : (convert 22 9 (.slice (some ⟨wr.heap.size, 0, none⟩) 1 1)).run Tryz.prog (wr.alloc (.cells #[.int .u8 (48 + d)] 5)) = .ok (.string ⟨#[digT v]⟩) (wr.alloc (.cells #[.int .u8 (48 + d)] 5)) := by
      refine run_convert_bytes_back (P := Tryz.prog) _ 22 9 5 ⟨wr.heap.size, 0, none⟩ 1 [digT v] Tryz.underlying22 Tryz.underlying5 Tryz.underlying9 (fun j hj => ?_)
      have hj0 : j = 0 := by simpa using hj
      subst hj0
      rw [Lib.add_plain, World.cell?_alloc_new]
      simp only [List.getElem_cons_zero, u8_dig]
      rw [Ed.out, ha.out]
      rfl
    have hw0 : IntKind.u64.wrap (48 + d) = 48 + d := by rw [IntKind.wrap_u64]; omega
    have hw1 : (48 + d) % 256 = 48 + d := by omega
    have hwq : IntKind.u64.wrap q = q := by have := Eq.out; have := ha.out; have := hv.out; rw [IntKind.wrap_u64]; omega
    have hb' : Below w.heap.size w (wr.alloc (.cells #[.int .u8 (48 + d)] 5)) := hb.out.alloc hb.out.size _
    have HB := hide hb'
    clear hb'
    have hvq : q = ((v / 10 : Nat) : Int) := by rw [Eq.out, ha.out]; omega
    have HVQ := hide hvq
    clear hvq
    obtain ⟨acc2, E2⟩ : ∃ acc2, Hid (acc2 = [digT v] ++ acc) := ⟨_, rfl⟩
    have hlen : acc2.length ≤ 4611686018427387904 := by
      have h1 := congrArg List.length hd.out
      have h2 := Lib.nDigits_le20 u HU.out
      rw [List.length_append, Lib.decDigits_length, Lib.decDigits_length] at h1
      rw [E2.out, List.length_append]
      have : [digT v].length = 1 := rfl
      omega
    have hcat : ((⟨#[digT v]⟩ : ByteArray) ++ ⟨acc.toArray⟩) = ⟨acc2.toArray⟩ := by rw [E2.out]; exact cat_eq [digT v] acc
    have hn : ¬ 9223372036854775807 < 1 + acc.length := by
      rw [E2.out, List.length_append, show [digT v].length = 1 from rfl] at hlen
      omega
    by_cases hz : q = 0
    · go_wp2
      go_ret
      have h0 : v / 10 = 0 := by have := HVQ.out; omega
      have := hd.out
      rw [dec_small h0, ← E2.out] at this
      exact ⟨ret_str this, HB.out⟩
    · go_wp2
      go_roundw
      case rel =>
        have h0 : v / 10 ≠ 0 := by have := HVQ.out; omega
        refine ⟨v / 10, q, acc2, rfl, rfl, HVQ, ?_, ?_, HB⟩
        · exact hide (by have := hv.out; omega)
        · refine hide ?_
          have := hd.out
          rw [dec_great h0, List.append_assoc, ← E2.out] at this
          exact this
      case measure =>
        have h0 := HVQ.out
        have h1 := ha.out
        simp only [intOf]
        omega

theorem neg64 {n : Int} (h0 : n < 0) (h1 : -9223372036854775808 ≤ n) : IntKind.u64.wrap (-IntKind.u64.wrap n) = ((n.natAbs : Nat) : Int) := by
  rw [IntKind.wrap_u64, IntKind.wrap_u64]; omega
theorem pos64 {n : Int} (h0 : ¬ n < 0) (h1 : n ≤ 9223372036854775807) : IntKind.u64.wrap n = ((n.toNat : Nat) : Int) := by
  rw [IntKind.wrap_u64]; omega

set_option maxHeartbeats 4000000 in
set_option maxRecDepth 100000 in
theorem rint_any (n : Int) (h0 : -9223372036854775808 ≤ n) (h1 : n ≤ 9223372036854775807) (w : World) :
    Calls Tryz.prog 17 #[.int .i64 n] w fun e w' => e = .returned (.string ⟨(Lib.itoa n).toArray⟩) ∧ Below w.heap.size w w' := by
  by_cases hn : n < 0
  · have hw := neg64 hn h0
    have hu : n.natAbs < 18446744073709551616 := by omega
    have hi : Lib.itoa n = 45 :: Lib.decDigits n.natAbs := by unfold Lib.itoa; rw [if_pos hn]
    obtain ⟨u, eu⟩ : ∃ u : Nat, u = n.natAbs := ⟨_, rfl⟩
    rw [← eu] at hw hu hi
    have HI := hide hi
    obtain ⟨t, et⟩ : ∃ t, t = Lib.itoa n := ⟨_, rfl⟩
    have hcat : ((⟨#[45]⟩ : ByteArray) ++ ⟨(Lib.decDigits u).toArray⟩) = ⟨t.toArray⟩ := by rw [et, hi]; exact cat_eq [45] (Lib.decDigits u)
    have hn : ¬ 9223372036854775807 < 1 + (Lib.decDigits u).length := by have := Lib.nDigits_le20 u hu; rw [Lib.decDigits_length]; omega
    have ET := hide et
    clear et
    have EU := hide eu
    have HU := hide hu
    clear h0 h1 hu eu hi
    go_enter Tryz.func17, Tryz.ntmps17
    go_wp2_with (go_at_call 36; refine (rdecimal_any u HU.out _).mono ?_; rintro e w' ⟨rfl, hb⟩)
    go_ret
    exact ⟨ret_str ET.out, hb⟩
  · have hw := pos64 hn h1
    have hu : n.toNat < 18446744073709551616 := by omega
    have hi : Lib.itoa n = Lib.decDigits n.toNat := by unfold Lib.itoa; rw [if_neg hn]
    obtain ⟨u, eu⟩ : ∃ u : Nat, u = n.toNat := ⟨_, rfl⟩
    rw [← eu] at hw hu hi
    have HI := hide hi
    have EU := hide eu
    have HU := hide hu
    clear h0 h1 hu eu hi
    go_enter Tryz.func17, Tryz.ntmps17
    go_wp2_with (go_at_call 36; refine (rdecimal_any u HU.out _).mono ?_; rintro e w' ⟨rfl, hb⟩)
    go_ret
    exact ⟨ret_str HI.out.symm, hb⟩
end Go.Proofs.YtlhaendgdeflkaaGreatDoor
end
