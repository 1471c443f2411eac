/-
  The mathematics of the text of instructions, functions, programs: lists of bytes. Nothing here names the program.
-/
import Derived.Test.YtpkdeblbobfjbaaDoorQshp
import Derived.Lib.Join
import Derived.Lib.ItoaLen
import Derived.Lib.ItoaMem
namespace Go.Proofs.YtpkdeblbobfjbaaDoor
open Go.RowKit

/-- The names of the operations. -/
def namesT : List (List UInt8) :=
  [[99, 111, 110, 115, 116], [99, 111, 112, 121], [97, 100, 100], [115, 117, 98], [109, 117, 108], [100, 105, 118], [97, 110, 100], [111, 114], [120, 111, 114], [108, 101, 115, 115], [101, 113, 117, 97, 108], [112, 97, 105, 114],
   [104, 105, 103, 104], [105, 110], [111, 117, 116], [108, 111, 97, 100], [115, 116, 111, 114, 101], [109, 111, 118, 101], [97, 114, 103], [112, 97, 114, 97, 109], [106, 117, 109, 112], [98, 114, 97, 110, 99, 104], [99, 97, 108, 108],
   [114, 101, 116, 117, 114, 110], [116, 114, 97, 112]]
def nameT (op : Int) : List UInt8 := namesT.getD op.toNat []
/-- The letters of the operands of each operation, as a program may keep them: 'i' is Imm. -/
def lettersT : List (List UInt8) :=
  [[114, 105], [114, 114], [114, 114, 114], [114, 114, 114], [114, 114, 114], [114, 114, 114], [114, 114, 114], [114, 114, 114], [114, 114, 114], [114, 114, 114], [114, 114, 114], [114, 114, 114],
   [114, 114], [114], [114], [114, 115], [115, 114], [115, 115], [97, 114], [114, 97], [64], [114, 64], [102], [], [105]]
def lettT (op : Int) : List UInt8 := lettersT.getD op.toNat []
/-- The mark of a kind of operand. -/
def markT (k : Int) : List UInt8 := if k = 1 then [114] else if k = 2 then [115] else if k = 3 then [102] else if k = 6 then [64] else [97]
def opdT (k n : Int) : List (List UInt8) := if k = 0 then [] else [markT k ++ Lib.itoa n]
def immT (m : Bool) (n : Int) : List (List UInt8) := if m then [Lib.decDigits n.toNat] else []
/-- The words of an instruction. -/
def wordsT (x : Ins) : List (List UInt8) := nameT x.op :: (opdT (shpOf x.op).1 x.a ++ (opdT (shpOf x.op).2.1 x.b ++ (opdT (shpOf x.op).2.2.1 x.c ++ immT (shpOf x.op).2.2.2 x.imm)))
def insT (x : Ins) : List UInt8 := if withB x.op 25 then Lib.join (wordsT x) [32] else [63]
/-- The word of one letter. -/
def abcT (x : Ins) (i : Nat) : Int := if i = 0 then x.a else if i = 1 then x.b else x.c
def wordT (x : Ins) (i : Nat) (c : UInt8) : List UInt8 := if c = 105 then Lib.decDigits x.imm.toNat else c :: Lib.itoa (abcT x i)
/-- The words of the first k letters. -/
def lwordsT (x : Ins) (k : Nat) : List (List UInt8) := (List.range k).map fun i => wordT x i ((lettT x.op).getD i 0)

theorem op25 {z : Int} (h : withB z 25 = true) : ∃ k : Fin 25, z = (k.val : Int) := by
  have h := withB_true.1 h
  exact ⟨⟨z.toNat, by omega⟩, by simp; omega⟩
theorem lett_len (z : Int) : (lettT z).length ≤ 3 := by
  have h : ∀ l ∈ lettersT, l.length ≤ 3 := by decide
  unfold lettT
  rw [List.getD_eq_getElem?_getD]
  cases e : lettersT[z.toNat]? with
  | none => simp
  | some l => exact h l (List.mem_of_getElem? e)
theorem lett_asc (z : Int) (i : Nat) (c : UInt8) (h : (lettT z)[i]? = some c) : c.toNat < 128 := by
  have H : ∀ l ∈ lettersT, ∀ c ∈ l, c.toNat < 128 := by decide
  unfold lettT at h
  rw [List.getD_eq_getElem?_getD] at h
  cases e : lettersT[z.toNat]? with
  | none => rw [e] at h; simp at h
  | some l => rw [e] at h; exact H l (List.mem_of_getElem? e) c (List.mem_of_getElem? h)
/-- The words by letters are the words by kinds. -/
theorem words_lett {x : Ins} (h : withB x.op 25 = true) : wordsT x = nameT x.op :: lwordsT x (lettT x.op).length := by
  obtain ⟨k, hk⟩ := op25 h
  unfold wordsT
  congr 1
  obtain ⟨o, a, b, c, m⟩ := x
  dsimp only at hk ⊢
  subst hk
  match k with
  | ⟨0, _⟩ => rfl
  | ⟨1, _⟩ => rfl
  | ⟨2, _⟩ => rfl
  | ⟨3, _⟩ => rfl
  | ⟨4, _⟩ => rfl
  | ⟨5, _⟩ => rfl
  | ⟨6, _⟩ => rfl
  | ⟨7, _⟩ => rfl
  | ⟨8, _⟩ => rfl
  | ⟨9, _⟩ => rfl
  | ⟨10, _⟩ => rfl
  | ⟨11, _⟩ => rfl
  | ⟨12, _⟩ => rfl
  | ⟨13, _⟩ => rfl
  | ⟨14, _⟩ => rfl
  | ⟨15, _⟩ => rfl
  | ⟨16, _⟩ => rfl
  | ⟨17, _⟩ => rfl
  | ⟨18, _⟩ => rfl
  | ⟨19, _⟩ => rfl
  | ⟨20, _⟩ => rfl
  | ⟨21, _⟩ => rfl
  | ⟨22, _⟩ => rfl
  | ⟨23, _⟩ => rfl
  | ⟨24, _⟩ => rfl
theorem lwords_succ (x : Ins) (k : Nat) : lwordsT x (k + 1) = lwordsT x k ++ [wordT x k ((lettT x.op).getD k 0)] := by
  unfold lwordsT
  rw [List.range_succ, List.map_append]
  rfl
theorem lwords_len (x : Ins) (k : Nat) : (lwordsT x k).length = k := by unfold lwordsT; simp
/-- How long a word is. -/
theorem word_len {x : Ins} (i : Nat) (c : UInt8) (hm : 0 ≤ x.imm) (hM : x.imm ≤ 18446744073709551615) (ha : ∀ j, -9223372036854775808 ≤ abcT x j ∧ abcT x j ≤ 9223372036854775807) : (wordT x i c).length ≤ 22 := by
  unfold wordT
  split
  · rw [Lib.decDigits_length]; have := Lib.nDigits_le20 x.imm.toNat (by omega); omega
  · have := Lib.itoa_length_le (abcT x i) (ha i).1 (ha i).2
    simp only [List.length_cons]; omega
/-- The text as pieces behind each other: a blank and a word. -/
theorem insT_tail {x : Ins} (h : withB x.op 25 = true) : insT x = nameT x.op ++ Lib.joinTail [32] (opdT (shpOf x.op).1 x.a ++ (opdT (shpOf x.op).2.1 x.b ++ (opdT (shpOf x.op).2.2.1 x.c ++ immT (shpOf x.op).2.2.2 x.imm))) := by
  unfold insT wordsT
  rw [if_pos h, Lib.join_cons]
theorem tail_app (a b : List (List UInt8)) : Lib.joinTail [32] (a ++ b) = Lib.joinTail [32] a ++ Lib.joinTail [32] b := by simp [Lib.joinTail]
theorem tail_opd (k n : Int) : Lib.joinTail [32] (opdT k n) = if k = 0 then [] else 32 :: (markT k ++ Lib.itoa n) := by
  unfold opdT; split <;> simp [Lib.joinTail]
theorem tail_imm (m : Bool) (n : Int) : Lib.joinTail [32] (immT m n) = if m then 32 :: Lib.decDigits n.toNat else [] := by
  unfold immT; split <;> simp [Lib.joinTail]
end Go.Proofs.YtpkdeblbobfjbaaDoor
