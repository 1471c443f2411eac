/-
  The contracts of the reference's Name and marks (chapter 7). No condition but those of the types.
-/
import Derived.Test.YtpkdeblbobfjbaaDoorTstr
import Derived.Test.YtpkdeblbobfjbaaDoorTmath
namespace Go.Proofs.YtpkdeblbobfjbaaDoor
open Go.RowKit

/-- The marks that the reference gives to the operands A, B, C of an operation. -/
def mA (op : Int) : List UInt8 := if op = 15 then [114] else if op = 16 then [115] else if op = 17 then [115] else if op = 18 then [97] else if op = 19 then [114] else if op = 20 then [64] else if op = 21 then [114] else if op = 22 then [102] else [114]
def mB (op : Int) : List UInt8 := if op = 15 then [115] else if op = 16 then [114] else if op = 17 then [115] else if op = 18 then [114] else if op = 19 then [97] else if op = 20 then [] else if op = 21 then [64] else if op = 22 then [] else [114]
def mC (op : Int) : List UInt8 := if op = 15 then [] else if op = 16 then [] else if op = 17 then [] else if op = 18 then [] else if op = 19 then [] else if op = 20 then [] else if op = 21 then [] else if op = 22 then [] else [114]
theorem mA_len (op : Int) : (mA op).length ≤ 1 := by unfold mA; (repeat' split) <;> simp
theorem mB_len (op : Int) : (mB op).length ≤ 1 := by unfold mB; (repeat' split) <;> simp
theorem mC_len (op : Int) : (mC op).length ≤ 1 := by unfold mC; (repeat' split) <;> simp
/-- A blank, a mark and a number, if the operand is used. -/
def pcT (u : Bool) (m t : List UInt8) : List UInt8 := if u then 32 :: (m ++ t) else []
theorem marks_ok {z : Int} (h : withB z 25 = true) : (useA z = true → mA z = markT (shpOf z).1) ∧ (useB z = true → mB z = markT (shpOf z).2.1) ∧ (useC z = true → mC z = markT (shpOf z).2.2.1) := by
  obtain ⟨k, rfl⟩ := op25 h
  have e : ∀ k : Fin 25, (useA (k.val : Int) = true → mA (k.val : Int) = markT (shpOf (k.val : Int)).1) ∧ (useB (k.val : Int) = true → mB (k.val : Int) = markT (shpOf (k.val : Int)).2.1) ∧ (useC (k.val : Int) = true → mC (k.val : Int) = markT (shpOf (k.val : Int)).2.2.1) := by decide
  exact e k
theorem tail_pc (u : Bool) (k n : Int) (m : List UInt8) (hu : u = !decide (k = 0)) (hm : u = true → m = markT k) : Lib.joinTail [32] (opdT k n) = pcT u m (Lib.itoa n) := by
  rw [tail_opd]
  unfold pcT
  by_cases hk : k = 0
  · rw [if_pos hk, if_neg (by rw [hu]; simp [hk])]
  · have : u = true := by rw [hu]; simp [hk]
    rw [if_neg hk, if_pos this, hm this]
theorem insT_pc {x : Ins} (h : withB x.op 25 = true) : insT x = nameT x.op ++ (pcT (useA x.op) (mA x.op) (Lib.itoa x.a) ++ (pcT (useB x.op) (mB x.op) (Lib.itoa x.b) ++ (pcT (useC x.op) (mC x.op) (Lib.itoa x.c) ++ pcT (useI x.op) [] (Lib.decDigits x.imm.toNat)))) := by
  obtain ⟨h1, h2, h3⟩ := marks_ok h
  rw [insT_tail h, tail_app, tail_app, tail_app, tail_pc _ _ _ _ rfl h1, tail_pc _ _ _ _ rfl h2, tail_pc _ _ _ _ rfl h3, tail_imm]
  rfl
theorem name_len (z : Int) : (nameT z).length ≤ 6 := by
  have h : ∀ l ∈ namesT, l.length ≤ 6 := by decide
  unfold nameT
  rw [List.getD_eq_getElem?_getD]
  cases e : namesT[z.toNat]? with
  | none => simp
  | some l => exact h l (List.mem_of_getElem? e)
theorem name_odd {z : Int} (h : withB z 25 = true) : nameT z ≠ [63] := by
  obtain ⟨k, rfl⟩ := op25 h
  have e : ∀ k : Fin 25, nameT (k.val : Int) ≠ [63] := by decide
  exact e k

/-- The names as a literal lays them. -/
theorem names_lit (k : Nat) (hk : k < 25) : ([Value.string { data := #[99, 111, 110, 115, 116] }, Value.string { data := #[99, 111, 112, 121] }, Value.string { data := #[97, 100, 100] }, Value.string { data := #[115, 117, 98] }, Value.string { data := #[109, 117, 108] }, Value.string { data := #[100, 105, 118] }, Value.string { data := #[97, 110, 100] }, Value.string { data := #[111, 114] }, Value.string { data := #[120, 111, 114] }, Value.string { data := #[108, 101, 115, 115] }, Value.string { data := #[101, 113, 117, 97, 108] }, Value.string { data := #[112, 97, 105, 114] }, Value.string { data := #[104, 105, 103, 104] }, Value.string { data := #[105, 110] }, Value.string { data := #[111, 117, 116] }, Value.string { data := #[108, 111, 97, 100] }, Value.string { data := #[115, 116, 111, 114, 101] }, Value.string { data := #[109, 111, 118, 101] }, Value.string { data := #[97, 114, 103] }, Value.string { data := #[112, 97, 114, 97, 109] }, Value.string { data := #[106, 117, 109, 112] }, Value.string { data := #[98, 114, 97, 110, 99, 104] }, Value.string { data := #[99, 97, 108, 108] }, Value.string { data := #[114, 101, 116, 117, 114, 110] }, Value.string { data := #[116, 114, 97, 112] }] : List Value)[k]? = some (.string ⟨(nameT (k : Int)).toArray⟩) := by
  have e : ([Value.string { data := #[99, 111, 110, 115, 116] }, Value.string { data := #[99, 111, 112, 121] }, Value.string { data := #[97, 100, 100] }, Value.string { data := #[115, 117, 98] }, Value.string { data := #[109, 117, 108] }, Value.string { data := #[100, 105, 118] }, Value.string { data := #[97, 110, 100] }, Value.string { data := #[111, 114] }, Value.string { data := #[120, 111, 114] }, Value.string { data := #[108, 101, 115, 115] }, Value.string { data := #[101, 113, 117, 97, 108] }, Value.string { data := #[112, 97, 105, 114] }, Value.string { data := #[104, 105, 103, 104] }, Value.string { data := #[105, 110] }, Value.string { data := #[111, 117, 116] }, Value.string { data := #[108, 111, 97, 100] }, Value.string { data := #[115, 116, 111, 114, 101] }, Value.string { data := #[109, 111, 118, 101] }, Value.string { data := #[97, 114, 103] }, Value.string { data := #[112, 97, 114, 97, 109] }, Value.string { data := #[106, 117, 109, 112] }, Value.string { data := #[98, 114, 97, 110, 99, 104] }, Value.string { data := #[99, 97, 108, 108] }, Value.string { data := #[114, 101, 116, 117, 114, 110] }, Value.string { data := #[116, 114, 97, 112] }] : List Value) = namesT.map (fun l => Value.string ⟨l.toArray⟩) := rfl
  rw [e, List.getElem?_map, nameT, List.getD_eq_getElem?_getD, Int.toNat_natCast, List.getElem?_eq_getElem (by exact hk)]
  rfl

set_option maxHeartbeats 4000000 in
theorem rname_any (op : Int) (w : World) :
    Calls Tryd.prog 16 #[.int .i64 op] w fun e w' => e = .returned (.string ⟨(if withB op 25 then nameT op else [63]).toArray⟩) ∧ Below w.heap.size w w' := by
  by_cases h : withB op 25 = true
  · rw [if_pos h]
    obtain ⟨k, rfl⟩ : ∃ k : Nat, op = (k : Int) := ⟨op.toNat, by have := withB_true.1 h; omega⟩
    have hk : k < 25 := by have := withB_true.1 h; omega
    have h25 : (k : Int) < 25 := by omega
    have hl := names_lit k hk
    obtain ⟨hkl, hg⟩ := List.getElem?_eq_some_iff.1 hl
    clear hl
    go_enter Tryd.func16, Tryd.ntmps16
    go_wp2
    go_ret
    exact ⟨rfl, (Below.refl _ _).alloc (Nat.le_refl _) _⟩
  · rw [if_neg h]
    by_cases h0 : op < 0
    · go_enter Tryd.func16, Tryd.ntmps16
      go_wp2
      go_ret
      exact ⟨rfl, (Below.refl _ _).alloc (Nat.le_refl _) _⟩
    · have h1 : 25 ≤ op := by
        have := withB_false.1 (by simpa using h); omega
      clear h
      go_enter Tryd.func16, Tryd.ntmps16
      go_wp2
      go_ret
      exact ⟨rfl, (Below.refl _ _).alloc (Nat.le_refl _) _⟩

set_option maxHeartbeats 4000000 in
theorem rmarks_any (op : Int) (w : World) :
    Calls Tryd.prog 18 #[.int .i64 op] w fun e w' => e = .returned (.tuple #[.string ⟨(mA op).toArray⟩, .string ⟨(mB op).toArray⟩, .string ⟨(mC op).toArray⟩]) ∧ w = w' := by
  by_cases h : op = 15 ∨ op = 16 ∨ op = 17 ∨ op = 18 ∨ op = 19 ∨ op = 20 ∨ op = 21 ∨ op = 22
  · rcases h with rfl | rfl | rfl | rfl | rfl | rfl | rfl | rfl
    all_goals
      go_enter Tryd.func18, Tryd.ntmps18
      go_wp2
      refine bodyPost_ret (by simp [results, Tryd.results18, go_sem]; decide) rfl ⟨rfl, rfl⟩
  · have h15 : ¬ op = 15 := by omega
    have h16 : ¬ op = 16 := by omega
    have h17 : ¬ op = 17 := by omega
    have h18 : ¬ op = 18 := by omega
    have h19 : ¬ op = 19 := by omega
    have h20 : ¬ op = 20 := by omega
    have h21 : ¬ op = 21 := by omega
    have h22 : ¬ op = 22 := by omega
    have ea : mA op = [114] := by unfold mA; simp [*]
    have eb : mB op = [114] := by unfold mB; simp [*]
    have ec : mC op = [114] := by unfold mC; simp [*]
    rw [ea, eb, ec]
    clear h ea eb ec
    go_enter Tryd.func18, Tryd.ntmps18
    go_wp2
    refine bodyPost_ret (by simp [results, Tryd.results18, go_sem]) rfl ⟨rfl, rfl⟩
end Go.Proofs.YtpkdeblbobfjbaaDoor
