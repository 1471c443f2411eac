import Derived.Test.YtafegghdhdgioaaDoorMMrcia
import Derived.Test.YtafegghdhdgioaaDoorMMrcib
import Derived.Test.YtafegghdhdgioaaDoorMMlow
import Derived.Test.YtafegghdhdgioaaDoorMMrrw
import Derived.Test.YtafegghdhdgioaaDoorMDprog
import Derived.Test.YtafegghdhdgioaaDoorMMfch
import Derived.Test.YtafegghdhdgioaaDoorMPmath
import Derived.Test.YtafegghdhdgioaaDoorMScan
import Derived.Outline
set_option linter.unusedVariables false
set_option linter.unusedSimpArgs false
section
/-
  The reference's CheckInstr (chapter 10) at an instruction that there is, in a frame of a right shape. Conditions: those of the types.
-/
namespace Go.Proofs.YtafegghdhdgioaaDoor
open Go.RowKit

theorem mu_shapes (o : Int) (h0 : 0 ≤ o) (h1 : o < 25) : (muA o = true ∧ muB o = true ∧ muC o = true ∧ muI o = false) ∨ (muA o = true ∧ muB o = true ∧ muC o = false ∧ muI o = false) ∨ (muA o = true ∧ muB o = false ∧ muC o = false ∧ muI o = false) ∨ (muA o = true ∧ muB o = false ∧ muC o = false ∧ muI o = true) ∨ (muA o = false ∧ muB o = false ∧ muC o = false ∧ muI o = true) ∨ (muA o = false ∧ muB o = false ∧ muC o = false ∧ muI o = false) := by
  have e : ∀ k : Fin 25, (muA (k.val : Int) = true ∧ muB (k.val : Int) = true ∧ muC (k.val : Int) = true ∧ muI (k.val : Int) = false) ∨ (muA (k.val : Int) = true ∧ muB (k.val : Int) = true ∧ muC (k.val : Int) = false ∧ muI (k.val : Int) = false) ∨ (muA (k.val : Int) = true ∧ muB (k.val : Int) = false ∧ muC (k.val : Int) = false ∧ muI (k.val : Int) = false) ∨ (muA (k.val : Int) = true ∧ muB (k.val : Int) = false ∧ muC (k.val : Int) = false ∧ muI (k.val : Int) = true) ∨ (muA (k.val : Int) = false ∧ muB (k.val : Int) = false ∧ muC (k.val : Int) = false ∧ muI (k.val : Int) = true) ∨ (muA (k.val : Int) = false ∧ muB (k.val : Int) = false ∧ muC (k.val : Int) = false ∧ muI (k.val : Int) = false) := by decide
  have := e ⟨o.toNat, by omega⟩
  simp only at this
  rwa [Int.toNat_of_nonneg h0] at this
theorem rchkinsm_any (Al : Int) (A : Option Addr) (n c : Nat) (hs : List Fd) (F : Tg) (lo B i k : Nat) (f : Fm) (x : Ins) (w : World) (H : Hid (TgAt w lo B A n c hs F)) (hB : B ≤ w.heap.size) (hf : Hid (F[i]? = some f)) (hx : Hid (f.code[k]? = some x)) (hsh : Hid (shB Al f = true)) :
    Calls Tryd.prog 98 #[tv Al A n c, .int .i64 (i : Int), .int .i64 (k : Int)] w fun e w' => e = .returned (.int .i64 (minsE n f x)) ∧ Below w.heap.size w w' := by
  cases hx2 : exB x.op with
  | false => exact rmci_no Al A n c hs F lo B i k f x w H hB hf hx hsh (hide hx2)
  | true =>
    have ho := exB_b hx2
    rcases mu_shapes x.op ho.1 ho.2 with h | h | h | h | h | h
    · exact rmci_tttf Al A n c hs F lo B i k f x w H hB hf hx hsh (hide hx2) (hide h)
    · exact rmci_ttff Al A n c hs F lo B i k f x w H hB hf hx hsh (hide hx2) (hide h)
    · exact rmci_tfff Al A n c hs F lo B i k f x w H hB hf hx hsh (hide hx2) (hide h)
    · exact rmci_tfft Al A n c hs F lo B i k f x w H hB hf hx hsh (hide hx2) (hide h)
    · exact rmci_ffft Al A n c hs F lo B i k f x w H hB hf hx hsh (hide hx2) (hide h)
    · exact rmci_ffff Al A n c hs F lo B i k f x w H hB hf hx hsh (hide hx2) (hide h)
end Go.Proofs.YtafegghdhdgioaaDoor
end

section
/-
  The contract of the reference's Terminator (chapter 5). No condition.
-/
namespace Go.Proofs.YtafegghdhdgioaaDoor
open Go.RowKit

theorem r5term_any (op : Int) (w : World) : Calls Tryd.prog 99 #[.int .i64 op] w fun e w' => e = .returned (.bool (termB op)) ∧ w = w' := by
  by_cases h1 : op = 20
  · subst h1
    go_enter Tryd.func99, Tryd.ntmps99
    go_wp2_with fail
    go_ret
    exact ⟨rfl, rfl⟩
  · by_cases h2 : op = 23
    · subst h2
      go_enter Tryd.func99, Tryd.ntmps99
      go_wp2_with fail
      go_ret
      exact ⟨rfl, rfl⟩
    · have b1 : (op == 20) = false := by simpa using h1
      have b2 : (op == 23) = false := by simpa using h2
      have e := hide (show termB op = (op == 24) by simp [termB, b1, b2])
      clear h1 h2
      go_enter Tryd.func99, Tryd.ntmps99
      go_wp2_with fail
      go_ret
      exact ⟨ret_bool e.out.symm, rfl⟩
end Go.Proofs.YtafegghdhdgioaaDoor
end
