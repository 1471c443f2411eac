/-
  The contracts of the reference's Decimal and Int: decimal numbers as text. No condition but those of the types.
-/
import Derived.Test.YtpkdeblbobfjbaaDoorTmath
import Derived.Test.YtpkdeblbobfjbaaDoorTstr
namespace Go.Proofs.YtpkdeblbobfjbaaDoor
open Go.RowKit

/-- The last digit. -/
def digC (v : Nat) : UInt8 := UInt8.ofNat (48 + v % 10)
theorem dec_small {v : Nat} (h : v / 10 = 0) : Lib.decDigits v = [digC v] := by
  rw [digC, Lib.decDigits_one (by omega), Nat.mod_eq_of_lt (by omega)]
theorem dec_great {v : Nat} (h : v / 10 ≠ 0) : Lib.decDigits v = Lib.decDigits (v / 10) ++ [digC v] := by
  conv => lhs; rw [Lib.decDigits]
  rw [dif_neg (by omega)]
  rfl
theorem u8_dig (v : Nat) : ((digC v).toNat : Int) = 48 + (v : Int) % 10 := by
  unfold digC
  have : (UInt8.ofNat (48 + v % 10)).toNat = 48 + v % 10 := by simp [UInt8.toNat_ofNat']; omega
  rw [this]; omega

set_option maxHeartbeats 4000000 in
set_option maxRecDepth 100000 in
theorem rdecimal_any (u : Nat) (hu : u < 18446744073709551616) (w : World) :
    Calls Tryd.prog 20 #[.int .u64 u] w fun e w' => e = .returned (.string ⟨(Lib.decDigits u).toArray⟩) ∧ Below w.heap.size w w' := by
  have HU : Hid (u < 18446744073709551616) := hu
  obtain ⟨ui, eui⟩ : ∃ ui : Int, ui = (u : Int) := ⟨_, rfl⟩
  rw [← eui]
  have EU : Hid (ui = (u : Int)) := eui
  clear hu eui
  go_enter Tryd.func20, Tryd.ntmps20
  go_wp2
  go_loopw [0, 3] (fun s0 s3 wr => ∃ (v : Nat) (a : Int) (acc : List UInt8), s0 = .int .u64 a ∧ s3 = .string ⟨acc.toArray⟩ ∧ Hid (a = (v : Int)) ∧ Hid (v < 18446744073709551616) ∧ Hid (Lib.decDigits v ++ acc = Lib.decDigits u) ∧ Hid (Below w.heap.size w wr)) (fun s0 _ _ => (intOf s0).toNat)
  case atStart => exact ⟨u, ui, [], rfl, rfl, EU, HU, by simp [Hid], Below.refl _ _⟩
  case round =>
    obtain ⟨v, a, acc, rfl, rfl, ha, hv, hd, hb⟩ := hrel
    obtain ⟨d, hd0, hd9, Ed⟩ : ∃ d : Int, 0 ≤ d ∧ d ≤ 9 ∧ Hid (d = a % 10) := ⟨a % 10, by omega, by omega, rfl⟩
    obtain ⟨q, Eq⟩ : ∃ q : Int, Hid (q = a / 10) := ⟨a / 10, rfl⟩
    have hm : a.tmod 10 = d := by rw [Ed.out, ha.out, Int.tmod_eq_emod_of_nonneg (by omega)]
    have hq : a.tdiv 10 = q := by rw [Eq.out, ha.out, Int.tdiv_eq_ediv_of_nonneg (by omega)]
    have hcv : (convert 28 9 (.slice (some ⟨wr.heap.size, 0, none⟩) 1 1)).run Tryd.prog (wr.alloc (.cells #[.int .u8 (48 + d)] 5)) = .ok (.string ⟨#[digC v]⟩) (wr.alloc (.cells #[.int .u8 (48 + d)] 5)) := by
      refine run_convert_bytes_back (P := Tryd.prog) _ 28 9 5 ⟨wr.heap.size, 0, none⟩ 1 [digC v] Tryd.underlying28 Tryd.underlying5 Tryd.underlying9 (fun j hj => ?_)
      have hj0 : j = 0 := by simpa using hj
      subst hj0
      rw [Lib.add_plain, World.cell?_alloc_new]
      simp only [List.getElem_cons_zero, u8_dig]
      rw [Ed.out, ha.out]
      rfl
    have hw0 : IntKind.u64.wrap (48 + d) = 48 + d := by rw [IntKind.wrap_u64]; omega
    have hw1 : (48 + d) % 256 = 48 + d := by omega
    have hwq : IntKind.u64.wrap q = q := by have := Eq.out; have := ha.out; have := hv.out; rw [IntKind.wrap_u64]; omega
    have hb' : Below w.heap.size w (wr.alloc (.cells #[.int .u8 (48 + d)] 5)) := hb.out.alloc hb.out.size _
    have HB := hide hb'
    clear hb'
    have hvq : q = ((v / 10 : Nat) : Int) := by rw [Eq.out, ha.out]; omega
    have HVQ := hide hvq
    clear hvq
    obtain ⟨acc2, E2⟩ : ∃ acc2, Hid (acc2 = [digC v] ++ acc) := ⟨_, rfl⟩
    have hlen : acc2.length ≤ 4611686018427387904 := by
      have h1 := congrArg List.length hd.out
      have h2 := Lib.nDigits_le20 u HU.out
      rw [List.length_append, Lib.decDigits_length, Lib.decDigits_length] at h1
      rw [E2.out, List.length_append]
      have : [digC v].length = 1 := rfl
      omega
    have hcat : ((⟨#[digC v]⟩ : ByteArray) ++ ⟨acc.toArray⟩) = ⟨acc2.toArray⟩ := by rw [E2.out]; exact cat_eq [digC v] acc
    have hn : ¬ 9223372036854775807 < 1 + acc.length := by
      rw [E2.out, List.length_append, show [digC v].length = 1 from rfl] at hlen
      omega
    by_cases hz : q = 0
    · go_wp2
      go_ret
      have h0 : v / 10 = 0 := by have := HVQ.out; omega
      have := hd.out
      rw [dec_small h0, ← E2.out] at this
      exact ⟨ret_str this, HB.out⟩
    · go_wp2
      go_roundw
      case rel =>
        have h0 : v / 10 ≠ 0 := by have := HVQ.out; omega
        refine ⟨v / 10, q, acc2, rfl, rfl, HVQ, ?_, ?_, HB⟩
        · exact hide (by have := hv.out; omega)
        · refine hide ?_
          have := hd.out
          rw [dec_great h0, List.append_assoc, ← E2.out] at this
          exact this
      case measure =>
        have h0 := HVQ.out
        have h1 := ha.out
        simp only [intOf]
        omega

theorem neg64 {n : Int} (h0 : n < 0) (h1 : -9223372036854775808 ≤ n) : IntKind.u64.wrap (-IntKind.u64.wrap n) = ((n.natAbs : Nat) : Int) := by
  rw [IntKind.wrap_u64, IntKind.wrap_u64]; omega
theorem pos64 {n : Int} (h0 : ¬ n < 0) (h1 : n ≤ 9223372036854775807) : IntKind.u64.wrap n = ((n.toNat : Nat) : Int) := by
  rw [IntKind.wrap_u64]; omega

set_option maxHeartbeats 4000000 in
set_option maxRecDepth 100000 in
theorem rint_any (n : Int) (h0 : -9223372036854775808 ≤ n) (h1 : n ≤ 9223372036854775807) (w : World) :
    Calls Tryd.prog 19 #[.int .i64 n] w fun e w' => e = .returned (.string ⟨(Lib.itoa n).toArray⟩) ∧ Below w.heap.size w w' := by
  by_cases hn : n < 0
  · have hw := neg64 hn h0
    have hu : n.natAbs < 18446744073709551616 := by omega
    have hi : Lib.itoa n = 45 :: Lib.decDigits n.natAbs := by unfold Lib.itoa; rw [if_pos hn]
    obtain ⟨u, eu⟩ : ∃ u : Nat, u = n.natAbs := ⟨_, rfl⟩
    rw [← eu] at hw hu hi
    have HI := hide hi
    obtain ⟨t, et⟩ : ∃ t, t = Lib.itoa n := ⟨_, rfl⟩
    have hcat : ((⟨#[45]⟩ : ByteArray) ++ ⟨(Lib.decDigits u).toArray⟩) = ⟨t.toArray⟩ := by rw [et, hi]; exact cat_eq [45] (Lib.decDigits u)
    have hn : ¬ 9223372036854775807 < 1 + (Lib.decDigits u).length := by have := Lib.nDigits_le20 u hu; rw [Lib.decDigits_length]; omega
    have ET := hide et
    clear et
    have EU := hide eu
    have HU := hide hu
    clear h0 h1 hu eu hi
    go_enter Tryd.func19, Tryd.ntmps19
    go_wp2_with (go_at_call 20; refine (rdecimal_any u HU.out _).mono ?_; rintro e w' ⟨rfl, hb⟩)
    go_ret
    exact ⟨ret_str ET.out, hb⟩
  · have hw := pos64 hn h1
    have hu : n.toNat < 18446744073709551616 := by omega
    have hi : Lib.itoa n = Lib.decDigits n.toNat := by unfold Lib.itoa; rw [if_neg hn]
    obtain ⟨u, eu⟩ : ∃ u : Nat, u = n.toNat := ⟨_, rfl⟩
    rw [← eu] at hw hu hi
    have HI := hide hi
    have EU := hide eu
    have HU := hide hu
    clear h0 h1 hu eu hi
    go_enter Tryd.func19, Tryd.ntmps19
    go_wp2_with (go_at_call 20; refine (rdecimal_any u HU.out _).mono ?_; rintro e w' ⟨rfl, hb⟩)
    go_ret
    exact ⟨ret_str HI.out.symm, hb⟩
end Go.Proofs.YtpkdeblbobfjbaaDoor
