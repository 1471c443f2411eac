/-
  The walk of the law VarintReadInvertsPut: for every b, rest, v and n it returns true, and what was in memory before the call is as it was. Conditions: those of the types.
-/
import Derived.Test.YtbfnbhjmbheokaaInt
import Derived.Test.YtbfnbhjmbheokaaRefput
import Derived.Test.YtbfnbhjmbheokaaSame
namespace Go.Proofs.Ytbfnbhjmbheokaa
open Go.RowKit

theorem digsI_bytes (v : Nat) : ∀ z ∈ digsI v, 0 ≤ z ∧ z ≤ 255 := by
  induction v using Nat.strongRecOn with
  | _ v ih =>
    intro z hz
    rcases Nat.lt_or_ge v 128 with h | h
    · rw [digsI_small h, List.mem_singleton] at hz
      omega
    · rw [digsI_great h, List.mem_cons] at hz
      rcases hz with rfl | hz
      · omega
      · exact ih (v / 128) (by omega) z hz

theorem uintAt_digs (l r : List Int) (u a : Nat) (hu : u ≤ 18446744073709551615) (ha : l.length = a) : uintAt (l ++ (digsI u ++ r)) a = ((u : Int), (a : Int) + lenv u, 0) := by
  subst ha
  have h := scan_digs u 0 0 r (by omega) (by omega) (.inl rfl)
  rw [uintAt_ok (v := u) (e := lenv u) (by simp)]
  rw [List.drop_left, h]
  simp

set_option maxRecDepth 100000 in
set_option maxHeartbeats 1600000 in
theorem invlaw_walk (A : Option Addr) (n c : Nat) (zs : List Int) (A' : Option Addr) (n' c' : Nat) (rs : List Int) (v k : Int) (w : World) (hn : Hid (zs.length = n)) (hm : n ≤ 9223372036854775807) (hs : Sees w w.heap.size A (cellsU8 zs)) (hz : Hid (∀ z ∈ zs, 0 ≤ z ∧ z ≤ 255))
    (hA' : Hid (A' = none → c' = 0)) (hn' : Hid (rs.length = n')) (hm' : n' ≤ 9223372036854775807) (hs' : Sees w w.heap.size A' (cellsU8 rs)) (hz' : Hid (∀ z ∈ rs, 0 ≤ z ∧ z ≤ 255))
    (h0 : 0 ≤ v) (hv : v ≤ 18446744073709551615) (k0 : -9223372036854775808 ≤ k) (hk : k ≤ 9223372036854775807) :
    Calls Try.prog 5 #[.slice A n c, .slice A' n' c', .int .u64 v, .int .i64 k] w fun e w' => e = .returned (.bool true) ∧ Below w.heap.size w w' := by
  obtain ⟨i0, hi, hz0, hz1, hz2⟩ := info_parts Try.info5
  by_cases hlt : n ≤ 1000
  · by_cases hlt' : n' ≤ 1000
    · have hl10 := lenv_le v.toNat (by omega)
      have hl10' := lenv_le (zz k).toNat (by have := zz_hi k k0 hk; omega)
      have hp := lenv_pos v.toNat
      go_enter Try.func5, Try.ntmps5
      go_wp2_with fail
      refine (awake_any _).mono ?_
      rintro e w' ⟨rfl, rfl⟩
      go_wp2_with fail
      refine (put_any A n c zs v _ w hn (by omega) hs (Nat.le_refl _) h0 hv).mono ?_
      rintro e w1 ⟨r1, rfl, ho1, hb1⟩
      obtain ⟨A1, c1, rfl, _, _⟩ := own_form ho1
      go_wp2_with fail
      refine (putint_any A1 (n + lenv v.toNat) c1 (zs ++ digsI v.toNat) k _ w1 (by show _ = _; have := hn.out; simp [digsI_length]; omega) (by omega) (Sees.own ho1) (Nat.le_refl _) k0 hk).mono ?_
      rintro e w2 ⟨r2, rfl, ho2, hb2⟩
      have hbb := below_step hb1 hb2
      have hs2' := hs'.below hbb
      clear ho1
      go_wp2_with (at_builtin; refine wpList_append_sees rfl (.tmp 40) (.tmp 41) 22 rfl w1.heap.size 5 i0 (.int .u8 0) 1 Try.underlying22 hi hz0 hz1 hz2 rfl r2 _ _ rfl ho2 w.heap.size A' n' c' (cellsU8 rs) rfl hA' (by simpa [cellsU8] using hn'.out) hs2' (one_u8 rs) (by unfold maxLen; omega) (by omega) hb2.size ?_)
      intro r3 w3 ho3 hg3
      have hb3 := below_append hbb ho2 hb1.size hg3 (Nat.le_trans hb1.size hb2.size)
      have hL : cellsU8 (zs ++ (digsI v.toNat ++ digsI (zz k).toNat)) ++ cellsU8 rs = cellsU8 (zs ++ (digsI v.toNat ++ (digsI (zz k).toNat ++ rs))) := by simp [cellsU8]
      rw [hL] at ho3
      have hU := hide (uintAt_digs zs (digsI (zz k).toNat ++ rs) v.toNat n (by omega) hn.out)
      have hU2 := hide (uintAt_digs (zs ++ digsI v.toNat) rs (zz k).toNat (n + lenv v.toNat) (by have := zz_hi k k0 hk; omega) (by have := hn.out; simp [digsI_length]; omega))
      rw [List.append_assoc] at hU2
      rw [show ((v.toNat : Nat) : Int) = v by omega] at hU
      rw [show (((zz k).toNat : Nat) : Int) = zz k by have := zz_lo k; omega, Int.natCast_add] at hU2
      have hlen := hide (show (zs ++ (digsI v.toNat ++ (digsI (zz k).toNat ++ rs))).length = n + lenv v.toNat + lenv (zz k).toNat + n' by have := hn.out; have := hn'.out; simp [digsI_length]; omega)
      have hzz := hide (show ∀ z ∈ zs ++ (digsI v.toNat ++ (digsI (zz k).toNat ++ rs)), 0 ≤ z ∧ z ≤ 255 by
        intro z h
        simp only [List.mem_append] at h
        rcases h with h | h | h | h
        · exact hz.out z h
        · exact digsI_bytes _ z h
        · exact digsI_bytes _ z h
        · exact hz'.out z h)
      obtain ⟨g, c3, rfl, _, _, hnc3, _⟩ := own_block ho3 (by omega)
      have hs3 := Sees.own ho3
      clear ho2 ho3 hg3 hL hb1 hb2 hbb hs2' hs' hz hz' hA'
      obtain ⟨L, hLL⟩ : ∃ L, L = zs ++ (digsI v.toNat ++ (digsI (zz k).toNat ++ rs)) := ⟨_, rfl⟩
      obtain ⟨u, hu⟩ : ∃ u, u = lenv (zz k).toNat := ⟨_, rfl⟩
      have hpre := hide (show ∀ (i : Nat) (y : Value), (cellsU8 zs)[i]? = some y → (cellsU8 L)[i]? = some y by
        intro i y h
        have hi : i < (cellsU8 zs).length := by
          rcases Nat.lt_or_ge i (cellsU8 zs).length with h1 | h1
          · exact h1
          · rw [List.getElem?_eq_none h1] at h; cases h
        rw [hLL, show cellsU8 (zs ++ (digsI v.toNat ++ (digsI (zz k).toNat ++ rs))) = cellsU8 zs ++ cellsU8 (digsI v.toNat ++ (digsI (zz k).toNat ++ rs)) by simp [cellsU8], List.getElem?_append_left hi]
        exact h)
      rw [← hLL] at hU hU2 hlen hzz hs3
      rw [← hu] at hU2 hlen hnc3 hl10' ⊢
      clear hLL hu
      go_wp2_with fail
      refine (uint_any _ _ c3 L n _ w3 (by intro h; cases h) hlen (by omega) hnc3 hs3 hzz).mono ?_
      rintro e w' ⟨rfl, rfl⟩
      rw [hU.out]
      unfold uintVal
      go_wp2_with fail
      refine (int_any _ _ c3 L _ _ w3 (by intro h; cases h) hlen (by omega) hnc3 hs3 hzz).mono ?_
      rintro e w' ⟨rfl, rfl⟩
      rw [hU2.out]
      unfold intVal
      rw [show unzz (zz k, (n : Int) + (lenv v.toNat : Int) + (u : Int), (0 : Int)).1 = k from unzz_zz k]
      clear hU hU2
      go_wp2_with fail
      refine (len_any v _ h0 hv).mono ?_
      rintro e w' ⟨rfl, rfl⟩
      go_wp2_with fail
      refine (same_any _ A n c3 n c zs w3.heap.size w3 hn rfl (by omega) (hs3.part hpre.out) ((hs.below hb3).more hb3.size)).mono ?_
      rintro e w' ⟨rfl, q, rfl⟩
      go_wp2_with fail
      go_ret
      exact ⟨by simp, below_draws hb3 q⟩
    · go_enter Try.func5, Try.ntmps5
      go_wp2_with fail
      refine (awake_any _).mono ?_
      rintro e w' ⟨rfl, rfl⟩
      go_wp2_with fail
      all_goals first
        | (exfalso; omega)
        | (go_ret; exact ⟨by simp; omega, Below.refl _ _⟩)
  · by_cases hlt' : n' ≤ 1000
    all_goals
      go_enter Try.func5, Try.ntmps5
      go_wp2_with fail
      refine (awake_any _).mono ?_
      rintro e w' ⟨rfl, rfl⟩
      go_wp2_with fail
      go_ret
      exact ⟨by simp, Below.refl _ _⟩
end Go.Proofs.Ytbfnbhjmbheokaa
