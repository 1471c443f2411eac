import Derived.Test.YtafegghdhdgioabGreatMMfch
import Derived.Test.YtafegghdhdgioabGreatMMtgm
set_option linter.unusedVariables false
set_option linter.unusedSimpArgs false
section
/-
  The contract of mach.Check: the first error of a target. Conditions: those of the types.
-/
namespace Go.Proofs.YtafegghdhdgioabGreat
open Go.RowKit

set_option maxHeartbeats 4000000 in
theorem chktg_any (Al : Int) (A : Option Addr) (n c : Nat) (hs : List Fd) (F : Tg) (lo B : Nat) (w : World) (H : Hid (TgAt w lo B A n c hs F)) (hB : B ≤ w.heap.size) :
    Calls Tryz.prog 28 #[tv Al A n c] w fun e w' => e = .returned (.int .i64 (tgE Al F)) ∧ Below w.heap.size w w' := by
  have hn := cap_le H.out.cap
  have HL := hide H.out.len
  by_cases hmany : 80 < n
  · have HR := hide (show tgE Al F = 3 from tgE_many (by rw [HL.out]; exact hmany))
    have hz : (80 : Int) < (n : Int) := by omega
    go_enter Tryz.func28, Tryz.ntmps28
    go_wp2_with fail
    go_ret
    exact ⟨ret_int HR.out.symm, below1 _ _⟩
  · by_cases hzero : n = 0
    · subst hzero
      have HR := hide (show tgE Al F = 4 by rw [List.eq_nil_of_length_eq_zero HL.out]; rfl)
      go_enter Tryz.func28, Tryz.ntmps28
      go_wp2_with fail
      go_ret
      exact ⟨ret_int HR.out.symm, below1 _ _⟩
    · have hpos : 0 < n := by omega
      obtain ⟨b, off, P, S, A1, n1, c1, f0, rfl, hbB, hf0, _, h, p0, p1, p2⟩ := fm_at H.out hpos
      have hP : P = f0.params := h.p
      have hbw : b < w.heap.size := by omega
      have hle : F.length ≤ 80 := by have := HL.out; omega
      have hz : ¬ (80 : Int) < (n : Int) := by omega
      have hz0 : ((n : Int) == 0) = false := by simp; omega
      have hzn : (0 : Int) < (n : Int) := by omega
      rw [Nat.zero_mul, Nat.add_zero] at p0
      have cp := power_any Al
      have hHL := hide hle
      have HF0 := hide hf0
      have HP := hide hP
      clear h hf0 p1 p2 hP hzero hle
      cases hpw : powB Al with
      | false =>
        rw [hpw] at cp
        have HR := hide (tgE_align hHL.out HF0.out (.inl hpw))
        clear hpw
        go_enter Tryz.func28, Tryz.ntmps28
        go_wp2_with fail
        refine (cp _).mono ?_
        rintro e w' ⟨rfl, rfl⟩
        go_wp2_with fail
        go_ret
        exact ⟨ret_int HR.out.symm, below1 _ _⟩
      | true =>
        rw [hpw] at cp
        by_cases hal : Al < 16
        · have HR := hide (tgE_align hHL.out HF0.out (.inr hal))
          clear hpw
          go_enter Tryz.func28, Tryz.ntmps28
          go_wp2_with fail
          refine (cp _).mono ?_
          rintro e w' ⟨rfl, rfl⟩
          go_wp2_with fail
          go_ret
          exact ⟨ret_int HR.out.symm, below1 _ _⟩
        · by_cases hp : P = 0
          · subst hp
            have HR := hide (tgE_rest hHL.out HF0.out ⟨hpw, by omega⟩ HP.out.symm)
            have HB0 := hide (below1 w (.cells #[.int .i64 Al, .slice (some ⟨b, off, none⟩) n c] 26))
            have R0 := hide (Row.new w 26 [.int .i64 Al, .slice (some ⟨b, off, none⟩) n c])
            clear hpw
            go_enter Tryz.func28, Tryz.ntmps28
            go_wp2_with fail
            refine (cp _).mono ?_
            rintro e w' ⟨rfl, rfl⟩
            go_wp2_with fail
            obtain ⟨W1, hW1⟩ : ∃ V, (w.alloc (.cells #[.int .i64 Al, .slice (some ⟨b, off, none⟩) n c] 26)) = V := ⟨_, rfl⟩
            rw [show ([.int .i64 Al, .slice (some ⟨b, off, none⟩) n c] : List Value).toArray = #[.int .i64 Al, .slice (some ⟨b, off, none⟩) n c] from rfl] at R0
            rw [hW1] at HB0 R0 ⊢
            clear hW1 p0 cp
            go_loopw [36] (fun s wr => ∃ k : Nat, k ≤ n ∧ s = .int .i64 k ∧ Hid (∀ j (hj : j < F.length), j < k → fmE Al n F[j] = 0) ∧ Hid (Below W1.heap.size W1 wr)) (fun s _ => n - (intOf s).toNat)
            case atStart => exact ⟨0, by omega, rfl, hide (fun j hj h => by omega), hide (Below.refl _ _)⟩
            case round =>
              obtain ⟨k, hk, rfl, hno, hbr⟩ := hrel
              have v0 := (R0.out.call hbr.out).cell (k := 0) rfl
              have v1 := (R0.out.call hbr.out).cell (k := 1) rfl
              have HBR := hide (HB0.out.trans (hbr.out.mono HB0.out.size))
              by_cases hlt : k < n
              · have hkl : k < F.length := by have := HL.out; omega
                have hx := List.getElem?_eq_getElem hkl
                have ci := chkfm_any Al (some ⟨b, off, none⟩) n c hs F lo B k F[k] wr (hide (H.out.below (HBR.out.mono hB))) (Nat.le_trans hB HBR.out.size) (hide hx)
                have HIT := hide (fun h0 : fmE Al n F[k] ≠ 0 => show tgE Al F = fmE Al n F[k] by
                  have hf : firstE (F.map (fmE Al F.length)) = fmE Al n F[k] := by
                    rw [HL.out]
                    exact firstE_hit (k := k) (by rw [List.getElem?_map, List.getElem?_eq_getElem hkl]; rfl) h0 fun j hj => by
                      have hl : j < F.length := by omega
                      rw [List.getElem?_map, List.getElem?_eq_getElem hl]; simp [hno.out j hl hj]
                  rw [HR.out, if_pos (by rw [hf]; exact h0), hf])
                obtain ⟨ie, hie⟩ : ∃ ie, fmE Al n F[k] = ie := ⟨_, rfl⟩
                rw [hie] at ci HIT
                have HIE := hide hie
                have CI := hide ci
                clear ci hie hx
                by_cases h0 : ie = 0
                · subst h0
                  go_wp2_with fail
                  refine (CI.out).mono ?_
                  rintro e w2 ⟨rfl, hb2⟩
                  have HB2 := hide (below_call hbr.out hb2)
                  clear hb2 v0 v1
                  go_wp2_with fail
                  go_roundw
                  case rel =>
                    refine ⟨k + 1, by omega, by go_num, hide fun j hj hjk => ?_, HB2⟩
                    by_cases e : j = k
                    · subst e; exact HIE.out
                    · exact hno.out j hj (by omega)
                  case measure => simp [intOf]; omega
                · have hne : (ie != 0) = true := by rw [bne_iff_ne]; exact h0
                  have HR' := hide (HIT.out h0)
                  clear HIT h0
                  go_wp2_with fail
                  refine (CI.out).mono ?_
                  rintro e w2 ⟨rfl, hb2⟩
                  have HB2 := hide (below_call HBR.out hb2)
                  clear hb2 v0 v1
                  go_wp2_with fail
                  go_ret
                  exact ⟨ret_int HR'.out.symm, HB2.out⟩
              · obtain rfl : k = n := by omega
                have HALL := hide (show ∀ j (hj : j < F.length), fmE Al k F[j] = 0 from fun j hj => hno.out j hj (by have := HL.out; omega))
                have HE := hide (show tgE Al F = if F.all (roomB F) then 0 else 7 by
                  have hf : firstE (F.map (fmE Al F.length)) = 0 := by
                    rw [firstE_zero, HL.out]
                    intro e he
                    obtain ⟨x, hx, rfl⟩ := List.mem_map.1 he
                    obtain ⟨j, hj, rfl⟩ := List.mem_iff_getElem.1 hx
                    exact HALL.out j hj
                  rw [HR.out, if_neg (by rw [hf]; simp)])
                have HPAR := hide (show ∀ g ∈ F, 0 ≤ g.params ∧ g.params ≤ 8 from fun g hg => by
                  obtain ⟨j, hj, rfl⟩ := List.mem_iff_getElem.1 hg
                  exact (shB_b (fmE_zero (HALL.out j hj)).1).1)
                have hbs := hbr.out.size
                go_wp2_with fail
                clear v0 v1
                go_loopw [49] (fun s wr => ∃ q : Nat, q ≤ k ∧ s = .int .i64 q ∧ Hid (∀ j (hj : j < F.length), j < q → roomB F F[j] = true) ∧ Hid (Below W1.heap.size W1 wr)) (fun s _ => k - (intOf s).toNat)
                case atStart => exact ⟨0, by omega, rfl, hide (fun j hj h => by omega), hbr⟩
                case round =>
                  obtain ⟨q, hq, rfl, hno2, hbq⟩ := hrel
                  have v0 := (R0.out.call hbq.out).cell (k := 0) rfl
                  have v1 := (R0.out.call hbq.out).cell (k := 1) rfl
                  have HBQ := hide (HB0.out.trans (hbq.out.mono HB0.out.size))
                  by_cases hlt : q < k
                  · have hkl : q < F.length := by have := HL.out; omega
                    have hx := List.getElem?_eq_getElem hkl
                    have ci := passes_any Al (some ⟨b, off, none⟩) k c hs F lo B q F[q] wr (hide (H.out.below (HBQ.out.mono hB))) (Nat.le_trans hB HBQ.out.size) (hide hx) (hide fun x hx h22 => mins_call ((fmE_zero (HALL.out q hkl)).2.2.1 x hx) h22) HPAR
                    have HIT := hide (fun h0 : roomB F F[q] = false => show tgE Al F = 7 by
                      rw [HE.out, if_neg (by
                        rw [Bool.not_eq_true, List.all_eq_false]
                        exact ⟨_, List.getElem_mem hkl, by simp [h0]⟩)])
                    obtain ⟨rb, hrb⟩ : ∃ v, roomB F F[q] = v := ⟨_, rfl⟩
                    rw [hrb] at ci HIT
                    have HRB := hide hrb
                    have CI := hide ci
                    clear ci hrb hx
                    cases rb with
                    | true =>
                      go_wp2_with fail
                      refine (CI.out).mono ?_
                      rintro e w2 ⟨rfl, hb2⟩
                      have HB2 := hide (below_call hbq.out hb2)
                      clear hb2 v0 v1
                      go_wp2_with fail
                      go_roundw
                      case rel =>
                        refine ⟨q + 1, by omega, by go_num, hide fun j hj hjk => ?_, HB2⟩
                        by_cases e : j = q
                        · subst e; exact HRB.out
                        · exact hno2.out j hj (by omega)
                      case measure => simp [intOf]; omega
                    | false =>
                      have HR' := hide (HIT.out rfl)
                      clear HIT
                      go_wp2_with fail
                      refine (CI.out).mono ?_
                      rintro e w2 ⟨rfl, hb2⟩
                      have HB2 := hide (below_call HBQ.out hb2)
                      clear hb2 v0 v1
                      go_wp2_with fail
                      go_ret
                      exact ⟨ret_int HR'.out.symm, HB2.out⟩
                  · obtain rfl : q = k := by omega
                    have HZ := hide (show tgE Al F = 0 by
                      rw [HE.out, if_pos]
                      rw [List.all_eq_true]
                      intro x hx
                      obtain ⟨j, hj, rfl⟩ := List.mem_iff_getElem.1 hx
                      exact hno2.out j hj (by have := HL.out; omega))
                    go_wp2_with fail
                    go_ret
                    exact ⟨ret_int HZ.out.symm, HBQ.out⟩
          · have hne : (P != 0) = true := by rw [bne_iff_ne]; exact hp
            have HR := hide (tgE_entry hHL.out HF0.out ⟨hpw, by omega⟩ (by rw [← HP.out]; exact hp))
            clear hpw hp
            go_enter Tryz.func28, Tryz.ntmps28
            go_wp2_with fail
            refine (cp _).mono ?_
            rintro e w' ⟨rfl, rfl⟩
            go_wp2_with fail
            go_ret
            exact ⟨ret_int HR.out.symm, below1 _ _⟩
end Go.Proofs.YtafegghdhdgioabGreat
end
