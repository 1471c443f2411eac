import Derived.Test.YtlcmcmocjbeocaaGreatDoorMPmem
import Derived.Test.YtlcmcmocjbeocaaGreatDoorMBitsm
import Derived.Test.YtlcmcmocjbeocaaGreatDoorMMins
import Derived.Test.YtlcmcmocjbeocaaGreatDoorMPset
import Derived.Test.YtlcmcmocjbeocaaGreatDoorMKit
import Derived.Test.YtlcmcmocjbeocaaGreatDoorMJrdm
import Derived.Lib.SmallJoins
import Derived.Deep.QuietTactic
import Derived.BigQuiet
set_option linter.unusedVariables false
set_option linter.unusedSimpArgs false
section
/-
  The contract of bytes.Equal. Conditions: those of the types.
-/
namespace Go.Proofs.YtlcmcmocjbeocaaGreatDoor
open Go.RowKit

theorem str_inj {xs ys : List Int} (hx : Byt xs) (hy : Byt ys) (h : strOfNums xs = strOfNums ys) : xs = ys := by
  have h1 := congrArg (fun s : ByteArray => s.data.toList.map UInt8.toNat) h
  simp only [strOfNums, List.map_map] at h1
  have back : ∀ {zs : List Int}, Byt zs → zs = (zs.map (UInt8.toNat ∘ fun n => UInt8.ofNat n.toNat)).map (fun k : Nat => (k : Int)) := fun {zs} hz => by
    rw [List.map_map]
    conv => lhs; rw [← List.map_id zs]
    refine List.map_congr_left fun z hz' => ?_
    have := hz z hz'
    simp only [Function.comp, id]
    rw [UInt8.toNat_ofNat']
    omega
  rw [back hx, back hy, h1]
theorem bytes_beq (X Y : ByteArray) : (X.toList == Y.toList) = decide (X = Y) := by
  rw [Bool.eq_iff_iff, beq_iff_eq, decide_eq_true_eq, ByteArray.toList_eq, ByteArray.toList_eq]
  constructor
  · intro h
    cases X; cases Y
    have h2 := Array.toList_inj.1 h
    simp only at h2
    rw [h2]
  · rintro rfl; rfl
theorem conv_str {w : World} {B b off n c : Nat} {zs : List Int} (hn : zs.length = n) (hs : Sees w B (some ⟨b, off, none⟩) (cellsU8 zs)) (hz : Byt zs) :
    (convert 22 9 (.slice (some ⟨b, off, none⟩) n c)).run Tryz.prog w = .ok (.string (strOfNums zs)) w := by
  refine run_convert_bytes_arg w 22 5 Tryz.underlying22 Tryz.underlying5 b off n c zs hn (fun i hi => ?_) 9 Tryz.underlying9
  obtain ⟨b', off', z, e, _, hcell, _, _, hzk⟩ := byte_at (zs := zs) (k := i) hs (by omega) hz
  injection e with e
  injection e with e1 e2
  subst e1 e2
  rw [hcell, List.getD_eq_getElem?_getD, hzk.out]
  rfl
set_option maxHeartbeats 800000 in
theorem beq_any (b off n c b' off' n' c' : Nat) (xs ys : List Int) (B B' : Nat) (w : World) (hn : Hid (xs.length = n)) (hn' : Hid (ys.length = n')) (hs : Hid (Sees w B (some ⟨b, off, none⟩) (cellsU8 xs))) (hs' : Hid (Sees w B' (some ⟨b', off', none⟩) (cellsU8 ys))) (hx : Hid (Byt xs)) (hy : Hid (Byt ys)) :
    Calls Tryz.prog 46 #[.slice (some ⟨b, off, none⟩) n c, .slice (some ⟨b', off', none⟩) n' c'] w fun e w' => e = .returned (.bool (decide (xs = ys))) ∧ w = w' := by
  have c1 := conv_str (c := c) hn.out hs.out hx.out
  have c2 := conv_str (c := c') hn'.out hs'.out hy.out
  have E := hide (show decide (xs = ys) = decide (strOfNums xs = strOfNums ys) from decide_eq_decide.2 ⟨fun h => by rw [h], fun h => str_inj hx.out hy.out h⟩)
  rw [E.out]
  clear E
  generalize strOfNums xs = X at c1 ⊢
  generalize strOfNums ys = Y at c2 ⊢
  go_enter Tryz.func46, Tryz.ntmps46
  go_wp2
  go_ret
  exact ⟨ret_bool (bytes_beq X Y), rfl⟩
end Go.Proofs.YtlcmcmocjbeocaaGreatDoor
end

section
/-
  The contract of the program's Decode (package machcode), for any bytes. Conditions: the types'; the table of TrailingZeros64 lies as it is laid.
-/
namespace Go.Proofs.YtlcmcmocjbeocaaGreatDoor
open Go.RowKit

theorem jzero_tg (w : World) (lo B : Nat) : TgAt w lo B none 0 0 [] [] := ⟨rfl, ⟨fun _ => rfl, Nat.le_refl _, Nat.zero_le _⟩, Far.none _, Sees.nil_ _ _ _, ⟨rfl, fun k h f e => by simp at e⟩⟩
/-- What Decode leaves. -/
def JdPost (zs : List Int) (w : World) (e : Ending) (w' : World) : Prop :=
  ∃ (er Al bd : Int) (F : Tg) (A : Option Addr) (n c : Nat) (hs : List Fd), e = .returned (.tuple #[tv Al A n c, .int .i64 bd, .int .i64 er]) ∧ JDec zs er Al bd F ∧ TgAt w' w.heap.size w'.heap.size A n c hs F ∧ ImmT F ∧ Below w.heap.size w w'
theorem jd_zero {zs : List Int} {w w' : World} {er : Int} (h : JDec zs er 0 0 []) (hb : Below w.heap.size w w') : JdPost zs w (.returned (.tuple #[tv 0 none 0 0, .int .i64 0, .int .i64 er])) w' :=
  ⟨er, 0, 0, [], none, 0, 0, [], rfl, h, jzero_tg _ _ _, (fun f hf => by cases hf), hb⟩

set_option maxRecDepth 100000 in
set_option maxHeartbeats 4000000 in
theorem jdecode_any (A0 : Option Addr) (n0 c0 : Nat) (zs : List Int) (w : World) (hm : n0 ≤ 4611686018427387904) (hB : Hid (BsAt w w.heap.size A0 n0 c0 zs)) (hTab : Hid (Tab w)) :
    Calls Tryz.prog 22 #[.slice A0 n0 c0] w (JdPost zs w) := by
  have hln := hB.out.len
  obtain ⟨W, hW⟩ : ∃ W, w.alloc (.cells #[.int .i64 0, .slice none 0 0] 53) = W := ⟨_, rfl⟩
  have HW := hide hW
  have R0 := hide (show Row W w.heap.size 53 [.int .i64 0, .slice none 0 0] by rw [← hW]; exact Row.new w _ _)
  have HB := hide (show Below w.heap.size w W by rw [← hW]; exact below1 w _)
  clear hW
  by_cases hbig : 1048576 < n0
  · have hz : (1048576 : Int) < (n0 : Int) := by omega
    have HD := hide (JDec.many (zs := zs) (by omega))
    have r0 := R0.out.cell (k := 0) rfl
    have r1 := R0.out.cell (k := 1) rfl
    have q0 := R0.out.free 0
    have q1 := R0.out.free 1
    have hf := hide ((R0.out.set_ 0 (.int .i64 0)).set_ 1 (.slice none 0 0))
    have HF := hide ((HB.out.setCell (p := ⟨w.heap.size, 0, none⟩) (by simp) (.int .i64 0)).setCell (p := ⟨w.heap.size, 1, none⟩) (by simp) (.slice none 0 0))
    clear hbig hln
    go_enter Tryz.func22, Tryz.ntmps22
    go_upto_region 1 with (fail)
    rw [HW.out]
    go_wp2
    have f0 := hf.out.cell (k := 0) rfl
    have f1 := hf.out.cell (k := 1) rfl
    exact bodyPost_ret (v := .tuple #[tv 0 none 0 0, .int .i64 0, .int .i64 3]) (by simp [results, Tryz.results22, go_sem, f0, f1]) rfl (jd_zero HD.out HF.out)
  · have hz : ¬ ((1048576 : Int) < (n0 : Int)) := by omega
    by_cases hsm : n0 < 10
    · have hz2 : (n0 : Int) < 10 := by omega
      have HD := hide (JDec.few (zs := zs) (by omega))
      have r0 := R0.out.cell (k := 0) rfl
      have r1 := R0.out.cell (k := 1) rfl
      have q0 := R0.out.free 0
      have q1 := R0.out.free 1
      have hf := hide ((R0.out.set_ 0 (.int .i64 0)).set_ 1 (.slice none 0 0))
      have HF := hide ((HB.out.setCell (p := ⟨w.heap.size, 0, none⟩) (by simp) (.int .i64 0)).setCell (p := ⟨w.heap.size, 1, none⟩) (by simp) (.slice none 0 0))
      clear hbig hsm hln
      go_enter Tryz.func22, Tryz.ntmps22
      go_upto_region 1 with (fail)
      rw [HW.out]
      go_wp2
      have f0 := hf.out.cell (k := 0) rfl
      have f1 := hf.out.cell (k := 1) rfl
      exact bodyPost_ret (v := .tuple #[tv 0 none 0 0, .int .i64 0, .int .i64 1]) (by simp [results, Tryz.results22, go_sem, f0, f1]) rfl (jd_zero HD.out HF.out)
    · have hz2 : ¬ ((n0 : Int) < 10) := by omega
      have H1 := hide (show ¬ 1048576 < zs.length by omega)
      have H2 := hide (show ¬ zs.length < 10 by omega)
      obtain ⟨z, hzz⟩ : ∃ z, (cellsU8 zs)[0]? = some z := ⟨_, List.getElem?_eq_getElem (by simp [cellsU8]; omega)⟩
      obtain ⟨b, off, rfl, -, -⟩ := hB.out.see 0 z hzz
      have HBW := hide (hB.out.call HB.out)
      have cr := jread_any b off n0 c0 zs W (by omega) (by omega) HBW
      have HI := hide (tgL_imm (hB.out.byt.drop 4))
      have HBy := hide hB.out.byt
      have HLN := hide hln
      unfold JRePost at cr
      have HBAD := hide (fun (Al bd : Int) (F : Tg) => @JDec.badL zs Al bd F H1.out H2.out)
      have HGOOD := hide (fun (Al bd : Int) (F : Tg) => @JDec.good zs Al bd F H1.out H2.out)
      obtain ⟨Al, hAl⟩ : ∃ x, (tgL (zs.drop 4)).1.1 = x := ⟨_, rfl⟩
      obtain ⟨bd, hbd⟩ : ∃ x, (tgL (zs.drop 4)).1.2.1 = x := ⟨_, rfl⟩
      obtain ⟨F, hF⟩ : ∃ x, (tgL (zs.drop 4)).1.2.2 = x := ⟨_, rfl⟩
      have HTG := hide (show (tgL (zs.drop 4)).1 = (Al, bd, F) by rw [← hAl, ← hbd, ← hF])
      rw [hAl, hbd, hF] at cr
      rw [hF] at HI
      clear hAl hbd hF hzz hbig hsm hln
      go_enter Tryz.func22, Tryz.ntmps22
      go_upto_region 1 with (fail)
      rw [HW.out]
      clear HW
      go_wp2_with fail
      refine cr.mono ?_
      rintro e w1 ⟨A, n, c, hs, rfl, htg, hb1⟩
      obtain ⟨T, hT⟩ : ∃ T, w1.heap.size = T := ⟨_, rfl⟩
      obtain ⟨W2, hW2⟩ : ∃ V, w1.alloc (.cells #[.int .i64 Al, .slice A n c] 53) = V := ⟨_, rfl⟩
      have HW2 := hide hW2
      have HT := hide hT
      have h12 : Below w1.heap.size w1 W2 := by rw [← hW2]; exact below1 w1 _
      have hb12 := hb1.trans (h12.mono hb1.size)
      have R2 := hide (R0.out.call hb12)
      have T2 := hide (show Row W2 T 53 [.int .i64 Al, .slice A n c] by rw [← hW2, ← hT]; exact Row.new w1 _ _)
      have HB2 := hide (below_call HB.out hb12)
      obtain ⟨W0, hW0⟩ : ∃ x, W.heap.size = x := ⟨_, rfl⟩
      have hW0l : w.heap.size < W0 := by rw [← hW0]; exact R0.out.lt
      have TG2 := hide (htg.call h12)
      have BS2 := hide (HBW.out.call hb12)
      have hTw : w.heap.size < T := by rw [← hT]; exact Nat.lt_of_lt_of_le R0.out.lt hb1.size
      have HTab2 := hide ((hTab.out.below HB.out).below hb12)
      clear hW2 hT cr htg hb1 h12 hb12 R0 HBW
      go_upto_region 6 with (fail)
      rw [HW2.out, HT.out]
      clear HW2 HT
      have t0 := T2.out.cell (k := 0) rfl
      have t1 := T2.out.cell (k := 1) rfl
      go_wp2_with fail
      refine (jencode_any Al bd A n c hs F _ W2 TG2 HI HTab2).mono ?_
      rintro e w3 ⟨A2, n2, c2, rfl, h0, hn0, hb3⟩
      have R3 := hide (R2.out.call hb3)
      have T3 := hide (T2.out.call hb3)
      have HB3 := hide (below_call HB2.out hb3)
      have TG4 := hide (show TgAt w3 W0 w3.heap.size A n c hs F by rw [← hW0]; exact TG2.out.call hb3)
      have BS3 := hide (BS2.out.call hb3)
      have HO := hide h0
      have r0 := R3.out.cell (k := 0) rfl
      have r1 := R3.out.cell (k := 1) rfl
      have q0 := R3.out.free 0
      have q1 := R3.out.free 1
      clear hn0 hb3 R2 T2 TG2 BS2 h0 t0 t1
      by_cases he : encJE Al bd F = 0
      · obtain ⟨hn2, ho2⟩ := HO.out he
        have hlen := encJ_len Al bd F
        have h7 := tgY_len Al bd F
        obtain ⟨g2, c2', hA2, -, -, -, -⟩ := own_block ho2 (by omega)
        injection hA2 with hA2 _ hc2
        subst hA2
        subst hc2
        have hgd : JGood Al bd F := ⟨he, HI.out⟩
        have cb := beq_any g2 0 n2 c2 b off n0 c0 (encJ Al bd F) zs w3.heap.size w3.heap.size w3 (hide hn2.symm) HLN (hide (Sees.ownN ho2)) (hide BS3.out.see) (hide ((tgY_byt hgd.parts.2.2.2).app (crcI_bytes _))) HBy
        have t0 := T3.out.cell (k := 0) rfl
        have t1 := T3.out.cell (k := 1) rfl
        clear ho2 hlen h7 HO hn2
        by_cases heq : encJ Al bd F = zs
        · rw [decide_eq_true heq] at cb
          have HD := hide (HGOOD.out Al bd F hgd heq)
          have hf := hide ((R3.out.set_ 0 (.int .i64 Al)).set_ 1 (.slice A n c))
          have htg : TgAt ((w3.setCell ⟨w.heap.size, 0, none⟩ (.int .i64 Al)).setCell ⟨w.heap.size, 1, none⟩ (.slice A n c)) W0 w3.heap.size A n c hs F := TG4.out.keep fun p h1 _ => by
            have hne : ∀ j, (⟨w.heap.size, j, none⟩ : Addr) ≠ p := fun j e => by subst e; simp at h1; omega
            rw [World.cell?_setCell_other _ _ _ _ (hne _), World.cell?_setCell_other _ _ _ _ (hne _)]
          have HF := hide (show JdPost zs w (.returned (.tuple #[tv Al A n c, .int .i64 bd, .int .i64 0])) ((w3.setCell ⟨w.heap.size, 0, none⟩ (.int .i64 Al)).setCell ⟨w.heap.size, 1, none⟩ (.slice A n c)) from
            ⟨0, Al, bd, F, A, n, c, hs, rfl, HD.out, (htg.more (by simp [World.setCell]) (by omega)), HI.out, (HB3.out.setCell (p := ⟨w.heap.size, 0, none⟩) (by simp) _).setCell (p := ⟨w.heap.size, 1, none⟩) (by simp) _⟩)
          rw [he]
          clear hgd heq he
          go_wp2_with fail
          refine cb.mono ?_
          rintro e w' ⟨rfl, rfl⟩
          go_wp2
          have f0 := hf.out.cell (k := 0) rfl
          have f1 := hf.out.cell (k := 1) rfl
          exact bodyPost_ret (v := .tuple #[tv Al A n c, .int .i64 bd, .int .i64 0]) (by simp [results, Tryz.results22, go_sem, f0, f1]) rfl HF.out
        · rw [decide_eq_false heq] at cb
          have HD := hide (HBAD.out Al bd F HTG.out (fun h => heq h.2))
          have hf := hide ((R3.out.set_ 0 (.int .i64 0)).set_ 1 (.slice none 0 0))
          have HF := hide ((HB3.out.setCell (p := ⟨w.heap.size, 0, none⟩) (by simp) (.int .i64 0)).setCell (p := ⟨w.heap.size, 1, none⟩) (by simp) (.slice none 0 0))
          rw [he]
          clear hgd heq he
          go_wp2_with fail
          refine cb.mono ?_
          rintro e w' ⟨rfl, rfl⟩
          go_wp2
          have f0 := hf.out.cell (k := 0) rfl
          have f1 := hf.out.cell (k := 1) rfl
          exact bodyPost_ret (v := .tuple #[tv 0 none 0 0, .int .i64 0, .int .i64 2]) (by simp [results, Tryz.results22, go_sem, f0, f1]) rfl (jd_zero HD.out HF.out)
      · have hne : (encJE Al bd F == 0) = false := by simpa using he
        have HD := hide (HBAD.out Al bd F HTG.out (fun h => he h.1))
        have hf := hide ((R3.out.set_ 0 (.int .i64 0)).set_ 1 (.slice none 0 0))
        have HF := hide ((HB3.out.setCell (p := ⟨w.heap.size, 0, none⟩) (by simp) (.int .i64 0)).setCell (p := ⟨w.heap.size, 1, none⟩) (by simp) (.slice none 0 0))
        obtain ⟨x, hx⟩ : ∃ x, encJE Al bd F = x := ⟨_, rfl⟩
        rw [hx] at hne he ⊢
        have hne2 : (x != 0) = true := by simpa using he
        have hne3 : decide (x = 0) = false := decide_eq_false he
        clear hx HO
        go_wp2
        have f0 := hf.out.cell (k := 0) rfl
        have f1 := hf.out.cell (k := 1) rfl
        exact bodyPost_ret (v := .tuple #[tv 0 none 0 0, .int .i64 0, .int .i64 2]) (by simp [results, Tryz.results22, go_sem, f0, f1]) rfl (jd_zero HD.out HF.out)
end Go.Proofs.YtlcmcmocjbeocaaGreatDoor
end

section
/-
  The contract of spillframeref01.SameBytes at any two slices of bytes: whether they hold the same; it only reads. Condition: fewer than 2^62 bytes.
-/
namespace Go.Proofs.YtlcmcmocjbeocaaGreatDoor
open Go.RowKit

theorem take_step {zs zs' : List Int} {k : Nat} (h : zs.take k = zs'.take k) (h1 : k < zs.length) (h2 : k < zs'.length) (e : zs.getD k 0 = zs'.getD k 0) : zs.take (k + 1) = zs'.take (k + 1) := by
  rw [List.getD_eq_getElem?_getD, List.getD_eq_getElem?_getD, List.getElem?_eq_getElem h1, List.getElem?_eq_getElem h2] at e
  rw [List.take_add_one, List.take_add_one, h, List.getElem?_eq_getElem h1, List.getElem?_eq_getElem h2]
  simp only [Option.getD_some] at e
  rw [e]
set_option maxHeartbeats 400000 in
theorem smb_any (A A' : Option Addr) (n c n' c' : Nat) (zs zs' : List Int) (B : Nat) (w : World) (hn : Hid (zs.length = n)) (hn' : Hid (zs'.length = n')) (hm : n ≤ 4611686018427387904) (hm' : n' ≤ 4611686018427387904)
    (h : Sees w B A (cellsU8 zs)) (h' : Sees w B A' (cellsU8 zs')) :
    Calls Tryz.prog 50 #[.slice A n c, .slice A' n' c'] w fun e w' => e = .returned (.bool (decide (zs = zs'))) ∧ ∃ k, w' = w.drewN k := by
  by_cases hl : n = n'
  · subst hl
    go_enter Tryz.func50, Tryz.ntmps50
    go_wp2
    go_loopw [5] (fun i wr => ∃ k : Nat, k ≤ n ∧ i = .int .i64 k ∧ Hid (zs.take k = zs'.take k) ∧ ∃ m, wr = w.drewN m) (fun i _ => n - (intOf i).toNat)
    case atStart => exact ⟨0, Nat.zero_le _, rfl, hide (by simp), 0, rfl⟩
    case round =>
      obtain ⟨k, hk, rfl, hT, m, rfl⟩ := hrel
      by_cases hlt : k < n
      · obtain ⟨b, off, rfl, _, hc⟩ := h k _ (get_u8 (by have := hn.out; omega))
        obtain ⟨b', off', rfl, _, hc'⟩ := h' k _ (get_u8 (by have := hn'.out; omega))
        clear h h'
        have hst := hide (take_step hT.out (by rw [hn.out]; exact hlt) (by rw [hn'.out]; exact hlt))
        have hne := hide (show zs = zs' → zs.getD k 0 = zs'.getD k 0 from fun e => by rw [e])
        obtain ⟨x, hx⟩ : ∃ x, zs.getD k 0 = x := ⟨_, rfl⟩
        obtain ⟨y, hy⟩ : ∃ y, zs'.getD k 0 = y := ⟨_, rfl⟩
        rw [hx] at hc hst hne
        rw [hy] at hc' hst hne
        clear hx hy
        by_cases hxy : x = y
        · have HT := hide (hst.out hxy)
          subst hxy
          clear hst hne
          go_wp2
          go_quiet (fail)
          go_wp2
          go_roundw
          case rel => exact ⟨k + 1, by omega, by go_num, HT, _, rfl⟩
          case measure => simp [intOf]; omega
        · have HD := hide (show decide (zs = zs') = false from decide_eq_false fun e => hxy (hne.out e))
          clear hst hne
          go_wp2
          go_quiet (fail)
          go_wp2
          go_ret
          rw [HD.out]
          exact ⟨rfl, m + nq, by rw [World.drewN_drewN]⟩
      · have HD := hide (show decide (zs = zs') = true from decide_eq_true (by
          have := hT.out
          rwa [List.take_of_length_le (by rw [hn.out]; omega), List.take_of_length_le (by rw [hn'.out]; omega)] at this))
        clear h h'
        go_wp2
        go_ret
        rw [HD.out]
        exact ⟨rfl, m, rfl⟩
  · have HD := hide (show decide (zs = zs') = false from decide_eq_false fun e => hl (by rw [← hn.out, ← hn'.out, e]))
    have hz : ¬ (n : Int) = (n' : Int) := by omega
    have hz2 : ((n : Int) == (n' : Int)) = false := by simpa using hz
    clear h h' hl
    go_enter Tryz.func50, Tryz.ntmps50
    go_wp2
    go_ret
    rw [HD.out]
    exact ⟨rfl, 0, rfl⟩
end Go.Proofs.YtlcmcmocjbeocaaGreatDoor
end

section
/-
  The contract of the reference's CrcIs: whether the last four bytes are the checksum of those in front. Condition: from 4 to 2^40 bytes.
-/
namespace Go.Proofs.YtlcmcmocjbeocaaGreatDoor
open Go.RowKit

/-- Whether the bytes end in their checksum. -/
def crcB (zs : List Int) : Bool := decide (zs.drop (zs.length - 4) = crcI (crcN (zs.take (zs.length - 4))))
set_option maxRecDepth 100000 in
set_option maxHeartbeats 1600000 in
theorem rcrcis_any (b off m c : Nat) (zs : List Int) (B : Nat) (w : World) (hn : Hid (zs.length = m + 4)) (hm : m ≤ 1099511627776) (hc : m + 4 ≤ c) (hc2 : c ≤ 9223372036854775807) (hs : Hid (Sees w B (some ⟨b, off, none⟩) (cellsU8 zs))) (hz : Hid (Byt zs)) :
    Calls Tryz.prog 47 #[.slice (some ⟨b, off, none⟩) (m + 4) c] w fun e w' => e = .returned (.bool (crcB zs)) ∧ w = w' := by
  have cell : ∀ j, j < 4 → ∃ z, zs[m + j]? = some z ∧ w.cell? ⟨b, off + (m + j), none⟩ = some (.int .u8 z) := fun j hj => by
    have hl : m + j < zs.length := by rw [hn.out]; omega
    obtain ⟨b', off', z, e, _, hcell, _, _, hzk⟩ := byte_at (zs := zs) hs.out hl hz.out
    injection e with e
    injection e with e1 e2
    subst e1 e2
    exact ⟨z, hzk.out, hcell⟩
  obtain ⟨z0, x0, c0⟩ := cell 0 (by omega)
  obtain ⟨z1, x1, c1⟩ := cell 1 (by omega)
  obtain ⟨z2, x2, c2⟩ := cell 2 (by omega)
  obtain ⟨z3, x3, c3⟩ := cell 3 (by omega)
  have hdrop : zs.drop m = [z0, z1, z2, z3] := by
    rw [show m = m + 0 from rfl, drop_head x0, drop_head x1, drop_head x2, drop_head x3, List.drop_eq_nil_of_le (by rw [hn.out]; omega)]
  have hB := hide (show (crcB zs = true ↔ z0 = (crcN (zs.take m) : Nat) / 16777216 % 256 ∧ z1 = (crcN (zs.take m) : Nat) / 65536 % 256 ∧ z2 = (crcN (zs.take m) : Nat) / 256 % 256 ∧ z3 = (crcN (zs.take m) : Nat) % 256) by
    unfold crcB
    rw [hn.out, Nat.add_sub_cancel, hdrop]
    simp [crcI])
  have ct := refcrc_any (some ⟨b, off, none⟩) m c (zs.take m) B w (hide (by rw [List.length_take, hn.out]; omega)) (by omega) (by have := hs.out.take m; rwa [show (cellsU8 zs).take m = cellsU8 (zs.take m) by simp [cellsU8]] at this) (hide (hz.out.take m))
  rw [show 4294967295 - crcAll 4294967295 (zs.take m) = crcN (zs.take m) from rfl] at ct
  have hlt := crcN_lt (zs.take m)
  generalize crcN (zs.take m) = C at hB ct hlt
  rw [Nat.add_zero] at c0
  clear cell x0 x1 x2 x3 hdrop
  have hmz : (0 : Int) ≤ (m : Int) := by omega
  go_enter Tryz.func47, Tryz.ntmps47
  go_wp2_with fail
  refine ct.mono ?_
  rintro e w' ⟨rfl, rfl⟩
  have HB := hide hB
  clear hB
  go_wp2
  all_goals
    go_ret
    refine ⟨ret_bool ?_, rfl⟩
    rw [Bool.eq_iff_iff, HB.out.out]
    clear ct hs hz hn
    simp only [beq_eq_false_iff_ne, ne_eq, beq_iff_eq, Bool.false_eq_true, Bool.not_eq_true] at *
    first
      | omega
      | exact ⟨fun h => h.elim, fun h => by omega⟩
end Go.Proofs.YtlcmcmocjbeocaaGreatDoor
end
