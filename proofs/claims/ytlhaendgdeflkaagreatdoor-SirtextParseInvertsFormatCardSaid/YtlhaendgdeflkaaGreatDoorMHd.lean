import Derived.Test.YtlhaendgdeflkaaGreatDoorMUrlns
import Derived.Test.YtlhaendgdeflkaaGreatDoorMGi
set_option linter.unusedVariables false
set_option linter.unusedSimpArgs false
section
/-
  The reference's line (chapter 7) at any line with words. No condition but those of the types.
-/
namespace Go.Proofs.YtlhaendgdeflkaaGreatDoor
open Go.RowKit

theorem rline_any (lo : Nat) (A : Option Addr) (n c : Nat) (hs : List Hd) (F : Pg) (b1 o1 nw cw : Nat) (nm : List UInt8) (r : List (List UInt8)) (w : World) (H : Hid (PgAt w lo w.heap.size A n c hs F)) (hlo : lo ≤ w.heap.size) (hb1 : b1 < w.heap.size) (hS : Hid (Sees w w.heap.size (some ⟨b1, o1, none⟩) (wcells (nm :: r)))) (hn : nw = r.length + 1) (hnc : nw ≤ cw) (hnb : nw ≤ 100000001) (hlen : Hid (∀ x ∈ r, x.length ≤ 100000000)) (hsm : Hid (SmallP 100000 F)) :
    Calls Tryz.prog 26 #[gv A n c, .slice (some ⟨b1, o1, none⟩) nw cw] w (LnPost lo (lineU F (nm :: r)) w) := by
  by_cases hF : nm = kwF
  · subst hF
    have e : lineU F (kwF :: r) = funcU F r := by unfold lineU; simp
    rw [e]
    exact rline_func lo A n c hs F b1 o1 nw cw r w H hlo hb1 hS hn hnc hnb hlen (by have := hsm.out.1; have := H.out.len; omega)
  · cases hl : F.getLast? with
    | none =>
      have h0 : F = [] := by simpa using hl
      have e : lineU F (nm :: r) = (10, F) := by unfold lineU; simp only; rw [if_neg hF, hl]
      exact rline_first lo A n c hs F b1 o1 nw cw nm r w H hb1 hS hn hF (by rw [← H.out.len, h0]; rfl) (hide e)
    | some f =>
      by_cases hs' : nm = kwS
      · subst hs'
        have e : lineU F (kwS :: r) = slotU F f r := by unfold lineU; simp only; rw [if_neg hF, hl]; simp
        rw [e]
        exact rline_slot lo A n c hs F f b1 o1 nw cw r w H hlo hb1 hS hn hnc hnb hlen (hide hl) hsm
      · have e : lineU F (nm :: r) = instU F f nm r := by unfold lineU; simp only; rw [if_neg hF, hl]; simp only; rw [if_neg hs']
        rw [e]
        exact rline_ins lo A n c hs F f b1 o1 nw cw nm r w H hlo hb1 hS hn hnc hnb hlen hF hs' (hide hl) hsm
theorem splU_words (l : List UInt8) : ∀ w, ∀ x ∈ splU w l, x.length ≤ w.length + l.length := by
  have hfl : ∀ (w : List UInt8) (x : List UInt8), x ∈ flushU w → x.length ≤ w.length := fun w x hx => by
    unfold flushU at hx
    split at hx
    · cases hx
    · simp at hx; subst hx; exact Nat.le_refl _
  induction l with
  | nil => intro w x hx; have := hfl w x hx; simp; exact this
  | cons c r ih =>
    intro w x hx
    simp only [splU] at hx
    rw [List.length_cons]
    split at hx
    · have := hfl w x hx; omega
    · split at hx
      · rcases List.mem_append.1 hx with h | h
        · have := hfl w x h; omega
        · have := ih [] x h; simp at this; omega
      · have := ih (w ++ [c]) x hx; rw [List.length_append] at this; simp at this; omega
theorem words_short (l : List UInt8) : ∀ x ∈ wordsU l, x.length ≤ l.length := fun x hx => by have := splU_words l [] x hx; simpa using this
theorem words_few (l : List UInt8) : (wordsU l).length ≤ l.length + 1 := splU_len l []
end Go.Proofs.YtlhaendgdeflkaaGreatDoor
end

section
/-
  The reference's Parse (chapter 7) of any text. No condition but those of the types.
-/
namespace Go.Proofs.YtlhaendgdeflkaaGreatDoor
open Go.RowKit

/-- What Parse gives. -/
def PtPost (s : List UInt8) (w : World) (e : Ending) (w' : World) : Prop :=
  ∃ (A : Option Addr) (n c : Nat) (hs : List Hd), e = .returned (.tuple #[gv A n c, .int .i64 ((parseU s).1 : Int), .int .i64 (parseU s).2.1]) ∧ PgAt w' w.heap.size w'.heap.size A n c hs (parseU s).2.2 ∧ Below w.heap.size w w'
theorem pt_zero {s : List UInt8} {n : Nat} {x : Int} {w wx : World} {v : Value} (h : parseU s = (n, x, [])) (hb : Below w.heap.size w wx) (hv : v = .slice none 0 0) : PtPost s w (.returned (.tuple #[gv none 0 0, .int .i64 (n : Int), .int .i64 x])) (wx.setCell ⟨w.heap.size, 0, none⟩ v) := by
  subst hv
  exact ⟨none, 0, 0, [], by rw [h], by rw [h]; exact zero_pg _ _ _, hb.setCell (Nat.le_refl _) _⟩
/-- What the loop of the lines keeps: the rest of the text reads to what the whole does. -/
def RunI (s : List UInt8) (at_ nn : Nat) (F : Pg) : Prop := SmallP nn F ∧ nn ≤ at_ ∧ (at_ ≤ s.length → runU [] 0 s = runU F nn (s.drop at_)) ∧ (at_ = s.length + 1 → runU [] 0 s = (0, 0, F))
theorem take_stop {l : List UInt8} {k : Nat} (h1 : ∀ j, j < k → ∀ c, l[j]? = some c → c ≠ 10) (hk : k ≤ l.length) (h2 : k = l.length ∨ l[k]? = some 10) : l.takeWhile (· != 10) = l.take k ∧ l.dropWhile (· != 10) = l.drop k := by
  induction l generalizing k with
  | nil => simp at hk; subst hk; simp
  | cons c r ih =>
    cases k with
    | zero =>
      rcases h2 with h2 | h2
      · simp at h2
      · simp at h2; subst h2; simp
    | succ k =>
      have hc : (c != 10) = true := by have := h1 0 (by omega) c rfl; simpa using this
      have := ih (k := k) (fun j hj c' hc' => h1 (j + 1) (by omega) c' (by simpa using hc')) (by simp at hk; omega) (by
        rcases h2 with h2 | h2
        · left; simp at h2; omega
        · right; simpa using h2)
      rw [List.takeWhile_cons, List.dropWhile_cons, if_pos hc, if_pos hc, this.1, this.2]
      exact ⟨rfl, rfl⟩

/-- A line read: what the loop keeps behind it. -/
theorem RunI.next {s : List UInt8} {a nn t : Nat} {F : Pg} (h : RunI s a nn F) (ha : a ≤ t) (ht : t ≤ s.length) (hal : a < s.length) (hline : (s.drop a).takeWhile (· != 10) = (s.drop a).take (t - a)) (hd : (s.drop a).dropWhile (· != 10) = s.drop t) (hz : (lnU F (s.drop a)).1 = 0) : RunI s (t + 1) (nn + 1) (lnU F (s.drop a)).2 := by
  refine ⟨lineU_small h.1 _, by have := h.2.1; omega, fun h1 => ?_, fun h1 => ?_⟩
  · rw [h.2.2.1 (by omega)]
    have hc := List.drop_eq_getElem_cons (l := s) (i := t) (by omega)
    exact runU_more hz (hd.trans hc)
  · rw [h.2.2.1 (by omega)]
    exact runU_last hz (by rw [hd]; exact List.drop_eq_nil_of_le (by omega))
theorem RunI.stop {s : List UInt8} {a nn : Nat} {F : Pg} (h : RunI s a nn F) (hal : ¬ a < s.length) (ha : a ≤ s.length + 1) : runU [] 0 s = (0, 0, F) := by
  rcases Nat.lt_or_ge s.length a with h1 | h1
  · exact h.2.2.2 (by omega)
  · rw [h.2.2.1 h1, List.drop_eq_nil_of_le (by omega), runU_nil]

set_option maxHeartbeats 8000000 in
set_option maxRecDepth 100000 in
theorem rtparse_any (s : List UInt8) (w : World) (hs1 : s.length ≤ 100000000) :
    Calls Tryz.prog 11 #[.string ⟨s.toArray⟩] w (PtPost s w) := by
  by_cases hlong : 65536 < s.length
  · obtain ⟨W, hW⟩ : ∃ W, w.alloc (.cells #[.slice none 0 0] 29) = W := ⟨_, rfl⟩
    have hb := hide (show Below w.heap.size w W by rw [← hW]; exact below1 _ _)
    have r0 := hide (show Row W w.heap.size 29 [.slice none 0 0] by rw [← hW]; exact Row.new w _ _)
    have HP := hide (show parseU s = (0, 3, []) by unfold parseU; rw [if_pos hlong])
    have hlz : (65536 : Int) < (s.length : Int) := by omega
    have t1 := r0.out.cell (k := 0) rfl
    have t2 := r0.out.free 0
    have f0 := (r0.out.set_ 0 (.slice none 0 0)).cell (k := 0) rfl
    have FIN := hide (pt_zero HP.out hb.out rfl)
    have HW := hide hW
    clear hW hlong
    go_enter Tryz.func11, Tryz.ntmps11
    go_upto_region 1 with (fail)
    rw [HW.out]
    clear HW
    go_wp2_with fail
    exact bodyPost_ret (v := .tuple #[gv none 0 0, .int .i64 0, .int .i64 3]) (by simp [results, Tryz.results11, go_sem, f0]) rfl FIN.out
  · obtain ⟨W, hW, hbW, hsW, r0, r1⟩ := boxes2p w [.slice none 0 0] [.slice none 0 0] 29 29
    have HBW := hide hbW; have R0 := hide r0; have R1 := hide r1; have HSW := hide hsW
    have HPU := hide (show parseU s = if (runU [] 0 s).2.1 ≠ 0 then runU [] 0 s else if pgE (runU [] 0 s).2.2 ≠ 0 then (0, pgE (runU [] 0 s).2.2, []) else (0, 0, (runU [] 0 s).2.2) by unfold parseU; rw [if_neg hlong])
    have hlz : ¬ ((65536 : Int) < (s.length : Int)) := by omega
    have hls : s.length ≤ 65536 := by omega
    have HW := hide hW
    clear hW hbW hsW r0 r1 hlong
    go_enter Tryz.func11, Tryz.ntmps11
    go_upto_region 4 with (fail)
    rw [HW.out]
    clear HW
    go_wp2_with fail
    go_loopw [6, 7, 8, 9, 10] (fun nv av _ _ _ wr => ∃ (a nn : Nat) (A : Option Addr) (n c : Nat) (hs : List Hd) (F : Pg), av = .int .i64 (a : Int) ∧ nv = .int .i64 (nn : Int) ∧ a ≤ s.length + 1 ∧ Hid (RunI s a nn F) ∧ Hid (Below w.heap.size w wr) ∧ Hid (Row wr w.heap.size 29 [.slice none 0 0]) ∧ Hid (Row wr (w.heap.size + 1) 29 [.slice A n c]) ∧ Hid (PgAt wr (w.heap.size + 2) wr.heap.size A n c hs F))
      (fun _ av _ _ _ _ => s.length + 1 - (intOf av).toNat)
    case atStart => exact ⟨0, 0, none, 0, 0, [], [], rfl, rfl, Nat.zero_le _, hide ⟨SmallP.nil_ 0, Nat.le_refl _, fun _ => rfl, fun h => by omega⟩, HBW, R0, R1, hide (zero_pg _ _ _)⟩
    case round =>
      obtain ⟨a, nn, A, n, c, hs, F, rfl, rfl, ha, HR, HB, R0r, R1r, HP⟩ := hrel
      have hnn : nn ≤ 65537 := by have := HR.out.2.1; omega
      have haz : (a : Int) ≤ 65537 := by omega
      have q1 := R1r.out.cell (k := 0) rfl
      by_cases hlt : a < s.length
      · have hltz : (a : Int) < (s.length : Int) := by omega
        clear q1
        go_wp2_with fail
        go_loop [8] (fun tv => ∃ t : Nat, tv = .int .i64 (t : Int) ∧ a ≤ t ∧ t ≤ s.length ∧ Hid (∀ j, a + j < t → ∀ c, (s.drop a)[j]? = some c → c ≠ 10)) (fun tv => s.length - (intOf tv).toNat)
        case atStart => exact ⟨a, rfl, Nat.le_refl _, by omega, hide (fun j hj => by omega)⟩
        case round =>
          obtain ⟨t, rfl, hat, hts, HT⟩ := hrel
          have htz : (t : Int) ≤ 65537 := by omega
          by_cases hmore : t < s.length ∧ s[t]? ≠ some 10
          · obtain ⟨htl, hne⟩ := hmore
            obtain ⟨ch, ec⟩ : ∃ c, s[t]? = some c := ⟨s[t], List.getElem?_eq_getElem htl⟩
            obtain ⟨ci, eci⟩ : ∃ ci : Int, ci = (ch.toNat : Int) := ⟨_, rfl⟩
            have hx := idx_at ec ci eci
            have hn10 : (ci != 10) = true := by
              have : ¬ ci = 10 := by rw [eci]; intro e; exact hne (by rw [ec]; exact congrArg some ((byte_z ch 10 (by omega)).1 e))
              simpa using this
            have htlz : (t : Int) < (s.length : Int) := by omega
            have HT2 := hide (show ∀ j, a + j < t + 1 → ∀ c, (s.drop a)[j]? = some c → c ≠ 10 from fun j hj c hc => by
              rcases Nat.lt_or_ge (a + j) t with h1 | h1
              · exact HT.out j h1 c hc
              · have : a + j = t := by omega
                rw [List.getElem?_drop, this] at hc
                intro e
                subst e
                exact hne hc)
            clear htl hne ec eci
            go_wp2_with fail
            go_round
            case rel => exact ⟨t + 1, by go_num, by omega, by omega, HT2⟩
            case measure => simp [intOf]; omega
          · have hstop : t = s.length ∨ s[t]? = some 10 := by
              rcases Nat.lt_or_ge t s.length with h1 | h1
              · right
                rcases Classical.em (s[t]? = some 10) with h2 | h2
                · exact h2
                · exact absurd ⟨h1, h2⟩ hmore
              · left; omega
            have hts2 := take_stop (l := s.drop a) (k := t - a) (fun j hj c hc => HT.out j (by omega) c hc) (by rw [List.length_drop]; omega) (by
              rcases hstop with h1 | h1
              · left; rw [List.length_drop]; omega
              · right; rw [List.getElem?_drop, show a + (t - a) = t by omega]; exact h1)
            rw [List.drop_drop, show a + (t - a) = t by omega] at hts2
            obtain ⟨hline, hdrop⟩ := hts2
            have hsl := slc_mid (S := s) (i := a) (j := t) hat hts (t : Int) rfl
            obtain ⟨line, eline⟩ : ∃ line, (s.drop a).take (t - a) = line := ⟨_, rfl⟩
            rw [eline] at hsl hline
            have hll : line.length ≤ 65536 := by rw [← eline, List.length_take, List.length_drop]; omega
            have HLN := hide (show lnU F (s.drop a) = lineU F (wordsU line) by unfold lnU; rw [hline])
            have HNX := hide (fun hz => RunI.next HR.out hat hts hlt (by rw [hline, eline]) hdrop hz)
            have HBAD := hide (fun (hz : (lnU F (s.drop a)).1 ≠ 0) => show parseU s = (nn + 1, (lnU F (s.drop a)).1, []) by
              rw [HPU.out, HR.out.2.2.1 (by omega), runU_bad hz]; simp only; rw [if_pos hz])
            have cs := rsplit_any line wr (by omega)
            have hwf := words_few line
            have hws := words_short line
            obtain ⟨ws, ews⟩ : ∃ ws, wordsU line = ws := ⟨_, rfl⟩
            rw [ews] at cs HLN hwf hws
            rw [HLN.out] at HNX HBAD
            have hnnz : (nn : Int) ≤ 65537 := by omega
            have hatz : (a : Int) ≤ (t : Int) := by omega
            have htsz : (t : Int) ≤ (s.length : Int) := by omega
            have hnot : (¬ (t : Int) < (s.length : Int)) ∨ ((t : Int) < (s.length : Int) ∧ ∀ W, (Instr.index 9 (.string ⟨s.toArray⟩) (.int .i64 (t : Int))).run Tryz.prog W = .ok (.int .u8 10) W) := by
              rcases hstop with h1 | h1
              · left; omega
              · right
                have := (List.getElem?_eq_some_iff.1 h1).1
                exact ⟨by omega, idx_at h1 10 rfl⟩
            have HWF := hide hwf; have HWS := hide hws
            clear hmore hstop hline hdrop eline ews hwf hws
            rcases hnot with hnot | ⟨hnot, hx⟩
            all_goals
              go_wp2_with fail
              refine cs.mono ?_
              rintro e w2 ⟨v9, rfl, ho9, hb2⟩
              obtain ⟨A9, c9, rfl, hA9, hc9, hf9, hs9⟩ := own_seen ho9
              have HB2 := hide (HB.out.trans (hb2.mono HB.out.size))
              have R02 := hide (R0r.out.call hb2)
              have R12 := hide (R1r.out.call hb2)
              have HP2 := hide (HP.out.call hb2)
              have HS9 := hide hs9
              have p1 := R12.out.cell (k := 0) rfl
              have hsz2 := hide (show w.heap.size + 2 ≤ w2.heap.size by have := R12.out.lt; omega)
              clear ho9 hb2 hA9 hf9 hs9
              cases ws with
              | nil =>
                have HN := hide (HNX.out rfl)
                clear hc9
                go_wp2_with fail
                go_roundw
                case rel => exact ⟨t + 1, nn + 1, A, n, c, hs, F, by go_num, by go_num, by omega, HN, HB2, R02, R12, HP2⟩
                case measure => simp [intOf]; omega
              | cons nm r =>
                have hlz2 : (0 : Int) < ((nm :: r).length : Int) := by rw [List.length_cons]; omega
                obtain ⟨b9, o9, e9, hb9, -⟩ := word_at HS9.out (k := 0) rfl
                subst e9
                have hwl := HWF.out
                have cl := rline_any (w.heap.size + 2) A n c hs F b9 o9 (nm :: r).length c9 nm r w2 HP2 hsz2.out hb9 HS9 rfl hc9 (by omega) (hide (fun x hx => by have := HWS.out x (List.mem_cons_of_mem _ hx); omega)) (hide (HR.out.1.more (by omega)))
                obtain ⟨ll, ell⟩ : ∃ ll, (nm :: r).length = ll := ⟨_, rfl⟩
                rw [ell] at cl hlz2 hc9 ⊢
                obtain ⟨⟨le, lF⟩, elr⟩ : ∃ lr, lineU F (nm :: r) = lr := ⟨_, rfl⟩
                rw [elr] at cl HNX HBAD
                clear ell elr hwl hb9
                go_wp2_with fail
                refine cl.mono ?_
                rintro e w3 ⟨A3, n3, c3, hs3, rfl, hp3, hb3⟩
                have R03 := R02.out.call hb3
                have R13 := R12.out.call hb3
                have p2 := R13.cell (k := 0) rfl
                have p3 := R13.free 0
                obtain ⟨W4, hW4⟩ : ∃ W4, w3.setCell ⟨w.heap.size + 1, 0, none⟩ (.slice A3 n3 c3) = W4 := ⟨_, rfl⟩
                have R04 := hide (show Row W4 w.heap.size 29 [.slice none 0 0] by rw [← hW4]; exact R03.far (by simp) _)
                have R14 := hide (show Row W4 (w.heap.size + 1) 29 [.slice A3 n3 c3] by rw [← hW4]; exact R13.set_ 0 _)
                have HB4 := hide (show Below w.heap.size w W4 by rw [← hW4]; exact (HB2.out.trans (hb3.mono HB2.out.size)).setCell (by simp) _)
                have HP4 := hide (show PgAt W4 (w.heap.size + 2) W4.heap.size A3 n3 c3 hs3 lF by
                  rw [← hW4, show (w3.setCell ⟨w.heap.size + 1, 0, none⟩ (.slice A3 n3 c3)).heap.size = w3.heap.size by simp [World.setCell]]
                  exact hp3.keep fun p h1 _ => put_res _ _ _ _ (by omega))
                have HW4 := hide hW4
                clear hW4 hp3 hb3 R03 R13 cl
                dsimp only at HNX HBAD ⊢
                go_upto_region 15 with (fail)
                rw [HW4.out]
                clear HW4 p2 p3 p1
                by_cases hle : le = 0
                · subst hle
                  have HN := hide (HNX.out rfl)
                  go_wp2_with fail
                  go_roundw
                  case rel => exact ⟨t + 1, nn + 1, A3, n3, c3, hs3, lF, by go_num, by go_num, by omega, HN, HB4, R04, R14, HP4⟩
                  case measure => simp [intOf]; omega
                · have hle2 : (le == 0) = false := by simpa using hle
                  have HBD := hide (HBAD.out hle)
                  have t1 := R04.out.cell (k := 0) rfl
                  have t2 := R04.out.free 0
                  have f0 := (R04.out.set_ 0 (.slice none 0 0)).cell (k := 0) rfl
                  have FIN := hide (pt_zero HBD.out HB4.out rfl)
                  clear hle
                  go_wp2_with fail
                  exact bodyPost_ret (v := .tuple #[gv none 0 0, .int .i64 ((nn + 1 : Nat) : Int), .int .i64 le]) (by simp [results, Tryz.results11, go_sem, f0]) rfl FIN.out
      · have hltz : ¬ ((a : Int) < (s.length : Int)) := by omega
        have hrun := HR.out.stop hlt ha
        have HPU2 := hide (show parseU s = if pgE F ≠ 0 then (0, pgE F, []) else (0, 0, F) by rw [HPU.out, hrun]; simp)
        have cc := rcheck_any wr (w.heap.size + 2) A n c hs F HP
        obtain ⟨x, hx⟩ : ∃ x, pgE F = x := ⟨_, rfl⟩
        rw [hx] at cc HPU2
        clear hlt hrun hx
        go_wp2_with fail
        refine cc.mono ?_
        rintro e w5 ⟨rfl, hb5⟩
        have HB5 := hide (HB.out.trans (hb5.mono HB.out.size))
        have R05 := hide (R0r.out.call hb5)
        have R15 := hide (R1r.out.call hb5)
        have HP5 := hide (HP.out.call hb5)
        have t1 := R05.out.cell (k := 0) rfl
        have t2 := R05.out.free 0
        have t3 := R15.out.cell (k := 0) rfl
        clear hb5 cc q1
        by_cases hx0 : x = 0
        · subst hx0
          have HPU3 := hide (show parseU s = (0, 0, F) by rw [HPU2.out]; simp)
          have f0 := (R05.out.set_ 0 (.slice A n c)).cell (k := 0) rfl
          have FIN := hide (show PtPost s w (.returned (.tuple #[gv A n c, .int .i64 0, .int .i64 0])) (w5.setCell ⟨w.heap.size, 0, none⟩ (.slice A n c)) from ⟨A, n, c, hs, by rw [HPU3.out]; rfl, by
            rw [HPU3.out, show (w5.setCell ⟨w.heap.size, 0, none⟩ (.slice A n c)).heap.size = w5.heap.size by simp [World.setCell]]
            exact (HP5.out.keep fun p h1 _ => put_res _ _ _ _ (by omega)).more (Nat.le_refl _) (by omega), HB5.out.setCell (Nat.le_refl _) _⟩)
          go_wp2_with fail
          exact bodyPost_ret (v := .tuple #[gv A n c, .int .i64 0, .int .i64 0]) (by simp [results, Tryz.results11, go_sem, f0]) rfl FIN.out
        · have hx2 : (x == 0) = false := by simpa using hx0
          have HPU3 := hide (show parseU s = (0, x, []) by rw [HPU2.out, if_pos hx0])
          have f0 := (R05.out.set_ 0 (.slice none 0 0)).cell (k := 0) rfl
          have FIN := hide (pt_zero HPU3.out HB5.out rfl)
          clear hx0
          go_wp2_with fail
          exact bodyPost_ret (v := .tuple #[gv none 0 0, .int .i64 0, .int .i64 x]) (by simp [results, Tryz.results11, go_sem, f0]) rfl FIN.out
end Go.Proofs.YtlhaendgdeflkaaGreatDoor
end
