import Derived.Test.YtafegghdhdgioabGreatMNrn
set_option linter.unusedVariables false
set_option linter.unusedSimpArgs false
section
/-
  The contract of machrun.run at a right target (chapter 12). Conditions: those of the types.
-/
namespace Go.Proofs.YtafegghdhdgioabGreat
open Go.RowKit

theorem lo_z : lo 0 = 0 := rfl
theorem hi_z : hi 0 = 0 := rfl
theorem pre_tcells (fu Al sz rm : Nat) (inp : List Nat) (Ai A A1 A2 : Option Addr) (ni ci n c c1 c2 : Nat) (h : roomT Al sz = rm) : tcells fu (roomT Al sz) (preT Al inp sz) (.slice Ai ni ci) (.slice none 0 0) (.slice A n c) A1 c1 A2 c2 (.slice none 0 0) = [.slice Ai ni ci, .int .i64 (fu : Int), .int .i64 0, .int .u64 0, .int .u64 0, .int .u64 0, .slice none 0 0, .int .i64 0, .int .u64 0, .int .u64 0, .int .u64 0, .int .u64 0, .int .u64 0, .int .u64 0, .int .u64 0, .int .u64 0, .int .u64 0, .int .u64 0, .int .u64 0, .int .u64 0, .int .u64 0, .int .u64 0, .int .u64 0, .int .u64 0, .bool false, .slice A n c, .slice A1 sz c1, .slice A2 sz c2, .int .i64 (rm : Int), .int .i64 (rm : Int), .slice none 0 0, .int .i64 0] := by
  simp [tcells, ccells, trest, vcells, vcell, preT, coreZ, newS, h, lo_z, hi_z, List.replicate]
theorem own_not2 {w : World} {base g : Nat} {e : TypeId} {size n : Nat} {v : Value} {xs : List Value} (h : w.ownsRow base e size v n xs) (hn : ∀ k, base ≤ k → k < w.heap.size → k ≠ g) : v.ownBlock = none ∨ v.ownBlock ≠ some g := by
  rcases ho : v.ownBlock with _ | k
  · exact .inl rfl
  · refine .inr fun e => ?_
    injection e with e
    have := h.lt k ho
    exact hn k (by omega) (by omega) e
set_option maxRecDepth 100000 in
set_option maxHeartbeats 8000000 in
theorem mrun_good {lo n c : Nat} {A : Option Addr} {hs : List Fd} (Al : Int) (F : Tg) (inp : List Nat) (fu sz : Nat) (Ai : Option Addr) (ni ci : Nat) (w : World) (hE : tgE Al F = 0) (hfu : fu ≤ 100000) (hsz : sz ≤ 1048576) (him : Hid (ImmT F)) (hI : Hid (InAt w w.heap.size (.slice Ai ni ci) inp)) (hIv : Hid (∀ v ∈ inp, v < 18446744073709551616)) (hPg : Hid (TgAt w lo w.heap.size A n c hs F)) :
    Calls Tryz.prog 22 #[tv Al A n c, .slice Ai ni ci, .int .i64 (fu : Int), .int .i64 (sz : Int)] w (RunPostT Al F inp (fu : Int) (sz : Int) w) := by
  have hb0 := hide (below2 w (.cells #[.int .i64 Al, .slice A n c] 26) (.cells (tcells 0 0 zeroT (.slice none 0 0) (.slice none 0 0) (.slice none 0 0) none 0 none 0 (.slice none 0 0)).toArray 73))
  obtain ⟨W1, hW1⟩ : ∃ W1, (w.alloc (.cells #[.int .i64 Al, .slice A n c] 26)).alloc (.cells (tcells 0 0 zeroT (.slice none 0 0) (.slice none 0 0) (.slice none 0 0) none 0 none 0 (.slice none 0 0)).toArray 73) = W1 := ⟨_, rfl⟩
  rw [hW1] at hb0
  have cc := chktg_any Al A n c hs F lo w.heap.size W1 (hide (hPg.out.below hb0.out)) hb0.out.size
  have HW1 := hide (show (w.alloc (.cells #[.int .i64 Al, .slice A n c] 26)).alloc (.cells #[.slice none 0 0, .int .i64 0, .int .i64 0, .int .u64 0, .int .u64 0, .int .u64 0, .slice none 0 0, .int .i64 0, .int .u64 0, .int .u64 0, .int .u64 0, .int .u64 0, .int .u64 0, .int .u64 0, .int .u64 0, .int .u64 0, .int .u64 0, .int .u64 0, .int .u64 0, .int .u64 0, .int .u64 0, .int .u64 0, .int .u64 0, .int .u64 0, .bool false, .slice none 0 0, .slice none 0 0, .slice none 0 0, .int .i64 0, .int .i64 0, .slice none 0 0, .int .i64 0] 73) = W1 from hW1)
  clear hW1
  rw [hE] at cc
  have hR := hide (rightT_of hE)
  have HE := hide (show runTE Al F (fu : Int) (sz : Int) = 0 by unfold runTE; rw [if_neg (by rw [hE]; decide), if_pos (by omega)])
  have HS := hide (show runTS Al F inp (fu : Int) (sz : Int) = runT Al.toNat F inp fu sz by unfold runTS; rw [if_pos HE.out, Int.toNat_natCast, Int.toNat_natCast])
  obtain ⟨hn1, hn2⟩ := new_yes (sz : Int) Al ⟨by omega, by omega, hR.out.al.1⟩
  rw [Int.toNat_natCast] at hn2
  have HNE := hide hn1
  have HNR := hide (show newR (sz : Int) Al = newS sz (roomT Al.toNat sz) from hn2)
  obtain ⟨rm, hrm⟩ : ∃ rm, roomT Al.toNat sz = rm := ⟨_, rfl⟩
  have HRM := hide hrm
  have hrm2 : rm ≤ sz := by rw [← hrm]; exact Nat.sub_le _ _
  rw [hrm] at HNR
  have hf0 : ¬ (fu : Int) < 0 := by omega
  have hf1 : ¬ (100000 : Int) < (fu : Int) := by omega
  clear hE hn1 hn2 hrm
  go_enter Tryz.func22, Tryz.ntmps22
  go_upto_region 1 with (fail)
  rw [HW1.out]
  have RZ := hide (show Row W1 (w.heap.size + 1) 73 (tcells 0 0 zeroT (.slice none 0 0) (.slice none 0 0) (.slice none 0 0) none 0 none 0 (.slice none 0 0)) by
    rw [← HW1.out]
    have := Row.new (w.alloc (.cells #[.int .i64 Al, .slice A n c] 26)) 73 (tcells 0 0 zeroT (.slice none 0 0) (.slice none 0 0) (.slice none 0 0) none 0 none 0 (.slice none 0 0))
    rw [show (w.alloc (.cells #[.int .i64 Al, .slice A n c] 26)).heap.size = w.heap.size + 1 by simp] at this
    exact this)
  have RB := hide (show Row W1 w.heap.size 26 [.int .i64 Al, .slice A n c] by rw [← HW1.out]; exact (Row.new w _ _).alloc _)
  have x0 := RB.out.cell (k := 0) rfl
  have x1 := RB.out.cell (k := 1) rfl
  clear HW1
  go_wp2_with fail
  refine cc.mono ?_
  rintro e w2 ⟨rfl, hb2⟩
  have B2 := hide (hb0.out.trans (hb2.mono hb0.out.size))
  have R2 := hide (RZ.out.call hb2)
  have RB2 := hide (RB.out.call hb2)
  clear cc hb2 x0 x1 RZ RB
  have cn := stknew_own (sz : Int) Al w2
  rw [HNE.out, HNR.out] at cn
  have y0 := RB2.out.cell (k := 0) rfl
  go_wp2_with fail
  refine cn.mono ?_
  rintro e w3 ⟨A1, c1, A2, c2, rfl, hown, hb3⟩
  have hl1 : (newS sz rm).bs.length = sz := by simp [newS]
  have hl2 : (newS sz rm).sp = rm := rfl
  obtain ⟨W4, hW4⟩ : ∃ W4, w3.alloc (.cells #[.slice A1 sz c1, .slice A2 sz c2, .int .i64 (rm : Int)] 68) = W4 := ⟨_, rfl⟩
  have b34 : Below w3.heap.size w3 W4 := by rw [← hW4]; exact below1 w3 _
  have B4 := hide (below_call (below_call B2.out hb3) b34)
  have R4 := hide ((R2.out.call hb3).call b34)
  have RB4 := hide ((RB2.out.call hb3).call b34)
  have RS4 := hide (show Row W4 w3.heap.size 68 [.slice A1 sz c1, .slice A2 sz c2, .int .i64 (rm : Int)] by rw [← hW4]; exact Row.new w3 _ _)
  have OW4 := hide (hown.below b34)
  have hw23 : w.heap.size + 2 ≤ w2.heap.size := by have := R2.out.lt; have h2 := hb0.out.size; have h3 := RB2.out.lt; omega
  have HL1 := hide hl1
  have HW4 := hide hW4
  clear hW4 hown hb3 cn y0 b34 hl2
  go_upto_region 7 with (fail)
  try rw [hl1]
  try rw [show (newS sz rm).sp = rm from rfl]
  clear hl1
  obtain ⟨P, hP⟩ : ∃ P, w3.heap.size = P := ⟨_, rfl⟩
  have HP := hide hP
  rw [hP] at RS4
  rw [HW4.out, HP.out]
  clear HW4 HP hP
  have x1 := RB4.out.cell (k := 1) rfl
  have z0 := RS4.out.cell (k := 0) rfl
  have z1 := RS4.out.cell (k := 1) rfl
  have z2 := RS4.out.cell (k := 2) rfl
  have RN := hide (show Row (W4.alloc (.cells #[.slice none 0 0, .int .i64 0, .int .i64 0, .int .u64 0, .int .u64 0, .int .u64 0, .slice none 0 0, .int .i64 0, .int .u64 0, .int .u64 0, .int .u64 0, .int .u64 0, .int .u64 0, .int .u64 0, .int .u64 0, .int .u64 0, .int .u64 0, .int .u64 0, .int .u64 0, .int .u64 0, .int .u64 0, .int .u64 0, .int .u64 0, .int .u64 0, .bool false, .slice none 0 0, .slice none 0 0, .slice none 0 0, .int .i64 0, .int .i64 0, .slice none 0 0, .int .i64 0] 73)) W4.heap.size 73 (tcells 0 0 zeroT (.slice none 0 0) (.slice none 0 0) (.slice none 0 0) none 0 none 0 (.slice none 0 0)) from Row.new W4 73 (tcells 0 0 zeroT (.slice none 0 0) (.slice none 0 0) (.slice none 0 0) none 0 none 0 (.slice none 0 0)))
  have hst := store_row (vs := (tcells fu (roomT Al.toNat sz) (preT Al.toNat inp sz) (.slice Ai ni ci) (.slice none 0 0) (.slice A n c) A1 c1 A2 c2 (.slice none 0 0))) (size_tmachine (w := W4.alloc (.cells #[.slice none 0 0, .int .i64 0, .int .i64 0, .int .u64 0, .int .u64 0, .int .u64 0, .slice none 0 0, .int .i64 0, .int .u64 0, .int .u64 0, .int .u64 0, .int .u64 0, .int .u64 0, .int .u64 0, .int .u64 0, .int .u64 0, .int .u64 0, .int .u64 0, .int .u64 0, .int .u64 0, .int .u64 0, .int .u64 0, .int .u64 0, .int .u64 0, .bool false, .slice none 0 0, .slice none 0 0, .slice none 0 0, .int .i64 0, .int .i64 0, .slice none 0 0, .int .i64 0] 73))) (tcells_len rfl) (tcells_len rfl) (tcells_one rfl rfl rfl rfl) RN.out
  have RM := hide (set_row_row (vs := (tcells fu (roomT Al.toNat sz) (preT Al.toNat inp sz) (.slice Ai ni ci) (.slice none 0 0) (.slice A n c) A1 c1 A2 c2 (.slice none 0 0))) RN.out)
  have GM := hide (set_row_grown (W4.alloc (.cells #[.slice none 0 0, .int .i64 0, .int .i64 0, .int .u64 0, .int .u64 0, .int .u64 0, .slice none 0 0, .int .i64 0, .int .u64 0, .int .u64 0, .int .u64 0, .int .u64 0, .int .u64 0, .int .u64 0, .int .u64 0, .int .u64 0, .int .u64 0, .int .u64 0, .int .u64 0, .int .u64 0, .int .u64 0, .int .u64 0, .int .u64 0, .int .u64 0, .bool false, .slice none 0 0, .slice none 0 0, .slice none 0 0, .int .i64 0, .int .i64 0, .slice none 0 0, .int .i64 0] 73)) W4.heap.size (tcells fu (roomT Al.toNat sz) (preT Al.toNat inp sz) (.slice Ai ni ci) (.slice none 0 0) (.slice A n c) A1 c1 A2 c2 (.slice none 0 0)).toArray)
  obtain ⟨W5, hW5⟩ : ∃ W5, (W4.alloc (.cells #[.slice none 0 0, .int .i64 0, .int .i64 0, .int .u64 0, .int .u64 0, .int .u64 0, .slice none 0 0, .int .i64 0, .int .u64 0, .int .u64 0, .int .u64 0, .int .u64 0, .int .u64 0, .int .u64 0, .int .u64 0, .int .u64 0, .int .u64 0, .int .u64 0, .int .u64 0, .int .u64 0, .int .u64 0, .int .u64 0, .int .u64 0, .int .u64 0, .bool false, .slice none 0 0, .slice none 0 0, .slice none 0 0, .int .i64 0, .int .i64 0, .slice none 0 0, .int .i64 0] 73)).setRow W4.heap.size (tcells fu (roomT Al.toNat sz) (preT Al.toNat inp sz) (.slice Ai ni ci) (.slice none 0 0) (.slice A n c) A1 c1 A2 c2 (.slice none 0 0)).toArray = W5 := ⟨_, rfl⟩
  rw [hW5] at hst RM GM
  obtain ⟨g, hg⟩ : ∃ g, W4.heap.size = g := ⟨_, rfl⟩
  have hgN := hide (show g < (W4.alloc (.cells #[.slice none 0 0, .int .i64 0, .int .i64 0, .int .u64 0, .int .u64 0, .int .u64 0, .slice none 0 0, .int .i64 0, .int .u64 0, .int .u64 0, .int .u64 0, .int .u64 0, .int .u64 0, .int .u64 0, .int .u64 0, .int .u64 0, .int .u64 0, .int .u64 0, .int .u64 0, .int .u64 0, .int .u64 0, .int .u64 0, .int .u64 0, .int .u64 0, .bool false, .slice none 0 0, .slice none 0 0, .slice none 0 0, .int .i64 0, .int .i64 0, .slice none 0 0, .int .i64 0] 73)).heap.size by rw [← hg]; simp)
  have hwg : w.heap.size ≤ g := by rw [← hg]; exact B4.out.size
  have hZg : w.heap.size + 1 < g := by have := R4.out.lt; have h2 := RS4.out.lt; have h3 := R2.out.lt; have h4 := OW4.out; rw [← hg]; have h5 := R4.out.lt; omega
  have B5 := hide (show Below w.heap.size w W5 from (B4.out.alloc B4.out.size _).grown GM.out (by have := hgN.out; omega) (fun k hk => by injection hk with hk; omega))
  have R5 := hide (show Row W5 (w.heap.size + 1) 73 (tcells 0 0 zeroT (.slice none 0 0) (.slice none 0 0) (.slice none 0 0) none 0 none 0 (.slice none 0 0)) from (R4.out.alloc _).grown GM.out (fun e => by injection e with e; omega))
  have OW5 := hide (show StkOwn W5 (w.heap.size + 2) A1 c1 A2 c2 (newS sz rm) 5 4 from by
    have h1 := OW4.out.below (below1 W4 (.cells #[.slice none 0 0, .int .i64 0, .int .i64 0, .int .u64 0, .int .u64 0, .int .u64 0, .slice none 0 0, .int .i64 0, .int .u64 0, .int .u64 0, .int .u64 0, .int .u64 0, .int .u64 0, .int .u64 0, .int .u64 0, .int .u64 0, .int .u64 0, .int .u64 0, .int .u64 0, .int .u64 0, .int .u64 0, .int .u64 0, .int .u64 0, .int .u64 0, .bool false, .slice none 0 0, .slice none 0 0, .slice none 0 0, .int .i64 0, .int .i64 0, .slice none 0 0, .int .i64 0] 73))
    exact ⟨h1.ok, own_raise (h1.o1.kept GM.out (own_offR h1.o1 RN.out (by decide))) hw23, own_raise (h1.o2.kept GM.out (own_offR h1.o2 RN.out (by decide))) hw23⟩)
  rw [hg] at RM
  have HT5 := hide (show TmAt W5 g (w.heap.size + 2) fu (roomT Al.toNat sz) (.slice Ai ni ci) (.slice none 0 0) (.slice A n c) A1 c1 A2 c2 (.slice none 0 0) (preT Al.toNat inp sz) from
    ⟨⟨RM.out, by omega, by decide, rfl, (hI.out.below B5.out).more (by omega), World.ownsRow_nil _ _ _ _⟩, by show StkOwn W5 _ A1 c1 A2 c2 (newS sz (roomT Al.toNat sz)) _ _; rw [HRM.out]; exact OW5.out, World.ownsRow_nil _ _ _ _⟩)
  rw [pre_tcells fu Al.toNat sz rm inp Ai A A1 A2 ni ci n c c1 c2 HRM.out] at hst
  have HG := hide hg
  have hst := hide hst
  clear hg hW5 R4 RB4 RS4 OW4 OW5 RN RM
  go_upto_region 9 with fail
  have hst := hst.out
  go_upto_region 10 with (first | (refine wpList_store_whole 73 (.tmp 13) (.tmp 47) rfl rfl _ _ rfl rfl hst ?_) | fail)
  clear hst x1 z0 z1 z2 GM
  rw [HG.out]
  have cr := trun_any (A := Al.toNat) (nF := n) (cF := c) (AF := A) W5 hR him hIv hfu hsz rfl (hide (show TgAt W5 lo (w.heap.size + 2) A n c hs F from ((hPg.out.below B5.out).more (by omega) (Nat.le_refl _)))) HT5
  go_wp2_with fail
  go_fit cr
  rintro e w6 ⟨rfl, ⟨vi6, vt6, A16, c16, A26, c26, vs6, h6⟩, b6⟩
  have H6 := hide h6
  have B6 := hide (B5.out.trans (b6.mono (by omega)))
  have R6 := hide (R5.out.below b6 (by omega))
  rw [← HS.out] at H6
  have h8 := H6.out.core.r8
  clear h6 b6 cr HT5 B5 R5
  have hld := load_row (agg_tmachine (w := w6)) (size_tmachine (w := w6)) (tcells_len h8) (show Row w6 g 73 (tcells fu (roomT Al.toNat sz) (runTS Al F inp (fu : Int) (sz : Int)) vi6 vt6 (.slice A n c) A16 c16 A26 c26 vs6) from H6.out.core.row)
  have hone := tcells_one (fu := fu) (T0 := roomT Al.toNat sz) (s := runTS Al F inp (fu : Int) (sz : Int)) (vi := vi6) (vt := vt6) (vf := .slice A n c) (vs := vs6) (A1 := A16) (A2 := A26) (c1 := c16) (c2 := c26) (in_oneCell H6.out.core.inp) (own_oneCell H6.out.core.tr) rfl (own_oneCell H6.out.st)
  have hst := store_row (vs := tcells fu (roomT Al.toNat sz) (runTS Al F inp (fu : Int) (sz : Int)) vi6 vt6 (.slice A n c) A16 c16 A26 c26 vs6) (size_tmachine (w := w6)) (tcells_len h8) (tcells_len rfl) hone R6.out
  have R7 := hide (set_row_row (vs := tcells fu (roomT Al.toNat sz) (runTS Al F inp (fu : Int) (sz : Int)) vi6 vt6 (.slice A n c) A16 c16 A26 c26 vs6) R6.out)
  have G7 := hide (set_row_grown w6 (w.heap.size + 1) (tcells fu (roomT Al.toNat sz) (runTS Al F inp (fu : Int) (sz : Int)) vi6 vt6 (.slice A n c) A16 c16 A26 c26 vs6).toArray)
  generalize w6.setRow (w.heap.size + 1) (tcells fu (roomT Al.toNat sz) (runTS Al F inp (fu : Int) (sz : Int)) vi6 vt6 (.slice A n c) A16 c16 A26 c26 vs6).toArray = W7 at hst R7 G7
  have hld2 := load_row (agg_tmachine (w := W7)) (size_tmachine (w := W7)) (tcells_len h8) R7.out
  have HPO := hide (show RunPostT Al F inp (fu : Int) (sz : Int) w (.returned (.tuple #[.agg (tcells fu (roomT Al.toNat sz) (runTS Al F inp (fu : Int) (sz : Int)) vi6 vt6 (.slice A n c) A16 c16 A26 c26 vs6).toArray, .int .i64 0])) W7 from
    ⟨_, _, _, _, _, _, _, _, _, _, by rw [HE.out], h8, hone, own_zbase (H6.out.core.tr.kept G7.out (own_not2 H6.out.core.tr (fun k hk _ => by omega))) (by omega), B6.out.grown G7.out B6.out.size (fun k hk => by injection hk with hk; omega)⟩)
  generalize (tcells fu (roomT Al.toNat sz) (runTS Al F inp (fu : Int) (sz : Int)) vi6 vt6 (.slice A n c) A16 c16 A26 c26 vs6).toArray = X at hld hst hld2 HPO
  clear hone h8 R7 G7 R6 H6 B6
  go_wp2_with (first | (refine wpList_load_whole 73 (.tmp 13) rfl rfl _ _ rfl hld ?_) | (refine wpList_store_whole 73 (.tmp 8) (.tmp 49) rfl rfl _ _ rfl rfl hst ?_) | fail)
  exact bodyPost_ret (v := .tuple #[.agg X, .int .i64 0]) (results_cell_tmp (fn := Tryz.f22) (t := 8) (u := 9) (T := 73) rfl _ W7 _ _ _ rfl hld2) rfl HPO.out
end Go.Proofs.YtafegghdhdgioabGreat
end
