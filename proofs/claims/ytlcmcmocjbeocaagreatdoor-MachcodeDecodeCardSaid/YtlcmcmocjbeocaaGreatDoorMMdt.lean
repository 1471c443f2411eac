import Derived.Test.YtlcmcmocjbeocaaGreatDoorMDprog
set_option linter.unusedVariables false
set_option linter.unusedSimpArgs false
section
/-
  The contract of spillframedraw's Target: a drawn target. Condition: the receiver is a list of choices.
-/
namespace Go.Proofs.YtlcmcmocjbeocaaGreatDoor
open Go.RowKit

/-- A drawn target. -/
def DtgPost (funcs g : Nat) (w : World) (e : Ending) (w' : World) : Prop :=
  ∃ (Al : Int) (A : Option Addr) (n c : Nat) (hh : List Fd) (G : Tg), e = .returned (tv Al A n c) ∧ TgAt w' w.heap.size w'.heap.size A n c hh G ∧ 1 ≤ n ∧ n ≤ funcs ∧ (∀ q ∈ G, FmOk q) ∧ (1 ≤ Al ∧ Al ≤ 16777216) ∧ Codes w' g ∧ w.grownBy w' (some g)
theorem own_at {w : World} {base : Nat} {t : TypeId} {size n c : Nat} {A : Option Addr} {xs : List Value} (h : w.ownsRow base t size (.slice A n c) n xs) (hn : 0 < n) : ∃ G, A = some ⟨G, 0, none⟩ ∧ base ≤ G ∧ G < w.heap.size := by
  rcases h.2 with ⟨h1, h2⟩ | ⟨g, cap, cur, h1, h3, _⟩
  · omega
  · injection h1 with h1 _ _
    subst h1
    exact ⟨g, rfl, h3, (h.lt g rfl).2⟩
theorem fd_row {w : World} {base G n c : Nat} {t : TypeId} {hs : List Fd} {k : Nat} {x : Fd} (h : w.ownsRow base t 3 (.slice (some ⟨G, 0, none⟩) n c) n (fdcells hs)) (hx : hs[k]? = some x) :
    (w.cell? ⟨G, k * 3, none⟩ = some (.int .i64 x.p) ∧ w.cell? ⟨G, k * 3 + 1, none⟩ = some (.int .i64 x.s) ∧ w.cell? ⟨G, k * 3 + 2, none⟩ = some (.slice x.a x.n x.c)) ∧ ∀ j, w.frozen? ⟨G, j, none⟩ = false := by
  have g := fun j hj => flat_at fdcell_len hs k _ hx j hj
  have c' := fun j u (hu : (fdcells hs)[j]? = some u) => (by
    have := h.cells (g := G) rfl j u hu
    rwa [WideShapes.add_plain, Nat.zero_add] at this : w.cell? ⟨G, j, none⟩ = some u)
  exact ⟨⟨c' _ _ (g 0 (by omega)), c' _ _ (g 1 (by omega)), c' _ _ (g 2 (by omega))⟩, fun j => h.frozenAt j⟩
theorem fdset2 (hs : List Fd) (i : Nat) (h : Fd) (hx : hs[i]? = some h) (A : Option Addr) (n c : Nat) : (fdcells hs).set (i * 3 + 2) (.slice A n c) = fdcells (hs.set i ⟨h.p, h.s, A, n, c⟩) := flat_set fdcell_len hs i h _ hx 2 (by omega) _ rfl
theorem FrAll.stay {wr w2 : World} {base : Nat} {hh : List Fd} {G : Tg} {g : Nat} (h : FrAll wr base hh G) (hg : g < base) (hG : wr.grownBy w2 (some g)) : FrAll w2 base hh G := fun j x q e1 e2 => ⟨(h j x q e1 e2).p, (h j x q e1 e2).s, (h j x q e1 e2).n, own_stay (h j x q e1 e2).row hg hG⟩
/-- One frame's code set anew. -/
theorem FrAll.set {w : World} {base i n : Nat} {hh : List Fd} {G : Tg} {h : Fd} {q : Fm} {A : Option Addr} {c : Nat} {ys : List Ins} (H : FrAll w base hh G) (h1 : hh[i]? = some h) (h2 : G[i]? = some q) (hl : ys.length = n) (ho : w.ownsRow base 64 5 (.slice A n c) n (icells ys)) : FrAll w base (hh.set i ⟨h.p, h.s, A, n, c⟩) (G.set i ⟨q.params, q.size, ys⟩) := fun j x z e1 e2 => by
  by_cases e : i = j
  · subst e
    have l1 := (List.getElem?_eq_some_iff.1 h1).1
    have l2 := (List.getElem?_eq_some_iff.1 h2).1
    rw [List.getElem?_set_self l1] at e1
    rw [List.getElem?_set_self l2] at e2
    injection e1 with e1
    injection e2 with e2
    subst e1 e2
    exact ⟨(H i h q h1 h2).p, (H i h q h1 h2).s, hl.symm, ho⟩
  · rw [List.getElem?_set_ne e] at e1 e2
    exact H j x z e1 e2
theorem FmOk.set {G : Tg} {i : Nat} {q : Fm} {ys : List Ins} (H : ∀ z ∈ G, FmOk z) (h : G[i]? = some q) (hl : ys.length = q.code.length) (hy : ∀ x ∈ ys, x.op = 16 → 0 ≤ x.c ∧ x.c ≤ 16) : ∀ z ∈ G.set i ⟨q.params, q.size, ys⟩, FmOk z := fun z hz => by
  rcases List.mem_or_eq_of_mem_set hz with hz | rfl
  · exact H z hz
  · have := H q (List.mem_of_getElem? h)
    exact ⟨this.1, by show 1 ≤ ys.length; rw [hl]; exact this.2.1, by show ys.length ≤ 1024; rw [hl]; exact this.2.2.1, hy⟩

theorem FrAll.none_ {w w' : World} {base : Nat} {hh : List Fd} {G : Tg} (H : FrAll w base hh G) (hg : w.grownBy w' none) : FrAll w' base hh G := fun j x q e1 e2 => (H j x q e1 e2).kept hg (by
  rcases ho : (Value.slice x.a x.n x.c).ownBlock with _ | k
  · exact .inl rfl
  · exact .inr (fun e => by cases e))
set_option maxRecDepth 100000 in
set_option maxHeartbeats 8000000 in
theorem dtgt_any (g funcs most : Nat) (w : World) (h : Hid (Codes w g)) (hf1 : 1 ≤ funcs) (hf2 : funcs ≤ 80) (hm : most ≤ 100) :
    Calls Tryz.prog 19 #[.pointer (some ⟨g, 0, none⟩), .int .i64 (funcs : Int), .int .i64 (most : Int)] w (DtgPost funcs g w) := by
  obtain ⟨i0, hi, hz0, hz1, hz2⟩ := info_parts Tryz.info90
  obtain ⟨j0, ji, jz0, jz1, jz2⟩ := info_parts Tryz.info64''
  have hgw := h.out.lt
  have hb1 := below1 w (.cells #[.int .i64 0, .slice none 0 0] 53)
  have R1 := Row.new w 53 [.int .i64 0, .slice none 0 0]
  obtain ⟨W1, hW1⟩ : ∃ V, w.alloc (.cells #[.int .i64 0, .slice none 0 0] 53) = V := ⟨_, rfl⟩
  rw [show ([.int .i64 0, .slice none 0 0] : List Value).toArray = #[.int .i64 0, .slice none 0 0] from rfl, hW1] at R1
  rw [hW1] at hb1
  have HW1 := hide hW1
  have HB1 := hide hb1
  have HR1 := hide R1
  have HC1 := hide (h.out.below hb1)
  have hs1 : W1.heap.size = w.heap.size + 1 := by rw [← hW1]; simp
  have cp := prog_any g funcs most W1 HC1 hf1 hf2 hm
  clear hW1 hb1 R1
  go_enter Tryz.func19, Tryz.ntmps19
  go_upto_region 1 with (fail)
  rw [HW1.out]
  clear HW1
  go_upto_region 2 with (go_at_call 25; refine cp.mono ?_; rintro e W2 ⟨A, n, c, hs, F, rfl, hpg, hgd, hC2, hG2⟩)
  have HL := hide hpg.len
  obtain ⟨W3, hW3⟩ : ∃ V, W2.alloc (.cells #[.slice A n c] 26) = V := ⟨_, rfl⟩
  have HGD := hide hgd
  have HPG := hide (show PgAt W3 W1.heap.size W3.heap.size A n c hs F by rw [← hW3]; exact hpg.alloc _)
  have HC3 := hide (show Codes W3 g by rw [← hW3]; exact hC2.alloc _)
  have HG3 := hide (show W1.grownBy W3 (some g) by rw [← hW3]; exact hG2.trans (World.grownBy_alloc _ _ _))
  have RP3 := hide (show Row W3 W2.heap.size 26 [.slice A n c] by rw [← hW3]; exact Row.new W2 _ _)
  rw [hW3]
  obtain ⟨gp, hgp⟩ : ∃ q, W2.heap.size = q := ⟨_, rfl⟩
  rw [hgp] at RP3 ⊢
  clear hW3 hgp hpg hgd hC2 hG2 cp
  have hn1 : 1 ≤ n := by have := HGD.out.one; have := HL.out; omega
  have hn2 : n ≤ funcs := by have := HGD.out.few; have := HL.out; omega
  have HLOW := hide (good_low HGD.out hf2 hm)
  obtain ⟨hap, hap16⟩ := alP_pow (F := F) (fun f hf => (fnE_zero.1 ((pgE_zero.1 HGD.out.err).2.2 f hf)).2.1) n (by have := HL.out; omega)
  have ca := rpalign_any A n c hs F W1.heap.size W3.heap.size W3 HPG (Nat.le_refl _)
  have hfok := low_ok (al := alP F n) HGD.out hf2 hm hap
  obtain ⟨al, hal⟩ : ∃ a, alP F n = a := ⟨_, rfl⟩
  rw [hal] at ca hap hap16 hfok
  have HAL := hide hap
  have HFOK := hide hfok
  have halb := powB_b hap
  have p0 := RP3.out.cell (k := 0) rfl
  clear hal hap hfok
  go_upto_region 3 with (go_at_call 42; refine ca.mono ?_; rintro e W4 ⟨rfl, hb4⟩)
  have RP4 := hide (RP3.out.call hb4)
  have HPG4 := hide (HPG.out.call hb4)
  have HC4 := hide (HC3.out.below hb4)
  have HG4 := hide (HG3.out.andThen (grown_below hb4 none) (fun k hk => by cases hk))
  clear p0 ca hb4 RP3 HPG HC3 HG3
  have p0 := RP4.out.cell (k := 0) rfl
  have cb := rbases_any A n c hs F W1.heap.size W4.heap.size al W4 HPG4 (Nat.le_refl _) (hide HLOW.out.pg) HAL
  go_upto_region 4 with (go_at_call 43; refine cb.mono ?_; rintro e W5 ⟨A2, c2, ys, rfl, hly, hyl, hall, hb5⟩)
  have RP5 := hide (RP4.out.call hb5)
  have HPG5 := hide (HPG4.out.call hb5)
  have HC5 := hide (HC4.out.below hb5)
  have HG5 := hide (HG4.out.andThen (grown_below hb5 none) (fun k hk => by cases hk))
  have HLY := hide hly
  have HYL := hide hyl
  have HALL := hide hall
  clear p0 cb hb5 RP4 HPG4 HC4 HG4 hly hyl hall
  have p0 := RP5.out.cell (k := 0) rfl
  have ct := ltgt_any A n c hs F W1.heap.size W5.heap.size al A2 c2 ys W4.heap.size W5 HPG5 (Nat.le_refl _) HLOW HAL HLY HYL HALL
  go_upto_region 5 with (go_at_call 44; refine ct.mono ?_; rintro e W6 ⟨A3, c3, hh, rfl, htg, hfr, hb6⟩)
  obtain ⟨W7, hW7⟩ : ∃ V, W6.alloc (.cells #[.int .i64 al, .slice A3 n c3] 53) = V := ⟨_, rfl⟩
  have hb67 : Below W6.heap.size W6 W7 := by rw [← hW7]; exact below1 _ _
  have RT7 := hide (show Row W7 W6.heap.size 53 [.int .i64 al, .slice A3 n c3] by rw [← hW7]; exact Row.new W6 _ _)
  have HTG7 := hide (htg.call hb67)
  have HFR7 := hide (hfr.call hb67)
  have HC7 := hide ((HC5.out.below hb6).below hb67)
  have HG7 := hide ((HG5.out.andThen (grown_below hb6 none) (fun k hk => by cases hk)).andThen (grown_below hb67 none) (fun k hk => by cases hk))
  have hs5 := HG5.out.size
  have hs6 := hb6.size
  have hs7 := hb67.size
  rw [hW7]
  obtain ⟨gt, hgt⟩ : ∃ q, W6.heap.size = q := ⟨_, rfl⟩
  rw [hgt] at RT7 ⊢
  have hgt5 : W5.heap.size ≤ gt := by omega
  have hgt7 := RT7.out.lt
  clear hW7 hgt hb67 hb6 p0 ct htg hfr RP5 HPG5 HC5 HG5 HLY HYL HALL
  have t1 := RT7.out.cell (k := 1) rfl
  have HCA := hide HTG7.out.cap.1
  have HCN := hide HTG7.out.cap.2.1
  have HCL := hide (show (fdcells hh).length = n * 3 by rw [fdcells_length, HTG7.out.hd.len, HTG7.out.len])
  have HCS := hide HTG7.out.see
  go_wp2_with (at_builtin; refine wpList_append_seesN rfl (.const (.slice none 0 0)) (.tmp 38) 51 rfl W7.heap.size 90 i0 (.agg #[.int .i64 0, .int .i64 0, .slice none 0 0]) 3 40 Tryz.underlying51 hi hz0 hz1 hz2 rfl (by decide) (.slice none 0 0) 0 [] rfl (World.ownsRow_nil _ _ _ _) W7.heap.size A3 n c3 (fdcells hh) rfl HCA HCL HCS HCN (fdcells_oneCell _) (by unfold maxLen; omega) (by omega) (Nat.le_refl _) ?_)
  intro v1 W8 ho0 hG8
  have ho1 : W8.ownsRow W7.heap.size 90 3 v1 n (fdcells hh) := by simpa using ho0
  obtain ⟨A8, c8, rfl, -, -, -, -⟩ := own_seen ho1
  obtain ⟨Gf, rfl, hgf1, hgf2⟩ := own_at ho1 (by omega)
  -- TAIL
  have HG8 := hide (HG7.out.andThen hG8 (fun k hk => by cases hk))
  have HFR8 := hide (HFR7.out.none_ hG8)
  have HC8 := hide (HC7.out.kept hG8 (fun k hk => by cases hk))
  have RT8 := hide (RT7.out.grown hG8 (fun e => by cases e))
  have HO8 := hide ho1
  have hs8 := hG8.size
  have hlen0 := hide (show hh.length = n by rw [HTG7.out.hd.len, HTG7.out.len])
  have hlenG := hide (show (F.map (lowF F al)).length = n from HTG7.out.len)
  obtain ⟨B7, hB7⟩ : ∃ b, W7.heap.size = b := ⟨_, rfl⟩
  rw [hB7] at HO8 hgf1 hgt7
  obtain ⟨B5, hB5⟩ : ∃ b, W5.heap.size = b := ⟨_, rfl⟩
  rw [hB5] at HFR8 hgt5
  have hgB5 : g < B5 := by omega
  have hgB7 : g < B7 := by omega
  have hB57 : B5 ≤ B7 := by omega
  have hw5 : w.heap.size + 1 ≤ B5 := by omega
  have hB1 : W1.heap.size ≤ B5 := by omega
  clear ho0 ho1 t1 HCA HCN HCL HCS HTG7 HFR7 HC7 HG7 RT7 hG8 hs5 hs6 hs7 hs8 hB7 hB5
  go_wp2_with fail
  go_loopw [14] (fun s wr => ∃ (i : Nat) (hh : List Fd) (G : Tg), i ≤ n ∧ s = .int .i64 i ∧ Hid (hh.length = n) ∧ Hid (G.length = n) ∧ Hid (wr.ownsRow B7 90 3 (.slice (some ⟨Gf, 0, none⟩) n c8) n (fdcells hh)) ∧ Hid (FrAll wr B5 hh G) ∧ Hid (∀ q ∈ G, FmOk q) ∧ Hid (Codes wr g) ∧ Hid (Row wr gt 53 [.int .i64 al, .slice A3 n c3]) ∧ Hid (W1.grownBy wr (some g)) ∧ Hid (B7 ≤ wr.heap.size)) (fun s _ => n - (intOf s).toNat)
  case atStart => exact ⟨0, hh, _, by omega, rfl, hlen0, hlenG, HO8, HFR8, HFOK, HC8, RT8, HG8, hide (by omega)⟩
  case round =>
    clear hlen0 hlenG HO8 HFR8 HC8 RT8 HG8
    obtain ⟨i, hh, G, hin, rfl, hhl, hgl, hfo, hfa, hok, hC, hT, hG, hsz⟩ := hrel
    by_cases hlt : i < n
    · have hiz : (0 : Int) ≤ (i : Int) := by omega
      have hiz' : (i : Int) < (n : Int) := by omega
      have l1 : i < hh.length := by have := hhl.out; omega
      have l2 : i < G.length := by have := hgl.out; omega
      have hhi := List.getElem?_eq_getElem l1
      have hgi := List.getElem?_eq_getElem l2
      have hqo := hok.out _ (List.getElem_mem l2)
      obtain ⟨hd, hhd⟩ : ∃ x, hh[i] = x := ⟨_, rfl⟩
      obtain ⟨q, hq⟩ : ∃ x, G[i] = x := ⟨_, rfl⟩
      rw [hhd] at hhi
      rw [hq] at hgi hqo
      have HHI := hide hhi
      have HGI := hide hgi
      have hr := hfa.out i hd q hhi hgi
      have HRS := hide hr.s
      have HRN := hide hr.n
      obtain ⟨⟨f0, f1, f2⟩, -⟩ := fd_row hfo.out hhi
      obtain ⟨A9, c9', e9, hA9, hc9, -, hsee9⟩ := own_seen hr.row
      injection e9 with e9a _ e9b
      rw [← e9a] at hA9 hsee9
      rw [← e9b] at hA9 hc9
      have HA9 := hide hA9
      have HC9 := hide hc9
      have HS9 := hide hsee9
      have HL9 := hide (show (icells q.code).length = hd.n * 5 by rw [icells_length, hr.n])
      have hm1 : 1 ≤ hd.n ∧ hd.n ≤ 1024 := by rw [hr.n]; exact ⟨hqo.2.1, hqo.2.2.1⟩
      have HQ16 := hide hqo.2.2.2
      have HQS := hide hqo.1
      obtain ⟨P, S, Ah, m, ch⟩ := hd
      simp only at f0 f1 f2 HA9 HC9 HS9 HL9 hm1 HRS HRN
      have hgfl : Gf < wr.heap.size := (hfo.out.lt Gf rfl).2
      clear hhd hq hhi hgi hqo hr e9a e9b hA9 hc9 hsee9 l1 l2
      go_wp2_with (at_builtin; refine wpList_append_seesN rfl (.const (.slice none 0 0)) (.tmp 50) 65 rfl wr.heap.size 64 j0 (.agg #[.int .i64 0, .int .i64 0, .int .i64 0, .int .i64 0, .int .u64 0]) 5 40 Tryz.underlying65 ji jz0 jz1 jz2 rfl (by decide) (.slice none 0 0) 0 [] rfl (World.ownsRow_nil _ _ _ _) wr.heap.size Ah m ch (icells q.code) rfl HA9 HL9 HS9 HC9 (icells_oneCell _) (by unfold maxLen; omega) (by omega) (Nat.le_refl _) ?_)
      intro v1 W9 ho0 hG9
      have ho1 : W9.ownsRow wr.heap.size 64 5 v1 m (icells q.code) := by simpa using ho0
      obtain ⟨A9, c9, rfl, -, -, -, -⟩ := own_seen ho1
      obtain ⟨Gc, rfl, hgc1, hgc2⟩ := own_at ho1 (by omega)
      have HO9 := hide ho1
      have HC9 := hide (hC.out.kept hG9 (fun k hk => by cases hk))
      have HGN9 : Hid (wr.grownBy W9 (some g)) := hide ((World.grownBy.refl wr (some g)).andThen hG9 (fun k hk => by cases hk))
      obtain ⟨Bi, hBi⟩ : ∃ b, wr.heap.size = b := ⟨_, rfl⟩
      have hsz' := hsz.out
      rw [hBi] at HO9 hgc1 hgfl hsz'
      have hgBi : g < Bi := by omega
      clear ho0 ho1 hG9 f0 f1 f2 HA9 HS9 HL9
      go_wp2_with fail
      go_loopw [16] (fun s wx => ∃ (k : Nat) (ys : List Ins), k ≤ m ∧ s = .int .i64 k ∧ Hid (ys.length = m) ∧ Hid (wx.ownsRow Bi 64 5 (.slice (some ⟨Gc, 0, none⟩) m c9) m (icells ys)) ∧ Hid (∀ x ∈ ys, x.op = 16 → 0 ≤ x.c ∧ x.c ≤ 16) ∧ Hid (Codes wx g) ∧ Hid (wr.grownBy wx (some g))) (fun s _ => m - (intOf s).toNat)
      case atStart => exact ⟨0, q.code, by omega, rfl, hide HRN.out.symm, HO9, HQ16, HC9, HGN9⟩
      case round =>
        obtain ⟨k, ys, hkm, rfl, hyl, hyo, hy16, hCx, hGx⟩ := hrel
        clear HO9 HC9 HGN9 HQ16
        have HFO := hide (own_stay hfo.out hgB7 hGx.out)
        have HGW := hide (hG.out.trans hGx.out)
        by_cases hlt2 : k < m
        · have hkz : (0 : Int) ≤ (k : Int) := by omega
          have hkz' : (k : Int) < (m : Int) := by omega
          go_wp2_with fail
          refine (next_any g 3 _ hCx (by omega) (by omega)).mono ?_
          rintro e w2 ⟨v, rfl, v0, v1, hC2, hG2, hz2⟩
          have HC2 := hide hC2
          have HY2 := hide (own_stay hyo.out hgBi hG2)
          have HF2 := hide (own_stay HFO.out hgB7 hG2)
          have HGX2 := hide (hGx.out.trans hG2)
          have hx2 : Bi ≤ w2.heap.size := by have := HGX2.out.size; omega
          clear hC2 hG2 hz2 hCx hyo HFO HGW hGx
          by_cases hv : v = 2
          · subst hv
            have hky : k < ys.length := by have := hyl.out; omega
            have hyk := List.getElem?_eq_getElem hky
            have hx16 := hy16.out _ (List.getElem_mem hky)
            obtain ⟨x, hxe⟩ : ∃ x, ys[k] = x := ⟨_, rfl⟩
            rw [hxe] at hyk hx16
            have HYK := hide hyk
            have HX16 := hide hx16
            obtain ⟨⟨y0, y1, y2, y3, y4⟩, -⟩ := ins_row HY2.out hyk
            obtain ⟨o, a, b, d, im⟩ := x
            simp only at y0 y1 y2 y3 y4
            have hgc2' : Gc < w2.heap.size := (HY2.out.lt Gc rfl).2
            clear hyk hx16 hxe
            go_upto_region 14 with (fail)
            obtain ⟨W3, hW3⟩ : ∃ V, w2.alloc (.cells #[.int .i64 o, .int .i64 a, .int .i64 b, .int .i64 d, .int .u64 im] 64) = V := ⟨_, rfl⟩
            have hb23 : Below w2.heap.size w2 W3 := by rw [← hW3]; exact below1 _ _
            have RX3 := hide (show Row W3 w2.heap.size 64 [.int .i64 o, .int .i64 a, .int .i64 b, .int .i64 d, .int .u64 im] by rw [← hW3]; exact Row.new w2 _ _)
            have HY3 := hide (own_call HY2.out hb23)
            have HF3 := hide (own_call HF2.out hb23)
            have HC3 := hide (HC2.out.below hb23)
            have HGX3 := hide (HGX2.out.andThen (grown_below hb23 none) (fun k hk => by cases hk))
            have hx3 := hb23.size
            rw [hW3]
            obtain ⟨gx, hgx⟩ : ∃ q, w2.heap.size = q := ⟨_, rfl⟩
            rw [hgx] at RX3 ⊢
            have hgxg : g < gx := by omega
            clear hW3 hb23 y0 y1 y2 y3 y4 HY2 HF2 HC2 HGX2
            have x0 := RX3.out.cell (k := 0) rfl
            have x3 := RX3.out.cell (k := 3) rfl
            obtain ⟨⟨f0, f1, f2⟩, -⟩ := fd_row HF3.out HHI.out
            try simp only at f0 f1 f2
            by_cases h16 : o = 16
            · subst h16
              obtain ⟨d0, d1⟩ := HX16.out rfl
              try simp only at d0 d1
              have hS := HQS.out
              rw [← HRS.out] at hS
              by_cases hge : d ≤ S
              · have hged : decide (d ≤ S) = true := decide_eq_true hge
                have e1 : IntKind.i64.wrap (S - d) = S - d := wrap_i64 _ (by omega) (by omega)
                have e2 : IntKind.i64.wrap (S - d + 1) = S - d + 1 := wrap_i64 _ (by omega) (by omega)
                go_quiet (fail)
                go_upto_region 15 with (fail)
                obtain ⟨W4, hW4⟩ : ∃ V, W3.drewN nq = V := ⟨_, rfl⟩
                have HY4 := hide (show W4.ownsRow Bi 64 5 (.slice (some ⟨Gc, 0, none⟩) m c9) m (icells ys) by rw [← hW4]; exact own_call HY3.out (below_draws (Below.refl _ _) _))
                have HC4 := hide (show Codes W4.drew g by rw [← hW4]; exact (HC3.out.drewN _).drew)
                have HGX4 := hide (show _root_.Go.World.grownBy _ W4.drew (some g) by rw [← hW4]; exact grown_draws (grown_draws HGX3.out _) 1)
                have x3 : W4.cell? ⟨gx, 3, none⟩ = some (.int .i64 d) := by rw [← hW4]; exact x3
                have f1 : W4.cell? ⟨Gf, i * 3 + 1, none⟩ = some (.int .i64 S) := by rw [← hW4]; exact f1
                try rw [hW4]
                clear hW4 x0 f0 f2 RX3 HF3 HC3 HGX3
                have cn := fun W (hc : Hid (Codes W g)) => next_any g (S - d + 1) W hc (by omega) (by omega)
                have CN := hide cn
                clear cn
                go_region_law
                  (first
                    | (go_simp; go_at_call 8; refine (CN.out W4.drew HC4).mono ?_; rintro e w5 ⟨t, rfl, t0, t1, hC5, hG5, hz5⟩; have ho5 := own_stay (own_call HY4.out (Below.refl _ _).drew) hgBi hG5; have hcc := (ins_row ho5 HYK.out).1.2.1; have hff := (ins_row ho5 HYK.out).2 (k * 5 + 1)))
                all_goals
                  have hst := (ho5.stored (k * 5 + 1) (.int .i64 t)).1
                  rw [iset1 HYK.out] at hst
                  have HO6 := hide hst
                  have HC6 := hide (codes_row ho5 hgBi hC5 (k * 5 + 1) (.int .i64 t))
                  have HG6 := hide ((HGX4.out.trans hG5).andThen (ho5.stored (k * 5 + 1) (.int .i64 t)).2 (fun q hq => .inl (by injection hq with hq; omega)))
                  have HY16 := hide (show ∀ x ∈ ys.set k ⟨16, t, b, d, im⟩, x.op = 16 → 0 ≤ x.c ∧ x.c ≤ 16 from fun z hz h => by
                    rcases List.mem_or_eq_of_mem_set hz with hz | rfl
                    · exact hy16.out z hz h
                    · exact ⟨d0, d1⟩)
                  clear hst ho5 hcc hff hC5 hG5 hz5
                  go_wp2_with fail
                  go_roundw
                  case rel => exact ⟨k + 1, _, by omega, by go_num, hide (by rw [List.length_set]; exact hyl.out), HO6, HY16, HC6, HG6⟩
                  case measure => simp [intOf]; omega
              · have hged : decide (d ≤ S) = false := decide_eq_false hge
                go_quiet (fail)
                go_wp2_with fail
                go_roundw
                case rel => exact ⟨k + 1, ys, by omega, by go_num, hyl, hide (own_call HY3.out (below_draws (Below.refl _ _) _)), hy16, hide (HC3.out.drewN _), hide (grown_draws HGX3.out _)⟩
                case measure => simp [intOf]; omega
            · have b16 : (o == 16) = false := by simpa using h16
              clear h16
              go_quiet (fail)
              go_wp2_with fail
              go_roundw
              case rel => exact ⟨k + 1, ys, by omega, by go_num, hyl, hide (own_call HY3.out (below_draws (Below.refl _ _) _)), hy16, hide (HC3.out.drewN _), hide (grown_draws HGX3.out _)⟩
              case measure => simp [intOf]; omega
          · have bv : (v == 2) = false := by simpa using hv
            clear hv
            have HFR2 := hide (hfa.out.stay hgB5 HGX2.out)
            have RT2 := hide (hT.out.grown HGX2.out (fun e => by injection e with e; omega))
            have HG2 := hide (hG.out.trans HGX2.out)
            have hz2 := HGX2.out.size
            obtain ⟨⟨-, -, fc⟩, ff⟩ := fd_row HF2.out HHI.out
            try simp only at fc
            have ff2 := ff (i * 3 + 2)
            clear ff
            go_wp2_with fail
            have hst := HF2.out.stored (i * 3 + 2) (.slice (some ⟨Gc, 0, none⟩) m c9)
            have HO5 := hst.1
            rw [fdset2 hh i _ HHI.out] at HO5
            have hyo5 := HY2.out.kept hst.2 (own_apart HY2.out HF2.out (by decide))
            have HFR5 := ((HFR2.out.kept HF2.out (by decide) hst.2).set HHI.out HGI.out hyl.out (own_lower hyo5 (show B5 ≤ Bi by omega)))
            have HFO5 := FmOk.set hok.out HGI.out (by rw [hyl.out, HRN.out]) hy16.out
            have HC5 := HC2.out.kept hst.2 (fun q hq => by injection hq with hq; omega)
            have RT5 := RT2.out.far (p := ⟨Gf, i * 3 + 2, none⟩) (show gt ≠ Gf by omega) (.slice (some ⟨Gc, 0, none⟩) m c9)
            have HG5 := HG2.out.andThen hst.2 (fun q hq => .inl (by injection hq with hq; omega))
            have HZ5 : B7 ≤ (w2.setCell ⟨Gf, i * 3 + 2, none⟩ (.slice (some ⟨Gc, 0, none⟩) m c9)).heap.size := by simp [World.setCell]; omega
            go_roundw
            case rel => exact ⟨i + 1, _, _, by omega, by go_num, hide (by rw [List.length_set]; exact hhl.out), hide (by rw [List.length_set]; exact hgl.out), hide HO5, hide HFR5, hide HFO5, hide HC5, hide RT5, hide HG5, hide HZ5⟩
            case measure => simp [intOf]; omega
        · obtain rfl : k = m := by omega
          have HFR2 := hide (hfa.out.stay hgB5 hGx.out)
          have RT2 := hide (hT.out.grown hGx.out (fun e => by injection e with e; omega))
          have HG2 := hide (hG.out.trans hGx.out)
          have hz2 := hGx.out.size
          obtain ⟨⟨-, -, fc⟩, ff⟩ := fd_row HFO.out HHI.out
          try simp only at fc
          have ff2 := ff (i * 3 + 2)
          clear ff
          go_wp2_with fail
          have hst := HFO.out.stored (i * 3 + 2) (.slice (some ⟨Gc, 0, none⟩) k c9)
          have HO5 := hst.1
          rw [fdset2 hh i _ HHI.out] at HO5
          have hyo5 := hyo.out.kept hst.2 (own_apart hyo.out HFO.out (by decide))
          have HFR5 := ((HFR2.out.kept HFO.out (by decide) hst.2).set HHI.out HGI.out hyl.out (own_lower hyo5 (show B5 ≤ Bi by omega)))
          have HFO5 := FmOk.set hok.out HGI.out (by rw [hyl.out, HRN.out]) hy16.out
          have HC5 := hCx.out.kept hst.2 (fun q hq => by injection hq with hq; omega)
          have RT5 := RT2.out.far (p := ⟨Gf, i * 3 + 2, none⟩) (show gt ≠ Gf by omega) (.slice (some ⟨Gc, 0, none⟩) k c9)
          have HG5 := HG2.out.andThen hst.2 (fun q hq => .inl (by injection hq with hq; omega))
          have HZ5 : B7 ≤ (wr.setCell ⟨Gf, i * 3 + 2, none⟩ (.slice (some ⟨Gc, 0, none⟩) k c9)).heap.size := by simp [World.setCell]; omega
          go_roundw
          case rel => exact ⟨i + 1, _, _, by omega, by go_num, hide (by rw [List.length_set]; exact hhl.out), hide (by rw [List.length_set]; exact hgl.out), hide HO5, hide HFR5, hide HFO5, hide HC5, hide RT5, hide HG5, hide HZ5⟩
          case measure => simp [intOf]; omega
    · obtain rfl : i = n := by omega
      have hgfl : Gf < wr.heap.size := (hfo.out.lt Gf rfl).2
      have RR := hide (HR1.out.grown hG.out (fun e => by injection e with e; omega))
      have v0 := RR.out.cell (k := 0) rfl
      have v1 := RR.out.cell (k := 1) rfl
      have z0 := RR.out.free 0
      have z1 := RR.out.free 1
      have t0 := hT.out.cell (k := 0) rfl
      go_wp2_with fail
      obtain ⟨W9, hW9⟩ : ∃ V, (wr.setCell ⟨w.heap.size, 0, none⟩ (.int .i64 al)).setCell ⟨w.heap.size, 1, none⟩ (.slice (some ⟨Gf, 0, none⟩) i c8) = V := ⟨_, rfl⟩
      have R9 : Row W9 w.heap.size 53 [.int .i64 al, .slice (some ⟨Gf, 0, none⟩) i c8] := by rw [← hW9]; exact (RR.out.set_ 0 _).set_ 1 _
      have HTG := hfa.out.tg (own_lower hfo.out hB57) hhl.out hgl.out (by omega) (fun q hq => by have := (hok.out q hq).2.2.1; omega)
      have hs9 : W9.heap.size = wr.heap.size := by rw [← hW9]; simp [World.setCell]
      have T9 : TgAt W9 w.heap.size W9.heap.size (some ⟨Gf, 0, none⟩) i c8 hh G := by
        rw [hs9]
        refine (HTG.keep (w' := W9) fun p h1 h2 => ?_).more (Nat.le_refl _) (by omega)
        rw [← hW9]
        rw [World.cell?_setCell_other _ _ _ _ (fun e => by subst e; simp at h1; omega), World.cell?_setCell_other _ _ _ _ (fun e => by subst e; simp at h1; omega)]
      have hwg : w.grownBy wr (some g) := (grown_below HB1.out (some g)).trans hG.out
      have G9 : w.grownBy W9 (some g) := by
        rw [← hW9]
        exact (hwg.andThen (grown_cell wr w.heap.size 0 _) (fun q hq => .inl (by injection hq with hq; omega))).andThen (grown_cell _ w.heap.size 1 _) (fun q hq => .inl (by injection hq with hq; omega))
      have C9 : Codes W9 g := by
        rw [← hW9]
        exact (hC.out.kept (grown_cell wr w.heap.size 0 _) (fun q hq => by injection hq with hq; omega)).kept (grown_cell _ w.heap.size 1 _) (fun q hq => by injection hq with hq; omega)
      rw [hW9]
      have k0 := R9.cell (k := 0) rfl
      have k1 := R9.cell (k := 1) rfl
      refine bodyPost_ret (v := tv al (some ⟨Gf, 0, none⟩) i c8) (by simp [results, Tryz.results19, go_sem, k0, k1]) rfl ?_
      exact ⟨al, _, i, c8, hh, G, rfl, T9, hn1, hn2, hok.out, halb, C9, G9⟩
end Go.Proofs.YtlcmcmocjbeocaaGreatDoor
end
