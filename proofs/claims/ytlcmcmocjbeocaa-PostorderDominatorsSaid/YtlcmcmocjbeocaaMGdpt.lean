import Derived.Test.YtlcmcmocjbeocaaMGdep
import Derived.Deep.LoopGhost
set_option linter.unusedVariables false
set_option linter.unusedSimpArgs false
section
/-
  The contract of postorder's departures: the order in which the search leaves what it visits, a row of the call's own. Conditions: those of the types; the function is right and has an instruction.
-/
namespace Go.Proofs.Ytlcmcmocjbeocaa
open Go.RowKit

/-- What departures hands back. -/
def DepPost (l : List Ins) (n : Nat) (w : World) (e : Ending) (w' : World) : Prop := ∃ L, IsLft (suc l) n L ∧ OutPost (toI L) w e w'
/-- How much is left to do. -/
def stM (st : List (Nat × List Nat)) : Nat := (st.map fun s => s.2.length + 1).sum
theorem stM_app (st : List (Nat × List Nat)) (k : Nat) (r : List Nat) : stM (st ++ [(k, r)]) = stM st + (r.length + 1) := by simp [stM]
theorem SKp.put {w : World} {base n g c : Nat} {xs : List Value} (h : w.ownsRow base 70 2 (.slice (some ⟨g, 0, none⟩) n c) n xs) (j : Nat) (x : Value) : SKp base w (w.setCell ⟨g, j, none⟩ x) := by
  have hg := h.lt g rfl
  refine ⟨(Below.refl _ _).setCell (p := ⟨g, j, none⟩) hg.1 x, fun g' t cs hr _ h2 => hr.far (p := ⟨g, j, none⟩) (fun e => ?_) x⟩
  rcases fown_apart h hr h2 with q | q
  · cases q
  · exact q (by show some g = some g'; rw [e])
section
variable {w wr w2 : World} {P : Int} {A1 : Option Addr} {n1 c1 : Nat} {A2 : Option Addr} {n2 c2 : Nat} {gv gw gR : Nat} {R : List Bool} {its : List (Nat × Value)} {v v2 u : Value} {st : List (Nat × List Nat)} {L : List Nat} {l : List Ins} {k : Nat}
theorem ItAt.pop {it : Nat × Value} {s : Nat × List Nat} (h : ItAt w u (its ++ [it]) (st ++ [s])) : ItAt w u its st ∧ it.1 = s.1 ∧ RsAt w u it.2 s.2 := by
  have hl : its.length = st.length := by have := h.len; simp at this; exact this
  refine ⟨⟨hl, fun i a b h1 h2 => h.at_ i a b ?_ ?_⟩, h.at_ its.length it s (by simp) (by rw [hl]; simp)⟩
  · rw [List.getElem?_append_left (List.getElem?_eq_some_iff.1 h1).1]; exact h1
  · rw [List.getElem?_append_left (List.getElem?_eq_some_iff.1 h2).1]; exact h2
theorem its_snoc {s : Nat × List Nat} (h : ItAt w u its (st ++ [s])) : ∃ its' y, its = its' ++ [(s.1, y)] := by
  have hl := h.len
  rcases List.eq_nil_or_concat its with rfl | ⟨its', it, rfl⟩
  · simp at hl
  · rw [List.concat_eq_append] at h ⊢
    exact ⟨its', it.2, by rw [← h.pop.2.1]⟩
theorem dp_ex (_ : Hid (DpI w P A1 n1 c1 A2 n2 c2 gv gw gR R its v st L u wr)) : ∃ W, wr = W := ⟨wr, rfl⟩
/-- One number is left. -/
theorem DpI.leave {o : Obj} (h : DpI w P A1 n1 c1 A2 n2 c2 gv gw gR R its v st L u wr) (ho : w2.ownsRow w.heap.size 3 1 v2 (L.length + 1) (cellsI (toI L) ++ [.int .i64 (k : Int)])) (hg : (wr.alloc o).grownBy w2 u.ownBlock) (hw : ∀ k, v2.ownBlock = some k → u.ownBlock = some k ∨ k = (wr.alloc o).heap.size) : DpI w P A1 n1 c1 A2 n2 c2 gv gw gR R its v st (L ++ [k]) v2 w2 := by
  have hro := fun {g t : Nat} {cs : List Value} (hr : Row wr g t cs) (ht : t ≠ 3) => hr.append h.left ht hg
  refine ⟨hro h.f (by decide), hro h.vb (by decide), hro h.vr (by decide), h.gRb, h.rl, ⟨hro h.sk.box (by decide), ?_, h.sk.gb, h.sk.few⟩, h.it.keep fun _ _ q => q.grown (base := 0) (n := 0) (xs := []) hg hw, ?_, ?_⟩
  · refine (h.sk.own.alloc o).kept hg ?_
    rcases hvo : v.ownBlock with _ | g
    · exact .inl rfl
    · right
      intro e
      have h1 := h.sk.own
      rcases h1.2 with ⟨q, -⟩ | ⟨G, cap, cur, q, hG, hh, -⟩
      · rw [q] at hvo; cases hvo
      · rw [q] at hvo
        have hGg : G = g := by simpa [Value.ownBlock] using hvo
        subst hGg
        rcases fown_apart (t := 70) (cs := cur.toList) h.left hh (by decide) with q2 | q2
        · rw [q2] at e; cases e
        · exact q2 e.symm
  · rw [toI_append, cellsI_append, List.length_append]; exact ho
  · exact below_append (h.b.alloc h.b.size o) (h.left.alloc o) (Nat.le_refl _) hg (Nat.le_trans h.b.size (by simp))
/-- The last item's slice is cut. -/
theorem DpI.cut {g c n : Nat} {y : Value} {rest r : List Nat} {x : Value} (h : DpI w P A1 n1 c1 A2 n2 c2 gv gw gR R (its ++ [(k, y)]) (.slice (some ⟨g, 0, none⟩) (n + 1) c) (st ++ [(k, rest)]) L u wr) (hn : its.length = n) (hx : RsAt wr u x r) :
    DpI w P A1 n1 c1 A2 n2 c2 gv gw gR R (its ++ [(k, x)]) (.slice (some ⟨g, 0, none⟩) (n + 1) c) (st ++ [(k, r)]) L u (wr.setCell ⟨g, n * 2 + 1, none⟩ x) := by
  subst hn
  have ho := h.sk.own
  rw [List.length_append, List.length_singleton] at ho
  have hs := SKp.put ho (its.length * 2 + 1) x
  have h2 := ho.stored (its.length * 2 + 1) x
  have he : (scells (its ++ [(k, y)])).set (its.length * 2 + 1) x = scells (its ++ [(k, x)]) := by
    rw [scells_set (u := (k, y)) (by simp)]
    simp
  rw [he] at h2
  have hbg := hs.k
  refine h.skp hs ⟨?_, ?_, h.sk.gb, ?_⟩ ((h.it.pop.1.push hx).keep fun _ _ q => q.skp hs) (hs.own h.left)
  · refine h.sk.box.far (p := ⟨g, its.length * 2 + 1, none⟩) (fun e => ?_) x
    rcases fown_apart ho h.sk.box (by decide) with q | q
    · cases q
    · exact q (by show some g = some gw; rw [e])
  · rw [List.length_append, List.length_singleton]; exact h2.1
  · have := h.sk.few; rw [List.length_append, List.length_singleton] at this ⊢; exact this
set_option maxRecDepth 100000 in
set_option maxHeartbeats 4000000 in
theorem departures_any (w : World) (hC : Hid (CdAt w A2 n2 l)) (hok : Hid (FlowOk l)) (hn1 : 1 ≤ n2) :
    Calls Try.prog 25 #[fv P A1 n1 c1 A2 n2 c2] w (DepPost l n2 w) := by
  obtain ⟨i0, hi, hz0, hz1, hz2⟩ := info_parts infoI
  obtain ⟨j0, ji, jz0, jz1, jz2⟩ := info_parts infoB
  have hlen := hC.out.len
  have hn2 := hC.out.few
  have hmk := fmade (P := Try.prog) Try.underlying36 ji jz0 jz1 (by omega) rfl n2 (by omega) (by rw [← bcells_rep])
  have HL := hide hlen
  obtain ⟨Lf, Rf, hV⟩ := IsLft.ex (S := suc l) (n := n2) (fun k j hj => by have := suc_lt hok.out hj; omega) (by omega)
  have HRUN := hide (Run.start (by rw [List.getElem?_replicate, if_pos (by omega)]) hV)
  have HLFT := hide (show IsLft (suc l) n2 Lf from ⟨Rf, hV⟩)
  have hcf : ((List.replicate n2 false).set 0 true).count false + 1 = n2 := by
    rw [count_set (by rw [List.getElem?_replicate, if_pos (by omega)])]; simp
  have HCF := hide hcf
  obtain ⟨W1, hW1⟩ : ∃ W, w.alloc (.cells #[.int .i64 P, .slice A1 n1 c1, .slice A2 n2 c2] 27) = W := ⟨_, rfl⟩
  obtain ⟨W2, hW2⟩ : ∃ W, W1.alloc (.cells #[.slice none 0 0] 67) = W := ⟨_, rfl⟩
  obtain ⟨W3, hW3⟩ : ∃ W, W2.alloc (.cells (bcells (List.replicate n2 false)).toArray 4) = W := ⟨_, rfl⟩
  obtain ⟨W5, hW5⟩ : ∃ W, W3.alloc (.cells #[.slice (some ⟨W2.heap.size, 0, none⟩) n2 n2] 36) = W := ⟨_, rfl⟩
  have R1 := hide (show Row W1 w.heap.size 27 [.int .i64 P, .slice A1 n1 c1, .slice A2 n2 c2] by rw [← hW1]; exact Row.new w _ _)
  have hs0 : W3.heap.size = W2.heap.size + 1 := by rw [← hW3]; simp
  have R4 := hide (show Row W5 (W2.heap.size + 1) 36 [.slice (some ⟨W2.heap.size, 0, none⟩) n2 n2] by rw [← hW5]; exact (Row.new W3 _ _).at_ hs0)
  have hb1 : Below w.heap.size w W1 := by rw [← hW1]; exact below1 _ _
  have hb2 : Below W1.heap.size W1 W2 := by rw [← hW2]; exact below1 _ _
  have hb3 : Below W2.heap.size W2 W3 := by rw [← hW3]; exact below1 _ _
  have hb4 : Below W3.heap.size W3 W5 := by rw [← hW5]; exact below1 _ _
  have hs1 := hb1.size
  have hs2 := hb2.size
  have hs3 := hb3.size
  have I5 := hide (show DpI w P A1 n1 c1 A2 n2 c2 (W2.heap.size + 1) W1.heap.size W2.heap.size (List.replicate n2 false) [] (.slice none 0 0) [] [] (.slice none 0 0) W5 by
    have f4 := ((R1.out.call hb2).call hb3).call hb4
    have s4 : Row W5 W1.heap.size 67 [.slice none 0 0] := ((show Row W2 W1.heap.size 67 [.slice none 0 0] by rw [← hW2]; exact Row.new W1 _ _).call hb3).call hb4
    have r4 : Row W5 W2.heap.size 4 (bcells (List.replicate n2 false)) := (show Row W3 W2.heap.size 4 (bcells (List.replicate n2 false)) by rw [← hW3]; exact Row.new W2 _ _).call hb4
    exact ⟨f4, R4.out, r4, by omega, by simp, ⟨s4, World.ownsRow_nil _ _ _ _, by omega, by simp⟩, ⟨rfl, fun i it s h1 => by simp at h1⟩, World.ownsRow_nil _ _ _ _, below_call (below_call (below_call hb1 hb2) hb3) hb4⟩)
  have HW1 := hide hW1
  have HW2 := hide hW2
  have HW3 := hide hW3
  have HW5 := hide hW5
  have cv := visit_any (k := 0) hC hok I5 (by omega) (by decide)
  rw [show ((0 : Nat) : Int) = 0 from rfl] at cv
  have hn0 : (0 : Int) < (n2 : Int) := by omega
  clear hW1 hW2 hW3 hW5 hs0 hb1 hb2 hb3 hb4 hs1 hs2 hs3 hlen hcf hV
  go_enter Try.func25, Try.ntmps25
  go_upto_region 1 with (fail)
  rw [HW1.out]
  go_upto_region 3 with (fail)
  rw [HW2.out]
  have q2 : W2.cell? ⟨w.heap.size, 2, none⟩ = some (.slice A2 n2 c2) := by rw [← HW2.out]; exact (R1.out.alloc _).cell (k := 2) rfl
  go_upto_region 4 with (fail)
  rw [HW3.out, HW5.out]
  clear q2 hmk HW1 HW2 HW3 HW5 R1 R4
  have q2 := I5.out.f.cell (k := 2) rfl
  go_wp2_with fail
  refine cv.mono ?_
  rintro e w6 ⟨rfl, v6, y6, hI6⟩
  have I6 := hide hI6
  rw [List.nil_append, List.nil_append] at I6
  clear cv q2 hI6 I5
  go_wp2_with fail
  go_loopg [3] (4 * n2 + 4) (fun gg s3 wr => ∃ (R : List Bool) (its : List (Nat × Value)) (v : Value) (st : List (Nat × List Nat)) (L : List Nat), Hid (Run (suc l) R L st.reverse Rf Lf) ∧ Hid (DpI w P A1 n1 c1 A2 n2 c2 (W2.heap.size + 1) W1.heap.size W2.heap.size R its v st L s3 wr) ∧ Hid (∀ s ∈ st, ∀ j ∈ s.2, j < n2) ∧ L.length + st.length + R.count false ≤ n2 ∧ stM st + 3 * R.count false ≤ gg)
  case atStart =>
    have hX2 := suc_len l 0
    have hcf := HCF.out
    exact ⟨_, _, _, [(0, suc l 0)], [], HRUN, I6, hide (fun s hs j hj => by simp at hs; subst hs; have := suc_lt hok.out hj; have := HL.out; omega), by simp only [List.length_nil, List.length_cons]; omega, by simp only [stM, List.map_cons, List.map_nil, List.sum_cons, List.sum_nil]; omega⟩
  case round =>
    obtain ⟨R, its, v, st, L, hR, hI, hin, hc1, hc2⟩ := hrel
    clear I6 HRUN
    rcases List.eq_nil_or_concat st with rfl | ⟨st', ⟨k, rest⟩, rfl⟩
    · have hits : its = [] := by have := hI.out.it.len; simpa using this
      subst hits
      have hL : L = Lf := (hR.out.end_).2
      subst hL
      have ho := hI.out.left
      obtain ⟨A3, c3, he3, -, -⟩ := own_form ho
      subst he3
      have FIN := hide (show DepPost l n2 w (.returned (.slice A3 L.length c3)) wr from ⟨L, HLFT.out, A3, c3, by rw [toI_len], by rw [toI_len]; exact ho, hI.out.b⟩)
      have ce := sk_empty wr (hide hI.out.sk)
      clear ho hR hI
      go_wp2_with fail
      refine ce.mono ?_
      rintro e w' ⟨rfl, rfl⟩
      clear ce
      go_wp2_with fail
      go_ret
      exact FIN.out
    · rw [List.concat_eq_append] at hR hI hin hc1 hc2
      obtain ⟨its', y, rfl⟩ := its_snoc hI.out.it
      obtain ⟨hit, -, hrs⟩ := hI.out.it.pop
      have HRS := hide hrs
      have HIL := hide (show its'.length = st'.length from hit.len)
      have hi2 : its'.length ≤ 1999 := by have h := hI.out.sk.few; rw [List.length_append, List.length_singleton] at h; omega
      rw [List.reverse_append, List.reverse_singleton, List.singleton_append] at hR
      rw [List.length_append, List.length_singleton] at hc1
      rw [stM_app] at hc2
      have ho := hI.out.sk.own
      rw [List.length_append, List.length_singleton] at ho
      obtain ⟨g, c, rfl, hbg, hgl, hcap, hcm⟩ := own_block ho (by omega)
      have ce := sk_some wr (hide hI.out.sk) (by simp)
      have ct := sk_top (n := its'.length) wr (hide hI.out.sk) (by simp)
      have hcells := scells_at (l := its' ++ [(k, y)]) (k := its'.length) (u := (k, y)) (by simp)
      have x0 : wr.cell? ⟨g, its'.length * 2, none⟩ = some (.int .i64 (k : Int)) := by rw [ho.cellAt _ (by omega)]; exact hcells.1
      have x1 : wr.cell? ⟨g, its'.length * 2 + 1, none⟩ = some y := by rw [ho.cellAt _ (by omega)]; exact hcells.2
      have f1 := ho.frozenAt (its'.length * 2 + 1)
      clear hit hrs hcells hbg hgl hcap hcm
      go_wp2_with fail
      refine ce.mono ?_
      rintro e w' ⟨rfl, rfl⟩
      clear ce
      go_wp2_with fail
      refine ct.mono ?_
      rintro e w' ⟨rfl, q, rfl⟩
      obtain ⟨W7, hW7⟩ : ∃ W, wr.drewN q = W := ⟨_, rfl⟩
      have I7 := hide (show DpI w P A1 n1 c1 A2 n2 c2 (W2.heap.size + 1) W1.heap.size W2.heap.size R (its' ++ [(k, y)]) (.slice (some ⟨g, 0, none⟩) (its'.length + 1) c) (st' ++ [(k, rest)]) L u3 W7 by rw [← hW7]; exact hI.out.call (below_draws (Below.refl _ _) q))
      have y0 : W7.cell? ⟨g, its'.length * 2, none⟩ = some (.int .i64 (k : Int)) := by rw [← hW7]; exact x0
      have y1 : W7.cell? ⟨g, its'.length * 2 + 1, none⟩ = some y := by rw [← hW7]; exact x1
      have g1 : W7.frozen? ⟨g, its'.length * 2 + 1, none⟩ = false := by rw [← hW7]; exact f1
      have HRS := hide (show RsAt W7 u3 y rest by rw [← hW7]; exact HRS.out.call (below_draws (Below.refl _ _) q))
      rw [hW7]
      clear x0 x1 f1 hI ho ct hW7
      rcases rest with _ | ⟨j, r⟩
      · obtain ⟨A, c', rfl⟩ := HRS.out.one
        have HS7 := hide I7.out.b.size
        go_upto_region 10 with (fail)
        go_upto_region 11 with (at_builtin; refine wpList_append_where rfl (.tmp 29) (.tmp 34) 30 rfl w.heap.size 3 i0 (.int .i64 0) 1 8 Try.underlying30 hi hz0 hz1 hz2 rfl (by decide) _ L.length (cellsI (toI L)) rfl (I7.out.left.alloc _) ⟨W7.heap.size, 0, none⟩ 1 1 [.int .i64 (k : Int)] rfl rfl (one_new _ _ _) (one_cell _) (by unfold maxLen; omega) (by omega) (Nat.le_trans HS7.out (by simp)) ?_)
        intro v8 w8 ho8 hg8 hw8
        have I8 := hide (I7.out.leave ho8 hg8 (fun k hk => by simpa using hw8 k hk))
        have cp := sk_pop w8 (hide I8.out.sk)
        clear ho8 hg8 hw8 I7 y0 y1 g1
        go_wp2_with fail
        refine cp.mono ?_
        rintro e w9 ⟨rfl, hk9, hs9⟩
        have I9 := hide (show DpI w P A1 n1 c1 A2 n2 c2 (W2.heap.size + 1) W1.heap.size W2.heap.size R its' (.slice (some ⟨g, 0, none⟩) its'.length c) st' (L ++ [k]) v8 w9 from
          I8.out.skp hs9 hk9 (I8.out.it.pop.1.keep fun _ _ q => q.skp hs9) (hs9.own I8.out.left))
        have HR9 := hide hR.out.leave
        clear hk9 hs9 cp I8 hR
        go_wp2_with fail
        go_roundg (gk - 1)
        case rel => exact ⟨R, its', _, st', L ++ [k], HR9, I9, hide (fun s hs => hin.out s (by simp [hs])), by rw [List.length_append, List.length_singleton]; omega, by simp only [List.length_nil] at hc2; omega⟩
        case measure => simp only [List.length_nil] at hc2; omega
      · obtain ⟨bj, oj, cj, rfl, hjc, hjm, z0, hcut⟩ := HRS.out.cons
        have hjn : j < n2 := hin.out (k, j :: r) (by simp) j (by simp)
        rw [List.length_cons] at hc2
        have hrn : (r.length : Int) + 1 ≠ 0 := by omega
        have e0 : (((r.length : Int) + 1) == 0) = false := by rw [beq_eq_false_iff_ne]; exact hrn
        have hr1 : (1 : Int) ≤ (r.length : Int) + 1 := by omega
        have hr2 : (r.length : Int) + 1 ≤ (cj : Int) := by omega
        have hr3 : (1 : Int) ≤ (cj : Int) := by omega
        have hr0 : (0 : Int) < (r.length : Int) + 1 := by omega
        have hr4 : ((r.length : Int) + 1) - 1 = (r.length : Int) := by omega
        rcases Nat.eq_or_lt_of_le (show 1 ≤ cj by omega) with hc | hc
        case' inl =>
          subst hc
          obtain rfl : r = [] := List.length_eq_zero_iff.1 (by omega)
          have hx := hide (hcut (some ⟨bj, oj, none⟩) (fun _ => trivial) (fun h => by omega))
          simp only [List.length_nil, Nat.sub_self] at hx
          go_upto_region 14 with (fail)
        case' inr =>
          have hcne : ¬ cj = 1 := by omega
          have hx := hide (hcut (some ⟨bj, oj + 1, none⟩) (fun _ => trivial) (fun _ => rfl))
          go_upto_region 14 with (fail)
        all_goals
          have I8 := hide (I7.out.cut rfl hx.out)
          obtain ⟨W8, hW8⟩ := dp_ex I8
          rw [hW8] at I8 ⊢
          clear hW8 y0 y1 g1 z0 hcut HRS I7 hx
          have hj0 : (0 : Int) ≤ (j : Int) := by omega
          have hjz : (j : Int) < (n2 : Int) := by omega
          have hjl : j < R.length := by rw [I8.out.rl]; exact hjn
          have b0 := I8.out.vb.cell (k := 0) rfl
          rcases bool_get hjl with hr | hr
          · have z0 := I8.out.vr.cell (bcells_at hr)
            have HR9 := hide (hR.out.old hr)
            clear hr hR
            go_wp2_with fail
            go_roundg (gk - 1)
            case rel => exact ⟨R, _, _, st' ++ [(k, _)], L, (by rw [List.reverse_append, List.reverse_singleton, List.singleton_append]; exact HR9), I8, hide (fun s hs i hi => by
              rcases List.mem_append.1 hs with hs | hs
              · exact hin.out s (by simp [hs]) i hi
              · simp only [List.mem_singleton] at hs
                subst hs
                exact hin.out _ (List.mem_append_right _ (List.mem_singleton.2 rfl)) i (List.mem_cons_of_mem _ hi)), by rw [List.length_append, List.length_singleton]; omega, by rw [stM_app]; omega⟩
            case measure => omega
          · have z0 := I8.out.vr.cell (bcells_at hr)
            have HR9 := hide (hR.out.new hr)
            have hcs := count_set hr
            have cv := visit_any (k := j) hC hok I8 hjn (by rw [List.length_append, List.length_singleton]; have := HIL.out; omega)
            have hX2 := suc_len l j
            clear hr hR
            go_wp2_with fail
            refine cv.mono ?_
            rintro e w9 ⟨rfl, v9, y9, hI9⟩
            have I9 := hide hI9
            clear cv hI9 I8 z0 b0
            go_wp2_with fail
            go_roundg (gk - 1)
            case rel => exact ⟨R.set j true, _, _, st' ++ [(k, _)] ++ [(j, suc l j)], L, (by rw [List.reverse_append, List.reverse_singleton, List.singleton_append, List.reverse_append, List.reverse_singleton, List.singleton_append]; exact HR9), I9, hide (fun s hs i hi => by
              rcases List.mem_append.1 hs with hs | hs
              · rcases List.mem_append.1 hs with hs | hs
                · exact hin.out s (by simp [hs]) i hi
                · simp only [List.mem_singleton] at hs
                  subst hs
                  exact hin.out _ (List.mem_append_right _ (List.mem_singleton.2 rfl)) i (List.mem_cons_of_mem _ hi)
              · simp only [List.mem_singleton] at hs
                subst hs
                have := suc_lt hok.out hi
                have := HL.out
                omega), by rw [List.length_append, List.length_singleton, List.length_append, List.length_singleton]; omega, by rw [stM_app, stM_app]; omega⟩
            case measure => omega
end
end Go.Proofs.Ytlcmcmocjbeocaa
end
