import Derived.Test.YtjbgepjdohfhkaaMAwl
import Derived.Test.YtjbgepjdohfhkaaMAmath
import Derived.Deep.LoopGhost
set_option linter.unusedVariables false
set_option linter.unusedSimpArgs false
section
/-
  The contract of liveness.spread: a slot is added to the sets of just those instructions behind which it may be read. Conditions: those of the types; the function is right; the rows lie apart; the slot is not in the sets.
-/
namespace Go.Proofs.Ytjbgepjdohfhkaa
open Go.RowKit

/-- What spread may turn below its own blocks: table go, and rows of the caller's own from block base on. -/
structure KO (base go : Nat) (w w' : World) : Prop where
  b : Below base w w'
  k : ∀ (g t : Nat) (cs : List Value), Row w g t cs → t ≠ 3 → g ≠ go → Row w' g t cs
theorem KO.refl (base go : Nat) (w : World) : KO base go w w := ⟨Below.refl _ _, fun _ _ _ h _ _ => h⟩
/-- What it keeps: the worklist in block X. -/
structure SpI (w : World) (base gb go X n2 : Nat) (l : List Ins) (s : Int) (O : Nat → List Int) (T0 : Rt) (D : Nat → Bool) (W : List Nat) (T : Rt) (wr : World) : Prop where
  r : Rws wr base T
  hb : Hdr wr gb n2 (T 0)
  ho : Hdr wr go n2 (T 2)
  x : ∃ v, Row wr X 69 [v] ∧ T 3 0 = some (v, toI W)
  e0 : ∀ i, T 0 i = T0 0 i
  e1 : ∀ i, T 1 i = T0 1 i
  eo : ∀ k, k < n2 → ∃ v, T 2 k = some (v, O k ++ if D k = true then [s] else [])
  ko : KO base go w wr
  bs : base ≤ w.heap.size
  bx : w.heap.size ≤ X
  bgb : base ≤ gb
  bgo : base ≤ go
  gg : gb ≠ go
section
variable {base gb go X n2 : Nat} {l : List Ins} {s : Int} {O : Nat → List Int} {T0 T : Rt} {D : Nat → Bool} {W : List Nat} {w wr w2 : World}
theorem SpI.size (h : SpI w base gb go X n2 l s O T0 D W T wr) : base ≤ wr.heap.size := Nat.le_trans h.bs h.ko.b.size
theorem KO.call (h : KO base go w wr) (hs : base ≤ wr.heap.size) (hb : Below wr.heap.size wr w2) : KO base go w w2 := ⟨h.b.trans (hb.mono hs), fun g t cs hr h1 h2 => (h.k g t cs hr h1 h2).call hb⟩
theorem SpI.call (h : SpI w base gb go X n2 l s O T0 D W T wr) (hb : Below wr.heap.size wr w2) : SpI w base gb go X n2 l s O T0 D W T w2 := by
  obtain ⟨v, hx, he⟩ := h.x
  exact ⟨h.r.below hb, h.hb.call hb, h.ho.call hb, ⟨v, hx.call hb, he⟩, h.e0, h.e1, h.eo, h.ko.call h.size hb, h.bs, h.bx, h.bgb, h.bgo, h.gg⟩
/-- The last item is taken. -/
theorem SpI.take {A : Option Addr} {c j : Nat} (h : SpI w base gb go X n2 l s O T0 D (W ++ [j]) T wr) (hx : Row wr X 69 [.slice A (W.length + 1) c]) (he : T 3 0 = some (.slice A (W.length + 1) c, toI (W ++ [j]))) :
    SpI w base gb go X n2 l s O T0 D W (upd T 3 0 (.slice A W.length c, toI W)) (wr.setCell ⟨X, 0, none⟩ (.slice A W.length c)) := by
  rw [toI_append, show toI [j] = [(j : Int)] from rfl] at he
  have hr := h.r.cut (zs := toI W) (x := (j : Int)) (c := c) (A := A) (a := 3) (i := 0) (by rw [toI_len]; exact he)
  rw [toI_len] at hr
  have k1 : ∀ i, upd T 3 0 (.slice A W.length c, toI W) 0 i = T 0 i := fun i => upd_kind T 0 i _ (by omega)
  have k2 : ∀ i, upd T 3 0 (.slice A W.length c, toI W) 2 i = T 2 i := fun i => upd_kind T 0 i _ (by omega)
  refine ⟨hr.far hx (by decide) 0 _, (h.hb.keep fun vs q => q.far (p := ⟨X, 0, none⟩) (q.ne_ hx (by decide)) _).as_ fun i _ => k1 i, (h.ho.keep fun vs q => q.far (p := ⟨X, 0, none⟩) (q.ne_ hx (by decide)) _).as_ fun i _ => k2 i, ⟨_, hx.set_ 0 _, upd_same _ _ _ _⟩, fun i => (k1 i).trans (h.e0 i),
    fun i => (upd_kind T 0 i _ (by omega)).trans (h.e1 i), fun k hk => by rw [k2]; exact h.eo k hk, ⟨h.ko.b.setCell (p := ⟨X, 0, none⟩) (Nat.le_trans h.bs h.bx) _, fun g t cs q h1 h2 => (h.ko.k g t cs q h1 h2).far (p := ⟨X, 0, none⟩) (by simp; have := q.lt; have := h.bx; omega) _⟩, h.bs, h.bx, h.bgb, h.bgo, h.gg⟩
theorem KO.grown {v : Value} {m : Nat} {xs : List Value} {o : Obj} (h : KO base go w wr) (hs : base ≤ wr.heap.size) (hv : wr.ownsRow base 3 1 v m xs) (hg : (wr.alloc o).grownBy w2 v.ownBlock) : KO base go w w2 :=
  ⟨below_append (h.b.alloc hs o) (hv.alloc o) (Nat.le_refl _) hg (Nat.le_trans hs (by simp)), fun g t cs q h1 h2 => ((h.k g t cs q h1 h2).alloc o).grown hg fun e => by
    rcases fown_apart hv (h.k g t cs q h1 h2) h1 with q2 | q2
    · rw [q2] at e; cases e
    · exact q2 e.symm⟩
/-- Instruction k has got the slot. -/
theorem SpI.mark {o : Obj} {k : Nat} {v v' : Value} {zs : List Int} (h : SpI w base gb go X n2 l s O T0 D W T wr) (hk : k < n2) (hD : D k = false) (he : T 2 k = some (v, zs)) (hs : -9223372036854775808 ≤ s ∧ s ≤ 9223372036854775807)
    (hv : w2.ownsRow base 3 1 v' (zs.length + 1) (cellsI zs ++ [.int .i64 s])) (hg : (wr.alloc o).grownBy w2 v.ownBlock) (hw : ∀ b, v'.ownBlock = some b → v.ownBlock = some b ∨ b = (wr.alloc o).heap.size) :
    SpI w base gb go X n2 l s O T0 (mark1 D k) W (upd T 2 k (v', zs ++ [s])) (w2.setCell ⟨go, k, none⟩ v') ∧ w2.cell? ⟨go, k, none⟩ = some v ∧ w2.frozen? ⟨go, k, none⟩ = false := by
  have hvo := h.r.own 2 k v zs he
  have R2 := h.r.app he hs hv hg hw
  have G2 := h.ho.grown (e := 0) hvo hg
  have B2 := h.hb.grown (e := 0) hvo hg
  obtain ⟨vo, hro⟩ := G2.row
  obtain ⟨vx, hx, hex⟩ := h.x
  have k0 : ∀ i, upd T 2 k (v', zs ++ [s]) 0 i = T 0 i := fun i => upd_kind T k i _ (by omega)
  refine ⟨⟨R2.far hro fty_ne k _, (B2.keep fun vs q => q.far (p := ⟨go, k, none⟩) (fun e => h.gg e) _).as_ fun i _ => k0 i, G2.put (upd_same _ _ _ _) (fun j hj => upd_ne T 2 _ hj), ⟨vx, ?_, (upd_kind T k 0 _ (by omega)).trans hex⟩, fun i => (k0 i).trans (h.e0 i),
    fun i => (upd_kind T k i _ (by omega)).trans (h.e1 i), fun m hm => ?_, ?_, h.bs, h.bx, h.bgb, h.bgo, h.gg⟩, (G2.at_ hk he).1, (G2.at_ hk he).2⟩
  · refine ((hx.alloc o).grown hg fun e => ?_).far (p := ⟨go, k, none⟩) (fun e => ?_) _
    · rcases fown_apart hvo hx (by decide) with q2 | q2
      · rw [q2] at e; cases e
      · exact q2 e.symm
    · obtain ⟨vo1, hro1⟩ := h.ho.row
      exact hx.ne_ hro1 (by decide) e
  · by_cases e : m = k
    · subst e
      obtain ⟨u, hu⟩ := h.eo m hm
      rw [he] at hu
      injection hu with hu
      injection hu with hu1 hu2
      refine ⟨v', ?_⟩
      rw [upd_same, mark1_same, if_pos rfl, hu2, hD]
      simp
    · rw [upd_ne T 2 _ e, mark1_ne e]
      exact h.eo m hm
  · have := h.ko.grown h.size hvo hg
    exact ⟨this.b.setCell (p := ⟨go, k, none⟩) h.bgo _, fun g t cs q h1 h2 => (this.k g t cs q h1 h2).far (p := ⟨go, k, none⟩) h2 _⟩
/-- Instruction k goes onto the worklist. -/
theorem SpI.add {o : Obj} {k : Nat} {v v' : Value} (h : SpI w base gb go X n2 l s O T0 D W T wr) (he : T 3 0 = some (v, toI W)) (hx : Row w2 X 69 [v]) (hkk : k ≤ 1000000)
    (hv : w2.ownsRow base 3 1 v' ((toI W).length + 1) (cellsI (toI W) ++ [.int .i64 (k : Int)])) (hg : (wr.alloc o).grownBy w2 v.ownBlock) (hw : ∀ b, v'.ownBlock = some b → v.ownBlock = some b ∨ b = (wr.alloc o).heap.size) :
    SpI w base gb go X n2 l s O T0 D (W ++ [k]) (upd T 3 0 (v', toI W ++ [(k : Int)])) (w2.setCell ⟨X, 0, none⟩ v') := by
  have hvo := h.r.own 3 0 v _ he
  have R2 := h.r.app he (x := (k : Int)) (by omega) hv hg hw
  have G2 := h.ho.grown (e := 0) hvo hg
  have B2 := h.hb.grown (e := 0) hvo hg
  have k0 : ∀ i, upd T 3 0 (v', toI W ++ [(k : Int)]) 0 i = T 0 i := fun i => upd_kind T 0 i _ (by omega)
  have k2 : ∀ i, upd T 3 0 (v', toI W ++ [(k : Int)]) 2 i = T 2 i := fun i => upd_kind T 0 i _ (by omega)
  have K2 := h.ko.grown h.size hvo hg
  refine ⟨R2.far hx (by decide) 0 _, (B2.keep fun vs q => q.far (p := ⟨X, 0, none⟩) (q.ne_ hx (by decide)) _).as_ fun i _ => k0 i, (G2.keep fun vs q => q.far (p := ⟨X, 0, none⟩) (q.ne_ hx (by decide)) _).as_ fun i _ => k2 i, ⟨v', hx.set_ 0 _, ?_⟩, fun i => (k0 i).trans (h.e0 i),
    fun i => (upd_kind T 0 i _ (by omega)).trans (h.e1 i), fun m hm => by rw [k2]; exact h.eo m hm, ⟨K2.b.setCell (p := ⟨X, 0, none⟩) (Nat.le_trans h.bs h.bx) _, fun g t cs q h1 h2 => (K2.k g t cs q h1 h2).far (p := ⟨X, 0, none⟩) (by simp; have := q.lt; have := h.bx; omega) _⟩, h.bs, h.bx, h.bgb, h.bgo, h.gg⟩
  rw [upd_same, toI_append]
  rfl
theorem ends_of {O : List Int} (hO : ∀ z ∈ O, z < s) (d : Bool) : endB16 (O ++ if d = true then [s] else []) s = d := by
  unfold endB16
  cases d with
  | true => simp
  | false =>
    simp only [Bool.false_eq_true, if_false, List.append_nil]
    cases hl : O.getLast? with
    | none => rfl
    | some z =>
      have := hO z (List.mem_of_getLast? hl)
      simp only [beq_eq_false_iff_ne]
      omega
/-- What spread leaves. -/
def SprPost (base gb go n2 : Nat) (l : List Ins) (s : Int) (O : Nat → List Int) (T0 : Rt) (w : World) (e : Ending) (w' : World) : Prop :=
  e = .returned (.tuple #[]) ∧ ∃ (D : Nat → Bool) (T : Rt), Rws w' base T ∧ Hdr w' gb n2 (T 0) ∧ Hdr w' go n2 (T 2) ∧ (∀ i, T 0 i = T0 0 i) ∧ (∀ i, T 1 i = T0 1 i) ∧ (∀ k, k < n2 → ∃ v, T 2 k = some (v, O k ++ if D k = true then [s] else [])) ∧ (∀ k, D k = true ↔ Lv l k s) ∧ KO base go w w'
set_option maxRecDepth 100000 in
set_option maxHeartbeats 4000000 in
theorem spread_any {A2 A : Option Addr} {c2 cb co n c : Nat} {R : List Nat} (w : World) (hlen : l.length = n2) (hn2 : n2 ≤ 1024) (hS : Hid (Sees w base A2 (icells l))) (hr : Hid (Rws w base T0)) (hhb : Hid (Hdr w gb n2 (T0 0))) (hho : Hid (Hdr w go n2 (T0 2)))
    (hbg : base ≤ gb) (hbo : base ≤ go) (hgg : gb ≠ go) (hbs : base ≤ w.heap.size) (hB : Hid (∀ j : Nat, j < n2 → ∃ v, T0 0 j = some (v, toI (befN l n2 j)))) (hO : Hid (∀ k : Nat, k < n2 → ∃ v, T0 2 k = some (v, O k))) (hOs : Hid (∀ k : Nat, k < n2 → (O k).length ≤ 512 ∧ ∀ z ∈ O k, z < s))
    (hW : Hid (T0 3 0 = some (.slice A n c, toI R))) (hn : R.length = n) (hnn : n ≤ n2) (hR : Hid (∀ j : Nat, j ∈ R ↔ ∃ x, l[j]? = some x ∧ s ∈ usL x.op x.b)) (s0 : 0 ≤ s) (s1 : s < 512) :
    Calls Try.prog 21 #[.slice A2 n2 c2, .slice (some ⟨gb, 0, none⟩) n2 cb, .slice (some ⟨go, 0, none⟩) n2 co, .int .i64 s, .slice A n c] w (SprPost base gb go n2 l s O T0 w) := by
  obtain ⟨i0, hi, hz0, hz1, hz2⟩ := info_parts infoI
  obtain ⟨W1, hW1⟩ : ∃ V, w.alloc (.cells #[.slice A n c] 69) = V := ⟨_, rfl⟩
  have hb1 : Below w.heap.size w W1 := by rw [← hW1]; exact below1 _ _
  have I1 := hide (show SpI w base gb go w.heap.size n2 l s O T0 (fun _ => false) R T0 W1 from
    ⟨hr.out.below hb1, hhb.out.call hb1, hho.out.call hb1, ⟨_, by rw [← hW1]; exact Row.new w _ _, hW.out⟩, fun _ => rfl, fun _ => rfl, fun k hk => by obtain ⟨v, e⟩ := hO.out k hk; exact ⟨v, by rw [e]; simp⟩, (KO.refl base go w).call hbs hb1, hbs, Nat.le_refl _, hbg, hbo, hgg⟩)
  have M1 := hide (SprI.start hR.out)
  have hcu := cntU_le (fun _ => false) n2
  have HW1 := hide hW1
  obtain ⟨X, hX⟩ : ∃ X, w.heap.size = X := ⟨_, rfl⟩
  have HX := hide hX
  rw [hX] at I1
  clear hW1 hb1 hr hhb hho hW hR hX
  go_enter Try.func21, Try.ntmps21
  go_upto_region 1 with (fail)
  rw [HW1.out, HX.out]
  clear HW1
  go_loopg [12] (n2 + n2 + 1) (fun gg s12 wr => ∃ (D : Nat → Bool) (W : List Nat) (T : Rt), cntU D n2 + W.length + 1 ≤ gg ∧ cntU D n2 + W.length ≤ n2 + n2 ∧ Hid (SprI l s D W) ∧ Hid (SpI w base gb go X n2 l s O T0 D W T wr))
  case atStart => exact ⟨_, R, T0, by omega, by omega, M1, I1⟩
  case round =>
    obtain ⟨D, W, T, hgg1, hgg2, hM, hI⟩ := hrel
    clear I1 M1 hcu
    obtain ⟨v, hx, he⟩ := hI.out.x
    have ho := hI.out.r.own 3 0 v _ he
    rw [toI_len] at ho
    rcases List.eq_nil_or_concat W with hw0 | ⟨W', j, hw0⟩
    · subst hw0
      obtain ⟨Aw, cw, rfl, -, -⟩ := own_form ho
      have ce := wl_empty (n := 0) (c := cw) (A := Aw) (X := X) wr (hide hx) (by omega)
      have HF := hide (show SprPost base gb go n2 l s O T0 w (.returned (.tuple #[])) wr from ⟨rfl, D, T, hI.out.r, hI.out.hb, hI.out.ho, hI.out.e0, hI.out.e1, hI.out.eo, hM.out.end_, hI.out.ko⟩)
      clear hx he ho hI hM
      go_wp2_with fail
      refine ce.mono ?_
      rintro e w5 ⟨rfl, rfl⟩
      go_wp2_with fail
      go_end0
      exact HF.out
    · rw [List.concat_eq_append] at hw0
      subst hw0
      rw [List.length_append, List.length_singleton] at ho hgg1 hgg2
      obtain ⟨gw, cw, rfl, -, -, hcap, hcm⟩ := own_block ho (by omega)
      have hwl : W'.length ≤ 3000 := by omega
      have ce := wl_empty (n := W'.length + 1) (c := cw) (A := some ⟨gw, 0, none⟩) (X := X) wr (hide hx) (by omega)
      rw [decide_eq_false (show ¬ W'.length + 1 = 0 by omega)] at ce
      have xj : wr.cell? ⟨gw, W'.length, none⟩ = some (.int .i64 (j : Int)) := by
        rw [ho.cellAt W'.length (by omega), cellsI, List.getElem?_map, toI_get, List.getElem?_append_right (Nat.le_refl _)]
        simp
      have ct := wl_take (n := W'.length) (c := cw) (g := gw) (X := X) (x := (j : Int)) wr (hide hx) (by omega) hcap hcm (hide xj)
      have hI2 := hI.out.take hx he
      obtain ⟨W5, hW5⟩ : ∃ V, wr.setCell ⟨X, 0, none⟩ (.slice (some ⟨gw, 0, none⟩) W'.length cw) = V := ⟨_, rfl⟩
      rw [hW5] at hI2 ct
      have I2 := hide hI2
      have M2 := hide hM.out.pop
      have hjl : j < n2 := by
        obtain ⟨x, hxx, -⟩ := hM.out.bg j (by simp)
        have := (List.getElem?_eq_some_iff.1 hxx).1
        omega
      obtain ⟨vb, hvb⟩ := hB.out j hjl
      have hvb2 := (I2.out.e0 j).trans hvb
      obtain ⟨zb, -⟩ := I2.out.hb.at_ hjl hvb2
      obtain ⟨Ab, cb2, rfl, -, -⟩ := I2.out.r.lst hvb2
      rw [toI_len] at zb hvb hvb2
      have HVB := hide hvb
      have hnb : (befN l n2 j).length ≤ n2 := befN_len l n2 j
      have hj0 : (0 : Int) ≤ (j : Int) := by omega
      have hjn : (j : Int) < (n2 : Int) := by omega
      clear hx he ho hI hM hI2 xj hW5 hvb hvb2 hcap hcm
      obtain ⟨bj, hbj⟩ : ∃ b, befN l n2 j = b := ⟨_, rfl⟩
      rw [hbj] at HVB zb hnb
      have HBJ := hide hbj
      clear hbj
      obtain ⟨T2, hT2⟩ : ∃ T2, upd T 3 0 (.slice (some ⟨gw, 0, none⟩) W'.length cw, toI W') = T2 := ⟨_, rfl⟩
      rw [hT2] at I2
      clear hT2
      go_wp2_with fail
      refine ce.mono ?_
      rintro e w5 ⟨rfl, rfl⟩
      clear ce
      go_wp2_with fail
      refine ct.mono ?_
      rintro e w5 ⟨rfl, rfl⟩
      clear ct
      go_wp2_with fail
      go_loopw [12, 22] (fun s12 s22 wr => ∃ (i : Nat) (D : Nat → Bool) (W : List Nat) (T : Rt), s22 = .int .i64 (i : Int) ∧ i ≤ bj.length ∧ cntU D n2 + W.length + 2 ≤ gk ∧ cntU D n2 + W.length ≤ n2 + n2 ∧ Hid (SprK l s D W j i) ∧ Hid (SpI w base gb go X n2 l s O T0 D W T wr)) (fun _ s22 _ => bj.length - (intOf s22).toNat)
      case atStart => exact ⟨0, D, W', T2, rfl, by omega, by omega, by omega, M2, I2⟩
      case round =>
        obtain ⟨i, D, W, T, rfl, hib, hg1, hg2, hM, hI⟩ := hrel
        clear I2 M2
        by_cases hlt : i < bj.length
        · have hTb := (hI.out.e0 j).trans HVB.out
          have hob := hI.out.r.own 0 j _ _ hTb
          rw [toI_len] at hob
          obtain ⟨gq, cq, heq, -, -, -, -⟩ := own_block hob (by omega)
          injection heq with heq1 _ heq3
          subst heq1 heq3
          have hkx := List.getElem?_eq_getElem hlt
          have x0 : wr.cell? ⟨gq, i, none⟩ = some (.int .i64 ((bj[i] : Nat) : Int)) := by
            rw [hob.cellAt i (by omega), cellsI, List.getElem?_map, toI_get, hkx]; rfl
          have HK := hide (show (befN l l.length j)[i]? = some bj[i] by rw [hlen, HBJ.out]; exact hkx)
          generalize bj[i] = k at x0 HK
          obtain ⟨hkl, hjs, -⟩ := hM.out.lv HK.out
          have hkn : k < n2 := by omega
          obtain ⟨x, hx⟩ : ∃ x, l[k]? = some x := ⟨_, List.getElem?_eq_getElem hkl⟩
          obtain ⟨_, hxe⟩ := List.getElem?_eq_some_iff.1 hx
          obtain ⟨b2, o2, rfl, hb2, y0, y1, y2, y3, y4⟩ := ins_at hS.out hkl
          rw [hxe] at y0 y1 y2 y3 y4
          obtain ⟨vo, hvo⟩ := hI.out.eo k hkn
          obtain ⟨zo, -⟩ := hI.out.ho.at_ hkn hvo
          obtain ⟨Ao, co2, rfl, hlo, -⟩ := hI.out.r.lst hvo
          have hoo := hI.out.r.own 2 k _ _ hvo
          obtain ⟨hol, hos⟩ := hOs.out k hkn
          have hee := ends_of hos (D k)
          have hzl : (O k ++ if D k = true then [s] else []).length ≤ 513 := by
            rw [List.length_append]; split <;> simp <;> omega
          obtain ⟨zs, hzs⟩ : ∃ zs, (O k ++ if D k = true then [s] else []) = zs := ⟨_, rfl⟩
          rw [hzs] at hvo zo hlo hoo hee hzl
          have cn := ends_any (c := co2) s wr (hide hlo) (by omega)
          rw [hee] at cn
          have hi0 : (0 : Int) ≤ (i : Int) := by omega
          have hin : (i : Int) < (bj.length : Int) := by omega
          have hk0 : (0 : Int) ≤ (k : Int) := by omega
          have hkn' : (k : Int) < (n2 : Int) := by omega
          have KY := hide (show ∀ V : World, Below base w V → V.cell? ⟨b2, o2 + k * 5, none⟩ = some (.int .i64 x.op) ∧ V.cell? ⟨b2, o2 + k * 5 + 1, none⟩ = some (.int .i64 x.a) ∧ V.cell? ⟨b2, o2 + k * 5 + 2, none⟩ = some (.int .i64 x.b) ∧ V.cell? ⟨b2, o2 + k * 5 + 3, none⟩ = some (.int .i64 x.c) ∧ V.cell? ⟨b2, o2 + k * 5 + 4, none⟩ = some (.int .u64 x.imm) from
            fun V hb => ⟨(hb.cell hb2).trans y0, (hb.cell hb2).trans y1, (hb.cell hb2).trans y2, (hb.cell hb2).trans y3, (hb.cell hb2).trans y4⟩)
          have HX2 := hide hx
          clear hxe hee hlo hob hTb hkx hol hos hzs hjs y0 y1 y2 y3 y4 hx hkl
          cases hD : D k with
          | true =>
            rw [hD] at cn
            have HM2 := hide (hM.out.old HK.out hD)
            clear hM hvo hoo HK hD
            go_wp2_with fail
            refine cn.mono ?_
            rintro e w6 ⟨rfl, hb6⟩
            have I6 := hide (hI.out.call hb6)
            clear hb6 cn hI x0 zo KY
            go_wp2_with fail
            go_roundw
            case rel => exact ⟨i + 1, D, W, T, by go_num, by omega, hg1, hg2, HM2, I6⟩
            case measure => simp [intOf]; omega
          | false =>
            rw [hD] at cn
            have HM2 := hide (hM.out.new HK.out HX2.out)
            have hcm := cntU_mark hkn hD
            clear hM HK
            go_wp2_with fail
            refine cn.mono ?_
            rintro e w6 ⟨rfl, hb6⟩
            have I6 := hide (hI.out.call hb6)
            have HO6 := hide (own_below hoo hb6)
            obtain ⟨zo6, -⟩ := I6.out.ho.at_ hkn hvo
            have HSZ := hide I6.out.size
            have HMK := hide (fun (o : Obj) (w2 : World) (v' : Value) (hv : w2.ownsRow base 3 1 v' (zs.length + 1) (cellsI zs ++ [.int .i64 s])) (hg : (w6.alloc o).grownBy w2 (Value.slice Ao zs.length co2).ownBlock) (hw : ∀ b, v'.ownBlock = some b → (Value.slice Ao zs.length co2).ownBlock = some b ∨ b = w6.heap.size + 1) =>
              I6.out.mark (o := o) hkn hD hvo (by omega) hv hg (fun b hb => by simpa using hw b hb))
            clear hb6 cn hI x0 zo hvo hoo hD
            go_upto_region 7 with (at_builtin; refine wpList_append_where rfl (.tmp 37) (.tmp 39) 38 rfl base 3 i0 (.int .i64 0) 1 8 Try.underlying38 hi hz0 hz1 hz2 rfl (by decide) _ zs.length (cellsI zs) rfl (HO6.out.alloc _) ⟨w6.heap.size, 0, none⟩ 1 1 [.int .i64 s] rfl rfl (one_new _ _ _) (one_cell _) (by unfold maxLen; omega) (by omega) (Nat.le_trans HSZ.out (by simp)) ?_)
            intro v7 w7 ho7 hg7 hw7
            obtain ⟨A7, c7, rfl, -, -⟩ := own_form ho7
            obtain ⟨hI7, z0, z1⟩ := HMK.out _ w7 _ ho7 hg7 hw7
            obtain ⟨W8, hW8⟩ : ∃ V, w7.setCell ⟨go, k, none⟩ (.slice A7 (zs.length + 1) c7) = V := ⟨_, rfl⟩
            rw [hW8] at hI7
            have I7 := hide hI7
            obtain ⟨y0, y1, y2, y3, y4⟩ := KY.out W8 I7.out.ko.b
            have HW8 := hide hW8
            obtain ⟨T7, hT7⟩ : ∃ T7, upd T 2 k (.slice A7 (zs.length + 1) c7, zs ++ [s]) = T7 := ⟨_, rfl⟩
            rw [hT7] at I7
            have cd := ldefines_any x.op x.a x.b x.c x.imm s W8
            clear hI7 hW8 hT7 ho7 hg7 hw7 HMK I6 HO6 zo6 KY
            go_upto_region 7 with (fail)
            rw [HW8.out]
            clear z0 z1 HW8
            go_wp2_with fail
            refine cd.mono ?_
            rintro e w9 ⟨rfl, hb9⟩
            have I9 := hide (I7.out.call hb9)
            clear hb9 cd I7 y0 y1 y2 y3 y4
            by_cases hdf : defB x.op = true ∧ x.a = s
            · rw [if_pos hdf] at HM2
              have hdt : (defB x.op && (x.a == s)) = true := by rw [hdf.1, hdf.2]; simp
              rw [hdt]
              clear hdt hdf
              go_wp2_with fail
              go_roundw
              case rel => exact ⟨i + 1, _, W, T7, by go_num, by omega, by omega, by omega, HM2, I9⟩
              case measure => simp [intOf]; omega
            · rw [if_neg hdf] at HM2
              have hdt : (defB x.op && (x.a == s)) = false := by
                cases h1 : defB x.op with
                | false => rfl
                | true =>
                  simp only [Bool.true_and, beq_eq_false_iff_ne]
                  exact fun e => hdf ⟨h1, e⟩
              rw [hdt]
              clear hdt hdf
              obtain ⟨v9, hx9, he9⟩ := I9.out.x
              have ho9 := I9.out.r.own 3 0 v9 _ he9
              have ca := wl_add (X := X) (base := base) (v := v9) (zs := toI W) (x := (k : Int)) w9 (hide hx9) (hide ho9) (by rw [toI_len]; omega) I9.out.size (by omega) (by omega)
              have HAD := hide (fun (o : Obj) (w2 : World) (v' : Value) hv hg hw hx => I9.out.add (o := o) (w2 := w2) (v' := v') he9 hx (show k ≤ 1000000 by omega) hv hg hw)
              clear hx9 ho9 he9 I9
              go_wp2_with fail
              refine ca.mono ?_
              rintro e w10 ⟨rfl, w11, o11, v11, hv11, hg11, hw11, hx11, rfl⟩
              have I11 := hide (HAD.out _ _ _ hv11 hg11 hw11 hx11)
              clear hv11 hg11 hw11 hx11 ca HAD
              go_wp2_with fail
              go_roundw
              case rel => exact ⟨i + 1, _, W ++ [k], _, by go_num, by omega, by rw [List.length_append, List.length_singleton]; omega, by rw [List.length_append, List.length_singleton]; omega, HM2, I11⟩
              case measure => simp [intOf]; omega
        · obtain rfl : i = bj.length := by omega
          have HM2 := hide (hM.out.over (by rw [hlen, HBJ.out]; exact Nat.le_refl _))
          clear hM
          go_wp2_with fail
          go_roundg (gk - 1)
          case rel => exact ⟨D, W, T, by omega, hg2, HM2, hI⟩
          case measure => omega
end
end Go.Proofs.Ytjbgepjdohfhkaa
end
