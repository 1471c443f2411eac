import Derived.Test.YtafegghdhdgioabGreatMMstm
import Derived.Test.YtafegghdhdgioabGreatMZstr
import Derived.Test.YtafegghdhdgioabGreatMKit
import Derived.OpenShut
import Derived.Carry
set_option linter.unusedVariables false
set_option linter.unusedSimpArgs false
section
/-
  MachrunFuelIsMonotone's law, walked: with more fuel the trace grows, a run that ended by itself stays. No condition: every input that the row speaks of.
-/
namespace Go.Proofs.YtafegghdhdgioabGreat
open Go.RowKit

/-- What more fuel leaves, as the law asks it. -/
structure MoreFT (a b : Co) (N : Nat) : Prop where
  tr : a.trace.length ≤ b.trace.length
  st : a.steps ≤ b.steps
  mo : a.steps ≤ N
  ne : a.kind ≠ 4 → b = a
  eq : a.kind = 4 → a.steps = N
  pre : b.trace.take a.trace.length = a.trace
theorem moreFT (Al : Nat) (F : Tg) (inp : List Nat) (N M size : Nat) : MoreFT (runT Al F inp N size).c (runT Al F inp (N + M) size).c N := by
  obtain ⟨⟨l, hl⟩, hs⟩ := more_traceT (Al := Al) (F := F) (inp := inp) (size := size) N M
  exact ⟨by rw [hl, List.length_append]; omega, hs, runT_most N, fun h => by rw [more_fuelT N M h], fun h => runT_fuel h, by rw [hl, List.take_left]⟩
/-- Run at a right target. -/
theorem tok_any {lo0 n c : Nat} {A : Option Addr} {hs : List Fd} (Al : Int) (F : Tg) (inp : List Nat) (fuel size : Nat) (Ai : Option Addr) (ni ci : Nat) (w : World) (hE : Hid (tgE Al F = 0)) (hf : fuel ≤ 100000) (hsz : size ≤ 1048576) (him : Hid (ImmT F)) (hI : Hid (InAt w w.heap.size (.slice Ai ni ci) inp)) (hIv : Hid (∀ v ∈ inp, v < 18446744073709551616)) (hPg : Hid (TgAt w lo0 w.heap.size A n c hs F)) :
    Calls Tryz.prog 10 #[tv Al A n c, .slice Ai ni ci, .int .i64 (fuel : Int), .int .i64 (size : Int)] w (fun e w' => ∃ (A1 : Option Addr) (c1 : Nat), e = .returned (.tuple #[.agg (ovl (runT Al.toNat F inp fuel size).c.kind (runT Al.toNat F inp fuel size).c.code (runT Al.toNat F inp fuel size).c.res A1 (runT Al.toNat F inp fuel size).c.trace.length c1 (runT Al.toNat F inp fuel size).c.steps).toArray, .int .i64 0]) ∧ TrAt w' w'.heap.size A1 (runT Al.toNat F inp fuel size).c.trace.length c1 (runT Al.toNat F inp fuel size).c.trace ∧ Below w.heap.size w w') := by
  refine (tout_any Al F inp fuel size Ai ni ci w him hI hIv hPg).mono ?_
  rintro e w' ⟨vt, rfl, hto, hb⟩
  rw [runTS_ok hE.out inp hf hsz] at hto ⊢
  rw [runTE_ok hE.out hf hsz]
  obtain ⟨A1, c1, rfl⟩ := own_shape hto
  exact ⟨A1, c1, rfl, tr_own hto rfl (run_valsT (rightT_of hE.out) him.out hIv.out hsz Al.toNat fuel).t, hb⟩
set_option maxRecDepth 100000 in
set_option maxHeartbeats 8000000 in
theorem fuelaw12_walk (A0 : Option Addr) (n0 c0 : Nat) (zs : List Int) (mo : Int) (w : World)
    (hA : Hid (A0 = none → c0 = 0)) (hn : Hid (zs.length = n0)) (hnc : n0 ≤ c0) (hm : n0 ≤ 9223372036854775807) (hs : Hid (Sees w w.heap.size A0 (cellsU8 zs))) (hz : Hid (∀ z ∈ zs, 0 ≤ z ∧ z ≤ 255)) (m0 : 0 ≤ mo) (m1 : mo ≤ 255) :
    Calls Tryz.prog 5 #[.slice A0 n0 c0, .int .u8 mo] w fun e w' => e = .returned (.bool true) ∧ Below w.heap.size w w' := by
  obtain ⟨M, rfl⟩ : ∃ M : Nat, mo = (M : Int) := ⟨mo.toNat, by omega⟩
  go_enter Tryz.func5, Tryz.ntmps5
  go_wp2_with fail
  refine (awake12_any w).mono ?_
  rintro e w1 ⟨rfl, hb1⟩
  have HB1 := hide hb1
  have HS1 := hide ((hs.out.below hb1).more hb1.size)
  clear hb1
  go_wp2_with fail
  refine (scene12_any A0 n0 c0 zs w1 hA hn hnc hm HS1 hz).mono ?_
  rintro e w2 ⟨Al, A, n, c, hh, G, Ai, ni, ci, inp, N, size, gk, lw, rfl, htg, hE, him, -, -, -, hI, hIv, hN, hsz, -, -, -, -, hb2⟩
  have hM : M ≤ 255 := by omega
  obtain ⟨W, hW⟩ : ∃ V, w2.alloc (.cells #[.int .i64 Al, .slice A n c] 26) = V := ⟨_, rfl⟩
  have HW := hide hW
  have hb3 := below1 w2 (.cells #[.int .i64 Al, .slice A n c] 26)
  rw [hW] at hb3
  obtain ⟨B, hB⟩ : ∃ B, w2.heap.size = B := ⟨_, rfl⟩
  have HBB := hide hB
  have RB := hide (show Row W B 26 [.int .i64 Al, .slice A n c] by rw [← hW, ← hB]; exact Row.new w2 _ _)
  have HP := hide ((htg.below hb3).more hb3.size (Nat.le_refl _))
  have HI := hide ((hI.below hb3).more hb3.size)
  have HBW := hide (HB1.out.trans ((hb2.trans (hb3.mono hb2.size)).mono HB1.out.size))
  have cr : ∀ (q : Nat) (wr : World), Hid (q ≤ 100000) → Hid (Below W.heap.size W wr) → Calls Tryz.prog 10 #[tv Al A n c, .slice Ai ni ci, .int .i64 (q : Int), .int .i64 (size : Int)] wr (fun e w' => ∃ (A1 : Option Addr) (c1 : Nat), e = .returned (.tuple #[.agg (ovl (runT Al.toNat G inp q size).c.kind (runT Al.toNat G inp q size).c.code (runT Al.toNat G inp q size).c.res A1 (runT Al.toNat G inp q size).c.trace.length c1 (runT Al.toNat G inp q size).c.steps).toArray, .int .i64 0]) ∧ TrAt w' w'.heap.size A1 (runT Al.toNat G inp q size).c.trace.length c1 (runT Al.toNat G inp q size).c.trace ∧ Below wr.heap.size wr w') := fun q wr hq HBl =>
    tok_any Al G inp q size Ai ni ci wr (hide hE) hq.out (by omega) (hide him) (hide ((HI.out.below HBl.out).more HBl.out.size)) (hide hIv) (hide ((HP.out.below HBl.out).more HBl.out.size (Nat.le_refl _)))
  have VA := hide (run_valsT (rightT_of hE) him hIv (show size ≤ 1048576 by omega) Al.toNat N).r
  have VB := hide (run_valsT (rightT_of hE) him hIv (show size ≤ 1048576 by omega) Al.toNat (N + M)).r
  have MF := hide (moreFT Al.toNat G inp N M size)
  obtain ⟨a, ha⟩ : ∃ a, (runT Al.toNat G inp N size).c = a := ⟨_, rfl⟩
  obtain ⟨b, hb⟩ : ∃ b, (runT Al.toNat G inp (N + M) size).c = b := ⟨_, rfl⟩
  have ca := cr N
  have cb := cr (N + M)
  rw [ha] at ca VA MF
  rw [hb] at cb VB MF
  rw [show ((N + M : Nat) : Int) = (N : Int) + (M : Int) by omega] at cb
  clear htg hE him hI hIv hb2 hb3 hW hB HS1 HB1 ha hb HI HP cr
  go_upto_region 4 with (fail)
  rw [HW.out, HBB.out]
  clear HW HBB
  have p0 := RB.out.cell (k := 0) rfl
  have p1 := RB.out.cell (k := 1) rfl
  have ca1 := ca W (hide (by omega)) (hide (Below.refl _ _))
  go_wp2_with fail
  refine ca1.mono ?_
  rintro e w4 ⟨A1, c1, rfl, hta, hb4⟩
  obtain ⟨W3, hW3⟩ : ∃ V, w4.alloc (.cells #[.int .i64 a.kind, .int .u64 a.code, .int .u64 (lo a.res), .int .u64 (hi a.res), .slice A1 a.trace.length c1, .int .i64 (a.steps : Int)] 41) = V := ⟨_, rfl⟩
  have HW3 := hide hW3
  have hb5 : Below w4.heap.size w4 W3 := by rw [← hW3]; exact below1 _ _
  have B3 := hide (hb4.trans (hb5.mono hb4.size))
  have TA := hide (hta.call hb5)
  obtain ⟨ga, hga⟩ : ∃ g, w4.heap.size = g := ⟨_, rfl⟩
  have HGA := hide hga
  have RA := hide (show Row W3 ga 41 (ovl a.kind a.code a.res A1 a.trace.length c1 a.steps) by rw [← hga, ← hW3]; exact Row.new w4 _ _)
  have q0 := (RB.out.below B3.out RB.out.lt).cell (k := 0) rfl
  have q1 := (RB.out.below B3.out RB.out.lt).cell (k := 1) rfl
  have cb1 := cb W3 (hide (by omega)) B3
  clear ca1 ca cb hta hb4 hb5 p0 p1 hW3 hga
  go_upto_region 5 with (fail)
  rw [HW3.out, HGA.out]
  clear HW3 HGA
  go_wp2_with fail
  refine cb1.mono ?_
  rintro e w5 ⟨A2, c2, rfl, htb, hb6⟩
  obtain ⟨W5, hW5⟩ : ∃ V, w5.alloc (.cells #[.int .i64 b.kind, .int .u64 b.code, .int .u64 (lo b.res), .int .u64 (hi b.res), .slice A2 b.trace.length c2, .int .i64 (b.steps : Int)] 41) = V := ⟨_, rfl⟩
  have HW5 := hide hW5
  have hb7 : Below w5.heap.size w5 W5 := by rw [← hW5]; exact below1 _ _
  have hb67 := hb6.trans (hb7.mono hb6.size)
  have B5 := hide (below_call B3.out hb67)
  have TA5 := hide (TA.out.call hb67)
  have TB5 := hide (htb.call hb7)
  obtain ⟨gb, hgb⟩ : ∃ g, w5.heap.size = g := ⟨_, rfl⟩
  have HGB := hide hgb
  have RA5 := hide (RA.out.call hb67)
  have RB5 := hide (show Row W5 gb 41 (ovl b.kind b.code b.res A2 b.trace.length c2 b.steps) by rw [← hgb, ← hW5]; exact Row.new w5 _ _)
  clear cb1 htb hb6 hb7 hb67 TA RA B3 q0 q1 hW5 hgb
  go_upto_region 6 with (fail)
  rw [HW5.out, HGB.out]
  clear HW5 HGB
  have x0 := RA5.out.cell (k := 0) rfl
  have x4 := RA5.out.cell (k := 4) rfl
  have x5 := RA5.out.cell (k := 5) rfl
  have y4 := RB5.out.cell (k := 4) rfl
  have y5 := RB5.out.cell (k := 5) rfl
  have u1 : (a.trace.length : Int) ≤ (b.trace.length : Int) := by have := MF.out.tr; omega
  have u2 : (a.steps : Int) ≤ (b.steps : Int) := by have := MF.out.st; omega
  have u3 : (a.steps : Int) ≤ (N : Int) := by have := MF.out.mo; omega
  by_cases hk : a.kind = 4
  · have hst : a.steps = N := MF.out.eq hk
    have hpre := hide MF.out.pre
    have hla : a.trace.length ≤ b.trace.length := MF.out.tr
    have hlc : b.trace.length ≤ c2 := TB5.out.cap
    have hlm := TB5.out.most
    rw [hk] at x0
    rw [hst] at x5 u2 u3
    have ct : ∀ p : After W5, Calls Tryz.prog 15 #[.slice A1 a.trace.length c1, .slice A2 a.trace.length c2] p.w fun e w' => e = .returned (.bool true) ∧ Below p.w.heap.size p.w w' := fun p => by
      have h := strace_any A1 a.trace.length c1 a.trace A2 a.trace.length c2 (b.trace.take a.trace.length) p.w.heap.size p.w (hide (TA5.out.call p.b)) (hide (tr_take (TB5.out.call p.b) hla)) (Nat.le_refl _)
      rw [hpre.out, decide_eq_true rfl] at h
      exact h
    have CT := hide ct
    have X4 := fun p : After W5 => after_cell x4 p
    have X5 := fun p : After W5 => after_cell x5 p
    have Y4 := fun p : After W5 => after_cell y4 p
    clear ct
    go_upto_region 10 with (fail)
    refine wp_region_after (by kernel_rfl) (by kernel_rfl) ?_
    repeat (go_big_quiet_step ((go_at_call 15; with_reducible exact after_of (CT.out _))))
    refine wpQuiet_nil ?_
    intro _ hw'
    obtain ⟨p2, hw''⟩ := hw'
    subst hw''
    have HF := hide (HBW.out.trans ((below_call B5.out p2.b).mono HBW.out.size))
    go_wp2_with fail
    go_ret
    exact ⟨rfl, HF.out⟩
  · have hba : b = a := MF.out.ne hk
    subst hba
    have hkb : (b.kind == 4) = false := by simpa using hk
    have cs := rsame_out b.kind b.code b.res A1 b.trace.length c1 b.trace b.steps b.kind b.code b.res A2 b.trace.length c2 b.trace b.steps W5 TA5 TB5 (by have := VA.out; exact this) (by have := VB.out; exact this)
    rw [show outB b.kind b.code b.res b.trace (b.steps : Int) b.kind b.code b.res b.trace (b.steps : Int) = true by simp [outB]] at cs
    have h1 := load_row (agg_outcome (w := W5)) (size_outcome (w := W5)) rfl RA5.out
    have h2 := load_row (agg_outcome (w := W5)) (size_outcome (w := W5)) rfl RB5.out
    go_upto_region 9 with (fail)
    go_wp2_with (first | (refine wpList_load_whole 41 (.tmp 10) rfl rfl _ _ rfl h1 ?_) | (refine wpList_load_whole 41 (.tmp 12) rfl rfl _ _ rfl h2 ?_) | fail)
    refine cs.mono ?_
    rintro e w6 ⟨rfl, hb8⟩
    have HF := hide (HBW.out.trans ((below_call B5.out hb8).mono HBW.out.size))
    go_wp2_with fail
    go_ret
    exact ⟨rfl, HF.out⟩
end Go.Proofs.YtafegghdhdgioabGreat
end

section
/-
  From the walk of a law to its row: a law that returns true and leaves all that was in memory as it was meets 'true; the input reads as it did'; what a slice of bytes that came in gives. No function of the program is named here.
-/
namespace Go.Proofs.YtafegghdhdgioabGreat
open Go.ChangeShapes Go.WideShapes Go.ChangeAt Go.RowKit

theorem bounds_u64 {n : Int} (h : (Lit.int .u64 n).wf = true) : 0 ≤ n ∧ n ≤ 18446744073709551615 := by
  simp [Lit.wf, IntKind.min, IntKind.max, IntKind.signed, IntKind.bits] at h
  omega

section
variable {H : Type} {enc : TypeId × Value → H} {P : Program}

theorem trodAll_after (hl : laidOutB P = true) {W W' : World} (hb : Below W.heap.size W W') : ∀ (ts : List TypeId) (vs : List Value) (ds : List (DataW H)) (ps : List MemPlace),
    (∀ t ∈ ts, P.readableRec t = true ∧ t < P.types.size) → DataW.TrodAll enc P W 0 (fun _ => true) true ts vs ds ps → (∀ x ∈ ps, x.block < W.heap.size) →
    DataW.TrodAll enc P W' 0 (fun b => decide (b < W.heap.size)) true ts vs ds ps := by
  intro ts
  induction ts with
  | nil => intro vs ds ps _ h _
           rcases vs with _ | ⟨v, vs⟩ <;> rcases ds with _ | ⟨d, ds⟩ <;> simp_all [DataW.TrodAll]
  | cons t ts ih =>
    intro vs ds ps hr h hlt
    rcases vs with _ | ⟨v, vs⟩
    · simp [DataW.TrodAll] at h
    rcases ds with _ | ⟨d, ds⟩
    · simp [DataW.TrodAll] at h
    obtain ⟨p, q, h1, h2, rfl⟩ := h
    have ht := hr t List.mem_cons_self
    exact ⟨p, q, Below.trod hl ht.1 ht.2 h1 hb (fun x hx => hlt x (List.mem_append_left _ hx)), ih vs ds q (fun t' h' => hr t' (List.mem_cons_of_mem _ h')) h2 (fun x hx => hlt x (List.mem_append_right _ hx)), rfl⟩

/-- What a law's row asks at the end. -/
theorem law_post {f : Func} {s : ChangeSpec} {apart : Bool} {W W' : World} {args : Array Value} {ds gs : List (DataW H)} {before : List MemPlace} {tb : TypeId} (hl : laidOutB P = true)
    (hp : ∀ t ∈ f.params.toList, P.readableRec t = true ∧ t < P.types.size) (hv : s.vars = []) (hr : f.resultTypes = #[tb]) (hb : P.underlying tb = some .bool)
    (hs : s.fn H ds = { results := [.lit (.bool true)], args := ds, vars := [] })
    (hW : DataW.Whole enc P f.params.toList s.vars apart W args.toList ds gs before) (hB : Below W.heap.size W W') :
    s.post enc P f apart true false false W args (.bool true) W' := by
  have hW' := hW
  obtain ⟨p, q, hA, hV, rfl, hfz, hnd⟩ := hW
  rw [hv] at hV
  obtain ⟨rfl, rfl⟩ := trodVars_none hV
  have e : s.fn H (ds ++ []) = { results := [.lit (.bool true)], args := ds, vars := [] } := by rw [List.append_nil]; exact hs
  refine ⟨ds, [], p ++ [], [], p, [], hW', ?_, ?_, ?_, hB.frame _, fun h => by cases h⟩
  · rw [e, hr]
    exact trodAll_mk1 (shut_bool hb _)
  · rw [e]
    exact trodAll_after hl hB _ _ _ _ hp hA (fun x hx => hW'.lt x (List.mem_append_left _ hx))
  · rw [e, hv]
    rfl

/-- What a slice of bytes that came in gives. -/
theorem open_u8s {W : World} {base : Nat} {t e : TypeId} {v : Value} {d : DataW H} {p : List MemPlace} (ht : P.underlying t = some (.slice e)) (he : P.underlying e = some (.int .u8)) (hc : P.cellsOf e = 1)
    (hval : Value.okWide P W .any base t v) (h : DataW.Trod enc P W 0 (fun _ => true) true t v d p) :
    ∃ (A : Option Addr) (n c : Nat) (zs : List Int), v = .slice A n c ∧ (A = none → c = 0) ∧ zs.length = n ∧ n ≤ 9223372036854775807 ∧ Sees W W.heap.size A (cellsU8 zs) ∧ (∀ z ∈ zs, 0 ≤ z ∧ z ≤ 255) ∧ n ≤ c := by
  obtain ⟨a1, len, cap, rfl⟩ := okWide_slice ht hval
  obtain ⟨fuel, hf⟩ := h
  rcases open_ints ht he hc hf with ⟨hcs, hx⟩ | ⟨a, len', cap', zs, hcs, _, hlc, hm, hz, hx, hcell, hwz⟩
  · simp [Value.cells] at hcs
    obtain ⟨rfl, rfl, rfl⟩ := hcs
    exact ⟨none, 0, 0, [], rfl, fun _ => rfl, rfl, by omega, Sees.nil_ _ _ _, fun z hz => (by cases hz), Nat.le_refl _⟩
  · simp [Value.cells] at hcs
    obtain ⟨rfl, rfl, rfl⟩ := hcs
    simp only [if_true] at hz
    have hlen : (zs.take len).length = len := by simp; omega
    refine ⟨some a, len, cap, zs.take len, rfl, fun hn => by simp at hn, hlen, by unfold maxLen at hm; omega, ?_, fun z hz' => ?_, hlc⟩
    · intro k u hu
      have hk : k < len := by
        rcases Nat.lt_or_ge k len with h1 | h1
        · exact h1
        · rw [List.getElem?_eq_none (by simp [cellsU8]; omega)] at hu; simp at hu
      rw [get_u8 (by omega)] at hu
      have hu' : u = .int .u8 (zs.getD k 0) := by
        injection hu with hu
        rw [← hu]
        simp [hk]
      subst hu'
      obtain ⟨ab, ao, spot⟩ := a
      have h0 := hcell 0 (by omega)
      have hspot : spot = none := by simpa [Addr.add] using World.cell?_spot h0
      subst hspot
      have hck := hcell k (by omega)
      rw [WideShapes.add_plain] at hck
      exact ⟨ab, ao, rfl, World.block_lt_of_cell? _ _ hck, hck⟩
    · have := bounds_u8 (hwz z (List.mem_of_mem_take hz'))
      exact ⟨by omega, by omega⟩
end
end Go.Proofs.YtafegghdhdgioabGreat
end
