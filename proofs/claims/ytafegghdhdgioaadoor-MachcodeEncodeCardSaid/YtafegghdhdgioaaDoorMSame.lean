import Derived.Test.YtafegghdhdgioaaDoorMKit
import Derived.Test.YtafegghdhdgioaaDoorMJcod
import Derived.Test.YtafegghdhdgioaaDoorMJgd
import Derived.Test.YtafegghdhdgioaaDoorMModt
import Derived.Test.YtafegghdhdgioaaDoorMJren
import Derived.Deep.QuietTactic
import Derived.BigQuiet
import Derived.OpenShut
import Derived.Carry
set_option linter.unusedVariables false
set_option linter.unusedSimpArgs false
section
/-
  The contract of spillframeref01.SameBytes at two slices that hold the same bytes: it returns true and only reads. Condition: fewer than 2^62 bytes.
-/
namespace Go.Proofs.YtafegghdhdgioaaDoor
open Go.RowKit

set_option maxHeartbeats 400000 in
theorem same_any (A A' : Option Addr) (n c n' c' : Nat) (zs : List Int) (B : Nat) (w : World) (hn : Hid (zs.length = n)) (hn' : Hid (n' = n)) (hm : n ≤ 4611686018427387904)
    (h : Sees w B A (cellsU8 zs)) (h' : Sees w B A' (cellsU8 zs)) :
    Calls Tryd.prog 25 #[.slice A n c, .slice A' n' c'] w fun e w' => e = .returned (.bool true) ∧ ∃ k, w' = w.drewN k := by
  obtain rfl := hn'.out
  clear hn'
  go_enter Tryd.func25, Tryd.ntmps25
  go_wp2
  go_loopw [5] (fun i wr => ∃ k : Nat, k ≤ n' ∧ i = .int .i64 k ∧ ∃ m, wr = w.drewN m) (fun i _ => n' - (intOf i).toNat)
  case atStart => exact ⟨0, Nat.zero_le _, rfl, 0, rfl⟩
  case round =>
    obtain ⟨k, hk, rfl, m, rfl⟩ := hrel
    by_cases hlt : k < n'
    · obtain ⟨b, off, rfl, _, hc⟩ := h k _ (get_u8 (by have := hn.out; omega))
      obtain ⟨b', off', rfl, _, hc'⟩ := h' k _ (get_u8 (by have := hn.out; omega))
      clear h h'
      go_wp2
      go_quiet (fail)
      go_wp2
      go_roundw
      case rel => exact ⟨k + 1, by omega, by go_num, _, rfl⟩
      case measure => simp [intOf]; omega
    · clear h h'
      go_wp2
      go_ret
      exact ⟨rfl, m, rfl⟩
end Go.Proofs.YtafegghdhdgioaaDoor
end

section
/-
  Towards the law of chapter 11's Encode: what both sides give, as bytes. Conditions: those of the types.
-/
namespace Go.Proofs.YtafegghdhdgioaaDoor
open Go.RowKit

/-- The bytes of Encode, none where there is an error. -/
def jcZ (Al bd : Int) (F : Tg) : List Int := if encJE Al bd F = 0 then encJ Al bd F else []
theorem jcZ_len (Al bd : Int) (F : Tg) : (jcZ Al bd F).length ≤ 1048576 := by
  unfold jcZ
  split
  · rename_i h
    unfold encJE at h
    by_cases h1 : tgE Al F = 0
    · rw [if_neg (by simpa using h1)] at h
      by_cases h2 : bndB bd = false
      · rw [if_pos h2] at h
        exact absurd h (by decide)
      · rw [if_neg h2] at h
        by_cases h3 : 1048576 < (encJ Al bd F).length
        · rw [if_pos h3] at h
          exact absurd h (by decide)
        · omega
    · rw [if_pos h1] at h
      exact absurd h h1
  · simp
theorem JcPost.zs {Al bd : Int} {F : Tg} {w w' : World} {e : Ending} (h : JcPost Al bd F w e w') :
    ∃ (A : Option Addr) (n c : Nat), e = .returned (.tuple #[.slice A n c, .int .i64 (encJE Al bd F)]) ∧ (jcZ Al bd F).length = n ∧ n ≤ 1048576 ∧ Sees w' w'.heap.size A (cellsU8 (jcZ Al bd F)) ∧ Below w.heap.size w w' := by
  obtain ⟨A, n, c, rfl, h0, h1, hb⟩ := h
  have hl := jcZ_len Al bd F
  by_cases hz : encJE Al bd F = 0
  · obtain ⟨hn, ho⟩ := h0 hz
    have hj : jcZ Al bd F = encJ Al bd F := by unfold jcZ; rw [if_pos hz]
    rw [hj] at hl
    refine ⟨A, n, c, rfl, by rw [hj]; exact hn.symm, by omega, by rw [hj]; exact Sees.own ho, hb⟩
  · obtain ⟨rfl, rfl, rfl⟩ := h1 hz
    have hj : jcZ Al bd F = [] := by unfold jcZ; rw [if_neg hz]
    refine ⟨none, 0, 0, rfl, by rw [hj]; rfl, by omega, by rw [hj]; exact Sees.nil_ _ _ _, hb⟩
theorem zero_tg (w : World) (lo B : Nat) : TgAt w lo B none 0 0 [] [] := ⟨rfl, ⟨fun _ => rfl, Nat.le_refl _, Nat.zero_le _⟩, Far.none _, Sees.nil_ _ _ _, ⟨rfl, fun k h f e => by simp at e⟩⟩
set_option maxRecDepth 100000 in
set_option maxHeartbeats 8000000 in
theorem jelaw_walk (A0 : Option Addr) (n0 c0 : Nat) (zs0 : List Int) (bd : Int) (w : World)
    (hA : Hid (A0 = none → c0 = 0)) (hn : Hid (zs0.length = n0)) (hnc : n0 ≤ c0) (hm : n0 ≤ 9223372036854775807) (hs : Hid (Sees w w.heap.size A0 (cellsU8 zs0))) (hz : Hid (∀ z ∈ zs0, 0 ≤ z ∧ z ≤ 255)) (hTab : Hid (Tab w)) :
    Calls Tryd.prog 8 #[.slice A0 n0 c0, .int .i64 bd] w fun e w' => e = .returned (.bool true) ∧ Below w.heap.size w w' := by
  go_enter Tryd.func8, Tryd.ntmps8
  go_wp2_with fail
  refine (awake11_any w hTab).mono ?_
  rintro e w1 ⟨rfl, hb1⟩
  have HB1 := hide hb1
  have cn := new_any A0 n0 c0 zs0 250 w1 hA hn hnc hm (by omega) (hide ((hs.out.below hb1).more hb1.size)) hz
  rw [show ((250 : Nat) : Int) = 250 from rfl] at cn
  clear hb1 hs hA hn hz
  go_wp2_with fail
  refine cn.mono ?_
  rintro e w2 ⟨rfl, hC2, hb2⟩
  obtain ⟨g, hg⟩ : ∃ g, w1.heap.size = g := ⟨_, rfl⟩
  have HB2 := hide (below_call HB1.out hb2)
  have hwg : w.heap.size ≤ g := by rw [← hg]; exact HB1.out.size
  rw [hg] at hC2 ⊢
  have hgl := hC2.lt
  have cd := dtx_any g 4 10 w2 (hide hC2) (by omega) (by omega) (by omega)
  rw [show ((4 : Nat) : Int) = 4 from rfl, show ((10 : Nat) : Int) = 10 from rfl] at cd
  clear hb2 cn hg hC2
  go_wp2_with fail
  refine cd.mono ?_
  rintro e w3 ⟨F, A, n, c, hh, G, rfl, htg, hn1, hn2, hFl, hgd, hap, h16, hsv, hC3, hG3⟩
  have hfg := (draw_fg hgd (by omega) (by omega) hap hsv).2.2
  have HI3 := hide (show ∀ f ∈ G, ImmL f.code from fun q hq x hx => (hfg q hq).imm x hx)
  have HL3 := hide (show ∀ q ∈ G, 1 ≤ q.code.length ∧ q.code.length ≤ 1024 from fun q hq => ⟨closed_some (hfg q hq).cl, (hfg q hq).n⟩)
  clear hfg
  obtain ⟨al, hal⟩ : ∃ a, alP F n = a := ⟨_, rfl⟩
  rw [hal]
  obtain ⟨P, hP⟩ : ∃ P, w3.heap.size = P := ⟨_, rfl⟩
  obtain ⟨W4, hW4⟩ : ∃ V, w3.alloc (.cells #[.int .i64 al, .slice A n c] 62) = V := ⟨_, rfl⟩
  have HW4 := hide hW4
  have HPP := hide hP
  have hb3 : Below w.heap.size w w3 := below_grown HB2.out hG3 hwg HB2.out.size
  have h34 : Below w3.heap.size w3 W4 := by rw [← hW4]; exact below1 w3 _
  have B4 := hide (below_call hb3 h34)
  have R4 := hide (show Row W4 P 62 [.int .i64 al, .slice A n c] by rw [← hW4, ← hP]; exact Row.new w3 _ _)
  have G4 := hide (htg.call h34)
  have C4 := hide (hC3.below h34)
  have hs34 := h34.size
  have hs23 := hG3.size
  have hgP : g < P := by omega
  have co := fun q => otgi_any g w2.heap.size al A n c hh G (W4.drewN q) (hide (Codes.drewN C4.out q)) (hide (G4.out.drewN q)) hn1 (by omega) HL3 hgl (by show w2.heap.size ≤ W4.heap.size; omega)
  clear hal hP hW4 hb3 htg hG3 hgd hap h16 hsv cd HB2 HB1 hC3 h34
  go_upto_region 5 with (fail)
  rw [HW4.out, HPP.out]
  clear HW4 HPP
  have p0 := R4.out.cell (k := 0) rfl
  have p1 := R4.out.cell (k := 1) rfl
  go_region_held3 (fun w' => w'.cell? ⟨P, 0, none⟩ = some (.int .i64 al) ∧ w'.cell? ⟨P, 1, none⟩ = some (.slice A n c)) (first | go_keep | exact m5)
    (first | (go_at_call 21; refine (co _).mono ?_; rintro e w5 ⟨Ly, Ay, cy, hy, Gy, rfl, hty, -, hG5, hi5⟩; have R5 := hide ((R4.out.drewN _).grown hG5 (fun e => by injection e with e; omega)); have m5 := (⟨R5.out.cell (k := 0) rfl, R5.out.cell (k := 1) rfl⟩ : w5.cell? ⟨P, 0, none⟩ = some (.int .i64 al) ∧ w5.cell? ⟨P, 1, none⟩ = some (.slice A n c)); have HY5 := hide hty; have HG5 := hide hG5; have HI5 := hide hi5; clear hty hG5 hi5))
  obtain ⟨Z, hZ⟩ : ∃ Z, w5.heap.size = Z := ⟨_, rfl⟩
  obtain ⟨wl, hwl⟩ : ∃ wl, w5.alloc (.cells #[.int .i64 al, .slice A n c, .int .i64 Ly, .slice Ay n cy, .int .i64 0, .slice none 0 0] 62) = wl := ⟨_, rfl⟩
  have b56 : Below w5.heap.size w5 wl := by rw [← hwl]; exact below1 w5 _
  have RZ := hide (show Row wl Z 62 [.int .i64 al, .slice A n c, .int .i64 Ly, .slice Ay n cy, .int .i64 0, .slice none 0 0] by rw [← hwl, ← hZ]; exact Row.new w5 62 [.int .i64 al, .slice A n c, .int .i64 Ly, .slice Ay n cy, .int .i64 0, .slice none 0 0])
  have B5 : Below w.heap.size w w5 := below_grown (below_draws B4.out 1) HG5.out hwg (below_draws B4.out 1).size
  have BL := hide (below_call B5 b56)
  have hT2 := (G4.out.drewN 1).grown HG5.out hgl (Nat.le_refl _)
  have TGS := hide (fun (k : Nat) (hk : k < 3) => (show ∃ (Al : Int) (A : Option Addr) (n c : Nat) (hs : List Fd) (F : Tg) (lo : Nat), wl.cell? ⟨Z, k * 2, none⟩ = some (.int .i64 Al) ∧ wl.cell? ⟨Z, k * 2 + 1, none⟩ = some (.slice A n c) ∧ TgAt wl lo wl.heap.size A n c hs F ∧ ImmT F from by
    rcases (show k = 0 ∨ k = 1 ∨ k = 2 by omega) with rfl | rfl | rfl
    · exact ⟨_, _, _, _, _, _, _, RZ.out.cell (k := 0) rfl, RZ.out.cell (k := 1) rfl, (hT2.more HG5.out.size (Nat.le_refl _)).call b56, HI3.out⟩
    · exact ⟨_, _, _, _, _, _, _, RZ.out.cell (k := 2) rfl, RZ.out.cell (k := 3) rfl, HY5.out.call b56, HI5.out HI3.out⟩
    · exact ⟨_, _, _, _, _, _, 0, RZ.out.cell (k := 4) rfl, RZ.out.cell (k := 5) rfl, zero_tg _ _ _, fun f hf => by cases hf⟩))
  have HWL := hide hwl
  have HZ := hide hZ
  clear hwl hZ b56 B5 hT2 HY5 HG5 HI5 HI3 HL3 G4 C4 R4 R5 RZ co m5
  go_upto_region 6 with (fail)
  rw [HWL.out, HZ.out]
  clear HWL HZ
  go_loopw [8, 10, 11, 12, 13, 14, 28] (fun _ _ _ _ _ _ iv wr => ∃ i : Nat, i ≤ 3 ∧ iv = .int .i64 (i : Int) ∧ Hid (Below wl.heap.size wl wr)) (fun _ _ _ _ _ _ iv _ => 3 - (intOf iv).toNat)
  case atStart => exact ⟨0, by omega, rfl, hide (Below.refl _ _)⟩
  case round =>
    obtain ⟨i, hi3, rfl, hbr⟩ := hrel
    by_cases hlt : i < 3
    · have hiz : (0 : Int) ≤ (i : Int) := by omega
      have hiz2 : (i : Int) < 3 := by omega
      obtain ⟨Al, Ax, nx, cx, hx, Fx, lo, q0, q1, hTx, hIx⟩ := TGS.out i hlt
      have z0 := keep_cellB hbr.out q0
      have z1 := keep_cellB hbr.out q1
      have HTx := hide (hTx.call hbr.out)
      have HIx := hide hIx
      clear q0 q1 hTx hIx
      go_upto_region 8 with (fail)
      obtain ⟨wx, hwx⟩ : ∃ wx, wr.alloc (.cells #[.int .i64 Al, .slice Ax nx cx] 62) = wx := ⟨_, rfl⟩
      obtain ⟨X, hX⟩ : ∃ X, wr.heap.size = X := ⟨_, rfl⟩
      have RX := hide (show Row wx X 62 [.int .i64 Al, .slice Ax nx cx] by rw [← hwx, ← hX]; exact Row.new wr _ _)
      have bx : Below wr.heap.size wr wx := by rw [← hwx]; exact below1 wr _
      have BX := hide (below_call hbr.out bx)
      have TX := hide (HTx.out.call bx)
      rw [hwx, hX]
      clear hwx hX bx HTx hbr z0 z1
      obtain ⟨N2, hN2⟩ : ∃ N, bd % 1000 = N := ⟨_, rfl⟩
      have cm := mod_any bd 1000 wx (by omega) (by omega)
      rw [hN2] at cm
      clear hN2
      go_wp2_with fail
      refine cm.mono ?_
      rintro e w' ⟨rfl, rfl⟩
      clear cm
      go_upto_region 9 with (fail)
      obtain ⟨wn, hwn⟩ : ∃ wn, wx.alloc (.cells #[.int .i64 bd, .int .i64 N2] 3) = wn := ⟨_, rfl⟩
      obtain ⟨Y, hY⟩ : ∃ Y, wx.heap.size = Y := ⟨_, rfl⟩
      have RN := hide (show Row wn Y 3 [.int .i64 bd, .int .i64 N2] by rw [← hwn, ← hY]; exact Row.new wx _ _)
      have bn : Below wx.heap.size wx wn := by rw [← hwn]; exact below1 wx _
      have BN := hide (below_call BX.out bn)
      have TN := hide (TX.out.call bn)
      have RXN := hide (RX.out.call bn)
      rw [hwn, hY]
      clear hwn hY bn TX RX
      have NS := hide (show ∀ k : Nat, k < 2 → ∃ N : Int, wn.cell? ⟨Y, k, none⟩ = some (.int .i64 N) from fun k hk => by
        rcases (show k = 0 ∨ k = 1 by omega) with rfl | rfl
        · exact ⟨_, RN.out.cell (k := 0) rfl⟩
        · exact ⟨_, RN.out.cell (k := 1) rfl⟩)
      go_loopw [10, 11, 12, 13, 14, 37] (fun _ _ _ _ _ iv wr => ∃ k : Nat, k ≤ 2 ∧ iv = .int .i64 (k : Int) ∧ Hid (Below wn.heap.size wn wr)) (fun _ _ _ _ _ iv _ => 2 - (intOf iv).toNat)
      case atStart => exact ⟨0, by omega, rfl, hide (Below.refl _ _)⟩
      case round =>
        obtain ⟨k, hk2, rfl, hbq⟩ := hrel
        by_cases hltk : k < 2
        · have hkz : (0 : Int) ≤ (k : Int) := by omega
          have hkz2 : (k : Int) < 2 := by omega
          obtain ⟨N, qN⟩ := NS.out k hltk
          have z0 := keep_cellB hbq.out qN
          have RQ := hide (RXN.out.call hbq.out)
          have x0 := RQ.out.cell (k := 0) rfl
          have x1 := RQ.out.cell (k := 1) rfl
          have TQ := hide (TN.out.call hbq.out)
          have BQ := hide (BL.out.trans ((BN.out.trans (hbq.out.mono BN.out.size)).mono BL.out.size))
          have ce := jencode_any Al N Ax nx cx hx Fx lo wr TQ HIx (hide (hTab.out.below BQ.out))
          clear qN
          go_wp2_with fail
          refine ce.mono ?_
          intro e wa hpa
          obtain ⟨Aa, na, ca, rfl, hla, hna, hsa, hba⟩ := hpa.zs
          have HSA := hide hsa
          have HLA := hide hla
          have BA := hide (hbq.out.trans (hba.mono hbq.out.size))
          have RA := hide (RQ.out.call hba)
          have TA := hide (TQ.out.call hba)
          clear hpa hla hsa hba ce z0 x0 x1
          have x0 := RA.out.cell (k := 0) rfl
          have x1 := RA.out.cell (k := 1) rfl
          have cr := rencode_any Al N Ax nx cx hx Fx lo wa TA HIx
          go_wp2_with fail
          refine cr.mono ?_
          intro e wb hpb
          obtain ⟨Ab, nb, cb, rfl, hlb, hnb, hsb, hbb⟩ := hpb.zs
          obtain ⟨E, hE⟩ : ∃ E, encJE Al N Fx = E := ⟨_, rfl⟩
          obtain ⟨ys, hys⟩ : ∃ ys, jcZ Al N Fx = ys := ⟨_, rfl⟩
          rw [hE]
          rw [hys] at hlb hsb HSA HLA
          have hnn : nb = na := by have := HLA.out; omega
          have BB := hide (BA.out.trans (hbb.mono BA.out.size))
          have cs := same_any Aa Ab na ca nb cb ys wb.heap.size wb HLA (hide hnn) (by omega) ((HSA.out.below hbb).more hbb.size) hsb
          have hEE : (E != E) = false := by simp
          clear hpb hlb hsb hbb cr hE hys x0 x1 hnn
          go_wp2_with fail
          refine cs.mono ?_
          rintro e w9 ⟨rfl, q, rfl⟩
          have HN := hide (below_draws BB.out q)
          clear cs
          go_wp2_with fail
          go_roundw
          case rel => exact ⟨k + 1, by omega, by go_num, HN⟩
          case measure => simp [intOf]; omega
        · obtain rfl : k = 2 := by omega
          have hlz : ¬ (((2 : Nat) : Int) < 2) := by omega
          have HN := hide (BN.out.trans (hbq.out.mono BN.out.size))
          clear hltk
          go_wp2_with fail
          go_roundw
          case rel => exact ⟨i + 1, by omega, by go_num, HN⟩
          case measure => simp [intOf]; omega
    · obtain rfl : i = 3 := by omega
      have hlz : ¬ (((3 : Nat) : Int) < 3) := by omega
      have FIN := hide (BL.out.trans (hbr.out.mono BL.out.size))
      clear hlt
      go_wp2_with fail
      go_ret
      exact ⟨rfl, FIN.out⟩
end Go.Proofs.YtafegghdhdgioaaDoor
end

section
/-
  From the walk of a law to its row: a law that returns true and leaves all that was in memory as it was meets 'true; the input reads as it did'; what a slice of bytes that came in gives. No function of the program is named here.
-/
namespace Go.Proofs.YtafegghdhdgioaaDoor
open Go.ChangeShapes Go.WideShapes Go.ChangeAt Go.RowKit

theorem bounds_u64 {n : Int} (h : (Lit.int .u64 n).wf = true) : 0 ≤ n ∧ n ≤ 18446744073709551615 := by
  simp [Lit.wf, IntKind.min, IntKind.max, IntKind.signed, IntKind.bits] at h
  omega

section
variable {H : Type} {enc : TypeId × Value → H} {P : Program}

theorem trodAll_after (hl : laidOutB P = true) {W W' : World} (hb : Below W.heap.size W W') : ∀ (ts : List TypeId) (vs : List Value) (ds : List (DataW H)) (ps : List MemPlace),
    (∀ t ∈ ts, P.readableRec t = true ∧ t < P.types.size) → DataW.TrodAll enc P W 0 (fun _ => true) true ts vs ds ps → (∀ x ∈ ps, x.block < W.heap.size) →
    DataW.TrodAll enc P W' 0 (fun b => decide (b < W.heap.size)) true ts vs ds ps := by
  intro ts
  induction ts with
  | nil => intro vs ds ps _ h _
           rcases vs with _ | ⟨v, vs⟩ <;> rcases ds with _ | ⟨d, ds⟩ <;> simp_all [DataW.TrodAll]
  | cons t ts ih =>
    intro vs ds ps hr h hlt
    rcases vs with _ | ⟨v, vs⟩
    · simp [DataW.TrodAll] at h
    rcases ds with _ | ⟨d, ds⟩
    · simp [DataW.TrodAll] at h
    obtain ⟨p, q, h1, h2, rfl⟩ := h
    have ht := hr t List.mem_cons_self
    exact ⟨p, q, Below.trod hl ht.1 ht.2 h1 hb (fun x hx => hlt x (List.mem_append_left _ hx)), ih vs ds q (fun t' h' => hr t' (List.mem_cons_of_mem _ h')) h2 (fun x hx => hlt x (List.mem_append_right _ hx)), rfl⟩

/-- What a law's row asks at the end. -/
theorem law_post {f : Func} {s : ChangeSpec} {apart : Bool} {W W' : World} {args : Array Value} {ds gs : List (DataW H)} {before : List MemPlace} {tb : TypeId} (hl : laidOutB P = true)
    (hp : ∀ t ∈ f.params.toList, P.readableRec t = true ∧ t < P.types.size) (hv : s.vars = []) (hr : f.resultTypes = #[tb]) (hb : P.underlying tb = some .bool)
    (hs : s.fn H ds = { results := [.lit (.bool true)], args := ds, vars := [] })
    (hW : DataW.Whole enc P f.params.toList s.vars apart W args.toList ds gs before) (hB : Below W.heap.size W W') :
    s.post enc P f apart true false false W args (.bool true) W' := by
  have hW' := hW
  obtain ⟨p, q, hA, hV, rfl, hfz, hnd⟩ := hW
  rw [hv] at hV
  obtain ⟨rfl, rfl⟩ := trodVars_none hV
  have e : s.fn H (ds ++ []) = { results := [.lit (.bool true)], args := ds, vars := [] } := by rw [List.append_nil]; exact hs
  refine ⟨ds, [], p ++ [], [], p, [], hW', ?_, ?_, ?_, hB.frame _, fun h => by cases h⟩
  · rw [e, hr]
    exact trodAll_mk1 (shut_bool hb _)
  · rw [e]
    exact trodAll_after hl hB _ _ _ _ hp hA (fun x hx => hW'.lt x (List.mem_append_left _ hx))
  · rw [e, hv]
    rfl

/-- What a slice of bytes that came in gives. -/
theorem open_u8s {W : World} {base : Nat} {t e : TypeId} {v : Value} {d : DataW H} {p : List MemPlace} (ht : P.underlying t = some (.slice e)) (he : P.underlying e = some (.int .u8)) (hc : P.cellsOf e = 1)
    (hval : Value.okWide P W .any base t v) (h : DataW.Trod enc P W 0 (fun _ => true) true t v d p) :
    ∃ (A : Option Addr) (n c : Nat) (zs : List Int), v = .slice A n c ∧ (A = none → c = 0) ∧ zs.length = n ∧ n ≤ 9223372036854775807 ∧ Sees W W.heap.size A (cellsU8 zs) ∧ (∀ z ∈ zs, 0 ≤ z ∧ z ≤ 255) ∧ n ≤ c := by
  obtain ⟨a1, len, cap, rfl⟩ := okWide_slice ht hval
  obtain ⟨fuel, hf⟩ := h
  rcases open_ints ht he hc hf with ⟨hcs, hx⟩ | ⟨a, len', cap', zs, hcs, _, hlc, hm, hz, hx, hcell, hwz⟩
  · simp [Value.cells] at hcs
    obtain ⟨rfl, rfl, rfl⟩ := hcs
    exact ⟨none, 0, 0, [], rfl, fun _ => rfl, rfl, by omega, Sees.nil_ _ _ _, fun z hz => (by cases hz), Nat.le_refl _⟩
  · simp [Value.cells] at hcs
    obtain ⟨rfl, rfl, rfl⟩ := hcs
    simp only [if_true] at hz
    have hlen : (zs.take len).length = len := by simp; omega
    refine ⟨some a, len, cap, zs.take len, rfl, fun hn => by simp at hn, hlen, by unfold maxLen at hm; omega, ?_, fun z hz' => ?_, hlc⟩
    · intro k u hu
      have hk : k < len := by
        rcases Nat.lt_or_ge k len with h1 | h1
        · exact h1
        · rw [List.getElem?_eq_none (by simp [cellsU8]; omega)] at hu; simp at hu
      rw [get_u8 (by omega)] at hu
      have hu' : u = .int .u8 (zs.getD k 0) := by
        injection hu with hu
        rw [← hu]
        simp [hk]
      subst hu'
      obtain ⟨ab, ao, spot⟩ := a
      have h0 := hcell 0 (by omega)
      have hspot : spot = none := by simpa [Addr.add] using World.cell?_spot h0
      subst hspot
      have hck := hcell k (by omega)
      rw [WideShapes.add_plain] at hck
      exact ⟨ab, ao, rfl, World.block_lt_of_cell? _ _ hck, hck⟩
    · have := bounds_u8 (hwz z (List.mem_of_mem_take hz'))
      exact ⟨by omega, by omega⟩
end
end Go.Proofs.YtafegghdhdgioaaDoor
end
