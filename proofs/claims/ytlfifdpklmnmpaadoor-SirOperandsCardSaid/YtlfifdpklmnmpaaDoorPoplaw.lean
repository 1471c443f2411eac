/-
  The walk of the law on operands. Conditions: those of the types; the table of operations lies as its initialiser lays it.
-/
import Derived.Test.YtlfifdpklmnmpaaDoorPopm
import Derived.Test.YtlfifdpklmnmpaaDoorPset
import Derived.Test.YtlfifdpklmnmpaaDoorPsame
import Derived.Test.YtlfifdpklmnmpaaDoorPcheck
import Derived.Test.YtlfifdpklmnmpaaDoorPawake
import Derived.Test.YtlfifdpklmnmpaaDoorMod
import Derived.Test.YtlfifdpklmnmpaaDoorDprog
namespace Go.Proofs.YtlfifdpklmnmpaaDoor
open Go.RowKit

/-- What stands in front of the loop: the program, the function, the places. -/
structure Setup (w : World) (wl : World) (A : Option Addr) (n c : Nat) (hs : List Hd) (F : Pg) (i k : Nat) (P : Int) (A1 : Option Addr) (n1 c1 : Nat) (A2 : Option Addr) (n2 c2 : Nat) (f : Fn) (x : Ins) (X1 X2 : Nat) : Prop where
  pg : PgAt wl 0 wl.heap.size A n c hs F
  ok : pgE F = 0
  fi : F[i]? = some f
  hi : hs[i]? = some ⟨P, A1, n1, c1, A2, n2, c2⟩
  hd : HdAt wl 0 wl.heap.size ⟨P, A1, n1, c1, A2, n2, c2⟩ f
  xk : f.code[k]? = some x
  r1 : Row wl X1 28 [.slice A n c]
  r2 : Row wl X2 34 [.int .i64 P, .slice A1 n1 c1, .slice A2 n2 c2]
  sh : Shapes wl
  lo : w.heap.size ≤ wl.heap.size
theorem five_bounds {N : Nat} {f : Fn} {x : Ins} (hN : N ≤ 80) (hf : fnE N f = 0) (hx : x ∈ f.code) : ((0 ≤ x.op ∧ x.op < 25) ∧ (0 ≤ x.a ∧ x.a ≤ 1024) ∧ (0 ≤ x.b ∧ x.b ≤ 1024) ∧ (0 ≤ x.c ∧ x.c ≤ 1024)) ∧ (f.slots.length ≤ 512 ∧ f.params ≤ 8 ∧ f.code.length ≤ 1024) ∧ insE N f x = 0 := by
  obtain ⟨h1, h2, h3, h4, h5⟩ := fnE_zero.1 hf
  have hs : f.slots.length ≤ 512 := by
    rcases Nat.lt_or_ge 512 f.slots.length with h | h
    · rw [slotsE_many h] at h2; cases h2
    · exact h
  exact ⟨ins_bounds hN hs h3.2 h1 (h4 x hx), ⟨hs, h3.2, h1⟩, h4 x hx⟩

set_option maxRecDepth 100000 in
set_option maxHeartbeats 20000000 in
theorem oplaw_walk (A0 : Option Addr) (n0 c0 : Nat) (zs : List Int) (at_ : Int) (w : World) (hA : A0 = none → c0 = 0) (hn : zs.length = n0) (hnc : n0 ≤ c0) (hm : n0 ≤ 9223372036854775807) (hs : Sees w w.heap.size A0 (cellsU8 zs)) (hz : ∀ z ∈ zs, 0 ≤ z ∧ z ≤ 255) (hT : Hid (Shapes w)) :
    Calls Tryd.prog 3 #[.slice A0 n0 c0, .int .i64 at_] w fun e w' => e = .returned (.bool true) ∧ Below w.heap.size w w' := by
  obtain ⟨i0, hi, hz0, hz1, hz2⟩ := info_parts Tryd.info38
  obtain ⟨j0, ji, jz0, jz1, jz2⟩ := info_parts Tryd.info34'
  have cn := new_any A0 n0 c0 zs 200 w (hide hA) (hide hn) hnc hm (by omega) (hide hs) (hide hz)
  have CN := hide cn
  clear cn hA hn hnc hm hs hz
  go_enter Tryd.func3, Tryd.ntmps3
  go_wp2_with fail
  refine (awake_any _).mono ?_
  rintro e w' ⟨rfl, rfl⟩
  go_wp2_with fail
  refine (CN.out).mono ?_
  rintro e w1 ⟨rfl, hC1, hb1⟩
  have HC1 := hide hC1
  have HB1 := hide hb1
  have hw1 : w.heap.size < w1.heap.size := hC1.lt
  clear hC1 hb1 CN
  go_wp2_with fail
  refine (prog_any w.heap.size 3 10 w1 HC1 (by omega) (by omega) (by omega)).mono ?_
  rintro e w2 ⟨A, n, c, hs, F, rfl, hpg, hgood, hC2, hG2⟩
  have hB2 := below_grown HB1.out hG2 (Nat.le_refl _) (by omega)
  have HPG := hide hpg
  have HGD := hide hgood
  have HC2 := hide hC2
  have HB2 := hide hB2
  have hw2 : w1.heap.size ≤ w2.heap.size := hG2.size
  have hlen : F.length = n := hpg.len
  have hn1 : 1 ≤ n := by have := hgood.one; omega
  have hn80 : n ≤ 80 := by have := hgood.few; omega
  have HLEN := hide hlen
  clear hpg hgood hC2 hB2 hG2 hlen HC1 HB1
  have r1 := Row.new w2 28 [.slice A n c]
  have HR1 := hide r1
  have HC2' := hide (HC2.out.alloc (.cells #[.slice A n c] 28))
  have HPG' := hide (HPG.out.alloc (.cells #[.slice A n c] 28))
  have HB2' := hide (HB2.out.alloc (by have := HB2.out.size; omega) (.cells #[.slice A n c] 28))
  clear r1 HC2 HPG HB2
  go_wp2_with fail
  refine (next_any w.heap.size (n : Int) _ HC2' (by omega) (by omega)).mono ?_
  rintro e w3 ⟨v, rfl, v0, v1, hC3, hG3, hz3⟩
  obtain ⟨i, rfl⟩ := Int.eq_ofNat_of_zero_le v0
  have hin : i < n := by omega
  have hw3 : w2.heap.size + 1 ≤ w3.heap.size := by have := hG3.size; simpa using this
  have hpg3 : PgAt w3 w1.heap.size w3.heap.size A n c hs F := (HPG'.out.grown hG3 hw1 (Nat.le_refl _)).more hG3.size (Nat.le_refl _)
  have r3 := HR1.out.grown hG3 (fun e => by injection e with e; omega)
  have hB3 := below_grown HB2'.out hG3 (Nat.le_refl _) (by simp; omega)
  obtain ⟨b, off, P, A1, n1, c1, A2, n2, c2, f, rfl, hbB, hfi, hhi, hhd, p0, p1, p2⟩ := fn_at hpg3 hin
  have x0 := r3.cell (k := 0) rfl
  have hcode : f.code.length = n2 := hhd.l2
  have hfg := HGD.out.fn i f hfi
  have hn2 : 1 ≤ n2 := by have := hfg.1.some; omega
  have hn2' : n2 ≤ 57 := by have := hfg.1.short; omega
  have HPG3 := hide hpg3
  have HR3 := hide r3
  have HB3 := hide hB3
  have HFI := hide hfi
  have HHI := hide hhi
  have HHD := hide hhd
  have HE := hide hfg.1.err
  have hm := mod_any at_ (n2 : Int)
  have hm0 := Int.emod_nonneg at_ (show (n2 : Int) ≠ 0 by omega)
  have hm1 := Int.emod_lt_of_pos at_ (show 0 < (n2 : Int) by omega)
  obtain ⟨kz, hkz⟩ : ∃ kz, at_ % (n2 : Int) = kz := ⟨_, rfl⟩
  rw [hkz] at hm hm0 hm1
  obtain ⟨k, rfl⟩ := Int.eq_ofNat_of_zero_le hm0
  have HM := hide (fun W => hm W (by omega) (by omega))
  have hkn : k < f.code.length := by omega
  have HX := hide (List.getElem?_eq_getElem hkn)
  obtain ⟨x, hx⟩ : ∃ x, f.code[k] = x := ⟨_, rfl⟩
  rw [hx] at HX
  have HMEM := hide (show x ∈ f.code from hx ▸ List.getElem_mem hkn)
  have HCODE := hide hcode
  clear hC3 hG3 hz3 hpg3 r3 hB3 hfi hhi hhd hfg hm hkz hx hcode HR1 HC2' HPG' HB2'
  have hbw : b < w3.heap.size := by omega
  have hiz : (i : Int) < (n : Int) := by omega
  have hiz0 : (0 : Int) ≤ (i : Int) := by omega
  go_wp2_with fail
  refine (HM.out _).mono ?_
  rintro e w' ⟨rfl, rfl⟩
  obtain ⟨wl, hwl⟩ : ∃ wl, w3.alloc (.cells #[.int .i64 P, .slice A1 n1 c1, .slice A2 n2 c2] 34) = wl := ⟨_, rfl⟩
  have HS : Hid (Setup w wl (some ⟨b, off, none⟩) n c hs F i k P A1 n1 c1 A2 n2 c2 f x w2.heap.size w3.heap.size) := by
    refine hide ⟨?_, HGD.out.err, HFI.out, HHI.out, ?_, HX.out, ?_, ?_, ?_, ?_⟩
    · rw [← hwl]; exact (HPG3.out.alloc _).more (Nat.le_refl _) (Nat.zero_le _)
    · rw [← hwl]; exact (HHD.out.below (below1 _ _)).more (by simp) (Nat.zero_le _)
    · rw [← hwl]; exact HR3.out.alloc _
    · rw [← hwl]; exact Row.new _ _ _
    · rw [← hwl]; exact hT.out.keep (HB3.out.alloc (by omega) _) hT.out.pos
    · rw [← hwl]; simp; omega
  have HBL : Hid (Below w.heap.size w wl) := hide (by rw [← hwl]; exact HB3.out.alloc (by omega) _)
  rw [hwl]
  have hX1 : w2.heap.size < wl.heap.size := by rw [← hwl]; simp; omega
  have hX2 : w3.heap.size < wl.heap.size := by rw [← hwl]; simp
  clear hwl HPG3 HR3 HB3 HFI HHI HHD HX HM HGD x0 p0 p1 p2 hbB hbw
  go_wp2_with fail
  go_loopw [10] (fun jv wr => ∃ j : Int, 0 ≤ j ∧ j ≤ 4 ∧ jv = .int .i64 j ∧ Hid (Below wl.heap.size wl wr)) (fun jv _ => (4 - intOf jv).toNat)
  case atStart => exact ⟨0, by omega, by omega, rfl, hide (Below.refl _ _)⟩
  case round =>
    obtain ⟨j, hj0, hj4, rfl, hbr⟩ := hrel
    have y0 := (HS.out.r1.call hbr.out).cell (k := 0) rfl
    by_cases hlt : j < 4
    · have y2 := (HS.out.r2.call hbr.out).cell (k := 2) rfl
      have hwr : wl.heap.size ≤ wr.heap.size := hbr.out.size
      have hsc : Sees wr wl.heap.size A2 (icells f.code) := HS.out.hd.s2.below hbr.out
      have HSC := hide hsc
      have HK2 := hide HS.out.hd.k2
      clear hsc
      go_wp2_with (at_builtin; refine wpList_append_seesN rfl (.const (.slice none 0 0)) (.tmp 39) 32 rfl wr.heap.size 38 i0 (.agg #[.int .i64 0, .int .i64 0, .int .i64 0, .int .i64 0, .int .u64 0]) 5 40 Tryd.underlying32 hi hz0 hz1 hz2 rfl (by decide) (.slice none 0 0) 0 [] rfl (World.ownsRow_nil _ _ _ _) wl.heap.size A2 n2 c2 (icells f.code) rfl (hide HK2.out.1) (hide (by rw [icells_length, HCODE.out])) HSC (hide HK2.out.2.1) (icells_oneCell _) (by unfold maxLen; omega) (by omega) (Nat.le_refl _) ?_)
      intro v1 w4 ho1 hg1
      obtain ⟨G, cG, rfl, hGb, hGl, hGc, _⟩ := own_block ho1 (by omega)
      have HO1 := hide ho1
      have hB4 := hbr.out.grown hg1 hwr (fun j hj => by cases hj)
      have HB4 := hide hB4
      have hw4 : wr.heap.size ≤ w4.heap.size := hg1.size
      obtain ⟨⟨u0, u1, u2, u3, u4⟩, fz⟩ := ins_row ho1 HS.out.xk
      have z0 := fz (k * 5)
      have z1 := fz (k * 5 + 1)
      have z2 := fz (k * 5 + 2)
      have z3 := fz (k * 5 + 3)
      have y0' := (HS.out.r1.call hB4).cell (k := 0) rfl
      obtain ⟨⟨⟨o0, o1⟩, ⟨a0, a1⟩, ⟨b0, b1⟩, ⟨d0, d1⟩⟩, ⟨hs5, hp8, hc10⟩, hie⟩ := five_bounds (by have := HLEN.out; omega) HE.out HMEM.out
      have hN80 : F.length ≤ 80 := by have := HLEN.out; omega
      have HIE := hide hie
      clear ho1 hg1 hB4 fz hie y0 y2
      obtain ⟨op, a, bb, d, m⟩ := x
      simp only at u0 u1 u2 u3 u4 o0 o1 a0 a1 b0 b1 d0 d1
      have hkz0 : (0 : Int) ≤ (k : Int) := by omega
      have hkz1 : (k : Int) < (n2 : Int) := by omega
      rcases (show j = 0 ∨ j = 1 ∨ j = 2 ∨ j = 3 by omega) with rfl | rfl | rfl | rfl
      · have hz5 : (w4.setCell ⟨G, k * 5 + 1, none⟩ (.int .i64 (a + 1048576))).heap.size = w4.heap.size := by simp [World.setCell]
        have ho5 := (HO1.out.stored (k * 5 + 1) (.int .i64 (a + 1048576))).1
        rw [iset1 HS.out.xk] at ho5
        have hB5 := HB4.out.setCell (p := ⟨G, k * 5 + 1, none⟩) (by simp; omega) (.int .i64 (a + 1048576))
        have y5 := (HS.out.r1.call hB5).cell (k := 0) rfl
        obtain ⟨w5, hw5⟩ : ∃ w5, w4.setCell ⟨G, k * 5 + 1, none⟩ (.int .i64 (a + 1048576)) = w5 := ⟨_, rfl⟩
        rw [hw5] at hz5 ho5 hB5 y5
        have HO5 := hide ho5
        have HB5 := hide hB5
        have HZ5 := hide hz5
        have HW5 := hide hw5
        have HBAD := hide (set_bad (x' := ⟨op, a + 1048576, bb, d, m⟩) HS.out.fi HS.out.xk (by have := bad_a hN80 hs5 hp8 hc10 HIE.out; exact this) (fun e => by rw [ins_eq] at e; simp only at e; omega))
        clear hz5 ho5 hB5 hw5 HO1 HB4
        go_upto_region 21 with (fail)
        rw [HW5.out]
        clear HW5 u0 u1 u2 u3 u4 z0 z1 z2 z3 y0'
        go_wp2_with (at_builtin; refine wpList_append_seesN rfl (.const (.slice none 0 0)) (.tmp 83) 26 rfl w5.heap.size 34 j0 (.agg #[.int .i64 0, .slice none 0 0, .slice none 0 0]) 3 56 Tryd.underlying26 ji jz0 jz1 jz2 rfl (by decide) (.slice none 0 0) 0 [] rfl (World.ownsRow_nil _ _ _ _) wl.heap.size (some ⟨b, off, none⟩) n c (hcells hs) rfl (hide HS.out.pg.cap.1) (hide (by rw [hcells_length, HS.out.pg.hd.len, HS.out.pg.len])) (hide (HS.out.pg.see.below HB5.out)) (hide HS.out.pg.cap.2.1) (hcells_oneCell _) (by unfold maxLen; omega) (by omega) (Nat.le_refl _) ?_)
        intro v2 w6 ho2 hg2
        obtain ⟨Q, cQ, rfl, hQb, hQl, hQc, _⟩ := own_block ho2 (by omega)
        obtain ⟨⟨v0, v1, v2⟩, fq⟩ := hd_row ho2 HS.out.hi
        have q2 := fq (i * 3 + 2)
        simp only at v0 v1 v2
        have ho7' := (ho2.stored (i * 3 + 2) (.slice (some ⟨G, 0, none⟩) n2 cG)).1
        rw [hset2 hs i _ HS.out.hi] at ho7'
        have ho7 := ho7'.alloc (.cells #[.slice (some ⟨Q, 0, none⟩) n cQ] 28)
        have hB6 := HB5.out.grown hg2 (by have := HZ5.out; omega) (fun j hj => by cases hj)
        have hs6 : w5.heap.size ≤ w6.heap.size := hg2.size
        have hzs : (w6.setCell ⟨Q, i * 3 + 2, none⟩ (.slice (some ⟨G, 0, none⟩) n2 cG)).heap.size = w6.heap.size := by simp [World.setCell]
        have hB7 := (hB6.setCell (p := ⟨Q, i * 3 + 2, none⟩) (by have := HZ5.out; simp; omega) (.slice (some ⟨G, 0, none⟩) n2 cG)).alloc (by rw [hzs]; have := HZ5.out; omega) (.cells #[.slice (some ⟨Q, 0, none⟩) n cQ] 28)
        have hoG := HO5.out.kept hg2 (.inr (by simp [Value.ownBlock]))
        have rq := Row.new (w6.setCell ⟨Q, i * 3 + 2, none⟩ (.slice (some ⟨G, 0, none⟩) n2 cG)) 28 [.slice (some ⟨Q, 0, none⟩) n cQ]
        rw [hzs] at rq
        have hQG : Q ≠ G := by have := HZ5.out; omega
        obtain ⟨w7, hw7⟩ : ∃ w7, (w6.setCell ⟨Q, i * 3 + 2, none⟩ (.slice (some ⟨G, 0, none⟩) n2 cG)).alloc (.cells #[.slice (some ⟨Q, 0, none⟩) n cQ] 28) = w7 := ⟨_, rfl⟩
        have hsG : Sees w7 (w6.heap.size + 1) (some ⟨G, 0, none⟩) (icells (f.code.set k ⟨op, a + 1048576, bb, d, m⟩)) := by
          rw [← hw7]
          intro k' u' hu'
          obtain ⟨b', o', e', hb', hc'⟩ := (Sees.ownN hoG) k' u' hu'
          injection e' with e'
          injection e' with e1 e2
          subst e1 e2
          exact ⟨G, 0, rfl, by omega, (World.cell?_alloc_lt _ _ _ (by rw [hzs]; exact hb')).trans ((World.cell?_setCell_other _ _ _ _ (fun e => by injection e with e; exact hQG (by omega))).trans hc')⟩
        have hz7 : w7.heap.size = w6.heap.size + 1 := by rw [← hw7]; simp [World.setCell]
        rw [hw7] at ho7 hB7 rq
        rw [← hz7] at hsG
        have hd7 : HdAt w7 0 w7.heap.size ⟨P, A1, n1, c1, some ⟨G, 0, none⟩, n2, cG⟩ ⟨f.params, f.slots, f.code.set k ⟨op, a + 1048576, bb, d, m⟩⟩ :=
          ⟨HS.out.hd.p, HS.out.hd.l1, by simp [HCODE.out], HS.out.hd.k1, ⟨(fun e => by cases e), hGc, by simp only; omega⟩, Far.zero _, Far.zero _, (HS.out.hd.s1.below hB7).more hB7.size, hsG⟩
        have hpg7 : PgAt w7 0 w7.heap.size (some ⟨Q, 0, none⟩) n cQ (hs.set i ⟨P, A1, n1, c1, some ⟨G, 0, none⟩, n2, cG⟩) (F.set i ⟨f.params, f.slots, f.code.set k ⟨op, a + 1048576, bb, d, m⟩⟩) :=
          HS.out.pg.set (fun p _ hp => hB7.cell hp) hB7.size (Nat.le_refl _) ⟨(fun e => by cases e), hQc, by omega⟩ (Far.zero _) (Sees.ownN ho7) hd7
        have hF7 : (F.set i ⟨f.params, f.slots, f.code.set k ⟨op, a + 1048576, bb, d, m⟩⟩)[i]? = some ⟨f.params, f.slots, f.code.set k ⟨op, a + 1048576, bb, d, m⟩⟩ := by rw [List.getElem?_set_self (by have := HLEN.out; omega)]
        have hX7 : (f.code.set k ⟨op, a + 1048576, bb, d, m⟩)[k]? = some ⟨op, a + 1048576, bb, d, m⟩ := by rw [List.getElem?_set_self hkn]
        obtain ⟨bad1, bad2, bad3⟩ := HBAD.out
        rw [HLEN.out] at bad1
        have k1 := chkins_any (some ⟨Q, 0, none⟩) n cQ _ _ 0 w7.heap.size i k _ ⟨op, a + 1048576, bb, d, m⟩ w7 (hide hpg7) (Nat.le_refl _) (hide (HS.out.sh.below hB7)) hin (hide hF7) (hide hX7)
        have k2 := fun W (hW : Below w7.heap.size w7 W) => check_any (some ⟨Q, 0, none⟩) n cQ _ _ 0 w7.heap.size W (hide (hpg7.below hW)) hW.size (hide ((HS.out.sh.below hB7).below hW))
        have k3 := fun W (hW : Below w7.heap.size w7 W) => same_any (some ⟨b, off, none⟩) n c hs F (some ⟨Q, 0, none⟩) n cQ _ _ 0 0 wl.heap.size w7.heap.size W (hide (HS.out.pg.below (hB7.trans (hW.mono hB7.size)))) (hide (hpg7.below hW)) (Nat.le_trans hB7.size hW.size) hW.size
        obtain ⟨e1, he1⟩ : ∃ e1, insE n ⟨f.params, f.slots, f.code.set k ⟨op, a + 1048576, bb, d, m⟩⟩ ⟨op, a + 1048576, bb, d, m⟩ = e1 := ⟨_, rfl⟩
        obtain ⟨e2, he2⟩ : ∃ e2, pgE (F.set i ⟨f.params, f.slots, f.code.set k ⟨op, a + 1048576, bb, d, m⟩⟩) = e2 := ⟨_, rfl⟩
        have he3 := decide_eq_false bad3
        rw [he1] at k1 bad1
        simp only [he2] at k2 bad2
        simp only [he3] at k3
        have K1 := hide k1
        have K2 := hide k2
        have K3 := hide k3
        have RQ := hide rq
        have HB7 := hide hB7
        have HW7 := hide hw7
        have R1 := hide (HS.out.r1.call hB7)
        have n1b : (e1 == 0) = false := by simpa using bad1
        have n2b : (e2 == 0) = false := by simpa using bad2
        clear ho2 hg2 fq ho7' ho7 hzs hB6 hB7 hoG rq hw7 hsG hd7 hpg7 hF7 hX7 bad1 bad2 bad3 k1 k2 k3 he1 he2 he3 hz7 HO5 HBAD
        go_wp2_with fail
        rw [HW7.out]
        clear HW7 v0 v1 v2 q2
        refine (K1.out).mono ?_
        rintro e w8 ⟨rfl, hb8⟩
        have g8 := (RQ.out.call hb8).cell (k := 0) rfl
        have HB8 := hide hb8
        clear hb8 K1
        go_wp2_with fail
        refine (K2.out _ HB8.out).mono ?_
        rintro e w9 ⟨rfl, hb9⟩
        have HB9 := hide (HB8.out.trans (hb9.mono HB8.out.size))
        have g9 := (RQ.out.call HB9.out).cell (k := 0) rfl
        have p9 := (R1.out.call HB9.out).cell (k := 0) rfl
        clear hb9 g8 K2 HB8
        go_wp2_with fail
        refine (K3.out _ HB9.out).mono ?_
        rintro e w10 ⟨rfl, hb10⟩
        have HB10 := hide (HB7.out.trans ((below_call HB9.out hb10).mono HB7.out.size))
        clear hb10 g9 p9 K3
        go_wp2_with fail
        go_roundw
        case rel => exact ⟨_, by omega, by omega, rfl, HB10⟩
        case measure => simp [intOf]
      · have hz5 : (w4.setCell ⟨G, k * 5 + 2, none⟩ (.int .i64 (bb + 1048576))).heap.size = w4.heap.size := by simp [World.setCell]
        have ho5 := (HO1.out.stored (k * 5 + 2) (.int .i64 (bb + 1048576))).1
        rw [iset2 HS.out.xk] at ho5
        have hB5 := HB4.out.setCell (p := ⟨G, k * 5 + 2, none⟩) (by simp; omega) (.int .i64 (bb + 1048576))
        have y5 := (HS.out.r1.call hB5).cell (k := 0) rfl
        obtain ⟨w5, hw5⟩ : ∃ w5, w4.setCell ⟨G, k * 5 + 2, none⟩ (.int .i64 (bb + 1048576)) = w5 := ⟨_, rfl⟩
        rw [hw5] at hz5 ho5 hB5 y5
        have HO5 := hide ho5
        have HB5 := hide hB5
        have HZ5 := hide hz5
        have HW5 := hide hw5
        have HBAD := hide (set_bad (x' := ⟨op, a, bb + 1048576, d, m⟩) HS.out.fi HS.out.xk (by have := bad_b hN80 hs5 hp8 hc10 HIE.out; exact this) (fun e => by rw [ins_eq] at e; simp only at e; omega))
        clear hz5 ho5 hB5 hw5 HO1 HB4
        go_upto_region 21 with (fail)
        rw [HW5.out]
        clear HW5 u0 u1 u2 u3 u4 z0 z1 z2 z3 y0'
        go_wp2_with (at_builtin; refine wpList_append_seesN rfl (.const (.slice none 0 0)) (.tmp 83) 26 rfl w5.heap.size 34 j0 (.agg #[.int .i64 0, .slice none 0 0, .slice none 0 0]) 3 56 Tryd.underlying26 ji jz0 jz1 jz2 rfl (by decide) (.slice none 0 0) 0 [] rfl (World.ownsRow_nil _ _ _ _) wl.heap.size (some ⟨b, off, none⟩) n c (hcells hs) rfl (hide HS.out.pg.cap.1) (hide (by rw [hcells_length, HS.out.pg.hd.len, HS.out.pg.len])) (hide (HS.out.pg.see.below HB5.out)) (hide HS.out.pg.cap.2.1) (hcells_oneCell _) (by unfold maxLen; omega) (by omega) (Nat.le_refl _) ?_)
        intro v2 w6 ho2 hg2
        obtain ⟨Q, cQ, rfl, hQb, hQl, hQc, _⟩ := own_block ho2 (by omega)
        obtain ⟨⟨v0, v1, v2⟩, fq⟩ := hd_row ho2 HS.out.hi
        have q2 := fq (i * 3 + 2)
        simp only at v0 v1 v2
        have ho7' := (ho2.stored (i * 3 + 2) (.slice (some ⟨G, 0, none⟩) n2 cG)).1
        rw [hset2 hs i _ HS.out.hi] at ho7'
        have ho7 := ho7'.alloc (.cells #[.slice (some ⟨Q, 0, none⟩) n cQ] 28)
        have hB6 := HB5.out.grown hg2 (by have := HZ5.out; omega) (fun j hj => by cases hj)
        have hs6 : w5.heap.size ≤ w6.heap.size := hg2.size
        have hzs : (w6.setCell ⟨Q, i * 3 + 2, none⟩ (.slice (some ⟨G, 0, none⟩) n2 cG)).heap.size = w6.heap.size := by simp [World.setCell]
        have hB7 := (hB6.setCell (p := ⟨Q, i * 3 + 2, none⟩) (by have := HZ5.out; simp; omega) (.slice (some ⟨G, 0, none⟩) n2 cG)).alloc (by rw [hzs]; have := HZ5.out; omega) (.cells #[.slice (some ⟨Q, 0, none⟩) n cQ] 28)
        have hoG := HO5.out.kept hg2 (.inr (by simp [Value.ownBlock]))
        have rq := Row.new (w6.setCell ⟨Q, i * 3 + 2, none⟩ (.slice (some ⟨G, 0, none⟩) n2 cG)) 28 [.slice (some ⟨Q, 0, none⟩) n cQ]
        rw [hzs] at rq
        have hQG : Q ≠ G := by have := HZ5.out; omega
        obtain ⟨w7, hw7⟩ : ∃ w7, (w6.setCell ⟨Q, i * 3 + 2, none⟩ (.slice (some ⟨G, 0, none⟩) n2 cG)).alloc (.cells #[.slice (some ⟨Q, 0, none⟩) n cQ] 28) = w7 := ⟨_, rfl⟩
        have hsG : Sees w7 (w6.heap.size + 1) (some ⟨G, 0, none⟩) (icells (f.code.set k ⟨op, a, bb + 1048576, d, m⟩)) := by
          rw [← hw7]
          intro k' u' hu'
          obtain ⟨b', o', e', hb', hc'⟩ := (Sees.ownN hoG) k' u' hu'
          injection e' with e'
          injection e' with e1 e2
          subst e1 e2
          exact ⟨G, 0, rfl, by omega, (World.cell?_alloc_lt _ _ _ (by rw [hzs]; exact hb')).trans ((World.cell?_setCell_other _ _ _ _ (fun e => by injection e with e; exact hQG (by omega))).trans hc')⟩
        have hz7 : w7.heap.size = w6.heap.size + 1 := by rw [← hw7]; simp [World.setCell]
        rw [hw7] at ho7 hB7 rq
        rw [← hz7] at hsG
        have hd7 : HdAt w7 0 w7.heap.size ⟨P, A1, n1, c1, some ⟨G, 0, none⟩, n2, cG⟩ ⟨f.params, f.slots, f.code.set k ⟨op, a, bb + 1048576, d, m⟩⟩ :=
          ⟨HS.out.hd.p, HS.out.hd.l1, by simp [HCODE.out], HS.out.hd.k1, ⟨(fun e => by cases e), hGc, by simp only; omega⟩, Far.zero _, Far.zero _, (HS.out.hd.s1.below hB7).more hB7.size, hsG⟩
        have hpg7 : PgAt w7 0 w7.heap.size (some ⟨Q, 0, none⟩) n cQ (hs.set i ⟨P, A1, n1, c1, some ⟨G, 0, none⟩, n2, cG⟩) (F.set i ⟨f.params, f.slots, f.code.set k ⟨op, a, bb + 1048576, d, m⟩⟩) :=
          HS.out.pg.set (fun p _ hp => hB7.cell hp) hB7.size (Nat.le_refl _) ⟨(fun e => by cases e), hQc, by omega⟩ (Far.zero _) (Sees.ownN ho7) hd7
        have hF7 : (F.set i ⟨f.params, f.slots, f.code.set k ⟨op, a, bb + 1048576, d, m⟩⟩)[i]? = some ⟨f.params, f.slots, f.code.set k ⟨op, a, bb + 1048576, d, m⟩⟩ := by rw [List.getElem?_set_self (by have := HLEN.out; omega)]
        have hX7 : (f.code.set k ⟨op, a, bb + 1048576, d, m⟩)[k]? = some ⟨op, a, bb + 1048576, d, m⟩ := by rw [List.getElem?_set_self hkn]
        obtain ⟨bad1, bad2, bad3⟩ := HBAD.out
        rw [HLEN.out] at bad1
        have k1 := chkins_any (some ⟨Q, 0, none⟩) n cQ _ _ 0 w7.heap.size i k _ ⟨op, a, bb + 1048576, d, m⟩ w7 (hide hpg7) (Nat.le_refl _) (hide (HS.out.sh.below hB7)) hin (hide hF7) (hide hX7)
        have k2 := fun W (hW : Below w7.heap.size w7 W) => check_any (some ⟨Q, 0, none⟩) n cQ _ _ 0 w7.heap.size W (hide (hpg7.below hW)) hW.size (hide ((HS.out.sh.below hB7).below hW))
        have k3 := fun W (hW : Below w7.heap.size w7 W) => same_any (some ⟨b, off, none⟩) n c hs F (some ⟨Q, 0, none⟩) n cQ _ _ 0 0 wl.heap.size w7.heap.size W (hide (HS.out.pg.below (hB7.trans (hW.mono hB7.size)))) (hide (hpg7.below hW)) (Nat.le_trans hB7.size hW.size) hW.size
        obtain ⟨e1, he1⟩ : ∃ e1, insE n ⟨f.params, f.slots, f.code.set k ⟨op, a, bb + 1048576, d, m⟩⟩ ⟨op, a, bb + 1048576, d, m⟩ = e1 := ⟨_, rfl⟩
        obtain ⟨e2, he2⟩ : ∃ e2, pgE (F.set i ⟨f.params, f.slots, f.code.set k ⟨op, a, bb + 1048576, d, m⟩⟩) = e2 := ⟨_, rfl⟩
        have he3 := decide_eq_false bad3
        rw [he1] at k1 bad1
        simp only [he2] at k2 bad2
        simp only [he3] at k3
        have K1 := hide k1
        have K2 := hide k2
        have K3 := hide k3
        have RQ := hide rq
        have HB7 := hide hB7
        have HW7 := hide hw7
        have R1 := hide (HS.out.r1.call hB7)
        have n1b : (e1 == 0) = false := by simpa using bad1
        have n2b : (e2 == 0) = false := by simpa using bad2
        clear ho2 hg2 fq ho7' ho7 hzs hB6 hB7 hoG rq hw7 hsG hd7 hpg7 hF7 hX7 bad1 bad2 bad3 k1 k2 k3 he1 he2 he3 hz7 HO5 HBAD
        go_wp2_with fail
        rw [HW7.out]
        clear HW7 v0 v1 v2 q2
        refine (K1.out).mono ?_
        rintro e w8 ⟨rfl, hb8⟩
        have g8 := (RQ.out.call hb8).cell (k := 0) rfl
        have HB8 := hide hb8
        clear hb8 K1
        go_wp2_with fail
        refine (K2.out _ HB8.out).mono ?_
        rintro e w9 ⟨rfl, hb9⟩
        have HB9 := hide (HB8.out.trans (hb9.mono HB8.out.size))
        have g9 := (RQ.out.call HB9.out).cell (k := 0) rfl
        have p9 := (R1.out.call HB9.out).cell (k := 0) rfl
        clear hb9 g8 K2 HB8
        go_wp2_with fail
        refine (K3.out _ HB9.out).mono ?_
        rintro e w10 ⟨rfl, hb10⟩
        have HB10 := hide (HB7.out.trans ((below_call HB9.out hb10).mono HB7.out.size))
        clear hb10 g9 p9 K3
        go_wp2_with fail
        go_roundw
        case rel => exact ⟨_, by omega, by omega, rfl, HB10⟩
        case measure => simp [intOf]
      · have hz5 : (w4.setCell ⟨G, k * 5 + 3, none⟩ (.int .i64 (d + 1048576))).heap.size = w4.heap.size := by simp [World.setCell]
        have ho5 := (HO1.out.stored (k * 5 + 3) (.int .i64 (d + 1048576))).1
        rw [iset3 HS.out.xk] at ho5
        have hB5 := HB4.out.setCell (p := ⟨G, k * 5 + 3, none⟩) (by simp; omega) (.int .i64 (d + 1048576))
        have y5 := (HS.out.r1.call hB5).cell (k := 0) rfl
        obtain ⟨w5, hw5⟩ : ∃ w5, w4.setCell ⟨G, k * 5 + 3, none⟩ (.int .i64 (d + 1048576)) = w5 := ⟨_, rfl⟩
        rw [hw5] at hz5 ho5 hB5 y5
        have HO5 := hide ho5
        have HB5 := hide hB5
        have HZ5 := hide hz5
        have HW5 := hide hw5
        have HBAD := hide (set_bad (x' := ⟨op, a, bb, d + 1048576, m⟩) HS.out.fi HS.out.xk (by have := bad_c hN80 hs5 hp8 hc10 HIE.out; exact this) (fun e => by rw [ins_eq] at e; simp only at e; omega))
        clear hz5 ho5 hB5 hw5 HO1 HB4
        go_upto_region 21 with (fail)
        rw [HW5.out]
        clear HW5 u0 u1 u2 u3 u4 z0 z1 z2 z3 y0'
        go_wp2_with (at_builtin; refine wpList_append_seesN rfl (.const (.slice none 0 0)) (.tmp 83) 26 rfl w5.heap.size 34 j0 (.agg #[.int .i64 0, .slice none 0 0, .slice none 0 0]) 3 56 Tryd.underlying26 ji jz0 jz1 jz2 rfl (by decide) (.slice none 0 0) 0 [] rfl (World.ownsRow_nil _ _ _ _) wl.heap.size (some ⟨b, off, none⟩) n c (hcells hs) rfl (hide HS.out.pg.cap.1) (hide (by rw [hcells_length, HS.out.pg.hd.len, HS.out.pg.len])) (hide (HS.out.pg.see.below HB5.out)) (hide HS.out.pg.cap.2.1) (hcells_oneCell _) (by unfold maxLen; omega) (by omega) (Nat.le_refl _) ?_)
        intro v2 w6 ho2 hg2
        obtain ⟨Q, cQ, rfl, hQb, hQl, hQc, _⟩ := own_block ho2 (by omega)
        obtain ⟨⟨v0, v1, v2⟩, fq⟩ := hd_row ho2 HS.out.hi
        have q2 := fq (i * 3 + 2)
        simp only at v0 v1 v2
        have ho7' := (ho2.stored (i * 3 + 2) (.slice (some ⟨G, 0, none⟩) n2 cG)).1
        rw [hset2 hs i _ HS.out.hi] at ho7'
        have ho7 := ho7'.alloc (.cells #[.slice (some ⟨Q, 0, none⟩) n cQ] 28)
        have hB6 := HB5.out.grown hg2 (by have := HZ5.out; omega) (fun j hj => by cases hj)
        have hs6 : w5.heap.size ≤ w6.heap.size := hg2.size
        have hzs : (w6.setCell ⟨Q, i * 3 + 2, none⟩ (.slice (some ⟨G, 0, none⟩) n2 cG)).heap.size = w6.heap.size := by simp [World.setCell]
        have hB7 := (hB6.setCell (p := ⟨Q, i * 3 + 2, none⟩) (by have := HZ5.out; simp; omega) (.slice (some ⟨G, 0, none⟩) n2 cG)).alloc (by rw [hzs]; have := HZ5.out; omega) (.cells #[.slice (some ⟨Q, 0, none⟩) n cQ] 28)
        have hoG := HO5.out.kept hg2 (.inr (by simp [Value.ownBlock]))
        have rq := Row.new (w6.setCell ⟨Q, i * 3 + 2, none⟩ (.slice (some ⟨G, 0, none⟩) n2 cG)) 28 [.slice (some ⟨Q, 0, none⟩) n cQ]
        rw [hzs] at rq
        have hQG : Q ≠ G := by have := HZ5.out; omega
        obtain ⟨w7, hw7⟩ : ∃ w7, (w6.setCell ⟨Q, i * 3 + 2, none⟩ (.slice (some ⟨G, 0, none⟩) n2 cG)).alloc (.cells #[.slice (some ⟨Q, 0, none⟩) n cQ] 28) = w7 := ⟨_, rfl⟩
        have hsG : Sees w7 (w6.heap.size + 1) (some ⟨G, 0, none⟩) (icells (f.code.set k ⟨op, a, bb, d + 1048576, m⟩)) := by
          rw [← hw7]
          intro k' u' hu'
          obtain ⟨b', o', e', hb', hc'⟩ := (Sees.ownN hoG) k' u' hu'
          injection e' with e'
          injection e' with e1 e2
          subst e1 e2
          exact ⟨G, 0, rfl, by omega, (World.cell?_alloc_lt _ _ _ (by rw [hzs]; exact hb')).trans ((World.cell?_setCell_other _ _ _ _ (fun e => by injection e with e; exact hQG (by omega))).trans hc')⟩
        have hz7 : w7.heap.size = w6.heap.size + 1 := by rw [← hw7]; simp [World.setCell]
        rw [hw7] at ho7 hB7 rq
        rw [← hz7] at hsG
        have hd7 : HdAt w7 0 w7.heap.size ⟨P, A1, n1, c1, some ⟨G, 0, none⟩, n2, cG⟩ ⟨f.params, f.slots, f.code.set k ⟨op, a, bb, d + 1048576, m⟩⟩ :=
          ⟨HS.out.hd.p, HS.out.hd.l1, by simp [HCODE.out], HS.out.hd.k1, ⟨(fun e => by cases e), hGc, by simp only; omega⟩, Far.zero _, Far.zero _, (HS.out.hd.s1.below hB7).more hB7.size, hsG⟩
        have hpg7 : PgAt w7 0 w7.heap.size (some ⟨Q, 0, none⟩) n cQ (hs.set i ⟨P, A1, n1, c1, some ⟨G, 0, none⟩, n2, cG⟩) (F.set i ⟨f.params, f.slots, f.code.set k ⟨op, a, bb, d + 1048576, m⟩⟩) :=
          HS.out.pg.set (fun p _ hp => hB7.cell hp) hB7.size (Nat.le_refl _) ⟨(fun e => by cases e), hQc, by omega⟩ (Far.zero _) (Sees.ownN ho7) hd7
        have hF7 : (F.set i ⟨f.params, f.slots, f.code.set k ⟨op, a, bb, d + 1048576, m⟩⟩)[i]? = some ⟨f.params, f.slots, f.code.set k ⟨op, a, bb, d + 1048576, m⟩⟩ := by rw [List.getElem?_set_self (by have := HLEN.out; omega)]
        have hX7 : (f.code.set k ⟨op, a, bb, d + 1048576, m⟩)[k]? = some ⟨op, a, bb, d + 1048576, m⟩ := by rw [List.getElem?_set_self hkn]
        obtain ⟨bad1, bad2, bad3⟩ := HBAD.out
        rw [HLEN.out] at bad1
        have k1 := chkins_any (some ⟨Q, 0, none⟩) n cQ _ _ 0 w7.heap.size i k _ ⟨op, a, bb, d + 1048576, m⟩ w7 (hide hpg7) (Nat.le_refl _) (hide (HS.out.sh.below hB7)) hin (hide hF7) (hide hX7)
        have k2 := fun W (hW : Below w7.heap.size w7 W) => check_any (some ⟨Q, 0, none⟩) n cQ _ _ 0 w7.heap.size W (hide (hpg7.below hW)) hW.size (hide ((HS.out.sh.below hB7).below hW))
        have k3 := fun W (hW : Below w7.heap.size w7 W) => same_any (some ⟨b, off, none⟩) n c hs F (some ⟨Q, 0, none⟩) n cQ _ _ 0 0 wl.heap.size w7.heap.size W (hide (HS.out.pg.below (hB7.trans (hW.mono hB7.size)))) (hide (hpg7.below hW)) (Nat.le_trans hB7.size hW.size) hW.size
        obtain ⟨e1, he1⟩ : ∃ e1, insE n ⟨f.params, f.slots, f.code.set k ⟨op, a, bb, d + 1048576, m⟩⟩ ⟨op, a, bb, d + 1048576, m⟩ = e1 := ⟨_, rfl⟩
        obtain ⟨e2, he2⟩ : ∃ e2, pgE (F.set i ⟨f.params, f.slots, f.code.set k ⟨op, a, bb, d + 1048576, m⟩⟩) = e2 := ⟨_, rfl⟩
        have he3 := decide_eq_false bad3
        rw [he1] at k1 bad1
        simp only [he2] at k2 bad2
        simp only [he3] at k3
        have K1 := hide k1
        have K2 := hide k2
        have K3 := hide k3
        have RQ := hide rq
        have HB7 := hide hB7
        have HW7 := hide hw7
        have R1 := hide (HS.out.r1.call hB7)
        have n1b : (e1 == 0) = false := by simpa using bad1
        have n2b : (e2 == 0) = false := by simpa using bad2
        clear ho2 hg2 fq ho7' ho7 hzs hB6 hB7 hoG rq hw7 hsG hd7 hpg7 hF7 hX7 bad1 bad2 bad3 k1 k2 k3 he1 he2 he3 hz7 HO5 HBAD
        go_wp2_with fail
        rw [HW7.out]
        clear HW7 v0 v1 v2 q2
        refine (K1.out).mono ?_
        rintro e w8 ⟨rfl, hb8⟩
        have g8 := (RQ.out.call hb8).cell (k := 0) rfl
        have HB8 := hide hb8
        clear hb8 K1
        go_wp2_with fail
        refine (K2.out _ HB8.out).mono ?_
        rintro e w9 ⟨rfl, hb9⟩
        have HB9 := hide (HB8.out.trans (hb9.mono HB8.out.size))
        have g9 := (RQ.out.call HB9.out).cell (k := 0) rfl
        have p9 := (R1.out.call HB9.out).cell (k := 0) rfl
        clear hb9 g8 K2 HB8
        go_wp2_with fail
        refine (K3.out _ HB9.out).mono ?_
        rintro e w10 ⟨rfl, hb10⟩
        have HB10 := hide (HB7.out.trans ((below_call HB9.out hb10).mono HB7.out.size))
        clear hb10 g9 p9 K3
        go_wp2_with fail
        go_roundw
        case rel => exact ⟨_, by omega, by omega, rfl, HB10⟩
        case measure => simp [intOf]
      · have hz5 : (w4.setCell ⟨G, k * 5, none⟩ (.int .i64 (op + 25))).heap.size = w4.heap.size := by simp [World.setCell]
        have ho5 := (HO1.out.stored (k * 5) (.int .i64 (op + 25))).1
        rw [iset0 HS.out.xk] at ho5
        have hB5 := HB4.out.setCell (p := ⟨G, k * 5, none⟩) (by simp; omega) (.int .i64 (op + 25))
        have y5 := (HS.out.r1.call hB5).cell (k := 0) rfl
        obtain ⟨w5, hw5⟩ : ∃ w5, w4.setCell ⟨G, k * 5, none⟩ (.int .i64 (op + 25)) = w5 := ⟨_, rfl⟩
        rw [hw5] at hz5 ho5 hB5 y5
        have HO5 := hide ho5
        have HB5 := hide hB5
        have HZ5 := hide hz5
        have HW5 := hide hw5
        have HBAD := hide (set_bad (x' := ⟨op + 25, a, bb, d, m⟩) HS.out.fi HS.out.xk (by have := bad_op HIE.out; exact this) (fun e => by rw [ins_eq] at e; simp only at e; omega))
        clear hz5 ho5 hB5 hw5 HO1 HB4
        go_upto_region 21 with (fail)
        rw [HW5.out]
        clear HW5 u0 u1 u2 u3 u4 z0 z1 z2 z3 y0'
        go_wp2_with (at_builtin; refine wpList_append_seesN rfl (.const (.slice none 0 0)) (.tmp 83) 26 rfl w5.heap.size 34 j0 (.agg #[.int .i64 0, .slice none 0 0, .slice none 0 0]) 3 56 Tryd.underlying26 ji jz0 jz1 jz2 rfl (by decide) (.slice none 0 0) 0 [] rfl (World.ownsRow_nil _ _ _ _) wl.heap.size (some ⟨b, off, none⟩) n c (hcells hs) rfl (hide HS.out.pg.cap.1) (hide (by rw [hcells_length, HS.out.pg.hd.len, HS.out.pg.len])) (hide (HS.out.pg.see.below HB5.out)) (hide HS.out.pg.cap.2.1) (hcells_oneCell _) (by unfold maxLen; omega) (by omega) (Nat.le_refl _) ?_)
        intro v2 w6 ho2 hg2
        obtain ⟨Q, cQ, rfl, hQb, hQl, hQc, _⟩ := own_block ho2 (by omega)
        obtain ⟨⟨v0, v1, v2⟩, fq⟩ := hd_row ho2 HS.out.hi
        have q2 := fq (i * 3 + 2)
        simp only at v0 v1 v2
        have ho7' := (ho2.stored (i * 3 + 2) (.slice (some ⟨G, 0, none⟩) n2 cG)).1
        rw [hset2 hs i _ HS.out.hi] at ho7'
        have ho7 := ho7'.alloc (.cells #[.slice (some ⟨Q, 0, none⟩) n cQ] 28)
        have hB6 := HB5.out.grown hg2 (by have := HZ5.out; omega) (fun j hj => by cases hj)
        have hs6 : w5.heap.size ≤ w6.heap.size := hg2.size
        have hzs : (w6.setCell ⟨Q, i * 3 + 2, none⟩ (.slice (some ⟨G, 0, none⟩) n2 cG)).heap.size = w6.heap.size := by simp [World.setCell]
        have hB7 := (hB6.setCell (p := ⟨Q, i * 3 + 2, none⟩) (by have := HZ5.out; simp; omega) (.slice (some ⟨G, 0, none⟩) n2 cG)).alloc (by rw [hzs]; have := HZ5.out; omega) (.cells #[.slice (some ⟨Q, 0, none⟩) n cQ] 28)
        have hoG := HO5.out.kept hg2 (.inr (by simp [Value.ownBlock]))
        have rq := Row.new (w6.setCell ⟨Q, i * 3 + 2, none⟩ (.slice (some ⟨G, 0, none⟩) n2 cG)) 28 [.slice (some ⟨Q, 0, none⟩) n cQ]
        rw [hzs] at rq
        have hQG : Q ≠ G := by have := HZ5.out; omega
        obtain ⟨w7, hw7⟩ : ∃ w7, (w6.setCell ⟨Q, i * 3 + 2, none⟩ (.slice (some ⟨G, 0, none⟩) n2 cG)).alloc (.cells #[.slice (some ⟨Q, 0, none⟩) n cQ] 28) = w7 := ⟨_, rfl⟩
        have hsG : Sees w7 (w6.heap.size + 1) (some ⟨G, 0, none⟩) (icells (f.code.set k ⟨op + 25, a, bb, d, m⟩)) := by
          rw [← hw7]
          intro k' u' hu'
          obtain ⟨b', o', e', hb', hc'⟩ := (Sees.ownN hoG) k' u' hu'
          injection e' with e'
          injection e' with e1 e2
          subst e1 e2
          exact ⟨G, 0, rfl, by omega, (World.cell?_alloc_lt _ _ _ (by rw [hzs]; exact hb')).trans ((World.cell?_setCell_other _ _ _ _ (fun e => by injection e with e; exact hQG (by omega))).trans hc')⟩
        have hz7 : w7.heap.size = w6.heap.size + 1 := by rw [← hw7]; simp [World.setCell]
        rw [hw7] at ho7 hB7 rq
        rw [← hz7] at hsG
        have hd7 : HdAt w7 0 w7.heap.size ⟨P, A1, n1, c1, some ⟨G, 0, none⟩, n2, cG⟩ ⟨f.params, f.slots, f.code.set k ⟨op + 25, a, bb, d, m⟩⟩ :=
          ⟨HS.out.hd.p, HS.out.hd.l1, by simp [HCODE.out], HS.out.hd.k1, ⟨(fun e => by cases e), hGc, by simp only; omega⟩, Far.zero _, Far.zero _, (HS.out.hd.s1.below hB7).more hB7.size, hsG⟩
        have hpg7 : PgAt w7 0 w7.heap.size (some ⟨Q, 0, none⟩) n cQ (hs.set i ⟨P, A1, n1, c1, some ⟨G, 0, none⟩, n2, cG⟩) (F.set i ⟨f.params, f.slots, f.code.set k ⟨op + 25, a, bb, d, m⟩⟩) :=
          HS.out.pg.set (fun p _ hp => hB7.cell hp) hB7.size (Nat.le_refl _) ⟨(fun e => by cases e), hQc, by omega⟩ (Far.zero _) (Sees.ownN ho7) hd7
        have hF7 : (F.set i ⟨f.params, f.slots, f.code.set k ⟨op + 25, a, bb, d, m⟩⟩)[i]? = some ⟨f.params, f.slots, f.code.set k ⟨op + 25, a, bb, d, m⟩⟩ := by rw [List.getElem?_set_self (by have := HLEN.out; omega)]
        have hX7 : (f.code.set k ⟨op + 25, a, bb, d, m⟩)[k]? = some ⟨op + 25, a, bb, d, m⟩ := by rw [List.getElem?_set_self hkn]
        obtain ⟨bad1, bad2, bad3⟩ := HBAD.out
        rw [HLEN.out] at bad1
        have k1 := chkins_any (some ⟨Q, 0, none⟩) n cQ _ _ 0 w7.heap.size i k _ ⟨op + 25, a, bb, d, m⟩ w7 (hide hpg7) (Nat.le_refl _) (hide (HS.out.sh.below hB7)) hin (hide hF7) (hide hX7)
        have k2 := fun W (hW : Below w7.heap.size w7 W) => check_any (some ⟨Q, 0, none⟩) n cQ _ _ 0 w7.heap.size W (hide (hpg7.below hW)) hW.size (hide ((HS.out.sh.below hB7).below hW))
        have k3 := fun W (hW : Below w7.heap.size w7 W) => same_any (some ⟨b, off, none⟩) n c hs F (some ⟨Q, 0, none⟩) n cQ _ _ 0 0 wl.heap.size w7.heap.size W (hide (HS.out.pg.below (hB7.trans (hW.mono hB7.size)))) (hide (hpg7.below hW)) (Nat.le_trans hB7.size hW.size) hW.size
        obtain ⟨e1, he1⟩ : ∃ e1, insE n ⟨f.params, f.slots, f.code.set k ⟨op + 25, a, bb, d, m⟩⟩ ⟨op + 25, a, bb, d, m⟩ = e1 := ⟨_, rfl⟩
        obtain ⟨e2, he2⟩ : ∃ e2, pgE (F.set i ⟨f.params, f.slots, f.code.set k ⟨op + 25, a, bb, d, m⟩⟩) = e2 := ⟨_, rfl⟩
        have he3 := decide_eq_false bad3
        rw [he1] at k1 bad1
        simp only [he2] at k2 bad2
        simp only [he3] at k3
        have K1 := hide k1
        have K2 := hide k2
        have K3 := hide k3
        have RQ := hide rq
        have HB7 := hide hB7
        have HW7 := hide hw7
        have R1 := hide (HS.out.r1.call hB7)
        have n1b : (e1 == 0) = false := by simpa using bad1
        have n2b : (e2 == 0) = false := by simpa using bad2
        clear ho2 hg2 fq ho7' ho7 hzs hB6 hB7 hoG rq hw7 hsG hd7 hpg7 hF7 hX7 bad1 bad2 bad3 k1 k2 k3 he1 he2 he3 hz7 HO5 HBAD
        go_wp2_with fail
        rw [HW7.out]
        clear HW7 v0 v1 v2 q2
        refine (K1.out).mono ?_
        rintro e w8 ⟨rfl, hb8⟩
        have g8 := (RQ.out.call hb8).cell (k := 0) rfl
        have HB8 := hide hb8
        clear hb8 K1
        go_wp2_with fail
        refine (K2.out _ HB8.out).mono ?_
        rintro e w9 ⟨rfl, hb9⟩
        have HB9 := hide (HB8.out.trans (hb9.mono HB8.out.size))
        have g9 := (RQ.out.call HB9.out).cell (k := 0) rfl
        have p9 := (R1.out.call HB9.out).cell (k := 0) rfl
        clear hb9 g8 K2 HB8
        go_wp2_with fail
        refine (K3.out _ HB9.out).mono ?_
        rintro e w10 ⟨rfl, hb10⟩
        have HB10 := hide (HB7.out.trans ((below_call HB9.out hb10).mono HB7.out.size))
        clear hb10 g9 p9 K3
        go_wp2_with fail
        go_roundw
        case rel => exact ⟨_, by omega, by omega, rfl, HB10⟩
        case measure => simp [intOf]
    · obtain rfl : j = 4 := by omega
      have kc := check_any (some ⟨b, off, none⟩) n c hs F 0 wl.heap.size wr (hide (HS.out.pg.below hbr.out)) hbr.out.size (hide (HS.out.sh.below hbr.out))
      rw [HS.out.ok] at kc
      have KC := hide kc
      have HBF := hide (HBL.out.trans (hbr.out.mono HS.out.lo))
      clear kc
      go_wp2_with fail
      refine (KC.out).mono ?_
      rintro e w8 ⟨rfl, hb8⟩
      have HB8 := hide (below_call HBF.out hb8)
      clear hb8
      go_wp2_with fail
      go_ret
      exact ⟨rfl, HB8.out⟩
end Go.Proofs.YtlfifdpklmnmpaaDoor
