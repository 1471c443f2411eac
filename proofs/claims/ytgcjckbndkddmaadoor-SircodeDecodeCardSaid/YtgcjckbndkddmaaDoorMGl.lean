import Derived.Test.YtgcjckbndkddmaaDoorMGd
import Derived.Test.YtgcjckbndkddmaaDoorMGb
import Derived.Test.YtgcjckbndkddmaaDoorMGf
set_option linter.unusedVariables false
set_option linter.unusedSimpArgs false
section
/-
  The developers' reader of bytes (package sircode): block g is a reader; the contracts of fail, word, limited, number, count, take, description, op, end. Conditions: at most 2^20 bytes.
-/
namespace Go.Proofs.YtgcjckbndkddmaaDoor
open Go.RowKit

/-- Bytes at a slice, below block B: nil, or with room behind them. -/
structure Rest (w : World) (B : Nat) (A : Option Addr) (n c : Nat) (zs : List Int) : Prop where
  at_ : (A = none ∧ n = 0 ∧ c = 0) ∨ ∃ b off, A = some ⟨b, off, none⟩ ∧ n < c
  len : zs.length = n
  cm : c ≤ 9223372036854775807
  most : n ≤ 1048576
  byt : Byt zs
  see : Sees w B A (cellsU8 zs)
section
variable {w w' : World} {B B' n c : Nat} {A : Option Addr} {zs : List Int}
theorem Rest.nil_ (w : World) (B : Nat) : Rest w B none 0 0 [] := ⟨.inl ⟨rfl, rfl, rfl⟩, rfl, by omega, by omega, Byt.nil_, Sees.nil_ _ _ _⟩
theorem Rest.keep (h : Rest w B A n c zs) (hk : ∀ p : Addr, p.block < B → w'.cell? p = w.cell? p) : Rest w' B A n c zs := ⟨h.at_, h.len, h.cm, h.most, h.byt, h.see.keep hk⟩
theorem Rest.more (h : Rest w B A n c zs) (hB : B ≤ B') : Rest w B' A n c zs := ⟨h.at_, h.len, h.cm, h.most, h.byt, h.see.more hB⟩
theorem Rest.cap (h : Rest w B A n c zs) : (A = none → c = 0) ∧ n ≤ c := by
  rcases h.at_ with ⟨rfl, rfl, rfl⟩ | ⟨b, off, rfl, hc⟩
  · exact ⟨fun _ => rfl, Nat.le_refl _⟩
  · exact ⟨(fun e => by cases e), by omega⟩
theorem Rest.drop_ {b off : Nat} (h : Rest w B (some ⟨b, off, none⟩) n c zs) {k : Nat} (hk : k ≤ n) : Rest w B (some ⟨b, off + k, none⟩) (n - k) (c - k) (zs.drop k) := by
  have hc : n < c := by
    rcases h.at_ with ⟨e, _⟩ | ⟨_, _, _, hc⟩
    · cases e
    · exact hc
  refine ⟨.inr ⟨b, off + k, rfl, by omega⟩, by rw [List.length_drop, h.len], by have := h.cm; omega, by have := h.most; omega, h.byt.drop k, ?_⟩
  have h2 := h.see.drop k
  rw [show (cellsU8 zs).drop k = cellsU8 (zs.drop k) by simp [cellsU8]] at h2
  rwa [show (some (⟨b, off, none⟩ : Addr)).map (·.add k) = some ⟨b, off + k, none⟩ by simp [WideShapes.add_plain]] at h2
theorem Rest.take_ {b off : Nat} (h : Rest w B (some ⟨b, off, none⟩) n c zs) {k : Nat} (hk : k ≤ n) : Rest w B (some ⟨b, off, none⟩) k c (zs.take k) := by
  have hc : n < c := by
    rcases h.at_ with ⟨e, _⟩ | ⟨_, _, _, hc⟩
    · cases e
    · exact hc
  refine ⟨.inr ⟨b, off, rfl, by omega⟩, by rw [List.length_take, h.len]; omega, h.cm, by have := h.most; omega, h.byt.take k, ?_⟩
  have h2 := h.see.take k
  rwa [take_cells] at h2
end

/-- What a reader's bytes and error stand for. -/
def DSt (zs : List Int) (e : Int) (S : Rd Unit) : Prop := match S with
  | .ok _ l => e = 0 ∧ zs = l
  | .no x => e = x ∧ 1 ≤ x ∧ x ≤ 4
/-- Block g is a reader in state S; the bytes lie below it. -/
def DR (w : World) (g : Nat) (S : Rd Unit) : Prop := ∃ (A : Option Addr) (n c : Nat) (zs : List Int) (e : Int), Row w g 69 [.slice A n c, .int .i64 e] ∧ Rest w g A n c zs ∧ DSt zs e S
/-- The reader has turned to S, the call returned v; all else is as it was. -/
def DPost (g : Nat) (S : Rd Unit) (v : Value) (w : World) (e : Ending) (w' : World) : Prop := e = .returned v ∧ DR w' g S ∧ w.grownBy w' (some g)

section
variable {w w' : World} {g : Nat} {S : Rd Unit}
theorem DR.lt (h : DR w g S) : g < w.heap.size := by
  obtain ⟨A, n, c, zs, e, r, _⟩ := h
  exact r.lt
theorem DR.kept {row : Option Nat} (h : DR w g S) (hg : w.grownBy w' row) (hr : ∀ k, row = some k → g < k) : DR w' g S := by
  have hl := h.lt
  obtain ⟨A, n, c, zs, e, r, s, t⟩ := h
  refine ⟨A, n, c, zs, e, r.grown hg (fun e => ?_), s.keep fun p hp => ?_, t⟩
  · have := hr g e.symm
    omega
  · exact World.cell?_of_block (hg.block p.block (by omega) (fun e => by have := hr p.block e.symm; omega))
theorem DR.below (h : DR w g S) (hb : Below w.heap.size w w') : DR w' g S := h.kept (grown_below hb none) (fun k e => by cases e)
theorem DR.alloc (h : DR w g S) (o : Obj) : DR (w.alloc o) g S := h.below (below1 w o)
theorem DR.drewN (h : DR w g S) (m : Nat) : DR (w.drewN m) g S := by
  obtain ⟨A, n, c, zs, e, r, s, t⟩ := h
  exact ⟨A, n, c, zs, e, r.drewN m, s.keep fun _ _ => rfl, t⟩
theorem DR.bad {x : Int} (h : DR w g (.no x)) : 1 ≤ x ∧ x ≤ 4 := by
  obtain ⟨A, n, c, zs, e, r, s, t⟩ := h
  exact t.2
theorem DR.byt {l : List Int} {u : Unit} (h : DR w g (.ok u l)) : Byt l ∧ l.length ≤ 1048576 := by
  obtain ⟨A, n, c, zs, e, r, s, t⟩ := h
  rw [← t.2]
  exact ⟨s.byt, by rw [s.len]; exact s.most⟩
end
/-- The reader's error turned. -/
theorem dr_err {w : World} {g n c : Nat} {A : Option Addr} {zs : List Int} {e : Int} (r : Row w g 69 [.slice A n c, .int .i64 e]) (s : Rest w g A n c zs) (x : Int) :
    Row (w.setCell ⟨g, 1, none⟩ (.int .i64 x)) g 69 [.slice A n c, .int .i64 x] ∧ Rest (w.setCell ⟨g, 1, none⟩ (.int .i64 x)) g A n c zs :=
  ⟨r.set_ 1 _, s.keep fun p hp => World.cell?_setCell_other _ _ _ _ (fun e => by subst e; simp at hp)⟩
/-- The reader's bytes turned. -/
theorem dr_rest {w : World} {g n c n' c' : Nat} {A A' : Option Addr} {zs' : List Int} {e : Int} (r : Row w g 69 [.slice A n c, .int .i64 e]) (s : Rest w g A' n' c' zs') :
    Row (w.setCell ⟨g, 0, none⟩ (.slice A' n' c')) g 69 [.slice A' n' c', .int .i64 e] ∧ Rest (w.setCell ⟨g, 0, none⟩ (.slice A' n' c')) g A' n' c' zs' :=
  ⟨r.set_ 0 _, s.keep fun p hp => World.cell?_setCell_other _ _ _ _ (fun e => by subst e; simp at hp)⟩

/-- An error noted: 0 is none. -/
def Rd.fl (S : Rd Unit) (x : Int) : Rd Unit := S.and fun u l => if x = 0 then .ok u l else .no x

set_option maxHeartbeats 400000 in
theorem dfail_any (g : Nat) (S : Rd Unit) (x : Int) (w : World) (h : Hid (DR w g S)) (hx : 0 ≤ x ∧ x ≤ 4) :
    Calls Tryd.prog 64 #[.pointer (some ⟨g, 0, none⟩), .int .i64 x] w (DPost g (S.fl x) (.tuple #[]) w) := by
  obtain ⟨A, n, c, zs, e, r, s, t⟩ := h.out
  have hr := hide r
  have hs := hide s
  have c1 := r.cell (k := 1) rfl
  have z1 := r.free 1
  cases S with
  | no y =>
    obtain ⟨rfl, hy⟩ := t
    have hne : (e == 0) = false := by rw [beq_eq_false_iff_ne]; omega
    clear r s
    go_enter Tryd.func64, Tryd.ntmps64
    go_wp2
    go_end0
    exact ⟨rfl, ⟨A, n, c, zs, e, hr.out, hs.out, rfl, hy⟩, World.grownBy.refl w _⟩
  | ok u l =>
    obtain ⟨rfl, hl⟩ := t
    have H2 := hide (dr_err r s x)
    have E := hide hl
    clear r s hl
    go_enter Tryd.func64, Tryd.ntmps64
    go_wp2
    go_end0
    refine ⟨rfl, ⟨A, n, c, zs, x, H2.out.1, H2.out.2, ?_⟩, grown_set (World.grownBy.refl w _) 1 _⟩
    unfold Rd.fl
    rw [Rd.and_ok]
    by_cases h0 : x = 0
    · rw [if_pos h0]; exact ⟨h0, E.out⟩
    · rw [if_neg h0]; exact ⟨rfl, by omega, hx.2⟩

set_option maxRecDepth 100000 in
set_option maxHeartbeats 800000 in
theorem dword_any (g : Nat) (S : Rd Unit) (w : World) (h : Hid (DR w g S)) :
    Calls Tryd.prog 85 #[.pointer (some ⟨g, 0, none⟩)] w (DPost g (S.to wordR).st (.int .u64 (((S.to wordR).val 0 : Nat) : Int)) w) := by
  obtain ⟨A, n, c, zs, e, r, s, t⟩ := h.out
  have c0 := r.cell (k := 0) rfl
  have hcap := s.cap
  have hmost := s.most
  have hcm := s.cm
  have cu := uint_in A n c zs 0 g w (hide hcap.1) (hide s.len) (by omega) hcap.2 s.see (hide s.byt) (Nat.zero_le _)
  have E0 := hide (show ((0 : Nat) : Int) = 0 from rfl)
  rw [E0.out] at cu
  rcases hm : wordR zs with x | ⟨v, r1⟩
  · obtain ⟨m, rfl, hm0, hm2, hsc⟩ := wordR_scan_no hm
    have hU := uintAt_err (zs := zs) (a := 0) (e := m) (Nat.zero_le _) hsc hm0
    rw [E0.out] at hU
    have cv : Calls Tryd.prog 99 #[.slice A n c, .int .i64 0] w (fun e w'' => e = .returned (.tuple #[.int .u64 0, .int .i64 0, .int .i64 (m : Int)]) ∧ w = w'') := cu.mono fun e w'' he => ⟨by rw [he.1, hU]; rfl, he.2⟩
    have EE := hide (show S.fl (m : Int) = (S.to wordR).st ∧ (S.to wordR).val 0 = 0 by
      cases S with
      | no y => exact ⟨rfl, rfl⟩
      | ok u l =>
        obtain ⟨_, rfl⟩ := t
        refine ⟨?_, ?_⟩
        · show (if (m : Int) = 0 then (Rd.ok u zs : Rd Unit) else .no (m : Int)) = (wordR zs).st
          rw [hm, if_neg (by omega)]; rfl
        · show (wordR zs).val 0 = 0
          rw [hm]; rfl)
    have hbad := hide (show ∃ y, S.fl (m : Int) = .no y by
      cases S with
      | no y => exact ⟨y, rfl⟩
      | ok u l => exact ⟨m, by show (if (m : Int) = 0 then (Rd.ok u l : Rd Unit) else .no (m : Int)) = _; rw [if_neg (by omega)]⟩)
    clear hU cu hsc hm r s t hcap
    go_enter Tryd.func85, Tryd.ntmps85
    go_wp2_with fail
    refine cv.mono ?_
    rintro e0 w' ⟨rfl, rfl⟩
    go_wp2_with fail
    refine (dfail_any g S (m : Int) w h (by omega)).mono ?_
    rintro e w' ⟨rfl, hR, hG⟩
    have HR := hide hR
    have HG := hide hG
    obtain ⟨y, hy⟩ := hbad.out
    rw [hy] at hR
    obtain ⟨A', n', c', zs', e', r', s', t'⟩ := hR
    have d1 := r'.cell (k := 1) rfl
    obtain ⟨rfl, hy1, hy2⟩ := t'
    have hne : (e' == 0) = false := by rw [beq_eq_false_iff_ne]; omega
    clear hG hy r' s' cv
    go_wp2
    go_ret
    refine ⟨?_, by rw [← EE.out.1]; exact HR.out, HG.out⟩
    rw [EE.out.2]; rfl
  · obtain ⟨j, hsc, hrj⟩ := wordR_scan hm
    have hU := uintAt_ok (zs := zs) (a := 0) (v := v) (e := j) (Nat.zero_le _) hsc
    have hle : v ≤ 18446744073709551615 := (wordR_ok s.byt hm).2
    have hjl : j ≤ n := by
      obtain ⟨u, _, he, _, hl2, _⟩ := scan_ok zs 0 0 v j s.byt hsc
      have := s.len
      omega
    have hj1 : 1 ≤ j := by
      obtain ⟨u, _, he, _, hl2, _⟩ := scan_ok zs 0 0 v j s.byt hsc
      have := lenv_pos u
      omega
    have cv : Calls Tryd.prog 99 #[.slice A n c, .int .i64 0] w (fun e w'' => e = .returned (.tuple #[.int .u64 (v : Int), .int .i64 (j : Int), .int .i64 0]) ∧ w = w'') := cu.mono fun e w'' he => ⟨by rw [he.1]; rw [E0.out, Int.zero_add] at hU; rw [hU]; rfl, he.2⟩
    cases S with
    | no y =>
      obtain ⟨rfl, hy⟩ := t
      clear hU cu hsc hm r s hcap hrj
      go_enter Tryd.func85, Tryd.ntmps85
      go_wp2_with fail
      refine cv.mono ?_
      rintro e0 w' ⟨rfl, rfl⟩
      go_wp2_with fail
      refine (dfail_any g (.no e) 0 w h (by omega)).mono ?_
      rintro e1 w' ⟨rfl, hR, hG⟩
      have HR := hide hR
      have HG := hide hG
      obtain ⟨A', n', c', zs', e', r', s', t'⟩ := hR
      have d1 := r'.cell (k := 1) rfl
      obtain ⟨rfl, -, -⟩ := t'
      have hne : (e' == 0) = false := by rw [beq_eq_false_iff_ne]; omega
      clear hG r' s' cv
      go_wp2
      go_ret
      exact ⟨rfl, HR.out, HG.out⟩
    | ok u l =>
      obtain ⟨rfl, rfl⟩ := t
      have EE := hide hm
      have HJ := hide hrj
      have HLN := hide s.len
      clear hU cu hsc hm r s hcap hrj
      go_enter Tryd.func85, Tryd.ntmps85
      go_wp2_with fail
      refine cv.mono ?_
      rintro e0 w' ⟨rfl, rfl⟩
      go_wp2_with fail
      refine (dfail_any g (.ok u zs) 0 w h (by omega)).mono ?_
      rintro e1 w' ⟨rfl, hR, hG⟩
      have HG := hide hG
      obtain ⟨A', n', c', zs', e', r', s', t'⟩ := hR
      obtain ⟨rfl, rfl⟩ := t'
      have d0 := r'.cell (k := 0) rfl
      have d1 := r'.cell (k := 1) rfl
      have z0 := r'.free 0
      have hl' : zs'.length = n' := s'.len
      rcases s'.at_ with ⟨rfl, rfl, rfl⟩ | ⟨b, off, rfl, hnc⟩
      · exact absurd EE.out (by rw [List.eq_nil_of_length_eq_zero hl', show wordR [] = .no 1 from rfl]; exact fun h => by cases h)
      · have hjn : j ≤ n' := by have := HLN.out; omega
        have hcj : ¬ c' = j := by omega
        have HS := hide (dr_rest r' (s'.drop_ hjn))
        have hcm' := s'.cm
        clear hG r' s' cv hl'
        go_wp2
        go_ret
        refine ⟨?_, ⟨_, _, _, _, _, HS.out.1, HS.out.2, ?_⟩, grown_set HG.out 0 _⟩
        · show _ = Ending.returned (.int .u64 (((wordR zs').val 0 : Nat) : Int))
          rw [EE.out]; rfl
        · show DSt _ _ (wordR zs').st
          rw [EE.out]
          exact ⟨rfl, HJ.out.symm⟩
end Go.Proofs.YtgcjckbndkddmaaDoor
end

section
/-
  The developers' reader: limited, number, count, take, description, op, end. Conditions: at most 2^20 bytes; a count's bound is at most 2^31 - 1.
-/
namespace Go.Proofs.YtgcjckbndkddmaaDoor
open Go.RowKit

/-- A number with a bound, and the error beyond it. -/
def limR (most : Nat) (x : Int) (l : List Int) : Rd Nat := (wordR l).and fun v r => if 2147483647 < v then .no 4 else if most < v then .no x else .ok v r
theorem numR_lim (l : List Int) : numR l = limR 2147483647 4 l := by
  unfold numR limR
  cases wordR l with
  | no e => rfl
  | ok v r =>
    rw [Rd.and_ok, Rd.and_ok]
    by_cases h : 2147483647 < v
    · rw [if_pos h, if_pos h]
    · rw [if_neg h, if_neg h]
theorem countR_lim (most : Nat) (l : List Int) : countR most l = limR most 3 l := by
  unfold countR numR limR
  cases wordR l with
  | no e => rfl
  | ok v r =>
    rw [Rd.and_ok, Rd.and_ok]
    by_cases h : 2147483647 < v
    · rw [if_pos h, if_pos h]; rfl
    · rw [if_neg h, if_neg h, Rd.and_ok]
theorem slR_lim (l : List Int) : slR l = (limR 2147483647 4 l).and fun s r => (limR 24 4 r).and fun k r => .ok ((s : Int), (2 : Int) ^ k) r := by
  unfold slR
  rw [numR_lim]
  congr 1
  funext s r
  unfold limR numR
  cases wordR r with
  | no e => rfl
  | ok v r =>
    simp only [Rd.and_ok]
    by_cases h : 2147483647 < v
    · rw [if_pos h, if_pos h]; rfl
    · rw [if_neg h, if_neg h, Rd.and_ok]
      by_cases h2 : 24 < v
      · rw [if_pos h2, if_pos h2]; rfl
      · rw [if_neg h2, if_neg h2]; rfl
theorem lim_val {most : Nat} {x : Int} {S : Rd Unit} (hm : most ≤ 2147483647) : (S.to (limR most x)).val 0 ≤ most := by
  cases S with
  | no y => exact Nat.zero_le _
  | ok u l =>
    show (limR most x l).val 0 ≤ _
    unfold limR
    cases wordR l with
    | no e => exact Nat.zero_le _
    | ok v r =>
      rw [Rd.and_ok]
      by_cases h : 2147483647 < v
      · rw [if_pos h]; exact Nat.zero_le _
      · rw [if_neg h]
        by_cases h2 : most < v
        · rw [if_pos h2]; exact Nat.zero_le _
        · rw [if_neg h2]; exact (by omega : v ≤ most)
theorem dword_val {w : World} {g : Nat} {S : Rd Unit} (h : DR w g S) : (S.to wordR).val 0 ≤ 18446744073709551615 := by
  cases S with
  | no y => exact Nat.zero_le _
  | ok u l =>
    show (wordR l).val 0 ≤ _
    cases hm : wordR l with
    | no x => exact Nat.zero_le _
    | ok v r => exact (wordR_ok h.byt.1 hm).2

set_option maxHeartbeats 800000 in
theorem dlim_any (g most : Nat) (x : Int) (S : Rd Unit) (w : World) (h : Hid (DR w g S)) (hm : most ≤ 2147483647) (hx : 1 ≤ x ∧ x ≤ 4) :
    Calls Tryd.prog 60 #[.pointer (some ⟨g, 0, none⟩), .int .i64 (most : Int), .int .i64 x] w (DPost g (S.to (limR most x)).st (.int .i64 (((S.to (limR most x)).val 0 : Nat) : Int)) w) := by
  have hv := dword_val h.out
  have cw := dword_any g S w h
  have E : S.to (limR most x) = (S.to wordR).and fun v r => if 2147483647 < v then .no 4 else if most < v then .no x else .ok v r := Rd.to_and S wordR _
  rw [E]
  generalize S.to wordR = M at hv cw ⊢
  clear E
  cases M with
  | no y =>
    have hm0 : ¬ ((most : Int) < 0) := by omega
    go_enter Tryd.func60, Tryd.ntmps60
    go_wp2_with fail
    refine cw.mono ?_
    rintro e w' ⟨rfl, hR, hG⟩
    have HR := hide hR
    have HG := hide hG
    clear hR hG cw
    have ev : ((Rd.no y : Rd Nat).val 0 : Nat) = 0 := rfl
    rw [ev]
    go_wp2
    go_ret
    exact ⟨rfl, HR.out, HG.out⟩
  | ok v r =>
    have hv' : v ≤ 18446744073709551615 := hv
    by_cases hlt : 2147483647 < v
    · have hlz : (2147483647 : Int) < (v : Int) := by omega
      go_enter Tryd.func60, Tryd.ntmps60
      go_wp2_with fail
      refine cw.mono ?_
      rintro e w' ⟨rfl, hR, hG⟩
      have HR := hide hR
      have HG := hide hG
      clear hR hG cw
      have ev : ((Rd.ok v r : Rd Nat).val 0 : Nat) = v := rfl
      rw [ev]
      go_wp2_with fail
      refine (dfail_any g _ 4 _ HR (by omega)).mono ?_
      rintro e w' ⟨rfl, hR, hG⟩
      have HR2 := hide hR
      have HG2 := hide (HG.out.trans hG)
      clear hR hG
      have E2 := hide (show ((Rd.ok v r : Rd Nat).and fun v r => if 2147483647 < v then (.no 4 : Rd Nat) else if most < v then .no x else .ok v r) = .no 4 by rw [Rd.and_ok, if_pos hlt])
      go_wp2
      go_ret
      rw [E2.out]
      exact ⟨rfl, HR2.out, HG2.out⟩
    · have hlz : (v : Int) ≤ 2147483647 := by omega
      by_cases hlm : most < v
      · have hlz2 : (most : Int) < (v : Int) := by omega
        go_enter Tryd.func60, Tryd.ntmps60
        go_wp2_with fail
        refine cw.mono ?_
        rintro e w' ⟨rfl, hR, hG⟩
        have HR := hide hR
        have HG := hide hG
        clear hR hG cw
        have ev : ((Rd.ok v r : Rd Nat).val 0 : Nat) = v := rfl
        rw [ev]
        go_wp2_with fail
        refine (dfail_any g _ x _ HR (by omega)).mono ?_
        rintro e w' ⟨rfl, hR, hG⟩
        have HR2 := hide hR
        have HG2 := hide (HG.out.trans hG)
        clear hR hG
        have E2 := hide (show ((Rd.ok v r : Rd Nat).and fun v r => if 2147483647 < v then (.no 4 : Rd Nat) else if most < v then .no x else .ok v r) = .no x by rw [Rd.and_ok, if_neg hlt, if_pos hlm])
        have E3 := hide (show ((Rd.ok v r : Rd Nat).st.fl x) = .no x by show (if x = 0 then (Rd.ok () r : Rd Unit) else .no x) = .no x; rw [if_neg (by omega)])
        go_wp2
        go_ret
        rw [E2.out]
        rw [E3.out] at HR2
        exact ⟨rfl, HR2.out, HG2.out⟩
      · have hlz2 : ¬ ((most : Int) < (v : Int)) := by omega
        go_enter Tryd.func60, Tryd.ntmps60
        go_wp2_with fail
        refine cw.mono ?_
        rintro e w' ⟨rfl, hR, hG⟩
        have HR := hide hR
        have HG := hide hG
        clear hR hG cw
        have ev : ((Rd.ok v r : Rd Nat).val 0 : Nat) = v := rfl
        rw [ev]
        have E2 := hide (show ((Rd.ok v r : Rd Nat).and fun v r => if 2147483647 < v then (.no 4 : Rd Nat) else if most < v then .no x else .ok v r) = .ok v r by rw [Rd.and_ok, if_neg hlt, if_neg hlm])
        go_wp2
        go_ret
        rw [E2.out]
        exact ⟨rfl, HR.out, HG.out⟩

set_option maxHeartbeats 400000 in
theorem dnum_any (g : Nat) (S : Rd Unit) (w : World) (h : Hid (DR w g S)) :
    Calls Tryd.prog 61 #[.pointer (some ⟨g, 0, none⟩)] w (DPost g (S.to numR).st (.int .i64 (((S.to numR).val 0 : Nat) : Int)) w) := by
  have cl := dlim_any g 2147483647 4 S w h (by omega) (by omega)
  rw [show limR 2147483647 4 = numR from funext fun l => (numR_lim l).symm] at cl
  go_enter Tryd.func61, Tryd.ntmps61
  go_wp2_with fail
  refine cl.mono ?_
  rintro e w' ⟨rfl, hR, hG⟩
  have HR := hide hR
  have HG := hide hG
  clear hR hG cl
  go_wp2
  go_ret
  exact ⟨rfl, HR.out, HG.out⟩

set_option maxHeartbeats 400000 in
theorem dcount_any (g most : Nat) (S : Rd Unit) (w : World) (h : Hid (DR w g S)) (hm : most ≤ 2147483647) :
    Calls Tryd.prog 38 #[.pointer (some ⟨g, 0, none⟩), .int .i64 (most : Int)] w (DPost g (S.to (countR most)).st (.int .i64 (((S.to (countR most)).val 0 : Nat) : Int)) w) := by
  have cl := dlim_any g most 3 S w h hm (by omega)
  rw [show limR most 3 = countR most from funext fun l => (countR_lim most l).symm] at cl
  go_enter Tryd.func38, Tryd.ntmps38
  go_wp2_with fail
  refine cl.mono ?_
  rintro e w' ⟨rfl, hR, hG⟩
  have HR := hide hR
  have HG := hide hG
  clear hR hG cl
  go_wp2
  go_ret
  exact ⟨rfl, HR.out, HG.out⟩
theorem dnum_val {S : Rd Unit} : (S.to numR).val 0 ≤ 2147483647 := by
  rw [show numR = limR 2147483647 4 from funext numR_lim]
  exact lim_val (by omega)
theorem dcount_val {most : Nat} {S : Rd Unit} (hm : most ≤ 2147483647) : (S.to (countR most)).val 0 ≤ most := by
  rw [show countR most = limR most 3 from funext (countR_lim most)]
  exact lim_val hm

/-- The next n bytes. -/
def takeR (n : Nat) (l : List Int) : Rd (List Int) := if l.length < n then .no 1 else .ok (l.take n) (l.drop n)
/-- Bytes that were read: what they are, and where they stand. -/
def TkPost (g : Nat) (M : Rd (List Int)) (w : World) (e : Ending) (w' : World) : Prop :=
  ∃ (A : Option Addr) (n c : Nat) (ds : List Int), e = .returned (.slice A n c) ∧ Rest w' g A n c ds ∧ ds = M.val [] ∧ DR w' g M.st ∧ w.grownBy w' (some g)

set_option maxRecDepth 100000 in
set_option maxHeartbeats 800000 in
theorem dtake_any (g k : Nat) (S : Rd Unit) (w : World) (h : Hid (DR w g S)) (hk : k ≤ 2147483647) :
    Calls Tryd.prog 70 #[.pointer (some ⟨g, 0, none⟩), .int .i64 (k : Int)] w (TkPost g (S.to (takeR k)) w) := by
  obtain ⟨A, n, c, zs, e, r, s, t⟩ := h.out
  have c0 := r.cell (k := 0) rfl
  have c1 := r.cell (k := 1) rfl
  have z0 := r.free 0
  have hcm := s.cm
  have hmost := s.most
  have hl := s.len
  by_cases hlt : n < k
  · have hkz : (n : Int) < (k : Int) := by omega
    have hbad := hide (show ∃ y, S.fl 1 = .no y ∧ S.to (takeR k) = .no y by
      cases S with
      | no y => exact ⟨y, rfl, rfl⟩
      | ok u l =>
        obtain ⟨-, rfl⟩ := t
        exact ⟨1, rfl, by show takeR k zs = .no 1; unfold takeR; rw [if_pos (by omega)]⟩)
    clear r s t hl c1 z0
    go_enter Tryd.func70, Tryd.ntmps70
    go_wp2_with fail
    refine (dfail_any g S 1 w h (by omega)).mono ?_
    rintro e1 w' ⟨rfl, hR, hG⟩
    obtain ⟨y, hy, hy2⟩ := hbad.out
    rw [hy] at hR
    have HR := hide hR
    have HG := hide hG
    have HY := hide hy2
    obtain ⟨A', n', c', zs', e', r', s', t'⟩ := hR
    have d1 := r'.cell (k := 1) rfl
    obtain ⟨he, hy1, hy3⟩ := t'
    have hne : (e' == 0) = false := by rw [beq_eq_false_iff_ne]; omega
    clear hG hy hy2 r' s' he
    go_wp2
    go_ret
    rw [HY.out]
    exact ⟨none, 0, 0, [], rfl, Rest.nil_ _ _, rfl, HR.out, HG.out⟩
  · have hkz : ¬ ((n : Int) < (k : Int)) := by omega
    cases S with
    | no y =>
      obtain ⟨he, hy⟩ := t
      have hne : (e == 0) = false := by rw [beq_eq_false_iff_ne]; omega
      clear r s hl he
      go_enter Tryd.func70, Tryd.ntmps70
      go_wp2
      go_ret
      exact ⟨none, 0, 0, [], rfl, Rest.nil_ _ _, rfl, h.out, World.grownBy.refl w _⟩
    | ok u l =>
      obtain ⟨he, hzl⟩ := t
      subst he hzl
      have HM := hide (show (Rd.ok u zs : Rd Unit).to (takeR k) = .ok (zs.take k) (zs.drop k) by show takeR k zs = _; unfold takeR; rw [if_neg (by omega)])
      have hkn : k ≤ n := by omega
      rcases s.at_ with ⟨rfl, rfl, rfl⟩ | ⟨b, off, rfl, hnc⟩
      · obtain rfl : k = 0 := by omega
        have hzn : zs = [] := List.eq_nil_of_length_eq_zero hl
        subst hzn
        have HS := hide (dr_rest (A' := none) (n' := 0) (c' := 0) r (Rest.nil_ _ _))
        have E0 : ((0 : Nat) : Int) = 0 := rfl
        rw [E0]
        clear s hl E0 hcm hmost hkn hlt hk
        go_enter Tryd.func70, Tryd.ntmps70
        go_wp2
        go_ret
        rw [HM.out]
        exact ⟨none, 0, 0, [], rfl, Rest.nil_ _ _, rfl, ⟨_, _, _, _, _, HS.out.1, HS.out.2, rfl, rfl⟩, grown_set (World.grownBy.refl w _) 0 _⟩
      · have hck : ¬ c = k := by omega
        have hkc : k ≤ c := by omega
        have HS := hide (dr_rest r (s.drop_ hkn))
        have HT := hide ((s.take_ hkn).keep (w' := w.setCell ⟨g, 0, none⟩ (.slice (some ⟨b, off + k, none⟩) (n - k) (c - k))) fun p hp => World.cell?_setCell_other _ _ _ _ (fun e => by subst e; simp at hp))
        clear r s hl hlt
        go_enter Tryd.func70, Tryd.ntmps70
        go_wp2
        go_ret
        rw [HM.out]
        exact ⟨_, _, _, _, rfl, HT.out, rfl, ⟨_, _, _, _, _, HS.out.1, HS.out.2, rfl, rfl⟩, grown_set (World.grownBy.refl w _) 0 _⟩

/-- A length and so many bytes. -/
def descrR (l : List Int) : Rd (List Int) := (numR l).and fun n r => takeR n r
set_option maxHeartbeats 400000 in
theorem ddescr_any (g : Nat) (S : Rd Unit) (w : World) (h : Hid (DR w g S)) :
    Calls Tryd.prog 44 #[.pointer (some ⟨g, 0, none⟩)] w (TkPost g (S.to descrR) w) := by
  have cn := dnum_any g S w h
  have hv := dnum_val (S := S)
  have E := hide (show S.to descrR = (S.to numR).st.to (takeR ((S.to numR).val 0)) by
    unfold descrR
    rw [Rd.to_and]
    exact Rd.and_to 0 _ _)
  obtain ⟨k, hk⟩ : ∃ k, (S.to numR).val 0 = k := ⟨_, rfl⟩
  rw [hk] at cn hv
  have HK := hide hk
  clear hk
  go_enter Tryd.func44, Tryd.ntmps44
  go_wp2_with fail
  refine cn.mono ?_
  rintro e w' ⟨rfl, hR, hG⟩
  have HR := hide hR
  have HG := hide hG
  clear hR hG cn
  go_wp2_with fail
  refine (dtake_any g k _ _ HR hv).mono ?_
  rintro e w2 ⟨A, n, c, ds, rfl, hr, hd, hR, hG⟩
  have H1 := hide hr
  have H2 := hide hd
  have H3 := hide hR
  have H4 := hide (HG.out.trans hG)
  clear hr hd hR hG
  go_wp2
  go_ret
  rw [E.out, HK.out]
  exact ⟨A, n, c, ds, rfl, H1.out, H2.out, H3.out, H4.out⟩

/-- The first byte of an instruction. -/
def opR (l : List Int) : Rd Nat := match l with
  | [] => .no 1
  | z :: r => if 25 ≤ z then .no 4 else .ok z.toNat r
theorem insR_op {l : List Int} (hz : Byt l) : insR l = (opR l).and fun z r => opsR (useA z) (useB z) (useC z) (useI z) z r := by
  cases l with
  | nil => rfl
  | cons z r =>
    have h0 := (hz z List.mem_cons_self).1
    unfold insR opR
    simp only
    by_cases h : 25 ≤ z
    · rw [if_pos h, if_pos h]; rfl
    · rw [if_neg h, if_neg h, Rd.and_ok, Int.toNat_of_nonneg h0]
theorem op_val {S : Rd Unit} : (S.to opR).val 0 < 25 := by
  cases S with
  | no y => exact (by decide : 0 < 25)
  | ok u l =>
    show (opR l).val 0 < 25
    cases l with
    | nil => exact (by decide : 0 < 25)
    | cons z r =>
      unfold opR
      simp only
      by_cases h : 25 ≤ z
      · rw [if_pos h]; exact (by decide : 0 < 25)
      · rw [if_neg h]; show z.toNat < 25; omega

set_option maxRecDepth 100000 in
set_option maxHeartbeats 800000 in
theorem dop_any (g : Nat) (S : Rd Unit) (w : World) (h : Hid (DR w g S)) :
    Calls Tryd.prog 100 #[.pointer (some ⟨g, 0, none⟩)] w (DPost g (S.to opR).st (.int .i64 (((S.to opR).val 0 : Nat) : Int)) w) := by
  have ct := dtake_any g 1 S w h (by omega)
  rw [show ((1 : Nat) : Int) = 1 from rfl] at ct
  have hcase : (∃ x, S.to (takeR 1) = .no x ∧ S.to opR = .no x) ∨ ∃ z r, S.to (takeR 1) = .ok [z] r ∧ S.to opR = (if 25 ≤ z then .no 4 else .ok z.toNat r) ∧ 0 ≤ z ∧ z ≤ 255 := by
    cases S with
    | no y => exact .inl ⟨y, rfl, rfl⟩
    | ok u l =>
      have hb := h.out.byt.1
      cases l with
      | nil => exact .inl ⟨1, rfl, rfl⟩
      | cons z r =>
        have h0 := hb z List.mem_cons_self
        exact .inr ⟨z, r, by show takeR 1 (z :: r) = _; unfold takeR; rw [if_neg (by simp)]; rfl, rfl, h0⟩
  rcases hcase with ⟨x, e1, e2⟩ | ⟨z, r, e1, e2, hz0, hz1⟩
  · rw [e1] at ct
    rw [e2]
    clear e1 e2
    go_enter Tryd.func100, Tryd.ntmps100
    go_wp2_with fail
    refine ct.mono ?_
    rintro e w' ⟨A, n, c, ds, rfl, hr, hd, hR, hG⟩
    have hn0 : n = 0 := by rw [← hr.len, hd]; rfl
    subst hn0
    have HR := hide hR
    have HG := hide hG
    have E0 : ((0 : Nat) : Int) = 0 := rfl
    clear hr hd hR hG ct
    go_wp2
    go_ret
    exact ⟨rfl, HR.out, HG.out⟩
  · rw [e1] at ct
    rw [e2]
    clear e1 e2
    by_cases h25 : 25 ≤ z
    · rw [if_pos h25]
      go_enter Tryd.func100, Tryd.ntmps100
      go_wp2_with fail
      refine ct.mono ?_
      rintro e w' ⟨A, n, c, ds, rfl, hr, hd, hR, hG⟩
      obtain rfl : ds = [z] := hd
      obtain rfl : n = 1 := by rw [← hr.len]; rfl
      obtain ⟨b, off, rfl, hb, hc0⟩ := hr.see 0 (.int .u8 z) rfl
      rw [Nat.add_zero] at hc0
      have HR := hide hR
      have HG := hide hG
      clear hr hR hG ct
      go_wp2_with fail
      refine (dfail_any g _ 4 _ HR (by omega)).mono ?_
      rintro e w2 ⟨rfl, hR, hG⟩
      have HR2 := hide hR
      have HG2 := hide (HG.out.trans hG)
      clear hR hG
      go_wp2
      go_ret
      exact ⟨rfl, HR2.out, HG2.out⟩
    · rw [if_neg h25]
      have hzn : ((z.toNat : Nat) : Int) = z := Int.toNat_of_nonneg hz0
      have HZ := hide hzn
      clear hzn
      go_enter Tryd.func100, Tryd.ntmps100
      go_wp2_with fail
      refine ct.mono ?_
      rintro e w' ⟨A, n, c, ds, rfl, hr, hd, hR, hG⟩
      obtain rfl : ds = [z] := hd
      obtain rfl : n = 1 := by rw [← hr.len]; rfl
      obtain ⟨b, off, rfl, hb, hc0⟩ := hr.see 0 (.int .u8 z) rfl
      rw [Nat.add_zero] at hc0
      have HR := hide hR
      have HG := hide hG
      clear hr hR hG ct
      go_wp2
      go_ret
      exact ⟨ret_int (by show z = (z.toNat : Int); exact HZ.out.symm), HR.out, HG.out⟩

/-- The end of what is read. -/
def Rd.fin (S : Rd Unit) : Rd Unit := match S with
  | .no e => .no e
  | .ok _ t => if t = [] then .ok () [] else .no 2
set_option maxHeartbeats 400000 in
theorem dend_any (g : Nat) (S : Rd Unit) (w : World) (h : Hid (DR w g S)) :
    Calls Tryd.prog 40 #[.pointer (some ⟨g, 0, none⟩)] w (DPost g S.fin (.tuple #[]) w) := by
  obtain ⟨A, n, c, zs, e, r, s, t⟩ := h.out
  have c0 := r.cell (k := 0) rfl
  have hl := s.len
  have hm := s.most
  by_cases h0 : n = 0
  · subst h0
    have E := hide (show S.fin = S by
      cases S with
      | no y => rfl
      | ok u l =>
        obtain ⟨-, rfl⟩ := t
        rw [List.eq_nil_of_length_eq_zero hl]
        rfl)
    clear r s t hl hm
    go_enter Tryd.func40, Tryd.ntmps40
    go_wp2
    go_end0
    rw [E.out]
    exact ⟨rfl, h.out, World.grownBy.refl w _⟩
  · have hz : (0 : Int) < (n : Int) := by omega
    have hn : 0 < n := by omega
    have E := hide (show S.fin = S.fl 2 by
      cases S with
      | no y => rfl
      | ok u l =>
        obtain ⟨-, rfl⟩ := t
        show (if zs = [] then (Rd.ok () [] : Rd Unit) else .no 2) = _
        rw [if_neg (fun e => by rw [e] at hl; simp at hl; omega)]
        rfl)
    clear r s t hl
    go_enter Tryd.func40, Tryd.ntmps40
    go_wp2_with fail
    refine (dfail_any g S 2 w h (by omega)).mono ?_
    rintro e1 w' ⟨rfl, hR, hG⟩
    have HR := hide hR
    have HG := hide hG
    clear hR hG
    go_wp2
    go_end0
    rw [E.out]
    exact ⟨rfl, HR.out, HG.out⟩
end Go.Proofs.YtgcjckbndkddmaaDoor
end
