import Derived.Test.YtgcjckbndkddmaaDoorMGd
import Derived.Test.YtgcjckbndkddmaaDoorMGb
import Derived.Test.YtgcjckbndkddmaaDoorMGa
import Derived.Test.YtgcjckbndkddmaaDoorMQfunc
import Derived.Laws.BytesArg
import Derived.Deep.DeepCutAuto
set_option linter.unusedVariables false
set_option linter.unusedSimpArgs false
section
/-
  The contract of the reference's CrcIs: whether the last four bytes are the checksum of those in front. Condition: from 4 to 2^40 bytes.
-/
namespace Go.Proofs.YtgcjckbndkddmaaDoor
open Go.RowKit

/-- Whether the bytes end in their checksum. -/
def crcB (zs : List Int) : Bool := decide (zs.drop (zs.length - 4) = crcI (crcN (zs.take (zs.length - 4))))
set_option maxRecDepth 100000 in
set_option maxHeartbeats 1600000 in
theorem rcrcis_any (b off m c : Nat) (zs : List Int) (B : Nat) (w : World) (hn : Hid (zs.length = m + 4)) (hm : m ≤ 1099511627776) (hc : m + 4 ≤ c) (hc2 : c ≤ 9223372036854775807) (hs : Hid (Sees w B (some ⟨b, off, none⟩) (cellsU8 zs))) (hz : Hid (Byt zs)) :
    Calls Tryd.prog 65 #[.slice (some ⟨b, off, none⟩) (m + 4) c] w fun e w' => e = .returned (.bool (crcB zs)) ∧ w = w' := by
  have cell : ∀ j, j < 4 → ∃ z, zs[m + j]? = some z ∧ w.cell? ⟨b, off + (m + j), none⟩ = some (.int .u8 z) := fun j hj => by
    have hl : m + j < zs.length := by rw [hn.out]; omega
    obtain ⟨b', off', z, e, _, hcell, _, _, hzk⟩ := byte_at (zs := zs) hs.out hl hz.out
    injection e with e
    injection e with e1 e2
    subst e1 e2
    exact ⟨z, hzk.out, hcell⟩
  obtain ⟨z0, x0, c0⟩ := cell 0 (by omega)
  obtain ⟨z1, x1, c1⟩ := cell 1 (by omega)
  obtain ⟨z2, x2, c2⟩ := cell 2 (by omega)
  obtain ⟨z3, x3, c3⟩ := cell 3 (by omega)
  have hdrop : zs.drop m = [z0, z1, z2, z3] := by
    rw [show m = m + 0 from rfl, drop_head x0, drop_head x1, drop_head x2, drop_head x3, List.drop_eq_nil_of_le (by rw [hn.out]; omega)]
  have hB := hide (show (crcB zs = true ↔ z0 = (crcN (zs.take m) : Nat) / 16777216 % 256 ∧ z1 = (crcN (zs.take m) : Nat) / 65536 % 256 ∧ z2 = (crcN (zs.take m) : Nat) / 256 % 256 ∧ z3 = (crcN (zs.take m) : Nat) % 256) by
    unfold crcB
    rw [hn.out, Nat.add_sub_cancel, hdrop]
    simp [crcI])
  have ct := refcrc_any (some ⟨b, off, none⟩) m c (zs.take m) B w (hide (by rw [List.length_take, hn.out]; omega)) (by omega) (by have := hs.out.take m; rwa [show (cellsU8 zs).take m = cellsU8 (zs.take m) by simp [cellsU8]] at this) (hide (hz.out.take m))
  rw [show 4294967295 - crcAll 4294967295 (zs.take m) = crcN (zs.take m) from rfl] at ct
  have hlt := crcN_lt (zs.take m)
  generalize crcN (zs.take m) = C at hB ct hlt
  rw [Nat.add_zero] at c0
  clear cell x0 x1 x2 x3 hdrop
  have hmz : (0 : Int) ≤ (m : Int) := by omega
  go_enter Tryd.func65, Tryd.ntmps65
  go_wp2_with fail
  refine ct.mono ?_
  rintro e w' ⟨rfl, rfl⟩
  have HB := hide hB
  clear hB
  go_wp2
  all_goals
    go_ret
    refine ⟨ret_bool ?_, rfl⟩
    rw [Bool.eq_iff_iff, HB.out.out]
    clear ct hs hz hn
    simp only [beq_eq_false_iff_ne, ne_eq, beq_iff_eq, Bool.false_eq_true, Bool.not_eq_true] at *
    first
      | omega
      | exact ⟨fun h => h.elim, fun h => by omega⟩
end Go.Proofs.YtgcjckbndkddmaaDoor
end

section
/-
  The reference's parse, where it ends at once. Conditions: those of the types.
-/
namespace Go.Proofs.YtgcjckbndkddmaaDoor
open Go.RowKit

/-- A slice of slices of bytes, from block lo on, below B. -/
structure DsL (w : World) (lo B : Nat) (A : Option Addr) (n c : Nat) (rs : List (Option Addr × Nat × Nat)) (D : List (List Int)) : Prop where
  len : D.length = n
  rlen : rs.length = n
  cap : Cap A n c
  far : Far lo A
  see : Sees w B A (rs.map fun r => .slice r.1 r.2.1 r.2.2)
  at_ : ∀ (k : Nat) (r : Option Addr × Nat × Nat) (d : List Int), rs[k]? = some r → D[k]? = some d → DsAt w lo B r.1 r.2.1 r.2.2 d
/-- What the reference's parse gives. -/
def PaPost (zs : List Int) (w : World) (e : Ending) (w' : World) : Prop :=
  ∃ (A : Option Addr) (n c : Nat) (hs : List Hd) (A' : Option Addr) (n' c' : Nat) (rs : List (Option Addr × Nat × Nat)), e = .returned (.tuple #[gv A n c, .slice A' n' c', .int .i64 (parseR zs).1]) ∧
    PgAt w' w.heap.size w'.heap.size A n c hs (parseF zs) ∧ DsL w' w.heap.size w'.heap.size A' n' c' rs (parseD zs) ∧ Below w.heap.size w w'
theorem zero_pg (w : World) (lo B : Nat) : PgAt w lo B none 0 0 [] [] := ⟨rfl, ⟨fun _ => rfl, Nat.le_refl _, Nat.zero_le _⟩, Far.none _, Sees.nil_ _ _ _, ⟨rfl, fun k h f e => by simp at e⟩⟩
theorem zero_dl (w : World) (lo B : Nat) : DsL w lo B none 0 0 [] [] := ⟨rfl, rfl, ⟨fun _ => rfl, Nat.le_refl _, Nat.zero_le _⟩, Far.none _, Sees.nil_ _ _ _, fun k r d e => by simp at e⟩
/-- An early end. -/
theorem pa_zero {zs : List Int} {e : Int} {w w' : World} (h : parseR zs = (e, [])) (hb : Below w.heap.size w w') : PaPost zs w (.returned (.tuple #[gv none 0 0, .slice none 0 0, .int .i64 e])) w' := by
  refine ⟨none, 0, 0, [], none, 0, 0, [], by rw [h], ?_, ?_, hb⟩
  · rw [show parseF zs = [] by unfold parseF; rw [h]; rfl]
    exact zero_pg _ _ _
  · rw [show parseD zs = [] by unfold parseD; rw [h]; rfl]
    exact zero_dl _ _ _
theorem below_put {B : Nat} {a w : World} (h : Below B a w) {gb : Nat} (hs : B ≤ w.heap.size) (hg : B ≤ gb) (k : Nat) (u : Value) : Below B a (w.setCell ⟨gb, k, none⟩ u) := h.grown (grown_put w gb k u) hs fun j hj => by injection hj with hj; omega

set_option maxRecDepth 100000 in
set_option maxHeartbeats 1600000 in
theorem parse_far (A : Option Addr) (n c : Nat) (zs : List Int) (w : World) (hn : Hid (zs.length = n)) (h : 1048576 < n) (hm : n ≤ 9223372036854775807) :
    Calls Tryd.prog 41 #[.slice A n c] w (PaPost zs w) := by
  have E := hide (show parseR zs = (3, []) by unfold parseR; rw [if_pos (by rw [hn.out]; exact h)])
  have hz : (1048576 : Int) < (n : Int) := by omega
  go_enter Tryd.func41, Tryd.ntmps41
  go_wp2
  have f0 := (Row.new w 28 [.slice none 0 0]).cell (k := 0) rfl
  have hb := below1 w (.cells #[.slice none 0 0] 28)
  exact bodyPost_ret (v := .tuple #[gv none 0 0, .slice none 0 0, .int .i64 3]) (by simp [results, Tryd.results41, go_sem, f0]) rfl (pa_zero E.out hb)

set_option maxRecDepth 100000 in
set_option maxHeartbeats 1600000 in
theorem parse_near (A : Option Addr) (n c : Nat) (zs : List Int) (w : World) (hn : Hid (zs.length = n)) (h : n < 9) :
    Calls Tryd.prog 41 #[.slice A n c] w (PaPost zs w) := by
  have E := hide (show parseR zs = (1, []) by unfold parseR; rw [if_neg (by rw [hn.out]; omega), if_pos (by rw [hn.out]; exact h)])
  have hz : (n : Int) < 9 := by omega
  go_enter Tryd.func41, Tryd.ntmps41
  go_wp2
  have f0 := (Row.new w 28 [.slice none 0 0]).cell (k := 0) rfl
  have hb := below1 w (.cells #[.slice none 0 0] 28)
  exact bodyPost_ret (v := .tuple #[gv none 0 0, .slice none 0 0, .int .i64 1]) (by simp [results, Tryd.results41, go_sem, f0]) rfl (pa_zero E.out hb)

/-- The first four bytes as a string. -/
theorem magic_str {xs : List Int} (hx : Byt xs) : (strOfNums xs = { data := #[83, 73, 82, 49] }) ↔ xs = magic := by
  constructor
  · intro h
    have h1 := congrArg (fun s : ByteArray => s.data.toList.map UInt8.toNat) h
    simp only [strOfNums, List.map_map] at h1
    have h2 : xs.map (UInt8.toNat ∘ fun n => UInt8.ofNat n.toNat) = xs.map Int.toNat := List.map_congr_left fun z hz => by
      have := hx z hz
      simp only [Function.comp]
      rw [UInt8.toNat_ofNat']
      omega
    rw [h2] at h1
    have h3 : xs = (xs.map Int.toNat).map (fun k : Nat => (k : Int)) := by
      rw [List.map_map]
      conv => lhs; rw [← List.map_id xs]
      refine List.map_congr_left fun z hz => ?_
      have := hx z hz
      simp only [Function.comp, id]
      omega
    rw [h3, h1]
    rfl
  · rintro rfl
    rfl

theorem no_magic {S : ByteArray} (h : ¬ S = { data := #[83, 73, 82, 49] }) : (S.toList == [83, 73, 82, 49]) = false := by
  rw [beq_eq_false_iff_ne]
  intro e
  rw [ByteArray.toList_eq] at e
  refine h ?_
  cases S with
  | mk d =>
    have : d = #[83, 73, 82, 49] := Array.toList_inj.1 (by simpa using e)
    rw [this]

set_option maxRecDepth 100000 in
set_option maxHeartbeats 1600000 in
theorem parse_bad (b off n c : Nat) (zs : List Int) (w : World) (hz : Hid (Src n c zs)) (hs : Hid (Sees w w.heap.size (some ⟨b, off, none⟩) (cellsU8 zs))) (h9 : 9 ≤ n) (hb : Hid (¬ (zs.take 4 = magic ∧ crcB zs = true))) :
    Calls Tryd.prog 41 #[.slice (some ⟨b, off, none⟩) n c] w (PaPost zs w) := by
  have h20 := hz.out.most
  have hnc := hz.out.nc
  have hcm := hz.out.cm
  have hz0 : (n : Int) ≤ 1048576 := by omega
  have hz1 : (9 : Int) ≤ (n : Int) := by omega
  obtain ⟨m, hm⟩ : ∃ m, n = m + 4 := ⟨n - 4, by omega⟩
  have E := hide (show parseR zs = (2, []) by
    unfold parseR
    rw [if_neg (by rw [hz.out.len]; omega), if_neg (by rw [hz.out.len]; omega), if_neg]
    intro h
    exact hb.out ⟨h.1, by unfold crcB; exact decide_eq_true h.2⟩)
  obtain ⟨W, hW⟩ : ∃ W, w.alloc (.cells #[.slice none 0 0] 28) = W := ⟨_, rfl⟩
  have HW := hide hW
  have hsW := hide (show Sees W w.heap.size (some ⟨b, off, none⟩) (cellsU8 zs) by rw [← hW]; exact hs.out.alloc (Nat.le_refl _) _)
  have f0 : W.cell? ⟨w.heap.size, 0, none⟩ = some (.slice none 0 0) := by rw [← hW]; exact (Row.new w 28 [.slice none 0 0]).cell (k := 0) rfl
  have f1 : W.frozen? ⟨w.heap.size, 0, none⟩ = false := by rw [← hW]; exact (Row.new w 28 [.slice none 0 0]).free 0
  have hbW := hide (show Below w.heap.size w W by rw [← hW]; exact below1 w _)
  have hsz : w.heap.size ≤ W.heap.size := hbW.out.size
  clear hW
  obtain ⟨S, hS⟩ : ∃ S, strOfNums (zs.take 4) = S := ⟨_, rfl⟩
  have hcv : (convert 22 9 (.slice (some ⟨b, off, none⟩) 4 c)).run Tryd.prog W = .ok (.string S) W := by
    rw [← hS]
    refine run_convert_bytes_arg W 22 5 Tryd.underlying22 Tryd.underlying5 b off 4 c (zs.take 4) (by rw [List.length_take, hz.out.len]; omega) (fun i hi => ?_) 9 Tryd.underlying9
    obtain ⟨b', off', z, e, _, hcell, _, _, hzk⟩ := byte_at (zs := zs) (k := i) hsW.out (by rw [hz.out.len]; omega) hz.out.byt
    injection e with e
    injection e with e1 e2
    subst e1 e2
    rw [hcell, List.getD_eq_getElem?_getD, List.getElem?_take, if_pos hi, hzk.out]
    rfl
  have hmg := hide (magic_str (hz.out.byt.take 4))
  rw [hS] at hmg
  clear hS
  by_cases hq : S = { data := #[83, 73, 82, 49] }
  · have hcb : crcB zs = false := by
      cases e : crcB zs with
      | false => rfl
      | true => exact absurd ⟨hmg.out.1 hq, e⟩ hb.out
    have ci : Calls Tryd.prog 65 #[.slice (some ⟨b, off, none⟩) n c] W fun e w' => e = .returned (.bool false) ∧ W = w' := by
      subst hm
      have ci := rcrcis_any b off m c zs w.heap.size W (hide hz.out.len) (by omega) hnc hcm hsW (hide hz.out.byt)
      rw [hcb] at ci
      exact ci
    subst hq
    clear hcb hm hcm
    go_enter Tryd.func41, Tryd.ntmps41
    go_upto_region 1 with (fail)
    rw [HW.out]
    go_wp2_with fail
    refine ci.mono ?_
    rintro e w' ⟨rfl, rfl⟩
    go_wp2
    have f2 : (W.setCell ⟨w.heap.size, 0, none⟩ (.slice none 0 0)).cell? ⟨w.heap.size, 0, none⟩ = some (.slice none 0 0) := World.cell?_setCell_same _ _ _ f0
    have hfin := below_put hbW.out hsz (Nat.le_refl _) 0 (.slice none 0 0)
    exact bodyPost_ret (v := .tuple #[gv none 0 0, .slice none 0 0, .int .i64 2]) (by simp [results, Tryd.results41, go_sem, f2]) rfl (pa_zero E.out hfin)
  · have hqb := no_magic hq
    clear hm hcm
    go_enter Tryd.func41, Tryd.ntmps41
    go_upto_region 1 with (fail)
    rw [HW.out]
    go_wp2
    have f2 : (W.setCell ⟨w.heap.size, 0, none⟩ (.slice none 0 0)).cell? ⟨w.heap.size, 0, none⟩ = some (.slice none 0 0) := World.cell?_setCell_same _ _ _ f0
    have hfin := below_put hbW.out hsz (Nat.le_refl _) 0 (.slice none 0 0)
    exact bodyPost_ret (v := .tuple #[gv none 0 0, .slice none 0 0, .int .i64 2]) (by simp [results, Tryd.results41, go_sem, f2]) rfl (pa_zero E.out hfin)
end Go.Proofs.YtgcjckbndkddmaaDoor
end

section
/-
  What the loop of the reference's parse keeps: the functions and the descriptions that were read. No function of the program is named here.
-/
namespace Go.Proofs.YtgcjckbndkddmaaDoor
open Go.RowKit

/-- An address lies in another block than L. -/
def OffB (L : Option Nat) (A : Option Addr) : Prop := ∀ a, A = some a → L ≠ some a.block
theorem Sees.keepL {w w' : World} {lo B : Nat} {A : Option Addr} {xs : List Value} {L : Option Nat} (h : Sees w B A xs) (hf : Far lo A) (ho : 0 < xs.length → OffB L A) (hk : ∀ p : Addr, lo ≤ p.block → p.block < B → L ≠ some p.block → w'.cell? p = w.cell? p) : Sees w' B A xs := fun k u hu => by
  obtain ⟨b, off, e, hb, hc⟩ := h k u hu
  have hl : 0 < xs.length := by
    rcases Nat.lt_or_ge 0 xs.length with h1 | h1
    · exact h1
    · rw [List.getElem?_eq_none (by omega)] at hu; cases hu
  have h1 : lo ≤ b := hf _ e
  have h2 : L ≠ some b := ho hl _ e
  exact ⟨b, off, e, hb, (hk ⟨b, off + k, none⟩ h1 hb h2).trans hc⟩
/-- What is seen lies below B. -/
theorem Sees.offNew {w : World} {B : Nat} {A : Option Addr} {xs : List Value} (h : Sees w B A xs) (hl : 0 < xs.length) {N : Nat} (hN : B ≤ N) : OffB (some N) A := fun a e h' => by
  obtain ⟨b, off, e', hb, _⟩ := h 0 xs[0] (List.getElem?_eq_getElem hl)
  rw [e'] at e
  injection e with e
  subst e
  injection h' with h'
  simp at h'
  omega
theorem Far.off {lo : Nat} {A : Option Addr} {L : Option Nat} (h : Far lo A) (hL : ∀ k, L = some k → k < lo) : OffB L A := fun a e h' => by
  have := h a e
  have := hL _ h'
  omega
theorem HdAt.keepL {w w' : World} {lo B : Nat} {h : Hd} {f : Fn} {L : Option Nat} (H : HdAt w lo B h f) (o1 : 0 < h.n1 → OffB L h.a1) (o2 : 0 < h.n2 → OffB L h.a2) (hk : ∀ p : Addr, lo ≤ p.block → p.block < B → L ≠ some p.block → w'.cell? p = w.cell? p) : HdAt w' lo B h f :=
  ⟨H.p, H.l1, H.l2, H.k1, H.k2, H.f1, H.f2, H.s1.keepL H.f1 (fun hl => o1 (by rw [pcells_length, H.l1] at hl; omega)) hk, H.s2.keepL H.f2 (fun hl => o2 (by rw [icells_length, H.l2] at hl; omega)) hk⟩
theorem DsAt.keepL {w w' : World} {lo B n c : Nat} {A : Option Addr} {d : List Int} {L : Option Nat} (H : DsAt w lo B A n c d) (o : 0 < n → OffB L A) (hk : ∀ p : Addr, lo ≤ p.block → p.block < B → L ≠ some p.block → w'.cell? p = w.cell? p) : DsAt w' lo B A n c d :=
  ⟨H.len, H.cap, H.far, H.see.keepL H.far (fun hl => o (by simp [cellsU8, H.len] at hl; omega)) hk⟩
theorem DsAt.more {w : World} {lo lo' B B' n c : Nat} {A : Option Addr} {d : List Int} (H : DsAt w lo B A n c d) (hB : B ≤ B') (hl : lo' ≤ lo) : DsAt w lo' B' A n c d := ⟨H.len, H.cap, H.far.more hl, H.see.more hB⟩
theorem DsAt.keep {w w' : World} {lo B n c : Nat} {A : Option Addr} {d : List Int} (H : DsAt w lo B A n c d) (hk : ∀ p : Addr, lo ≤ p.block → p.block < B → w'.cell? p = w.cell? p) : DsAt w' lo B A n c d := ⟨H.len, H.cap, H.far, H.see.keepF H.far hk⟩

abbrev Sl := Option Addr × Nat × Nat
def slv (r : Sl) : Value := .slice r.1 r.2.1 r.2.2
/-- What the loop keeps; block g: the reader; block gp: the program's own place; r0: the result's. -/
structure PaI (w2 : World) (g gp r0 b off n c : Nat) (zs : List Int) (m : Nat) (S : Rd Unit) (A : Option Addr) (i cA : Nat) (hs : List Hd) (F : Pg) (lv : Value) (rs : List Sl) (D : List (List Int)) (wr : World) : Prop where
  kp : Kp w2 g b off n c zs m S wr
  row : Row wr gp 28 [.slice A i cA]
  res : Row wr r0 28 [.slice none 0 0]
  pg : PgAt wr (gp + 1) wr.heap.size A i cA hs F
  own : wr.ownsRow (gp + 1) 22 1 lv i (rs.map slv)
  dl : D.length = i
  ds : ∀ (k : Nat) (r : Sl) (d : List Int), rs[k]? = some r → D[k]? = some d → DsAt wr (gp + 1) wr.heap.size r.1 r.2.1 r.2.2 d
  o1 : 0 < i → OffB lv.ownBlock A
  o2 : ∀ h ∈ hs, (0 < h.n1 → OffB lv.ownBlock h.a1) ∧ (0 < h.n2 → OffB lv.ownBlock h.a2)
  o3 : ∀ r ∈ rs, 0 < r.2.1 → OffB lv.ownBlock r.1

section
variable {w2 wr w4 wb w6 w8 w' : World} {g gp r0 b off n c m i cA cA' : Nat} {zs : List Int} {S T : Rd Unit} {A A' : Option Addr} {hs : List Hd} {F : Pg} {lv lv' : Value} {rs : List Sl} {D : List (List Int)}
theorem PaI.rl (H : PaI w2 g gp r0 b off n c zs m S A i cA hs F lv rs D wr) : rs.length = i := by have := own_len H.own; simpa using this
/-- Nothing but the reader's state has turned. -/
theorem PaI.next (H : PaI w2 g gp r0 b off n c zs m S A i cA hs F lv rs D wr) (hgp : g < gp) (hr0 : r0 ≠ g) (hr : RdSt w' g b off n c zs m T) (hG : wr.grownBy w' (some g)) : PaI w2 g gp r0 b off n c zs m T A i cA hs F lv rs D w' := by
  have hk : ∀ p : Addr, gp + 1 ≤ p.block → p.block < wr.heap.size → w'.cell? p = wr.cell? p := fun p h1 h2 => World.cell?_of_block (hG.block p.block h2 (fun e => by injection e with e; omega))
  exact ⟨H.kp.to hr hG, H.row.grown hG (fun e => by injection e with e; omega), H.res.grown hG (fun e => by injection e with e; exact hr0 e), (H.pg.keep hk).more hG.size (Nat.le_refl _), H.own.kept hG (by
    cases e : lv.ownBlock with
    | none => exact .inl rfl
    | some k => exact .inr fun h => by have := (H.own.lt k e).1; injection h with h; omega), H.dl, fun k r d e1 e2 => ((H.ds k r d e1 e2).keep hk).more hG.size (Nat.le_refl _), H.o1, H.o2, H.o3⟩
/-- One function more. -/
theorem PaI.add {P : Int} {A1 A2 A3 : Option Addr} {n1 c1 n2 c2 n3 c3 : Nat} {f : Fn} {d : List Int} {t t' : TypeId} (H : PaI w2 g gp r0 b off n c zs m S A i cA hs F lv rs D wr) (hgp : g < gp) (hr0 : r0 < g) (hw2 : w2.heap.size ≤ gp) (hgw : g < w2.heap.size) (hi : i ≤ 1000)
    (hh : HdAt w4 wr.heap.size w4.heap.size ⟨P, A1, n1, c1, A2, n2, c2⟩ f) (hd : DsAt w4 wr.heap.size w4.heap.size A3 n3 c3 d) (hr : RdSt w4 g b off n c zs m T) (hG : wr.grownBy w4 (some g))
    (hwb : w4.alloc (.cells #[.int .i64 P, .slice A1 n1 c1, .slice A2 n2 c2] t) = wb) (hG6 : wb.grownBy w6 none) (ho6 : w6.ownsRow wb.heap.size 53 3 (.slice A' (i + 1) cA') (i + 1) (hcells hs ++ hcell ⟨P, A1, n1, c1, A2, n2, c2⟩))
    (hg8 : ((w6.setCell ⟨gp, 0, none⟩ (.slice A' (i + 1) cA')).alloc (.cells #[.slice A3 n3 c3] t')).grownBy w8 lv.ownBlock) (ho8 : w8.ownsRow (gp + 1) 22 1 lv' (i + 1) (rs.map slv ++ [.slice A3 n3 c3]))
    (hL : ∀ k, lv'.ownBlock = some k → lv.ownBlock = some k ∨ k = w6.heap.size + 1) :
    PaI w2 g gp r0 b off n c zs m T A' (i + 1) cA' (hs ++ [⟨P, A1, n1, c1, A2, n2, c2⟩]) (F ++ [f]) lv' (rs ++ [(A3, n3, c3)]) (D ++ [d]) w8 := by
  have hgl := H.row.lt
  have hrl := H.rl
  have hhl : hs.length = i := by rw [H.pg.hd.len, H.pg.len]
  have s4 : wr.heap.size ≤ w4.heap.size := hG.size
  have sb : wb.heap.size = w4.heap.size + 1 := by rw [← hwb]; simp
  have s6 : wb.heap.size ≤ w6.heap.size := hG6.size
  have s8 : w6.heap.size + 1 ≤ w8.heap.size := by have := hg8.size; simpa [World.setCell] using this
  have hdN : ((w6.setCell ⟨gp, 0, none⟩ (.slice A' (i + 1) cA')).alloc (.cells #[.slice A3 n3 c3] t')).heap.size = w6.heap.size + 1 := by simp [World.setCell]
  have hLlt : ∀ k, lv.ownBlock = some k → k < wr.heap.size := fun k e => (H.own.lt k e).2
  -- from w6 on, off L
  have k68 : ∀ p : Addr, gp + 1 ≤ p.block → p.block < w6.heap.size → lv.ownBlock ≠ some p.block → w8.cell? p = w6.cell? p := fun p h1 h2 h3 => by
    rw [World.cell?_of_block (hg8.block p.block (by rw [hdN]; omega) (fun e => h3 e.symm)), World.cell?_alloc_lt _ _ p (by simpa [World.setCell] using h2), World.cell?_setCell_other _ _ _ _ (fun e => by have := congrArg Addr.block e; simp at this; omega)]
  have k46 : ∀ p : Addr, p.block < w4.heap.size → w6.cell? p = w4.cell? p := fun p h => by
    rw [World.cell?_of_block (hG6.block p.block (by omega) (fun e => by cases e)), ← hwb, World.cell?_alloc_lt w4 _ p h]
  have kr4 : ∀ p : Addr, gp + 1 ≤ p.block → p.block < wr.heap.size → w4.cell? p = wr.cell? p := fun p h1 h2 => World.cell?_of_block (hG.block p.block h2 (fun e => by injection e with e; omega))
  have kr8 : ∀ p : Addr, gp + 1 ≤ p.block → p.block < wr.heap.size → lv.ownBlock ≠ some p.block → w8.cell? p = wr.cell? p := fun p h1 h2 h3 => by
    rw [k68 p h1 (by omega) h3, k46 p (by omega), kr4 p h1 h2]
  have k48 : ∀ p : Addr, wr.heap.size ≤ p.block → p.block < w4.heap.size → w8.cell? p = w4.cell? p := fun p h1 h2 => by
    rw [k68 p (by omega) (by omega) (fun e => by have := hLlt _ e; omega), k46 p h2]
  obtain ⟨Ax, cx, ex, hA, hmc, hfar, hsee⟩ := own_seen ho6
  injection ex with ex1 _ ex3
  subst ex1 ex3
  -- the blocks that are not the new place of the list
  have off_of : ∀ {A0 : Option Addr} {xs : List Value}, (0 < xs.length → OffB lv.ownBlock A0) → (∃ (wq : World) (B : Nat), Sees wq B A0 xs ∧ B ≤ w6.heap.size) → (0 < xs.length → OffB lv'.ownBlock A0) := fun {A0 xs} h1 h2 hl a e h' => by
    obtain ⟨wq, B, hsq, hB⟩ := h2
    rcases hL _ h' with h3 | h3
    · exact h1 hl a e h3
    · exact hsq.offNew hl (N := w6.heap.size + 1) (by omega) a e (by rw [h3])
  have rowgp := ((H.row.grown hG (fun e => by injection e with e; omega)).alloc (.cells #[.int .i64 P, .slice A1 n1 c1, .slice A2 n2 c2] t))
  rw [hwb] at rowgp
  have row6 := (rowgp.grown hG6 (fun e => by cases e)).set_ 0 (.slice A' (i + 1) cA')
  have row8 := (row6.alloc (.cells #[.slice A3 n3 c3] t')).grown hg8 (own_far_block H.own (by omega))
  have res4 := ((H.res.grown hG (fun e => by injection e with e; omega)).alloc (.cells #[.int .i64 P, .slice A1 n1 c1, .slice A2 n2 c2] t))
  rw [hwb] at res4
  have res8 := (((res4.grown hG6 (fun e => by cases e)).far (p := ⟨gp, 0, none⟩) (by simp; omega) (.slice A' (i + 1) cA')).alloc (.cells #[.slice A3 n3 c3] t')).grown hg8 (own_far_block H.own (by omega))
  have K4 := H.kp.to hr hG
  have K6 : Kp w2 g b off n c zs m T w6 := by
    have := K4.alloc (.cells #[.int .i64 P, .slice A1 n1 c1, .slice A2 n2 c2] t)
    rw [hwb] at this
    exact ⟨this.r.kept hG6 (fun k e => by cases e), this.g.andThen hG6 (fun k e => by cases e)⟩
  have K7 := (K6.set hw2 hgw 0 (.slice A' (i + 1) cA')).alloc (.cells #[.slice A3 n3 c3] t')
  have K8 : Kp w2 g b off n c zs m T w8 := ⟨K7.r.kept hg8 (fun k e => by have := (H.own.lt k e).1; omega), K7.g.andThen hg8 (fun k e => .inl (by have := (H.own.lt k e).1; omega))⟩
  have oldA : 0 < (hcells hs).length → OffB lv.ownBlock A := fun hl => H.o1 (by rw [hcells_length, hhl] at hl; omega)
  refine ⟨K8, row8, res8, ⟨by simp [H.pg.len], ⟨hA, hmc, show i + 1 ≤ 8796093022208 by omega⟩, hfar.more (by omega), ?_, ⟨by simp [H.pg.hd.len], fun k h f' e1 e2 => ?_⟩⟩, by rw [List.map_append]; exact ho8, by simp [H.dl], fun k r d' e1 e2 => ?_, fun _ => ?_, fun h hmem => ?_, fun r hmem hl => ?_⟩
  · rw [hcells_append, show hcells [(⟨P, A1, n1, c1, A2, n2, c2⟩ : Hd)] = hcell ⟨P, A1, n1, c1, A2, n2, c2⟩ from by simp [hcells]]
    exact (hsee.keepF hfar (fun p h1 h2 => k68 p (by omega) h2 (fun e => by have := hLlt _ e; omega))).more (by omega)
  · rcases Nat.lt_or_ge k i with hk | hk
    · rw [List.getElem?_append_left (by omega)] at e1
      rw [List.getElem?_append_left (by rw [H.pg.len]; exact hk)] at e2
      have ho := H.o2 h (List.mem_of_getElem? e1)
      exact ((H.pg.hd.at_ k h f' e1 e2).keepL ho.1 ho.2 (fun p h1 h2 h3 => kr8 p h1 h2 h3)).more (by omega) (Nat.le_refl _)
    · rw [List.getElem?_append_right (by omega), hhl] at e1
      rw [List.getElem?_append_right (by rw [H.pg.len]; exact hk), H.pg.len] at e2
      cases hz : k - i with
      | zero =>
        rw [hz] at e1 e2
        simp at e1 e2
        subst e1 e2
        exact (hh.keep (fun p h1 h2 => k48 p h1 h2)).more (by omega) (by omega)
      | succ j => rw [hz] at e1; simp at e1
  · rcases Nat.lt_or_ge k i with hk | hk
    · rw [List.getElem?_append_left (by omega)] at e1
      rw [List.getElem?_append_left (by rw [H.dl]; exact hk)] at e2
      exact ((H.ds k r d' e1 e2).keepL (H.o3 r (List.mem_of_getElem? e1)) (fun p h1 h2 h3 => kr8 p h1 h2 h3)).more (by omega) (Nat.le_refl _)
    · rw [List.getElem?_append_right (by omega), hrl] at e1
      rw [List.getElem?_append_right (by rw [H.dl]; exact hk), H.dl] at e2
      cases hz : k - i with
      | zero =>
        rw [hz] at e1 e2
        simp at e1 e2
        subst e1 e2
        exact (hd.keep (fun p h1 h2 => k48 p h1 h2)).more (by omega) (by omega)
      | succ j => rw [hz] at e1; simp at e1
  · exact off_of (fun _ => hfar.off (fun k e => by have := hLlt k e; omega)) ⟨w6, w6.heap.size, hsee, Nat.le_refl _⟩ (by rw [List.length_append, hcells_length, hcell_len]; omega)
  · rcases List.mem_append.1 hmem with h1 | h1
    · obtain ⟨k, hk, hkk⟩ := List.mem_iff_getElem.1 h1
      have e1 : hs[k]? = some h := by rw [← hkk]; exact List.getElem?_eq_getElem hk
      have hkF : k < F.length := by rw [H.pg.len]; omega
      have X := H.pg.hd.at_ k h _ e1 (List.getElem?_eq_getElem hkF)
      have ho := H.o2 h h1
      refine ⟨fun hl => off_of (xs := pcells F[k].slots) (fun _ => ho.1 hl) ⟨wr, wr.heap.size, X.s1, by omega⟩ (by rw [pcells_length, X.l1]; omega), fun hl => off_of (xs := icells F[k].code) (fun _ => ho.2 hl) ⟨wr, wr.heap.size, X.s2, by omega⟩ (by rw [icells_length, X.l2]; omega)⟩
    · simp at h1
      subst h1
      refine ⟨fun hl => off_of (xs := pcells f.slots) (fun _ => hh.f1.off (fun k e => hLlt k e)) ⟨w4, w4.heap.size, hh.s1, by omega⟩ (by rw [pcells_length, hh.l1]; simp only at hl ⊢; omega), fun hl => off_of (xs := icells f.code) (fun _ => hh.f2.off (fun k e => hLlt k e)) ⟨w4, w4.heap.size, hh.s2, by omega⟩ (by rw [icells_length, hh.l2]; simp only at hl ⊢; omega)⟩
  · rcases List.mem_append.1 hmem with h1 | h1
    · obtain ⟨k, hk, hkk⟩ := List.mem_iff_getElem.1 h1
      have e1 : rs[k]? = some r := by rw [← hkk]; exact List.getElem?_eq_getElem hk
      have hkD : k < D.length := by rw [H.dl]; omega
      have X := H.ds k r _ e1 (List.getElem?_eq_getElem hkD)
      exact off_of (xs := cellsU8 D[k]) (fun _ => H.o3 r h1 hl) ⟨wr, wr.heap.size, X.see, by omega⟩ (by simp [cellsU8, X.len]; omega)
    · simp at h1
      subst h1
      exact off_of (xs := cellsU8 d) (fun _ => hd.far.off (fun k e => hLlt k e)) ⟨w4, w4.heap.size, hd.see, by omega⟩ (by simp [cellsU8, hd.len]; exact hl)
end
end Go.Proofs.YtgcjckbndkddmaaDoor
end
