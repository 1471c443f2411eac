import Derived.Test.YtafegghdhdgioabGreatMMtgm
import Derived.Test.YtafegghdhdgioabGreatMNgo
import Derived.Test.YtafegghdhdgioabGreatMNfue
set_option linter.unusedVariables false
set_option linter.unusedSimpArgs false
section
/-
  Runs on two stacks (chapter 12): while the smaller one has room, both take the same steps; where it has none, the other run is deeper. Nothing here names the program.
-/
namespace Go.Proofs.YtafegghdhdgioabGreat
open Go.RowKit

/-- Two machines that differ by their stacks alone: d bytes more below. -/
structure RelT (T0 d : Nat) (s s' : Tm) : Prop where
  c : s'.c = s.c
  st : s'.st = s.st
  deep : s'.deep = s.deep
  sp : s'.mem.sp = s.mem.sp + d
  le : s.mem.sp ≤ T0
  l1 : T0 ≤ s.mem.bs.length
  l2 : T0 + d ≤ s'.mem.bs.length
  o1 : s.mem.Ok
  o2 : s'.mem.Ok
  us : ∀ i, s.mem.sp ≤ i → i < T0 → s'.mem.us[i + d]? = s.mem.us[i]?
  bs : ∀ i, s.mem.sp ≤ i → i < T0 → s.mem.us[i]? = some true → s'.mem.bs[i + d]? = s.mem.bs[i]?
section
variable {F : Tg} {T0 d : Nat} {s s' : Tm} {Al : Int}
theorem RelT.core (h : RelT T0 d s s') (c : Co) : RelT T0 d { s with c := c } { s' with c := c } := ⟨rfl, h.st, h.deep, h.sp, h.le, h.l1, h.l2, h.o1, h.o2, h.us, h.bs⟩
theorem RelT.stop (h : RelT T0 d s s') (k : Int) : RelT T0 d (s.stop k) (s'.stop k) := by
  unfold Tm.stop
  rw [h.c]
  exact h.core _
theorem RelT.used (h : RelT T0 d s s') {o n : Nat} (hb : s.mem.sp + o + n ≤ T0) : usedB s'.mem (s'.mem.sp + o) n = usedB s.mem (s.mem.sp + o) n := by
  have e1 := h.o1.len
  have e2 := h.o2.len
  have := h.l1
  have := h.l2
  have hsp := h.sp
  have key : usedB s'.mem (s'.mem.sp + o) n = true ↔ usedB s.mem (s.mem.sp + o) n = true := by
    rw [used_iff (by omega), used_iff (by omega)]
    constructor
    · intro h1 k hk
      rw [← h1 k hk, hsp, show s.mem.sp + d + o + k = s.mem.sp + o + k + d by omega, h.us _ (by omega) (by omega)]
    · intro h1 k hk
      rw [← h1 k hk, hsp, show s.mem.sp + d + o + k = s.mem.sp + o + k + d by omega, h.us _ (by omega) (by omega)]
  cases h1 : usedB s.mem (s.mem.sp + o) n <;> cases h2 : usedB s'.mem (s'.mem.sp + o) n <;> simp_all
theorem RelT.cut (h : RelT T0 d s s') {o n : Nat} (hb : s.mem.sp + o + n ≤ T0) (hu : usedB s.mem (s.mem.sp + o) n = true) : cutS s'.mem (s'.mem.sp + o) n = cutS s.mem (s.mem.sp + o) n := by
  have := h.l1
  have := h.l2
  have e1 := h.o1.len
  have hsp := h.sp
  rw [used_iff (by omega)] at hu
  apply List.ext_getElem?
  intro k
  unfold cutS
  rw [List.getElem?_take, List.getElem?_take]
  by_cases hk : k < n
  · rw [if_pos hk, if_pos hk, List.getElem?_drop, List.getElem?_drop, hsp, show s.mem.sp + d + o + k = s.mem.sp + o + k + d by omega]
    exact h.bs _ (by omega) (by omega) (hu k hk)
  · rw [if_neg hk, if_neg hk]
theorem RelT.put (h : RelT T0 d s s') {o : Nat} {zs : List Int} (hb : s.mem.sp + o + zs.length ≤ T0) (hz : ∀ z ∈ zs, 0 ≤ z ∧ z ≤ 255) : RelT T0 d { s with mem := putS s.mem (s.mem.sp + o) zs } { s' with mem := putS s'.mem (s'.mem.sp + o) zs } := by
  have h1 := h.l1
  have h2 := h.l2
  have e1 := h.o1.len
  have e2 := h.o2.len
  have hsp := h.sp
  have p1 := put_len (S := s.mem) (a := s.mem.sp + o) (zs := zs) (by omega)
  have p2 := put_len (S := s'.mem) (a := s'.mem.sp + o) (zs := zs) (by omega)
  refine ⟨h.c, h.st, h.deep, hsp, h.le, by show T0 ≤ (putS _ _ _).bs.length; rw [p1]; exact h1, by show T0 + d ≤ (putS _ _ _).bs.length; rw [p2]; exact h2, h.o1.put (by omega) hz, h.o2.put (by omega) hz, fun i hi hi2 => ?_, fun i hi hi2 hu => ?_⟩
  · have hi : s.mem.sp ≤ i := hi
    show (splice s'.mem.us (s'.mem.sp + o) _)[i + d]? = (splice s.mem.us (s.mem.sp + o) _)[i]?
    rw [splice_at _ _ _ (by simp; omega), splice_at _ _ _ (by simp; omega)]
    simp only [List.length_replicate]
    by_cases c1 : i < s.mem.sp + o
    · rw [if_pos c1, if_pos (by omega)]; exact h.us i hi hi2
    · rw [if_neg c1, if_neg (by omega)]
      by_cases c2 : i < s.mem.sp + o + zs.length
      · rw [if_pos c2, if_pos (by omega)]; congr 1; omega
      · rw [if_neg c2, if_neg (by omega)]; exact h.us i hi hi2
  · have hi : s.mem.sp ≤ i := hi
    have hu : (splice s.mem.us (s.mem.sp + o) (List.replicate zs.length true))[i]? = some true := hu
    show (splice s'.mem.bs (s'.mem.sp + o) zs)[i + d]? = (splice s.mem.bs (s.mem.sp + o) zs)[i]?
    rw [splice_at _ _ _ (by simp; omega)] at hu
    simp only [List.length_replicate] at hu
    rw [splice_at _ _ _ (by omega), splice_at _ _ _ (by omega)]
    by_cases c1 : i < s.mem.sp + o
    · rw [if_pos c1] at hu
      rw [if_pos c1, if_pos (by omega)]; exact h.bs i hi hi2 hu
    · rw [if_neg c1] at hu
      rw [if_neg c1, if_neg (by omega)]
      by_cases c2 : i < s.mem.sp + o + zs.length
      · rw [if_pos c2, if_pos (by omega)]; congr 1; omega
      · rw [if_neg c2] at hu
        rw [if_neg c2, if_neg (by omega)]; exact h.bs i hi hi2 hu
theorem access_load {x : Ins} (h : x.op = 15) (hf : fitB s.mem x.b x.c = true) : s.access x = if usedB s.mem (s.mem.sp + x.b.toNat) x.c.toNat = false then { s with c := (s.c.setR x.a 0).stop 3 } else { s with c := s.c.setR x.a (valOf (cutS s.mem (s.mem.sp + x.b.toNat) x.c.toNat)) } := by
  unfold Tm.access
  rw [if_pos h, if_neg (show ¬ fitB s.mem x.b x.c = false by rw [hf]; decide)]
theorem access_store {x : Ins} (h : x.op = 16) (hf : fitB s.mem x.a x.c = true) : s.access x = { s with mem := storeS s.mem (s.mem.sp + x.a.toNat) x.c.toNat (s.c.reg x.b) } := by
  unfold Tm.access
  rw [if_neg (show ¬ x.op = 15 by omega), if_pos h, if_neg (show ¬ fitB s.mem x.a x.c = false by rw [hf]; decide)]
theorem access_move {x : Ins} (h : x.op = 17) (hf : fitB s.mem x.a x.c = true) (hf2 : fitB s.mem x.b x.c = true) : s.access x = if usedB s.mem (s.mem.sp + x.b.toNat) x.c.toNat = false then s.stop 3 else { s with mem := putS s.mem (s.mem.sp + x.a.toNat) (cutS s.mem (s.mem.sp + x.b.toNat) x.c.toNat) } := by
  unfold Tm.access
  rw [if_neg (show ¬ x.op = 15 by omega), if_neg (show ¬ x.op = 16 by omega), if_neg (show ¬ (fitB s.mem x.a x.c = false ∨ fitB s.mem x.b x.c = false) by rw [hf, hf2]; simp)]
theorem rel_access (h : RelT T0 d s s') {x : Ins} (ha : AccOk T0 s x) : RelT T0 d (s.access x) (s'.access x) := by
  have hsz := sz_pos ha.sz
  have h1 := h.l1
  have h2 := h.l2
  have hsp := h.sp
  rcases ha.op with hop | hop | hop
  · obtain ⟨r1, r2⟩ := ha.rd (by omega)
    have hb := fit_of (S := s.mem) ha.sz r1 (by omega)
    have hb' := fit_of (S := s'.mem) ha.sz r1 (by omega)
    rw [access_load hop hb, access_load hop hb', h.used r2, h.c]
    by_cases hu : usedB s.mem (s.mem.sp + x.b.toNat) x.c.toNat = false
    · rw [if_pos hu, if_pos hu]
      exact h.core _
    · rw [if_neg hu, if_neg hu, h.cut r2 (by simpa using hu)]
      exact h.core _
  · obtain ⟨r1, r2⟩ := ha.wr (by omega)
    have hb := fit_of (S := s.mem) ha.sz r1 (by omega)
    have hb' := fit_of (S := s'.mem) ha.sz r1 (by omega)
    rw [access_store hop hb, access_store hop hb', h.c]
    have := h.put (o := x.a.toNat) (zs := bytesV (s.c.reg x.b) x.c.toNat) (by rw [bytesV_length]; exact r2) (bytesV_mem _ _)
    rw [h.c] at this
    exact this
  · obtain ⟨r1, r2⟩ := ha.wr (by omega)
    have hb := fit_of (S := s.mem) ha.sz r1 (by omega)
    have hb' := fit_of (S := s'.mem) ha.sz r1 (by omega)
    obtain ⟨r3, r4⟩ := ha.rd (by omega)
    have hc := fit_of (S := s.mem) ha.sz r3 (by omega)
    have hc' := fit_of (S := s'.mem) ha.sz r3 (by omega)
    rw [access_move hop hb hc, access_move hop hb' hc', h.used r4]
    by_cases hu : usedB s.mem (s.mem.sp + x.b.toNat) x.c.toNat = false
    · rw [if_pos hu, if_pos hu]
      exact h.stop 3
    · rw [if_neg hu, if_neg hu, h.cut r4 (by simpa using hu)]
      exact h.put (by rw [cut_len (by omega)]; exact r2) (cut_byt h.o1 _ _)
/-- An end by overflow, where the other run overflows, too, or is deeper than the smaller stack. -/
def OverR (T0 : Nat) (s s' : Tm) : Prop := (s.c.ended = true ∧ s.c.kind = 5) ∧ ((s'.c.ended = true ∧ s'.c.kind = 5) ∨ T0 < s'.deep)
theorem rel_enter (h : RelT T0 d s s') (n : Nat) : RelT T0 d (s.enter F T0 n) (s'.enter F (T0 + d) n) ∨ OverR T0 (s.enter F T0 n) (s'.enter F (T0 + d) n) := by
  have h1 := h.l1
  have h2 := h.l2
  have hle := h.le
  have hsp := h.sp
  have e1 := h.o1.len
  have e2 := h.o2.len
  unfold Tm.enter
  by_cases c1 : s.mem.sp < fsz F n
  · rw [if_pos c1]
    right
    by_cases c2 : s'.mem.sp < fsz F n
    · rw [if_pos c2]
      exact ⟨⟨rfl, rfl⟩, .inl ⟨rfl, rfl⟩⟩
    · rw [if_neg c2]
      refine ⟨⟨rfl, rfl⟩, .inr ?_⟩
      show T0 < max s'.deep (T0 + d - (s'.mem.sp - fsz F n))
      omega
  · rw [if_neg c1, if_neg (by omega)]
    left
    have p1 := h.o1.push (n := fsz F n) (by omega)
    have p2 := h.o2.push (n := fsz F n) (by omega)
    refine ⟨h.c, by show s'.st ++ _ = s.st ++ _; rw [h.st], ?_, ?_, ?_, h1, h2, p1, p2, fun i hi hi2 => ?_, fun i hi hi2 hu => ?_⟩
    · show max s'.deep (T0 + d - (s'.mem.sp - fsz F n)) = max s.deep (T0 - (s.mem.sp - fsz F n))
      rw [h.deep, hsp, show T0 + d - (s.mem.sp + d - fsz F n) = T0 - (s.mem.sp - fsz F n) by omega]
    · show s'.mem.sp - fsz F n = s.mem.sp - fsz F n + d
      omega
    · show s.mem.sp - fsz F n ≤ T0
      omega
    · have hi : s.mem.sp - fsz F n ≤ i := hi
      show (splice s'.mem.us (s'.mem.sp - fsz F n) _)[i + d]? = (splice s.mem.us (s.mem.sp - fsz F n) _)[i]?
      rw [splice_at _ _ _ (by simp; omega), splice_at _ _ _ (by simp; omega)]
      simp only [List.length_replicate]
      rw [if_neg (show ¬ i < s.mem.sp - fsz F n by omega), if_neg (show ¬ i + d < s'.mem.sp - fsz F n by omega)]
      by_cases c2 : i < s.mem.sp
      · rw [if_pos (show i < s.mem.sp - fsz F n + fsz F n by omega), if_pos (show i + d < s'.mem.sp - fsz F n + fsz F n by omega)]; congr 1; omega
      · rw [if_neg (show ¬ i < s.mem.sp - fsz F n + fsz F n by omega), if_neg (show ¬ i + d < s'.mem.sp - fsz F n + fsz F n by omega)]; exact h.us i (by omega) hi2
    · have hi : s.mem.sp - fsz F n ≤ i := hi
      have hu : (splice s.mem.us (s.mem.sp - fsz F n) (List.replicate (fsz F n) false))[i]? = some true := hu
      rw [splice_at _ _ _ (by simp; omega)] at hu
      simp only [List.length_replicate] at hu
      rw [if_neg (by omega)] at hu
      by_cases c2 : i < s.mem.sp
      · rw [if_pos (by omega), List.getElem?_replicate] at hu
        split at hu
        · injection hu with hu; cases hu
        · cases hu
      · rw [if_neg (by omega)] at hu
        exact h.bs i (by omega) hi2 hu
theorem RelT.top (h : RelT T0 d s s') : s'.top = s.top := by unfold Tm.top; rw [h.st]
theorem RelT.cur (h : RelT T0 d s s') : s'.cur F = s.cur F := by unfold Tm.cur; rw [h.top]
theorem RelT.fetched (h : RelT T0 d s s') (x : Ins) : RelT T0 d (s.fetched x) (s'.fetched x) := by
  unfold Tm.fetched Tm.setTop
  dsimp only
  rw [h.c, h.st, h.top]
  exact ⟨rfl, rfl, h.deep, h.sp, h.le, h.l1, h.l2, h.o1, h.o2, h.us, h.bs⟩
theorem rel_leave (h : RelT T0 d s s') (hb : s.mem.sp + fsz F s.top.1 ≤ T0) : RelT T0 d (s.leave F) (s'.leave F) := by
  have h1 := h.l1
  have h2 := h.l2
  have hsp := h.sp
  unfold Tm.leave
  dsimp only
  rw [h.top, h.st, h.c]
  have hk : RelT T0 d { s with mem := popS s.mem (fsz F s.top.1), st := s.st.dropLast } { s' with mem := popS s'.mem (fsz F s.top.1), st := s.st.dropLast } := by
      refine ⟨h.c, rfl, h.deep, by show s'.mem.sp + _ = s.mem.sp + _ + d; omega, by show s.mem.sp + _ ≤ T0; omega, h1, h2, h.o1.pop (by omega), h.o2.pop (by omega), fun i hi hi2 => h.us i ?_ hi2, fun i hi hi2 hu => h.bs i ?_ hi2 hu⟩
      · have hi : s.mem.sp + fsz F s.top.1 ≤ i := hi
        omega
      · have hi : s.mem.sp + fsz F s.top.1 ≤ i := hi
        omega
  split
  · exact hk.core _
  · have h4 := hk.core s.c
    exact h4
theorem rel_step (hR : RightT Al F) (v : VT F T0 s) (h : RelT T0 d s s') : RelT T0 d (s.step F T0) (s'.step F (T0 + d)) ∨ OverR T0 (s.step F T0) (s'.step F (T0 + d)) := by
  obtain ⟨f, hf, hp, hx⟩ := v.next_at
  have hfe := h.fetched (s.cur F)
  have hstep : s'.step F (T0 + d) = (s'.fetched (s.cur F)).exec F (T0 + d) (s.cur F) := by unfold Tm.step; rw [h.cur]
  rw [hstep]
  unfold Tm.exec
  rcases v.sort hR hf hx with ⟨hop, v, a, e⟩ | ⟨hop, v, g, hg, _, hc, hr, hs, e⟩ | ⟨hop, e⟩ | ⟨hop, e⟩ | ⟨hk, v, ht, e⟩
  · rw [e, if_pos hop]
    exact .inl (rel_access hfe a)
  · rw [e, if_neg (by omega), if_pos hop]
    exact rel_enter hfe _
  · rw [e, if_neg (by omega), if_neg (by omega), if_pos hop]
    obtain ⟨ys, z, e2, ht, hd⟩ := v.split
    have hsum := v.sum
    rw [e2, sumZ_app, sumZ_one] at hsum
    have htop : (s.fetched (s.cur F)).top.1 = z.1 := by
      unfold Tm.top
      rw [show (s.fetched (s.cur F)).st = s.st.dropLast ++ [(s.top.1, (s.c.more.next (s.cur F) (s.top.2 : Int)).toNat)] from rfl, List.getLastD_concat, ht]
    exact .inl (rel_leave hfe (by rw [htop]; show s.mem.sp + fsz F z.1 ≤ T0; omega))
  · rw [if_neg (by omega), if_neg (by omega), if_neg (by omega)]
    have e' : s.step F T0 = { s.fetched (s.cur F) with c := (s.fetched (s.cur F)).c.execC (s.cur F) } := by unfold Tm.step Tm.exec; rw [if_neg (by omega), if_neg (by omega), if_neg (by omega)]
    rw [e', hfe.c]
    exact .inl (hfe.core _)
  · rw [e, if_neg (by omega), if_neg (by omega), if_neg (by omega), hfe.c]
    exact .inl (hfe.core _)
theorem OverR.iter (h : OverR T0 s s') (D k : Nat) : OverR T0 (iterT F T0 k s) (iterT F D k s') := by
  rw [iterT_ended h.1.1]
  refine ⟨h.1, ?_⟩
  rcases h.2 with h2 | h2
  · rw [iterT_ended h2.1]; exact .inl h2
  · by_cases he : s'.c.ended = true
    · rw [iterT_ended he]; exact .inr h2
    · exact .inr (Nat.lt_of_lt_of_le h2 (iterT_went k s' (endK_off (by simpa using he))).deep)
/-- Both runs after k steps. -/
theorem sim_iter (hR : RightT Al F) (him : ImmT F) : ∀ (k : Nat) (s s' : Tm), (RelT T0 d s s' ∧ JT F T0 s) ∨ OverR T0 s s' → RelT T0 d (iterT F T0 k s) (iterT F (T0 + d) k s') ∨ OverR T0 (iterT F T0 k s) (iterT F (T0 + d) k s')
  | 0, s, s', h => by
    rcases h with h | h
    · exact .inl h.1
    · exact .inr h
  | k + 1, s, s', h => by
    rcases h with ⟨h, j⟩ | h
    · rcases j with ⟨j1, _⟩ | ⟨j1, j2⟩
      · rw [iterT_ended j1, iterT_ended (by rw [h.c]; exact j1)]
        exact .inl h
      · rw [iterT, iterT, if_neg (by rw [j1]; decide), if_neg (by rw [h.c, j1]; decide)]
        refine sim_iter hR him k _ _ ?_
        rcases rel_step hR j2 h with h3 | h3
        · exact .inl ⟨h3, vt_step hR him j2 j1⟩
        · exact .inr h3
    · exact .inr (h.iter _ _)
theorem room_eq (A n : Nat) : roomT A n = A * (n / A) := by
  unfold roomT
  have := Nat.div_add_mod n A
  omega
theorem room_mono (A : Nat) {n m : Nat} (h : n ≤ m) : roomT A n ≤ roomT A m := by
  rw [room_eq, room_eq]
  exact Nat.mul_le_mul_left A (Nat.div_le_div_right h)
theorem rel_pre {A n m : Nat} (h : n ≤ m) (hm : m ≤ 1048576) (inp : List Nat) : RelT (roomT A n) (roomT A m - roomT A n) (preT A inp n) (preT A inp m) := by
  have h1 := room_mono A h
  have h2 : roomT A n ≤ n := Nat.sub_le _ _
  have h3 : roomT A m ≤ m := Nat.sub_le _ _
  refine ⟨rfl, rfl, rfl, ?_, Nat.le_refl _, ?_, ?_, newS_ok (by omega) h2, newS_ok hm h3, fun i hi hi2 => ?_, fun i hi hi2 => ?_⟩
  · show roomT A m = roomT A n + (roomT A m - roomT A n); omega
  · show roomT A n ≤ (List.replicate n (0 : Int)).length; simpa using h2
  · show roomT A n + (roomT A m - roomT A n) ≤ (List.replicate m (0 : Int)).length; simp; omega
  · have hi : roomT A n ≤ i := hi; omega
  · have hi : roomT A n ≤ i := hi; omega
/-- The run on the smaller stack, and the one on the greater: the same, or the smaller one overflows where the other one does so, too, or is deeper. -/
theorem run_sim (hR : RightT Al F) (him : ImmT F) {inp : List Nat} (hi : ∀ v ∈ inp, v < 18446744073709551616) (A fuel : Nat) {n m : Nat} (h : n ≤ m) (hm : m ≤ 1048576) :
    ((runT A F inp fuel m).c = (runT A F inp fuel n).c ∧ (runT A F inp fuel m).deep = (runT A F inp fuel n).deep) ∨ ((runT A F inp fuel n).c.kind = 5 ∧ ((runT A F inp fuel m).c.kind = 5 ∨ roomT A n < (runT A F inp fuel m).deep)) := by
  by_cases h0 : fuel = 0
  · subst h0; exact .inl ⟨rfl, rfl⟩
  · rw [runT_pos h0, runT_pos h0]
    have hr := room_mono A h
    have hpre := rel_enter (F := F) (rel_pre (A := A) h hm inp) 0
    have hj := vt_start (A := A) hR hi (show n ≤ 1048576 by omega)
    rw [show roomT A n + (roomT A m - roomT A n) = roomT A m by omega] at hpre
    have hs : RelT (roomT A n) (roomT A m - roomT A n) (iterT F (roomT A n) fuel (startT A F inp n)) (iterT F (roomT A m) fuel (startT A F inp m)) ∨ OverR (roomT A n) (iterT F (roomT A n) fuel (startT A F inp n)) (iterT F (roomT A m) fuel (startT A F inp m)) := by
      have := sim_iter (T0 := roomT A n) (d := roomT A m - roomT A n) hR him fuel (startT A F inp n) (startT A F inp m) (by
        rcases hpre with h1 | h1
        · exact .inl ⟨h1, hj⟩
        · exact .inr h1)
      rwa [show roomT A n + (roomT A m - roomT A n) = roomT A m by omega] at this
    rcases hs with h1 | h1
    · left
      unfold Tm.fuelled
      rw [h1.c]
      split
      · exact ⟨h1.c, h1.deep⟩
      · exact ⟨(h1.stop 4).c, h1.deep⟩
    · right
      unfold Tm.fuelled
      rw [if_pos h1.1.1]
      refine ⟨h1.1.2, ?_⟩
      rcases h1.2 with h2 | h2
      · rw [if_pos h2.1]; exact .inl h2.2
      · right
        split
        · exact h2
        · exact h2
end
end Go.Proofs.YtafegghdhdgioabGreat
end

section
/-
  The contract of machrun.Deepest (chapter 12): for any target, input, fuel and size. Conditions: those of the types.
-/
namespace Go.Proofs.YtafegghdhdgioabGreat
open Go.RowKit

set_option maxRecDepth 100000 in
set_option maxHeartbeats 4000000 in
theorem tdeep_any {lo n c : Nat} {A : Option Addr} {hs : List Fd} (Al : Int) (F : Tg) (inp : List Nat) (fuel size : Int) (Ai : Option Addr) (ni ci : Nat) (w : World) (him : Hid (ImmT F)) (hI : Hid (InAt w w.heap.size (.slice Ai ni ci) inp)) (hIv : Hid (∀ v ∈ inp, v < 18446744073709551616)) (hPg : Hid (TgAt w lo w.heap.size A n c hs F)) :
    Calls Tryz.prog 12 #[tv Al A n c, .slice Ai ni ci, .int .i64 fuel, .int .i64 size] w fun e w' => e = .returned (.tuple #[.int .i64 ((runTS Al F inp fuel size).deep : Int), .int .i64 (runTE Al F fuel size)]) ∧ Below w.heap.size w w' := by
  obtain ⟨W1, hW1⟩ : ∃ W1, w.alloc (.cells #[.int .i64 Al, .slice A n c] 26) = W1 := ⟨_, rfl⟩
  have HW1 := hide hW1
  have hb0 := hide (show Below w.heap.size w W1 by rw [← hW1]; exact below1 w _)
  have hsz := hide (show W1.heap.size = w.heap.size + 1 by rw [← hW1]; simp)
  have RB := hide (show Row W1 w.heap.size 26 [.int .i64 Al, .slice A n c] by rw [← HW1.out]; exact Row.new w _ _)
  have cr := mrun_any Al F inp fuel size Ai ni ci W1 him (hide ((hI.out.below hb0.out).more hb0.out.size)) hIv (hide ((hPg.out.below hb0.out).more hb0.out.size (Nat.le_refl _)))
  clear hW1
  go_enter Tryz.func12, Tryz.ntmps12
  go_upto_region 1 with (fail)
  rw [HW1.out]
  have x0 := RB.out.cell (k := 0) rfl
  have x1 := RB.out.cell (k := 1) rfl
  clear HW1
  go_wp2_with fail
  refine cr.mono ?_
  rintro e w2 ⟨fu, T0, vi, vt, vf, A1, c1, A2, c2, vs, rfl, h8, h1, hto, hb2⟩
  have B2 := hide (hb0.out.trans (hb2.mono hb0.out.size))
  obtain ⟨cs, hcs⟩ : ∃ cs, tcells fu T0 (runTS Al F inp fuel size) vi vt vf A1 c1 A2 c2 vs = cs := ⟨_, rfl⟩
  have hlen := tcells_len (fu := fu) (T0 := T0) (vi := vi) (vt := vt) (vf := vf) (vs := vs) (A1 := A1) (A2 := A2) (c1 := c1) (c2 := c2) h8
  have hoc : (tcells fu T0 (runTS Al F inp fuel size) vi vt vf A1 c1 A2 c2 vs)[24 + 7]? = some (.int .i64 ((runTS Al F inp fuel size).deep : Int)) := by unfold tcells; rw [ccells_end h8]; rfl
  rw [hcs] at h1 hlen hoc ⊢
  have RN := hide (show Row (w2.alloc (.cells #[.slice none 0 0, .int .i64 0, .int .i64 0, .int .u64 0, .int .u64 0, .int .u64 0, .slice none 0 0, .int .i64 0, .int .u64 0, .int .u64 0, .int .u64 0, .int .u64 0, .int .u64 0, .int .u64 0, .int .u64 0, .int .u64 0, .int .u64 0, .int .u64 0, .int .u64 0, .int .u64 0, .int .u64 0, .int .u64 0, .int .u64 0, .int .u64 0, .bool false, .slice none 0 0, .slice none 0 0, .slice none 0 0, .int .i64 0, .int .i64 0, .slice none 0 0, .int .i64 0] 73)) w2.heap.size 73 (tcells 0 0 zeroT (.slice none 0 0) (.slice none 0 0) (.slice none 0 0) none 0 none 0 (.slice none 0 0)) from Row.new w2 73 (tcells 0 0 zeroT (.slice none 0 0) (.slice none 0 0) (.slice none 0 0) none 0 none 0 (.slice none 0 0)))
  have hst := store_row (vs := cs) (size_tmachine (w := w2.alloc (.cells #[.slice none 0 0, .int .i64 0, .int .i64 0, .int .u64 0, .int .u64 0, .int .u64 0, .slice none 0 0, .int .i64 0, .int .u64 0, .int .u64 0, .int .u64 0, .int .u64 0, .int .u64 0, .int .u64 0, .int .u64 0, .int .u64 0, .int .u64 0, .int .u64 0, .int .u64 0, .int .u64 0, .int .u64 0, .int .u64 0, .int .u64 0, .int .u64 0, .bool false, .slice none 0 0, .slice none 0 0, .slice none 0 0, .int .i64 0, .int .i64 0, .slice none 0 0, .int .i64 0] 73))) hlen (tcells_len rfl) h1 RN.out
  have RM := hide (set_row_row (vs := cs) RN.out)
  have GM := hide (set_row_grown (w2.alloc (.cells #[.slice none 0 0, .int .i64 0, .int .i64 0, .int .u64 0, .int .u64 0, .int .u64 0, .slice none 0 0, .int .i64 0, .int .u64 0, .int .u64 0, .int .u64 0, .int .u64 0, .int .u64 0, .int .u64 0, .int .u64 0, .int .u64 0, .int .u64 0, .int .u64 0, .int .u64 0, .int .u64 0, .int .u64 0, .int .u64 0, .int .u64 0, .int .u64 0, .bool false, .slice none 0 0, .slice none 0 0, .slice none 0 0, .int .i64 0, .int .i64 0, .slice none 0 0, .int .i64 0] 73)) w2.heap.size cs.toArray)
  obtain ⟨W3, hW3⟩ : ∃ W3, (w2.alloc (.cells #[.slice none 0 0, .int .i64 0, .int .i64 0, .int .u64 0, .int .u64 0, .int .u64 0, .slice none 0 0, .int .i64 0, .int .u64 0, .int .u64 0, .int .u64 0, .int .u64 0, .int .u64 0, .int .u64 0, .int .u64 0, .int .u64 0, .int .u64 0, .int .u64 0, .int .u64 0, .int .u64 0, .int .u64 0, .int .u64 0, .int .u64 0, .int .u64 0, .bool false, .slice none 0 0, .slice none 0 0, .slice none 0 0, .int .i64 0, .int .i64 0, .slice none 0 0, .int .i64 0] 73)).setRow w2.heap.size cs.toArray = W3 := ⟨_, rfl⟩
  rw [hW3] at hst RM GM
  have B3 := hide (show Below w.heap.size w W3 from (B2.out.alloc B2.out.size _).grown GM.out (by have := RN.out.lt; have := B2.out.size; omega) (fun k hk => by injection hk with hk; have := B2.out.size; omega))
  have x31 := RM.out.cell (k := 31) hoc
  generalize cs.toArray = X at hst
  clear cr hb2 hto h1 h8 RN RM GM hW3 x0 x1 hcs hlen hoc
  go_wp2_with (first | (refine wpList_store_whole 73 (.tmp 10) (.tmp 18) rfl rfl _ _ rfl rfl hst ?_) | fail)
  go_ret2
  exact ⟨rfl, B3.out⟩
end Go.Proofs.YtafegghdhdgioabGreat
end

section
/-
  MachrunMoreRoom's law, walked: a run that did not overflow is the same on every greater stack, and overflows on one smaller than its depth. No condition: every input that the row speaks of.
-/
namespace Go.Proofs.YtafegghdhdgioabGreat
open Go.RowKit

/-- What another stack leaves, as the law asks it. -/
structure MoreR (A : Nat) (F : Tg) (inp : List Nat) (N n M : Nat) (a : Co) (D : Nat) : Prop where
  more : (runT A F inp N (n + M)).c = a
  deep : (runT A F inp N (n + M)).deep = D
  exact_ : (runT A F inp N D).c = a
  less : D ≠ 0 → (runT A F inp N (D - 1)).c.kind = 5
theorem right_dvd {Al : Int} {F : Tg} (hR : RightT Al F) : ∀ f ∈ F, Al.toNat ∣ f.size.toNat := by
  intro f hf
  obtain ⟨_, _, h0, hm⟩ := shB_iff (hR.f f hf).1
  have ha := hR.al.2
  obtain ⟨q, hq⟩ := Int.dvd_of_emod_eq_zero hm
  have hq0 : 0 ≤ q := by
    rcases Int.lt_or_le q 0 with h | h
    · have := Int.mul_neg_of_pos_of_neg (show 0 < Al by omega) h
      omega
    · exact h
  refine ⟨q.toNat, ?_⟩
  rw [hq, Int.toNat_mul (by omega) hq0]
theorem run_deep {Al : Int} {F : Tg} (hR : RightT Al F) (him : ImmT F) {inp : List Nat} (hi : ∀ v ∈ inp, v < 18446744073709551616) {size : Nat} (hs : size ≤ 1048576) (N : Nat) : (runT Al.toNat F inp N size).deep ≤ size := by
  have h1 := (run_kept hR him hi hs Al.toNat N).2.dl
  have h2 : roomT Al.toNat size ≤ size := Nat.sub_le _ _
  omega
theorem moreR {Al : Int} {F : Tg} (hR : RightT Al F) (him : ImmT F) {inp : List Nat} (hi : ∀ v ∈ inp, v < 18446744073709551616) (N n M : Nat) (hs : n + M ≤ 1048576) (h5 : (runT Al.toNat F inp N n).c.kind ≠ 5) :
    MoreR Al.toNat F inp N n M (runT Al.toNat F inp N n).c (runT Al.toNat F inp N n).deep := by
  have hD := run_deep hR him hi (show n ≤ 1048576 by omega) N
  have hk := (run_kept hR him hi (show n ≤ 1048576 by omega) Al.toNat N).2
  have hdv := hk.dm Al.toNat (right_dvd hR)
  have h1 := run_sim hR him hi Al.toNat N (show n ≤ n + M by omega) hs
  have h2 := run_sim hR him hi Al.toNat N hD (show n ≤ 1048576 by omega)
  have h1' := h1.resolve_right fun h => h5 h.1
  refine ⟨h1'.1, h1'.2, ?_, fun h0 => ?_⟩
  · rcases h2 with h2 | ⟨_, h2 | h2⟩
    · exact h2.1.symm
    · exact absurd h2 h5
    · exfalso
      unfold roomT at h2
      rw [Nat.mod_eq_zero_of_dvd hdv] at h2
      omega
  · have h3 := run_sim hR him hi Al.toNat N (show (runT Al.toNat F inp N n).deep - 1 ≤ n by omega) (show n ≤ 1048576 by omega)
    rcases h3 with h3 | h3
    · exfalso
      have h4 := run_deep hR him hi (show (runT Al.toNat F inp N n).deep - 1 ≤ 1048576 by omega) N
      rw [← h3.2] at h4
      omega
    · exact h3.1
set_option maxRecDepth 100000 in
set_option maxHeartbeats 8000000 in
theorem morelaw_walk (A0 : Option Addr) (n0 c0 : Nat) (zs : List Int) (mo : Int) (w : World)
    (hA : Hid (A0 = none → c0 = 0)) (hn : Hid (zs.length = n0)) (hnc : n0 ≤ c0) (hm : n0 ≤ 9223372036854775807) (hs : Hid (Sees w w.heap.size A0 (cellsU8 zs))) (hz : Hid (∀ z ∈ zs, 0 ≤ z ∧ z ≤ 255)) (m0 : 0 ≤ mo) (m1 : mo ≤ 255) :
    Calls Tryz.prog 4 #[.slice A0 n0 c0, .int .u8 mo] w fun e w' => e = .returned (.bool true) ∧ Below w.heap.size w w' := by
  obtain ⟨M, rfl⟩ : ∃ M : Nat, mo = (M : Int) := ⟨mo.toNat, by omega⟩
  go_enter Tryz.func4, Tryz.ntmps4
  go_wp2_with fail
  refine (awake12_any w).mono ?_
  rintro e w1 ⟨rfl, hb1⟩
  have HB1 := hide hb1
  have HS1 := hide ((hs.out.below hb1).more hb1.size)
  clear hb1
  go_wp2_with fail
  refine (scene12_any A0 n0 c0 zs w1 hA hn hnc hm HS1 hz).mono ?_
  rintro e w2 ⟨Al, A, n, c, hh, G, Ai, ni, ci, inp, N, size, gk, lw, rfl, htg, hE, him, -, -, -, hI, hIv, hN, hsz, -, -, -, -, hb2⟩
  have hM : M ≤ 255 := by omega
  obtain ⟨W, hW⟩ : ∃ V, w2.alloc (.cells #[.int .i64 Al, .slice A n c] 26) = V := ⟨_, rfl⟩
  have HW := hide hW
  have hb3 := below1 w2 (.cells #[.int .i64 Al, .slice A n c] 26)
  rw [hW] at hb3
  obtain ⟨B, hB⟩ : ∃ B, w2.heap.size = B := ⟨_, rfl⟩
  have HBB := hide hB
  have RB := hide (show Row W B 26 [.int .i64 Al, .slice A n c] by rw [← hW, ← hB]; exact Row.new w2 _ _)
  have HP := hide ((htg.below hb3).more hb3.size (Nat.le_refl _))
  have HI := hide ((hI.below hb3).more hb3.size)
  have HBW := hide (HB1.out.trans ((hb2.trans (hb3.mono hb2.size)).mono HB1.out.size))
  have cr : ∀ (q : Nat) (wr : World), Hid (q ≤ 1048576) → Hid (Below W.heap.size W wr) → Calls Tryz.prog 10 #[tv Al A n c, .slice Ai ni ci, .int .i64 (N : Int), .int .i64 (q : Int)] wr (fun e w' => ∃ (A1 : Option Addr) (c1 : Nat), e = .returned (.tuple #[.agg (ovl (runT Al.toNat G inp N q).c.kind (runT Al.toNat G inp N q).c.code (runT Al.toNat G inp N q).c.res A1 (runT Al.toNat G inp N q).c.trace.length c1 (runT Al.toNat G inp N q).c.steps).toArray, .int .i64 0]) ∧ TrAt w' w'.heap.size A1 (runT Al.toNat G inp N q).c.trace.length c1 (runT Al.toNat G inp N q).c.trace ∧ Below wr.heap.size wr w') := fun q wr hq HBl =>
    tok_any Al G inp N q Ai ni ci wr (hide hE) (by omega) hq.out (hide him) (hide ((HI.out.below HBl.out).more HBl.out.size)) (hide hIv) (hide ((HP.out.below HBl.out).more HBl.out.size (Nat.le_refl _)))
  have cd : ∀ (q : Nat) (wr : World), Hid (q ≤ 1048576) → Hid (Below W.heap.size W wr) → Calls Tryz.prog 12 #[tv Al A n c, .slice Ai ni ci, .int .i64 (N : Int), .int .i64 (q : Int)] wr (fun e w' => e = .returned (.tuple #[.int .i64 ((runT Al.toNat G inp N q).deep : Int), .int .i64 0]) ∧ Below wr.heap.size wr w') := fun q wr hq HBl => by
    have h := tdeep_any Al G inp N q Ai ni ci wr (hide him) (hide ((HI.out.below HBl.out).more HBl.out.size)) (hide hIv) (hide ((HP.out.below HBl.out).more HBl.out.size (Nat.le_refl _)))
    rw [runTS_ok hE inp (by omega) hq.out, runTE_ok hE (by omega) hq.out] at h
    exact h
  have VA := hide (run_valsT (rightT_of hE) him hIv (show size ≤ 1048576 by omega) Al.toNat N).r
  have HD := run_deep (rightT_of hE) him hIv (show size ≤ 1048576 by omega) N
  have MR := hide (moreR (rightT_of hE) him hIv N size M (by omega))
  obtain ⟨a, ha⟩ : ∃ a, (runT Al.toNat G inp N size).c = a := ⟨_, rfl⟩
  obtain ⟨D, hD⟩ : ∃ D, (runT Al.toNat G inp N size).deep = D := ⟨_, rfl⟩
  have ca := cr size
  have ce := cd size
  rw [ha] at ca VA MR
  rw [hD] at ce HD MR
  clear htg hE him hI hIv hb2 hb3 hW hB HS1 HB1 ha hD HI HP
  go_upto_region 4 with (fail)
  rw [HW.out, HBB.out]
  clear HW HBB
  have p0 := RB.out.cell (k := 0) rfl
  have p1 := RB.out.cell (k := 1) rfl
  have ca1 := ca W (hide (by omega)) (hide (Below.refl _ _))
  go_wp2_with fail
  refine ca1.mono ?_
  rintro e w4 ⟨A1, c1, rfl, hta, hb4⟩
  obtain ⟨W3, hW3⟩ : ∃ V, w4.alloc (.cells #[.int .i64 a.kind, .int .u64 a.code, .int .u64 (lo a.res), .int .u64 (hi a.res), .slice A1 a.trace.length c1, .int .i64 (a.steps : Int)] 41) = V := ⟨_, rfl⟩
  have HW3 := hide hW3
  have hb5 : Below w4.heap.size w4 W3 := by rw [← hW3]; exact below1 _ _
  have B3 := hide (hb4.trans (hb5.mono hb4.size))
  have TA := hide (hta.call hb5)
  obtain ⟨ga, hga⟩ : ∃ g, w4.heap.size = g := ⟨_, rfl⟩
  have HGA := hide hga
  have RA := hide (show Row W3 ga 41 (ovl a.kind a.code a.res A1 a.trace.length c1 a.steps) by rw [← hga, ← hW3]; exact Row.new w4 _ _)
  have q0 := (RB.out.below B3.out RB.out.lt).cell (k := 0) rfl
  have q1 := (RB.out.below B3.out RB.out.lt).cell (k := 1) rfl
  have ce1 := ce W3 (hide (by omega)) B3
  clear ca1 ca ce hta hb4 hb5 p0 p1 hW3 hga
  go_upto_region 5 with (fail)
  rw [HW3.out, HGA.out]
  clear HW3 HGA
  go_wp2_with fail
  refine ce1.mono ?_
  rintro e w5 ⟨rfl, hb6⟩
  have B5 := hide (below_call B3.out hb6)
  have TA5 := hide (TA.out.call hb6)
  have RA5 := hide (RA.out.call hb6)
  have RB5 := hide (RB.out.below B5.out RB.out.lt)
  have u1 : (D : Int) ≤ (size : Int) := by omega
  clear ce1 hb6 B3 TA RA RB q0 q1
  have x0 := RA5.out.cell (k := 0) rfl
  by_cases hk : a.kind = 5
  · rw [hk] at x0
    have HF := hide (HBW.out.trans (B5.out.mono HBW.out.size))
    go_wp2_with fail
    go_ret
    exact ⟨rfl, HF.out⟩
  · have hk5 : (a.kind == 5) = false := by simpa using hk
    have R := MR.out hk
    have cb := cr (size + M)
    have cf := cd (size + M)
    have cx := cr D
    have cl := cr (D - 1)
    have R4 := hide R.less
    rw [R.more] at cb
    rw [R.deep] at cf
    rw [R.exact_] at cx
    clear R MR cr cd
    rw [show ((size + M : Nat) : Int) = (size : Int) + (M : Int) by omega] at cb cf
    have q0 := RB5.out.cell (k := 0) rfl
    have q1 := RB5.out.cell (k := 1) rfl
    have cb1 := cb w5 (hide (by omega)) B5
    go_upto_region 10 with (fail)
    go_wp2_with fail
    refine cb1.mono ?_
    rintro e w6 ⟨A2, c2, rfl, htb, hb6⟩
    obtain ⟨W6, hW6⟩ : ∃ V, w6.alloc (.cells #[.int .i64 a.kind, .int .u64 a.code, .int .u64 (lo a.res), .int .u64 (hi a.res), .slice A2 a.trace.length c2, .int .i64 (a.steps : Int)] 41) = V := ⟨_, rfl⟩
    have HW6 := hide hW6
    have hb7 : Below w6.heap.size w6 W6 := by rw [← hW6]; exact below1 _ _
    have hb67 := hb6.trans (hb7.mono hb6.size)
    have B6 := hide (below_call B5.out hb67)
    have TA6 := hide (TA5.out.call hb67)
    have RA6 := hide (RA5.out.call hb67)
    have RB6 := hide (RB5.out.call hb67)
    have TB6 := hide (htb.call hb7)
    obtain ⟨gb, hgb⟩ : ∃ g, w6.heap.size = g := ⟨_, rfl⟩
    have HGB := hide hgb
    have RO6 := hide (show Row W6 gb 41 (ovl a.kind a.code a.res A2 a.trace.length c2 a.steps) by rw [← hgb, ← hW6]; exact Row.new w6 _ _)
    have cf1 := cf W6 (hide (by omega)) B6
    clear cb cb1 htb hb6 hb7 hb67 TA5 RA5 RB5 B5 q0 q1 x0 hW6 hgb cf
    have q0 := RB6.out.cell (k := 0) rfl
    have q1 := RB6.out.cell (k := 1) rfl
    go_upto_region 11 with (fail)
    rw [HW6.out, HGB.out]
    clear HW6 HGB
    go_wp2_with fail
    refine cf1.mono ?_
    rintro e w7 ⟨rfl, hb6⟩
    have B7 := hide (below_call B6.out hb6)
    have TA7 := hide (TA6.out.call hb6)
    have RA7 := hide (RA6.out.call hb6)
    have RB7 := hide (RB6.out.call hb6)
    have TB7 := hide (TB6.out.call hb6)
    have RO7 := hide (RO6.out.call hb6)
    have cx1 := cx w7 (hide (by omega)) B7
    clear cf1 hb6 B6 TA6 RA6 RB6 TB6 RO6 cx q0 q1
    have q0 := RB7.out.cell (k := 0) rfl
    have q1 := RB7.out.cell (k := 1) rfl
    go_wp2_with fail
    refine cx1.mono ?_
    rintro e w8 ⟨A3, c3, rfl, htb, hb6⟩
    obtain ⟨W8, hW8⟩ : ∃ V, w8.alloc (.cells #[.int .i64 a.kind, .int .u64 a.code, .int .u64 (lo a.res), .int .u64 (hi a.res), .slice A3 a.trace.length c3, .int .i64 (a.steps : Int)] 41) = V := ⟨_, rfl⟩
    have HW8 := hide hW8
    have hb7 : Below w8.heap.size w8 W8 := by rw [← hW8]; exact below1 _ _
    have hb67 := hb6.trans (hb7.mono hb6.size)
    have B8 := hide (below_call B7.out hb67)
    have TA8 := hide (TA7.out.call hb67)
    have RA8 := hide (RA7.out.call hb67)
    have RB8 := hide (RB7.out.call hb67)
    have TB8 := hide (TB7.out.call hb67)
    have RO8 := hide (RO7.out.call hb67)
    have TX8 := hide (htb.call hb7)
    obtain ⟨gx, hgx⟩ : ∃ g, w8.heap.size = g := ⟨_, rfl⟩
    have HGX := hide hgx
    have RX8 := hide (show Row W8 gx 41 (ovl a.kind a.code a.res A3 a.trace.length c3 a.steps) by rw [← hgx, ← hW8]; exact Row.new w8 _ _)
    clear cx1 htb hb6 hb7 hb67 TA7 RA7 RB7 TB7 RO7 B7 q0 q1 hW8 hgx
    have cs := rsame_out a.kind a.code a.res A1 a.trace.length c1 a.trace a.steps a.kind a.code a.res A2 a.trace.length c2 a.trace a.steps W8 TA8 TB8 (by have := VA.out; exact this) (by have := VA.out; exact this)
    rw [show outB a.kind a.code a.res a.trace (a.steps : Int) a.kind a.code a.res a.trace (a.steps : Int) = true by simp [outB]] at cs
    have x0 := RA8.out.cell (k := 0) rfl
    have x1 := RA8.out.cell (k := 1) rfl
    have x2 := RA8.out.cell (k := 2) rfl
    have x3 := RA8.out.cell (k := 3) rfl
    have x4 := RA8.out.cell (k := 4) rfl
    have x5 := RA8.out.cell (k := 5) rfl
    have y0 := RO8.out.cell (k := 0) rfl
    have y1 := RO8.out.cell (k := 1) rfl
    have y2 := RO8.out.cell (k := 2) rfl
    have y3 := RO8.out.cell (k := 3) rfl
    have y4 := RO8.out.cell (k := 4) rfl
    have y5 := RO8.out.cell (k := 5) rfl
    go_upto_region 13 with (fail)
    rw [HW8.out, HGX.out]
    clear HW8 HGX
    go_wp2_with fail
    refine cs.mono ?_
    rintro e w9 ⟨rfl, hb9⟩
    clear x0 x1 x2 x3 x4 x5 y0 y1 y2 y3 y4 y5 cs TB8 RO8
    have B9 := hide (below_call B8.out hb9)
    have TA9 := hide (TA8.out.call hb9)
    have RA9 := hide (RA8.out.call hb9)
    have RB9 := hide (RB8.out.call hb9)
    have TX9 := hide (TX8.out.call hb9)
    have RX9 := hide (RX8.out.call hb9)
    clear hb9 B8 TA8 RA8 RB8 TX8 RX8
    have cs := rsame_out a.kind a.code a.res A1 a.trace.length c1 a.trace a.steps a.kind a.code a.res A3 a.trace.length c3 a.trace a.steps w9 TA9 TX9 (by have := VA.out; exact this) (by have := VA.out; exact this)
    rw [show outB a.kind a.code a.res a.trace (a.steps : Int) a.kind a.code a.res a.trace (a.steps : Int) = true by simp [outB]] at cs
    have x0 := RA9.out.cell (k := 0) rfl
    have x1 := RA9.out.cell (k := 1) rfl
    have x2 := RA9.out.cell (k := 2) rfl
    have x3 := RA9.out.cell (k := 3) rfl
    have x4 := RA9.out.cell (k := 4) rfl
    have x5 := RA9.out.cell (k := 5) rfl
    have y0 := RX9.out.cell (k := 0) rfl
    have y1 := RX9.out.cell (k := 1) rfl
    have y2 := RX9.out.cell (k := 2) rfl
    have y3 := RX9.out.cell (k := 3) rfl
    have y4 := RX9.out.cell (k := 4) rfl
    have y5 := RX9.out.cell (k := 5) rfl
    go_wp2_with fail
    refine cs.mono ?_
    rintro e w10 ⟨rfl, hb9⟩
    clear x0 x1 x2 x3 x4 x5 y0 y1 y2 y3 y4 y5 cs TA9 RA9 TX9 RX9
    have B10 := hide (below_call B9.out hb9)
    have RB10 := hide (RB9.out.call hb9)
    have HF := hide (HBW.out.trans (B10.out.mono HBW.out.size))
    clear hb9 B9 RB9
    by_cases hD0 : D = 0
    · have d0 : ((D : Int) == 0) = true := by simp; omega
      go_wp2_with fail
      go_ret
      exact ⟨rfl, HF.out⟩
    · have d0 : ((D : Int) == 0) = false := by simp; omega
      by_cases hN0 : N = 0
      · have e0 : ((N : Int) == 0) = true := by simp; omega
        go_wp2_with fail
        go_ret
        exact ⟨rfl, HF.out⟩
      · have e0 : ((N : Int) == 0) = false := by simp; omega
        have hk4 := R4.out hD0
        obtain ⟨l, hl⟩ : ∃ l, (runT Al.toNat G inp N (D - 1)).c = l := ⟨_, rfl⟩
        rw [hl] at hk4 cl
        rw [show ((D - 1 : Nat) : Int) = (D : Int) - 1 by omega] at cl
        have cl1 := cl w10 (hide (by omega)) B10
        have q0 := RB10.out.cell (k := 0) rfl
        have q1 := RB10.out.cell (k := 1) rfl
        clear cl R4 hl
        go_upto_region 17 with (fail)
        go_wp2_with fail
        refine cl1.mono ?_
        rintro e w11 ⟨A4, c4, rfl, -, hb9⟩
        rw [hk4]
        have HG := hide (HF.out.trans (hb9.mono HF.out.size))
        have HG2 := hide (HG.out.alloc HG.out.size (.cells #[.int .i64 5, .int .u64 l.code, .int .u64 (lo l.res), .int .u64 (hi l.res), .slice A4 l.trace.length c4, .int .i64 (l.steps : Int)] 41))
        clear cl1 hb9 HG HF
        go_wp2_with fail
        go_ret
        exact ⟨rfl, HG2.out⟩
end Go.Proofs.YtafegghdhdgioabGreat
end

section
/-
  MachrunMoreRoom: for every input the law returns true, and each argument reads behind the call as it did before. No condition: every input that the row speaks of.
-/
namespace Go.Proofs.YtafegghdhdgioabGreat
open Go.ChangeShapes Go.WideShapes Go.ChangeAt Go.RowKit

namespace rowMachrunMoreRoom
theorem own_knob : ownKnob Tryz.prog.godebug = none := by kernel_rfl
theorem laid_out : laidOutB Tryz.prog = true := by kernel_rfl
theorem cells_u8 : Tryz.prog.cellsOf 5 = 1 := by kernel_rfl
set_option maxRecDepth 100000 in
theorem contract (H : Type) (enc : TypeId × Value → H) (W : World) (base : Nat) (args : Array Value) (ds gs : List (DataW H)) (before : List MemPlace)
    (hval : ∀ (j : Nat) t v, Tryz.f4.params[j]? = some t → args[j]? = some v → Value.okWide Tryz.prog W .any base t v)
    (hW : DataW.Whole enc Tryz.prog Tryz.f4.params.toList Rows.machrunMoreRoomSpec.vars false W args.toList ds gs before) :
    Calls Tryz.prog 4 args W fun e W' => ∃ v, e = .returned v ∧ Rows.machrunMoreRoomSpec.post enc Tryz.prog Tryz.f4 false true false false W args v W' := by
  have hW' := hW
  obtain ⟨p, q, hA, hV, rfl, hfz, hnd⟩ := hW
  have hA : DataW.TrodAll enc Tryz.prog W 0 (fun _ => true) true Tryz.f4.params.toList args.toList ds p := hA
  rw [Tryz.params4] at hA hval
  obtain ⟨v0, vs0, d0, ds0, p0, q0, hargs, rfl, rfl, h0, r0⟩ := trodAll_cons hA
  obtain ⟨v1, vs1, d1, ds1, p1, q1, rfl, rfl, rfl, h1, r1⟩ := trodAll_cons r0
  obtain ⟨rfl, rfl, rfl⟩ := trodAll_nil r1
  obtain rfl : args = #[v0, v1] := by cases args; simp_all
  obtain ⟨A0, n0, c0, zs0, rfl, hA0, hn0, hm0, hs0, hz0, hc0⟩ := open_u8s Tryz.underlying22 Tryz.underlying5 cells_u8 (hval 0 22 v0 rfl rfl) h0
  obtain ⟨a1, rfl, _, _, w1⟩ := open_int Tryz.underlying5 (hval 1 5 v1 rfl rfl) h1
  have b1 := bounds_u8 w1
  refine (morelaw_walk A0 n0 c0 zs0 a1 W (hide hA0) (hide hn0) hc0 hm0 (hide hs0) (hide hz0) b1.1 b1.2).mono fun e W' ⟨he, hB⟩ => ⟨_, he, ?_⟩
  exact law_post laid_out (by decide +kernel) rfl rfl Tryz.underlying4 rfl hW' hB

set_option maxRecDepth 100000 in
theorem lifted (os : Os) (started : os.Started) (H : Type) (enc : TypeId × Value → H) :
    ReturnsInHanded {} Tryz.checked os 4 .any (Rows.machrunMoreRoomSpec.pre6 enc Tryz.prog Tryz.f4 Rows.machrunMoreRoomRow.domain false) (Rows.machrunMoreRoomSpec.post enc Tryz.prog Tryz.f4 false true false false) := by
  refine returnsInHanded_of_change (C := Tryz.checked) own_knob started (by kernel_rfl) Tryz.func4
    (ChangeSpec.witness6 (enc := enc) (C := Tryz.checked) false ⟨#[], #[.slice none 0 0, .int .u8 0], []⟩ 8 (by kernel_rfl) (by kernel_rfl) (by kernel_rfl) (by kernel_rfl)) ?_
  intro W base args ds gs before hval hW _ _
  exact contract H enc W base args ds gs before hval hW

theorem proved : Rows.MachrunMoreRoomSaid :=
  OpenClaim.holds_of_wide 4 Tryz.f4 rfl rfl rfl rfl rfl rfl rfl ⟨rfl, rfl, rfl, rfl, rfl⟩ rfl rfl rfl rfl rfl (by kernel_rfl) Tryz.func4 (by kernel_rfl)
    (of_decide_eq_true (by kernel_rfl)) (by unfold Func.isWrapper; first | (rw [if_pos (by decide +kernel)]; kernel_rfl) | (rw [if_neg (by decide +kernel)]; exact ⟨rfl, rfl⟩))
    (fun os started H enc _ => lifted os started H enc)
end rowMachrunMoreRoom
end Go.Proofs.YtafegghdhdgioabGreat
end
