/-
  What an instruction, a frame, a target that came in give: their numbers; frames and instructions in memory. The reach bounds each slice. No function of the program is named here.
-/
import Derived.Test.YtjgoldlebmfiiaaPopen
import Derived.Test.YtjgoldlebmfiiaaMmem
namespace Go.Proofs.Ytjgoldlebmfiiaa
open Go.Joins Go.ChangeShapes Go.WideShapes Go.ChangeAt Go.RowKit Go.Deep

theorem bytes_frame : Try.prog.bytesOf 24 = 40 := by kernel_rfl
section
variable {H : Type} {enc : TypeId × Value → H} {W : World} {held : Bool}
set_option maxRecDepth 100000 in
/-- The three fields of a frame. -/
theorem frame_of {f0 f1 f2 : Field} {fuel : Nat} {cs : List Value} {x : DataW H × List MemPlace} (he : Try.prog.underlying 24 = some (.struct #[f0, f1, f2])) (hone : oneCellFields Try.prog #[f0, f1, f2] = true) (u0 : Try.prog.underlying f0.type = some (.int .i64)) (u1 : Try.prog.underlying f1.type = some (.int .i64)) (t2 : f2.type = 22) (hl : cs.length = 3)
    (h : DataW.trod enc Try.prog W 0 (fun _ => true) held fuel 24 cs = some x) (hw : ∀ m ∈ x.1.weights Try.prog 24, m ≤ reachBytes) : ∃ a : Fd, cs = fdcell a ∧ ∃ f : Fm, FdAt W 0 W.heap.size a f := by
  obtain ⟨ys, n, _, hx, _, hyl, hg⟩ := DataW.trod_struct he h
  match cs, hl, ys, hyl with
  | [c0, c1, c2], _, [y0, y1, y2], _ =>
    have g0 := hg 0 f0 rfl
    have g1 := hg 1 f1 rfl
    have g2 := hg 2 f2 rfl
    obtain ⟨o0, k0⟩ := hone_of hone 0 f0 rfl
    obtain ⟨o1, k1⟩ := hone_of hone 1 f1 rfl
    obtain ⟨o2, k2⟩ := hone_of hone 2 f2 rfl
    rw [o0, k0] at g0
    rw [o1, k1] at g1
    rw [o2, k2] at g2
    have hwt : ∀ m ∈ DataW.weightsEach Try.prog [f0.type, f1.type, f2.type] [y0.1, y1.1, y2.1], m ≤ reachBytes := by
      have e : x.1.weights Try.prog 24 = DataW.weightsEach Try.prog [f0.type, f1.type, f2.type] [y0.1, y1.1, y2.1] := by
        rw [hx]
        simp only [DataW.weights, he, List.map_cons, List.map_nil]
      rw [← e]
      exact hw
    obtain ⟨n0, e0, _, _⟩ := DataW.trod_int (x := y0) u0 (by simpa using g0)
    obtain ⟨n1, e1, _, _⟩ := DataW.trod_int (x := y1) u1 (by simpa using g1)
    obtain ⟨A2, n2, d2, l2, e2, k2', h2, s2⟩ := open_code_in (x := y2) (by rw [t2] at g2; simpa using g2) (fun m hm => hwt m (DataW.weights_mem_each (j := 2) (t := f2.type) (d := y2.1) rfl rfl m (by rw [t2]; exact hm)))
    simp only [List.cons.injEq, and_true] at e0 e1 e2
    subst e0 e1 e2
    exact ⟨⟨n0, n1, A2, n2, d2⟩, rfl, ⟨n0, n1, l2⟩, ⟨rfl, rfl, h2, k2', Far.zero _, s2⟩⟩
theorem fms_of (W : World) : ∀ hs : List Fd, (∀ a ∈ hs, ∃ f : Fm, FdAt W 0 W.heap.size a f) → ∃ F : Tg, Fds W 0 W.heap.size hs F := by
  intro hs
  induction hs with
  | nil => exact fun _ => ⟨[], rfl, fun k h f e => by simp at e⟩
  | cons a r ih =>
    intro hq
    obtain ⟨f, hf⟩ := hq a List.mem_cons_self
    obtain ⟨F, hl, hF⟩ := ih fun b hb => hq b (List.mem_cons_of_mem _ hb)
    refine ⟨f :: F, by simp [hl], fun k h g e1 e2 => ?_⟩
    cases k with
    | zero => simp at e1 e2; subst e1 e2; exact hf
    | succ k => simp at e1 e2; exact hF k h g e1 e2
theorem array2 {α : Type} {cs : Array α} (h : cs.size = 2) : ∃ c0 c1, cs = #[c0, c1] := by
  obtain ⟨l⟩ := cs
  match l, h with
  | [c0, c1], _ => exact ⟨c0, c1, rfl⟩
theorem array3 {α : Type} {cs : Array α} (h : cs.size = 3) : ∃ c0 c1 c2, cs = #[c0, c1, c2] := by
  obtain ⟨l⟩ := cs
  match l, h with
  | [c0, c1, c2], _ => exact ⟨c0, c1, c2, rfl⟩
theorem array5 {α : Type} {cs : Array α} (h : cs.size = 5) : ∃ c0 c1 c2 c3 c4, cs = #[c0, c1, c2, c3, c4] := by
  obtain ⟨l⟩ := cs
  match l, h with
  | [c0, c1, c2, c3, c4], _ => exact ⟨c0, c1, c2, c3, c4, rfl⟩
set_option maxRecDepth 100000 in
theorem target_of0 {r : Reach} {b0 : Nat} {v : Value} {d : DataW H} {p : List MemPlace} (f0 f1 : Field) (hs : Try.prog.underlying 39 = some (.struct #[f0, f1]))
    (h0 : f0.type = 3) (h1 : f1.type = 37) (o0 : f0.offset = 0) (o1 : f1.offset = 1)
    (hv : Value.okWide Try.prog W r b0 39 v) (h : DataW.Trod enc Try.prog W 0 (fun _ => true) held 39 v d p) (hw : ∀ m ∈ d.weights Try.prog 39, m ≤ reachBytes) :
    ∃ (Al : Int) (A : Option Addr) (n c : Nat) (hs : List Fd) (F : Tg), v = tv Al A n c ∧ TgAt W 0 W.heap.size A n c hs F := by
  obtain ⟨cs, rfl, hsz⟩ := okWide_struct hs hv
  obtain ⟨c0, c1, rfl⟩ := array2 (hsz.trans (by kernel_rfl))
  obtain ⟨fuel, hf⟩ := h
  obtain ⟨xs, n, _, hx, _, hlen, hg⟩ := DataW.trod_struct hs hf
  match xs, hlen with
  | [y0, y1], _ =>
    have g0 := hg 0 f0 rfl
    have g1 := hg 1 f1 rfl
    have hwt : ∀ m ∈ DataW.weightsEach Try.prog [f0.type, f1.type] [y0.1, y1.1], m ≤ reachBytes := by
      have e : d.weights Try.prog 39 = DataW.weightsEach Try.prog [f0.type, f1.type] [y0.1, y1.1] := by
        simp only [Prod.mk.injEq] at hx
        rw [hx.1]
        simp only [DataW.weights, hs, List.map_cons, List.map_nil]
      rw [← e]
      exact hw
    have hwt1 : ∀ m ∈ y1.1.weights Try.prog 37, m ≤ reachBytes := fun m hm => hwt m (DataW.weights_mem_each (j := 1) (t := f1.type) (d := y1.1) rfl rfl m (by rw [h1]; exact hm))
    rw [h0, o0, show Try.prog.cellsOf 3 = 1 by kernel_rfl] at g0
    rw [h1, o1, show Try.prog.cellsOf 37 = 1 by kernel_rfl] at g1
    obtain ⟨k, e0, _, w0⟩ := DataW.trod_int (x := y0) Try.underlying3 (by simpa [Value.cells] using g0)
    obtain ⟨A, n', c, hds, e, hA, hl, hnc, hb, hsee, hq⟩ := open_flat (cs := [c1]) (α := Fd) (f := fdcell) (Q := fun a => ∃ f : Fm, FdAt W 0 W.heap.size a f) (K := 3) fdcell_len (by omega) Try.underlying37 (by kernel_rfl) (fun cs y n hcl ht hw' => frame_of Try.underlying24 (by kernel_rfl) Try.underlying3 Try.underlying3 rfl hcl ht hw') (by simpa [Value.cells] using g1) hwt1
    rw [bytes_frame] at hb
    unfold reachBytes at hb
    obtain ⟨F, hF⟩ := fms_of W hds hq
    simp only [List.cons.injEq, and_true] at e0 e
    subst e0 e
    exact ⟨k, A, n', c, hds, F, rfl, ⟨by rw [← hF.len, hl], ⟨hA, hnc, by omega⟩, Far.zero _, hsee, hF⟩⟩
set_option maxRecDepth 100000 in
/-- A target that came in. -/
theorem open_target {r : Reach} {b0 : Nat} {v : Value} {d : DataW H} {p : List MemPlace}
    (hv : Value.okWide Try.prog W r b0 39 v) (h : DataW.Trod enc Try.prog W 0 (fun _ => true) held 39 v d p) (hw : ∀ m ∈ d.weights Try.prog 39, m ≤ reachBytes) :
    ∃ (Al : Int) (A : Option Addr) (n c : Nat) (hs : List Fd) (F : Tg), v = tv Al A n c ∧ TgAt W 0 W.heap.size A n c hs F :=
  target_of0 _ _ Try.underlying39 rfl rfl rfl rfl hv h hw
set_option maxRecDepth 100000 in
/-- An instruction that came in. -/
theorem open_instr {r : Reach} {b0 : Nat} {v : Value} {d : DataW H} {p : List MemPlace} (hv : Value.okWide Try.prog W r b0 27 v) (h : DataW.Trod enc Try.prog W 0 (fun _ => true) held 27 v d p) : ∃ o a b c m : Int, v = iv o a b c m := by
  obtain ⟨cs, rfl, hsz⟩ := okWide_struct Try.underlying27 hv
  obtain ⟨c0, c1, c2, c3, c4, rfl⟩ := array5 (hsz.trans (by kernel_rfl))
  obtain ⟨fuel, hf⟩ := h
  obtain ⟨a, b, c, d, m, e⟩ := five_of (cs := [c0, c1, c2, c3, c4]) Try.underlying27 (by kernel_rfl) Try.underlying3 Try.underlying3 Try.underlying3 Try.underlying3 Try.underlying25 rfl (by simpa [Value.cells] using hf)
  simp only [List.cons.injEq, and_true] at e
  obtain ⟨rfl, rfl, rfl, rfl, rfl⟩ := e
  exact ⟨a, b, c, d, m, rfl⟩
set_option maxRecDepth 100000 in
/-- A frame that came in. -/
theorem open_frame {r : Reach} {b0 : Nat} {v : Value} {d : DataW H} {p : List MemPlace} (hv : Value.okWide Try.prog W r b0 24 v) (h : DataW.Trod enc Try.prog W 0 (fun _ => true) held 24 v d p) (hw : ∀ m ∈ d.weights Try.prog 24, m ≤ reachBytes) :
    ∃ (P S : Int) (A : Option Addr) (n c : Nat) (f : Fm), v = mv P S A n c ∧ FdAt W 0 W.heap.size ⟨P, S, A, n, c⟩ f := by
  obtain ⟨cs, rfl, hsz⟩ := okWide_struct Try.underlying24 hv
  obtain ⟨c0, c1, c2, rfl⟩ := array3 (hsz.trans (by kernel_rfl))
  obtain ⟨fuel, hf⟩ := h
  obtain ⟨a, e, f, hF⟩ := frame_of (cs := [c0, c1, c2]) Try.underlying24 (by kernel_rfl) Try.underlying3 Try.underlying3 rfl rfl (by simpa [Value.cells] using hf) hw
  obtain ⟨P, S, A, n, c⟩ := a
  unfold fdcell at e
  simp only [List.cons.injEq, and_true] at e
  obtain ⟨rfl, rfl, rfl⟩ := e
  exact ⟨P, S, A, n, c, f, rfl, hF⟩
set_option maxRecDepth 100000 in
/-- The numbers of a frame that came in. -/
theorem framev_of {r : Reach} {b0 : Nat} {v : Value} {d : DataW H} {p : List MemPlace} (f0 f1 f2 : Field) (hs : Try.prog.underlying 24 = some (.struct #[f0, f1, f2])) (hone : oneCellFields Try.prog #[f0, f1, f2] = true) (u0 : Try.prog.underlying f0.type = some (.int .i64)) (u1 : Try.prog.underlying f1.type = some (.int .i64)) (t2 : f2.type = 22)
    (hv : Value.okWide Try.prog W r b0 24 v) (h : DataW.Trod enc Try.prog W 0 (fun _ => true) held 24 v d p) : ∃ (P S : Int) (A : Option Addr) (n c : Nat), v = mv P S A n c := by
  obtain ⟨cs, rfl, hsz⟩ := okWide_struct hs hv
  obtain ⟨c0, c1, c2, rfl⟩ := array3 (hsz.trans (by kernel_rfl))
  obtain ⟨fuel, hf⟩ := h
  obtain ⟨ys, n, _, hx, _, hyl, hg⟩ := DataW.trod_struct hs hf
  match ys, hyl with
  | [y0, y1, y2], _ =>
    have g0 := hg 0 f0 rfl
    have g1 := hg 1 f1 rfl
    have g2 := hg 2 f2 rfl
    obtain ⟨o0, k0⟩ := hone_of hone 0 f0 rfl
    obtain ⟨o1, k1⟩ := hone_of hone 1 f1 rfl
    obtain ⟨o2, k2⟩ := hone_of hone 2 f2 rfl
    rw [o0, k0] at g0
    rw [o1, k1] at g1
    rw [o2, k2, t2] at g2
    obtain ⟨n0, e0, _, _⟩ := DataW.trod_int (x := y0) u0 (by simpa [Value.cells] using g0)
    obtain ⟨n1, e1, _, _⟩ := DataW.trod_int (x := y1) u1 (by simpa [Value.cells] using g1)
    have e2 : ∃ (A : Option Addr) (n c : Nat), c2 = .slice A n c := by
      have g2' : DataW.trod enc Try.prog W 0 (fun _ => true) held n 22 [c2] = some y2 := by simpa [Value.cells] using g2
      rcases open_slice Try.underlying22 g2' with ⟨hcs, _⟩ | ⟨a, len, cap, m, n, D, Pl, hcs, _⟩
      · simp only [List.cons.injEq, and_true] at hcs; exact ⟨_, _, _, hcs⟩
      · simp only [List.cons.injEq, and_true] at hcs; exact ⟨_, _, _, hcs⟩
    obtain ⟨A, m, c, e2⟩ := e2
    simp only [List.cons.injEq, and_true] at e0 e1
    subst e0 e1 e2
    exact ⟨n0, n1, A, m, c, rfl⟩
set_option maxRecDepth 100000 in
theorem open_framev {r : Reach} {b0 : Nat} {v : Value} {d : DataW H} {p : List MemPlace} (hv : Value.okWide Try.prog W r b0 24 v) (h : DataW.Trod enc Try.prog W 0 (fun _ => true) held 24 v d p) : ∃ (P S : Int) (A : Option Addr) (n c : Nat), v = mv P S A n c :=
  framev_of _ _ _ Try.underlying24 (by kernel_rfl) Try.underlying3 Try.underlying3 rfl hv h
end
end Go.Proofs.Ytjgoldlebmfiiaa
