import Derived.Test.YtlkcjjalkdlicaaDoorMZgo
set_option linter.unusedVariables false
set_option linter.unusedSimpArgs false
section
/-
  The law package of chapter 8: awake. Conditions: those of the types; the table of shapes lies as it is laid.
-/
namespace Go.Proofs.YtlkcjjalkdlicaaDoor
open Go.RowKit

def awF : Pg := [⟨0, [], [⟨0, 0, 0, 0, 5⟩, ⟨23, 0, 0, 0, 0⟩]⟩]
theorem aw_pg : pgE awF = 0 := by decide
theorem aw_run : runE awF 9 = 0 := by decide
theorem aw_steps : (runS awF [] 9).steps = 2 := by rfl
theorem aw_res : lo (runS awF [] 9).res = 5 := by rfl
theorem aw_imm : ImmF awF := by
  intro f hf x hx
  simp [awF] at hf
  subst hf
  simp at hx
  rcases hx with rfl | rfl <;> decide
theorem in_nil (w : World) (B : Nat) : InAt w B (.slice none 0 0) [] := ⟨none, 0, 0, rfl, rfl, Nat.le_refl _, by omega, fun _ => rfl, Sees.nil_ _ _ _⟩
theorem zcap_none : Cap none 0 0 := ⟨fun _ => rfl, Nat.le_refl _, by omega⟩
theorem zcap_some {n c : Nat} (a : Addr) (h : n ≤ c) (h' : n ≤ 8796093022208) : Cap (some a) n c := ⟨(fun e => by cases e), h, h'⟩
/-- A function without slots whose code lies in a block of its own. -/
theorem code_hd {w : World} {E B n : Nat} (hE : E < B) (p : Int) (l : List Ins) (hn : l.length = n) (hl : n ≤ 8796093022208) (r : Row w E 65 (icells l)) : HdAt w 0 B ⟨p, none, 0, 0, some ⟨E, 0, none⟩, n, n⟩ ⟨p, [], l⟩ :=
  ⟨rfl, rfl, hn, zcap_none, zcap_some _ (Nat.le_refl _) hl, Far.zero _, Far.zero _, Sees.nil_ _ _ _, fun k u hu => ⟨E, 0, rfl, hE, by rw [Nat.zero_add]; exact r.cell hu⟩⟩
/-- A program of one such function. -/
theorem one_pg {w : World} {E G B n : Nat} (hE : E < B) (hG : G < B) (p : Int) (l : List Ins) (hn : l.length = n) (hl : n ≤ 8796093022208) (r : Row w E 65 (icells l)) (q : Row w G 69 [.int .i64 p, .slice none 0 0, .slice (some ⟨E, 0, none⟩) n n]) :
    PgAt w 0 B (some ⟨G, 0, none⟩) 1 1 [⟨p, none, 0, 0, some ⟨E, 0, none⟩, n, n⟩] [⟨p, [], l⟩] :=
  ⟨rfl, zcap_some _ (Nat.le_refl _) (by omega), Far.zero _, fun k u hu => ⟨G, 0, rfl, hG, by rw [Nat.zero_add]; exact q.cell hu⟩, ⟨rfl, fun j h f h1 h2 => by
    rcases j with _ | j
    · injection h1 with h1; injection h2 with h2
      subst h1; subst h2
      exact code_hd hE p l hn hl r
    · simp at h1⟩⟩
/-- An outcome stored into a new block. -/
theorem put_outcome (w2 : World) (vs : List Value) (hl : vs.length = 6) (h1 : ∀ v ∈ vs, v.oneCell' = true) :
    ∃ W3, (Instr.storeAt 36 (.pointer (some ⟨w2.heap.size, 0, none⟩)) (.agg vs.toArray)).run Tryd.prog (w2.alloc (.cells #[.int .i64 0, .int .u64 0, .int .u64 0, .int .u64 0, .slice none 0 0, .int .i64 0] 36)) = .ok () W3 ∧ Row W3 w2.heap.size 36 vs ∧ Below w2.heap.size w2 W3 := by
  have R := Row.new w2 36 [.int .i64 0, .int .u64 0, .int .u64 0, .int .u64 0, .slice none 0 0, .int .i64 0]
  exact ⟨_, store_row size_outcome hl rfl h1 R, set_row_row R, (below1 w2 _).grown (set_row_grown _ _ _) (Nat.le_of_lt R.lt) (fun k hk => by injection hk with hk; omega)⟩
theorem outl_one {K C L R S : Int} {vt : Value} (h : vt.oneCell' = true) : ∀ v ∈ ([.int .i64 K, .int .u64 C, .int .u64 L, .int .u64 R, vt, .int .i64 S] : List Value), v.oneCell' = true := by
  intro v hv
  simp only [List.mem_cons, List.not_mem_nil, or_false] at hv
  rcases hv with rfl | rfl | rfl | rfl | rfl | rfl <;> first | rfl | assumption
set_option maxRecDepth 100000 in
set_option maxHeartbeats 4000000 in
theorem awake8_any (w : World) (hSh : Hid (Shapes w)) :
    Calls Tryd.prog 8 #[] w fun e w' => e = .returned (.bool true) ∧ Below w.heap.size w w' := by
  obtain ⟨W, hW⟩ : ∃ W, (w.alloc (.cells #[.int .i64 0, .int .i64 0, .int .i64 0, .int .i64 0, .int .u64 5, .int .i64 23, .int .i64 0, .int .i64 0, .int .i64 0, .int .u64 0] 65)).alloc (.cells #[.int .i64 0, .slice none 0 0, .slice (some ⟨w.heap.size, 0, none⟩) 2 2] 69) = W := ⟨_, rfl⟩
  have HW := hide hW
  have hb := hide (show Below w.heap.size w W by rw [← hW]; exact below2 w _ _)
  clear hW
  go_enter Tryd.func8, Tryd.ntmps8
  go_wp2_with fail
  rw [HW.out]
  have r0 := hide (show Row W w.heap.size 65 (icells [⟨0, 0, 0, 0, 5⟩, ⟨23, 0, 0, 0, 0⟩]) by rw [← HW.out]; exact (Row.new w _ (icells [⟨0, 0, 0, 0, 5⟩, ⟨23, 0, 0, 0, 0⟩])).alloc _)
  have r1 := hide (show Row W (w.heap.size + 1) 69 [.int .i64 0, .slice none 0 0, .slice (some ⟨w.heap.size, 0, none⟩) 2 2] by
    rw [← HW.out]
    have := Row.new (w.alloc (.cells #[.int .i64 0, .int .i64 0, .int .i64 0, .int .i64 0, .int .u64 5, .int .i64 23, .int .i64 0, .int .i64 0, .int .i64 0, .int .u64 0] 65)) 69 [.int .i64 0, .slice none 0 0, .slice (some ⟨w.heap.size, 0, none⟩) 2 2]
    rw [show (w.alloc (.cells #[.int .i64 0, .int .i64 0, .int .i64 0, .int .i64 0, .int .u64 5, .int .i64 23, .int .i64 0, .int .i64 0, .int .i64 0, .int .u64 0] 65)).heap.size = w.heap.size + 1 by simp] at this
    exact this)
  have hP := one_pg (B := W.heap.size) r0.out.lt r1.out.lt 0 _ rfl (by decide) r0.out r1.out
  refine (out_any awF [] 9 none 0 0 W (hide aw_imm) (hide (in_nil _ _)) (hide (fun v hv => by cases hv)) (hide hP) (hide (hSh.out.below hb.out))).mono ?_
  rintro e w2 ⟨vt, rfl, hto, hb2⟩
  have HB := hide (hb.out.trans (hb2.mono hb.out.size))
  have HY : (ocells (runS awF [] 9) vt).toArray = #[.int .i64 (runS awF [] 9).kind, .int .u64 (runS awF [] 9).code, .int .u64 5, .int .u64 (hi (runS awF [] 9).res), vt, .int .i64 2] := by unfold ocells; rw [aw_res, aw_steps]; rfl
  rw [HY, aw_run]
  generalize (runS awF [] 9).kind = K
  generalize (runS awF [] 9).code = C
  generalize hi (runS awF [] 9).res = R
  obtain ⟨W3, hst, RO, hb3⟩ := put_outcome w2 [.int .i64 K, .int .u64 C, .int .u64 5, .int .u64 R, vt, .int .i64 2] rfl (outl_one (own_oneCell hto))
  have x2 := RO.cell (k := 2) rfl
  have x5 := RO.cell (k := 5) rfl
  have HB3 := hide (HB.out.trans (hb3.mono HB.out.size))
  clear HY hto hP r0 r1 hb hb2 HW RO hb3
  go_wp2_with (first | (refine wpList_store_whole 36 (.tmp 1) (.tmp 11) rfl rfl _ _ rfl rfl hst ?_) | fail)
  exact bodyPost_ret (results_tmp rfl _ _ _) rfl ⟨rfl, HB3.out⟩
end Go.Proofs.YtlkcjjalkdlicaaDoor
end
