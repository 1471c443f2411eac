import Derived.Test.YtlcmcmocjbeocaaGreatDoorMJri
import Derived.Test.YtlcmcmocjbeocaaGreatDoorMPmem
import Derived.Test.YtlcmcmocjbeocaaGreatDoorMBitsm
import Derived.Test.YtlcmcmocjbeocaaGreatDoorMKit
import Derived.Test.YtlcmcmocjbeocaaGreatDoorMQlp
import Derived.Test.YtlcmcmocjbeocaaGreatDoorMJmath
import Derived.RegionTactic
import Derived.Deep.RegionLaw
import Derived.Deep.DeepCutAuto
import Derived.ArgAppend
set_option linter.unusedVariables false
set_option linter.unusedSimpArgs false
section
/-
  What the loops of chapter 11's reference Decode keep: the target and the frame that are being read. No function of the program is named here.
-/
namespace Go.Proofs.YtlcmcmocjbeocaaGreatDoor
open Go.RowKit

/-- The steps of a frame. -/
theorem fr_steps (Al : Int) (S T1 T2 T3 TE : Rd Unit) (P q k : Nat) (C : List Ins) (h1 : T1 = (S.to (limR 8)).st) (hP : P = (S.to (limR 8)).val 0) (h2 : T2 = (T1.to (limR 2147483647)).st) (hq : q = (T1.to (limR 2147483647)).val 0) (h3 : T3 = (T2.to (limR 1024)).st) (hk : k = (T2.to (limR 1024)).val 0)
    (h5 : ∀ (β : Type) (K : List Ins → List Int → Rd β), (T3.to (timesR minsQ k)).and K = TE.to (K C)) : S.to (frQ Al) = TE.to (fun r => .ok (⟨P, q * Al, C⟩ : Fm) r) := by
  unfold frQ
  rw [Rd.to_and, Rd.and_to 0, ← h1, ← hP, Rd.to_and, Rd.and_to 0, ← h2, ← hq, Rd.to_and, Rd.and_to 0, ← h3, ← hk, Rd.to_and, h5]
/-- The steps of a target. -/
theorem tg_steps (S T1 T2 T3 TE : Rd Unit) (k b n : Nat) (F : Tg) (h1 : T1 = (S.to (limR 24)).st) (hk : k = (S.to (limR 24)).val 0) (h2 : T2 = (T1.to (limR 2147483647)).st) (hb : b = (T1.to (limR 2147483647)).val 0) (h3 : T3 = (T2.to (limR 80)).st) (hn : n = (T2.to (limR 80)).val 0)
    (h5 : ∀ (β : Type) (K : List Fm → List Int → Rd β), (T3.to (timesR (frQ ((2 : Int) ^ k)) n)).and K = TE.to (K F)) : S.to tgQ = TE.to (fun r => .ok ((2 : Int) ^ k, (b : Int), F) r) := by
  unfold tgQ
  rw [Rd.to_and, Rd.and_to 0, ← h1, ← hk, Rd.to_and, Rd.and_to 0, ← h2, ← hb, Rd.to_and, Rd.and_to 0, ← h3, ← hn, Rd.to_and, h5]
theorem to_val {α : Type} {S : Rd Unit} {a b : α} {r : List Int} (h : S.to (fun r => Rd.ok a r) = .ok b r) : a = b := by
  cases S with
  | no e => cases h
  | ok u t => injection h
theorem to_st {α : Type} (S : Rd Unit) (a : α) : (S.to (fun r => Rd.ok a r)).st = S := by
  cases S with
  | no e => rfl
  | ok u t => rfl

/-- What the outer loop keeps; block g: the reader; gt: the target's own place; r0: the result's. -/
structure DcI (w2 : World) (g gt r0 b off n c : Nat) (zs : List Int) (S : Rd Unit) (Al : Int) (A : Option Addr) (m cA : Nat) (hs : List Fd) (F : Tg) (wr : World) : Prop where
  kp : Ks w2 g b off n c zs S wr
  row : Row wr gt 53 [.int .i64 Al, .slice A m cA]
  res : Row wr r0 53 [.int .i64 0, .slice none 0 0]
  tg : TgAt wr (gt + 1) wr.heap.size A m cA hs F
  imm : ImmT F
/-- What the inner loop keeps; block gf: the frame's own place. -/
structure DfI (w2 : World) (g gt gf r0 b off n c : Nat) (zs : List Int) (S : Rd Unit) (Al : Int) (A : Option Addr) (m cA : Nat) (hs : List Fd) (F : Tg) (P Sz : Int) (A1 : Option Addr) (n1 c1 : Nat) (C : List Ins) (wr : World) : Prop where
  kp : Ks w2 g b off n c zs S wr
  row : Row wr gt 53 [.int .i64 Al, .slice A m cA]
  res : Row wr r0 53 [.int .i64 0, .slice none 0 0]
  tg : TgAt wr (gt + 1) gf A m cA hs F
  imm : ImmT F
  fr : Row wr gf 90 [.int .i64 P, .int .i64 Sz, .slice A1 n1 c1]
  cl : C.length = n1
  cap : Cap A1 n1 c1
  far : Far (gf + 1) A1
  see : Sees wr wr.heap.size A1 (icells C)
  ci : ∀ x ∈ C, 0 ≤ x.imm ∧ x.imm ≤ 18446744073709551615
/-- Where the places lie. -/
structure Plc (w2 : World) (g gt r0 : Nat) : Prop where
  a : r0 < g
  b : g < w2.heap.size
  c : w2.heap.size ≤ gt

section
variable {w2 wr w' w6 wb : World} {g gt gf r0 b off n c m cA : Nat} {zs : List Int} {S T : Rd Unit} {Al : Int} {A A6 A1 : Option Addr} {hs : List Fd} {F : Tg} {P Sz : Int} {n1 c1 c6 : Nat} {C : List Ins}
theorem DcI.drewN (H : DcI w2 g gt r0 b off n c zs S Al A m cA hs F wr) (q : Nat) : DcI w2 g gt r0 b off n c zs S Al A m cA hs F (wr.drewN q) :=
  ⟨H.kp.drewN q, H.row.drewN q, H.res.drewN q, H.tg.drewN q, H.imm⟩
theorem DcI.to (H : DcI w2 g gt r0 b off n c zs S Al A m cA hs F wr) (hp : Plc w2 g gt r0) (hr : RsSt w' g b off n c zs T) (hG : wr.grownBy w' (some g)) : DcI w2 g gt r0 b off n c zs T Al A m cA hs F w' := by
  have := hp.a; have := hp.b; have := hp.c
  exact ⟨H.kp.to hr hG, H.row.grown hG (fun e => by injection e with e; omega), H.res.grown hG (fun e => by injection e with e; omega), (H.tg.grown hG (by omega) (Nat.le_refl _)).more hG.size (Nat.le_refl _), H.imm⟩
/-- A frame begins. -/
theorem DcI.frame (H : DcI w2 g gt r0 b off n c zs S Al A m cA hs F wr) (hwb : wr.alloc (.cells #[.int .i64 P, .int .i64 0, .slice none 0 0] 90) = wb) (hgf : wr.heap.size = gf) : DfI w2 g gt gf r0 b off n c zs S Al A m cA hs F P 0 none 0 0 [] wb := by
  rw [← hwb, ← hgf]
  refine ⟨H.kp.alloc _, H.row.alloc _, H.res.alloc _, H.tg.keep fun p _ hp => World.cell?_alloc_lt wr _ p hp, H.imm, Row.new wr _ _, rfl, ⟨fun _ => rfl, Nat.le_refl _, Nat.zero_le _⟩, Far.none _, Sees.nil_ _ _ _, fun x hx => by cases hx⟩
theorem DfI.drewN (H : DfI w2 g gt gf r0 b off n c zs S Al A m cA hs F P Sz A1 n1 c1 C wr) (q : Nat) : DfI w2 g gt gf r0 b off n c zs S Al A m cA hs F P Sz A1 n1 c1 C (wr.drewN q) :=
  ⟨H.kp.drewN q, H.row.drewN q, H.res.drewN q, H.tg.drewN q, H.imm, H.fr.drewN q, H.cl, H.cap, H.far, H.see.draws q, H.ci⟩
theorem DfI.to (H : DfI w2 g gt gf r0 b off n c zs S Al A m cA hs F P Sz A1 n1 c1 C wr) (hp : Plc w2 g gt r0) (hgf : gt < gf) (hr : RsSt w' g b off n c zs T) (hG : wr.grownBy w' (some g)) : DfI w2 g gt gf r0 b off n c zs T Al A m cA hs F P Sz A1 n1 c1 C w' := by
  have := hp.a; have := hp.b; have := hp.c; have hl := H.fr.lt
  exact ⟨H.kp.to hr hG, H.row.grown hG (fun e => by injection e with e; omega), H.res.grown hG (fun e => by injection e with e; omega), H.tg.grown hG (by omega) (by omega), H.imm, H.fr.grown hG (fun e => by injection e with e; omega), H.cl, H.cap, H.far,
    (H.see.keepF H.far fun p h1 h2 => World.cell?_of_block (hG.block p.block h2 (fun e => by injection e with e; omega))).more hG.size, H.ci⟩
theorem DfI.alloc (H : DfI w2 g gt gf r0 b off n c zs S Al A m cA hs F P Sz A1 n1 c1 C wr) (o : Obj) : DfI w2 g gt gf r0 b off n c zs S Al A m cA hs F P Sz A1 n1 c1 C (wr.alloc o) := by
  have hl := H.fr.lt
  exact ⟨H.kp.alloc o, H.row.alloc o, H.res.alloc o, H.tg.keep fun p _ hp => World.cell?_alloc_lt wr _ p (by omega), H.imm, H.fr.alloc o, H.cl, H.cap, H.far, (H.see.keepF H.far fun p _ h2 => World.cell?_alloc_lt wr _ p h2).more (by simp), H.ci⟩
theorem DfI.kept (H : DfI w2 g gt gf r0 b off n c zs S Al A m cA hs F P Sz A1 n1 c1 C wr) (hG : wr.grownBy w' none) : DfI w2 g gt gf r0 b off n c zs S Al A m cA hs F P Sz A1 n1 c1 C w' := by
  have hl := H.fr.lt
  have hk : ∀ p : Addr, p.block < wr.heap.size → w'.cell? p = wr.cell? p := fun p h2 => World.cell?_of_block (hG.block p.block h2 (fun e => by cases e))
  exact ⟨⟨H.kp.r.kept hG (fun k e => by cases e), H.kp.g.andThen hG (fun k e => by cases e)⟩, H.row.grown hG (fun e => by cases e), H.res.grown hG (fun e => by cases e), H.tg.keep fun p _ hp => hk p (by omega), H.imm, H.fr.grown hG (fun e => by cases e), H.cl, H.cap, H.far, (H.see.keepF H.far fun p _ h2 => hk p h2).more hG.size, H.ci⟩
/-- The frame's size is put. -/
theorem DfI.size (H : DfI w2 g gt gf r0 b off n c zs S Al A m cA hs F P Sz A1 n1 c1 C wr) (hp : Plc w2 g gt r0) (hgf : gt < gf) (z : Int) : DfI w2 g gt gf r0 b off n c zs S Al A m cA hs F P z A1 n1 c1 C (wr.setCell ⟨gf, 1, none⟩ (.int .i64 z)) := by
  have := hp.a; have := hp.b; have := hp.c
  have ho : ∀ p : Addr, p.block ≠ gf → (wr.setCell ⟨gf, 1, none⟩ (.int .i64 z)).cell? p = wr.cell? p := fun p h => World.cell?_setCell_other _ _ _ _ (fun e => by subst e; exact h rfl)
  have hz : (wr.setCell ⟨gf, 1, none⟩ (.int .i64 z)).heap.size = wr.heap.size := by simp [World.setCell]
  refine ⟨H.kp.set (by omega) (by omega) 1 _, H.row.far (by simp; omega) _, H.res.far (by simp; omega) _, H.tg.keep fun p _ h2 => ho p (by omega), H.imm, H.fr.set_ 1 _, H.cl, H.cap, H.far, ?_, H.ci⟩
  rw [hz]
  exact H.see.keepF H.far fun p h1 _ => ho p (by omega)
/-- One instruction more. -/
theorem DfI.ins {x : Ins} (H : DfI w2 g gt gf r0 b off n c zs S Al A m cA hs F P Sz A1 n1 c1 C wr) (hp : Plc w2 g gt r0) (hgf : gt < gf) (hG : wr.grownBy w6 none) (ho : w6.ownsRow wr.heap.size 64 5 (.slice A6 (n1 + 1) c6) (n1 + 1) (icells C ++ icell x)) (hn : n1 ≤ 100000) (hx : 0 ≤ x.imm ∧ x.imm ≤ 18446744073709551615) :
    DfI w2 g gt gf r0 b off n c zs S Al A m cA hs F P Sz A6 (n1 + 1) c6 (C ++ [x]) (w6.setCell ⟨gf, 2, none⟩ (.slice A6 (n1 + 1) c6)) := by
  have := hp.a; have := hp.b; have := hp.c
  have hgl := H.fr.lt
  have K := H.kept hG
  obtain ⟨A', k', e, hA, hmk, hfar, hsee⟩ := own_seen ho
  injection e with e1 _ e3
  subst e1 e3
  have ho : ∀ p : Addr, p.block ≠ gf → (w6.setCell ⟨gf, 2, none⟩ (.slice A6 (n1 + 1) c6)).cell? p = w6.cell? p := fun p h => World.cell?_setCell_other _ _ _ _ (fun e => by subst e; exact h rfl)
  have hz : (w6.setCell ⟨gf, 2, none⟩ (.slice A6 (n1 + 1) c6)).heap.size = w6.heap.size := by simp [World.setCell]
  refine ⟨K.kp.set (by omega) (by omega) 2 _, K.row.far (by simp; omega) _, K.res.far (by simp; omega) _, K.tg.keep fun p _ h2 => ho p (by omega), K.imm, K.fr.set_ 2 _, by simp [H.cl], ⟨hA, hmk, show n1 + 1 ≤ 8796093022208 by omega⟩, hfar.more (by omega), ?_, fun y hy => ?_⟩
  · rw [hz, icells_append, show icells [x] = icell x from by simp [icells]]
    exact hsee.keepF hfar fun p h1 _ => ho p (by omega)
  · rcases List.mem_append.1 hy with h | h
    · exact H.ci y h
    · obtain rfl := List.mem_singleton.1 h
      exact hx
/-- One frame more. -/
theorem DfI.add (H : DfI w2 g gt gf r0 b off n c zs S Al A m cA hs F P Sz A1 n1 c1 C wr) (hp : Plc w2 g gt r0) (hgf : gt < gf) (hG : wr.grownBy w6 none) (ho : w6.ownsRow wr.heap.size 90 3 (.slice A6 (m + 1) c6) (m + 1) (fdcells hs ++ [.int .i64 P, .int .i64 Sz, .slice A1 n1 c1])) (hm : m ≤ 1000) :
    DcI w2 g gt r0 b off n c zs S Al A6 (m + 1) c6 (hs ++ [⟨P, Sz, A1, n1, c1⟩]) (F ++ [⟨P, Sz, C⟩]) (w6.setCell ⟨gt, 1, none⟩ (.slice A6 (m + 1) c6)) := by
  have := hp.a; have := hp.b; have := hp.c
  have hgl := H.fr.lt
  have K := H.kept hG
  have s6 := hG.size
  have hFl := H.tg.len
  have hhl : hs.length = m := by rw [H.tg.hd.len, hFl]
  obtain ⟨A', k', e, hA, hmk, hfar, hsee⟩ := own_seen ho
  injection e with e1 _ e3
  subst e1 e3
  have ho : ∀ p : Addr, p.block ≠ gt → (w6.setCell ⟨gt, 1, none⟩ (.slice A6 (m + 1) c6)).cell? p = w6.cell? p := fun p h => World.cell?_setCell_other _ _ _ _ (fun e => by subst e; exact h rfl)
  have hz : (w6.setCell ⟨gt, 1, none⟩ (.slice A6 (m + 1) c6)).heap.size = w6.heap.size := by simp [World.setCell]
  refine ⟨K.kp.set (by omega) (by omega) 1 _, K.row.set_ 1 _, K.res.far (by simp; omega) _, ⟨by simp [hFl], ⟨hA, hmk, show m + 1 ≤ 8796093022208 by omega⟩, hfar.more (by omega), ?_, ⟨by simp [hhl, hFl], fun k h f e1 e2 => ?_⟩⟩, fun f hf => ?_⟩
  · rw [hz, fdcells_append, show fdcells [(⟨P, Sz, A1, n1, c1⟩ : Fd)] = [.int .i64 P, .int .i64 Sz, .slice A1 n1 c1] from by simp [fdcells, fdcell]]
    exact hsee.keepF hfar fun p h1 _ => ho p (by omega)
  · rw [hz]
    rcases Nat.lt_or_ge k m with hk | hk
    · rw [List.getElem?_append_left (by omega)] at e1
      rw [List.getElem?_append_left (by omega)] at e2
      exact ((K.tg.hd.at_ k h f e1 e2).keep fun p h1 _ => ho p (by omega)).more (by omega) (Nat.le_refl _)
    · rw [List.getElem?_append_right (by omega), hhl] at e1
      rw [List.getElem?_append_right (by omega), hFl] at e2
      cases hz : k - m with
      | zero =>
        rw [hz] at e1 e2
        simp at e1 e2
        subst e1 e2
        exact ⟨rfl, rfl, H.cl, H.cap, H.far.more (by omega), K.see.keepF H.far fun p h1 _ => ho p (by omega)⟩
      | succ j => rw [hz] at e1; simp at e1
  · rcases List.mem_append.1 hf with h | h
    · exact H.imm f h
    · obtain rfl := List.mem_singleton.1 h
      exact H.ci
end
end Go.Proofs.YtlcmcmocjbeocaaGreatDoor
end

section
/-
  What a call may turn beside new blocks: one block, and one row that it grows. No function of the program is named here.
-/
namespace Go.Proofs.YtlcmcmocjbeocaaGreatDoor
open Go.RowKit

theorem grown_put1 (w : World) (g k : Nat) (u : Value) : w.grownBy (w.setCell ⟨g, k, none⟩ u) (some g) := ⟨rfl, rfl, rfl, by simp [World.setCell], fun i _ hi => Below.heap_setCell w ⟨g, k, none⟩ u i (fun e => hi (by rw [e]))⟩
/-- Only the block Bx, and the row v, may have turned; v' is the row now. -/
structure JKp (w w' : World) (Bx : Nat) (v v' : Value) : Prop where
  os : w'.os = w.os
  tape : w'.tape = w.tape
  output : w'.output = w.output
  size : w.heap.size ≤ w'.heap.size
  blk : ∀ k, k < w.heap.size → k ≠ Bx → v.ownBlock ≠ some k → w'.heap[k]? = w.heap[k]?
  own : ∀ k, v'.ownBlock = some k → v.ownBlock = some k ∨ w.heap.size ≤ k
section
variable {w w' w'' : World} {Bx : Nat} {v v' v'' : Value}
theorem JKp.refl (w : World) (Bx : Nat) (v : Value) : JKp w w Bx v v := ⟨rfl, rfl, rfl, Nat.le_refl _, fun _ _ _ _ => rfl, fun _ h => .inl h⟩
theorem JKp.trans (h : JKp w w' Bx v v') (h' : JKp w' w'' Bx v' v'') : JKp w w'' Bx v v'' :=
  ⟨h'.os.trans h.os, h'.tape.trans h.tape, h'.output.trans h.output, Nat.le_trans h.size h'.size, fun k hk h1 h2 => (h'.blk k (Nat.lt_of_lt_of_le hk h.size) h1 (fun e => by
    rcases h.own k e with e | e
    · exact h2 e
    · omega)).trans (h.blk k hk h1 h2), fun k hk => by
    rcases h'.own k hk with e | e
    · exact h.own k e
    · exact .inr (Nat.le_trans h.size e)⟩
theorem JKp.row {g t : Nat} {cs : List Value} (h : JKp w w' Bx v v') (r : Row w g t cs) (h1 : g ≠ Bx) (h2 : v.ownBlock ≠ some g) : Row w' g t cs := by
  unfold Row
  rw [h.blk g r.lt h1 h2]
  exact r
theorem JKp.below {B : Nat} (h : JKp w w' Bx v v') (hB : B ≤ w.heap.size) (h1 : B ≤ Bx) (h2 : ∀ k, v.ownBlock = some k → B ≤ k) : Below B w w' :=
  ⟨h.os, h.tape, h.output, h.size, fun k hk => h.blk k (by omega) (by omega) (fun e => by have := h2 k e; omega)⟩
theorem JKp.of_below (h : Below w.heap.size w w') (Bx : Nat) (v : Value) : JKp w w' Bx v v := ⟨h.os, h.tape, h.output, h.size, fun k hk _ _ => h.block k hk, fun _ e => .inl e⟩
theorem JKp.of_row (h : w.grownBy w' v.ownBlock) (ho : ∀ k, v'.ownBlock = some k → v.ownBlock = some k ∨ w.heap.size ≤ k) (Bx : Nat) : JKp w w' Bx v v' := ⟨h.os, h.tape, h.output, h.size, fun k hk _ h2 => h.block k hk (fun e => h2 e.symm), ho⟩
theorem JKp.set (w : World) (Bx k : Nat) (v u : Value) : JKp w (w.setCell ⟨Bx, k, none⟩ u) Bx v v :=
  have h := grown_put1 w Bx k u
  ⟨h.os, h.tape, h.output, h.size, fun j hj h1 _ => h.block j hj (fun e => h1 (by injection e)), fun _ e => .inl e⟩
end
end Go.Proofs.YtlcmcmocjbeocaaGreatDoor
end

section
/-
  An append to a row of the call's own: the row stays where it was, or lies in a new block. No function of the program is named here.
-/
namespace Go.Proofs.YtlcmcmocjbeocaaGreatDoor
open Go.RowKit

theorem append_where {P : Program} (w : World) (base : Nat) (t ty e : TypeId) (i : TypeInfo) (z : Value) (size bytes : Nat) (ht : P.underlying t = some (.slice e)) (hi : P.info? e = some i) (hz : i.zero = some z)
    (hsize : i.size = size) (hby : i.bytes = bytes) (hzs : z.cells.size = size) (hsz : 0 < size)
    (v : Value) (n : Nat) (xs : List Value) (hown : w.ownsRow base e size v n xs)
    (a : Addr) (m c : Nat) (news : List Value) (hl : news.length = m * size) (hnews : ∀ j u, news[j]? = some u → w.cell? (a.add j) = some u) (h1 : ∀ u ∈ news, u.oneCell' = true)
    (h63 : n + m ≤ maxLen) (hbytes : (n + m) * bytes ≤ 140737488355328) (hbase : base ≤ w.heap.size) :
    ∃ v' w', (Builtin.append_ #[t, t] ty #[v, .slice (some a) m c]).run P w = .ok v' w' ∧ w'.ownsRow base e size v' (n + m) (xs ++ news) ∧ w.grownBy w' v.ownBlock ∧ ∀ k, v'.ownBlock = some k → v.ownBlock = some k ∨ k = w.heap.size := by
  obtain ⟨v', w', hr, h2, h3, h4⟩ := run_append_own (P := P) w base t ty e i z size bytes ht hi hz hsize hby hzs hsz v n xs hown a m c news hl hnews h1 h63 hbytes hbase
  refine ⟨v', w', hr, h2, h3, fun k hk => ?_⟩
  subst hsize hby
  have h63' : n + m ≤ 9223372036854775807 := by simp only [maxLen] at h63; omega
  rcases hown.2 with ⟨rfl, rfl⟩ | ⟨g, cap, cur, rfl, hbg, hg, hnc, hcm, hcs, htake⟩
  · by_cases hm : m = 0
    · rw [h4.2 ⟨rfl, hm⟩] at hk
      cases hk
    · have hr2 := run_append_nil (P := P) w t ty e i z ht hi hz a m c news hl hnews (by omega) (by omega) (by simp only [Nat.zero_add] at hbytes; omega)
      rw [hr] at hr2
      injection hr2 with e1 e2
      subst e1
      simp [Value.ownBlock] at hk
      exact .inr hk.symm
  · by_cases hroom : n + m ≤ cap
    · have hfit : n * i.size + news.length ≤ cur.size := by rw [hl, hcs, ← Nat.add_mul]; exact Nat.mul_le_mul_right _ hroom
      have hr2 := run_append_room (P := P) w t ty e i ht hi g n cap cur hg a m c news hl hnews h1 hroom hfit
      rw [hr] at hr2
      injection hr2 with e1 e2
      subst e1
      exact .inl hk
    · have holds : ∀ j u, xs[j]? = some u → w.cell? ((⟨g, 0, none⟩ : Addr).add j) = some u := hown.cells (g := g) rfl
      have hr2 := run_append_grow (P := P) w t ty e i z ht hi hz ⟨g, 0, none⟩ n cap xs hown.1 holds a m c news hl hnews (by omega) (by omega) (growslice_fits (by omega) hbytes)
      rw [hr] at hr2
      injection hr2 with e1 e2
      subst e1
      simp [Value.ownBlock] at hk
      exact .inr hk.symm

theorem wp_append_where {P : Program} {w : World} {o : Oper} {a : Act} {K : Act → World → Prop} {Q : Exit → Act → World → Prop} (s x : Operand) (t : TypeId)
    (ho : o.op = .call { callee := .builtin .append, args := #[s, x], argTypes := #[t, t] })
    (base : Nat) (e : TypeId) (i : TypeInfo) (z : Value) (size bytes : Nat) (ht : P.underlying t = some (.slice e)) (hi : P.info? e = some i) (hz : i.zero = some z)
    (hsize : i.size = size) (hby : i.bytes = bytes) (hzs : z.cells.size = size) (hsz : 0 < size)
    (v : Value) (n : Nat) (xs : List Value) (hs : a.eval s = v) (hown : w.ownsRow base e size v n xs)
    (ad : Addr) (m c : Nat) (news : List Value) (hx : a.eval x = .slice (some ad) m c) (hl : news.length = m * size) (hnews : ∀ j u, news[j]? = some u → w.cell? (ad.add j) = some u) (h1 : ∀ u ∈ news, u.oneCell' = true)
    (h63 : n + m ≤ maxLen) (hbytes : (n + m) * bytes ≤ 140737488355328) (hbase : base ≤ w.heap.size)
    (h : ∀ v' w', w'.ownsRow base e size v' (n + m) (xs ++ news) → w.grownBy w' v.ownBlock → (∀ k, v'.ownBlock = some k → v.ownBlock = some k ∨ k = w.heap.size) → K (a.put o.dst v') w') : o.wp P a w K Q := by
  obtain ⟨v', w', hrun, h2, h3, h4⟩ := append_where (P := P) w base t o.type e i z size bytes ht hi hz hsize hby hzs hsz v n xs hown ad m c news hl hnews h1 h63 hbytes hbase
  unfold Oper.wp
  simp [execOp, ho, resolve, invoke, builtin, hs, hx, hrun, Result.andThen]
  exact h v' w' h2 h3 h4
theorem wpList_append_where {P : Program} {w : World} {ops : Array Oper} {rest : List Oper} {o : Oper} {a : Act} {Q : Exit → Act → World → Prop} (hgd : o.guard = none) (s x : Operand) (t : TypeId)
    (ho : o.op = .call { callee := .builtin .append, args := #[s, x], argTypes := #[t, t] })
    (base : Nat) (e : TypeId) (i : TypeInfo) (z : Value) (size bytes : Nat) (ht : P.underlying t = some (.slice e)) (hi : P.info? e = some i) (hz : i.zero = some z)
    (hsize : i.size = size) (hby : i.bytes = bytes) (hzs : z.cells.size = size) (hsz : 0 < size)
    (v : Value) (n : Nat) (xs : List Value) (hs : a.eval s = v) (hown : w.ownsRow base e size v n xs)
    (ad : Addr) (m c : Nat) (news : List Value) (hx : a.eval x = .slice (some ad) m c) (hl : news.length = m * size) (hnews : ∀ j u, news[j]? = some u → w.cell? (ad.add j) = some u) (h1 : ∀ u ∈ news, u.oneCell' = true)
    (h63 : n + m ≤ maxLen) (hbytes : (n + m) * bytes ≤ 140737488355328) (hbase : base ≤ w.heap.size)
    (h : ∀ v' w', w'.ownsRow base e size v' (n + m) (xs ++ news) → w.grownBy w' v.ownBlock → (∀ k, v'.ownBlock = some k → v.ownBlock = some k ∨ k = w.heap.size) → wpList P ops Q rest (a.put o.dst v') w') : wpList P ops Q (o :: rest) a w :=
  wpList_plain hgd fun _ hK => wp_append_where s x t ho base e i z size bytes ht hi hz hsize hby hzs hsz v n xs hs hown ad m c news hx hl hnews h1 h63 hbytes hbase fun v' w' h2 h3 h4 => hK _ _ (h v' w' h2 h3 h4)
end Go.Proofs.YtlcmcmocjbeocaaGreatDoor
end

section
/-
  The contract of the reference's PutUint: the bytes given, then the digits. Conditions: at most 2^40 bytes come in; v is a uint64.
-/
namespace Go.Proofs.YtlcmcmocjbeocaaGreatDoor
open Go.RowKit

set_option maxRecDepth 100000 in
set_option maxHeartbeats 800000 in
theorem refput_any (A : Option Addr) (n c : Nat) (zs : List Int) (v : Int) (B : Nat) (w : World) (hA : Hid (A = none → c = 0)) (hn : Hid (zs.length = n)) (hm : n ≤ 1099511627776) (hs : Sees w B A (cellsU8 zs)) (h0 : 0 ≤ v) (hv : v ≤ 18446744073709551615) :
    Calls Tryz.prog 38 #[.slice A n c, .int .u64 v] w fun e w' => ∃ r, e = .returned r ∧ w'.ownsRow w.heap.size 5 1 r (n + lenv v.toNat) (cellsU8 (zs ++ digsI v.toNat)) ∧ Below w.heap.size w w' := by
  obtain ⟨i0, hi, hz0, hz1, hz2⟩ := info_parts Tryz.info5
  have hl10 := lenv_le v.toNat (by omega)
  go_enter Tryz.func38, Tryz.ntmps38
  go_wp2_with (at_builtin; refine wpList_append_sees rfl (.const (.slice none 0 0)) (.tmp 6) 22 rfl w.heap.size 5 i0 (.int .u8 0) 1 Tryz.underlying22 hi hz0 hz1 hz2 rfl _ 0 [] rfl (World.ownsRow_nil _ _ _ _) B A n c (cellsU8 zs) rfl hA (by simpa [cellsU8] using hn.out) hs (one_u8 zs) (by unfold maxLen; omega) (by omega) (Nat.le_refl _) ?_)
  intro out1 w1 hown1 hg1
  have hb1 : Below w.heap.size w w1 := below_append (Below.refl _ _) (World.ownsRow_nil w w.heap.size 5 1) (Nat.le_refl _) hg1 (Nat.le_refl _)
  clear hg1 hs hA
  go_wp2_with fail
  go_loopw [1, 5] (fun a out wr => PutRel w 5 n zs v.toNat a out wr) (fun a _ _ => (intOf a).toNat)
  case atStart => exact ⟨v, 0, [], h0, hv, by omega, rfl, by simpa using hown1, hb1, by omega, by simp⟩
  case round =>
    obtain ⟨u, j, ds, hu0, hu1, hj, rfl, hown, hb, hl', hd'⟩ := hrel
    have hl := hide hl'
    have hd := hide hd'
    have hp := lenv_pos u.toNat
    have hj9 : j ≤ 9 := by omega
    have hbs : w.heap.size ≤ wr.heap.size := hb.size
    clear hl' hd' hp
    by_cases hlt : 128 ≤ u
    · have hor := or_128 u hu0
      go_wp2_with (at_builtin; refine wpList_append_own _ rfl (.tmp 10) (.tmp 14) 22 rfl w.heap.size 5 i0 (.int .u8 0) 1 1 Tryz.underlying22 hi hz0 hz1 hz2 rfl (by decide) _ (n + j) (cellsU8 (zs ++ ds)) rfl (hown.alloc _) ⟨wr.heap.size, 0, none⟩ 1 1 [.int .u8 (u % 128 + 128)] rfl rfl (one_new _ _ _) (one_byte _) (by unfold maxLen; omega) (by omega) (by simp; omega) ?_)
      intro v' w' hown' hg' _
      have hb' := below_append (hb.alloc hbs _) (hown.alloc _) (Nat.le_refl _) hg' (by simp; omega)
      have hR := PutRel.more hlt hu1 hj9 hown' hb' hl.out hd.out
      clear hown' hb' hor hown hb
      go_wp2
      go_roundw
      case rel => exact hR
      case measure => simp [intOf]; omega
    · have hor : u % 256 = u := by omega
      go_wp2_with (at_builtin; refine wpList_append_own _ rfl (.tmp 18) (.tmp 21) 22 rfl w.heap.size 5 i0 (.int .u8 0) 1 1 Tryz.underlying22 hi hz0 hz1 hz2 rfl (by decide) _ (n + j) (cellsU8 (zs ++ ds)) rfl (hown.alloc _) ⟨wr.heap.size, 0, none⟩ 1 1 [.int .u8 u] rfl rfl (one_new _ _ _) (one_byte _) (by unfold maxLen; omega) (by omega) (by simp; omega) ?_)
      intro v' w' hown' hg' _
      have hb' := below_append (hb.alloc hbs _) (hown.alloc _) (Nat.le_refl _) hg' (by simp; omega)
      have hF := PutRel.last (by omega) hown' hl.out hd.out
      clear hown' hor hown hb
      go_wp2
      go_ret
      exact ⟨_, rfl, hF, hb'⟩
end Go.Proofs.YtlcmcmocjbeocaaGreatDoor
end

section
/-
  The contracts of varint.Crc and of the reference's Crc.
-/
namespace Go.Proofs.YtlcmcmocjbeocaaGreatDoor
open Go.RowKit

theorem crc_bit_go (n : Nat) (h : n ≤ 4294967295) : bits BinOp.xor IntKind.u32 ((n : Int) / 2) (bits BinOp.and IntKind.u32 (n : Int) 1 * 3988292384 % 4294967296) = (crcBit n : Nat) := by
  have ha : bits BinOp.and IntKind.u32 (n : Int) 1 = ((n % 2 : Nat) : Int) := by
    rw [show (1 : Int) = ((1 : Nat) : Int) from rfl, u32_and_nat n 1 (by omega) (by omega), Nat.and_one_is_mod]
  rw [ha, show (n : Int) / 2 = ((n / 2 : Nat) : Int) by omega, show (((n % 2 : Nat) : Int) * 3988292384 % 4294967296) = (((n % 2) * 3988292384 : Nat) : Int) by omega, u32_xor_nat _ _ (by omega) (by omega)]
  rfl
theorem xor_u32 (s : Nat) (z : Int) (hs : s ≤ 4294967295) (h0 : 0 ≤ z) (h1 : z ≤ 255) : bits BinOp.xor IntKind.u32 (s : Int) z = ((s ^^^ z.toNat : Nat) : Int) := by
  obtain ⟨k, rfl⟩ := Int.eq_ofNat_of_zero_le h0
  rw [u32_xor_nat _ _ (by omega) (by omega)]
  rfl
theorem not_u32 (s : Nat) (hs : s ≤ 4294967295) : bits BinOp.xor IntKind.u32 IntKind.u32.max (s : Int) = ((4294967295 - s : Nat) : Int) := by
  show IntKind.u32.wrap ((BitVec.ofInt 32 IntKind.u32.max ^^^ BitVec.ofInt 32 (s : Int)).toNat : Int) = _
  have e : BitVec.ofInt 32 IntKind.u32.max = BitVec.allOnes 32 := by decide
  rw [e, BitVec.allOnes_xor, BitVec.toNat_not, ofInt_u32 s (by omega), IntKind.wrap_u32']
  omega

set_option maxRecDepth 100000 in
set_option maxHeartbeats 400000 in
theorem shift_any (c : Int) (w : World) (h0 : 0 ≤ c) (h1 : c ≤ 4294967295) :
    Calls Tryz.prog 173 #[.int .u32 c] w fun e w' => e = .returned (.int .u32 (crcBits 8 c.toNat)) ∧ w = w' := by
  go_enter Tryz.func173, Tryz.ntmps173
  go_wp2
  go_loop [0, 3] (fun a k => ∃ (n : Nat) (j : Nat), n ≤ 4294967295 ∧ j ≤ 8 ∧ a = .int .u32 n ∧ k = .int .i64 j ∧ Hid (n = crcBits j c.toNat)) (fun _ k => 8 - (intOf k).toNat)
  case atStart => exact ⟨c.toNat, 0, by omega, by omega, by rw [Int.toNat_of_nonneg h0], rfl, rfl⟩
  case round =>
    obtain ⟨n, j, hn, hj, rfl, rfl, hr⟩ := hrel
    by_cases hlt : j < 8
    · go_wp2
      go_round
      case rel =>
        have hb := crcBit_lt (c := n) (by omega)
        exact ⟨crcBit n, j + 1, by omega, by omega, by rw [crc_bit_go n hn], by go_num, by have := hr.out; subst this; rfl⟩
      case measure => simp [intOf]; omega
    · go_wp2
      go_ret
      obtain rfl : j = 8 := by omega
      exact ⟨ret_int (by have h := hr.out; omega), rfl⟩

set_option maxRecDepth 100000 in
set_option maxHeartbeats 400000 in
theorem crc_any (A : Option Addr) (n c : Nat) (zs : List Int) (B : Nat) (w : World) (hn : Hid (zs.length = n)) (hm : n ≤ 4611686018427387904) (hs : Sees w B A (cellsU8 zs)) (hz : Hid (∀ z ∈ zs, 0 ≤ z ∧ z ≤ 255)) :
    Calls Tryz.prog 142 #[.slice A n c] w fun e w' => e = .returned (.int .u32 ((4294967295 - crcAll 4294967295 zs : Nat) : Int)) ∧ w = w' := by
  go_enter Tryz.func142, Tryz.ntmps142
  go_wp2
  go_loop [3, 8] (fun a k => ∃ (s : Nat) (j : Nat), s ≤ 4294967295 ∧ j ≤ n ∧ a = .int .u32 s ∧ k = .int .i64 j ∧ Hid (s = crcAll 4294967295 (zs.take j))) (fun _ k => n - (intOf k).toNat)
  case atStart => exact ⟨4294967295, 0, by omega, by omega, rfl, rfl, rfl⟩
  case round =>
    obtain ⟨s, j, hs', hj, rfl, rfl, hr⟩ := hrel
    by_cases hlt : j < n
    · obtain ⟨b, off, z, rfl, _, hc, z0, z1, hzk⟩ := byte_at (zs := zs) (k := j) hs (by have := hn.out; omega) hz.out
      have hx := xor_lt32 (s := s) (n := z.toNat) (by omega) (by omega)
      clear hs
      go_wp2_with fail
      rw [xor_u32 s z hs' z0 z1]
      refine (shift_any _ _ (by omega) (by omega)).mono ?_
      rintro e w' ⟨rfl, rfl⟩
      have hb := crcBits_lt (c := s ^^^ z.toNat) (by omega) 8
      have hR := hide (show crcBits 8 (s ^^^ z.toNat) = crcAll 4294967295 (zs.take (j + 1)) by rw [take_more hzk.out, crcAll_snoc, ← hr.out]; rfl)
      clear hr
      go_wp2
      go_round
      case rel => exact ⟨_, j + 1, by omega, by omega, rfl, by go_num, hR⟩
      case measure => simp [intOf]; omega
    · clear hs
      go_wp2
      all_goals first
        | (exfalso; revert ‹IntKind.u32.signed = true›; decide)
        | (go_ret
           obtain rfl : j = n := by omega
           have := hr.out
           rw [List.take_of_length_le (by have := hn.out; omega)] at this
           exact ⟨ret_int (by rw [not_u32 s hs', this]), rfl⟩)

set_option maxRecDepth 100000 in
set_option maxHeartbeats 800000 in
theorem refcrc_any (A : Option Addr) (n c : Nat) (zs : List Int) (B : Nat) (w : World) (hn : Hid (zs.length = n)) (hm : n ≤ 4611686018427387904) (hs : Sees w B A (cellsU8 zs)) (hz : Hid (∀ z ∈ zs, 0 ≤ z ∧ z ≤ 255)) :
    Calls Tryz.prog 71 #[.slice A n c] w fun e w' => e = .returned (.int .u32 ((4294967295 - crcAll 4294967295 zs : Nat) : Int)) ∧ w = w' := by
  go_enter Tryz.func71, Tryz.ntmps71
  go_wp2
  go_loop [3, 4] (fun a k => ∃ (s : Nat) (j : Nat), s ≤ 4294967295 ∧ j ≤ n ∧ a = .int .u32 s ∧ k = .int .i64 j ∧ Hid (s = crcAll 4294967295 (zs.take j))) (fun _ k => n - (intOf k).toNat)
  case atStart => exact ⟨4294967295, 0, by omega, by omega, rfl, rfl, rfl⟩
  case round =>
    obtain ⟨s, j, hs', hj, rfl, rfl, hr⟩ := hrel
    by_cases hlt : j < n
    · obtain ⟨b, off, z, rfl, _, hc, z0, z1, hzk⟩ := byte_at (zs := zs) (k := j) hs (by have := hn.out; omega) hz.out
      have hx := xor_lt32 (s := s) (n := z.toNat) (by omega) (by omega)
      have hxor := xor_u32 s z hs' z0 z1
      clear hs
      go_wp2
      obtain ⟨x, hx'⟩ : ∃ x, x = s ^^^ z.toNat := ⟨_, rfl⟩
      rw [← hx'] at hx ⊢
      have Hx := hide hx'
      have hb0 := hide (crcBits_lt (c := x) hx 8)
      clear hx' hxor
      go_loop [3, 5] (fun a k => ∃ (m : Nat) (i : Nat), m ≤ 4294967295 ∧ i ≤ 8 ∧ a = .int .u32 m ∧ k = .int .i64 i ∧ Hid (m = crcBits i x)) (fun _ k => 8 - (intOf k).toNat)
      case atStart => exact ⟨x, 0, by omega, by omega, rfl, rfl, rfl⟩
      case round =>
        obtain ⟨m, i, hm', hi, rfl, rfl, hri⟩ := hrel
        have hand : bits BinOp.and IntKind.u32 (m : Int) 1 = ((m % 2 : Nat) : Int) := by
          rw [show (1 : Int) = ((1 : Nat) : Int) from rfl, u32_and_nat m 1 (by omega) (by omega), Nat.and_one_is_mod]
        have Hand := hide hand
        clear hand
        by_cases hi8 : i < 8
        · have hb := crcBit_lt (c := m) (by omega)
          have hR := hide (show crcBit m = crcBits (i + 1) x by have h := hri.out; subst h; rfl)
          by_cases hodd : m % 2 = 1
          · have ht : (bits BinOp.and IntKind.u32 (m : Int) 1 == 1) = true := by rw [Hand.out, hodd]; rfl
            have ho : bits BinOp.xor IntKind.u32 ((m : Int) / 2) 3988292384 = ((crcBit m : Nat) : Int) := by
              rw [show (3988292384 : Int) = ((3988292384 : Nat) : Int) from rfl, show (m : Int) / 2 = ((m / 2 : Nat) : Int) by omega, u32_xor_nat _ _ (by omega) (by omega), crcBit_odd hodd]
            clear hodd
            go_wp2
            go_round
            case rel => exact ⟨crcBit m, i + 1, by omega, by omega, rfl, by go_num, hR⟩
            case measure => simp [intOf]; omega
          · have ht : (bits BinOp.and IntKind.u32 (m : Int) 1 == 1) = false := by rw [Hand.out]; simp; omega
            have hev := hide (crcBit_even (c := m) (by omega))
            clear hodd
            go_wp2
            go_round
            case rel => exact ⟨crcBit m, i + 1, by omega, by omega, by rw [hev.out]; simp, by go_num, hR⟩
            case measure => simp [intOf]; omega
        · obtain rfl : i = 8 := by omega
          have hR := hide (show m = crcAll 4294967295 (zs.take (j + 1)) by rw [take_more hzk.out, crcAll_snoc, ← hr.out, hri.out, Hx.out]; rfl)
          go_wp2
          go_round
          case rel => exact ⟨m, j + 1, by omega, by omega, rfl, by go_num, hR⟩
          case measure => simp [intOf]; omega
    · clear hs
      go_wp2
      all_goals first
        | (exfalso; revert ‹IntKind.u32.signed = true›; decide)
        | (go_ret
           obtain rfl : j = n := by omega
           have := hr.out
           rw [List.take_of_length_le (by have := hn.out; omega)] at this
           exact ⟨ret_int (by rw [not_u32 s hs', this]), rfl⟩)
end Go.Proofs.YtlcmcmocjbeocaaGreatDoor
end

section
/-
  Rows of bytes of the call's own; the reference's PutCrc. Conditions: those of the types.
-/
namespace Go.Proofs.YtlcmcmocjbeocaaGreatDoor
open Go.RowKit


theorem own_less {w : World} {base base' : Nat} {e : TypeId} {size n : Nat} {v : Value} {xs : List Value} (h : w.ownsRow base e size v n xs) (hb : base' ≤ base) : w.ownsRow base' e size v n xs := by
  refine ⟨h.1, ?_⟩
  rcases h.2 with h2 | ⟨g, cap, cur, hv, hg, r⟩
  · exact .inl h2
  · exact .inr ⟨g, cap, cur, hv, by omega, r⟩
theorem wrap_u64_in (n : Int) (h0 : 0 ≤ n) (h1 : n ≤ 18446744073709551615) : IntKind.u64.wrap n = n := by
  simp [IntKind.wrap, IntKind.bits, IntKind.signed]
  omega
theorem cellsU8_app (a b : List Int) : cellsU8 (a ++ b) = cellsU8 a ++ cellsU8 b := by simp [cellsU8]

set_option maxRecDepth 100000 in
set_option maxHeartbeats 1600000 in
/-- PutCrc of a row of the call's own. -/
theorem rputcrc_any (v : Value) (n : Nat) (zs : List Int) (base : Nat) (w : World) (ho : Hid (w.ownsRow base 5 1 v n (cellsU8 zs))) (hb : Hid (base ≤ w.heap.size)) (hm : n ≤ 1099511627776) (hz : Hid (Byt zs)) :
    Calls Tryz.prog 41 #[v] w fun e w' => ∃ r, e = .returned r ∧ w'.ownsRow base 5 1 r (n + 4) (cellsU8 (withY zs)) ∧ w.grownBy w' v.ownBlock := by
  obtain ⟨i0, hi, hz0, hz1, hz2⟩ := info_parts Tryz.info5
  obtain ⟨A, c, rfl, hA, hnc, hfar, hsee⟩ := own_seen ho.out
  have hl : Hid (zs.length = n) := hide (by have := own_len ho.out; simpa [cellsU8] using this)
  have ct := refcrc_any A n c zs w.heap.size w hl (by omega) hsee hz
  rw [show 4294967295 - crcAll 4294967295 zs = crcN zs from rfl] at ct
  have hlt := crcN_lt zs
  have EC := hide (show cellsU8 (withY zs) = cellsU8 zs ++ [.int .u8 ((crcN zs / 16777216 % 256 : Nat) : Int), .int .u8 ((crcN zs / 65536 % 256 : Nat) : Int), .int .u8 ((crcN zs / 256 % 256 : Nat) : Int), .int .u8 ((crcN zs % 256 : Nat) : Int)] by
    unfold withY crcI
    rw [cellsU8_app]
    rfl)
  generalize crcN zs = C at ct hlt EC
  have d0 : (C : Int) / 16777216 % 256 = ((C / 16777216 % 256 : Nat) : Int) := by omega
  have d1 : (C : Int) / 65536 % 256 = ((C / 65536 % 256 : Nat) : Int) := by omega
  have d2 : (C : Int) / 256 % 256 = ((C / 256 % 256 : Nat) : Int) := by omega
  have d3 : (C : Int) % 256 = ((C % 256 : Nat) : Int) := by omega
  have d0' : (C : Int) / 16777216 = ((C / 16777216 % 256 : Nat) : Int) := by omega
  obtain ⟨x0, hx0⟩ : ∃ x : Int, ((C / 16777216 % 256 : Nat) : Int) = x := ⟨_, rfl⟩
  obtain ⟨x1, hx1⟩ : ∃ x : Int, ((C / 65536 % 256 : Nat) : Int) = x := ⟨_, rfl⟩
  obtain ⟨x2, hx2⟩ : ∃ x : Int, ((C / 256 % 256 : Nat) : Int) = x := ⟨_, rfl⟩
  obtain ⟨x3, hx3⟩ : ∃ x : Int, ((C % 256 : Nat) : Int) = x := ⟨_, rfl⟩
  rw [hx0] at d0 d0' EC
  rw [hx1] at d1 EC
  rw [hx2] at d2 EC
  rw [hx3] at d3 EC
  clear hx0 hx1 hx2 hx3
  go_enter Tryz.func41, Tryz.ntmps41
  go_wp2_with fail
  refine ct.mono ?_
  rintro e w' ⟨rfl, rfl⟩
  clear ct hsee hfar
  go_wp2_with (at_builtin; refine wpList_append_own _ rfl (.tmp 6) (.tmp 18) 22 rfl base 5 i0 (.int .u8 0) 1 1 Tryz.underlying22 hi hz0 hz1 hz2 rfl (by decide) _ n (cellsU8 zs) rfl (ho.out.alloc _) ⟨w.heap.size, 0, none⟩ 4 4 [.int .u8 x0, .int .u8 x1, .int .u8 x2, .int .u8 x3] rfl rfl (fun j u hu => by rw [WideShapes.add_plain, Nat.zero_add]; exact (Row.new w 5 [.int .u8 x0, .int .u8 x1, .int .u8 x2, .int .u8 x3]).cell hu) (fun u hu => by simp at hu; rcases hu with rfl | rfl | rfl | rfl <;> rfl) (by unfold maxLen; omega) (by omega) (by have := hb.out; simp; omega) ?_)
  intro v' w1 ho1 hg1 _
  have HO := hide ho1
  have HG := hide ((World.grownBy_alloc w (.cells #[.int .u8 x0, .int .u8 x1, .int .u8 x2, .int .u8 x3] 5) (Value.ownBlock (.slice A n c))).trans hg1)
  clear ho1 hg1
  go_wp2
  go_ret
  exact ⟨_, rfl, by rw [EC.out]; exact HO.out, HG.out⟩

end Go.Proofs.YtlcmcmocjbeocaaGreatDoor
end

section
/-
  The closure put of the program's encoded: numbers written behind the bytes of a captured variable. Conditions: those of the types.
-/
namespace Go.Proofs.YtlcmcmocjbeocaaGreatDoor
open Go.RowKit

/-- A new block is a row of the call's own. -/
theorem own_made {W : World} {base n : Nat} {e : TypeId} {L : List Value} (hl : L.length = n) (hb : base ≤ W.heap.size) (hm : n ≤ 1048576) : (W.alloc (.cells L.toArray e)).ownsRow base e 1 (.slice (some ⟨W.heap.size, 0, none⟩) n n) n L := by
  refine ⟨by omega, .inr ⟨W.heap.size, n, _, rfl, hb, heap_alloc_new W _, Nat.le_refl _, by unfold maxLen; omega, by simp [hl], ?_⟩⟩
  simp only [Nat.mul_one]
  rw [List.take_of_length_le (by omega)]
/-- The cells of a list of words. -/
def wds (l : List Nat) : List Value := l.map fun u : Nat => .int .u64 (u : Int)
theorem wds_at {l : List Nat} {k u : Nat} (h : l[k]? = some u) : (wds l)[k]? = some (.int .u64 (u : Int)) := by unfold wds; rw [List.getElem?_map, h]; rfl
/-- The variable Bx holds the bytes ys, a row of the call's own. -/
structure JW (w : World) (base Bx : Nat) (v : Value) (ys : List Int) : Prop where
  row : Row w Bx 22 [v]
  own : w.ownsRow base 5 1 v ys.length (cellsU8 ys)
  ne : ∀ k, v.ownBlock = some k → k ≠ Bx
theorem JW.lo {w : World} {base Bx : Nat} {v : Value} {ys : List Int} (h : JW w base Bx v ys) : ∀ k, v.ownBlock = some k → base ≤ k ∧ k < w.heap.size := fun k hk => h.own.lt k hk
theorem JW.kept {w w' : World} {base Bx : Nat} {v : Value} {ys : List Int} (h : JW w base Bx v ys) (hb : Below w.heap.size w w') : JW w' base Bx v ys :=
  ⟨h.row.call hb, own_below h.own hb, h.ne⟩
/-- What put leaves. -/
def PuPost (base Bx : Nat) (v : Value) (ys zs : List Int) (w : World) (e : Ending) (w' : World) : Prop :=
  e = .returned (.tuple #[]) ∧ ∃ v', JW w' base Bx v' (ys ++ zs) ∧ JKp w w' Bx v v'

/-- append behind bytes without room. -/
theorem wp_append_full {P : Program} {w : World} {o : Oper} {a : Act} {K : Act → World → Prop} {Q : Exit → Act → World → Prop} (s x : Operand) (t : TypeId)
    (ho : o.op = .call { callee := .builtin .append, args := #[s, x], argTypes := #[t, t] })
    (i : TypeInfo) (ht : P.underlying t = some (.slice 5)) (hi : P.info? 5 = some i) (hz : i.zero = some (.int .u8 0)) (hsize : i.size = 1) (hby : i.bytes = 1)
    (g k : Nat) (zs : List Int) (hs : a.eval s = .slice (some ⟨g, 0, none⟩) k k) (hl : zs.length = k) (hsee : Hid (∀ j u, (cellsU8 zs)[j]? = some u → w.cell? ⟨g, j, none⟩ = some u)) (hk : k ≤ 100)
    (ad : Addr) (m c : Nat) (bs : List Int) (hx : a.eval x = .slice (some ad) m c) (hlb : (cellsU8 bs).length = m * 1) (hm : 1 ≤ m ∧ m ≤ 100) (hc : ∀ j u, (cellsU8 bs)[j]? = some u → w.cell? (ad.add j) = some u)
    (h : ∀ v' w', w'.ownsRow w.heap.size 5 1 v' (k + m) (cellsU8 zs ++ cellsU8 bs) → w.grownBy w' none → K (a.put o.dst v') w') : o.wp P a w K Q := by
  obtain ⟨v', w', hrun, r1, r2⟩ := run_append_arg_grows (P := P) w t o.type 5 i (.int .u8 0) 1 1 ht hi hz hsize hby rfl (by decide) ⟨g, 0, none⟩ k k (cellsU8 zs) (by simp [cellsU8, hl]) (fun j u hj => by
    rw [WideShapes.add_plain, Nat.zero_add]
    exact hsee.out j u hj) ad m c (cellsU8 bs) hlb hc (by omega) (by unfold maxLen; omega) (by omega)
  unfold Oper.wp
  simp [execOp, ho, resolve, invoke, builtin, hs, hx, hrun, Result.andThen]
  exact h v' w' r1 r2

set_option maxRecDepth 100000 in
set_option maxHeartbeats 2000000 in
theorem jput_any (base Bx : Nat) (v : Value) (ys : List Int) (A : Option Addr) (n c B : Nat) (us : List Nat) (w : World) (H : Hid (JW w base Bx v ys)) (hb : base ≤ w.heap.size)
    (hn : Hid (us.length = n)) (hs : Hid (Sees w B A (wds us))) (hB : B ≤ w.heap.size) (hBx : Hid (∀ b off : Nat, A = some ⟨b, off, none⟩ → b ≠ Bx ∧ v.ownBlock ≠ some b)) (hu : Hid (∀ u ∈ us, u ≤ 18446744073709551615)) (hm : n ≤ 1000) (hy : ys.length ≤ 1073741824) :
    Calls Tryz.prog 97 #[.slice A n c, .pointer (some ⟨Bx, 0, none⟩)] w (PuPost base Bx v ys (us.flatMap digsI) w) := by
  obtain ⟨i0, hi, hz0, hz1, hz2⟩ := info_parts Tryz.info5
  go_enter Tryz.func97, Tryz.ntmps97
  go_wp2_with fail
  go_loopw [4, 7] (fun _ iv wr => ∃ (i : Nat) (r : Value), i ≤ n ∧ iv = .int .i64 (i : Int) ∧ Hid (JW wr base Bx r (ys ++ (us.take i).flatMap digsI)) ∧ Hid (JKp w wr Bx v r)) (fun _ iv _ => n - (intOf iv).toNat)
  case atStart => exact ⟨0, v, Nat.zero_le _, rfl, by rw [List.take_zero]; simpa using H, hide (JKp.refl _ _ _)⟩
  case round =>
    obtain ⟨i, r, hin, rfl, HW, HK⟩ := hrel
    by_cases hlt : i < n
    · have hlz : (i : Int) < (n : Int) := by omega
      have hiz : (0 : Int) ≤ (i : Int) := by omega
      have hul : i < us.length := by rw [hn.out]; exact hlt
      obtain ⟨u, hui⟩ : ∃ u, us[i]? = some u := ⟨_, List.getElem?_eq_getElem hul⟩
      have hu64 := hu.out u (List.mem_of_getElem? hui)
      obtain ⟨b, off, hAe, hbB, hcell⟩ := hs.out i _ (wds_at hui)
      subst hAe
      have hbx := hBx.out b off rfl
      have hb0 : wr.cell? ⟨b, off + i, none⟩ = some (.int .u64 (u : Int)) := by
        rw [World.cell?_of_block (HK.out.blk b (by omega) hbx.1 hbx.2)]; exact hcell
      have hNX := hide (show ys ++ (us.take (i + 1)).flatMap digsI = (ys ++ (us.take i).flatMap digsI) ++ digsI u by rw [List.take_add_one, hui]; simp)
      obtain ⟨zs, hzs⟩ : ∃ zs, ys ++ (us.take i).flatMap digsI = zs := ⟨_, rfl⟩
      have hzl : zs.length ≤ 1073741824 + 10000 := by
        rw [← hzs, List.length_append]
        have h1 := flat_le (f := digsI) (m := 10) (us.take i) (fun a ha => by rw [digsI_length]; exact lenv_le _ (by have := hu.out a (List.mem_of_mem_take ha); omega))
        have h2 : (us.take i).length ≤ 1000 := by rw [List.length_take]; omega
        have := Nat.mul_le_mul_right 10 h2
        omega
      rw [hzs] at HW hNX
      have cp := put_any none 0 0 [] (u : Int) 0 wr.drew (hide rfl) (by omega) (Sees.nil_ _ _ _) (hide (Nat.zero_le _)) (by omega) (by omega)
      rw [Nat.zero_add, List.nil_append, show ((u : Int)).toNat = u by omega] at cp
      have hl10 := lenv_le u (by omega)
      have hlp := lenv_pos u
      have y0 := HW.out.row.cell (k := 0) rfl
      clear hzs hcell
      go_upto_region 3 with (fail)
      go_region_law
        (first
          | (go_simp; go_at_call 98; refine cp.mono ?_; rintro e w1 ⟨r1, rfl, ho1, hb1⟩; obtain ⟨g1, c1, rfl, hg1, hg2, -, -⟩ := own_block ho1 (by omega); have W1 := HW.out.kept (show Below wr.heap.size wr w1 from (Below.refl wr.heap.size wr).drew.trans hb1); have y1 := W1.row.cell (k := 0) rfl; have hl1 : (cellsU8 (digsI u)).length = lenv u * 1 := ho1.1)
          | (refine wp_append_where (.tmp 11) (.tmp 13) 22 rfl base 5 i0 (.int .u8 0) 1 1 Tryz.underlying22 hi hz0 hz1 hz2 rfl (by decide) r zs.length (cellsU8 zs) rfl W1.own ⟨g1, 0, none⟩ (lenv u) c1 (cellsU8 (digsI u)) rfl hl1 (ho1.cells rfl) (one_u8 _) (by unfold maxLen; omega) (by omega) (Nat.le_trans hb (Nat.le_trans HK.out.size hb1.size)) ?_; intro v' w2 ho2 hg2' hwh; obtain ⟨A9, c9, rfl, -, -, -, -⟩ := own_seen ho2; have r2 := W1.row.grown hg2' (fun e => W1.ne _ e.symm rfl); have y2 := r2.cell (k := 0) rfl; have f2 := r2.free 0))
      all_goals
        have hB1 : Below wr.heap.size wr w1 := (Below.refl wr.heap.size wr).drew.trans hb1
        have hne2 : ∀ k, (Value.slice A9 (zs.length + lenv u) c9).ownBlock = some k → k ≠ Bx := fun k hk => by
          rcases hwh k hk with e | e
          · exact HW.out.ne k e
          · have := HW.out.row.lt; have := hB1.size; omega
        have ho3 : w2.ownsRow base 5 1 (.slice A9 (zs.length + lenv u) c9) (zs ++ digsI u).length (cellsU8 (zs ++ digsI u)) := by
          rw [List.length_append, digsI_length, cellsU8_app]; exact ho2
        have HN := hide (show JW (w2.setCell ⟨Bx, 0, none⟩ (.slice A9 (zs.length + lenv u) c9)) base Bx (.slice A9 (zs.length + lenv u) c9) (zs ++ digsI u) from ⟨r2.set_ 0 _, ho3.kept (grown_put w2 Bx 0 _) (by
          rcases e : (Value.slice A9 (zs.length + lenv u) c9).ownBlock with _ | q
          · exact .inl rfl
          · exact .inr (fun h => hne2 q e (by injection h))), hne2⟩)
        have HK2 := hide (HK.out.trans ((JKp.of_below hB1 Bx r).trans ((JKp.of_row hg2' (fun k hk => (hwh k hk).imp id (fun e => by omega)) Bx).trans (JKp.set w2 Bx 0 _ (.slice A9 (zs.length + lenv u) c9)))))
        rw [← hNX.out] at HN
        obtain ⟨wn, hwn⟩ : ∃ V, w2.setCell ⟨Bx, 0, none⟩ (.slice A9 (zs.length + lenv u) c9) = V := ⟨_, rfl⟩
        obtain ⟨rn, hrn⟩ : ∃ V, Value.slice A9 (zs.length + lenv u) c9 = V := ⟨_, rfl⟩
        rw [hwn] at HN HK2
        rw [hrn] at HN HK2
        have HWN := hide hwn
        clear ho1 hb1 W1 y1 hl1 ho2 hg2' hwh r2 y2 f2 hB1 hne2 ho3 hwn cp y0 HW HK hb0 hrn
        go_wp2_with fail
        rw [HWN.out]
        go_roundw
        case rel => exact ⟨i + 1, rn, by omega, by go_num, HN, HK2⟩
        case measure => simp [intOf]; omega
    · obtain rfl : i = n := by omega
      have hlz : ¬ ((i : Int) < (i : Int)) := by omega
      have FIN := hide (show PuPost base Bx v ys (us.flatMap digsI) w (.returned (.tuple #[])) wr from ⟨rfl, r, by
        have h := HW.out
        rwa [List.take_of_length_le (by rw [hn.out]; omega)] at h, HK.out⟩)
      clear hlt
      go_wp2_with fail
      go_end0
      exact FIN.out
set_option maxRecDepth 100000 in
set_option maxHeartbeats 2000000 in
theorem jput_lit (base Bx L : Nat) (ys : List Int) (A : Option Addr) (n c B : Nat) (us : List Nat) (w : World) (H : Hid (Row w Bx 22 [.slice (some ⟨L, 0, none⟩) ys.length ys.length])) (HC : Hid (∀ j u, (cellsU8 ys)[j]? = some u → w.cell? ⟨L, j, none⟩ = some u)) (hLB : L ≠ Bx) (hLl : base ≤ L ∧ L < w.heap.size) (hb : base ≤ w.heap.size) (hy4 : ys.length ≤ 100) (hn1 : 1 ≤ n)
    (hn : Hid (us.length = n)) (hs : Hid (Sees w B A (wds us))) (hB : B ≤ w.heap.size) (hBx : Hid (∀ b off : Nat, A = some ⟨b, off, none⟩ → b ≠ Bx ∧ b ≠ L)) (hu : Hid (∀ u ∈ us, u ≤ 18446744073709551615)) (hm : n ≤ 1000) :
    Calls Tryz.prog 97 #[.slice A n c, .pointer (some ⟨Bx, 0, none⟩)] w (PuPost base Bx (.slice (some ⟨L, 0, none⟩) ys.length ys.length) ys (us.flatMap digsI) w) := by
  obtain ⟨i0, hi, hz0, hz1, hz2⟩ := info_parts Tryz.info5
  go_enter Tryz.func97, Tryz.ntmps97
  go_wp2_with fail
  have VB : ∀ b, b ≠ L → (Value.slice (some ⟨L, 0, none⟩) ys.length ys.length).ownBlock ≠ some b := fun b hb e => hb (by simp [Value.ownBlock] at e; exact e.symm)
  obtain ⟨v, hv⟩ : ∃ v, Value.slice (some ⟨L, 0, none⟩) ys.length ys.length = v := ⟨_, rfl⟩
  have HV := hide hv
  rw [hv] at H VB
  rw [hv]
  clear hv
  go_loopw [4, 7] (fun _ iv wr => ∃ i : Nat, i ≤ n ∧ iv = .int .i64 (i : Int) ∧ ((i = 0 ∧ wr = w) ∨ (1 ≤ i ∧ ∃ r, Hid (JW wr base Bx r (ys ++ (us.take i).flatMap digsI)) ∧ Hid (JKp w wr Bx v r)))) (fun _ iv _ => n - (intOf iv).toNat)
  case atStart => exact ⟨0, Nat.zero_le _, rfl, .inl ⟨rfl, rfl⟩⟩
  case round =>
    obtain ⟨i, hin, rfl, hrel2⟩ := hrel
    by_cases hlt : i < n
    · rcases hrel2 with ⟨rfl, rfl⟩ | ⟨hi1, r, HW, HK⟩
      · have hlz : (0 : Int) < (n : Int) := by omega
        have hul : 0 < us.length := by rw [hn.out]; exact hlt
        obtain ⟨u, hui⟩ : ∃ u, us[0]? = some u := ⟨_, List.getElem?_eq_getElem hul⟩
        have hu64 := hu.out u (List.mem_of_getElem? hui)
        obtain ⟨b, off, hAe, hbB, hb0⟩ := hs.out 0 _ (wds_at hui)
        subst hAe
        have hNX := hide (show ys ++ (us.take (0 + 1)).flatMap digsI = ys ++ digsI u by rw [List.take_add_one, hui]; simp)
        have cp := put_any none 0 0 [] (u : Int) 0 wr.drew (hide rfl) (by omega) (Sees.nil_ _ _ _) (hide (Nat.zero_le _)) (by omega) (by omega)
        rw [Nat.zero_add, List.nil_append, show ((u : Int)).toNat = u by omega] at cp
        have hl10 := lenv_le u (by omega)
        have hlp := lenv_pos u
        have y0 := H.out.cell (k := 0) rfl
        rw [Nat.add_zero] at hb0
        have E00 := hide (show ((0 : Nat) : Int) = 0 from rfl)
        rw [E00.out]
        go_upto_region 3 with (fail)
        go_region_law
          (first
            | (go_simp; go_at_call 98; refine cp.mono ?_; rintro e w1 ⟨r1, rfl, ho1, hb1⟩; obtain ⟨g1, c1, rfl, hg1, hg2, -, -⟩ := own_block ho1 (by omega); have hB1 : Below wr.heap.size wr w1 := (Below.refl wr.heap.size wr).drew.trans hb1; have W1 := H.out.call hB1; have y1 := W1.cell (k := 0) rfl; have hl1 : (cellsU8 (digsI u)).length = lenv u * 1 := ho1.1; have HC1 := hide (show ∀ j q, (cellsU8 ys)[j]? = some q → w1.cell? ⟨L, j, none⟩ = some q from fun j q hj => (hB1.cell (show (⟨L, j, none⟩ : Addr).block < wr.heap.size from hLl.2)).trans (HC.out j q hj)))
            | (refine wp_append_full (.tmp 11) (.tmp 13) 22 rfl i0 Tryz.underlying22 hi hz0 hz1 hz2 L ys.length ys HV.out.symm rfl HC1 hy4 ⟨g1, 0, none⟩ (lenv u) c1 (digsI u) rfl hl1 ⟨hlp, by omega⟩ (ho1.cells rfl) ?_; intro v' w2 ho2 hg2'; obtain ⟨A9, c9, rfl, -, -, -, -⟩ := own_seen ho2; have r2 := W1.grown hg2' (fun e => by cases e); have y2 := r2.cell (k := 0) rfl; have f2 := r2.free 0))
        all_goals
          have hne2 : ∀ k, (Value.slice A9 (ys.length + lenv u) c9).ownBlock = some k → w1.heap.size ≤ k := fun k hk => (ho2.lt k hk).1
          have ho3 : w2.ownsRow base 5 1 (.slice A9 (ys.length + lenv u) c9) (ys ++ digsI u).length (cellsU8 (ys ++ digsI u)) := by
            rw [List.length_append, digsI_length, cellsU8_app]
            exact own_less ho2 (by have := hB1.size; omega)
          have hne3 : ∀ k, (Value.slice A9 (ys.length + lenv u) c9).ownBlock = some k → k ≠ Bx := fun k hk => by have := hne2 k hk; have := H.out.lt; have := hB1.size; omega
          have HN := hide (show JW (w2.setCell ⟨Bx, 0, none⟩ (.slice A9 (ys.length + lenv u) c9)) base Bx (.slice A9 (ys.length + lenv u) c9) (ys ++ digsI u) from ⟨r2.set_ 0 _, ho3.kept (grown_put w2 Bx 0 _) (by
            rcases e : (Value.slice A9 (ys.length + lenv u) c9).ownBlock with _ | q
            · exact .inl rfl
            · exact .inr (fun h => hne3 q e (by injection h))), hne3⟩)
          have HK2 := hide (show JKp wr (w2.setCell ⟨Bx, 0, none⟩ (.slice A9 (ys.length + lenv u) c9)) Bx v (.slice A9 (ys.length + lenv u) c9) from (JKp.of_below hB1 Bx v).trans ((⟨hg2'.os, hg2'.tape, hg2'.output, hg2'.size, fun k hk _ _ => hg2'.block k hk (fun e => by cases e), fun k hk => .inr (hne2 k hk)⟩ : JKp w1 w2 Bx v (.slice A9 (ys.length + lenv u) c9)).trans (JKp.set w2 Bx 0 _ (.slice A9 (ys.length + lenv u) c9))))
          rw [← hNX.out] at HN
          obtain ⟨wn, hwn⟩ : ∃ V, w2.setCell ⟨Bx, 0, none⟩ (.slice A9 (ys.length + lenv u) c9) = V := ⟨_, rfl⟩
          obtain ⟨rn, hrn⟩ : ∃ V, Value.slice A9 (ys.length + lenv u) c9 = V := ⟨_, rfl⟩
          rw [hwn] at HN HK2
          rw [hrn] at HN HK2
          have HWN := hide hwn
          clear ho1 hb1 W1 y1 hl1 ho2 hg2' r2 y2 f2 hB1 hne2 hne3 ho3 hwn cp y0 hb0 hrn HC1
          go_wp2_with fail
          rw [HWN.out]
          go_roundw
          case rel => exact ⟨0 + 1, by omega, by go_num, .inr ⟨by omega, rn, HN, HK2⟩⟩
          case measure => simp [intOf]; omega
      · have hlz : (i : Int) < (n : Int) := by omega
        have hiz : (0 : Int) ≤ (i : Int) := by omega
        have hul : i < us.length := by rw [hn.out]; exact hlt
        obtain ⟨u, hui⟩ : ∃ u, us[i]? = some u := ⟨_, List.getElem?_eq_getElem hul⟩
        have hu64 := hu.out u (List.mem_of_getElem? hui)
        obtain ⟨b, off, hAe, hbB, hcell⟩ := hs.out i _ (wds_at hui)
        subst hAe
        have hbx := (hBx.out b off rfl)
        have hb0 : wr.cell? ⟨b, off + i, none⟩ = some (.int .u64 (u : Int)) := by
          rw [World.cell?_of_block (HK.out.blk b (by omega) hbx.1 (VB b hbx.2))]; exact hcell
        have hNX := hide (show ys ++ (us.take (i + 1)).flatMap digsI = (ys ++ (us.take i).flatMap digsI) ++ digsI u by rw [List.take_add_one, hui]; simp)
        obtain ⟨zs, hzs⟩ : ∃ zs, ys ++ (us.take i).flatMap digsI = zs := ⟨_, rfl⟩
        have hzl : zs.length ≤ 1073741824 + 10000 := by
          rw [← hzs, List.length_append]
          have h1 := flat_le (f := digsI) (m := 10) (us.take i) (fun a ha => by rw [digsI_length]; exact lenv_le _ (by have := hu.out a (List.mem_of_mem_take ha); omega))
          have h2 : (us.take i).length ≤ 1000 := by rw [List.length_take]; omega
          have := Nat.mul_le_mul_right 10 h2
          omega
        rw [hzs] at HW hNX
        have cp := put_any none 0 0 [] (u : Int) 0 wr.drew (hide rfl) (by omega) (Sees.nil_ _ _ _) (hide (Nat.zero_le _)) (by omega) (by omega)
        rw [Nat.zero_add, List.nil_append, show ((u : Int)).toNat = u by omega] at cp
        have hl10 := lenv_le u (by omega)
        have hlp := lenv_pos u
        have y0 := HW.out.row.cell (k := 0) rfl
        clear hzs hcell
        go_upto_region 3 with (fail)
        go_region_law
          (first
            | (go_simp; go_at_call 98; refine cp.mono ?_; rintro e w1 ⟨r1, rfl, ho1, hb1⟩; obtain ⟨g1, c1, rfl, hg1, hg2, -, -⟩ := own_block ho1 (by omega); have W1 := HW.out.kept (show Below wr.heap.size wr w1 from (Below.refl wr.heap.size wr).drew.trans hb1); have y1 := W1.row.cell (k := 0) rfl; have hl1 : (cellsU8 (digsI u)).length = lenv u * 1 := ho1.1)
            | (refine wp_append_where (.tmp 11) (.tmp 13) 22 rfl base 5 i0 (.int .u8 0) 1 1 Tryz.underlying22 hi hz0 hz1 hz2 rfl (by decide) r zs.length (cellsU8 zs) rfl W1.own ⟨g1, 0, none⟩ (lenv u) c1 (cellsU8 (digsI u)) rfl hl1 (ho1.cells rfl) (one_u8 _) (by unfold maxLen; omega) (by omega) (Nat.le_trans hb (Nat.le_trans HK.out.size hb1.size)) ?_; intro v' w2 ho2 hg2' hwh; obtain ⟨A9, c9, rfl, -, -, -, -⟩ := own_seen ho2; have r2 := W1.row.grown hg2' (fun e => W1.ne _ e.symm rfl); have y2 := r2.cell (k := 0) rfl; have f2 := r2.free 0))
        all_goals
          have hB1 : Below wr.heap.size wr w1 := (Below.refl wr.heap.size wr).drew.trans hb1
          have hne2 : ∀ k, (Value.slice A9 (zs.length + lenv u) c9).ownBlock = some k → k ≠ Bx := fun k hk => by
            rcases hwh k hk with e | e
            · exact HW.out.ne k e
            · have := HW.out.row.lt; have := hB1.size; omega
          have ho3 : w2.ownsRow base 5 1 (.slice A9 (zs.length + lenv u) c9) (zs ++ digsI u).length (cellsU8 (zs ++ digsI u)) := by
            rw [List.length_append, digsI_length, cellsU8_app]; exact ho2
          have HN := hide (show JW (w2.setCell ⟨Bx, 0, none⟩ (.slice A9 (zs.length + lenv u) c9)) base Bx (.slice A9 (zs.length + lenv u) c9) (zs ++ digsI u) from ⟨r2.set_ 0 _, ho3.kept (grown_put w2 Bx 0 _) (by
            rcases e : (Value.slice A9 (zs.length + lenv u) c9).ownBlock with _ | q
            · exact .inl rfl
            · exact .inr (fun h => hne2 q e (by injection h))), hne2⟩)
          have HK2 := hide (HK.out.trans ((JKp.of_below hB1 Bx r).trans ((JKp.of_row hg2' (fun k hk => (hwh k hk).imp id (fun e => by omega)) Bx).trans (JKp.set w2 Bx 0 _ (.slice A9 (zs.length + lenv u) c9)))))
          rw [← hNX.out] at HN
          obtain ⟨wn, hwn⟩ : ∃ V, w2.setCell ⟨Bx, 0, none⟩ (.slice A9 (zs.length + lenv u) c9) = V := ⟨_, rfl⟩
          obtain ⟨rn, hrn⟩ : ∃ V, Value.slice A9 (zs.length + lenv u) c9 = V := ⟨_, rfl⟩
          rw [hwn] at HN HK2
          rw [hrn] at HN HK2
          have HWN := hide hwn
          clear ho1 hb1 W1 y1 hl1 ho2 hg2' hwh r2 y2 f2 hB1 hne2 ho3 hwn cp y0 HW HK hb0 hrn
          go_wp2_with fail
          rw [HWN.out]
          go_roundw
          case rel => exact ⟨i + 1, by omega, by go_num, .inr ⟨by omega, rn, HN, HK2⟩⟩
          case measure => simp [intOf]; omega
    · obtain rfl : i = n := by omega
      have hlz : ¬ ((i : Int) < (i : Int)) := by omega
      rcases hrel2 with ⟨h0, _⟩ | ⟨hi1, r, HW, HK⟩
      · omega
      have FIN := hide (show PuPost base Bx v ys (us.flatMap digsI) w (.returned (.tuple #[])) wr from ⟨rfl, r, by
        have h := HW.out
        rwa [List.take_of_length_le (by rw [hn.out]; omega)] at h, HK.out⟩)
      clear hlt
      go_wp2_with fail
      go_end0
      exact FIN.out
end Go.Proofs.YtlcmcmocjbeocaaGreatDoor
end
