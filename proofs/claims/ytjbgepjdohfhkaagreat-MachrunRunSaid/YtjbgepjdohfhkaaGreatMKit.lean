/- Words for memory that the walks of this seat use: 'Sees': a slice's address yields these cells, below a given block. No condition; nothing here names the program's -/
import Derived.Test.YtjbgepjdohfhkaaGreatRows
import Derived.WalkKit
import Derived.ProofKit
import Derived.Deep.Draws
import Derived.Laws.CopyOwn
import Derived.Laws.AppendOwnNone
import Derived.Laws.Rows
import Derived.Deep.QuietTactic
import Derived.BigQuiet
import Derived.Laws.Tables
import Derived.Laws.Cells
import Derived.Laws.BitsAllLaws
import Derived.Laws.AppendOwn
import Derived.Maps.AppendAt
set_option linter.unusedVariables false
set_option linter.unusedSimpArgs false
namespace Go.Proofs.YtjbgepjdohfhkaaGreat
open Go.RowKit
def an (w:World) (B:Nat) (A:Option Addr) (xs:List Value):Prop:=
 ∀(k:Nat) (u:Value),xs[k]?=some u->∃b off,A=some ⟨b,off,none⟩/\b<B/\w.cell? ⟨b,off+k,none⟩=some u
section
variable {w w':World} {B B':Nat} {A:Option Addr} {xs ys:List Value}
theorem an.nil_ (w:World) (B:Nat) (A:Option Addr):an w B A []:=fun k u h=>by simp at h
theorem an.keep (h:an w B A xs) (hk:∀p:Addr,p.block<B->w'.cell? p=w.cell? p):an w' B A xs:=fun k u hu=>by
 obtain⟨b,off,e,hb,hc⟩:=h k u hu
 exact⟨b,off,e,hb,(hk _ hb).trans hc⟩
theorem an.more (h:an w B A xs) (hB:B<=B'):an w B' A xs:=fun k u hu=>by
 obtain⟨b,off,e,hb,hc⟩:=h k u hu
 exact⟨b,off,e,by omega,hc⟩
theorem an.below (h:an w B A xs) (hb:Below B w w'):an w' B A xs:=h.keep fun _ hp=>hb.cell hp
theorem an.draws (h:an w B A xs) (n:Nat):an (w.drewN n) B A xs:=h
theorem an.draw (h:an w B A xs):an w.drew B A xs:=h
theorem an.alloc (h:an w B A xs) (hB:B<=w.heap.size) (o:Obj):an (w.alloc o) B A xs:=h.keep fun p hp=>World.cell?_alloc_lt w o p (by omega)
theorem an.part (h:an w B A xs) (hp:∀(k:Nat) (u:Value),ys[k]?=some u->xs[k]?=some u):an w B A ys:=fun k u hu=>h k u (hp k u hu)
theorem an.take (h:an w B A xs) (n:Nat):an w B A (xs.take n):=h.part fun k u hu=>by
 rw[List.getElem?_take] at hu
 split at hu<;>simp_all
theorem an.left (h:an w B A (xs++ys)):an w B A xs:=h.part fun k u hu=>by
 have hk:k<xs.length:=by
  rcases Nat.lt_or_ge k xs.length with h1|h1
  ·exact h1
  ·rw[List.getElem?_eq_none h1] at hu;simp at hu
 rw[List.getElem?_append_left hk];exact hu
theorem an.drop (h:an w B A xs) (k:Nat):an w B (A.map (·.add k)) (xs.drop k):=fun j u hu=>by
 rw[List.getElem?_drop] at hu
 obtain⟨b,off,e,hb,hc⟩:=h _ u hu
 refine⟨b,off+k,?_,hb,?_⟩
 ·subst e
  simp only[Option.map_some,Addr.add]
  split<;>simp_all
 ·rw[Nat.add_assoc];exact hc
theorem an.own {base:Nat} {e:TypeId} {n c:Nat} (h:w.ownsRow base e 1 (.slice A n c) n xs):an w w.heap.size A xs:=fun k u hu=>by
 have hl:=h.1
 have hk:k<xs.length:=by
  rcases Nat.lt_or_ge k xs.length with h1|h1
  ·exact h1
  ·rw[List.getElem?_eq_none h1] at hu;simp at hu
 rcases h.2 with⟨he,h0⟩|⟨g,cap,cur,he,hg,hh,_⟩
 ·omega
 ·have hA:A=some ⟨g,0,none⟩:=by injection he
  subst hA
  have hlt:g<w.heap.size:=by
   rcases Nat.lt_or_ge g w.heap.size with h1|h1
   ·exact h1
   ·rw[Array.getElem?_eq_none h1] at hh;simp at hh
  refine⟨g,0,rfl,hlt,?_⟩
  have:=h.cells (g:=g) rfl k u hu
  rw[Nat.zero_add]
  simpa[Addr.add] using(by
   have e2:(⟨g,0,none⟩:Addr).add k=⟨g,k,none⟩:=by
    unfold Addr.add
    split<;>simp_all
   rw[<-e2];exact this)
end
def aq (zs:List Int):List Value:=zs.map (Value.int .u8)
theorem uC {zs:List Int} {k:Nat} (h:k<zs.length):(aq zs)[k]?=some (.int .u8 (zs.getD k 0)):=by
 simp[aq,List.getElem?_map,List.getElem?_eq_getElem h,List.getD_eq_getElem?_getD]
theorem kb {w:World} {B:Nat} {A:Option Addr} {zs:List Int} {k:Nat} (h:an w B A (aq zs)) (hk:k<zs.length) (hz:∀z∈zs,0<=z/\z<=255) :
  ∃b off z,A=some ⟨b,off,none⟩/\b<B/\w.cell? ⟨b,off+k,none⟩=some (.int .u8 z)/\0<=z/\z<=255/\Hid (zs[k]?=some z):=by
 obtain⟨b,off,e,hb,hc⟩:=h k (.int .u8 zs[k]) (by simp[aq,List.getElem?_map,List.getElem?_eq_getElem hk])
 have hz':=hz zs[k] (List.getElem_mem hk)
 exact⟨b,off,zs[k],e,hb,hc,hz'.1,hz'.2,List.getElem?_eq_getElem hk⟩
theorem nz {zs:List Int} {k:Nat} {z:Int} (h:zs[k]?=some z):zs.take (k+1)=zs.take k++[z]:=by
 rw[List.take_add_one,h];rfl
theorem aa {p:Prop} (h:p):Hid p:=h
theorem aj {k:IntKind} {a b:Int} (h:a=b):Ending.returned (.int k a)=.returned (.int k b):=by rw[h]
theorem aw {a b:Bool} (h:a=b):Ending.returned (.bool a)=.returned (.bool b):=by rw[h]
section
variable {w w':World} {base:Nat} {e:TypeId} {size n:Nat} {v:Value} {xs:List Value}
theorem bZ (h:w.ownsRow base e size v n xs) (hb:Below w.heap.size w w'):w'.ownsRow base e size v n xs:=by
 refine⟨h.1,?_⟩
 rcases h.2 with h2|⟨g,cap,cur,hv,hg,hh,hr⟩
 ·exact .inl h2
 ·refine .inr ⟨g,cap,cur,hv,hg,?_,hr⟩
  have hlt:g<w.heap.size:=by
   rcases Nat.lt_or_ge g w.heap.size with h1|h1
   ·exact h1
   ·rw[Array.getElem?_eq_none h1] at hh;simp at hh
  rw[hb.block g hlt];exact hh
theorem gI (h:w.ownsRow base e size v n xs) (k:Nat):(w.drewN k).ownsRow base e size v n xs:=h
theorem am {B:Nat} {a:World} (h:Below B a w) (k:Nat):Below B a (w.drewN k):=⟨h.os,h.tape,h.output,h.size,h.block⟩
theorem bX (h:w.ownsRow base e size v n xs):∃A c,v=.slice A n c/\(A=none->c=0)/\n<=maxLen:=by
 rcases h.2 with⟨rfl,rfl⟩|⟨g,cap,cur,rfl,_,_,hc,hm,_⟩
 ·exact⟨none,0,rfl,fun _=>rfl,by omega⟩
 ·exact⟨some ⟨g,0,none⟩,cap,rfl,fun hn=>by simp at hn,by omega⟩
theorem eu (h:w.ownsRow base e size v n xs) (hn:0<n):∃g c,v=.slice (some ⟨g,0,none⟩) n c/\base<=g/\g<w.heap.size/\n<=c/\c<=maxLen:=by
 rcases h.2 with⟨rfl,rfl⟩|⟨g,cap,cur,rfl,hg,hh,hc,hm,_⟩
 ·omega
 ·refine⟨g,cap,rfl,hg,?_,hc,hm⟩
  rcases Nat.lt_or_ge g w.heap.size with h1|h1
  ·exact h1
  ·rw[Array.getElem?_eq_none h1] at hh;simp at hh
theorem yx (h:w.ownsRow base e 1 v n xs):xs.length=n:=by have:=h.1;omega
theorem ii {B:Nat} {a:World} (hb:Below B a w) (h:w.ownsRow base e size v n xs) (hB:B<=base) (hg:w.grownBy w' v.ownBlock) (hs:B<=w.heap.size):Below B a w':=
 hb.grown hg hs fun k hk=>by have:=(h.lt k hk).1;omega
theorem lp (w:World) (x:Value) (t:TypeId):∀(j:Nat) (u:Value),[x][j]?=some u->(w.alloc (.cells #[x] t)).cell? ((⟨w.heap.size,0,none⟩:Addr).add j)=some u:=by
 intro j u hu
 cases j with
 | zero=>
  simp at hu
  subst hu
  rw[WideShapes.add_plain,World.cell?_alloc_at _ _ _ _ rfl]
  rfl
 | succ j=>simp at hu
theorem an.src {B:Nat} {A:Option Addr} (h:an w B A xs) (hp:0<xs.length):∃ad,A=some ad/\∀(j:Nat) (u:Value),xs[j]?=some u->w.cell? (ad.add j)=some u:=by
 obtain⟨b,off,rfl,_,_⟩:=h 0 xs[0] (List.getElem?_eq_getElem hp)
 refine⟨_,rfl,fun j u hu=>?_⟩
 obtain⟨b',off',he,_,hc⟩:=h j u hu
 injection he with he
 injection he with h1 h2
 subst h1 h2
 rw[WideShapes.add_plain];exact hc
end
theorem j4 (z:Value) (k:Nat):madeCells #[z] k=(List.replicate k z).toArray:=by
 rw[<-toList_madeCells_one z k]
def Row (w:World) (g t:Nat) (cs:List Value):Prop:=w.heap[g]?=some (.cells cs.toArray t (0,0))
section
variable {w w':World} {g t:Nat} {cs:List Value}
theorem Row.lt (h:Row w g t cs):g<w.heap.size:=by
 rcases Nat.lt_or_ge g w.heap.size with hlt|hge
 ·exact hlt
 ·unfold Row at h;rw[Array.getElem?_eq_none hge] at h;cases h
theorem Row.cell (h:Row w g t cs) {k:Nat} {v:Value} (hk:cs[k]?=some v):w.cell? ⟨g,k,none⟩=some v:=by
 rw[cell_of_row w g k _ _ (0,0) h]
 simpa using hk
theorem Row.free (h:Row w g t cs) (k:Nat):w.frozen? ⟨g,k,none⟩=false:=by
 unfold Row at h
 simp[World.frozen?,h]
theorem Row.new (w:World) (t:Nat) (cs:List Value):Row (w.alloc (.cells cs.toArray t)) w.heap.size t cs:=heap_alloc_new w _
theorem Row.drew (h:Row w g t cs):Row w.drew g t cs:=h
theorem Row.drewN (h:Row w g t cs) (n:Nat):Row (w.drewN n) g t cs:=h
theorem Row.alloc (h:Row w g t cs) (o:Obj):Row (w.alloc o) g t cs:=(Below.heap_alloc w o g h.lt).trans h
theorem Row.call (h:Row w g t cs) (hb:Below w.heap.size w w'):Row w' g t cs:=(hb.block g h.lt).trans h
theorem Row.below {B:Nat} (h:Row w g t cs) (hb:Below B w w') (hg:g<B):Row w' g t cs:=(hb.block g hg).trans h
theorem Row.far (h:Row w g t cs) {p:Addr} (hp:g≠p.block) (u:Value):Row (w.setCell p u) g t cs:=(Below.heap_setCell w p u g hp).trans h
theorem Row.grown (h:Row w g t cs) {row:Option Nat} (hg:w.grownBy w' row) (hne:some g≠row):Row w' g t cs:=(hg.block g h.lt hne).trans h
theorem Row.at_ {g':Nat} (h:Row w g t cs) (e:g=g'):Row w g' t cs:=e ▸ h
theorem Row.set_ (h:Row w g t cs) (k:Nat) (u:Value):Row (w.setCell ⟨g,k,none⟩ u) g t (cs.set k u):=by
 unfold Row at h⊢
 simp[World.setCell,Array.getElem?_modify,h]
end
theorem aD {W w1:World} {p:Addr} {v:Value} (hb:Below W.heap.size W w1) (h:W.cell? p=some v):w1.cell? p=some v:=(hb.cell (World.block_lt_of_cell? _ _ h)).trans h
theorem ac {w w' w'':World} (h:Below w.heap.size w w') (hc:Below w'.heap.size w' w''):Below w.heap.size w w'':=h.trans (hc.mono h.size)
theorem ag (w:World) (o:Obj):Below w.heap.size w (w.alloc o):=(Below.refl _ _).alloc (Nat.le_refl _) _
theorem aP (w:World) (o p:Obj):Below w.heap.size w ((w.alloc o).alloc p):=(ag w o).alloc (by simp) _
theorem bi (w:World) (o p q:Obj):Below w.heap.size w (((w.alloc o).alloc p).alloc q):=(aP w o p).alloc (by simp;omega) _
structure After (W:World) where
 w:World
 b:Below W.heap.size W w
instance (W:World):Nonempty (After W):=⟨⟨W,Below.refl _ _⟩⟩
theorem aJ {P:Program} {id:Nat} {Q:Exit->Act->World->Prop} {a:Act} {W:World} {l:List Oper} (hm:P.follows .mixedOrders=true) (hB:Region.lexB .any l.toArray=true)
  (h:wpQuiet P l.toArray (fun w'=>∃p:After W,w'=p.w) (fun a'=>∀w',(∃p:After W,w'=p.w)->Q .normal a' w') l a):(Code.region id l.toArray true).wp P Q a W:=
 wp_region_quiet (C:=fun w'=>∃p:After W,w'=p.w) hm hB ⟨⟨W.drew,(Below.refl _ _).drew⟩,rfl⟩ (by simpa using h)
theorem bO {P:Program} {f:FuncId} {args:Array Value} {W:World} {p:After W} {v:Value} (h:Calls P f args p.w fun e w'=>e=.returned v/\Below p.w.heap.size p.w w'):Calls P f args p.w fun e w''=>e=.returned v/\∃q:After W,w''=q.w:=
 h.mono fun _ w' ⟨he,hb⟩=>⟨he,⟨w',ac p.b hb⟩,rfl⟩
theorem cI {P:Program} {f:FuncId} {args:Array Value} {W:World} {p:After W} {v:Value} (h:Calls P f args p.w fun e w'=>e=.returned v/\p.w=w'):Calls P f args p.w fun e w''=>e=.returned v/\∃q:After W,w''=q.w:=
 h.mono fun _ _ ⟨he,hb⟩=>⟨he,p,hb.symm⟩
theorem af {W:World} {a:Addr} {v:Value} (h:W.cell? a=some v) (p:After W):p.w.cell? a=some v:=aD p.b h
abbrev pv (o s:Int):Value:=.agg #[.int .i64 o,.int .i64 s]
def bm (l:List (Int×Int)):List Value:=l.flatMap fun u=>[.int .i64 u.1,.int .i64 u.2]
theorem ob (l m:List (Int×Int)):bm (l++m)=bm l++bm m:=by simp[bm]
theorem rC (o s:Int):bm [(o,s)]=[.int .i64 o,.int .i64 s]:=rfl
theorem tL (l:List (Int×Int)) (k:Nat) (u:Int×Int) (h:l[k]?=some u):(bm l)[k*2]?=some (.int .i64 u.1)/\(bm l)[k*2+1]?=some (.int .i64 u.2):=by
 induction l generalizing k with
 | nil=>simp at h
 | cons v r ih=>
  cases k with
  | zero=>simp at h;subst h;exact⟨rfl,rfl⟩
  | succ k=>
   have h':=ih k (by simpa using h)
   have e:bm (v::r)=.int .i64 v.1::.int .i64 v.2::bm r:=rfl
   rw[e,show(k+1)*2=k*2+1+1 by omega,show k*2+1+1+1=(k*2+1)+1+1 by omega]
   simpa using h'
theorem fo {w:World} {B:Nat} {A:Option Addr} {l:List (Int×Int)} {k:Nat} (h:an w B A (bm l)) (hk:k<l.length) :
  ∃b off,A=some ⟨b,off,none⟩/\b<B/\w.cell? ⟨b,off+k*2,none⟩=some (.int .i64 l[k].1)/\w.cell? ⟨b,off+k*2+1,none⟩=some (.int .i64 l[k].2):=by
 obtain⟨h1,h2⟩:=tL l k _ (List.getElem?_eq_getElem hk)
 obtain⟨b,off,e,hb,hc⟩:=h _ _ h1
 obtain⟨b',off',e',_,hc'⟩:=h _ _ h2
 have he:=e.symm.trans e'
 injection he with he
 injection he with e1 e2
 subst e1 e2
 exact⟨b,off,e,hb,hc,hc'⟩
theorem an.ownN {w:World} {base size:Nat} {e:TypeId} {A:Option Addr} {n c:Nat} {xs:List Value} (h:w.ownsRow base e size (.slice A n c) n xs):an w w.heap.size A xs:=fun k u hu=>by
 have hk:k<xs.length:=by
  rcases Nat.lt_or_ge k xs.length with h1|h1
  ·exact h1
  ·rw[List.getElem?_eq_none h1] at hu;simp at hu
 have hl:=h.1
 rcases h.2 with⟨he,h0⟩|⟨g,cap,cur,he,hg,hh,_⟩
 ·subst h0;omega
 ·have hA:A=some ⟨g,0,none⟩:=by injection he
  subst hA
  have hlt:g<w.heap.size:=by
   rcases Nat.lt_or_ge g w.heap.size with h1|h1
   ·exact h1
   ·rw[Array.getElem?_eq_none h1] at hh;simp at hh
  refine⟨g,0,rfl,hlt,?_⟩
  have:=h.cells (g:=g) rfl k u hu
  rwa[WideShapes.add_plain] at this
section
variable {w:World} {g t T:Nat} {cs vs:List Value}
theorem bd (h:Row w g t cs):Row (w.setRow g vs.toArray) g t vs:=setRow_heap w g _ _ t _ h
theorem aU (w:World) (g:Nat) (c:Array Value):w.grownBy (w.setRow g c) (some g):=⟨rfl,rfl,rfl,by simp[World.setRow],fun i _ hi=>by
 have:g≠i:=fun e=>hi (by rw[e])
 simp[World.setRow,Array.getElem?_modify,this]⟩
theorem l9 {n o:Nat} (ha:(isAgg T).run Tryz.prog w=.ok true w) (hs:(sizeOf T).run Tryz.prog w=.ok n w) (hl:cs.length=n) (hc:∀j v,cs[j]?=some v->w.cell? ⟨g,o+j,none⟩=some v):(Instr.loadAt T (.pointer (some ⟨g,o,none⟩))).run Tryz.prog w=.ok (.agg cs.toArray) w:=by
 subst hl
 have hq:=run_loadCells_list (P:=Tryz.prog) w ⟨g,o,none⟩ cs (fun j v hj=>by
  rw[show(⟨g,o,none⟩:Addr).add j=⟨g,o+j,none⟩ by unfold Addr.add;split<;>simp_all]
  exact hc j v hj)
 simp only[Instr.loadAt,Instr.sureAddr,loadVar,Sem.run_bind,Sem.run_pure,Result.andThen,ha,hs,hq,if_true]
theorem bG {n:Nat} (ha:(isAgg T).run Tryz.prog w=.ok true w) (hs:(sizeOf T).run Tryz.prog w=.ok n w) (hl:cs.length=n) (h:Row w g t cs):(Instr.loadAt T (.pointer (some ⟨g,0,none⟩))).run Tryz.prog w=.ok (.agg cs.toArray) w:=
 l9 ha hs hl (fun j v hj=>by rw[Nat.zero_add];exact h.cell hj)
theorem cL {n:Nat} (hs:(sizeOf T).run Tryz.prog w=.ok n w) (hl:vs.length=n) (hl2:cs.length=n) (h1:∀v∈vs,v.oneCell'=true) (h:Row w g t cs):(Instr.storeAt T (.pointer (some ⟨g,0,none⟩)) (.agg vs.toArray)).run Tryz.prog w=.ok () (w.setRow g vs.toArray):=by
 subst hl
 have hq:=run_storeCells_from (P:=Tryz.prog) g t vs 0 cs.toArray w h (by simp[hl2]) h1
 simp only[List.take_zero,List.nil_append] at hq
 simp only[Instr.storeAt,Instr.sureAddr,storeVar,Sem.run_bind,Sem.run_pure,Result.andThen,hs]
 simp[Value.cells,hq]
end
theorem bu {P:Program} {w:World} {ops:Array Oper} {rest:List Oper} {o:Oper} {a:Act} {Q:Exit->Act->World->Prop} (t:TypeId) (x:Operand) (hop:o.op=.load t x) (hg:o.guard=none) (c:Array Value) (p:Value) (hp:a.eval x=p)
  (hrun:(Instr.loadAt t p).run P w=.ok (.agg c) w) (hK:wpList P ops Q rest (a.put o.dst (.agg c)) w):wpList P ops Q (o::rest) a w:=by
 refine wpList_plain hg fun K' hK'=>?_
 unfold Oper.wp
 simp only[hop,hp,execOp,Sem.run_bind,hrun,Result.andThen,Sem.run_pure]
 exact hK' _ _ hK
theorem aI {P:Program} {w w':World} {ops:Array Oper} {rest:List Oper} {o:Oper} {a:Act} {Q:Exit->Act->World->Prop} (t:TypeId) (x y:Operand) (hop:o.op=.store t x y) (hg:o.guard=none) (p v:Value) (hp:a.eval x=p) (hv:a.eval y=v)
  (hrun:(Instr.storeAt t p v).run P w=.ok () w') (hK:wpList P ops Q rest (a.put o.dst undef) w'):wpList P ops Q (o::rest) a w:=by
 refine wpList_plain hg fun K' hK'=>?_
 unfold Oper.wp
 simp only[hop,hp,hv,execOp,Sem.run_bind,hrun,Result.andThen,Sem.run_pure]
 exact hK' _ _ hK
theorem dZ {fn:Func} {t u:Tmp} {T:TypeId} (h:fn.results=#[.cell t T,.tmp u]) (tmps:Array Value) (w:World) (g o:Nat) (v:Value) (ht:tmps.getD t undef=.pointer (some ⟨g,o,none⟩)) (hl:(Instr.loadAt T (.pointer (some ⟨g,o,none⟩))).run Tryz.prog w=.ok v w) :
  (results fn tmps).run Tryz.prog w=.ok (.tuple #[v,tmps.getD u undef]) w:=by
 have hl2:(loadVar T ⟨g,o,none⟩).run Tryz.prog w=.ok v w:=by
  rw[<-hl]
  simp[Instr.loadAt,Instr.sureAddr]
 have ht3:tmps[t]?.getD undef=.pointer (some ⟨g,o,none⟩):=by rw[<-ht];simp
 have hm:(results fn tmps).run Tryz.prog w=((loadVar T ⟨g,o,none⟩).run Tryz.prog w).andThen fun v w=>.ok (.tuple #[v,tmps.getD u undef]) w:=by
  simp[results,h,ht3,asAddr]
 rw[hm,hl2]
 rfl
def ae:Nat:=340282366920938463463374607431768211456
theorem er:ae=2 ^ 128:=by decide
theorem dO:0<ae:=by decide
def lo (V:Nat):Int:=((V % 18446744073709551616:Nat):Int)
def hi (V:Nat):Int:=((V / 18446744073709551616 % 18446744073709551616:Nat):Int)
def bn (b:Bool):Nat:=if b then 1 else 0
theorem cM (V:Nat):0<=lo V/\lo V<=18446744073709551615:=by unfold lo;omega
theorem cQ (V:Nat):0<=hi V/\hi V<=18446744073709551615:=by unfold hi;omega
theorem mw {V:Nat} (h:V<ae):(V:Int)=lo V+18446744073709551616*hi V:=by unfold lo hi;unfold ae at h;omega
theorem By {V:Nat} {l h:Int} (l0:0<=l) (l1:l<=18446744073709551615) (e:(l+18446744073709551616*h) % 340282366920938463463374607431768211456=(V:Int) % 340282366920938463463374607431768211456)
  (h0:0<=h) (h1:h<=18446744073709551615):l=lo V/\h=hi V:=by
 unfold lo hi;omega
theorem ur (V:Nat):lo (V % ae)=lo V:=by unfold lo ae;omega
theorem ux (V:Nat):hi (V % ae)=hi V:=by unfold hi ae;omega
theorem mj {X Y:Nat} (hX:X<ae) (hY:Y<ae):(lo X=lo Y/\hi X=hi Y)↔X=Y:=by
 constructor
 ·intro⟨h1,h2⟩
  have:=mw hX
  have:=mw hY
  omega
 ·rintro rfl;exact⟨rfl,rfl⟩
theorem mp {X:Nat} (hX:X<ae):(lo X=0/\hi X=0)↔X=0:=by
 have:=mj hX (Y:=0) dO
 rw[<-this]
 exact⟨fun⟨a,b⟩=>⟨by rw[a];rfl,by rw[b];rfl⟩,fun⟨a,b⟩=>⟨by rw[a];rfl,by rw[b];rfl⟩⟩
theorem pd {X Y:Nat} (hX:X<ae) (hY:Y<ae):X<Y↔(hi X<hi Y\/(hi X=hi Y/\lo X<lo Y)):=by
 have:=mw hX
 have:=mw hY
 have:=cM X
 have:=cM Y
 constructor
 ·intro h;omega
 ·intro h;omega
theorem tR (x b:Nat) (hx:x % 2=0) (hb:b<=1):x ||| b=x+b:=by
 apply Nat.eq_of_testBit_eq
 intro i
 rw[Nat.testBit_or]
 cases i with
 | zero=>simp only[Nat.testBit_zero];rw[hx,show(x+b) % 2=b % 2 by omega];simp
 | succ i=>rw[Nat.testBit_succ,Nat.testBit_succ,Nat.testBit_succ,show b / 2=0 by omega,show(x+b) / 2=x / 2 by omega];simp
theorem kp (a b:Int) (a0:0<=a) (a1:a<=18446744073709551615) (ha:a % 2=0) (b0:0<=b) (b1:b<=1):bits .or .u64 a b=a+b:=by
 rw[u64_or a b a0 (by omega) b0 (by omega),tR _ _ (by omega) (by omega)]
 omega
theorem iM (a:Int) (a0:0<=a) (a1:a<=18446744073709551615):bits .and .u64 a 1=a % 2:=by
 obtain⟨n,rfl⟩:=Int.eq_ofNat_of_zero_le a0
 rw[show(1:Int)=((1:Nat):Int) from rfl,u64_and_nat n 1 (by omega) (by omega),Nat.and_one_is_mod]
 omega
theorem uH (X:Nat) (b:Int) (b0:0<=b) (b1:b<=1):bits .or .u64 (IntKind.u64.wrap (lo X*2)) b=lo (2*X+b.toNat):=by
 rw[IntKind.wrap_u64,kp _ _ (by omega) (by omega) (by omega) b0 b1]
 unfold lo;omega
theorem nV (X:Nat) (b:Int) (b0:0<=b) (b1:b<=1):bits .or .u64 (IntKind.u64.wrap (hi X*2)) (lo X / 9223372036854775808)=hi (2*X+b.toNat):=by
 have:=cM X
 rw[IntKind.wrap_u64,kp _ _ (by omega) (by omega) (by omega) (by omega) (by omega)]
 unfold lo hi;omega
theorem vu (X:Nat):IntKind.u64.wrap (lo X*2)=lo (2*X):=by
 rw[IntKind.wrap_u64]
 unfold lo;omega
theorem vw (X:Nat):bits .or .u64 (IntKind.u64.wrap (hi X*2)) (lo X / 9223372036854775808)=hi (2*X):=by
 have:=nV X 0 (by omega) (by omega)
 simpa using this
theorem zJ (X Y:Nat):(lo X+lo Y) % 18446744073709551616=lo (X+Y):=by unfold lo;omega
theorem zK (X Y:Nat):(hi X+hi Y+(lo X+lo Y) / 18446744073709551616) % 18446744073709551616=hi (X+Y):=by unfold lo hi;omega
theorem y8 (X Y:Nat) (hY:Y<ae):(lo X-lo Y) % 18446744073709551616=lo (X+ae-Y):=by unfold ae at *;unfold lo;omega
def brw (x y c:Int):Int:=if x<y+c then 1 else 0
theorem Bj (x y c:Int):0<=brw x y c/\brw x y c<=1:=by unfold brw;split<;>omega
theorem y9 (X Y:Nat) (hY:Y<ae):(hi X-hi Y-brw (lo X) (lo Y) 0) % 18446744073709551616=hi (X+ae-Y):=by unfold ae at *;unfold brw lo hi;split<;>omega
theorem uq (X Y:Nat):lo X*lo Y=((X % 18446744073709551616*(Y % 18446744073709551616):Nat):Int):=by unfold lo;simp
theorem yq (X Y:Nat):lo X*lo Y % 18446744073709551616=lo (X*Y):=by
 rw[uq]
 unfold lo
 rw[Nat.mul_mod X Y]
 omega
theorem vW (a b c d:Nat):(a+18446744073709551616*b)*(c+18446744073709551616*d) / 18446744073709551616 % 18446744073709551616=(a*c / 18446744073709551616+a*d+b*c) % 18446744073709551616:=by
 have e:(a+18446744073709551616*b)*(c+18446744073709551616*d)=a*c+18446744073709551616*(a*d+b*c)+340282366920938463463374607431768211456*(b*d):=by
  rw[Nat.add_mul,Nat.mul_add,Nat.mul_add,Nat.mul_left_comm a,Nat.mul_assoc _ b c,Nat.mul_mul_mul_comm]
  omega
 rw[e]
 generalize a*c=p
 generalize a*d=q
 generalize b*c=r
 generalize b*d=t
 omega
theorem yr (X Y:Nat) (hX:X<ae) (hY:Y<ae) :
  IntKind.u64.wrap (IntKind.u64.wrap (lo X*lo Y / 18446744073709551616+IntKind.u64.wrap (lo X*hi Y))+IntKind.u64.wrap (hi X*lo Y))=hi (X*Y):=by
 have e:hi (X*Y)=((X*Y / 18446744073709551616 % 18446744073709551616:Nat):Int):=rfl
 have eX:X=X % 18446744073709551616+18446744073709551616*(X / 18446744073709551616 % 18446744073709551616):=by unfold ae at hX;omega
 have eY:Y=Y % 18446744073709551616+18446744073709551616*(Y / 18446744073709551616 % 18446744073709551616):=by unfold ae at hY;omega
 rw[e,eX,eY,vW,<-eX,<-eY]
 simp only[IntKind.wrap_u64]
 have e1:lo X*hi Y=((X % 18446744073709551616*(Y / 18446744073709551616 % 18446744073709551616):Nat):Int):=by unfold lo hi;simp
 have e2:hi X*lo Y=((X / 18446744073709551616 % 18446744073709551616*(Y % 18446744073709551616):Nat):Int):=by unfold lo hi;simp
 rw[e1,e2,uq]
 generalize X % 18446744073709551616*(Y % 18446744073709551616)=p
 generalize X % 18446744073709551616*(Y / 18446744073709551616 % 18446744073709551616)=q
 generalize X / 18446744073709551616 % 18446744073709551616*(Y % 18446744073709551616)=r
 omega
theorem mk {a b d c:Nat} (hc:c<b) (h:c+b*d=a):a / b=d/\a % b=c:=(Nat.div_mod_unique (by omega)).2 ⟨h,hc⟩
theorem pp (A b Y:Nat) (h:2*(A % Y)+b<Y):(2*A+b) / Y=2*(A / Y)/\(2*A+b) % Y=2*(A % Y)+b:=by
 refine mk h ?_
 have:=Nat.div_add_mod A Y
 rw[Nat.mul_left_comm]
 omega
theorem po (A b Y:Nat) (hb:b<=1) (hY:0<Y) (h:Y<=2*(A % Y)+b):(2*A+b) / Y=2*(A / Y)+1/\(2*A+b) % Y=2*(A % Y)+b-Y:=by
 have hr:=Nat.mod_lt A hY
 refine mk (by omega) ?_
 have:=Nat.div_add_mod A Y
 rw[Nat.mul_add,Nat.mul_left_comm]
 omega
theorem fC {V V':Nat} (h:V % ae=V' % ae):lo V=lo V'/\hi V=hi V':=by
 rw[<-ur V,<-ur V',<-ux V,<-ux V',h];exact⟨rfl,rfl⟩
theorem qV (a b:Nat) (h:b<=a):(a+ae-b) % ae=(a-b) % ae:=by
 rw[show a+ae-b=a-b+ae by unfold ae;omega,Nat.add_mod_right]
theorem kA (X j:Nat):X / 2 ^ j=2*(X / 2 ^ (j+1))+X / 2 ^ j % 2:=by
 rw[Nat.pow_succ,<-Nat.div_div_eq_div_mul];omega
theorem xT (X k:Nat) (hk:k<128):(hi (X*2 ^ k % ae) / 9223372036854775808).toNat=X / 2 ^ (127-k) % 2:=by
 obtain⟨j,hj⟩:∃j,127-k=j:=⟨_,rfl⟩
 have e128:ae=2 ^ k*2 ^ (j+1):=by rw[<-Nat.pow_add,show k+(j+1)=128 by omega];rfl
 have e1:(hi (X*2 ^ k % ae) / 9223372036854775808).toNat=X*2 ^ k % ae / 2 ^ 127:=by
  have hlt:X*2 ^ k % ae<ae:=Nat.mod_lt _ dO
  generalize X*2 ^ k % ae=V at *
  rw[show(2:Nat) ^ 127=170141183460469231731687303715884105728 by decide]
  unfold ae at hlt
  unfold hi
  omega
 rw[e1,hj,e128,Nat.mul_comm X,Nat.mul_mod_mul_left,show(2:Nat) ^ 127=2 ^ k*2 ^ j by rw[<-Nat.pow_add,show k+j=127 by omega],Nat.mul_div_mul_left _ _ (Nat.two_pow_pos k),Nat.pow_succ,Nat.mod_mul_right_div_self]
theorem zX (X k:Nat):2*(X*2 ^ k % ae) % ae=X*2 ^ (k+1) % ae:=by
 rw[Nat.mul_mod_mod,Nat.pow_succ,Nat.mul_comm 2,Nat.mul_assoc]
theorem tU (X k:Nat) (hk:k<128):X / 2 ^ (128-(k+1))=2*(X / 2 ^ (128-k))+X / 2 ^ (127-k) % 2:=by
 have:=kA X (127-k)
 rw[show 127-k+1=128-k by omega] at this
 rw[show 128-(k+1)=127-k by omega]
 omega
theorem nJ (X Y:Nat) (hX:X<ae):X / 2 ^ (128-0) / Y=0/\X / 2 ^ (128-0) % Y=0:=by
 have e:X / 2 ^ (128-0)=0:=Nat.div_eq_of_lt hX
 rw[e];simp
theorem tG (X Y k:Nat) (hX:X<ae) (hk:k<128) (hY:0<Y) (xk qk rk:Nat) (hx:xk=X*2 ^ k % ae) (hq:qk=X / 2 ^ (128-k) / Y) (hr:rk=X / 2 ^ (128-k) % Y) :
  2*xk % ae=X*2 ^ (k+1) % ae/\2*rk+(hi xk / 9223372036854775808).toNat<ae /\
  (2*rk+(hi xk / 9223372036854775808).toNat<Y->2*qk=X / 2 ^ (128-(k+1)) / Y/\2*rk+(hi xk / 9223372036854775808).toNat=X / 2 ^ (128-(k+1)) % Y) /\
  (Y<=2*rk+(hi xk / 9223372036854775808).toNat->2*qk+1=X / 2 ^ (128-(k+1)) / Y/\2*rk+(hi xk / 9223372036854775808).toNat-Y=X / 2 ^ (128-(k+1)) % Y):=by
 subst hx
 rw[xT X k hk,tU X k hk]
 refine⟨zX X k,?_,?_,?_⟩
 ·have h1:=tU X k hk
  have h2:X / 2 ^ (128-(k+1))<=X:=Nat.div_le_self _ _
  have h3:=Nat.mod_le (X / 2 ^ (128-k)) Y
  omega
 ·intro h
  have:=pp (X / 2 ^ (128-k)) (X / 2 ^ (127-k) % 2) Y (by omega)
  omega
 ·intro h
  have:=po (X / 2 ^ (128-k)) (X / 2 ^ (127-k) % 2) Y (by omega) hY (by omega)
  omega
abbrev vv (V:Nat):Value:=.agg #[.int .u64 (lo V),.int .u64 (hi V)]
def Box (w:World) (g V:Nat):Prop:=w.heap[g]?=some (.cells #[.int .u64 (lo V),.int .u64 (hi V)] 38 (0,0))
section
variable {w w':World} {g V:Nat}
theorem Box.lt (h:Box w g V):g<w.heap.size:=by
 rcases Nat.lt_or_ge g w.heap.size with hlt|hge
 ·exact hlt
 ·unfold Box at h;rw[Array.getElem?_eq_none hge] at h;cases h
theorem Box.c0 (h:Box w g V):w.cell? ⟨g,0,none⟩=some (.int .u64 (lo V)):=cell_of_row w g 0 _ _ (0,0) h
theorem Box.c1 (h:Box w g V):w.cell? ⟨g,1,none⟩=some (.int .u64 (hi V)):=cell_of_row w g 1 _ _ (0,0) h
theorem Box.z (h:Box w g V) (i:Nat):w.frozen? ⟨g,i,none⟩=false:=by
 unfold Box at h
 simp[World.frozen?,h]
theorem Box.facts (h:Box w g V):w.cell? ⟨g,0,none⟩=some (.int .u64 (lo V))/\w.cell? ⟨g,1,none⟩=some (.int .u64 (hi V))/\w.frozen? ⟨g,0,none⟩=false/\w.frozen? ⟨g,1,none⟩=false:=
 ⟨h.c0,h.c1,h.z 0,h.z 1⟩
theorem Box.new (w:World) (V:Nat):Box (w.alloc (.cells #[.int .u64 (lo V),.int .u64 (hi V)] 38)) w.heap.size V:=heap_alloc_new w _
theorem Box.drew (h:Box w g V):Box w.drew g V:=h
theorem Box.drewN (h:Box w g V) (n:Nat):Box (w.drewN n) g V:=h
theorem Box.alloc (h:Box w g V) (o:Obj):Box (w.alloc o) g V:=(Below.heap_alloc w o g h.lt).trans h
theorem Box.far (h:Box w g V) {p:Addr} (hp:g≠p.block) (u:Value):Box (w.setCell p u) g V:=(Below.heap_setCell w p u g hp).trans h
theorem Box.below {B:Nat} (h:Box w g V) (hb:Below B w w') (hg:g<B):Box w' g V:=(hb.block g hg).trans h
theorem Box.call (h:Box w g V) (hb:Below w.heap.size w w'):Box w' g V:=h.below hb h.lt
theorem Box.set_ (h:Box w g V) (V':Nat):Box ((w.setCell ⟨g,0,none⟩ (.int .u64 (lo V'))).setCell ⟨g,1,none⟩ (.int .u64 (hi V'))) g V':=by
 unfold Box at h⊢
 simp[World.setCell,Array.getElem?_modify,h]
theorem Box.set0 (h:Box w g V) (V':Nat) (e:hi V=hi V'):Box (w.setCell ⟨g,0,none⟩ (.int .u64 (lo V'))) g V':=by
 unfold Box at h⊢
 simp[World.setCell,Array.getElem?_modify,h,e]
theorem Box.far2 (h:Box w g V) {g':Nat} (hp:g≠g') (u u':Value):Box ((w.setCell ⟨g',0,none⟩ u).setCell ⟨g',1,none⟩ u') g V:=(h.far (p:=⟨g',0,none⟩) hp u).far (p:=⟨g',1,none⟩) hp u'
theorem Box.at_ {g':Nat} (h:Box w g V) (e:g=g'):Box w g' V:=e ▸ h
theorem Box.congr {V':Nat} (h:Box w g V) (e:V % ae=V' % ae):Box w g V':=by
 unfold Box at h⊢
 rw[<-(fC e).1,<-(fC e).2];exact h
theorem Box.same {V':Nat} (h:Box w g V) (e:V=V'):Box w g V':=e ▸ h
end
theorem aL {B g:Nat} {w w':World} (h:Below B w w') (hg:B<=g) (u u':Value):Below B w ((w'.setCell ⟨g,0,none⟩ u).setCell ⟨g,1,none⟩ u'):=
 (h.setCell (p:=⟨g,0,none⟩) hg u).setCell (p:=⟨g,1,none⟩) hg u'
def bJ (op:Int) (X Y:Nat):Nat:=
 if op=2 then(X+Y) % ae else if op=3 then(X+ae-Y) % ae else if op=4 then X*Y % ae else if op=5 then X / Y else
 if op=6 then X &&& Y else if op=7 then X ||| Y else if op=8 then X ^^^ Y else if op=9 then bn (decide (X<Y)) else if op=10 then bn (decide (X=Y)) else 0
def cO (op:Int) (Y:Nat):Bool:=decide (2<=op/\op<=10/\¬(op=5/\Y=0))
theorem wi (op:Int) (X Y:Nat) (hX:X<ae) (hY:Y<ae):bJ op X Y<ae:=by
 have h2:(1:Nat)<ae:=by decide
 have hb:∀b,bn b<ae:=fun b=>by unfold bn;split<;>omega
 have hx:=hX
 have hy:=hY
 rw[er] at hx hy
 unfold bJ
 repeat' split
 all_goals first
  | exact Nat.mod_lt _ dO
  | exact Nat.lt_of_le_of_lt (Nat.div_le_self _ _) hX
  | exact hb _
  | exact dO
  | (rw[er];exact Nat.and_lt_two_pow _ hy)
  | (rw[er];exact Nat.or_lt_two_pow hx hy)
  | (rw[er];exact Nat.xor_lt_two_pow hx hy)
theorem pC (X Y:Nat):bits .and .u64 (lo X) (lo Y)=lo (X &&& Y):=by
 unfold lo
 rw[u64_and_nat _ _ (by omega) (by omega),show(18446744073709551616:Nat)=2 ^ 64 by decide,Nat.and_mod_two_pow]
theorem rI (X Y:Nat):bits .or .u64 (lo X) (lo Y)=lo (X ||| Y):=by
 unfold lo
 rw[u64_or_nat _ _ (by omega) (by omega),show(18446744073709551616:Nat)=2 ^ 64 by decide,Nat.or_mod_two_pow]
theorem ou (X Y:Nat):bits .xor .u64 (lo X) (lo Y)=lo (X ^^^ Y):=by
 unfold lo
 rw[u64_xor_nat _ _ (by omega) (by omega),show(18446744073709551616:Nat)=2 ^ 64 by decide,Nat.xor_mod_two_pow]
theorem i5 (X:Nat):hi X=lo (X >>> 64):=by
 unfold hi lo;rw[Nat.shiftRight_eq_div_pow]
theorem uX (X Y:Nat):bits .and .u64 (hi X) (hi Y)=hi (X &&& Y):=by
 rw[i5,i5,i5,pC,Nat.shiftRight_and_distrib]
theorem xy (X Y:Nat):bits .or .u64 (hi X) (hi Y)=hi (X ||| Y):=by
 rw[i5,i5,i5,rI,Nat.shiftRight_or_distrib]
theorem sK (X Y:Nat):bits .xor .u64 (hi X) (hi Y)=hi (X ^^^ Y):=by
 rw[i5,i5,i5,ou,Nat.shiftRight_xor_distrib]
def cR (n:Int):Bool:=decide (0<=n/\n<=2147483647)
def aR (n:Int):Bool:=(List.range 25).any fun k=>decide (n=(2:Int) ^ k)
theorem gD {n:Int}:cR n=true↔0<=n/\n<=2147483647:=by simp[cR]
theorem ir {n:Int}:aR n=true↔∃k:Nat,k<=24/\n=(2:Int) ^ k:=by
 simp only[aR,List.any_eq_true,List.mem_range,decide_eq_true_eq]
 exact⟨fun⟨k,h,e⟩=>⟨k,by omega,e⟩,fun⟨k,h,e⟩=>⟨k,by omega,e⟩⟩
theorem jy {k:Nat} (h:k<=24):(1:Int)<=(2:Int) ^ k/\(2:Int) ^ k<=16777216:=by
 have h1:(2:Nat) ^ k<=2 ^ 24:=Nat.pow_le_pow_right (by omega) h
 have h2:1<=(2:Nat) ^ k:=Nat.one_le_two_pow
 have e:((2:Int) ^ k)=((2 ^ k:Nat):Int):=by simp
 rw[e]
 omega
theorem ed {n:Int} (h:aR n=true):1<=n/\n<=16777216:=by
 obtain⟨k,hk,rfl⟩:=ir.1 h
 exact jy hk
theorem oU {n:Int} (h:n<1\/16777216<n):aR n=false:=by
 cases e:aR n with
 | false=>rfl
 | true=>have:=ed e;omega
theorem mN (a:Nat) (ha:a<18446744073709551616):(BitVec.ofInt 64 (a:Int)).toNat=a:=by
 rw[BitVec.ofInt_natCast,BitVec.toNat_ofNat];exact Nat.mod_eq_of_lt (by omega)
theorem wrap_i64 (a:Int) (h0:-9223372036854775808<=a) (h1:a<=9223372036854775807):IntKind.i64.wrap a=a:=by
 simp[IntKind.wrap,IntKind.bits,IntKind.signed];omega
theorem pD (n:Int) (h0:1<=n) (h1:n<=16777216):bits .and .i64 n (n-1)=(((n.toNat &&& (n.toNat-1)):Nat):Int):=by
 obtain⟨m,rfl⟩:=Int.eq_ofNat_of_zero_le (show 0<=n by omega)
 rw[show((m:Int)-1)=((m-1:Nat):Int) by omega]
 show IntKind.i64.wrap ((BitVec.ofInt 64 (m:Int) &&& BitVec.ofInt 64 ((m-1:Nat):Int)).toNat:Int)=_
 rw[BitVec.toNat_and,mN m (by omega),mN (m-1) (by omega),Int.toNat_natCast]
 have:=Nat.and_le_left (n:=m) (m:=m-1)
 rw[wrap_i64 _ (by omega) (by omega)]
theorem xg (n:Int) (h0:1<=n) (h1:n<=16777216):(bits .and .i64 n (n-1)==0)=aR n:=by
 rw[pD n h0 h1]
 obtain⟨m,rfl⟩:=Int.eq_ofNat_of_zero_le (show 0<=n by omega)
 have hp:=Nat.and_sub_one_eq_zero_iff_isPowerOfTwo (n:=m) (by omega)
 rw[Int.toNat_natCast,Bool.eq_iff_iff,ir,beq_iff_eq]
 constructor
 ·intro h
  obtain⟨k,hk⟩:=hp.1 (by omega)
  refine⟨k,?_,by rw[hk];simp⟩
  rcases Nat.lt_or_ge 24 k with hlt|hge
  ·have:(2:Nat) ^ 25<=2 ^ k:=Nat.pow_le_pow_right (by omega) hlt
   omega
  ·exact hge
 ·rintro⟨k,_,hk⟩
  have e:m=2 ^ k:=by
   have:((2:Int) ^ k)=((2 ^ k:Nat):Int):=by simp
   omega
  have:=hp.2 ⟨k,e⟩
  omega
def upM (n a:Int):Int:=n+(-n) % a
theorem ja (n a:Int):a∣upM n a:=by
 refine⟨-((-n) / a),?_⟩
 have:=Int.mul_ediv_add_emod (-n) a
 unfold upM
 rw[Int.mul_neg]
 omega
theorem fz (n:Int) {a:Int} (h:0<a):n<=upM n a/\upM n a<n+a:=by
 have h1:=Int.emod_nonneg (-n) (show a≠0 by omega)
 have h2:=Int.emod_lt_of_pos (-n) h
 unfold upM
 omega
theorem yE {a x y n:Int} (h:0<a) (hx:a∣x) (hy:a∣y) (x0:n<=x) (x1:x<n+a) (y0:n<=y) (y1:y<n+a):x=y:=by
 obtain⟨p,rfl⟩:=hx
 obtain⟨q,rfl⟩:=hy
 rcases Int.lt_trichotomy p q with hl|rfl|hl
 ·have:=Int.mul_le_mul_of_nonneg_left (show p+1<=q by omega) (Int.le_of_lt h)
  rw[Int.mul_add,Int.mul_one] at this
  omega
 ·rfl
 ·have:=Int.mul_le_mul_of_nonneg_left (show q+1<=p by omega) (Int.le_of_lt h)
  rw[Int.mul_add,Int.mul_one] at this
  omega
theorem oG {a x n:Int} (h:0<a) (hx:a∣x) (x0:n<=x) (x1:x<n+a):x=upM n a:=
 yE h hx (ja n a) x0 x1 (fz n h).1 (fz n h).2
theorem kN {a x n:Int} (h:0<a) (hx:a∣x) (x0:n<=x):upM n a<=x:=by
 have:=fz n h
 rcases Int.lt_or_le x (n+a) with h1|h1
 ·rw[oG h hx x0 h1];omega
 ·omega
theorem xQ {n a:Int} (h:0<a) (hn:n % a≠0):n-n % a+a=upM n a:=by
 have h1:=Int.emod_nonneg n (show a≠0 by omega)
 have h2:=Int.emod_lt_of_pos n h
 refine oG h ⟨n / a+1,?_⟩ (by omega) (by omega)
 have:=Int.mul_ediv_add_emod n a
 rw[Int.mul_add,Int.mul_one]
 omega
theorem vr {n a:Int} (h:0<a) (hn:n % a=0):n=upM n a:=
 oG h (Int.dvd_of_emod_eq_zero hn) (Int.le_refl _) (by omega)
def lf (x y:Int):Int:=if cR x&&cR y&&decide (x+y<=2147483647) then x+y else 0
def jV (x y:Int):Int:=if cR x&&cR y then(if x+y<=2147483647 then 0 else 9) else 4
def upV (n a:Int):Int:=if cR n&&aR a&&decide (upM n a<=2147483647) then upM n a else 0
def upE (n a:Int):Int:=if cR n&&aR a then(if upM n a<=2147483647 then 0 else 9) else 4
theorem qG {x y:Int} (h:(cR x&&cR y)=false):lf x y=0/\jV x y=4:=by simp[lf,jV,h]
theorem uY {x y:Int} (hx:cR x=true) (hy:cR y=true) (h:2147483647<x+y):lf x y=0/\jV x y=9:=by
 simp[lf,jV,hx,hy,show¬x+y<=2147483647 by omega]
theorem AJ {x y:Int} (hx:cR x=true) (hy:cR y=true) (h:x+y<=2147483647):lf x y=x+y/\jV x y=0:=by
 simp[lf,jV,hx,hy,h]
theorem sT {n a:Int} (h:(cR n&&aR a)=false):upV n a=0/\upE n a=4:=by simp[upV,upE,h]
theorem vq {n a:Int} (hx:cR n=true) (hy:aR a=true) (h:2147483647<upM n a):upV n a=0/\upE n a=9:=by
 simp[upV,upE,hx,hy,show¬upM n a<=2147483647 by omega]
theorem oh {n a:Int} (hx:cR n=true) (hy:aR a=true) (h:upM n a<=2147483647):upV n a=upM n a/\upE n a=0:=by
 simp[upV,upE,hx,hy,h]
def dY (o s:Int):Bool:=cR o&&cR s&&decide (o+s<=2147483647)
theorem et {o s:Int}:dY o s=true↔0<=o/\0<=s/\o+s<=2147483647:=by
 simp[dY,cR];omega
theorem rh (o s:Int):decide (jV o s=0)=dY o s:=by
 unfold dY jV
 cases cR o<;>cases cR s<;>simp
def jO (o s p t:Int):Bool:=dY o s&&dY p t&&decide (0<s)&&decide (0<t)&&decide (o<p+t)&&decide (p<o+s)
theorem jj {o s p t:Int}:jO o s p t=true↔(0<=o/\0<=s/\o+s<=2147483647)/\(0<=p/\0<=t/\p+t<=2147483647)/\0<s/\0<t/\o<p+t/\p<o+s:=by
 simp[jO,et,and_assoc]
def a9 (o s n:Int):Bool:=dY o s&&decide (o+s<=n)
def jW (us:List (Int×Int)) (fr size a x:Int):Prop:=fr<=x/\a∣x/\x+size<=2147483647/\∀u∈us,jO u.1 u.2 x size=false
def qz (us:List (Int×Int)) (fr size a:Int):Bool:=cR fr&&cR size&&aR a&&us.all fun u=>dY u.1 u.2
def sI (us:List (Int×Int)) (fr size a v e:Int):Prop:=
 (qz us fr size a=false/\v=0/\e=4) \/
 (qz us fr size a=true/\((jW us fr size a v/\(∀x,jW us fr size a x->v<=x)/\e=0)\/((∀x,¬jW us fr size a x)/\v=0/\e=9)))
theorem sI.one {us:List (Int×Int)} {fr size a v e v' e':Int} (h:sI us fr size a v e) (h':sI us fr size a v' e'):v=v'/\e=e':=by
 rcases h with⟨h1,rfl,rfl⟩|⟨h1,h⟩<;>rcases h' with⟨h2,rfl,rfl⟩|⟨h2,h'⟩
 ·exact⟨rfl,rfl⟩
 ·rw[h1] at h2;cases h2
 ·rw[h1] at h2;cases h2
 ·rcases h with⟨f,l,rfl⟩|⟨n,rfl,rfl⟩<;>rcases h' with⟨f',l',rfl⟩|⟨n',rfl,rfl⟩
  ·exact⟨Int.le_antisymm (l _ f') (l' _ f),rfl⟩
  ·exact absurd f (n' _)
  ·exact absurd f' (n _)
  ·exact⟨rfl,rfl⟩
section
variable {us done:List (Int×Int)} {fr size a x:Int}
def js (us done:List (Int×Int)) (fr size a x:Int):Prop:=
 fr<=x/\a∣x/\x<=2147483647/\(∀y,jW us fr size a y->x<=y)/\(x+size<=2147483647->∀u∈done,jO u.1 u.2 x size=false)
theorem js.start (ha:0<a) (h:upM fr a<=2147483647):js us [] fr size a (upM fr a):=
 ⟨(fz fr ha).1,ja fr a,h,fun _ hy=>kN ha hy.2.1 hy.1,fun _ u hu=>by cases hu⟩
theorem js.none_ (ha:0<a) (hs:0<=size) (h:2147483647<upM fr a) (y:Int):¬jW us fr size a y:=fun hy=>by
 have:=kN ha hy.2.1 hy.1
 have:=hy.2.2.1
 omega
theorem js.skip {u:Int×Int} (h:js us done fr size a x) (hu:jO u.1 u.2 x size=false):js us (done++[u]) fr size a x:=
 ⟨h.1,h.2.1,h.2.2.1,h.2.2.2.1,fun hx v hv=>by
  rcases List.mem_append.1 hv with hv|hv
  ·exact h.2.2.2.2 hx v hv
  ·simp at hv;subst hv;exact hu⟩
theorem js.beyond {u:Int×Int} (h:js us done fr size a x) (ha:0<a) (hm:u∈us) (hu:jO u.1 u.2 x size=true) (y:Int) (hy:jW us fr size a y):upM (u.1+u.2) a<=y:=by
 have h1:=h.2.2.2.1 y hy
 have h2:=hy.2.2.2 u hm
 have h3:=hy.2.2.1
 rw[jj] at hu
 refine kN ha hy.2.1 ?_
 rcases Int.lt_or_le y (u.1+u.2) with hl|hl
 ·have:jO u.1 u.2 y size=true:=by rw[jj];omega
  rw[h2] at this;cases this
 ·exact hl
theorem js.move {u:Int×Int} (h:js us done fr size a x) (ha:0<a) (hm:u∈us) (hu:jO u.1 u.2 x size=true) (hd:∀v∈done,v.1<=u.1) (hx:upM (u.1+u.2) a<=2147483647) :
  js us (done++[u]) fr size a (upM (u.1+u.2) a):=by
 have hb:=fz (u.1+u.2) ha
 have ho:=hu
 rw[jj] at ho
 have h0:=h.1
 refine⟨by omega,ja _ _,hx,h.beyond ha hm hu,fun hs v hv=>?_⟩
 cases e:jO v.1 v.2 (upM (u.1+u.2) a) size with
 | false=>rfl
 | true=>
  rw[jj] at e
  rcases List.mem_append.1 hv with hv|hv
  ·have h1:=h.2.2.2.2 (by omega) v hv
   have h2:=hd v hv
   have:jO v.1 v.2 x size=true:=by rw[jj];omega
   rw[h1] at this;cases this
  ·simp at hv;subst hv;omega
def ml (us:List (Int×Int)) (fr:Int) (k:Nat):Int:=if k=0 then fr else max fr ((us.getD (k-1) (0,0)).1+(us.getD (k-1) (0,0)).2)
def jw (us:List (Int×Int)) (fr size a:Int) (k:Nat) (b:Int) (f:Bool):Prop:=
 (f=true->jW us fr size a b)/\∀j,j<k->jW us fr size a (upM (ml us fr j) a)->f=true/\b<=upM (ml us fr j) a
theorem jw.start:jw us fr size a 0 0 false:=⟨(fun h=>by cases h),fun j hj=>by omega⟩
theorem jw.skip {k:Nat} {b:Int} {f:Bool} (h:jw us fr size a k b f) (hn:¬jW us fr size a (upM (ml us fr k) a)):jw us fr size a (k+1) b f:=
 ⟨h.1,fun j hj hF=>by
  by_cases e:j=k
  ·subst e;exact absurd hF hn
  ·exact h.2 j (by omega) hF⟩
theorem jw.keep {k:Nat} {b:Int} {f:Bool} (h:jw us fr size a k b f) (hf:f=true) (hb:b<=upM (ml us fr k) a):jw us fr size a (k+1) b f:=
 ⟨h.1,fun j hj hF=>by
  by_cases e:j=k
  ·subst e;exact⟨hf,hb⟩
  ·exact h.2 j (by omega) hF⟩
theorem jw.take {k:Nat} {b:Int} {f:Bool} (h:jw us fr size a k b f) (hF:jW us fr size a (upM (ml us fr k) a)) (hb:f=false\/upM (ml us fr k) a<=b):jw us fr size a (k+1) (upM (ml us fr k) a) true:=
 ⟨fun _=>hF,fun j hj hG=>by
  by_cases e:j=k
  ·subst e;exact⟨rfl,Int.le_refl _⟩
  ·obtain⟨h1,h2⟩:=h.2 j (by omega) hG
   rcases hb with hb|hb
   ·rw[h1] at hb;cases hb
   ·exact⟨rfl,by omega⟩⟩
end
theorem fP {a b c d:Int} (h:a=b) (h':c=d):Ending.returned (.tuple #[.int .i64 a,.int .i64 c])=.returned (.tuple #[.int .i64 b,.int .i64 d]):=by rw[h,h']
def isI (n:Int):Prop:=-9223372036854775808<=n/\n<=9223372036854775807
def szB (n:Int):Bool:=decide (n=1\/n=2\/n=4\/n=8\/n=16)
def cH (s a:Int):Bool:=szB s&&aR a
def dh (l:List (Int×Int)):Int:=if 512<l.length then 3 else if l.any (fun u=>!cH u.1 u.2) then 5 else 0
theorem pT {l:List (Int×Int)} (h:512<l.length):dh l=3:=by simp[dh,h]
theorem kl {l:List (Int×Int)} (h:l.length<=512):dh l=if l.any (fun u=>!cH u.1 u.2) then 5 else 0:=by simp only[dh];rw[if_neg (by omega)]
def alM (l:List (Int×Int)) (k:Nat):Int:=(l.take k).foldl (fun m u=>max m u.2) 16
theorem xm (l:List (Int×Int)):alM l 0=16:=rfl
theorem pF (l:List (Int×Int)) (k:Nat) (hk:k<l.length):alM l (k+1)=max (alM l k) l[k].2:=by
 unfold alM
 rw[List.take_add_one,List.getElem?_eq_getElem hk,List.foldl_append]
 rfl
def gh (l:List (Int×Int)):Int:=if dh l=0 then alM l l.length else 16
theorem zl {l:List (Int×Int)} {p:Int×Int->Bool} {k:Nat} (hk:k<l.length) (h:p l[k]=true):l.any p=true:=List.any_eq_true.2 ⟨l[k],List.getElem_mem hk,h⟩
theorem xl {l:List (Int×Int)} {p:Int×Int->Bool} (h:∀j (hj:j<l.length),p l[j]=false):l.any p=false:=by
 rw[List.any_eq_false]
 intro x hx
 obtain⟨j,hj,rfl⟩:=List.getElem_of_mem hx
 rw[h j hj]
 simp
structure Ins where
 op:Int
 a:Int
 b:Int
 c:Int
 imm:Int
structure Fn where
 params:Int
 slots:List (Int×Int)
 code:List Ins
abbrev Pg:=List Fn
def cC:List Int->Int
 | []=>0
 | e::r=>if e=0 then cC r else e
theorem du {l:List Int}:cC l=0↔∀e∈l,e=0:=by
 induction l with
 | nil=>simp[cC]
 | cons e r ih=>
  by_cases h:e=0
  ·simp[cC,h,ih]
  ·simp[cC,h]
theorem kC {l:List Int} {k:Nat} {e:Int} (hk:l[k]?=some e) (he:e≠0) (hb:∀j,j<k->l[j]?=some 0):cC l=e:=by
 induction l generalizing k with
 | nil=>simp at hk
 | cons x r ih=>
  cases k with
  | zero=>simp at hk;subst hk;simp[cC,he]
  | succ k=>
   have h0:=hb 0 (by omega)
   simp at h0
   subst h0
   simp only[cC,if_true]
   exact ih (k:=k) (by simpa using hk) fun j hj=>by have:=hb (j+1) (by omega);simpa using this
def shp:List (Int×Int×Int×Bool):=
  [(1,0,0,true),(1,1,0,false),(1,1,1,false),(1,1,1,false),(1,1,1,false),(1,1,1,false),(1,1,1,false),(1,1,1,false),(1,1,1,false),(1,1,1,false),(1,1,1,false),(1,1,1,false),
   (1,1,0,false),(1,0,0,false),(1,0,0,false),(1,2,0,false),(2,1,0,false),(2,2,0,false),(4,1,0,false),(1,5,0,false),(6,0,0,false),(1,6,0,false),(3,0,0,false),(0,0,0,false),(0,0,0,true)]
def dC (op:Int):Int×Int×Int×Bool:=shp.getD op.toNat (0,0,0,false)
def kE (N:Nat) (f:Fn) (k:Int):Int:=if k=1 then 8 else if k=2 then f.slots.length else if k=3 then N else if k=4 then 8 else if k=5 then f.params else if k=6 then f.code.length else 1
def ax (n m:Int):Bool:=decide (0<=n)&&decide (n<m)
theorem ai {n m:Int}:ax n m=true↔0<=n/\n<m:=by simp[ax]
theorem fZ {n m:Int}:ax n m=false↔¬(0<=n/\n<m):=by rw[<-ai];simp
def eE (N:Nat) (f:Fn) (k n:Int):Int:=if ax n (kE N f k) then 0 else if k=0 then 2 else if k=6 then 6 else 4
theorem jP (N:Nat) (f:Fn) (k n:Int):eE N f k n=0\/eE N f k n=2\/eE N f k n=4\/eE N f k n=6:=by unfold eE;(repeat' split)<;>simp
theorem fR {N:Nat} {f:Fn} {k n:Int}:eE N f k n=0↔ax n (kE N f k)=true:=by
 unfold eE
 by_cases h:ax n (kE N f k)=true
 ·simp[h]
 ·simp only[Bool.not_eq_true] at h
  simp only[h]
  (repeat' split)<;>simp_all
def fH (e1 e2 e3:Int) (m:Bool) (imm:Int):List Int:=[e1,e2,e3]++(if m=false/\imm≠0 then[2] else[])
def tT (N:Nat) (f:Fn) (x:Ins):List Int:=fH (eE N f (dC x.op).1 x.a) (eE N f (dC x.op).2.1 x.b) (eE N f (dC x.op).2.2.1 x.c) (dC x.op).2.2.2 x.imm
def ol (l:List Int) (size:Bool):Int:=if l.contains 2 then 2 else if l.contains 4 then 4 else if size then 5 else if l.contains 6 then 6 else 0
theorem ru {e1 e2 e3 imm:Int} {m size:Bool} (c1:e1=0\/e1=2\/e1=4\/e1=6) (c2:e2=0\/e2=2\/e2=4\/e2=6) (c3:e3=0\/e3=2\/e3=4\/e3=6) :
  ol (fH e1 e2 e3 m imm) size=0↔e1=0/\e2=0/\e3=0/\(m=true\/imm=0)/\size=false:=by
 have hi:(m=true\/imm=0)↔¬(m=false/\imm≠0):=by cases m<;>simp
 rw[hi]
 unfold fH
 by_cases h:m=false/\imm≠0
 ·rw[if_pos h]
  simp[ol,h]
 ·rw[if_neg h]
  clear hi
  cases size<;>rcases c1 with rfl|rfl|rfl|rfl<;>rcases c2 with rfl|rfl|rfl|rfl<;>rcases c3 with rfl|rfl|rfl|rfl<;>simp[ol,h]
def bU (l:List (Int×Int)) (k:Int):Int:=(l.getD k.toNat (0,0)).1
def jb (f:Fn) (x:Ins):Bool:=decide (x.op=17)&&!decide (bU f.slots x.a=bU f.slots x.b)
def eK (N:Nat) (f:Fn) (x:Ins):Int:=if ax x.op 25=false then 4 else ol (tT N f x) (jb f x)
def em (op:Int):Bool:=op==20||op==23||op==24
def cB (l:List Ins):Bool:=match l.getLast? with
 | none=>false
 | some x=>em x.op
def fnE (N:Nat) (f:Fn):Int:=
 if 1024<f.code.length then 3
 else if dh f.slots≠0 then dh f.slots
 else if ax f.params 9=false then 4
 else if cC (f.code.map (eK N f))≠0 then cC (f.code.map (eK N f))
 else if cB f.code=false then 6 else 0
def pgE (F:Pg):Int:=
 if 80<F.length then 3
 else match F with
  | []=>4
  | f::_=>if f.params≠0 then 7 else cC (F.map (fnE F.length))
theorem jE {N:Nat} {f:Fn} {x:Ins}:eK N f x=0↔(0<=x.op/\x.op<25)/\eE N f (dC x.op).1 x.a=0/\eE N f (dC x.op).2.1 x.b=0/\eE N f (dC x.op).2.2.1 x.c=0/\((dC x.op).2.2.2=true\/x.imm=0)/\jb f x=false:=by
 unfold eK
 have h:=ru (imm:=x.imm) (m:=(dC x.op).2.2.2) (size:=jb f x) (jP N f (dC x.op).1 x.a) (jP N f (dC x.op).2.1 x.b) (jP N f (dC x.op).2.2.1 x.c)
 by_cases ho:ax x.op 25=true
 ·rw[if_neg (by simp[ho])]
  exact⟨fun e=>⟨ai.1 ho,h.1 e⟩,fun e=>h.2 e.2⟩
 ·rw[if_pos (by simpa using ho)]
  exact⟨(fun e=>absurd e (by decide)),fun e=>absurd (ai.2 e.1) ho⟩
theorem eW {N:Nat} {f:Fn}:fnE N f=0↔f.code.length<=1024/\dh f.slots=0/\(0<=f.params/\f.params<=8)/\(∀x∈f.code,eK N f x=0)/\cB f.code=true:=by
 unfold fnE
 have hf:=@du (f.code.map (eK N f))
 simp only[List.mem_map,forall_exists_index,and_imp,forall_apply_eq_imp_iff₂] at hf
 by_cases h1:1024<f.code.length
 ·rw[if_pos h1];simp;omega
 ·rw[if_neg h1]
  by_cases h2:dh f.slots=0
  ·rw[if_neg (by simpa using h2)]
   by_cases h3:ax f.params 9=true
   ·have h3':=ai.1 h3
    rw[if_neg (by simp[h3])]
    by_cases h4:cC (f.code.map (eK N f))=0
    ·rw[if_neg (by simpa using h4)]
     have h4':=hf.1 h4
     by_cases h5:cB f.code=true
     ·rw[if_neg (by simp[h5])]
      exact⟨fun _=>⟨by omega,h2,by omega,h4',h5⟩,fun _=>rfl⟩
     ·rw[if_pos (by simpa using h5)]
      exact⟨fun h=>by simp at h,fun h=>absurd h.2.2.2.2 h5⟩
    ·rw[if_pos (by simpa using h4)]
     exact⟨fun h=>absurd h h4,fun h=>absurd (hf.2 h.2.2.2.1) h4⟩
   ·have h3':=fZ.1 (by simpa using h3)
    rw[if_pos (by simpa using h3)]
    exact⟨fun h=>by simp at h,fun h=>absurd ⟨h.2.2.1.1,by omega⟩ h3'⟩
  ·rw[if_pos (by simpa using h2)]
   exact⟨fun h=>absurd h h2,fun h=>absurd h.2.1 h2⟩
theorem jh {F:Pg}:pgE F=0↔F.length<=80/\(∃f r,F=f::r/\f.params=0)/\∀f∈F,fnE F.length f=0:=by
 unfold pgE
 have hf:=@du (F.map (fnE F.length))
 simp only[List.mem_map,forall_exists_index,and_imp,forall_apply_eq_imp_iff₂] at hf
 by_cases h1:80<F.length
 ·rw[if_pos h1]
  exact⟨fun h=>by simp at h,fun h=>absurd h.1 (by omega)⟩
 ·rw[if_neg h1]
  cases F with
  | nil=>simp
  | cons f r=>
   simp only
   by_cases h2:f.params=0
   ·rw[if_neg (by simpa using h2)]
    exact⟨fun h=>⟨by omega,⟨f,r,rfl,h2⟩,hf.1 h⟩,fun h=>hf.2 h.2.2⟩
   ·rw[if_pos h2]
    refine⟨fun h=>by simp at h,fun h=>?_⟩
    obtain⟨_,⟨g,s,he,hg⟩,_⟩:=h
    injection he with e1 e2
    subst e1
    exact absurd hg h2
theorem wj {l:List Ins} {k:Nat} {x:Ins} (h:cB l=true) (hx:l[k]?=some x) (ht:em x.op=false):k+1<l.length:=by
 have hk:=(List.getElem?_eq_some_iff.1 hx).1
 rcases Nat.lt_or_ge (k+1) l.length with h1|h1
 ·exact h1
 ·exfalso
  unfold cB at h
  have:l.getLast?=some x:=by rw[List.getLast?_eq_getElem?,show l.length-1=k by omega];exact hx
  rw[this] at h
  dsimp only at h
  rw[h] at ht
  cases ht
theorem jT {l:List Ins} (h:cB l=true):1<=l.length:=by
 cases l with
 | nil=>cases h
 | cons a r=>simp
section
variable {α:Type} {f:α->List Value} {m:Nat}
theorem jl (hm:∀a,(f a).length=m) (l:List α):(l.flatMap f).length=l.length*m:=by
 induction l with
 | nil=>simp
 | cons b r ih=>simp only[List.flatMap_cons,List.length_append,List.length_cons,ih,hm b];rw[Nat.add_mul];omega
theorem fs (hm:∀a,(f a).length=m) (l:List α) (k:Nat) (a:α) (h:l[k]?=some a) (j:Nat) (hj:j<m):(l.flatMap f)[k*m+j]?=(f a)[j]?:=by
 induction l generalizing k with
 | nil=>simp at h
 | cons b r ih=>
  rw[List.flatMap_cons]
  cases k with
  | zero=>
   simp at h;subst h
   rw[Nat.zero_mul,Nat.zero_add,List.getElem?_append_left (by rw[hm];exact hj)]
  | succ k=>
   rw[List.getElem?_append_right (by rw[hm,Nat.add_mul];omega),hm b,show(k+1)*m+j-m=k*m+j by rw[Nat.add_mul];omega]
   exact ih k (by simpa using h)
theorem eh (hm:∀a,(f a).length=m) (l:List α) (k:Nat) (a b:α) (h:l[k]?=some a) (j:Nat) (hj:j<m) (v:Value) (hb:f b=(f a).set j v):(l.flatMap f).set (k*m+j) v=(l.set k b).flatMap f:=by
 induction l generalizing k with
 | nil=>simp at h
 | cons c r ih=>
  rw[List.flatMap_cons]
  cases k with
  | zero=>
   simp at h;subst h
   rw[Nat.zero_mul,Nat.zero_add,List.set_append_left _ _ (by rw[hm];exact hj),List.set_cons_zero,List.flatMap_cons,hb]
  | succ k=>
   rw[List.set_append_right _ _ (by rw[hm,Nat.add_mul];omega),hm c,show(k+1)*m+j-m=k*m+j by rw[Nat.add_mul];omega,List.set_cons_succ,List.flatMap_cons,ih k (by simpa using h)]
end
abbrev iv (o a b c m:Int):Value:=.agg #[.int .i64 o,.int .i64 a,.int .i64 b,.int .i64 c,.int .u64 m]
abbrev fv (P:Int) (A1:Option Addr) (n1 c1:Nat) (A2:Option Addr) (n2 c2:Nat):Value:=.agg #[.int .i64 P,.slice A1 n1 c1,.slice A2 n2 c2]
abbrev gv (A:Option Addr) (n c:Nat):Value:=.agg #[.slice A n c]
def mV (x:Ins):List Value:=[.int .i64 x.op,.int .i64 x.a,.int .i64 x.b,.int .i64 x.c,.int .u64 x.imm]
def au (l:List Ins):List Value:=l.flatMap mV
theorem dx (x:Ins):(mV x).length=5:=rfl
theorem iV (l:List Ins):(au l).length=l.length*5:=jl dx l
theorem dL (l m:List Ins):au (l++m)=au l++au m:=by simp[au]
theorem ky (x:Ins):au [x]=[.int .i64 x.op,.int .i64 x.a,.int .i64 x.b,.int .i64 x.c,.int .u64 x.imm]:=rfl
theorem eL (l:List Ins):∀v∈au l,v.oneCell'=true:=by
 intro v hv
 simp only[au,List.mem_flatMap] at hv
 obtain⟨x,_,hv⟩:=hv
 simp[mV] at hv
 rcases hv with rfl|rfl|rfl|rfl|rfl<;>rfl
structure Hd where
 p:Int
 a1:Option Addr
 n1:Nat
 c1:Nat
 a2:Option Addr
 n2:Nat
 c2:Nat
def fT (h:Hd):List Value:=[.int .i64 h.p,.slice h.a1 h.n1 h.c1,.slice h.a2 h.n2 h.c2]
def ef (l:List Hd):List Value:=l.flatMap fT
theorem nQ (h:Hd):(fT h).length=3:=rfl
theorem od (l:List Hd):(ef l).length=l.length*3:=jl nQ l
theorem oe (l m:List Hd):ef (l++m)=ef l++ef m:=by simp[ef]
theorem j5 (l:List Hd):∀v∈ef l,v.oneCell'=true:=by
 intro v hv
 simp only[ef,List.mem_flatMap] at hv
 obtain⟨x,_,hv⟩:=hv
 simp[fT] at hv
 rcases hv with rfl|rfl|rfl<;>rfl
def Far (lo:Nat) (A:Option Addr):Prop:=∀a,A=some a->lo<=a.block
theorem Far.zero (A:Option Addr):Far 0 A:=fun _ _=>Nat.zero_le _
theorem Far.more {lo lo':Nat} {A:Option Addr} (h:Far lo A) (hl:lo'<=lo):Far lo' A:=fun a e=>Nat.le_trans hl (h a e)
theorem Far.none (lo:Nat):Far lo none:=fun _ e=>by cases e
theorem an.keepF {w w':World} {lo B:Nat} {A:Option Addr} {xs:List Value} (h:an w B A xs) (hf:Far lo A) (hk:∀p:Addr,lo<=p.block->p.block<B->w'.cell? p=w.cell? p):an w' B A xs:=fun k u hu=>by
 obtain⟨b,off,e,hb,hc⟩:=h k u hu
 have hl:lo<=b:=hf _ e
 exact⟨b,off,e,hb,(hk ⟨b,off+k,.none⟩ hl hb).trans hc⟩
def Cap (A:Option Addr) (n c:Nat):Prop:=(A=none->c=0)/\n<=c/\n<=8796093022208
structure HdAt (w:World) (lo B:Nat) (h:Hd) (f:Fn):Prop where
 p:h.p=f.params
 l1:f.slots.length=h.n1
 l2:f.code.length=h.n2
 k1:Cap h.a1 h.n1 h.c1
 k2:Cap h.a2 h.n2 h.c2
 f1:Far lo h.a1
 f2:Far lo h.a2
 s1:an w B h.a1 (bm f.slots)
 s2:an w B h.a2 (au f.code)
structure Hds (w:World) (lo B:Nat) (hs:List Hd) (F:Pg):Prop where
 len:hs.length=F.length
 at_:∀(k:Nat) (h:Hd) (f:Fn),hs[k]?=some h->F[k]?=some f->HdAt w lo B h f
structure PgAt (w:World) (lo B:Nat) (A:Option Addr) (n c:Nat) (hs:List Hd) (F:Pg):Prop where
 len:F.length=n
 cap:Cap A n c
 far:Far lo A
 see:an w B A (ef hs)
 hd:Hds w lo B hs F
section
variable {w w':World} {lo lo' B B':Nat} {h:Hd} {f:Fn} {hs:List Hd} {F:Pg} {A:Option Addr} {n c:Nat}
theorem HdAt.keep (H:HdAt w lo B h f) (hk:∀p:Addr,lo<=p.block->p.block<B->w'.cell? p=w.cell? p):HdAt w' lo B h f:=⟨H.p,H.l1,H.l2,H.k1,H.k2,H.f1,H.f2,H.s1.keepF H.f1 hk,H.s2.keepF H.f2 hk⟩
theorem HdAt.more (H:HdAt w lo B h f) (hB:B<=B') (hl:lo'<=lo):HdAt w lo' B' h f:=⟨H.p,H.l1,H.l2,H.k1,H.k2,H.f1.more hl,H.f2.more hl,H.s1.more hB,H.s2.more hB⟩
theorem Hds.keep (H:Hds w lo B hs F) (hk:∀p:Addr,lo<=p.block->p.block<B->w'.cell? p=w.cell? p):Hds w' lo B hs F:=⟨H.len,fun k h f e1 e2=>(H.at_ k h f e1 e2).keep hk⟩
theorem Hds.more (H:Hds w lo B hs F) (hB:B<=B') (hl:lo'<=lo):Hds w lo' B' hs F:=⟨H.len,fun k h f e1 e2=>(H.at_ k h f e1 e2).more hB hl⟩
theorem PgAt.keep (H:PgAt w lo B A n c hs F) (hk:∀p:Addr,lo<=p.block->p.block<B->w'.cell? p=w.cell? p):PgAt w' lo B A n c hs F:=⟨H.len,H.cap,H.far,H.see.keepF H.far hk,H.hd.keep hk⟩
theorem PgAt.more (H:PgAt w lo B A n c hs F) (hB:B<=B') (hl:lo'<=lo):PgAt w lo' B' A n c hs F:=⟨H.len,H.cap,H.far.more hl,H.see.more hB,H.hd.more hB hl⟩
theorem PgAt.below (H:PgAt w lo B A n c hs F) (hb:Below B w w'):PgAt w' lo B A n c hs F:=H.keep fun _ _ hp=>hb.cell hp
theorem PgAt.call (H:PgAt w lo w.heap.size A n c hs F) (hb:Below w.heap.size w w'):PgAt w' lo w'.heap.size A n c hs F:=(H.below hb).more hb.size (Nat.le_refl _)
theorem PgAt.drewN (H:PgAt w lo B A n c hs F) (k:Nat):PgAt (w.drewN k) lo B A n c hs F:=H.keep fun _ _ _=>rfl
theorem PgAt.alloc (H:PgAt w lo w.heap.size A n c hs F) (o:Obj):PgAt (w.alloc o) lo (w.alloc o).heap.size A n c hs F:=H.call (ag w o)
theorem PgAt.grown {g:Nat} (H:PgAt w lo B A n c hs F) (hg:w.grownBy w' (some g)) (hlo:g<lo) (hB:B<=w.heap.size):PgAt w' lo B A n c hs F:=
 H.keep fun p h1 h2=>World.cell?_of_block (hg.block p.block (by omega) (fun e=>by injection e with e;omega))
theorem HdAt.below (H:HdAt w lo B h f) (hb:Below B w w'):HdAt w' lo B h f:=H.keep fun _ _ hp=>hb.cell hp
theorem HdAt.grown {g:Nat} (H:HdAt w lo B h f) (hg:w.grownBy w' (some g)) (hlo:g<lo) (hB:B<=w.heap.size):HdAt w' lo B h f:=
 H.keep fun p h1 h2=>World.cell?_of_block (hg.block p.block (by omega) (fun e=>by injection e with e;omega))
theorem ee {l:List Ins} {k:Nat} (h:an w B A (au l)) (hk:k<l.length) :
  ∃b off,A=some ⟨b,off,none⟩/\b<B/\w.cell? ⟨b,off+k*5,none⟩=some (.int .i64 l[k].op)/\w.cell? ⟨b,off+k*5+1,none⟩=some (.int .i64 l[k].a)/\w.cell? ⟨b,off+k*5+2,none⟩=some (.int .i64 l[k].b) /\
   w.cell? ⟨b,off+k*5+3,none⟩=some (.int .i64 l[k].c)/\w.cell? ⟨b,off+k*5+4,none⟩=some (.int .u64 l[k].imm):=by
 have hx:=List.getElem?_eq_getElem hk
 have g:=fun j hj=>fs dx l k _ hx j hj
 obtain⟨b,off,e,hb,h0⟩:=h _ _ (g 0 (by omega))
 obtain⟨b1,o1,e1,_,h1⟩:=h _ _ (g 1 (by omega))
 obtain⟨b2,o2,e2,_,h2⟩:=h _ _ (g 2 (by omega))
 obtain⟨b3,o3,e3,_,h3⟩:=h _ _ (g 3 (by omega))
 obtain⟨b4,o4,e4,_,h4⟩:=h _ _ (g 4 (by omega))
 subst e
 injection e1 with e1;injection e1 with x1 y1;subst x1 y1
 injection e2 with e2;injection e2 with x2 y2;subst x2 y2
 injection e3 with e3;injection e3 with x3 y3;subst x3 y3
 injection e4 with e4;injection e4 with x4 y4;subst x4 y4
 exact⟨b,off,rfl,hb,h0,h1,h2,h3,h4⟩
theorem Be {l:List Hd} {k:Nat} (h:an w B A (ef l)) (hk:k<l.length) :
  ∃b off,A=some ⟨b,off,none⟩/\b<B/\w.cell? ⟨b,off+k*3,none⟩=some (.int .i64 l[k].p)/\w.cell? ⟨b,off+k*3+1,none⟩=some (.slice l[k].a1 l[k].n1 l[k].c1)/\w.cell? ⟨b,off+k*3+2,none⟩=some (.slice l[k].a2 l[k].n2 l[k].c2):=by
 have hx:=List.getElem?_eq_getElem hk
 have g:=fun j hj=>fs nQ l k _ hx j hj
 obtain⟨b,off,e,hb,h0⟩:=h _ _ (g 0 (by omega))
 obtain⟨b1,o1,e1,_,h1⟩:=h _ _ (g 1 (by omega))
 obtain⟨b2,o2,e2,_,h2⟩:=h _ _ (g 2 (by omega))
 subst e
 injection e1 with e1;injection e1 with x1 y1;subst x1 y1
 injection e2 with e2;injection e2 with x2 y2;subst x2 y2
 exact⟨b,off,rfl,hb,h0,h1,h2⟩
theorem lC {k:Nat} (H:PgAt w lo B A n c hs F) (hk:k<n) :
  ∃(b off:Nat) (P:Int) (A1:Option Addr) (n1 c1:Nat) (A2:Option Addr) (n2 c2:Nat) (f:Fn),A=some ⟨b,off,none⟩/\b<B/\F[k]?=some f/\hs[k]?=some ⟨P,A1,n1,c1,A2,n2,c2⟩/\HdAt w lo B ⟨P,A1,n1,c1,A2,n2,c2⟩ f /\
   w.cell? ⟨b,off+k*3,none⟩=some (.int .i64 P)/\w.cell? ⟨b,off+k*3+1,none⟩=some (.slice A1 n1 c1)/\w.cell? ⟨b,off+k*3+2,none⟩=some (.slice A2 n2 c2):=by
 have h1:k<F.length:=by rw[H.len];exact hk
 have h2:k<hs.length:=by rw[H.hd.len];exact h1
 obtain⟨b,off,e,hb,c0,c1,c2⟩:=Be H.see h2
 exact⟨b,off,_,_,_,_,_,_,_,F[k],e,hb,List.getElem?_eq_getElem h1,List.getElem?_eq_getElem h2,H.hd.at_ k _ _ (List.getElem?_eq_getElem h2) (List.getElem?_eq_getElem h1),c0,c1,c2⟩
end
theorem m9 {A:Option Addr} {n c:Nat} (h:Cap A n c):n<=4611686018427387904:=by have:=h.2.1;have:=h.2.2;omega
theorem fw {B:Nat} {a w:World} (h:Below B a w) (k:Nat):Below B a (w.drewN k):=am h k
theorem gL (w:World) (o:Obj) {k:Nat} (h:k=w.heap.size):(w.alloc o).heap[k]?=some o:=by subst h;exact heap_alloc_new w o
theorem bE {P:Program} {w:World} {ops:Array Oper} {rest:List Oper} {o:Oper} {a:Act} {Q:Exit->Act->World->Prop} (hgd:o.guard=none) (s x:Operand) (t:TypeId)
  (ho:o.op=.call { callee:=.builtin .append,args:=#[s,x],argTypes:=#[t,t] })
  (base:Nat) (e:TypeId) (i:TypeInfo) (z:Value) (size bytes:Nat) (ht:P.underlying t=some (.slice e)) (hi:P.info? e=some i) (hz:i.zero=some z)
  (hsize:i.size=size) (hby:i.bytes=bytes) (hzs:z.cells.size=size) (hsz:0<size)
  (v:Value) (n:Nat) (xs:List Value) (hs:a.eval s=v) (hown:w.ownsRow base e size v n xs)
  (B:Nat) (A:Option Addr) (m c:Nat) (news:List Value) (hx:a.eval x=.slice A m c) (hA:Hid (A=none->c=0)) (hl:Hid (news.length=m*size)) (hsee:Hid (an w B A news)) (hmc:Hid (m<=c)) (h1:∀u∈news,u.oneCell'=true)
  (h63:n+m<=maxLen) (hbytes:(n+m)*bytes<=140737488355328) (hbase:base<=w.heap.size)
  (h:∀v' w',w'.ownsRow base e size v' (n+m) (xs++news)->w.grownBy w' v.ownBlock->wpList P ops Q rest (a.put o.dst v') w'):wpList P ops Q (o::rest) a w:=by
 have hl:=hl.out
 have hmc:=hmc.out
 rcases A with _|ad
 ·have hc:=hA.out rfl
  have hm:m=0:=by omega
  subst hm hc
  have hn:news=[]:=List.eq_nil_of_length_eq_zero (by omega)
  subst hn
  exact wpList_append_own_none hgd s x t ho base e i size ht hi v n xs hs hown hx (h v w (by simpa using hown) (World.grownBy.refl w _))
 ·refine wpList_append_own w hgd s x t ho base e i z size bytes ht hi hz hsize hby hzs hsz v n xs hs hown ad m c news hx hl (fun j u hu=>?_) h1 h63 hbytes hbase (fun v' w' h2 h3 _=>h v' w' h2 h3)
  rcases Nat.lt_or_ge 0 news.length with hp|hp
  ·obtain⟨ad',he,hc⟩:=hsee.out.src hp
   injection he with he
   subst he
   exact hc j u hu
  ·have:news=[]:=List.eq_nil_of_length_eq_zero (by omega)
   subst this
   simp at hu
section
variable {w w':World} {base:Nat} {e:TypeId} {size n:Nat} {v:Value} {xs:List Value}
theorem aW (h:w.ownsRow base e size v n xs):∃A c,v=.slice A n c/\(A=none->c=0)/\n<=c/\Far base A/\an w w.heap.size A xs:=by
 obtain⟨A,c,rfl,hA,hm⟩:=bX h
 refine⟨A,c,rfl,hA,?_,?_,an.ownN h⟩
 ·rcases h.2 with⟨he,h0⟩|⟨g,cap,cur,he,hg,hh,hc,_⟩
  ·omega
  ·injection he with _ _ hcc;omega
 ·intro a ha
  subst ha
  rcases h.2 with⟨he,h0⟩|⟨g,cap,cur,he,hg,hh,hc,_⟩
  ·injection he with he;cases he
  ·injection he with he
   injection he with he
   subst he
   exact hg
theorem gn (h:w.ownsRow base e size v n xs) {g:Nat} (hg:g<base):some g≠v.ownBlock:=fun e=>by
 have:=(h.lt g e.symm).1
 omega
end
theorem jx {P:Program} {w:World} {o:Oper} {a:Act} {K:Act->World->Prop} {Q:Exit->Act->World->Prop} (s x:Operand) (t:TypeId)
  (ho:o.op=.call { callee:=.builtin .append,args:=#[s,x],argTypes:=#[t,t] })
  (base:Nat) (e:TypeId) (i:TypeInfo) (z:Value) (size bytes:Nat) (ht:P.underlying t=some (.slice e)) (hi:P.info? e=some i) (hz:i.zero=some z)
  (hsize:i.size=size) (hby:i.bytes=bytes) (hzs:z.cells.size=size) (hsz:0<size)
  (v:Value) (n:Nat) (xs:List Value) (hs:a.eval s=v) (hown:w.ownsRow base e size v n xs)
  (B:Nat) (A:Option Addr) (m c:Nat) (news:List Value) (hx:a.eval x=.slice A m c) (hA:Hid (A=none->c=0)) (hl:Hid (news.length=m*size)) (hsee:Hid (an w B A news)) (hmc:Hid (m<=c)) (h1:∀u∈news,u.oneCell'=true)
  (h63:n+m<=maxLen) (hbytes:(n+m)*bytes<=140737488355328) (hbase:base<=w.heap.size)
  (h:∀v' w',w'.ownsRow base e size v' (n+m) (xs++news)->w.grownBy w' v.ownBlock->K (a.put o.dst v') w'):o.wp P a w K Q:=by
 have hl:=hl.out
 have hmc:=hmc.out
 rcases A with _|ad
 ·have hc:=hA.out rfl
  have hm:m=0:=by omega
  subst hm hc
  have hn:news=[]:=List.eq_nil_of_length_eq_zero (by omega)
  subst hn
  have hrun:=run_append_owned_none (P:=P) (w:=w) base t o.type e i size ht hi v n xs hown
  unfold Oper.wp
  simp[execOp,ho,resolve,invoke,builtin,hs,hx,hrun,Result.andThen]
  exact h v w (by simpa using hown) (World.grownBy.refl w _)
 ·refine wp_append_own w s x t ho base e i z size bytes ht hi hz hsize hby hzs hsz v n xs hs hown ad m c news hx hl (fun j u hu=>?_) h1 h63 hbytes hbase (fun v' w' h2 h3 _=>h v' w' h2 h3)
  rcases Nat.lt_or_ge 0 news.length with hp|hp
  ·obtain⟨ad',he,hc⟩:=hsee.out.src hp
   injection he with he
   subst he
   exact hc j u hu
  ·have:news=[]:=List.eq_nil_of_length_eq_zero (by omega)
   subst this
   simp at hu
theorem i6 (w:World) (g k:Nat) (u:Value):w.grownBy (w.setCell ⟨g,k,none⟩ u) (some g):=⟨rfl,rfl,rfl,by simp[World.setCell],fun i _ hi=>Below.heap_setCell w ⟨g,k,none⟩ u i (fun e=>hi (by rw[e]))⟩
structure JKp (w w':World) (Bx:Nat) (v v':Value):Prop where
 os:w'.os=w.os
 tape:w'.tape=w.tape
 output:w'.output=w.output
 size:w.heap.size<=w'.heap.size
 blk:∀k,k<w.heap.size->k≠Bx->v.ownBlock≠some k->w'.heap[k]?=w.heap[k]?
 own:∀k,v'.ownBlock=some k->v.ownBlock=some k\/w.heap.size<=k
section
variable {w w' w'':World} {Bx:Nat} {v v' v'':Value}
theorem JKp.refl (w:World) (Bx:Nat) (v:Value):JKp w w Bx v v:=⟨rfl,rfl,rfl,Nat.le_refl _,fun _ _ _ _=>rfl,fun _ h=>.inl h⟩
theorem JKp.trans (h:JKp w w' Bx v v') (h':JKp w' w'' Bx v' v''):JKp w w'' Bx v v'':=
 ⟨h'.os.trans h.os,h'.tape.trans h.tape,h'.output.trans h.output,Nat.le_trans h.size h'.size,fun k hk h1 h2=>(h'.blk k (Nat.lt_of_lt_of_le hk h.size) h1 (fun e=>by
  rcases h.own k e with e|e
  ·exact h2 e
  ·omega)).trans (h.blk k hk h1 h2),fun k hk=>by
  rcases h'.own k hk with e|e
  ·exact h.own k e
  ·exact .inr (Nat.le_trans h.size e)⟩
theorem JKp.row {g t:Nat} {cs:List Value} (h:JKp w w' Bx v v') (r:Row w g t cs) (h1:g≠Bx) (h2:v.ownBlock≠some g):Row w' g t cs:=by
 unfold Row
 rw[h.blk g r.lt h1 h2]
 exact r
theorem JKp.below {B:Nat} (h:JKp w w' Bx v v') (hB:B<=w.heap.size) (h1:B<=Bx) (h2:∀k,v.ownBlock=some k->B<=k):Below B w w':=
 ⟨h.os,h.tape,h.output,h.size,fun k hk=>h.blk k (by omega) (by omega) (fun e=>by have:=h2 k e;omega)⟩
theorem JKp.of_below (h:Below w.heap.size w w') (Bx:Nat) (v:Value):JKp w w' Bx v v:=⟨h.os,h.tape,h.output,h.size,fun k hk _ _=>h.block k hk,fun _ e=>.inl e⟩
theorem JKp.of_row (h:w.grownBy w' v.ownBlock) (ho:∀k,v'.ownBlock=some k->v.ownBlock=some k\/w.heap.size<=k) (Bx:Nat):JKp w w' Bx v v':=⟨h.os,h.tape,h.output,h.size,fun k hk _ h2=>h.block k hk (fun e=>h2 e.symm),ho⟩
theorem JKp.set (w:World) (Bx k:Nat) (v u:Value):JKp w (w.setCell ⟨Bx,k,none⟩ u) Bx v v:=
 have h:=i6 w Bx k u
 ⟨h.os,h.tape,h.output,h.size,fun j hj h1 _=>h.block j hj (fun e=>h1 (by injection e)),fun _ e=>.inl e⟩
end
def iE (V:Nat):List Value:=[.int .u64 (lo V),.int .u64 (hi V)]
def ah (l:List Nat):List Value:=l.flatMap iE
theorem kM (V:Nat):(iE V).length=2:=rfl
theorem aT (l:List Nat):(ah l).length=l.length*2:=jl kM l
theorem mu (l m:List Nat):ah (l++m)=ah l++ah m:=by simp[ah]
theorem bk (l:List Nat):∀v∈ah l,v.oneCell'=true:=by
 intro v hv
 simp only[ah,List.mem_flatMap] at hv
 obtain⟨x,_,hv⟩:=hv
 simp[iE] at hv
 rcases hv with rfl|rfl<;>rfl
theorem cE {l:List Nat} {k V:Nat} (h:l[k]?=some V):(ah l)[k*2]?=some (.int .u64 (lo V))/\(ah l)[k*2+1]?=some (.int .u64 (hi V)):=
 ⟨fs kM l k V h 0 (by omega),fs kM l k V h 1 (by omega)⟩
def dM (l:List Nat):List Value:=l.map fun(v:Nat)=>.int .u64 (v:Int)
def cD (w:World) (B:Nat) (v:Value) (l:List Nat):Prop:=
 ∃A n c,v=.slice A n c/\l.length=n/\n<=c/\c<=9223372036854775807/\(A=none->c=0)/\an w B A (dM l)
section
variable {w w':World} {base:Nat}
theorem cD.below {B:Nat} {v:Value} {l:List Nat} (h:cD w B v l) (hb:Below B w w'):cD w' B v l:=by
 obtain⟨A,n,c,h1,h2,h3,h4,h5,h6⟩:=h
 exact⟨A,n,c,h1,h2,h3,h4,h5,h6.below hb⟩
theorem gA {base e size n:Nat} {v:Value} {xs:List Value} {g:Nat} {cs:Array Value} {t:TypeId} {fr:Nat×Nat} (h:w.ownsRow base e size v n xs) (hg:w.heap[g]?=some (.cells cs t fr)) (ht:t≠e):v.ownBlock=none\/v.ownBlock≠some g:=by
 rcases h.2 with⟨rfl,_⟩|⟨g',cap,cur,rfl,_,hh,_⟩
 ·exact .inl rfl
 ·refine .inr fun he=>?_
  injection he with he
  simp only at he
  rw[he,hg] at hh
  injection hh with hh
  injection hh with _ e3
  exact ht e3
theorem jC {w:World} {e size n:Nat} {v:Value} {xs:List Value} (h:w.ownsRow base e size v n xs):∃A c,v=.slice A n c:=by
 rcases h.2 with⟨rfl,rfl⟩|⟨k,cap,cur,rfl,_⟩
 ·exact⟨_,_,rfl⟩
 ·exact⟨_,_,rfl⟩
theorem cD.more {w:World} {B B':Nat} {v:Value} {l:List Nat} (h:cD w B v l) (hB:B<=B'):cD w B' v l:=by
 obtain⟨A,n,c,h1,h2,h3,h4,h5,h6⟩:=h
 exact⟨A,n,c,h1,h2,h3,h4,h5,h6.more hB⟩
theorem nK {w:World} {base base':Nat} {e:TypeId} {size n:Nat} {v:Value} {xs:List Value} (h:w.ownsRow base e size v n xs) (hb:base'<=base):w.ownsRow base' e size v n xs:=by
 refine⟨h.1,?_⟩
 rcases h.2 with h2|⟨g,cap,cur,hv,hg,hh,hr⟩
 ·exact .inl h2
 ·exact .inr ⟨g,cap,cur,hv,by omega,hh,hr⟩
theorem jN {w:World} {base:Nat} {e:TypeId} {size n:Nat} {v:Value} {xs:List Value} (h:w.ownsRow base e size v n xs):v.oneCell'=true:=by
 rcases h.2 with⟨rfl,_⟩|⟨k,cap,cur,rfl,_⟩<;>rfl
theorem rY {w:World} {B:Nat} {v:Value} {l:List Nat} (h:cD w B v l):v.oneCell'=true:=by
 obtain⟨A,n,c,rfl,_⟩:=h;rfl
end
theorem mK {w:World} {base e size k c:Nat} {A:Option Addr} {xs:List Value} (h:w.ownsRow base e size (.slice A (k+1) c) (k+1) xs):w.ownsRow base e size (.slice A k c) k (xs.take (k*size)):=by
 have hl:=h.1
 rcases h.2 with⟨e1,h0⟩|⟨G,cap,cur,hv,hb,hh,hn,hm,hs,ht⟩
 ·omega
 ·injection hv with h1 h2 h3
  subst h1 h3
  refine⟨by rw[List.length_take,hl,Nat.min_eq_left (Nat.mul_le_mul_right _ (by omega))],.inr ⟨G,c,cur,rfl,hb,hh,by omega,hm,hs,?_⟩⟩
  rw[<-ht,List.take_take,Nat.min_eq_left (Nat.mul_le_mul_right _ (by omega))]
theorem iX (V:Nat):∀(l:List Nat) (i:Nat),i<l.length->((ah l).set (i*2) (.int .u64 (lo V))).set (i*2+1) (.int .u64 (hi V))=ah (l.set i V)
 | [],i,h=>by simp at h
 | U::r,0,_=>rfl
 | U::r,i+1,h=>by
  have e:ah (U::r)=.int .u64 (lo U)::.int .u64 (hi U)::ah r:=rfl
  rw[e,show(i+1)*2=i*2+1+1 by omega,show i*2+1+1+1=(i*2+1)+1+1 by omega]
  simp only[List.set_cons_succ]
  rw[iX V r i (by simpa using h)]
  rfl
theorem n7 (V:Nat):∀u∈iE V,u.oneCell'=true:=by
 intro u hu
 simp[iE] at hu
 rcases hu with rfl|rfl<;>rfl
theorem ma {v:Int} (h:0<=v/\v<=18446744073709551615):v=lo v.toNat/\(0:Int)=hi v.toNat:=by
 unfold lo hi
 omega
theorem jB (w:World) (g k:Nat) (u:Value):w.grownBy (w.setCell ⟨g,k,none⟩ u) (some g):=⟨rfl,rfl,rfl,by simp[World.setCell],fun i _ hi=>Below.heap_setCell w ⟨g,k,none⟩ u i (fun e=>hi (by rw[e]))⟩
theorem rA (w:World) (g k k2:Nat) (u u2:Value):w.grownBy ((w.setCell ⟨g,k,none⟩ u).setCell ⟨g,k2,none⟩ u2) (some g):=World.grownBy.trans (jB w g k u) (jB _ g k2 u2)
def bt (X k:Nat):Nat:=X / 2 ^ k % 2
theorem jI (X k:Nat):bt X k<=1:=by unfold bt;omega
theorem eR (k:Nat):(2:Int) ^ k=((2 ^ k:Nat):Int):=by simp
theorem ko {k:Nat} (h:k<64):2 ^ k<18446744073709551616:=by
 rw[show(18446744073709551616:Nat)=2 ^ 64 by decide];exact Nat.pow_lt_pow_right (by omega) h
theorem ut (X k:Nat) (hk:k<64):X % 18446744073709551616 / 2 ^ k % 2=X / 2 ^ k % 2:=by
 obtain⟨j,hj⟩:∃j,64=k+(j+1):=⟨63-k,by omega⟩
 rw[show(18446744073709551616:Nat)=2 ^ 64 by decide,hj,Nat.pow_add,Nat.mod_mul_right_div_self,Nat.pow_succ,Nat.mul_comm,Nat.mod_mul_right_mod]
theorem pj (X k:Nat) (hX:X<ae) (hk:64<=k):X / 18446744073709551616 % 18446744073709551616 / 2 ^ (k-64)=X / 2 ^ k:=by
 have e:X / 18446744073709551616 % 18446744073709551616=X / 2 ^ 64:=by
  rw[show(2:Nat) ^ 64=18446744073709551616 by decide]
  unfold ae at hX;omega
 rw[e,Nat.div_div_eq_div_mul,<-Nat.pow_add,show 64+(k-64)=k by omega]
theorem AD (X k:Nat) (hk:k<64):bits .and .u64 (lo X / 2 ^ k) 1=((bt X k:Nat):Int):=by
 unfold bt
 have h:=cM X
 have hb:0<=lo X / 2 ^ k/\lo X / 2 ^ k<=18446744073709551615:=by
  unfold lo
  rw[eR,<-Int.natCast_ediv]
  have:=Nat.div_le_self (X % 18446744073709551616) (2 ^ k)
  generalize X % 18446744073709551616 / 2 ^ k=q at *
  omega
 rw[iM _ hb.1 hb.2]
 unfold lo
 rw[eR,<-Int.natCast_ediv,<-ut X k hk]
 omega
theorem AE (X k:Nat) (hX:X<ae) (hk:64<=k):bits .and .u64 (hi X / 2 ^ (k-64)) 1=((bt X k:Nat):Int):=by
 unfold bt
 have h:=cQ X
 have hb:0<=hi X / 2 ^ (k-64)/\hi X / 2 ^ (k-64)<=18446744073709551615:=by
  unfold hi
  rw[eR,<-Int.natCast_ediv]
  have:=Nat.div_le_self (X / 18446744073709551616 % 18446744073709551616) (2 ^ (k-64))
  generalize X / 18446744073709551616 % 18446744073709551616 / 2 ^ (k-64)=q at *
  omega
 rw[iM _ hb.1 hb.2]
 unfold hi
 rw[eR,<-Int.natCast_ediv,pj X k hX hk]
 omega
theorem oX (a k:Nat) (h:a / 2 ^ k % 2=0):a ||| 2 ^ k=a+2 ^ k:=by
 obtain⟨q,hq⟩:∃q,a / 2 ^ k=2*q:=⟨a / 2 ^ k / 2,by omega⟩
 have ha:a=2 ^ k*(2*q)+a % 2 ^ k:=by rw[<-hq];exact(Nat.div_add_mod a (2 ^ k)).symm
 have hr:=Nat.mod_lt a (Nat.two_pow_pos k)
 have e1:=Nat.two_pow_add_eq_or_of_lt hr (2*q)
 have e2:=Nat.two_pow_add_eq_or_of_lt hr (2*q+1)
 have e3:2 ^ k*(2*q) ||| 2 ^ k=2 ^ k*(2*q+1):=by
  rw[<-tR (2*q) 1 (by omega) (by omega)]
  have:=Nat.shiftLeft_or_distrib (a:=2*q) (b:=1) (i:=k)
  simp only[Nat.shiftLeft_eq,Nat.one_mul] at this
  rw[Nat.mul_comm (2 ^ k),Nat.mul_comm (2 ^ k)]
  exact this.symm
 calc a ||| 2 ^ k=(2 ^ k*(2*q) ||| a % 2 ^ k) ||| 2 ^ k:=by rw[<-e1,<-ha]
  _=(2 ^ k*(2*q) ||| 2 ^ k) ||| a % 2 ^ k:=by rw[Nat.or_assoc,Nat.or_comm (a % 2 ^ k),<-Nat.or_assoc]
  _=2 ^ k*(2*q+1)+a % 2 ^ k:=by rw[e3,<-e2]
  _=a+2 ^ k:=by rw[Nat.mul_add,Nat.mul_one];omega
theorem ox {k:Nat} (hk:k<64):IntKind.u64.wrap (2 ^ k)=((2 ^ k:Nat):Int):=by
 have:=ko hk
 rw[eR,IntKind.wrap_u64]
 generalize 2 ^ k=p at *
 omega
theorem kY (a k:Nat) (hk:k<64) (h:a / 2 ^ k % 2=0) (ha:a<18446744073709551616):a+2 ^ k<18446744073709551616:=by
 have e:=oX a k h
 have:=Nat.or_lt_two_pow (n:=64) (x:=a) (y:=2 ^ k) (by rw[show(2:Nat) ^ 64=18446744073709551616 by decide];exact ha) (by rw[show(2:Nat) ^ 64=18446744073709551616 by decide];exact ko hk)
 rw[show(2:Nat) ^ 64=18446744073709551616 by decide] at this
 omega
theorem zM (X k:Nat) (hk:k<64) (h:X / 2 ^ k % 2=0):bits .or .u64 (lo X) (IntKind.u64.wrap (2 ^ k))=lo (X+2 ^ k)/\hi X=hi (X+2 ^ k):=by
 have h1:X % 18446744073709551616 / 2 ^ k % 2=0:=by rw[ut X k hk];exact h
 have h2:=kY (X % 18446744073709551616) k hk h1 (by omega)
 have h3:=ko hk
 rw[ox hk]
 unfold lo hi
 rw[u64_or_nat _ _ (by omega) h3,oX _ k h1]
 generalize 2 ^ k=p at *
 constructor<;>omega
theorem zN (X k:Nat) (hX:X<ae) (hk:64<=k) (hk2:k<128) (h:X / 2 ^ k % 2=0):bits .or .u64 (hi X) (IntKind.u64.wrap (2 ^ (k-64)))=hi (X+2 ^ k)/\lo X=lo (X+2 ^ k):=by
 have h1:X / 18446744073709551616 % 18446744073709551616 / 2 ^ (k-64) % 2=0:=by rw[pj X k hX hk];exact h
 have h2:=kY (X / 18446744073709551616 % 18446744073709551616) (k-64) (by omega) h1 (by omega)
 have h3:=ko (show k-64<64 by omega)
 have e:2 ^ k=18446744073709551616*2 ^ (k-64):=by
  rw[show(18446744073709551616:Nat)=2 ^ 64 by decide,<-Nat.pow_add,show 64+(k-64)=k by omega]
 rw[ox (show k-64<64 by omega),e]
 unfold lo hi
 rw[u64_or_nat _ _ (by omega) h3,oX _ _ h1]
 generalize 2 ^ (k-64)=p at *
 constructor<;>omega
def dA (X Y k:Nat):Nat:=(X % 2 ^ k+Y % 2 ^ k) % 2 ^ k
def dd (X Y k:Nat):Nat:=(X % 2 ^ k+Y % 2 ^ k) / 2 ^ k
theorem uZ (X Y k:Nat):dd X Y k<=1:=by
 have h1:=Nat.mod_lt X (Nat.two_pow_pos k)
 have h2:=Nat.mod_lt Y (Nat.two_pow_pos k)
 unfold dd
 have:=Nat.div_lt_of_lt_mul (show X % 2 ^ k+Y % 2 ^ k<2 ^ k*2 by omega)
 omega
theorem lg (X Y k:Nat):dA X Y k<2 ^ k:=Nat.mod_lt _ (Nat.two_pow_pos k)
theorem sE (X Y k:Nat) (hk:k<128):dA X Y k<ae:=by
 have h:=lg X Y k
 have h2:2 ^ k<2 ^ 128:=Nat.pow_lt_pow_right (by omega) hk
 rw[er];omega
theorem sD (X Y k:Nat):bt (dA X Y k) k=0:=by
 unfold bt
 rw[Nat.div_eq_of_lt (lg X Y k)]
theorem xn (X Y k:Nat):dA X Y (k+1)=dA X Y k+2 ^ k*((bt X k+bt Y k+dd X Y k) % 2)/\dd X Y (k+1)=(bt X k+bt Y k+dd X Y k) / 2:=by
 have hd:=Nat.div_add_mod (X % 2 ^ k+Y % 2 ^ k) (2 ^ k)
 have hlt:=lg X Y k
 have e:X % 2 ^ (k+1)+Y % 2 ^ (k+1)=(dA X Y k+2 ^ k*((bt X k+bt Y k+dd X Y k) % 2))+2 ^ (k+1)*((bt X k+bt Y k+dd X Y k) / 2):=by
  have hs:=Nat.div_add_mod (bt X k+bt Y k+dd X Y k) 2
  rw[Nat.mod_pow_succ,Nat.mod_pow_succ,Nat.pow_succ,Nat.mul_assoc (2 ^ k) 2]
  have e2:dA X Y k+2 ^ k*((bt X k+bt Y k+dd X Y k) % 2)+2 ^ k*(2*((bt X k+bt Y k+dd X Y k) / 2))=dA X Y k+2 ^ k*(bt X k+bt Y k+dd X Y k):=by
   rw[Nat.add_assoc,<-Nat.mul_add];congr 2;omega
  rw[e2,Nat.mul_add,Nat.mul_add]
  unfold bt
  unfold dA dd at *
  omega
 have hb:dA X Y k+2 ^ k*((bt X k+bt Y k+dd X Y k) % 2)<2 ^ (k+1):=by
  rw[Nat.pow_succ]
  have:(bt X k+bt Y k+dd X Y k) % 2=0\/(bt X k+bt Y k+dd X Y k) % 2=1:=by omega
  rcases this with h|h<;>rw[h]<;>omega
 have hh:=mk hb e.symm
 exact⟨hh.2,hh.1⟩
theorem add_zero (X Y:Nat):dA X Y 0=0/\dd X Y 0=0:=by unfold dA dd;simp[Nat.mod_one]
theorem zq (X Y:Nat):dA X Y 128 % ae=(X+Y) % ae:=by
 unfold dA
 rw[<-er,Nat.mod_mod,<-Nat.add_mod]
def ew (X Y k:Nat):Nat:=X*(Y / 2 ^ k) % ae
theorem tZ (X Y k:Nat):ew X Y k<ae:=Nat.mod_lt _ dO
theorem tX (X Y k:Nat) (h:bt Y k=0):2*ew X Y (k+1) % ae=ew X Y k % ae:=by
 unfold ew bt at *
 rw[Nat.mul_mod_mod,Nat.mod_mod,kA Y k,h,Nat.mul_left_comm];rfl
theorem tW (X Y k:Nat) (h:bt Y k=1):(2*ew X Y (k+1)+X) % ae=ew X Y k % ae:=by
 unfold ew bt at *
 rw[Nat.mod_mod,kA Y k,h,Nat.mul_add,Nat.mul_one,Nat.mul_left_comm,Nat.add_mod,Nat.mul_mod_mod,<-Nat.add_mod]
theorem tV (X Y:Nat) (hY:Y<ae):ew X Y 128=0:=by
 unfold ew
 rw[Nat.div_eq_of_lt (by rw[<-er];exact hY)];simp
theorem yF (X Y:Nat):ew X Y 0=X*Y % ae:=by unfold ew;simp
def dy (X Y k:Nat):Nat:=2 ^ k*(X / 2 ^ k / Y)
def dG (X Y k:Nat):Nat:=X / 2 ^ k % Y
theorem so (X Y k:Nat) (hY:0<Y):dG X Y k<Y:=Nat.mod_lt _ hY
theorem nW (X Y:Nat) (hX:X<ae):dy X Y 128=0/\dG X Y 128=0:=by
 have e:X / 2 ^ 128=0:=Nat.div_eq_of_lt (by rw[<-er];exact hX)
 unfold dy dG
 rw[e];simp
theorem yZ (X Y:Nat):dy X Y 0=X / Y:=by unfold dy;simp
theorem uJ (X Y k:Nat):dy X Y k<=X:=by
 unfold dy
 exact Nat.le_trans (Nat.mul_le_mul_left _ (Nat.div_le_self _ _)) (Nat.mul_div_le X (2 ^ k))
theorem sq (X Y k:Nat):bt (dy X Y (k+1)) k=0:=by
 unfold bt dy
 rw[Nat.pow_succ,Nat.mul_assoc,Nat.mul_div_cancel_left _ (Nat.two_pow_pos k)]
 omega
theorem tC (X Y k:Nat) (hY:0<Y) :
  (2*dG X Y (k+1)+bt X k<Y->dy X Y (k+1)=dy X Y k/\2*dG X Y (k+1)+bt X k=dG X Y k) /\
  (Y<=2*dG X Y (k+1)+bt X k->dy X Y (k+1)+2 ^ k=dy X Y k/\2*dG X Y (k+1)+bt X k-Y=dG X Y k):=by
 have hh:=kA X k
 constructor
 ·intro h
  have h1:=pp (X / 2 ^ (k+1)) (bt X k) Y h
  unfold dy dG bt at *
  rw[<-hh] at h1
  rw[h1.1,h1.2,Nat.pow_succ,Nat.mul_assoc]
  exact⟨rfl,rfl⟩
 ·intro h
  have h1:=po (X / 2 ^ (k+1)) (bt X k) Y (jI X k) hY h
  unfold dy dG bt at *
  rw[<-hh] at h1
  rw[h1.1,h1.2,Nat.pow_succ,Nat.mul_assoc,Nat.mul_add,Nat.mul_one]
  exact⟨rfl,rfl⟩
theorem zI (R:Nat) (hR:R<ae):(R<170141183460469231731687303715884105728->(hi R / 9223372036854775808==1)=false)/\(170141183460469231731687303715884105728<=R->(hi R / 9223372036854775808==1)=true):=by
 unfold ae at hR
 constructor
 ·intro h
  rw[beq_eq_false_iff_ne]
  unfold hi
  omega
 ·intro h
  rw[beq_iff_eq]
  unfold hi
  omega
theorem yB (R b:Nat) (hb:b<=1):bits .or .u64 (lo (2*R)) (b:Int)=lo (2*R+b):=by
 have h:=cM (2*R)
 rw[kp _ _ h.1 h.2 (by unfold lo;omega) (by omega) (by omega)]
 unfold lo;omega
theorem yN (R b:Nat) (hb:b<=1):hi (2*R)=hi (2*R+b):=by unfold hi;omega
theorem oK (N Y:Nat) (h:Y<=N) (hY:Y<ae):(N % ae+ae-Y) % ae % ae=(N-Y) % ae:=by
 unfold ae at *;omega
end Go.Proofs.YtjbgepjdohfhkaaGreat
