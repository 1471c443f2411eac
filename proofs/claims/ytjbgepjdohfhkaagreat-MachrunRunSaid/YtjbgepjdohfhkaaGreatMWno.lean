/- The reference's machine of chapter 12: memory at an operation that does not access the stack. Conditions: those of the types. -/
import Derived.Test.YtjbgepjdohfhkaaGreatMWmv
import Derived.Test.YtjbgepjdohfhkaaGreatMNent
import Derived.Laws.CopyRow
set_option linter.unusedVariables false
set_option linter.unusedSimpArgs false
set_option maxRecDepth 100000
set_option maxHeartbeats 1600000
namespace Go.Proofs.YtjbgepjdohfhkaaGreat
open Go.RowKit
theorem xL (g:Nat) (o a b d m:Int) (w:World) (h15:o≠15) (h16:o≠16) (h17:o≠17) :
  Calls Tryz.prog 50 #[.pointer (some ⟨g,0,none⟩),iv o a b d m] w fun e w'=>e=.returned (.bool false)/\Below w.heap.size w w':=by
 obtain⟨W1,hW1⟩:∃W,w.alloc (.cells #[.int .i64 o,.int .i64 a,.int .i64 b,.int .i64 d,.int .u64 m] 50)=W:=⟨_,rfl⟩
 have HW1:=aa hW1
 have R1:=aa (show Row W1 w.heap.size 50 [.int .i64 o,.int .i64 a,.int .i64 b,.int .i64 d,.int .u64 m] by rw[<-hW1];exact Row.new w _ _)
 have B1:=aa (show Below w.heap.size w W1 by rw[<-hW1];exact ag w _)
 have x0:=R1.out.cell (k:=0) rfl
 have e15:(o==15)=false:=by simpa using h15
 have e16:(o==16)=false:=by simpa using h16
 have e17:(o==17)=false:=by simpa using h17
 clear hW1 h15 h16 h17
 go_enter Tryz.func50,Tryz.ntmps50
 go_upto_region 1 with(fail)
 rw[HW1.out]
 clear HW1
 go_wp2_with fail
 go_ret
 exact⟨rfl,B1.out⟩
section
variable {g:Nat} {Al:Int} {T0:Nat} {vf vs v1 v2 vp vi vt:Value} {R:List Nat} {s:Tm}
theorem vm (x:Ins) (w:World) (ha:AccOk T0 s x) (h15:x.op=15->0<=x.a/\x.a<8) (h16:x.op=16->0<=x.b/\x.b<8) (hlen:T0<=s.mem.bs.length) (hs:SmallC s.c) (hend:s.c.ended=false) (h:Hid (WmAt w g Al T0 vf vs v1 v2 vp vi vt R s)) :
  Calls Tryz.prog 50 #[.pointer (some ⟨g,0,none⟩),iv x.op x.a x.b x.c x.imm] w (pI g Al T0 vf (s.access x) w):=by
 obtain⟨op,a,b,d,m⟩:=x
 rcases ha.op with h1|h1|h1
 ·have h1:op=15:=h1
  subst h1
  obtain⟨q1,q2⟩:=h15 rfl
  dsimp only at q1 q2
  obtain⟨a',rfl⟩:∃k:Nat,a=(k:Int):=⟨a.toNat,by omega⟩
  exact xO a' b d m w (by omega) ha hlen hend h
 ·have h1:op=16:=h1
  subst h1
  obtain⟨q1,q2⟩:=h16 rfl
  dsimp only at q1 q2
  obtain⟨b',rfl⟩:∃k:Nat,b=(k:Int):=⟨b.toNat,by omega⟩
  exact xN a b' d m w (by omega) ha hlen (hs.reg b') hend h
 ·have h1:op=17:=h1
  subst h1
  exact xM a b d m w ha hlen hend h
end
theorem se {w w':World} {g h:Nat} (hG:w.grownBy w' (some g)) (hh:w.heap.size<=h) (k:Nat) (u:Value):w.grownBy (w'.setCell ⟨h,k,none⟩ u) (some g):=
 ⟨hG.os,hG.tape,hG.output,by simpa[World.setCell] using hG.size,fun i hi hne=>(Below.heap_setCell w' ⟨h,k,none⟩ u i (by simp;omega)).trans (hG.block i hi hne)⟩
theorem v8 {w:World} {base e size n:Nat} {v:Value} {xs:List Value} (h:w.ownsRow base e size v (n+1) xs):∃G c,v=.slice (some ⟨G,0,none⟩) (n+1) c/\base<=G/\G<w.heap.size:=by
 rcases h.2 with⟨_,h0⟩|⟨G,cap,cur,rfl,hb,hh,_⟩
 ·omega
 ·exact⟨G,cap,rfl,hb,(h.lt G rfl).2⟩
structure WSt (w W:World) (g:Nat) (Al:Int) (vf:Value) (R:List Nat) (T:List Value) (G n c:Nat) (L:List Value) (X:Nat) (x:Ins):Prop where
 row:Row W g 94 (bj Al vf R T)
 rl:R.length=8
 own:W.ownsRow w.heap.size 114 2 (.slice (some ⟨G,0,none⟩) n c) n L
 box:Row W X 50 [.int .i64 x.op,.int .i64 x.a,.int .i64 x.b,.int .i64 x.c,.int .u64 x.imm]
 gr:w.grownBy W (some g)
 gl:g<w.heap.size
 hX:w.heap.size<=X
 hXG:X≠G
section
variable {w W:World} {g:Nat} {Al:Int} {vf:Value} {R:List Nat} {T:List Value} {G n c:Nat} {L:List Value} {X:Nat} {x:Ins}
theorem WSt.hG (h:WSt w W g Al vf R T G n c L X x):w.heap.size<=G:=(h.own.lt G rfl).1
theorem WSt.setG (h:WSt w W g Al vf R T G n c L X x) (j:Nat) (u:Value):WSt w (W.setCell ⟨g,18+j,none⟩ u) g Al vf R (T.set j u) G n c L X x:=by
 have h1:=h.row.set_ (18+j) u
 rw[bP h.rl] at h1
 have hG:=h.hG
 have hgl:=h.gl
 have hX:=h.hX
 have ho:(W.setCell ⟨g,18+j,none⟩ u).ownsRow w.heap.size 114 2 (.slice (some ⟨G,0,none⟩) n c) n L:=h.own.kept (aS (World.grownBy.refl W (some g)) (18+j) u) (.inr (by
  intro e
  have e2:some G=some g:=e
  have e3:=Option.some.inj e2
  omega))
 exact⟨h1,h.rl,ho,h.box.far (p:=⟨g,18+j,none⟩) (by show X≠g;omega) u,aS h.gr _ _,hgl,hX,h.hXG⟩
theorem WSt.setL (h:WSt w W g Al vf R T G n c L X x) (j:Nat) (u:Value):WSt w (W.setCell ⟨G,j,none⟩ u) g Al vf R T G n c (L.set j u) X x:=by
 have hG:=h.hG
 have hgl:=h.gl
 exact⟨h.row.far (p:=⟨G,j,none⟩) (by show g≠G;omega) u,h.rl,(World.ownsRow.stored h.own j u).1,h.box.far (p:=⟨G,j,none⟩) h.hXG u,se h.gr hG j u,hgl,h.hX,h.hXG⟩
theorem WSt.drewN (h:WSt w W g Al vf R T G n c L X x) (k:Nat):WSt w (W.drewN k) g Al vf R T G n c L X x:=⟨h.row.drewN k,h.rl,h.own.kept (be (World.grownBy.refl W none) k) (.inr (fun e=>by cases e)),h.box.drewN k,be h.gr k,h.gl,h.hX,h.hXG⟩
theorem WSt.cellG (h:WSt w W g Al vf R T G n c L X x) (j:Nat) {u:Value} (hu:T[j]?=some u):W.cell? ⟨g,18+j,none⟩=some u:=h.row.cell (k:=18+j) (by
 unfold bj
 rw[List.getElem?_append_right (by simp<;>omega),List.getElem?_append_right (by rw[aT,h.rl];simp<;>omega),aT,h.rl,<-hu]
 congr 1
 simp
 omega)
theorem WSt.freeG (h:WSt w W g Al vf R T G n c L X x) (j:Nat):W.frozen? ⟨g,j,none⟩=false:=h.row.free j
theorem WSt.frames (h:WSt w W g Al vf R T G n c L X x):W.cell? ⟨g,1,none⟩=some vf:=h.row.cell (k:=1) rfl
theorem WSt.reg (h:WSt w W g Al vf R T G n c L X x) {i V:Nat} (hi:R[i]?=some V):W.cell? ⟨g,2+i*2,none⟩=some (.int .u64 (lo V)):=h.row.cell (k:=2+i*2) (by
 have hl:i<8:=by rw[<-h.rl];exact(List.getElem?_eq_some_iff.1 hi).1
 obtain⟨k0,-⟩:=cE hi
 unfold bj
 rw[List.getElem?_append_right (by simp<;>omega),List.getElem?_append_left (by rw[aT,h.rl];simp<;>omega),<-k0]
 congr 1
 simp)
theorem WSt.cellL (h:WSt w W g Al vf R T G n c L X x) (j:Nat) {u:Value} (hu:L[j]?=some u):W.cell? ⟨G,j,none⟩=some u:=by
 have:=h.own.cells (g:=G) rfl j u hu
 rwa[show(⟨G,0,none⟩:Addr).add j=⟨G,j,none⟩ by unfold Addr.add;split<;>simp_all] at this
theorem WSt.freeL (h:WSt w W g Al vf R T G n c L X x) (j:Nat):W.frozen? ⟨G,j,none⟩=false:=h.own.frozenAt j
end
section
variable {w W:World} {g:Nat} {Al T0:Int} {vf vs v1 v2 vp vi vt:Value} {R:List Nat} {s:Tm} {G c:Nat} {X:Nat} {x:Ins} {ys:List (Nat×Nat)} {z:Nat×Nat} {N:Nat}
theorem WSt.done (h:WmAt w g Al T0 vf vs v1 v2 vp vi vt R s) (H:WSt w W g Al vf R ((((da T0 vs v1 v2 vp vi vt s).set 13 (.int .i64 ((s.c.steps:Int)+1)))).set 0 (.slice (some ⟨G,0,none⟩) (ys.length+1) c)) G (ys.length+1) c (aA (ys++[(z.1,N)])) X x) :
  WmAt W g Al T0 vf (.slice (some ⟨G,0,none⟩) (ys.length+1) c) v1 v2 vp vi vt R { s with c:=s.c.more,st:=ys++[(z.1,N)] }:=by
 obtain⟨ka,ki,kt,kg⟩:=h.keptG H.gr
 obtain⟨A,c',e,h1,h2,h3,h4⟩:=aW H.own
 injection e with e1 _ e2
 subst e1 e2
 exact⟨H.row,H.rl,⟨_,_,_,rfl,by simp,h2,h1,h3.more H.gl,h4⟩,ki,kt,kg⟩
end
section
variable {w:World} {g:Nat} {Al T0:Int} {vf vs v1 v2 vp vi vt:Value} {R R':List Nat} {s:Tm}
theorem pP (h:R.length=8) (j:Nat) (v:Value) (hv:(ah R)[j]?=some v):(bR Al T0 vf vs v1 v2 vp vi vt R s)[2+j]?=some v:=by
 have hj:j<(ah R).length:=(List.getElem?_eq_some_iff.1 hv).1
 rw[eO,List.getElem?_append_right (by simp<;>omega),List.getElem?_append_left (by simp<;>omega),<-hv]
 congr 1
 simp
theorem WmAt.regs_load (h:WmAt w g Al T0 vf vs v1 v2 vp vi vt R s):(Instr.loadAt 61 (.pointer (some ⟨g,2,none⟩))).run Tryz.prog w=.ok (.agg (ah R).toArray) w:=
 l9 (cN (w:=w)) (aX (w:=w)) (ba h.rl) (fun j v hj=>h.row.cell (k:=2+j) (pP h.rl j v hj))
end
section
variable {P:Program} {o:Oper} {a:Act} {w w':World} {K:Act->World->Prop} {Q:Exit->Act->World->Prop}
theorem a7 {v:Value} (hr:(execOp a.eval o).run P w=.ok (.value v) w') (h:K (a.put o.dst v) w'):o.wp P a w K Q:=by
 unfold Oper.wp
 rw[hr]
 exact h
theorem nf (hr:(execOp a.eval o).run P w=.ok .skip w') (h:K (a.put o.dst undef) w'):o.wp P a w K Q:=by
 unfold Oper.wp
 rw[hr]
 exact h
theorem yC {f:FuncId} {args:Array Value} (hr:(execOp a.eval o).run P w=.ok (.enter f args) w) (h:Calls P f args w fun e w'=>∃v,e=.returned v/\K (a.put o.dst v) w'):o.wp P a w K Q:=by
 unfold Oper.wp
 rw[hr]
 refine Calls.mono h ?_
 rintro e w' ⟨v,rfl,hk⟩
 exact hk
end
theorem kJ {a:Act} {d:Nat} (v:Value) (h:d<a.tmps.size):(a.put (some d) v).eval (.tmp d)=v:=by
 show(a.tmps.setIfInBounds d v).getD d undef=v
 simp[Array.getD_eq_getD_getElem?,h]
theorem ft {a:Act} {d t:Nat} (v:Value) (h:t≠d):(a.put (some d) v).eval (.tmp t)=a.eval (.tmp t):=by
 show(a.tmps.setIfInBounds d v).getD t undef=a.tmps.getD t undef
 simp[Array.getD_eq_getD_getElem?,Array.getElem?_setIfInBounds,Ne.symm h]
theorem mi {l:Array Bool} {i j:Nat} (hi:i<l.size):(l.setIfInBounds i true).getD j false=(decide (i=j)||l.getD j false):=by
 simp only[Array.getD_eq_getD_getElem?,Array.getElem?_setIfInBounds]
 by_cases e:i=j
 ·subst e
  simp[hi]
 ·simp[e]
theorem mh {l:Array Bool} {i:Nat} (hi:i<l.size):l.getD i true=l.getD i false:=by
 simp[Array.getD_eq_getD_getElem?,hi]
def Evs (D:Nat->Nat) (n:Nat) (val:Nat->Value) (l:Array Bool) (a:Act):Prop:=∀i,i<n->l.getD i false=true->D i<1000->a.eval (.tmp (D i))=val i
section
variable {D:Nat->Nat} {n:Nat} {val:Nat->Value} {l:Array Bool} {a:Act} {i:Nat}
theorem Evs.put (h:Evs D n val l a) (hl:l.size=n) (hi:i<n) (hd:∀j,j<n->D j=D i->j=i) (hs:D i<a.tmps.size):Evs D n val (l.setIfInBounds i true) (a.put (some (D i)) (val i)):=by
 intro j hj hf hlt
 rw[mi (by omega)] at hf
 by_cases e:i=j
 ·subst e
  exact kJ _ hs
 ·rw[ft _ (fun e2=>e (hd j hj e2).symm)]
  exact h j hj (by simpa[e] using hf) hlt
theorem Evs.skip (h:Evs D n val l a) (hl:l.size=n) (hi:i<n) (hs:1000<=D i) (v:Value):Evs D n val (l.setIfInBounds i true) (a.put none v):=by
 intro j hj hf hlt
 rw[mi (by omega)] at hf
 by_cases e:i=j
 ·subst e
  omega
 ·exact h j hj (by simpa[e] using hf) hlt
end
theorem aH {ops:Array Oper} {l:Array Bool} {i:Nat} {o:Oper} (hr:Region.ready .any ops l=[]) (hi:i<l.size) (ho:ops[i]?=some o) (ha:o.after.all (fun e=>!Region.binds .any e||l.getD e.on false)=true):l.getD i false=true:=by
 cases h:l.getD i true with
 | true=>rw[<-mh hi];exact h
 | false=>exact(aF hr ho h ha).elim
theorem zr {a:Act} {n:Nat} (hs:a.tmps.size=n) (hd:a.defers=[]):a=⟨((List.range n).map fun j=>a.eval (.tmp j)).toArray,[]⟩:=by
 obtain⟨t,d⟩:=a
 simp only at hs hd
 subst hd
 congr 1
 apply Array.ext
 ·simp[hs]
 ·intro j h1 h2
  simp[Act.eval,Array.getD_eq_getD_getElem?,h1]
theorem zR {N C:Int} {x:Ins} (ho:0<=x.op/\x.op<=14) (ha:aB N C (ap x.op).1 x.a=0) (hb:aB N C (ap x.op).2.1 x.b=0) (hc:aB N C (ap x.op).2.2.1 x.c=0) (hi:(ap x.op).2.2.2=true\/x.imm=0) (hm:0<=x.imm/\x.imm<=18446744073709551615):PlX x:=by
 obtain⟨o,a,b,c,m⟩:=x
 dsimp only at *
 have reg:∀{n:Int},aB N C 1 n=0->0<=n/\n<8:=fun h=>by obtain⟨i,rfl,hi⟩:=ly h;omega
 have non:∀{n:Int},aB N C 0 n=0->n=0:=wq
 rcases(show o=0\/o=1\/(2<=o/\o<=11)\/o=12\/o=13\/o=14 by omega) with rfl|rfl|h2|rfl|rfl|rfl
 ·have ea:=reg (show aB N C 1 a=0 from ha)
  have eb:=non (show aB N C 0 b=0 from hb)
  have ec:=non (show aB N C 0 c=0 from hc)
  exact⟨by show(0:Int)<=0/\(0:Int)<=14;omega,ea,by show 0<=b/\b<8;omega,by show 0<=c/\c<8;omega,hm,fun _=>eb,fun _=>ec,fun h=>absurd rfl h⟩
 ·have ea:=reg (show aB N C 1 a=0 from ha)
  have eb:=reg (show aB N C 1 b=0 from hb)
  have ec:=non (show aB N C 0 c=0 from hc)
  have ei:m=0:=by
             rcases hi with h|h
             ·exact absurd (show false=true from h) (by decide)
             ·exact h
  exact⟨by show(0:Int)<=1/\(1:Int)<=14;omega,ea,eb,by show 0<=c/\c<8;omega,hm,fun h=>by simp at h,fun _=>ec,fun _=>ei⟩
 ·rw[wk h2] at ha hb hc hi
  have ea:=reg ha
  have eb:=reg hb
  have ec:=reg hc
  have ei:m=0:=by
             rcases hi with h|h
             ·exact absurd (show false=true from h) (by decide)
             ·exact h
  exact⟨ho,ea,eb,ec,hm,fun h=>by simp at h;omega,fun h=>by simp at h;omega,fun _=>ei⟩
 ·have ea:=reg (show aB N C 1 a=0 from ha)
  have eb:=reg (show aB N C 1 b=0 from hb)
  have ec:=non (show aB N C 0 c=0 from hc)
  have ei:m=0:=by
             rcases hi with h|h
             ·exact absurd (show false=true from h) (by decide)
             ·exact h
  exact⟨by show(0:Int)<=12/\(12:Int)<=14;omega,ea,eb,by show 0<=c/\c<8;omega,hm,fun h=>by simp at h,fun _=>ec,fun _=>ei⟩
 ·have ea:=reg (show aB N C 1 a=0 from ha)
  have eb:=non (show aB N C 0 b=0 from hb)
  have ec:=non (show aB N C 0 c=0 from hc)
  have ei:m=0:=by
             rcases hi with h|h
             ·exact absurd (show false=true from h) (by decide)
             ·exact h
  exact⟨by show(0:Int)<=13/\(13:Int)<=14;omega,ea,by show 0<=b/\b<8;omega,by show 0<=c/\c<8;omega,hm,fun _=>eb,fun _=>ec,fun _=>ei⟩
 ·have ea:=reg (show aB N C 1 a=0 from ha)
  have eb:=non (show aB N C 0 b=0 from hb)
  have ec:=non (show aB N C 0 c=0 from hc)
  have ei:m=0:=by
             rcases hi with h|h
             ·exact absurd (show false=true from h) (by decide)
             ·exact h
  exact⟨by show(0:Int)<=14/\(14:Int)<=14;omega,ea,by show 0<=b/\b<8;omega,by show 0<=c/\c<8;omega,hm,fun _=>eb,fun _=>ec,fun _=>ei⟩
def dT (i:Nat):Nat:=[93,94,95,96,97,98,99,100,101,102,103,104,105,106,107,108,109,110,92,111,112,113,114,115,116,1000,117,118,1001,119,120,121,1002,5].getD i 0
theorem uK:∀i,i<34->∀j,j<34->dT j=dT i->j=i:=by decide +kernel
theorem Bh:∀i,i<34->((i=25\/i=28\/i=32)\/(dT i<148/\dT i≠0/\dT i≠4)):=by decide +kernel
abbrev ptr (g k:Nat):Value:=.pointer (some ⟨g,k,none⟩)
def vT (g:Nat) (x:Ins) (R R':List Nat) (vi vt vi' vt':Value) (z:Bool) (i:Nat):Value:=
  [ptr g 0,ptr g 0,ptr g 0,iv x.op x.a x.b x.c x.imm,ptr g 0,ptr g 0,ptr g 2,.agg (ah R).toArray,ptr g 0,ptr g 0,ptr g 24,vi,ptr g 0,ptr g 0,ptr g 26,ptr g 30,vt,
   .tuple #[.agg (ah R').toArray,vi',vt',.bool z],.tuple #[.agg (ah R').toArray,vi',vt',.bool z],.agg (ah R').toArray,vi',vt',.bool z,ptr g 0,ptr g 2,undef,ptr g 0,ptr g 24,undef,ptr g 0,ptr g 26,ptr g 30,undef,.bool z].getD i undef
def ot (i:Nat):Bool:=decide (i=18\/i=19\/i=20\/i=21\/i=22\/i=25\/i=28\/i=32\/i=33)
def tlT (T:List Value) (vi vt vi' vt':Value) (b c:Bool):List Value:=(T.set 6 (if b then vi' else vi)).set 12 (if c then vt' else vt)
structure RPost (W0:World) (g:Nat) (x:Ins) (c:Co) (vi' vt':Value) (z:Bool) (w:World):Prop where
 b:∃wc,Below W0.heap.size W0 wc/\cD wc g vi' (c.execC x).inp/\TrS wc (g+1) wc.heap.size vt' (c.execC x).trace/\wc.grownBy w (some g)
 e:c.execC x=if z=true then c.stop 2 else { c with regs:=(c.execC x).regs,inp:=(c.execC x).inp,trace:=(c.execC x).trace }
structure RI (W0:World) (g X:Nat) (x:Ins) (c:Co) (Al:Int) (vf:Value) (T:List Value) (vi vt vi' vt':Value) (z:Bool) (l:Array Bool) (a:Act) (w:World):Prop where
 ls:l.size=34
 ts:a.tmps.size=148
 ad:a.defers=[]
 e0:a.eval (.tmp 0)=ptr g 0
 e4:a.eval (.tmp 4)=ptr X 0
 ev:Evs dT 34 (vT g x c.regs (c.execC x).regs vi vt vi' vt' z) l a
 pre:l.getD 17 false=false->w=W0
 early:l.getD 17 false=true->l.getD 3 false=true/\l.getD 7 false=true/\l.getD 11 false=true/\l.getD 16 false=true
 late:∀i,ot i=true->l.getD i false=true->l.getD 17 false=true
 row:Row w g 94 (bj Al vf (if l.getD 25 false=true then(c.execC x).regs else c.regs) (tlT T vi vt vi' vt' (l.getD 28 false) (l.getD 32 false)))
 post:l.getD 17 false=true->RPost W0 g x c vi' vt' z w
theorem eZ {n:Nat} (i:Nat):(Array.replicate n false).getD i false=false:=by
 simp[Array.getD_eq_getD_getElem?,Array.getElem?_replicate]
 split<;>rfl
theorem sX {w:World} {g:Nat} {Al:Int} {vf:Value} {R R':List Nat} {T:List Value} {vi vt vi' vt':Value} (h:Row w g 94 ([.int .i64 Al,vf]++(ah R++T))) (h6:T[6]?=some vi) (h12:T[12]?=some vt):Row w g 94 (bj Al vf (if false=true then R' else R) (tlT T vi vt vi' vt' false false)):=by
 have e6:T.set 6 vi=T:=by obtain⟨h,rfl⟩:=List.getElem?_eq_some_iff.1 h6;exact List.set_getElem_self h
 have e12:T.set 12 vt=T:=by obtain⟨h,rfl⟩:=List.getElem?_eq_some_iff.1 h12;exact List.set_getElem_self h
 unfold tlT
 rw[if_neg (by decide),if_neg (by decide),e6,if_neg (by decide),e12]
 exact h
theorem qm (T:List Value) (vi vt vi' vt':Value) (b c:Bool):(tlT T vi vt vi' vt' b c).length=T.length:=by simp[tlT]
theorem lO (T:List Value) (vi vt vi' vt':Value) (b c:Bool):(tlT T vi vt vi' vt' b c).set 6 vi'=tlT T vi vt vi' vt' true c:=by
 unfold tlT
 rw[List.set_comm _ _ (by decide),List.set_set]
 rfl
theorem kO (T:List Value) (vi vt vi' vt':Value) (b c:Bool):(tlT T vi vt vi' vt' b c).set 12 vt'=tlT T vi vt vi' vt' b true:=by
 unfold tlT
 rw[List.set_set]
 rfl
section
variable {w:World} {g:Nat} {Al:Int} {vf:Value} {R R':List Nat} {T:List Value}
theorem zE:(Instr.fieldAt 94 (ptr g 0) 1).run Tryz.prog w=.ok (ptr g 2) w:=by kernel_rfl
theorem zC:(Instr.fieldAt 94 (ptr g 0) 6).run Tryz.prog w=.ok (ptr g 24) w:=by kernel_rfl
theorem zB:(Instr.fieldAt 94 (ptr g 0) 8).run Tryz.prog w=.ok (ptr g 26) w:=by kernel_rfl
theorem zD:(Instr.fieldAt 41 (ptr g 26) 3).run Tryz.prog w=.ok (ptr g 30) w:=by kernel_rfl
theorem xG:(sizeOf 27).run Tryz.prog w=.ok 1 w:=by kernel_rfl
theorem xF:(sizeOf 39).run Tryz.prog w=.ok 1 w:=by kernel_rfl
theorem Bp {v:Value} (h:w.cell? ⟨g,24,none⟩=some v):(Instr.loadAt 27 (ptr g 24)).run Tryz.prog w=.ok v w:=by
 have h1:(isAgg 27).run Tryz.prog w=.ok false w:=by kernel_rfl
 simp[Instr.loadAt,Instr.sureAddr,loadVar,h1,h]
theorem Bo {v:Value} (h:w.cell? ⟨g,30,none⟩=some v):(Instr.loadAt 39 (ptr g 30)).run Tryz.prog w=.ok v w:=by
 have h1:(isAgg 39).run Tryz.prog w=.ok false w:=by kernel_rfl
 simp[Instr.loadAt,Instr.sureAddr,loadVar,h1,h]
theorem rW {X:Nat} {o a b c m:Int} (h:Row w X 50 [.int .i64 o,.int .i64 a,.int .i64 b,.int .i64 c,.int .u64 m]):(Instr.loadAt 50 (ptr X 0)).run Tryz.prog w=.ok (iv o a b c m) w:=
 bG (n:=5) (by kernel_rfl) (by kernel_rfl) rfl h
theorem sA (args:Array Value):(callFunc 51 args).run Tryz.prog w=.ok (.enter 51 args) w:=by kernel_rfl
theorem kL (h:R.length=8):(bj Al vf R T).length=18+T.length:=by
 unfold bj
 simp only[List.length_append,aT,h,List.length_cons,List.length_nil]
 omega
theorem vK (h:Row w g 94 (bj Al vf R T)) (hR:R.length=8) (hR':R'.length=8):(Instr.storeAt 61 (ptr g 2) (.agg (ah R').toArray)).run Tryz.prog w=.ok () (w.setRow g (bj Al vf R' T).toArray):=by
 have hq:=run_storeCells_at (P:=Tryz.prog) g 2 94 (ah R') 0 (bj Al vf R T).toArray w h (by simp[kL hR,aT,hR']) (bk _)
 have he:(bj Al vf R T).take (2+0)++ah R'++(bj Al vf R T).drop (2+0+(ah R').length)=bj Al vf R' T:=by
  rw[aT,hR']
  show[Value.int .i64 Al,vf]++ah R'++(ah R++T).drop 16=_
  rw[List.drop_left' (by rw[aT,hR]),List.append_assoc]
  rfl
 rw[show(bj Al vf R T).toArray.toList=bj Al vf R T from rfl,he] at hq
 simp only[Instr.storeAt,Instr.sureAddr,storeVar,Sem.run_bind,Sem.run_pure,Result.andThen,aX (w:=w)]
 simp[Value.cells,aT,hR',hq]
theorem qr (h:Row w g 94 (bj Al vf R T)) (hR:R.length=8) (j:Nat) {v:Value} {t:TypeId} (hj:j<T.length) (hone:v.oneCell'=true/\v.cells=#[v]) (hs:∀{w:World},(sizeOf t).run Tryz.prog w=.ok 1 w):(Instr.storeAt t (ptr g (18+j)) v).run Tryz.prog w=.ok () (w.setRow g (bj Al vf R (T.set j v)).toArray):=by
 have hq:=run_storeCells_at (P:=Tryz.prog) g (18+j) 94 [v] 0 (bj Al vf R T).toArray w h (by simp[kL hR];omega) (by intro u hu;simp at hu;subst hu;exact hone.1)
 have he:(bj Al vf R T).take (18+j+0)++[v]++(bj Al vf R T).drop (18+j+0+[v].length)=bj Al vf R (T.set j v):=by
  rw[<-bP hR,List.set_eq_take_append_cons_drop,if_pos (by rw[kL hR];omega)]
  simp
 rw[show(bj Al vf R T).toArray.toList=bj Al vf R T from rfl,he] at hq
 simp only[Instr.storeAt,Instr.sureAddr,storeVar,Sem.run_bind,Sem.run_pure,Result.andThen,hs]
 simp[hone.2,hq]
end
section
variable {W0 w:World} {g X:Nat} {x:Ins} {c:Co} {Al:Int} {vf:Value} {T:List Value} {vi vt vi' vt':Value} {z:Bool} {l:Array Bool} {a:Act}
theorem RI.len8 (h:RI W0 g X x c Al vf T vi vt vi' vt' z l a w) (h1:c.regs.length=8) (h2:(c.execC x).regs.length=8):(if l.getD 25 false=true then(c.execC x).regs else c.regs).length=8:=by split<;>assumption
theorem RI.flag (h:RI W0 g X x c Al vf T vi vt vi' vt' z l a w) {i:Nat} (hi:i<34) (j:Nat):(l.setIfInBounds i true).getD j false=(decide (i=j)||l.getD j false):=mi (by rw[h.ls];exact hi)
theorem RI.val (h:RI W0 g X x c Al vf T vi vt vi' vt' z l a w) (i:Nat) (hi:i<34) (hd:dT i<1000) (hf:l.getD i false=true):a.eval (.tmp (dT i))=vT g x c.regs (c.execC x).regs vi vt vi' vt' z i:=h.ev i hi hf hd
theorem RI.pure (h:RI W0 g X x c Al vf T vi vt vi' vt' z l a w) (i:Nat) (hi:i<34) (hk:i≠17/\i≠25/\i≠28/\i≠32) (hl:ot i=true->l.getD 17 false=true):RI W0 g X x c Al vf T vi vt vi' vt' z (l.setIfInBounds i true) (a.put (some (dT i)) (vT g x c.regs (c.execC x).regs vi vt vi' vt' z i)) w:=by
 obtain⟨k1,k2,k3,k4⟩:=hk
 obtain⟨d1,d2,d3⟩:=(Bh i hi).resolve_left (by omega)
 have f:=h.flag hi
 have f17:(l.setIfInBounds i true).getD 17 false=l.getD 17 false:=by rw[f 17];simp[k1]
 have f25:(l.setIfInBounds i true).getD 25 false=l.getD 25 false:=by rw[f 25];simp[k2]
 have f28:(l.setIfInBounds i true).getD 28 false=l.getD 28 false:=by rw[f 28];simp[k3]
 have f32:(l.setIfInBounds i true).getD 32 false=l.getD 32 false:=by rw[f 32];simp[k4]
 refine⟨by simpa using h.ls,by show(a.tmps.setIfInBounds _ _).size=148;simpa using h.ts,h.ad,by rw[ft _ (Ne.symm d2)];exact h.e0,by rw[ft _ (Ne.symm d3)];exact h.e4,h.ev.put h.ls hi (fun j hj e=>uK i hi j hj e) (by rw[h.ts];exact d1),fun e=>h.pre (by rw[<-f17];exact e),fun e=>?_,fun j hj e=>?_,by rw[f25,f28,f32];exact h.row,fun e=>h.post (by rw[<-f17];exact e)⟩
 ·obtain⟨q1,q2,q3,q4⟩:=h.early (by rw[<-f17];exact e)
  exact⟨by rw[f 3,q1];simp,by rw[f 7,q2];simp,by rw[f 11,q3];simp,by rw[f 16,q4];simp⟩
 ·rw[f17]
  rw[f j] at e
  by_cases hij:i=j
  ·subst hij
   exact hl hj
  ·exact h.late j hj (by simpa[hij] using e)
theorem RI.ahead (h:RI W0 g X x c Al vf T vi vt vi' vt' z l a w) {i:Nat} (hi:i=3\/i=7\/i=11\/i=16\/i=17) (hf:l.getD i true=false):w=W0:=by
 refine h.pre ?_
 have h2:l.getD i false=false:=by rw[<-mh (by rw[h.ls];omega)];exact hf
 rcases hi with rfl|rfl|rfl|rfl|rfl
 ·exact Bool.eq_false_iff.2 fun e=>by rw[(h.early e).1] at h2;cases h2
 ·exact Bool.eq_false_iff.2 fun e=>by rw[(h.early e).2.1] at h2;cases h2
 ·exact Bool.eq_false_iff.2 fun e=>by rw[(h.early e).2.2.1] at h2;cases h2
 ·exact Bool.eq_false_iff.2 fun e=>by rw[(h.early e).2.2.2] at h2;cases h2
 ·exact h2
theorem RI.called (h:RI W0 g X x c Al vf T vi vt vi' vt' z l a w) (hf:l.getD 17 true=false) (he:l.getD 3 false=true/\l.getD 7 false=true/\l.getD 11 false=true/\l.getD 16 false=true) (vi2 vt2:Value) (z2:Bool) {w':World} (hb:Below W0.heap.size W0 w') (hg:g<W0.heap.size) (hp:RPost W0 g x c vi2 vt2 z2 w'):RI W0 g X x c Al vf T vi vt vi2 vt2 z2 (l.setIfInBounds 17 true) (a.put (some 110) (.tuple #[.agg (ah (c.execC x).regs).toArray,vi2,vt2,.bool z2])) w':=by
 have h17:l.getD 17 false=false:=by rw[<-mh (by rw[h.ls];omega)];exact hf
 have no:∀i,ot i=true->l.getD i false=false:=fun i hi=>Bool.eq_false_iff.2 fun e=>by have:=h.late i hi e;rw[h17] at this;cases this
 have f:=h.flag (i:=17) (by omega)
 have n25:=no 25 rfl
 have n28:=no 28 rfl
 have n32:=no 32 rfl
 have f25:(l.setIfInBounds 17 true).getD 25 false=false:=by rw[f 25,n25];rfl
 have f28:(l.setIfInBounds 17 true).getD 28 false=false:=by rw[f 28,n28];rfl
 have f32:(l.setIfInBounds 17 true).getD 32 false=false:=by rw[f 32,n32];rfl
 have f17:(l.setIfInBounds 17 true).getD 17 false=true:=by rw[f 17];rfl
 have hw:=h.pre h17
 subst hw
 refine⟨by simpa using h.ls,by show(a.tmps.setIfInBounds _ _).size=148;simpa using h.ts,h.ad,by rw[ft _ (by decide)];exact h.e0,by rw[ft _ (by decide)];exact h.e4,?_,fun e=>(by rw[f17] at e;cases e),fun _=>?_,fun j hj e=>f17,?_,fun _=>hp⟩
 ·intro i hi hfi hd
  rw[f i] at hfi
  by_cases e:17=i
  ·subst e
   exact kJ _ (by rw[h.ts];decide)
  ·have hfi:l.getD i false=true:=by simpa[e] using hfi
   have hnl:ot i=false:=Bool.eq_false_iff.2 fun e2=>by rw[no i e2] at hfi;cases hfi
   have hne:dT i≠110:=fun e2=>e (uK 17 (by omega) i hi (e2.trans (show(110:Nat)=dT 17 from rfl))).symm
   rw[ft _ hne,h.ev i hi hfi hd]
   clear f25 f28 f32 f17 n25 n28 n32 f no hne
   rcases(show i=0\/i=1\/i=2\/i=3\/i=4\/i=5\/i=6\/i=7\/i=8\/i=9\/i=10\/i=11\/i=12\/i=13\/i=14\/i=15\/i=16\/i=17\/i=18\/i=19\/i=20\/i=21\/i=22\/i=23\/i=24\/i=25\/i=26\/i=27\/i=28\/i=29\/i=30\/i=31\/i=32\/i=33 by omega) with rfl|rfl|rfl|rfl|rfl|rfl|rfl|rfl|rfl|rfl|rfl|rfl|rfl|rfl|rfl|rfl|rfl|rfl|rfl|rfl|rfl|rfl|rfl|rfl|rfl|rfl|rfl|rfl|rfl|rfl|rfl|rfl|rfl|rfl<;>first|rfl|exact absurd rfl e|exact absurd hnl (by decide)
 ·obtain⟨q1,q2,q3,q4⟩:=he
  exact⟨by rw[f 3,q1];rfl,by rw[f 7,q2];rfl,by rw[f 11,q3];rfl,by rw[f 16,q4];rfl⟩
 ·have hrow:=h.row
  rw[n25,n28,n32] at hrow
  rw[f25,f28,f32]
  exact hrow.below hb hg
theorem RI.stored (h:RI W0 g X x c Al vf T vi vt vi' vt' z l a w) (i:Nat) (hi:i=25\/i=28\/i=32) (h17:l.getD 17 false=true) {w':World} (hg:w.grownBy w' (some g))
  (hrow:Row w' g 94 (bj Al vf (if(decide (i=25)||l.getD 25 false)=true then(c.execC x).regs else c.regs) (tlT T vi vt vi' vt' (decide (i=28)||l.getD 28 false) (decide (i=32)||l.getD 32 false)))) (u:Value):RI W0 g X x c Al vf T vi vt vi' vt' z (l.setIfInBounds i true) (a.put none u) w':=by
 have hi34:i<34:=by omega
 have f:=h.flag hi34
 have f17:(l.setIfInBounds i true).getD 17 false=true:=by rw[f 17,h17];simp
 refine⟨by simpa using h.ls,h.ts,h.ad,h.e0,h.e4,h.ev.skip h.ls hi34 (by rcases hi with rfl|rfl|rfl<;>decide) u,fun e=>(by rw[f17] at e;cases e),fun _=>?_,fun j hj e=>f17,by rw[f 25,f 28,f 32];exact hrow,fun _=>?_⟩
 ·obtain⟨q1,q2,q3,q4⟩:=h.early h17
  exact⟨by rw[f 3,q1];simp,by rw[f 7,q2];simp,by rw[f 11,q3];simp,by rw[f 16,q4];simp⟩
 ·obtain⟨⟨wc,b1,b2,b3,b4⟩,he⟩:=h.post h17
  exact⟨⟨wc,b1,b2,b3,b4.trans hg⟩,he⟩
end
section
variable {w wc wr:World} {g T0:Nat} {Al:Int} {vf vs v1 v2 vp vi vt vi' vt':Value} {R:List Nat} {s:Tm} {c':Co}
theorem vz (hc:c'={ s.c with regs:=c'.regs,inp:=c'.inp,trace:=c'.trace }):bj Al vf c'.regs (tlT (da T0 vs v1 v2 vp vi vt s) vi vt vi' vt' true true)=bR Al T0 vf vs v1 v2 vp vi' vt' c'.regs { s with c:=c' }:=by
 have e1:c'.ended=s.c.ended:=(congrArg Co.ended hc).trans rfl
 have e2:c'.kind=s.c.kind:=(congrArg Co.kind hc).trans rfl
 have e3:c'.code=s.c.code:=(congrArg Co.code hc).trans rfl
 have e4:c'.res=s.c.res:=(congrArg Co.res hc).trans rfl
 have e5:c'.steps=s.c.steps:=(congrArg Co.steps hc).trans rfl
 have e:da T0 vs v1 v2 vp vi' vt' { s with c:=c' }=da T0 vs v1 v2 vp vi' vt' s:=by
  unfold da
  dsimp only
  rw[e1,e2,e3,e4,e5]
 rw[eO,e]
 rfl
theorem oy (H:WmAt w g Al T0 vf vs v1 v2 vp vi vt R s) (pb:Below w.heap.size w wc) (pg:wc.grownBy wr (some g)) (hc:c'={ s.c with regs:=c'.regs,inp:=c'.inp,trace:=c'.trace }) (hr8:c'.regs.length=8) (pi:cD wc g vi' c'.inp) (pt:TrS wc (g+1) wc.heap.size vt' c'.trace)
  (hrow:Row wr g 94 (bj Al vf c'.regs (tlT (da T0 vs v1 v2 vp vi vt s) vi vt vi' vt' true true))):WmAt wr g Al T0 vf vs v1 v2 vp vi' vt' c'.regs { s with c:=c' }:=by
 have H2:=H.call pb
 obtain⟨ka,-,-,kg⟩:=H2.keptG pg
 have hk:∀p:Addr,g+1<=p.block->p.block<wc.heap.size->wr.cell? p=wc.cell? p:=fun p h1 h2=>World.cell?_of_block (pg.block p.block h2 (fun e=>by injection e with e;omega))
 have hk2:∀p:Addr,p.block<g->wr.cell? p=wc.cell? p:=fun p h1=>World.cell?_of_block (pg.block p.block (by have:=H2.gl;omega) (fun e=>by injection e with e;omega))
 exact⟨by rw[<-vz hc];exact hrow,hr8,ka,pi.keep hk2,pt.keep hk pg.size,fun he=>⟨rfl,(kg ((show c'.ended=s.c.ended from(congrArg Co.ended hc).trans rfl).symm.trans he)).2⟩⟩
end
end Go.Proofs.YtjbgepjdohfhkaaGreat
