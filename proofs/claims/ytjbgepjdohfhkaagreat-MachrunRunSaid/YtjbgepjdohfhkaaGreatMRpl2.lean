/- The reference's Plain at the operations that Apply computes (chapter 8). Conditions: those of the types; the registers named are registers. -/
import Derived.Test.YtjbgepjdohfhkaaGreatMVrdiv
import Derived.Test.YtjbgepjdohfhkaaGreatMRpl11
import Derived.Test.YtjbgepjdohfhkaaGreatMRpl12
import Derived.Deep.DrawnRows
import Derived.Lib.SliceRun
import Derived.Laws.OwnMore
set_option linter.unusedVariables false
set_option linter.unusedSimpArgs false
set_option maxRecDepth 100000
set_option maxHeartbeats 4000000
namespace Go.Proofs.YtjbgepjdohfhkaaGreat
open Go.RowKit
theorem yu (op:Int) (a b c:Nat) (R:List Nat) (Ai At:Option Addr) (ni ci nt ct:Nat) (w:World) (hop:2<=op/\op<=10) (ha:a<8) (hb:b<8) (hc:c<8) (hR:R.length=8) (hV:Hid (R.getD b 0<ae)) (hU:Hid (R.getD c 0<ae)) :
  Calls Tryz.prog 51 #[iv op (a:Int) (b:Int) (c:Int) 0,.agg (ah R).toArray,.slice Ai ni ci,.slice At nt ct] w (il (if cO op (R.getD c 0) then R.set a (bJ op (R.getD b 0) (R.getD c 0)) else R) (.slice Ai ni ci) (.slice At nt ct) (!cO op (R.getD c 0)) w):=by
 obtain⟨W1,hW1,hB⟩:=PlB.new w ⟨op,(a:Int),(b:Int),(c:Int),0⟩ R
 have HB:=aa hB
 have HW1:=aa (show((w.alloc (.cells #[.int .i64 op,.int .i64 (a:Int),.int .i64 (b:Int),.int .i64 (c:Int),.int .u64 0] 50)).alloc (.cells (ah R).toArray 61)).alloc (.cells #[.int .u64 0,.int .u64 0,.int .u64 0,.int .u64 0,.int .u64 0,.int .u64 0,.int .u64 0,.int .u64 0,.int .u64 0,.int .u64 0,.int .u64 0,.int .u64 0,.int .u64 0,.int .u64 0,.int .u64 0,.int .u64 0] 61)=W1 from hW1)
 obtain⟨V0,hV0⟩:∃V,R[a]?=some V:=⟨_,List.getElem?_eq_getElem (by omega)⟩
 obtain⟨X,hX⟩:∃V,R[b]?=some V:=⟨_,List.getElem?_eq_getElem (by omega)⟩
 have gX:R.getD b 0=X:=by rw[List.getD_eq_getElem?_getD,hX];rfl
 obtain⟨Y,hY⟩:∃V,R[c]?=some V:=⟨_,List.getElem?_eq_getElem (by omega)⟩
 have gY:R.getD c 0=Y:=by rw[List.getD_eq_getElem?_getD,hY];rfl
 rw[gX] at hV⊢
 rw[gY] at hU⊢
 obtain⟨k0,k1⟩:=cE hV0
 obtain⟨k2,k3⟩:=cE hX
 obtain⟨k4,k5⟩:=cE hY
 have K0:=aa k0
 have K1:=aa k1
 have ca:=fun(W:World) (_:Below W1.heap.size W1 W)=>rs op X Y W hV.out hU.out
 obtain⟨B,hBo⟩:∃B,cO op Y=B:=⟨_,rfl⟩
 obtain⟨Z,hZ⟩:∃Z,bJ op X Y=Z:=⟨_,rfl⟩
 rw[hBo,hZ] at ca⊢
 have CA:=aa ca
 have x0':=hB.i.cell (k:=0) rfl
 have x0:=fun(w':World) (hb:Below W1.heap.size W1 w')=>(HB.out.i.call hb).cell (k:=0) rfl
 have x2:=fun(w':World) (hb:Below W1.heap.size W1 w')=>(HB.out.i.call hb).cell (k:=2) rfl
 have x3:=fun(w':World) (hb:Below W1.heap.size W1 w')=>(HB.out.i.call hb).cell (k:=3) rfl
 have y2:=fun(w':World) (hb:Below W1.heap.size W1 w')=>(HB.out.r.call hb).cell k2
 have y3:=fun(w':World) (hb:Below W1.heap.size W1 w')=>(HB.out.r.call hb).cell k3
 have y4:=fun(w':World) (hb:Below W1.heap.size W1 w')=>(HB.out.r.call hb).cell k4
 have y5:=fun(w':World) (hb:Below W1.heap.size W1 w')=>(HB.out.r.call hb).cell k5
 have hc0:(0:Int)<=(c:Int):=by omega
 have hc1:(c:Int)<8:=by omega
 have ha0:(0:Int)<=(a:Int):=by omega
 have ha1:(a:Int)<8:=by omega
 have hb0:(0:Int)<=(b:Int):=by omega
 have hb1:(b:Int)<8:=by omega
 have e0:(op==0)=false:=by rw[beq_eq_false_iff_ne];omega
 have e1:(op==1)=false:=by rw[beq_eq_false_iff_ne];omega
 have e11:(op==11)=false:=by rw[beq_eq_false_iff_ne];omega
 have e12:(op==12)=false:=by rw[beq_eq_false_iff_ne];omega
 have e13:(op==13)=false:=by rw[beq_eq_false_iff_ne];omega
 have e14:(op==14)=false:=by rw[beq_eq_false_iff_ne];omega
 have haR:a<R.length:=by omega
 clear hB hW1 hV0 hX gX hY gY k0 k1 k2 k3 k4 k5 hZ hBo ca hop
 go_enter Tryz.func51,Tryz.ntmps51
 go_upto_region 1 with(fail)
 rw[HW1.out]
 clear HW1
 go_upto_region 2 with(fail)
 clear x0'
 go_region_held3 (fun w'=>Below W1.heap.size W1 w') (first|exact bb|exact am (Below.refl _ _) 1|exact dR _ _|exact(bb.setCell (Nat.le_refl _) _).setCell (Nat.le_refl _) _|exact bb.alloc bb.size _|exact((bb.alloc bb.size _).setCell bb.size _).setCell bb.size _|exact(bb.setCell hY5 _).setCell hY5 _)
  (first
   | (go_at_call 79;with_reducible refine Calls.mono (CA.out (W1.alloc (.cells #[.int .u64 0,.int .u64 0] 38)).drew (dR W1 _)) ?_;rintro e w5 ⟨rfl,hb5⟩;have bb:=ac (dR W1 _) hb5;have y7:=fD W1 38 [.int .u64 0,.int .u64 0] hb5;have hY5:W1.heap.size<=W1.heap.size:=Nat.le_refl _;have n0:=y7.cell (k:=0) rfl;have n1:=y7.cell (k:=1) rfl;have n2:=y7.free 0;have n3:=y7.free 1;have Y5:=aa y7;clear hb5 y7)
   | (go_at_call 79;with_reducible refine Calls.mono (CA.out _ (by first|exact bb|exact bb.drew|exact(Below.refl _ _).drew)) ?_;rintro e w5 ⟨rfl,hb5⟩;have bb:=ac (show Below W1.heap.size W1 _ from by first|exact bb|exact am bb _|exact(Below.refl _ _).drew|exact bb.drew|exact am (Below.refl _ _) 1) hb5;clear hb5))
 all_goals
  first
   | (obtain⟨W6,hW6⟩:∃W6,(w5.setCell ⟨W1.heap.size,0,none⟩ (.int .u64 (lo Z))).setCell ⟨W1.heap.size,1,none⟩ (.int .u64 (hi Z))=W6:=⟨_,rfl⟩;obtain⟨G,hG⟩:∃Y,W1.heap.size=Y:=⟨_,rfl⟩;have Y6:=aa (show Row W6 G 38 [.int .u64 (lo Z),.int .u64 (hi Z)] by rw[<-hW6,<-hG];exact(Y5.out.set_ 0 (.int .u64 (lo Z))).set_ 1 (.int .u64 (hi Z)));have bW:=aa (show Below W1.heap.size W1 W6 by rw[<-hW6];exact(bb.setCell (p:=⟨W1.heap.size,0,none⟩) hY5 _).setCell (p:=⟨W1.heap.size,1,none⟩) hY5 _);clear n0 n1 n2 n3 hY5 Y5)
   | (obtain⟨W6,hW6⟩:∃W6,w5.alloc (.cells #[.int .u64 (lo Z),.int .u64 (hi Z)] 38)=W6:=⟨_,rfl⟩;obtain⟨G,hG⟩:∃Y,w5.heap.size=Y:=⟨_,rfl⟩;have Y6:=aa (show Row W6 G 38 [.int .u64 (lo Z),.int .u64 (hi Z)] by rw[<-hW6,<-hG];exact Row.new w5 _ _);have bW:=aa (show Below W1.heap.size W1 W6 by rw[<-hW6];exact bb.alloc bb.size _))
  have HW6:=aa hW6
  have HG:=aa hG
  clear hW6 hG bb x0 x2 x3 y2 y3 y4 y5 CA
  go_upto_region 3 with(fail)
  rw[HW6.out,HG.out]
  clear HW6 HG
  have HB6:=aa (HB.out.call bW.out)
  cases B with
  | false=>
   have hld:=bG (cN (w:=W6)) (aX (w:=W6)) (ba hR) HB6.out.r
   have hst:=cL (vs:=ah R) (aX (w:=W6)) (ba hR) dt (bk _) HB6.out.o
   have R5:=aa (bd (vs:=ah R) HB6.out.o)
   have G5:=aU W6 (w.heap.size+1+1) (ah R).toArray
   have B5:=aa (show Below w.heap.size w (W6.setRow (w.heap.size+1+1) (ah R).toArray) from HB6.out.b.grown G5 HB6.out.b.size (fun k hk=>by injection hk with hk;omega))
   generalize W6.setRow (w.heap.size+1+1) (ah R).toArray=W5 at hst R5 B5
   have hld2:=bG (cN (w:=W5)) (aX (w:=W5)) (ba hR) R5.out
   generalize hX:(ah R).toArray=X at hld hst hld2
   have HX:=aa hX
   clear hX G5
   go_wp2_with (first|(refine bu 61 (.tmp 5) rfl rfl _ _ rfl hld ?_)|(refine aI 61 (.tmp 8) (.tmp 32) rfl rfl _ _ rfl rfl hst ?_)|fail)
   exact bodyPost_ret (bT (fn:=Tryz.f51) (t:=8) (u1:=9) (u2:=10) (u3:=11) (T:=61) rfl _ W5 _ _ _ rfl hld2) rfl ⟨by rw[HX.out];rfl,B5.out⟩
  | true=>
   have x1:=HB6.out.i.cell (k:=1) rfl
   have v0:=Y6.out.cell (k:=0) rfl
   have v1:=Y6.out.cell (k:=1) rfl
   have f0:=HB6.out.r.free (a*2)
   have f1:=HB6.out.r.free (a*2+1)
   have q0:=HB6.out.r.cell K0.out
   have q1:=HB6.out.r.cell K1.out
   obtain⟨W4,hW4⟩:∃W2,(W6.setCell ⟨w.heap.size+1,a*2,none⟩ (.int .u64 (lo Z))).setCell ⟨w.heap.size+1,a*2+1,none⟩ (.int .u64 (hi Z))=W2:=⟨_,rfl⟩
   have HB4:=aa (show PlB w W4 ⟨op,(a:Int),(b:Int),(c:Int),0⟩ (R.set a Z) by rw[<-hW4];exact HB6.out.set (i:=a) haR Z)
   have hR2:(R.set a Z).length=8:=by rw[List.length_set,hR]
   have HW4:=aa hW4
   clear hW4
   go_upto_region 21 with(first|go_region)
   rw[HW4.out]
   clear HW4 x1 v0 v1 f0 f1 q0 q1
   have hld:=bG (cN (w:=W4)) (aX (w:=W4)) (ba hR2) HB4.out.r
   have hst:=cL (vs:=ah (R.set a Z)) (aX (w:=W4)) (ba hR2) dt (bk _) HB4.out.o
   have R5:=aa (bd (vs:=ah (R.set a Z)) HB4.out.o)
   have G5:=aU W4 (w.heap.size+1+1) (ah (R.set a Z)).toArray
   have B5:=aa (show Below w.heap.size w (W4.setRow (w.heap.size+1+1) (ah (R.set a Z)).toArray) from HB4.out.b.grown G5 HB4.out.b.size (fun k hk=>by injection hk with hk;omega))
   generalize W4.setRow (w.heap.size+1+1) (ah (R.set a Z)).toArray=W5 at hst R5 B5
   have hld2:=bG (cN (w:=W5)) (aX (w:=W5)) (ba hR2) R5.out
   generalize hX:(ah (R.set a Z)).toArray=X at hld hst hld2
   have HX:=aa hX
   clear hX G5
   go_wp2_with (first|(refine bu 61 (.tmp 5) rfl rfl _ _ rfl hld ?_)|(refine aI 61 (.tmp 8) (.tmp 108) rfl rfl _ _ rfl rfl hst ?_)|fail)
   exact bodyPost_ret (bT (fn:=Tryz.f51) (t:=8) (u1:=9) (u2:=10) (u3:=11) (T:=61) rfl _ W5 _ _ _ rfl hld2) rfl ⟨by rw[HX.out];rfl,B5.out⟩
def TrS (w:World) (base B:Nat) (v:Value) (l:List Nat):Prop:=∃A n c,v=.slice A n c/\l.length=n/\n<=c/\(A=none->c=0)/\Far base A/\an w B A (ah l)
theorem TrS.call {w w':World} {base:Nat} {v:Value} {l:List Nat} (h:TrS w base w.heap.size v l) (hb:Below w.heap.size w w'):TrS w' base w'.heap.size v l:=by
 obtain⟨A,n,c,h1,h2,h3,h4,h5,h6⟩:=h
 exact⟨A,n,c,h1,h2,h3,h4,h5,(h6.below hb).more hb.size⟩
theorem TrS.own {w:World} {base b':Nat} {v:Value} {n:Nat} {l:List Nat} (h:w.ownsRow b' 38 2 v n (ah l)) (hl:l.length=n) (hb:base<=b'):TrS w base w.heap.size v l:=by
 obtain⟨A,c,h1,h2,h3,h4,h5⟩:=aW h
 exact⟨A,n,c,h1,hl,h3,h2,h4.more hb,h5⟩
structure PlX (x:Ins):Prop where
 o:0<=x.op/\x.op<=14
 a:0<=x.a/\x.a<8
 b:0<=x.b/\x.b<8
 c:0<=x.c/\x.c<8
 m:0<=x.imm/\x.imm<=18446744073709551615
 zb:x.op=0\/x.op=13\/x.op=14->x.b=0
 zc:x.op=0\/x.op=1\/x.op=12\/x.op=13\/x.op=14->x.c=0
 zm:x.op≠0->x.imm=0
def ve (c:Co) (x:Ins) (base B:Nat) (w:World) (e:Ending) (w':World):Prop:=
 ∃(vi' vt':Value) (z:Bool),e=.returned (.tuple #[.agg (ah (c.execC x).regs).toArray,vi',vt',.bool z])/\Below w.heap.size w w'/\cD w' B vi' (c.execC x).inp/\TrS w' base w'.heap.size vt' (c.execC x).trace /\
  c.execC x=if z=true then c.stop 2 else { c with regs:=(c.execC x).regs,inp:=(c.execC x).inp,trace:=(c.execC x).trace }
theorem tI (x:Ins) (c:Co) (vi vt:Value) (base B:Nat) (w:World) (hx:PlX x) (hs:SmallC c) (hBw:B<=w.heap.size) (hbw:base<=w.heap.size) (hI:Hid (cD w B vi c.inp)) (hT:Hid (TrS w base w.heap.size vt c.trace)) (ht:c.trace.length<=1000000) :
  Calls Tryz.prog 51 #[iv x.op x.a x.b x.c x.imm,.agg (ah c.regs).toArray,vi,vt] w (ve c x base B w):=by
 obtain⟨Ai,ni,ci,rfl,hil,hnc,hcm,hAi,hsi⟩:=hI.out
 obtain⟨At,nt,ct,rfl,htl,htc,hAt,hfar,hst⟩:=hT.out
 obtain⟨o,xa,xb,xc,m⟩:=x
 have hm:=hx.m
 obtain⟨a,rfl⟩:=Int.eq_ofNat_of_zero_le hx.a.1
 obtain⟨b,rfl⟩:=Int.eq_ofNat_of_zero_le hx.b.1
 obtain⟨d,rfl⟩:=Int.eq_ofNat_of_zero_le hx.c.1
 have ha:a<8:=by have:=hx.a.2;simp at this;omega
 have hb:b<8:=by have:=hx.b.2;simp at this;omega
 have hd:d<8:=by have:=hx.c.2;simp at this;omega
 have ho:=hx.o
 have zb:=hx.zb
 have zc:=hx.zc
 have zm:=hx.zm
 simp only at ho zb zc zm hm
 have hR:=hs.r8
 have regs:∀(R':List Nat),c.execC ⟨o,a,b,d,m⟩={ c with regs:=R' }->Calls Tryz.prog 51 #[iv o (a:Int) (b:Int) (d:Int) m,.agg (ah c.regs).toArray,.slice Ai ni ci,.slice At nt ct] w (il R' (.slice Ai ni ci) (.slice At nt ct) false w) ->
   Calls Tryz.prog 51 #[iv o (a:Int) (b:Int) (d:Int) m,.agg (ah c.regs).toArray,.slice Ai ni ci,.slice At nt ct] w (ve c ⟨o,a,b,d,m⟩ base B w):=fun R' hE h=>h.mono fun e w' he=>by
  obtain⟨rfl,hbl⟩:=he
  exact⟨_,_,false,by rw[hE],hbl,by rw[hE];exact hI.out.below (hbl.mono hBw),by rw[hE];exact hT.out.call hbl,by rw[hE];rfl⟩
 have cases_:o=0\/o=1\/o=11\/o=12\/o=13\/o=14\/(2<=o/\o<=10):=by omega
 rcases cases_ with rfl|rfl|rfl|rfl|rfl|rfl|h2
 ·obtain rfl:b=0:=by have:=zb (.inl rfl);omega
  obtain rfl:d=0:=by have:=zc (.inl rfl);omega
  refine regs _ ?_ (yw a m c.regs Ai At ni ci nt ct w ha hR hm)
  exact Co.setR_in c ha m.toNat
 ·obtain rfl:d=0:=by have:=zc (by omega);omega
  obtain rfl:m=0:=zm (by omega)
  refine regs _ ?_ (yv a b c.regs Ai At ni ci nt ct w ha hb hR)
  show c.setR (a:Int) (c.reg (b:Int))=_
  rw[Co.setR_in c ha,Co.reg_in c hb]
 ·obtain rfl:m=0:=zm (by omega)
  refine regs _ ?_ (vZ a b d c.regs Ai At ni ci nt ct w ha hb hd hR)
  show c.setR (a:Int) (eS (c.reg (b:Int)) (c.reg (d:Int)))=_
  rw[Co.setR_in c ha,Co.reg_in c hb,Co.reg_in c hd]
 ·obtain rfl:d=0:=by have:=zc (by omega);omega
  obtain rfl:m=0:=zm (by omega)
  refine regs _ ?_ (vY a b c.regs Ai At ni ci nt ct w ha hb hR)
  show c.setR (a:Int) (eU (c.reg (b:Int)))=_
  rw[Co.setR_in c ha,Co.reg_in c hb]
 ·obtain rfl:b=0:=by have:=zb (by omega);omega
  obtain rfl:d=0:=by have:=zc (by omega);omega
  obtain rfl:m=0:=zm (by omega)
  have hE:c.execC ⟨13,(a:Int),0,0,0⟩={ c with inp:=c.inp.tail,regs:=c.regs.set a (c.inp.headD 0) }:=Co.setR_in ({ c with inp:=c.inp.tail }:Co) ha (c.inp.headD 0)
  cases hin:c.inp with
  | nil=>
   rw[hin] at hil hE
   obtain rfl:ni=0:=by simpa using hil.symm
   refine(tJ a c.regs Ai At ci nt ct w ha hR).mono fun e w' he=>?_
   obtain⟨rfl,hbl⟩:=he
   have hIN:=hI.out.below (hbl.mono hBw)
   rw[hin] at hIN
   have hTT:=hT.out.call hbl
   refine⟨.slice Ai 0 ci,.slice At nt ct,false,?_,hbl,?_,?_,?_⟩
   ·exact congrArg (fun r:List Nat=>Ending.returned (.tuple #[.agg (ah r).toArray,.slice Ai 0 ci,.slice At nt ct,.bool false])) (by rw[show c.execC ⟨13,(a:Int),((0:Nat):Int),((0:Nat):Int),0⟩=_ from hE];rfl)
   ·rw[show c.execC ⟨13,(a:Int),((0:Nat):Int),((0:Nat):Int),0⟩=_ from hE];exact hIN
   ·rw[show c.execC ⟨13,(a:Int),((0:Nat):Int),((0:Nat):Int),0⟩=_ from hE];exact hTT
   ·rw[show c.execC ⟨13,(a:Int),((0:Nat):Int),((0:Nat):Int),0⟩=_ from hE];rfl
  | cons v r=>
   rw[hin] at hil hE hsi
   obtain⟨j,rfl⟩:∃j,ni=j+1:=⟨r.length,by simpa using hil.symm⟩
   obtain⟨bI,oI,rfl,-,-⟩:=hsi 0 (.int .u64 (v:Int)) rfl
   have hIN:=hI
   rw[hin] at hIN
   refine(tK a v j ci r bI oI c.regs At nt ct B w ha hR hBw hIN (hs.iv v (by rw[hin];simp))).mono fun e w' he=>?_
   obtain⟨vi',⟨rfl,hbl⟩,hIN'⟩:=he
   have hTT:=hT.out.call hbl
   refine⟨vi',.slice At nt ct,false,?_,hbl,?_,?_,?_⟩
   ·exact congrArg (fun r:List Nat=>Ending.returned (.tuple #[.agg (ah r).toArray,vi',.slice At nt ct,.bool false])) (by rw[show c.execC ⟨13,(a:Int),((0:Nat):Int),((0:Nat):Int),0⟩=_ from hE];rfl)
   ·rw[show c.execC ⟨13,(a:Int),((0:Nat):Int),((0:Nat):Int),0⟩=_ from hE];exact hIN'
   ·rw[show c.execC ⟨13,(a:Int),((0:Nat):Int),((0:Nat):Int),0⟩=_ from hE];exact hTT
   ·rw[show c.execC ⟨13,(a:Int),((0:Nat):Int),((0:Nat):Int),0⟩=_ from hE];rfl
 ·obtain rfl:b=0:=by have:=zb (by omega);omega
  obtain rfl:d=0:=by have:=zc (by omega);omega
  obtain rfl:m=0:=zm (by omega)
  have hE:c.execC ⟨14,(a:Int),((0:Nat):Int),((0:Nat):Int),0⟩={ c with trace:=c.trace++[c.regs.getD a 0] }:=by
   show({ c with trace:=c.trace++[c.reg (a:Int)] }:Co)=_
   rw[Co.reg_in c ha]
  refine(vX a c.regs c.trace Ai At ni ci nt ct w ha hR (aa htl) (aa hAt) (aa htc) (by omega) (aa hst)).mono fun e w' he=>?_
  obtain⟨vt',⟨rfl,hbl⟩,hown⟩:=he
  have hII:=hI.out.below (hbl.mono hBw)
  refine⟨.slice Ai ni ci,vt',false,?_,hbl,?_,?_,?_⟩
  ·rw[hE]
  ·rw[hE];exact hII
  ·rw[hE];exact TrS.own hown (by simp[htl]) hbw
  ·rw[hE];rfl
 ·obtain rfl:m=0:=zm (by omega)
  have hV:c.regs.getD b 0<ae:=by rw[<-Co.reg_in c hb];exact hs.reg _
  have hU:c.regs.getD d 0<ae:=by rw[<-Co.reg_in c hd];exact hs.reg _
  have hE:c.execC ⟨o,(a:Int),(b:Int),(d:Int),0⟩=if cO o (c.regs.getD d 0) then { c with regs:=c.regs.set a (bJ o (c.regs.getD b 0) (c.regs.getD d 0)) } else c.stop 2:=by
   unfold Co.execC
   simp only
   rw[if_neg (by omega),if_neg (by omega),if_neg (by omega),if_neg (by omega),if_neg (by omega),if_neg (by omega),if_neg (by omega),if_neg (by omega)]
   unfold Co.applyC
   simp only
   rw[Co.reg_in c hb,Co.reg_in c hd,Co.setR_in c ha]
  have hp:=yu o a b d c.regs Ai At ni ci nt ct w h2 ha hb hd hR (aa hV) (aa hU)
  cases hok:cO o (c.regs.getD d 0) with
  | true=>
   rw[hok] at hp hE
   exact regs _ hE hp
  | false=>
   rw[hok] at hp hE
   have hE2:c.execC ⟨o,(a:Int),(b:Int),(d:Int),0⟩=c.stop 2:=hE
   refine hp.mono fun e w' he=>?_
   obtain⟨rfl,hbl⟩:=he
   exact⟨_,_,true,by rw[hE2];rfl,hbl,by rw[hE2];exact hI.out.below (hbl.mono hBw),by rw[hE2];exact hT.out.call hbl,by rw[hE2];rfl⟩
structure Sk where
 bs:List Int
 us:List Bool
 sp:Nat
structure Sk.Ok (S:Sk):Prop where
 len:S.us.length=S.bs.length
 most:S.bs.length<=1048576
 sp:S.sp<=S.bs.length
 byt:∀z∈S.bs,0<=z/\z<=255
def cV (S:Sk) (n:Int):Int:=if n<0 then 4 else if(S.sp:Int)<n then 9 else 0
def eH (S:Sk) (n:Int):Int:=if n<0\/(S.bs.length:Int)-S.sp<n then 4 else 0
def bN (S:Sk) (off n:Int):Bool:=szB n&&decide (0<=off/\off+n<=(S.bs.length:Int)-S.sp)
def di (S:Sk) (n:Nat):Sk:=⟨S.bs,splice S.us (S.sp-n) (List.replicate n false),S.sp-n⟩
def dw (S:Sk) (n:Nat):Sk:=⟨S.bs,S.us,S.sp+n⟩
def dg (S:Sk) (at_ n:Nat):Bool:=((S.us.drop at_).take n).all id
def dz (S:Sk) (at_ n:Nat):List Int:=(S.bs.drop at_).take n
def iU (S:Sk) (at_:Nat) (zs:List Int):Sk:=⟨splice S.bs at_ zs,splice S.us at_ (List.replicate zs.length true),S.sp⟩
def aQ (S:Sk) (at_ n X:Nat):Sk:=iU S at_ (bS X n)
def bg (n sp:Nat):Sk:=⟨List.replicate n 0,List.replicate n false,sp⟩
theorem jz {α:Type} (L:List α) (off:Nat) (cs:List α) (h:off+cs.length<=L.length) (k:Nat) :
  (splice L off cs)[k]?=if k<off then L[k]? else if k<off+cs.length then cs[k-off]? else L[k]?:=by
 unfold splice
 have h1:(L.take off).length=off:=by simp;omega
 split
 ·rename_i hk
  rw[List.getElem?_append_left (by omega),List.getElem?_take,if_pos hk]
 ·rename_i hk
  rw[List.getElem?_append_right (by omega),h1]
  split
  ·rename_i h2
   rw[List.getElem?_append_left (by omega)]
  ·rename_i h2
   rw[List.getElem?_append_right (by omega),List.getElem?_drop]
   congr 1;omega
theorem mC {α β:Type} (f:α->β) (L:List α) (off:Nat) (cs:List α):(splice L off cs).map f=splice (L.map f) off (cs.map f):=by
 simp[splice,List.map_take,List.map_drop]
theorem qY {α:Type} {L cs:List α} {off:Nat} {P:α->Prop} (h1:∀z∈L,P z) (h2:∀z∈cs,P z):∀z∈splice L off cs,P z:=by
 intro z hz
 simp only[splice,List.mem_append] at hz
 rcases hz with hz|hz|hz
 ·exact h1 z (List.mem_of_mem_take hz)
 ·exact h2 z hz
 ·exact h1 z (List.mem_of_mem_drop hz)
theorem iG {α:Type} (L cs:List α) (off k:Nat) (z:α) (h:off+cs.length<=L.length) (hz:cs[k]?=some z):(splice L off (cs.take k)).set (off+k) z=splice L off (cs.take (k+1)):=by
 have hk:k<cs.length:=by
  rcases Nat.lt_or_ge k cs.length with h1|h1
  ·exact h1
  ·rw[List.getElem?_eq_none h1] at hz;simp at hz
 apply List.ext_getElem?
 intro j
 rw[List.getElem?_set,jz _ _ _ (by simp;omega),jz _ _ _ (by simp;omega),length_splice _ _ _ (by simp;omega)]
 simp only[List.length_take,List.getElem?_take]
 by_cases e:off+k=j
 ·subst e
  rw[if_pos rfl,if_pos (by omega),if_neg (by omega),if_pos (by omega),if_pos (by omega),show off+k-off=k by omega,hz]
 ·rw[if_neg e]
  by_cases h1:j<off
  ·rw[if_pos h1,if_pos h1]
  ·rw[if_neg h1,if_neg h1]
   by_cases h2:j<off+min k cs.length
   ·rw[if_pos h2,if_pos (by omega),if_pos (by omega),if_pos (by omega)]
   ·rw[if_neg h2,if_neg (by omega)]
theorem gg {α:Type} (L:List α) (off:Nat) (h:off<=L.length):splice L off []=L:=by simp[splice]
section
variable {S:Sk}
theorem ix {off n:Int}:bN S off n=true↔szB n=true/\0<=off/\off+n<=(S.bs.length:Int)-S.sp:=by simp[bN]
theorem Sk.Ok.push (h:S.Ok) {n:Nat} (hn:n<=S.sp):(di S n).Ok:=by
 have:=h.len;have:=h.sp
 refine⟨?_,h.most,by show S.sp-n<=_;have:=h.sp;show S.sp-n<=S.bs.length;omega,h.byt⟩
 show(splice _ _ _).length=S.bs.length
 rw[length_splice _ _ _ (by simp;omega),h.len]
theorem Sk.Ok.pop (h:S.Ok) {n:Nat} (hn:S.sp+n<=S.bs.length):(dw S n).Ok:=⟨h.len,h.most,hn,h.byt⟩
theorem Sk.Ok.put (h:S.Ok) {a:Nat} {zs:List Int} (ha:a+zs.length<=S.bs.length) (hz:∀z∈zs,0<=z/\z<=255):(iU S a zs).Ok:=by
 have:=h.len
 refine⟨?_,?_,?_,qY h.byt hz⟩
 ·show(splice _ _ _).length=(splice _ _ _).length
  rw[length_splice _ _ _ (by simp;omega),length_splice _ _ _ ha,h.len]
 ·show(splice _ _ _).length<=_
  rw[length_splice _ _ _ ha];exact h.most
 ·show S.sp<=(splice _ _ _).length
  rw[length_splice _ _ _ ha];exact h.sp
theorem Sk.Ok.store (h:S.Ok) {a n X:Nat} (ha:a+n<=S.bs.length):(aQ S a n X).Ok:=h.put (by rw[bH];exact ha) (kF X n)
theorem iq {a:Nat} {zs:List Int} (ha:a+zs.length<=S.bs.length):(iU S a zs).bs.length=S.bs.length:=length_splice _ _ _ ha
theorem j3 {n sp:Nat} (hn:n<=1048576) (hs:sp<=n):(bg n sp).Ok:=⟨by simp[bg],by simp[bg];exact hn,by simp[bg];exact hs,fun z hz=>by rw[List.eq_of_mem_replicate (show z∈List.replicate n 0 from hz)];omega⟩
theorem oD {a n:Nat} (h:a+n<=S.us.length):dg S a n=true↔∀k,k<n->S.us[a+k]?=some true:=by
 unfold dg
 rw[List.all_eq_true]
 constructor
 ·intro h1 k hk
  have hl:a+k<S.us.length:=by omega
  rw[List.getElem?_eq_getElem hl]
  congr 1
  refine h1 _ (List.mem_of_getElem? (i:=k) ?_)
  rw[List.getElem?_take,if_pos hk,List.getElem?_drop,List.getElem?_eq_getElem hl]
 ·intro h1 b hb
  obtain⟨k,hk,e⟩:=List.getElem_of_mem hb
  have hk':k<n:=by simp at hk;omega
  have:=h1 k hk'
  rw[<-e]
  simp only[List.getElem_take,List.getElem_drop,id]
  rw[List.getElem?_eq_getElem (by omega)] at this
  injection this
theorem fV {a n:Nat} (h:a+n<=S.bs.length):(dz S a n).length=n:=by simp[dz];omega
theorem iy (h:S.Ok) (a n:Nat):∀z∈dz S a n,0<=z/\z<=255:=fun z hz=>h.byt z (List.mem_of_mem_drop (List.mem_of_mem_take hz))
theorem pA (zs:List Int) (h:∀z∈zs,0<=z/\z<=255):∀n,n<=zs.length->bS (aO zs) n=zs.take n:=by
 intro n
 induction n with
 | zero=>intro _;simp[bS]
 | succ n ih=>
  intro hn
  rw[bS,ih (by omega),nz (List.getElem?_eq_getElem (show n<zs.length by omega))]
  congr 2
  have hb:=h zs[n] (List.getElem_mem _)
  have hs:aO zs=aO (zs.take n)+zs[n].toNat*2 ^ (8*n)+aO (zs.drop (n+1))*2 ^ (8*(n+1)):=by
   have hap:∀(xs ys:List Int),aO (xs++ys)=aO xs+aO ys*2 ^ (8*xs.length):=by
    intro xs ys
    induction xs with
    | nil=>simp[aO]
    | cons y r ih=>
     simp only[List.cons_append,aO,ih,List.length_cons]
     rw[show 8*(r.length+1)=8*r.length+8 by omega,Nat.pow_add,Nat.mul_add,show(2:Nat) ^ 8=256 by decide]
     rw[show 256*(aO ys*2 ^ (8*r.length))=aO ys*(2 ^ (8*r.length)*256) by rw[Nat.mul_comm 256,Nat.mul_assoc]]
     omega
   conv=>lhs;rw[<-List.take_append_drop (n+1) zs]
   rw[hap,gQ zs n _ (List.getElem?_eq_getElem (show n<zs.length by omega)),List.length_take,Nat.min_eq_left (by omega)]
  have ht:=fe zs n (by omega) h
  unfold fK
  rw[hs,show 8*(n+1)=8*n+8 by omega,Nat.pow_add,show(2:Nat) ^ 8=256 by decide]
  generalize aO (zs.take n)=x at *
  generalize aO (zs.drop (n+1))=y at *
  generalize 2 ^ (8*n)=p at *
  have hp:0<p:=by omega
  rw[show x+zs[n].toNat*p+y*(p*256)=x+(zs[n].toNat+y*256)*p by rw[Nat.add_mul,Nat.mul_assoc y 256 p,Nat.mul_comm 256 p];omega]
  rw[Nat.add_mul_div_right _ _ hp,Nat.div_eq_of_lt ht,Nat.zero_add]
  omega
theorem yH (h:S.Ok) {dst from_ n:Nat} (hf:from_+n<=S.bs.length):aQ S dst n (aO ((dz S from_ n).take 16))=iU S dst (dz S from_ n)\/16<n:=by
 rcases Nat.lt_or_ge 16 n with h16|h16
 ·exact .inr h16
 ·left
  have hl:=fV hf
  rw[List.take_of_length_le (by omega)]
  unfold aQ
  rw[pA _ (iy h _ _) n (by omega),List.take_of_length_le (by omega)]
end
theorem kQ {α:Type} {l:List α} {k:Nat} (h:k<l.length):l.take (k+1)=l.take k++[l[k]]:=by
 rw[List.take_add_one,List.getElem?_eq_getElem h];rfl
structure Fm where
 params:Int
 size:Int
 code:List Ins
abbrev Tg:=List Fm
def Bt:List (Int×Int×Int×Bool):=
  [(1,0,0,true),(1,1,0,false),(1,1,1,false),(1,1,1,false),(1,1,1,false),(1,1,1,false),(1,1,1,false),(1,1,1,false),(1,1,1,false),(1,1,1,false),(1,1,1,false),(1,1,1,false),
   (1,1,0,false),(1,0,0,false),(1,0,0,false),(1,2,3,false),(2,1,3,false),(2,2,3,false),(0,0,0,false),(0,0,0,false),(5,0,0,false),(1,5,0,false),(4,0,0,false),(0,0,0,false),(0,0,0,true)]
def ap (op:Int):Int×Int×Int×Bool:=Bt.getD op.toNat (0,0,0,false)
def aB (N C k n:Int):Int:=
 if k=0 then(if n=0 then 0 else 2) else if k=1 then(if ax n 8 then 0 else 4) else if k=4 then(if ax n N then 0 else 4) else if k=3 then(if szB n then 0 else 5) else if k=5 then(if ax n C then 0 else 6) else 0
def exB (op:Int):Bool:=ax op 25&&(!decide (op=18)&&!decide (op=19))
def rdB (op:Int):Bool:=decide (op=15)||decide (op=17)
def wrB (op:Int):Bool:=decide (op=16)||decide (op=17)
def rdI (x:Ins):Int×Int:=if rdB x.op then(x.b,x.c) else(0,0)
def wrI (x:Ins):Int×Int:=if wrB x.op then(x.a,x.c) else(0,0)
def el (P S:Int) (x:Ins):Bool:=a9 (rdI x).1 (rdI x).2 (S+16*P)&&a9 (wrI x).1 (wrI x).2 S
def kq (l:List Int) (cov:Bool):Int:=if l.contains 2 then 2 else if l.contains 4 then 4 else if l.contains 5 then 5 else if cov=false then 4 else if l.contains 6 then 6 else 0
def eJ (N C:Int) (x:Ins):List Int:=fH (aB N C (ap x.op).1 x.a) (aB N C (ap x.op).2.1 x.b) (aB N C (ap x.op).2.2.1 x.c) (ap x.op).2.2.2 x.imm
def aC (N:Nat) (f:Fm) (x:Ins):Int:=if exB x.op=false then 4 else kq (eJ N f.code.length x) (el f.params f.size x)
def shB (Al:Int) (f:Fm):Bool:=aR Al&&(ax f.params 9&&(ax f.size 2147483520&&decide (f.size % Al=0)))
def fmE (Al:Int) (N:Nat) (f:Fm):Int:=
 if shB Al f=false then 4
 else if 1024<f.code.length then 3
 else if cC (f.code.map (aC N f))≠0 then cC (f.code.map (aC N f))
 else if cB f.code=false then 6 else 0
def dS (F:Tg) (f:Fm) (x:Ins):Bool:=!(decide (x.op=22)&&decide (f.size<16*((F[x.a.toNat]?).map Fm.params).getD 0))
def dD (F:Tg) (f:Fm):Bool:=f.code.all (dS F f)
def tgE (Al:Int) (F:Tg):Int:=
 if 80<F.length then 3
 else match F with
  | []=>4
  | f::_=>if aR Al=false\/Al<16 then 5 else if f.params≠0 then 7 else if cC (F.map (fmE Al F.length))≠0 then cC (F.map (fmE Al F.length)) else if F.all (dD F) then 0 else 7
def eN (F:Tg):Prop:=∀f∈F,∀x∈f.code,0<=x.imm/\x.imm<=18446744073709551615
structure Tm where
 c:Co
 st:List (Nat×Nat)
 mem:Sk
 deep:Nat
def fX (F:Tg) (f:Nat):Fm:=F.getD f ⟨0,0,[]⟩
def fsz (F:Tg) (f:Nat):Nat:=(fX F f).size.toNat
def Tm.top (s:Tm):Nat×Nat:=s.st.getLastD (0,0)
def Tm.setTop (s:Tm) (a:Nat×Nat):Tm:={ s with st:=s.st.dropLast++[a] }
def Tm.stop (s:Tm) (k:Int):Tm:={ s with c:=s.c.stop k }
def Tm.enter (F:Tg) (T0:Nat) (s:Tm) (f:Nat):Tm:=
 if s.mem.sp<fsz F f then s.stop 5 else { s with mem:=di s.mem (fsz F f),st:=s.st++[(f,0)],deep:=max s.deep (T0-(s.mem.sp-fsz F f)) }
def Tm.leave (F:Tg) (s:Tm):Tm:=
 let t:Tm:={ s with mem:=dw s.mem (fsz F s.top.1),st:=s.st.dropLast }
 if s.st.length<=1 then { t with c:=t.c.ret } else t
def Tm.access (s:Tm) (x:Ins):Tm:=
  if x.op=15 then
    (if bN s.mem x.b x.c=false then { s with c:=(s.c.setR x.a 0).stop 6 }
     else if dg s.mem (s.mem.sp+x.b.toNat) x.c.toNat=false then { s with c:=(s.c.setR x.a 0).stop 3 }
     else { s with c:=s.c.setR x.a (aO (dz s.mem (s.mem.sp+x.b.toNat) x.c.toNat)) })
  else if x.op=16 then
    (if bN s.mem x.a x.c=false then s.stop 6 else { s with mem:=aQ s.mem (s.mem.sp+x.a.toNat) x.c.toNat (s.c.reg x.b) })
  else
    (if bN s.mem x.a x.c=false\/bN s.mem x.b x.c=false then s.stop 6
     else if dg s.mem (s.mem.sp+x.b.toNat) x.c.toNat=false then s.stop 3
     else { s with mem:=iU s.mem (s.mem.sp+x.a.toNat) (dz s.mem (s.mem.sp+x.b.toNat) x.c.toNat) })
def sY (F:Tg) (f pc:Nat):Ins:=(fX F f).code.getD pc ⟨24,0,0,0,0⟩
def Tm.cur (F:Tg) (s:Tm):Ins:=sY F s.top.1 s.top.2
def Co.more (c:Co):Co:={ c with steps:=c.steps+1 }
def Tm.fetched (s:Tm) (x:Ins):Tm:=({ s with c:=s.c.more }:Tm).setTop (s.top.1,(s.c.more.next x (s.top.2:Int)).toNat)
def Tm.exec (F:Tg) (T0:Nat) (s:Tm) (x:Ins):Tm:=
 if 15<=x.op/\x.op<=17 then s.access x else if x.op=22 then s.enter F T0 x.a.toNat else if x.op=23 then s.leave F else { s with c:=s.c.execC x }
def Tm.step (F:Tg) (T0:Nat) (s:Tm):Tm:=(s.fetched (s.cur F)).exec F T0 (s.cur F)
def cZ (F:Tg) (T0:Nat):Nat->Tm->Tm
 | 0,s=>s
 | k+1,s=>if s.c.ended then s else cZ F T0 k (s.step F T0)
def Tm.fuelled (s:Tm):Tm:=if s.c.ended then s else s.stop 4
def jG (inp:List Nat):Co:=⟨inp,0,0,0,[],0,List.replicate 8 0,false⟩
def aK (Al:Nat) (size:Nat):Nat:=size-size % Al
def de (Al:Nat) (inp:List Nat) (size:Nat):Tm:=⟨jG inp,[],bg size (aK Al size),0⟩
def fg (Al:Nat) (F:Tg) (inp:List Nat) (size:Nat):Tm:=(de Al inp size).enter F (aK Al size) 0
def gU (Al:Nat) (F:Tg) (inp:List Nat) (fuel size:Nat):Tm:=
 if fuel=0 then(de Al inp size).stop 4 else(cZ F (aK Al size) fuel (fg Al F inp size)).fuelled
section
variable {F:Tg} {T0:Nat} {s:Tm}
theorem lJ (h:s.c.ended=true):∀k,cZ F T0 k s=s
 | 0=>rfl
 | k+1=>by rw[cZ,if_pos h]
theorem nO (n:Nat):∀(m:Nat) (s:Tm),cZ F T0 (n+m) s=cZ F T0 m (cZ F T0 n s):=by
 induction n with
 | zero=>intro m s;rw[Nat.zero_add];rfl
 | succ n ih=>
  intro m s
  rw[show n+1+m=(n+m)+1 by omega,cZ,cZ]
  by_cases h:s.c.ended=true
  ·rw[if_pos h,if_pos h,lJ h]
  ·rw[if_neg h,if_neg h,ih]
theorem rT (k:Nat) (s:Tm):cZ F T0 (k+1) s=if(cZ F T0 k s).c.ended then cZ F T0 k s else(cZ F T0 k s).step F T0:=by
 rw[nO k 1 s,cZ]
 rfl
def mn (c:Co):Prop:=c.ended=true->0<=c.kind/\c.kind<=6/\c.kind≠4
structure Moves (s t:Tm):Prop where
 steps:t.c.steps=s.c.steps
 trace:∃l,t.c.trace=s.c.trace++l
 tl:t.c.trace.length<=s.c.trace.length+1
 kind:mn t.c
 deep:s.deep<=t.deep
theorem Moves.of {t:Tm} (h1:t.c.steps=s.c.steps) (h2:t.c.trace=s.c.trace) (h3:mn t.c) (h4:s.deep<=t.deep):Moves s t:=⟨h1,⟨[],by rw[h2,List.append_nil]⟩,by rw[h2];omega,h3,h4⟩
theorem jn {c:Co} (h:c.ended=false):mn c:=fun h2=>by rw[h] at h2;cases h2
theorem fJ {c:Co} {k:Int} (h:0<=k/\k<=6/\k≠4):mn (c.stop k):=fun _=>h
theorem oM (c:Co) (i:Int) (v:Nat):(c.setR i v).steps=c.steps/\(c.setR i v).trace=c.trace/\(c.setR i v).ended=c.ended:=by
 obtain⟨_,_,_,_,e6,e7,e8⟩:=c.setR_keeps i v
 exact⟨e7,e6,e8⟩
theorem pG (x:Ins) (h:s.c.ended=false):Moves s (s.access x):=by
 obtain⟨a1,a2,_⟩:=oM s.c x.a 0
 unfold Tm.access
 split
 ·split
  ·exact Moves.of a1 a2 (fJ (by decide)) (Nat.le_refl _)
  ·split
   ·exact Moves.of a1 a2 (fJ (by decide)) (Nat.le_refl _)
   ·obtain⟨b1,b2,b3⟩:=oM s.c x.a (aO (dz s.mem (s.mem.sp+x.b.toNat) x.c.toNat))
    exact Moves.of b1 b2 (jn (by rw[b3];exact h)) (Nat.le_refl _)
 ·split
  ·split
   ·exact Moves.of rfl rfl (fJ (by decide)) (Nat.le_refl _)
   ·exact Moves.of rfl rfl (jn h) (Nat.le_refl _)
  ·split
   ·exact Moves.of rfl rfl (fJ (by decide)) (Nat.le_refl _)
   ·split
    ·exact Moves.of rfl rfl (fJ (by decide)) (Nat.le_refl _)
    ·exact Moves.of rfl rfl (jn h) (Nat.le_refl _)
theorem lK (f:Nat) (h:s.c.ended=false):Moves s (s.enter F T0 f):=by
 unfold Tm.enter
 split
 ·exact Moves.of rfl rfl (fJ (by decide)) (Nat.le_refl _)
 ·exact Moves.of rfl rfl (jn h) (Nat.le_max_left _ _)
theorem qc (h:s.c.ended=false):Moves s (s.leave F):=by
 unfold Tm.leave
 dsimp only
 split
 ·exact Moves.of rfl rfl (fJ (c:={ s.c with res:=s.c.reg 0 }) (k:=0) (by decide)) (Nat.le_refl _)
 ·exact Moves.of rfl rfl (jn h) (Nat.le_refl _)
theorem sj (x:Ins) (h:s.c.ended=false):Moves s (s.exec F T0 x):=by
 unfold Tm.exec
 split
 ·exact pG x h
 ·split
  ·exact lK _ h
  ·split
   ·exact qc h
   ·have hm:=mY s.c x
    refine⟨hm.steps,hm.trace,hm.tl,fun he=>?_,Nat.le_refl _⟩
    rcases hm.kind he with h2|h2
    ·rw[h] at h2;cases h2
    ·exact⟨h2.1,by show(s.c.execC x).kind<=6;omega,by show(s.c.execC x).kind≠4;omega⟩
structure Moved1 (s t:Tm):Prop where
 steps:t.c.steps=s.c.steps+1
 trace:∃l,t.c.trace=s.c.trace++l
 tl:t.c.trace.length<=s.c.trace.length+1
 kind:mn t.c
 deep:s.deep<=t.deep
theorem lG (h:s.c.ended=false):Moved1 s (s.step F T0):=by
 have hm:=sj (F:=F) (T0:=T0) (s:=s.fetched (s.cur F)) (s.cur F) h
 exact⟨hm.steps,hm.trace,hm.tl,hm.kind,hm.deep⟩
structure WentT (k:Nat) (s t:Tm):Prop where
 most:t.c.steps<=s.c.steps+k
 least:s.c.steps<=t.c.steps
 all:t.c.ended=false->t.c.steps=s.c.steps+k
 trace:∃l,t.c.trace=s.c.trace++l
 kind:mn t.c
 deep:s.deep<=t.deep
theorem mT:∀(k:Nat) (s:Tm),mn s.c->WentT k s (cZ F T0 k s)
 | 0,s,h=>⟨Nat.le_refl _,Nat.le_refl _,fun _=>rfl,⟨[],by rw[List.append_nil];rfl⟩,h,Nat.le_refl _⟩
 | k+1,s,h=>by
  rw[cZ]
  by_cases he:s.c.ended=true
  ·rw[if_pos he]
   exact⟨by omega,Nat.le_refl _,(fun h2=>by rw[he] at h2;cases h2),⟨[],by rw[List.append_nil]⟩,h,Nat.le_refl _⟩
  ·rw[if_neg he]
   have he':s.c.ended=false:=by simpa using he
   have hm:=lG (F:=F) (T0:=T0) he'
   have hw:=mT k (s.step F T0) hm.kind
   have h1:=hm.steps
   obtain⟨l1,hl1⟩:=hm.trace
   obtain⟨l2,hl2⟩:=hw.trace
   exact⟨by have:=hw.most;omega,by have:=hw.least;omega,fun h2=>by have:=hw.all h2;omega,⟨l1++l2,by rw[hl2,hl1,List.append_assoc]⟩,hw.kind,Nat.le_trans hm.deep hw.deep⟩
theorem n9 (s:Tm):s.fuelled.c.steps=s.c.steps/\s.fuelled.c.trace=s.c.trace/\s.fuelled.deep=s.deep:=by
 unfold Tm.fuelled;split<;>exact⟨rfl,rfl,rfl⟩
end
section
variable {F:Tg} {Al:Nat} {inp:List Nat} {size:Nat}
theorem jM:Moves (de Al inp size) (fg Al F inp size):=lK _ rfl
theorem jd {n:Nat} (h:n≠0):gU Al F inp n size=(cZ F (aK Al size) n (fg Al F inp size)).fuelled:=by unfold gU;rw[if_neg h]
theorem te (n:Nat):WentT n (fg Al F inp size) (cZ F (aK Al size) n (fg Al F inp size)):=mT n _ jM.kind
theorem tf (n:Nat):(gU Al F inp n size).c.steps<=n:=by
 by_cases h0:n=0
 ·subst h0;exact Nat.le_refl _
 ·rw[jd h0,(n9 _).1]
  have hw:=(te (Al:=Al) (F:=F) (inp:=inp) (size:=size) n).most
  have:=(jM (F:=F) (Al:=Al) (inp:=inp) (size:=size)).steps
  have h1:(de Al inp size).c.steps=0:=rfl
  omega
end
abbrev kv (A1:Option Addr) (n1 c1:Nat) (A2:Option Addr) (n2 c2:Nat) (p:Int):Value:=.agg #[.slice A1 n1 c1,.slice A2 n2 c2,.int .i64 p]
def bh (l:List Bool):List Value:=l.map Value.bool
theorem dn (l:List Bool):(bh l).length=l.length:=by simp[bh]
theorem dq (l:List Int):(aq l).length=l.length:=by simp[aq]
theorem sy (l:List Bool):∀v∈bh l,v.oneCell'=true:=by
 intro v hv
 simp only[bh,List.mem_map] at hv
 obtain⟨b,_,rfl⟩:=hv
 rfl
theorem lN (l:List Int):∀v∈aq l,v.oneCell'=true:=by
 intro v hv
 simp only[aq,List.mem_map] at hv
 obtain⟨b,_,rfl⟩:=hv
 rfl
theorem la {l:List Bool} {k:Nat} {b:Bool} (h:l[k]?=some b):(bh l)[k]?=some (.bool b):=by simp[bh,List.getElem?_map,h]
theorem fj (L:List Bool) (off:Nat) (cs:List Bool):bh (splice L off cs)=splice (bh L) off (bh cs):=mC _ _ _ _
theorem iA (L:List Int) (off:Nat) (cs:List Int):aq (splice L off cs)=splice (aq L) off (aq cs):=mC _ _ _ _
structure StkAt (w:World) (B:Nat) (A1:Option Addr) (c1:Nat) (A2:Option Addr) (c2:Nat) (S:Sk):Prop where
 ok:S.Ok
 k1:A1=none->c1=0
 k2:A2=none->c2=0
 m1:S.bs.length<=c1
 m2:S.bs.length<=c2
 s1:an w B A1 (aq S.bs)
 s2:an w B A2 (bh S.us)
abbrev sv (A1:Option Addr) (c1:Nat) (A2:Option Addr) (c2:Nat) (S:Sk):Value:=kv A1 S.bs.length c1 A2 S.bs.length c2 (S.sp:Int)
section
variable {w w':World} {B B':Nat} {A1 A2:Option Addr} {c1 c2:Nat} {S:Sk}
theorem StkAt.below (h:StkAt w B A1 c1 A2 c2 S) (hb:Below B w w'):StkAt w' B A1 c1 A2 c2 S:=⟨h.ok,h.k1,h.k2,h.m1,h.m2,h.s1.below hb,h.s2.below hb⟩
theorem StkAt.more (h:StkAt w B A1 c1 A2 c2 S) (hB:B<=B'):StkAt w B' A1 c1 A2 c2 S:=⟨h.ok,h.k1,h.k2,h.m1,h.m2,h.s1.more hB,h.s2.more hB⟩
theorem StkAt.call (h:StkAt w w.heap.size A1 c1 A2 c2 S) (hb:Below w.heap.size w w'):StkAt w' w'.heap.size A1 c1 A2 c2 S:=(h.below hb).more hb.size
theorem StkAt.alloc (h:StkAt w w.heap.size A1 c1 A2 c2 S) (o:Obj):StkAt (w.alloc o) (w.alloc o).heap.size A1 c1 A2 c2 S:=h.call (ag w o)
theorem StkAt.keep (h:StkAt w B A1 c1 A2 c2 S) (hk:∀p:Addr,p.block<B->w'.cell? p=w.cell? p):StkAt w' B A1 c1 A2 c2 S:=⟨h.ok,h.k1,h.k2,h.m1,h.m2,h.s1.keep hk,h.s2.keep hk⟩
theorem StkAt.drewN (h:StkAt w B A1 c1 A2 c2 S) (n:Nat):StkAt (w.drewN n) B A1 c1 A2 c2 S:=h.keep fun _ _=>rfl
theorem StkAt.pop (h:StkAt w B A1 c1 A2 c2 S) {n:Nat} (hn:S.sp+n<=S.bs.length):StkAt w B A1 c1 A2 c2 (dw S n):=⟨h.ok.pop hn,h.k1,h.k2,h.m1,h.m2,h.s1,h.s2⟩
theorem StkAt.cut (h:StkAt w B A1 c1 A2 c2 S) (a n:Nat):an w B (A1.map (·.add a)) (aq (dz S a n)):=by
 have:=(h.s1.drop a).take n
 unfold dz aq at *
 rwa[<-List.map_drop,<-List.map_take] at this
theorem StkAt.cutB (h:StkAt w B A1 c1 A2 c2 S) (a n:Nat):an w B (A2.map (·.add a)) (bh ((S.us.drop a).take n)):=by
 have:=(h.s2.drop a).take n
 unfold bh at *
 rwa[<-List.map_drop,<-List.map_take] at this
end
structure StkOwn (w:World) (base:Nat) (A1:Option Addr) (c1:Nat) (A2:Option Addr) (c2:Nat) (S:Sk) (t1 t2:TypeId):Prop where
 ok:S.Ok
 o1:w.ownsRow base t1 1 (.slice A1 S.bs.length c1) S.bs.length (aq S.bs)
 o2:w.ownsRow base t2 1 (.slice A2 S.bs.length c2) S.bs.length (bh S.us)
theorem hJ {w:World} {base:Nat} {e:TypeId} {n c:Nat} {A:Option Addr} {xs:List Value} (h:w.ownsRow base e 1 (.slice A n c) n xs):(A=none->c=0)/\n<=c:=by
 rcases h.2 with⟨he,h0⟩|⟨g,cap,cur,he,_,_,hc,_⟩
 ·injection he with e1 e2 e3
  subst e3
  exact⟨fun _=>rfl,by omega⟩
 ·injection he with e1 _ e3
  subst e1 e3
  exact⟨fun e=>(by cases e),hc⟩
theorem StkOwn.at_ {w:World} {base:Nat} {A1:Option Addr} {c1:Nat} {A2:Option Addr} {c2:Nat} {S:Sk} {t1 t2:TypeId} (h:StkOwn w base A1 c1 A2 c2 S t1 t2):StkAt w w.heap.size A1 c1 A2 c2 S:=
 ⟨h.ok,(hJ h.o1).1,(hJ h.o2).1,(hJ h.o1).2,(hJ h.o2).2,an.own h.o1,an.own h.o2⟩
theorem StkOwn.below {w w':World} {base:Nat} {A1:Option Addr} {c1:Nat} {A2:Option Addr} {c2:Nat} {S:Sk} {t1 t2:TypeId} (h:StkOwn w base A1 c1 A2 c2 S t1 t2) (hb:Below w.heap.size w w'):StkOwn w' base A1 c1 A2 c2 S t1 t2:=
 ⟨h.ok,bZ h.o1 hb,bZ h.o2 hb⟩
theorem pS {α:Type} (L:List α) (off:Nat) (v:α) (r:List α) (h:off<L.length):splice L off (v::r)=splice (L.set off v) (off+1) r:=by
 unfold splice
 rw[List.drop_set_of_lt (by omega),List.take_add_one,List.getElem?_set_self h,List.take_set_of_le (by omega),show off+(v::r).length=off+1+r.length by simp;omega]
 simp
theorem lI {base:Nat} {e:TypeId} {n c g:Nat}:∀(cs:List Value) (off:Nat) (w:World) (xs:List Value),w.ownsRow base e 1 (.slice (some ⟨g,0,none⟩) n c) n xs->off+cs.length<=n ->
  (w.setCells g off cs).ownsRow base e 1 (.slice (some ⟨g,0,none⟩) n c) n (splice xs off cs)/\w.grownBy (w.setCells g off cs) (some g)
 | [],off,w,xs,h,_=>⟨by simpa[splice,World.setCells] using h,World.grownBy.refl w _⟩
 | v::r,off,w,xs,h,hl=>by
  have hx:=h.1
  simp only[List.length_cons] at hl
  obtain⟨h1,h2⟩:=h.stored off v
  obtain⟨h3,h4⟩:=lI r (off+1) (w.setCell ⟨g,off,none⟩ v) (xs.set off v) h1 (by omega)
  rw[pS _ _ _ _ (by omega)]
  exact⟨h3,h2.andThen h4 (fun k hk=>.inr hk)⟩
def dj (S:Sk) (n:Int):Sk:=if cV S n=0 then di S n.toNat else S
def fE (S:Sk) (n:Int):Sk:=if eH S n=0 then dw S n.toNat else S
theorem sw {P:Program} {t e ty:TypeId} (ht:P.underlying t=some (.slice e)) (A:Option Addr) (c:Nat) (W:World):(Builtin.clear_ #[t] ty #[.slice A 0 c]).run P W=.ok (.tuple #[]) W:=by
 cases A<;>simp[Builtin.clear_,run_underlying ht]
theorem StkOwn.put_ {w:World} {base:Nat} {A1:Option Addr} {c1:Nat} {A2:Option Addr} {c2:Nat} {S:Sk} {t1 t2:TypeId} (hok:S.Ok) (o1:w.ownsRow base t1 1 (.slice A1 S.bs.length c1) S.bs.length (aq S.bs)) (o2:w.ownsRow base t2 1 (.slice A2 S.bs.length c2) S.bs.length (bh S.us)):StkAt w w.heap.size A1 c1 A2 c2 S:=
 StkOwn.at_ ⟨hok,o1,o2⟩
theorem i4 {w:World} {base t1 t2 g n1 n2 c2:Nat} {v1:Value} {xs1 xs2:List Value} (o1:w.ownsRow base t1 1 v1 n1 xs1) (o2:w.ownsRow base t2 1 (.slice (some ⟨g,0,none⟩) n2 c2) n2 xs2) (ht:t1≠t2):v1.ownBlock=none\/v1.ownBlock≠some g:=by
 rcases o1.2 with⟨rfl,_⟩|⟨g1,cap,cur,rfl,_,hg1,_⟩
 ·exact .inl rfl
 ·right
  rintro h
  simp only[Value.ownBlock,Option.some.injEq] at h
  subst h
  rcases o2.2 with⟨h2,_⟩|⟨g2,cap2,cur2,h2,_,hg2,_⟩
  ·cases h2
  ·injection h2 with h3
   injection h3 with h3
   injection h3 with h3
   subst h3
   have:=hg1.symm.trans hg2
   injection this with this
   injection this with _ h5 _
   exact ht h5
theorem rG {w:World} {base t1 t2 g n1 n2 c2 off:Nat} {v1:Value} {xs1 xs2 cs:List Value} (o1:w.ownsRow base t1 1 v1 n1 xs1) (o2:w.ownsRow base t2 1 (.slice (some ⟨g,0,none⟩) n2 c2) n2 xs2) (ht:t1≠t2) (h:off+cs.length<=n2) :
  (w.setCells g off cs).ownsRow base t1 1 v1 n1 xs1/\(w.setCells g off cs).ownsRow base t2 1 (.slice (some ⟨g,0,none⟩) n2 c2) n2 (splice xs2 off cs)/\w.grownBy (w.setCells g off cs) (some g)/\base<=g:=
 have h1:=lI cs off w xs2 o2 h
 ⟨o1.kept h1.2 (i4 o1 o2 ht),h1.1,h1.2,(o2.lt g rfl).1⟩
theorem ic (n:Nat) (b:Bool):bh (List.replicate n b)=List.replicate n (.bool b):=by simp[bh]
theorem sJ:∀w,(zeroValue 4).run Tryz.prog w=.ok (.bool false) w:=fun w=>by kernel_rfl
theorem tH (S:Sk) (h:S.Ok):di S 0=S:=by
 have:=h.len;have:=h.sp
 unfold di
 rw[List.replicate_zero,gg _ _ (by omega),Nat.sub_zero]
def fI (S:Sk) (off n:Int):Int:=if bN S off n=true then 0 else 4
def fA (S:Sk) (off n:Int):Bool:=bN S off n&&dg S ((S.sp:Int)+off).toNat n.toNat
def iZ (S:Sk) (off n:Int):Nat:=if fA S off n=true then aO ((dz S ((S.sp:Int)+off).toNat n.toNat).take 16) else 0
def cS (S:Sk) (off n:Int) (w:World) (e:Ending) (w':World):Prop:=e=.returned (.tuple #[vv (iZ S off n),.bool (fA S off n),.int .i64 (fI S off n)])/\Below w.heap.size w w'
theorem qu {S:Sk} {off n:Int} (h:bN S off n=false):fI S off n=4/\fA S off n=false/\iZ S off n=0:=by simp[fI,iZ,fA,h]
theorem eT {S:Sk} {off n:Nat} (h:bN S off n=true) (hu:dg S (S.sp+off) n=false):fI S off n=0/\fA S off n=false/\iZ S off n=0:=by
 have e:((S.sp:Int)+(off:Int)).toNat=S.sp+off:=by omega
 have hb:fA S off n=false:=by simp only[fA,e,Int.toNat_natCast,hu,Bool.and_false]
 exact⟨by simp[fI,h],hb,by simp[iZ,hb]⟩
theorem gC {S:Sk} {off n:Nat} (h:bN S off n=true) (hu:dg S (S.sp+off) n=true):fI S off n=0/\fA S off n=true/\iZ S off n=aO ((dz S (S.sp+off) n).take 16):=by
 have e:((S.sp:Int)+(off:Int)).toNat=S.sp+off:=by omega
 have hb:fA S off n=true:=by simp only[fA,e,Int.toNat_natCast,hu,h,Bool.and_self]
 exact⟨by simp[fI,h],hb,by simp only[iZ,hb,if_true,e,Int.toNat_natCast]⟩
theorem gM {S:Sk} {off n:Int} (h:bN S off n=true):∃a m:Nat,off=(a:Int)/\n=(m:Int)/\1<=m/\m<=16/\S.sp+a+m<=S.bs.length:=by
 obtain⟨h1,h2,h3⟩:=ix.1 h
 have hn:=of_decide_eq_true (show decide (n=1\/n=2\/n=4\/n=8\/n=16)=true from h1)
 exact⟨off.toNat,n.toNat,by omega,by omega,by omega,by omega,by omega⟩
theorem kw:vv 0=.agg #[.int .u64 0,.int .u64 0]:=rfl
def j2 (S:Sk) (off n:Int) (X:Nat):Sk:=if bN S off n=true then aQ S ((S.sp:Int)+off).toNat n.toNat X else S
def eF (S:Sk) (dst src n:Int):Bool:=bN S dst n&&fA S src n
def iL (S:Sk) (dst src n:Int):Int:=if(bN S dst n&&bN S src n)=true then 0 else 4
def iK (S:Sk) (dst src n:Int):Sk:=if eF S dst src n=true then iU S ((S.sp:Int)+dst).toNat (dz S ((S.sp:Int)+src).toNat n.toNat) else S
theorem oL {S:Sk} {off n:Int} {X:Nat} (h:bN S off n=false):fI S off n=4/\j2 S off n X=S:=by simp[fI,j2,h]
theorem gF {S:Sk} {off n X:Nat} (h:bN S off n=true):fI S off n=0/\j2 S off n X=aQ S (S.sp+off) n X:=by
 have e:((S.sp:Int)+(off:Int)).toNat=S.sp+off:=by omega
 exact⟨by simp[fI,h],by simp only[j2,h,if_true,e,Int.toNat_natCast]⟩
theorem lu {S:Sk} {dst src n:Int} (h:bN S dst n=false\/bN S src n=false):iL S dst src n=4/\eF S dst src n=false/\iK S dst src n=S:=by
 rcases h with h|h<;>simp[iL,iK,eF,fA,h]
theorem kr {S:Sk} {dst:Int} {o m:Nat} (h:bN S dst (m:Int)=true) (h2:bN S (o:Int) (m:Int)=true) (hu:dg S (S.sp+o) m=false):iL S dst (o:Int) (m:Int)=0/\eF S dst (o:Int) (m:Int)=false/\iK S dst (o:Int) (m:Int)=S:=by
 have hb:eF S dst (o:Int) (m:Int)=false:=by simp only[eF,(eT h2 hu).2.1,Bool.and_false]
 exact⟨by simp[iL,h,h2],hb,by simp[iK,hb]⟩
theorem lZ {S:Sk} {d o m:Nat} (h:bN S (d:Int) (m:Int)=true) (h2:bN S (o:Int) (m:Int)=true) (hu:dg S (S.sp+o) m=true):iL S (d:Int) (o:Int) (m:Int)=0/\eF S (d:Int) (o:Int) (m:Int)=true/\iK S (d:Int) (o:Int) (m:Int)=iU S (S.sp+d) (dz S (S.sp+o) m):=by
 have hb:eF S (d:Int) (o:Int) (m:Int)=true:=by simp only[eF,(gC h2 hu).2.1,h,Bool.and_self]
 have e:((S.sp:Int)+(o:Int)).toNat=S.sp+o:=by omega
 have e':((S.sp:Int)+(d:Int)).toNat=S.sp+d:=by omega
 exact⟨by simp[iL,h,h2],hb,by simp only[iK,hb,if_true,e,e',Int.toNat_natCast]⟩
theorem oW {w:World} {base g n c:Nat} {e:TypeId} {xs:List Value} (h:w.ownsRow base e 1 (.slice (some ⟨g,0,none⟩) n c) n xs) :
  ∃cur:List Value,w.heap[g]?=some (.cells cur.toArray e (0,0))/\cur.length=c/\cur.take n=xs/\n<=c/\c<=maxLen/\base<=g:=by
 rcases h.2 with⟨h2,_⟩|⟨g',cap,cur,h2,hg,hh,hc,hm,hs,ht⟩
 ·cases h2
 ·injection h2 with h3 h4 h5
  injection h3 with h3
  injection h3 with h3
  subst h3 h5
  refine⟨cur.toList,by simpa using hh,by simpa using hs,?_,hc,hm,hg⟩
  simpa using ht
theorem wL {w:World} {base g n c:Nat} {e:TypeId} {cur:List Value} (hg:w.heap[g]?=some (.cells cur.toArray e (0,0))) (hl:cur.length=c) (hn:n<=c) (hm:c<=maxLen) (hb:base<=g):w.ownsRow base e 1 (.slice (some ⟨g,0,none⟩) n c) n (cur.take n):=
 ⟨by simp;omega,.inr ⟨g,c,cur.toArray,rfl,hb,hg,hn,hm,by simpa using hl,by simp⟩⟩
theorem pR {α:Type} (L cs:List α) (off n:Nat) (h:off+cs.length<=n) (hn:n<=L.length):(splice L off cs).take n=splice (L.take n) off cs:=by
 apply List.ext_getElem?
 intro j
 rw[List.getElem?_take]
 by_cases hj:j<n
 ·rw[if_pos hj,jz _ _ _ (by omega),jz _ _ _ (by simp;omega),List.getElem?_take,if_pos hj]
 ·rw[if_neg hj]
  symm
  apply List.getElem?_eq_none
  rw[length_splice _ _ _ (by simp;omega)]
  simp;omega
theorem rg (w:World) (g:Nat) (cs:Array Value):w.grownBy (w.setRow g cs) (some g):=
 ⟨rfl,rfl,rfl,by simp[World.setRow],fun i hi hne=>setRow_other w g i cs (fun h=>hne (by rw[h]))⟩
theorem rH {w:World} {base g n c off:Nat} {e:TypeId} {cs cur:List Value} (hh:w.heap[g]?=some (.cells cur.toArray e (0,0))) (hl:cur.length=c) (hn:n<=c) (hm:c<=maxLen) (hb:base<=g) (ho:off+cs.length<=n) :
  (w.setRow g (cur.take off++(cs++cur.drop (off+cs.length))).toArray).ownsRow base e 1 (.slice (some ⟨g,0,none⟩) n c) n (splice (cur.take n) off cs):=by
 have h2:=wL (w:=w.setRow g (splice cur off cs).toArray) (base:=base) (n:=n) (c:=c) (setRow_heap w g _ _ e _ hh) (by rw[length_splice _ _ _ (by omega)];exact hl) hn hm hb
 rw[pR _ _ _ _ ho (by omega)] at h2
 exact h2
theorem yd:(Tryz.prog.info? 5).map (·.size)=some 1:=by kernel_rfl
theorem Tryz.cinfo5:(Tryz.prog.info? 5).map (fun i=>(i.zero,i.size,i.bytes))=some (some (.int .u8 0),1,1):=by kernel_rfl
theorem Tryz.cinfo4:(Tryz.prog.info? 4).map (fun i=>(i.zero,i.size,i.bytes))=some (some (.bool false),1,1):=by kernel_rfl
theorem iu {w:World} {base g:Nat} {e:TypeId} {size n:Nat} {v:Value} {xs:List Value} (h:w.ownsRow base e size v n xs) (hg:g<base):v.ownBlock=none\/v.ownBlock≠some g:=by
 cases e':v.ownBlock with
 | none=>exact .inl rfl
 | some k=>exact .inr fun h'=>by have:=(h.lt k e').1;injection h' with h';omega
theorem ey (w:World) (g k:Nat) (u:Value):w.grownBy (w.setCell ⟨g,k,none⟩ u) (some g):=
 ⟨rfl,rfl,rfl,by simp[World.setCell],fun i hi hne=>Below.heap_setCell w ⟨g,k,none⟩ u i (by rintro rfl;exact hne rfl)⟩
theorem bY {w:World} {base g k:Nat} {e:TypeId} {size n:Nat} {v u:Value} {xs:List Value} (h:w.ownsRow base e size v n xs) (hg:g<base):(w.setCell ⟨g,k,none⟩ u).ownsRow base e size v n xs:=h.kept (ey w g k u) (iu h hg)
theorem it {w:World} {base g:Nat} {e:TypeId} {size n:Nat} {v a b c:Value} {xs:List Value} (h:w.ownsRow base e size v n xs) (hg:g<base):(((w.setCell ⟨g,0,none⟩ a).setCell ⟨g,1,none⟩ b).setCell ⟨g,2,none⟩ c).ownsRow base e size v n xs:=bY (bY (bY h hg) hg) hg
theorem dW {w:World} {base base':Nat} {e:TypeId} {size n:Nat} {v:Value} {xs:List Value} (h:w.ownsRow base e size v n xs) (hb:base'<=base):w.ownsRow base' e size v n xs:=by
 refine⟨h.1,?_⟩
 rcases h.2 with h2|⟨g,cap,cur,hv,hg,hh,hr⟩
 ·exact .inl h2
 ·exact .inr ⟨g,cap,cur,hv,by omega,hh,hr⟩
theorem ay {B g k:Nat} {w w':World} {u:Value} (h:Below B w w') (hg:B<=g):Below B w (w'.setCell ⟨g,k,none⟩ u):=h.setCell (p:=⟨g,k,none⟩) hg u
theorem ig {B g:Nat} {w w':World} {a b c:Value} (h:Below B w w') (hg:B<=g):Below B w (((w'.setCell ⟨g,0,none⟩ a).setCell ⟨g,1,none⟩ b).setCell ⟨g,2,none⟩ c):=ay (ay (ay h hg) hg) hg
theorem sV (w:World) (l1 l2:List Value) (t1 t2:TypeId):∃W,(w.alloc (.cells l1.toArray t1)).alloc (.cells l2.toArray t2)=W/\Below w.heap.size w W/\w.heap.size+2=W.heap.size/\Row W w.heap.size t1 l1/\Row W (w.heap.size+1) t2 l2:=by
 refine⟨_,rfl,aP _ _ _,by simp,(Row.new w t1 l1).alloc _,?_⟩
 rw[show w.heap.size+1=(w.alloc (.cells l1.toArray t1)).heap.size by simp]
 exact Row.new _ _ _
structure MKp (w w':World) (g base:Nat):Prop where
 os:w'.os=w.os
 tape:w'.tape=w.tape
 output:w'.output=w.output
 size:w.heap.size<=w'.heap.size
 blk:∀k,k<w.heap.size->k≠g->(base<=k->∀cs t fr,w.heap[k]?=some (.cells cs t fr)->t≠5/\t≠4)->w'.heap[k]?=w.heap[k]?
section
variable {w w' w'':World} {g base:Nat}
theorem MKp.refl (w:World) (g base:Nat):MKp w w g base:=⟨rfl,rfl,rfl,Nat.le_refl _,fun _ _ _ _=>rfl⟩
theorem MKp.trans (h:MKp w w' g base) (h':MKp w' w'' g base):MKp w w'' g base:=
 ⟨h'.os.trans h.os,h'.tape.trans h.tape,h'.output.trans h.output,Nat.le_trans h.size h'.size,fun k hk h1 h2=>by
  have e:=h.blk k hk h1 h2
  exact(h'.blk k (Nat.lt_of_lt_of_le hk h.size) h1 (fun hb cs t fr=>by rw[e];exact h2 hb cs t fr)).trans e⟩
theorem MKp.of_below (h:Below w.heap.size w w') (g base:Nat):MKp w w' g base:=⟨h.os,h.tape,h.output,h.size,fun k hk _ _=>h.block k hk⟩
theorem MKp.set (w:World) (g base k:Nat) (u:Value):MKp w (w.setCell ⟨g,k,none⟩ u) g base:=
 have h:=ey w g k u
 ⟨h.os,h.tape,h.output,h.size,fun j hj h1 _=>h.block j hj (fun e=>h1 (by injection e))⟩
theorem MKp.of_row {j n c:Nat} {e:TypeId} {xs:List Value} (h:w.grownBy w' (some j)) (ho:w.ownsRow base e 1 (.slice (some ⟨j,0,none⟩) n c) n xs) (he:e=5\/e=4) (g:Nat):MKp w w' g base:=
 ⟨h.os,h.tape,h.output,h.size,fun k hk _ h2=>h.block k hk (fun hkj=>by
  have hkj:j=k:=by first|exact Option.some.inj hkj|exact(Option.some.inj hkj).symm
  subst hkj
  obtain⟨cur,hh,_,_,_,_,hb⟩:=oW ho
  have:=h2 hb _ _ _ hh
  rcases he with he|he
  ·exact this.1 he
  ·exact this.2 he)⟩
theorem MKp.row {j t:Nat} {cs:List Value} (h:MKp w w' g base) (r:Row w j t cs) (h1:j≠g) (h2:j<base\/(t≠5/\t≠4)):Row w' j t cs:=by
 unfold Row
 rw[h.blk j r.lt h1 (fun hb cs' t' fr e=>by
  unfold Row at r
  rw[r] at e
  injection e with e
  injection e with _ e2
  rcases h2 with h2|h2
  ·omega
  ·rw[<-e2];exact h2)]
 exact r
theorem MKp.below {B:Nat} (h:MKp w w' g base) (hB:B<=w.heap.size) (h1:B<=g) (h2:B<=base):Below B w w':=
 ⟨h.os,h.tape,h.output,h.size,fun k hk=>h.blk k (by omega) (by omega) (fun e=>by omega)⟩
theorem MKp.own {e:TypeId} {size n:Nat} {v:Value} {xs:List Value} {b2:Nat} (h:MKp w w' g base) (ho:w.ownsRow b2 e size v n xs) (he:e≠5/\e≠4) (hg:v.ownBlock≠some g):w'.ownsRow b2 e size v n xs:=by
 refine⟨ho.1,?_⟩
 rcases ho.2 with h2|⟨j,cap,cur,rfl,hb,hh,hr⟩
 ·exact .inl h2
 ·refine .inr ⟨j,cap,cur,rfl,hb,?_,hr⟩
  rw[h.blk j (Array.getElem?_eq_some_iff.1 hh).1 (fun e=>hg (by rw[e];rfl)) (fun _ cs t fr e2=>by
   rw[hh] at e2
   injection e2 with e2
   injection e2 with _ e3
   rw[<-e3];exact he)]
  exact hh
end
structure MemAt (w:World) (g o base:Nat) (T:TypeId) (cs:List Value) (A1:Option Addr) (c1:Nat) (A2:Option Addr) (c2:Nat) (S:Sk):Prop where
 row:Row w g T cs
 k0:cs[o]?=some (.slice A1 S.bs.length c1)
 k1:cs[o+1]?=some (.slice A2 S.bs.length c2)
 k2:cs[o+2]?=some (.int .i64 (S.sp:Int))
 own:StkOwn w base A1 c1 A2 c2 S 5 4
 gb:base<=g
 t1:T≠5
 t2:T≠4
section
variable {w w':World} {g o base:Nat} {T:TypeId} {cs:List Value} {A1 A2:Option Addr} {c1 c2:Nat} {S:Sk}
theorem MemAt.bl (h:MemAt w g o base T cs A1 c1 A2 c2 S):base<=w.heap.size:=by have:=h.row.lt;have:=h.gb;omega
theorem MemAt.call (h:MemAt w g o base T cs A1 c1 A2 c2 S) (hb:Below w.heap.size w w'):MemAt w' g o base T cs A1 c1 A2 c2 S:=⟨h.row.call hb,h.k0,h.k1,h.k2,h.own.below hb,h.gb,h.t1,h.t2⟩
theorem MemAt.drewN (h:MemAt w g o base T cs A1 c1 A2 c2 S) (n:Nat):MemAt (w.drewN n) g o base T cs A1 c1 A2 c2 S:=h.call (am (Below.refl _ _) n)
theorem bV {e:TypeId} {size n:Nat} {v:Value} {xs:List Value} (ho:w.ownsRow base e size v n xs) (r:Row w g T cs) (ht:T≠e):v.ownBlock=none\/v.ownBlock≠some g:=by
 rcases ho.2 with⟨rfl,_⟩|⟨j,cap,cur,rfl,_,hh,_⟩
 ·exact .inl rfl
 ·refine .inr fun he=>?_
  injection he with he
  simp only at he
  unfold Row at r
  rw[he,r] at hh
  injection hh with hh
  injection hh with _ e3
  exact ht e3
theorem MemAt.setSp (h:MemAt w g o base T cs A1 c1 A2 c2 S) {S':Sk} (hb:S'.bs=S.bs) (hu:S'.us=S.us) (hok:S'.Ok):MemAt (w.setCell ⟨g,o+2,none⟩ (.int .i64 (S'.sp:Int))) g o base T (cs.set (o+2) (.int .i64 (S'.sp:Int))) A1 c1 A2 c2 S':=by
 have hl:o+2<cs.length:=(List.getElem?_eq_some_iff.1 h.k2).1
 have hg:=ey w g (o+2) (.int .i64 (S'.sp:Int))
 refine⟨h.row.set_ _ _,?_,?_,?_,⟨hok,?_,?_⟩,h.gb,h.t1,h.t2⟩
 ·rw[List.getElem?_set_ne (by omega),hb];exact h.k0
 ·rw[List.getElem?_set_ne (by omega),hb];exact h.k1
 ·rw[List.getElem?_set_self hl]
 ·rw[hb];exact h.own.o1.kept hg (bV h.own.o1 h.row h.t1)
 ·rw[hb,hu];exact h.own.o2.kept hg (bV h.own.o2 h.row h.t2)
end
end Go.Proofs.YtjbgepjdohfhkaaGreat
