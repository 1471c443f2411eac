/- The contract of spillframedraw's Slot: a right slot. Condition: the receiver is a list of choices. -/
import Derived.Test.YtjbgepjdohfhkaaGreatMEpow
set_option linter.unusedVariables false
set_option linter.unusedSimpArgs false
set_option maxRecDepth 100000
set_option maxHeartbeats 4000000
namespace Go.Proofs.YtjbgepjdohfhkaaGreat
open Go.RowKit
def ik (w:World) (h n:Nat) (x:Value) (cs:List Value):Prop:=∃b,h<b/\x=.slice (some ⟨b,0,none⟩) n n/\Row w b 3 cs
def dB (w:World) (h:Nat) (x:Value) (s:Int):Prop:=∃b k,h<b/\b<w.heap.size/\x=.pointer (some ⟨b,k,none⟩)/\w.cell? ⟨b,k,none⟩=some (.int .i64 s)
def xD (n:Int) (x:Value):Prop:=∃v,0<=v/\v<n/\x=.int .i64 v
theorem xZ (v:Int) (h0:0<=v) (h1:v<7):∃s:Int,szB s=true/\([.int .i64 8,.int .i64 4,.int .i64 8,.int .i64 1,.int .i64 2,.int .i64 16,.int .i64 8]:List Value)[v.toNat]?=some (.int .i64 s):=by
 rcases(show v=0\/v=1\/v=2\/v=3\/v=4\/v=5\/v=6 by omega) with rfl|rfl|rfl|rfl|rfl|rfl|rfl<;>exact⟨_,by decide,rfl⟩
theorem xY (v:Int) (h0:0<=v) (h1:v<8):∃s:Int,aR s=true/\([.int .i64 8,.int .i64 4,.int .i64 1,.int .i64 8,.int .i64 16,.int .i64 2,.int .i64 32,.int .i64 64]:List Value)[v.toNat]?=some (.int .i64 s):=by
 rcases(show v=0\/v=1\/v=2\/v=3\/v=4\/v=5\/v=6\/v=7 by omega) with rfl|rfl|rfl|rfl|rfl|rfl|rfl|rfl<;>exact⟨_,by decide,rfl⟩
def Bl (g h:Nat) (w0:World) (l:Array Bool) (a:Act) (w:World):Prop:=
 ∃(b0 b1 b2 b3 b4 b5 b6 b7 b8 b9 b10 b11:Bool) (x3 x4 x5 x6 x7 x8 x9 x10 x11 x12 x13:Value) (y0 y1:Int),l=#[b0,b1,b2,b3,b4,b5,b6,b7,b8,b9,b10,b11]/\a=⟨#[.pointer (some ⟨g,0,none⟩),undef,.pointer (some ⟨h,0,none⟩),x3,x4,x5,x6,x7,x8,x9,x10,x11,x12,x13],[]⟩/\ar w g/\w0.grownBy w (some g)/\Row w h 122 [.int .i64 y0,.int .i64 y1] /\
  (b0=true->ik w h 7 x3 [.int .i64 8,.int .i64 4,.int .i64 8,.int .i64 1,.int .i64 2,.int .i64 16,.int .i64 8]) /\
  (b1=true->x4=.pointer (some ⟨g,0,none⟩)) /\
  (b2=true->xD 7 x5) /\
  (b3=true->∃s,szB s=true/\dB w h x6 s) /\
  (b4=true->∃s,szB s=true/\x7=.int .i64 s) /\
  (b5=true->ik w h 8 x8 [.int .i64 8,.int .i64 4,.int .i64 1,.int .i64 8,.int .i64 16,.int .i64 2,.int .i64 32,.int .i64 64]) /\
  (b6=true->x9=.pointer (some ⟨g,0,none⟩)) /\
  (b7=true->xD 8 x10) /\
  (b8=true->∃s,aR s=true/\dB w h x11 s) /\
  (b9=true->∃s,aR s=true/\x12=.int .i64 s) /\
  (b10=true->∃s t,szB s=true/\aR t=true/\x13=pv s t) /\
  (b11=true->szB y0=true/\aR y1=true)
section
variable {w w':World} {h n:Nat} {x:Value} {cs:List Value} {s:Int}
theorem ik.alloc (t:ik w h n x cs) (o:Obj):ik (w.alloc o) h n x cs:=by
 obtain⟨b,hb,e,r⟩:=t
 exact⟨b,hb,e,r.alloc o⟩
theorem ik.kept {g:Nat} (t:ik w h n x cs) (hG:w.grownBy w' (some g)) (hg:g<h):ik w' h n x cs:=by
 obtain⟨b,hb,e,r⟩:=t
 exact⟨b,hb,e,r.grown hG (fun e=>by injection e with e;omega)⟩
theorem ik.far (t:ik w h n x cs) (k:Nat) (u:Value):ik (w.setCell ⟨h,k,none⟩ u) h n x cs:=by
 obtain⟨b,hb,e,r⟩:=t
 exact⟨b,hb,e,r.far (p:=⟨h,k,none⟩) (by simp;omega) u⟩
theorem dB.alloc (t:dB w h x s) (o:Obj):dB (w.alloc o) h x s:=by
 obtain⟨b,k,hb,hl,e,r⟩:=t
 exact⟨b,k,hb,by simp;omega,e,(World.cell?_alloc_lt w o ⟨b,k,none⟩ hl).trans r⟩
theorem dB.kept {g:Nat} (t:dB w h x s) (hG:w.grownBy w' (some g)) (hg:g<h):dB w' h x s:=by
 obtain⟨b,k,hb,hl,e,r⟩:=t
 exact⟨b,k,hb,Nat.lt_of_lt_of_le hl hG.size,e,(World.cell?_of_block (hG.block b hl (fun e=>by injection e with e;omega))).trans r⟩
theorem dB.far (t:dB w h x s) (k:Nat) (u:Value):dB (w.setCell ⟨h,k,none⟩ u) h x s:=by
 obtain⟨b,k',hb,hl,e,r⟩:=t
 exact⟨b,k',hb,by simpa[World.setCell] using hl,e,(World.cell?_setCell_other w ⟨h,k,none⟩ ⟨b,k',none⟩ u (fun e=>by injection e with e;omega)).trans r⟩
theorem hH {p:Prop} {ps:Int->Prop} (q:p->∃s,ps s/\dB w h x s) (o:Obj):p->∃s,ps s/\dB (w.alloc o) h x s:=fun e=>by
 obtain⟨s,h1,h2⟩:=q e
 exact⟨s,h1,h2.alloc o⟩
theorem iI {g:Nat} {p:Prop} {ps:Int->Prop} (q:p->∃s,ps s/\dB w h x s) (hG:w.grownBy w' (some g)) (hg:g<h):p->∃s,ps s/\dB w' h x s:=fun e=>by
 obtain⟨s,h1,h2⟩:=q e
 exact⟨s,h1,h2.kept hG hg⟩
theorem iY {p:Prop} {ps:Int->Prop} (q:p->∃s,ps s/\dB w h x s) (k:Nat) (u:Value):p->∃s,ps s/\dB (w.setCell ⟨h,k,none⟩ u) h x s:=fun e=>by
 obtain⟨s,h1,h2⟩:=q e
 exact⟨s,h1,h2.far k u⟩
end
theorem ar.set2 {w:World} {g h:Nat} (hC:ar w g) (hg:g<h) (u u':Value):ar ((w.setCell ⟨h,0,none⟩ u).setCell ⟨h,1,none⟩ u') g:=by
 obtain⟨A,n,c,zs,i,r,s,hh⟩:=hC
 refine⟨A,n,c,zs,i,(r.far (p:=⟨h,0,none⟩) (by simp;omega) u).far (p:=⟨h,1,none⟩) (by simp;omega) u',s.keep fun p hp=>?_,hh⟩
 rw[World.cell?_setCell_other _ _ _ _ (fun e=>by subst e;simp at hp;omega),World.cell?_setCell_other _ _ _ _ (fun e=>by subst e;simp at hp;omega)]
theorem sd {w w':World} {g h:Nat} (hG:w.grownBy w' (some g)) (hh:w.heap.size<=h) (u u':Value):w.grownBy ((w'.setCell ⟨h,0,none⟩ u).setCell ⟨h,1,none⟩ u') (some g):=
 ⟨hG.os,hG.tape,hG.output,by simpa[World.setCell] using hG.size,fun i hi hne=>((Below.heap_setCell _ ⟨h,1,none⟩ u' i (by simp;omega)).trans (Below.heap_setCell w' ⟨h,0,none⟩ u i (by simp;omega))).trans (hG.block i hi hne)⟩
def xp (g:Nat) (w:World) (e:Ending) (w':World):Prop:=∃s a:Int,e=.returned (pv s a)/\szB s=true/\aR a=true/\ar w' g/\w.grownBy w' (some g)
theorem vD (g:Nat) (w:World) (h:Hid (ar w g)):Calls Tryz.prog 80 #[.pointer (some ⟨g,0,none⟩)] w (xp g w):=by
 have c:=a6 g
 have hg:=h.out.lt
 go_enter Tryz.func80,Tryz.ntmps80
 go_wp2_with fail
 refine eq (by kernel_rfl) (Bl g w.heap.size w) ?_ ?_ ?_
 ·exact⟨false,false,false,false,false,false,false,false,false,false,false,false,undef,undef,undef,undef,undef,undef,undef,undef,undef,undef,undef,0,0,rfl,rfl,(h.out.alloc _).drew,be (aG (ag w _) _) 1,(Row.new w _ _).drew,(fun e=>by cases e),(fun e=>by cases e),(fun e=>by cases e),(fun e=>by cases e),(fun e=>by cases e),(fun e=>by cases e),(fun e=>by cases e),(fun e=>by cases e),(fun e=>by cases e),(fun e=>by cases e),(fun e=>by cases e),(fun e=>by cases e)⟩
 ·rintro l a wr ⟨b0,b1,b2,b3,b4,b5,b6,b7,b8,b9,b10,b11,x3,x4,x5,x6,x7,x8,x9,x10,x11,x12,x13,y0,y1,rfl,rfl,hC,hG,hR,q0,q1,q2,q3,q4,q5,q6,q7,q8,q9,q10,q11⟩ i hi K hK
  have hlt:=jf hi
  have hgw:w.heap.size<wr.heap.size:=hR.lt
  obtain⟨hf,o,ho,ha⟩:=je hi
  clear hi
  have hlt':i<12:=hlt
  clear hlt
  rcases(show i=0\/i=1\/i=2\/i=3\/i=4\/i=5\/i=6\/i=7\/i=8\/i=9\/i=10\/i=11 by omega) with rfl|rfl|rfl|rfl|rfl|rfl|rfl|rfl|rfl|rfl|rfl|rfl
  ·obtain rfl:=Option.some.inj ho
   simp[Region.binds] at ha
   clear ha hf ho hlt'
   refine ak rfl rfl ?_
   go_simp
   refine hK _ _ ⟨true,b1,b2,b3,b4,b5,b6,b7,b8,b9,b10,b11,_,_,_,_,_,_,_,_,_,_,_,y0,y1,rfl,rfl,hC.alloc _,hG.trans (World.grownBy_alloc _ _ _),hR.alloc _,(fun _=>⟨wr.heap.size,hgw,rfl,Row.new wr _ _⟩),q1,q2,(hH q3 _),q4,(fun e=>(q5 e).alloc _),q6,q7,(hH q8 _),q9,q10,q11⟩
  ·obtain rfl:=Option.some.inj ho
   simp[Region.binds] at ha
   clear ha hf ho hlt'
   refine ak rfl rfl ?_
   go_simp
   refine hK _ _ ⟨b0,true,b2,b3,b4,b5,b6,b7,b8,b9,b10,b11,_,_,_,_,_,_,_,_,_,_,_,y0,y1,rfl,rfl,hC,hG,hR,q0,(fun _=>rfl),q2,q3,q4,q5,q6,q7,q8,q9,q10,q11⟩
  ·obtain rfl:=Option.some.inj ho
   simp[Region.binds] at ha
   have d1:=ha
   have x:=q1 d1
   subst x
   clear ha hf ho hlt'
   refine ak rfl rfl ?_
   go_simp
   refine(c 7 _ (aa hC) (by omega) (by omega)).mono ?_
   rintro e w2 ⟨v,rfl,v0,v1,hC1,hG1,hz⟩
   refine hK _ _ ⟨b0,b1,true,b3,b4,b5,b6,b7,b8,b9,b10,b11,_,_,_,_,_,_,_,_,_,_,_,y0,y1,rfl,rfl,hC1,hG.trans hG1,hR.grown hG1 (fun e=>by injection e with e;omega),(fun e=>(q0 e).kept hG1 hg),q1,(fun _=>⟨v,v0,v1,rfl⟩),(iI q3 hG1 hg),q4,(fun e=>(q5 e).kept hG1 hg),q6,q7,(iI q8 hG1 hg),q9,q10,q11⟩
  ·obtain rfl:=Option.some.inj ho
   simp[Region.binds] at ha
   obtain⟨d0,d2⟩:=ha
   obtain⟨b,hb,rfl,r⟩:=q0 d0
   obtain⟨v,v0,v1,rfl⟩:=q2 d2
   obtain⟨s,hs,ht⟩:=xZ v v0 v1
   have hc:=r.cell ht
   have HS:=aa hs
   clear ht hs
   clear hf ho hlt'
   refine ak rfl rfl ?_
   go_simp
   refine hK _ _ ⟨b0,b1,b2,true,b4,b5,b6,b7,b8,b9,b10,b11,_,_,_,_,_,_,_,_,_,_,_,y0,y1,rfl,rfl,hC,hG,hR,q0,q1,q2,(fun _=>⟨s,HS.out,b,v.toNat,hb,r.lt,rfl,hc⟩),q4,q5,q6,q7,q8,q9,q10,q11⟩
  ·obtain rfl:=Option.some.inj ho
   simp[Region.binds] at ha
   have d3:=ha
   obtain⟨s,hs,b,k,hb,hl,rfl,hc⟩:=q3 d3
   have HS:=aa hs
   clear hs
   clear ha hf ho hlt'
   refine ak rfl rfl ?_
   go_simp
   refine hK _ _ ⟨b0,b1,b2,b3,true,b5,b6,b7,b8,b9,b10,b11,_,_,_,_,_,_,_,_,_,_,_,y0,y1,rfl,rfl,hC,hG,hR,q0,q1,q2,q3,(fun _=>⟨s,HS.out,rfl⟩),q5,q6,q7,q8,q9,q10,q11⟩
  ·obtain rfl:=Option.some.inj ho
   simp[Region.binds] at ha
   clear ha hf ho hlt'
   refine ak rfl rfl ?_
   go_simp
   refine hK _ _ ⟨b0,b1,b2,b3,b4,true,b6,b7,b8,b9,b10,b11,_,_,_,_,_,_,_,_,_,_,_,y0,y1,rfl,rfl,hC.alloc _,hG.trans (World.grownBy_alloc _ _ _),hR.alloc _,(fun e=>(q0 e).alloc _),q1,q2,(hH q3 _),q4,(fun _=>⟨wr.heap.size,hgw,rfl,Row.new wr _ _⟩),q6,q7,(hH q8 _),q9,q10,q11⟩
  ·obtain rfl:=Option.some.inj ho
   simp[Region.binds] at ha
   clear ha hf ho hlt'
   refine ak rfl rfl ?_
   go_simp
   refine hK _ _ ⟨b0,b1,b2,b3,b4,b5,true,b7,b8,b9,b10,b11,_,_,_,_,_,_,_,_,_,_,_,y0,y1,rfl,rfl,hC,hG,hR,q0,q1,q2,q3,q4,q5,(fun _=>rfl),q7,q8,q9,q10,q11⟩
  ·obtain rfl:=Option.some.inj ho
   simp[Region.binds] at ha
   obtain⟨d6,d2⟩:=ha
   have x:=q6 d6
   subst x
   clear hf ho hlt'
   refine ak rfl rfl ?_
   go_simp
   refine(c 8 _ (aa hC) (by omega) (by omega)).mono ?_
   rintro e w2 ⟨v,rfl,v0,v1,hC1,hG1,hz⟩
   refine hK _ _ ⟨b0,b1,b2,b3,b4,b5,b6,true,b8,b9,b10,b11,_,_,_,_,_,_,_,_,_,_,_,y0,y1,rfl,rfl,hC1,hG.trans hG1,hR.grown hG1 (fun e=>by injection e with e;omega),(fun e=>(q0 e).kept hG1 hg),q1,q2,(iI q3 hG1 hg),q4,(fun e=>(q5 e).kept hG1 hg),q6,(fun _=>⟨v,v0,v1,rfl⟩),(iI q8 hG1 hg),q9,q10,q11⟩
  ·obtain rfl:=Option.some.inj ho
   simp[Region.binds] at ha
   obtain⟨d5,d7⟩:=ha
   obtain⟨b,hb,rfl,r⟩:=q5 d5
   obtain⟨v,v0,v1,rfl⟩:=q7 d7
   obtain⟨s,hs,ht⟩:=xY v v0 v1
   have hc:=r.cell ht
   have HS:=aa hs
   clear ht hs
   clear hf ho hlt'
   refine ak rfl rfl ?_
   go_simp
   refine hK _ _ ⟨b0,b1,b2,b3,b4,b5,b6,b7,true,b9,b10,b11,_,_,_,_,_,_,_,_,_,_,_,y0,y1,rfl,rfl,hC,hG,hR,q0,q1,q2,q3,q4,q5,q6,q7,(fun _=>⟨s,HS.out,b,v.toNat,hb,r.lt,rfl,hc⟩),q9,q10,q11⟩
  ·obtain rfl:=Option.some.inj ho
   simp[Region.binds] at ha
   have d8:=ha
   obtain⟨s,hs,b,k,hb,hl,rfl,hc⟩:=q8 d8
   have HS:=aa hs
   clear hs
   clear ha hf ho hlt'
   refine ak rfl rfl ?_
   go_simp
   refine hK _ _ ⟨b0,b1,b2,b3,b4,b5,b6,b7,b8,true,b10,b11,_,_,_,_,_,_,_,_,_,_,_,y0,y1,rfl,rfl,hC,hG,hR,q0,q1,q2,q3,q4,q5,q6,q7,q8,(fun _=>⟨s,HS.out,rfl⟩),q10,q11⟩
  ·obtain rfl:=Option.some.inj ho
   simp[Region.binds] at ha
   obtain⟨d4,d9⟩:=ha
   obtain⟨s,hs,rfl⟩:=q4 d4
   obtain⟨t,ht,rfl⟩:=q9 d9
   have HS:=aa hs
   have HT:=aa ht
   clear hs ht
   clear hf ho hlt'
   refine ak rfl rfl ?_
   go_simp
   refine hK _ _ ⟨b0,b1,b2,b3,b4,b5,b6,b7,b8,b9,true,b11,_,_,_,_,_,_,_,_,_,_,_,y0,y1,rfl,rfl,hC,hG,hR,q0,q1,q2,q3,q4,q5,q6,q7,q8,q9,(fun _=>⟨s,t,HS.out,HT.out,rfl⟩),q11⟩
  ·obtain rfl:=Option.some.inj ho
   simp[Region.binds] at ha
   have d10:b10=true:=by simp_all
   obtain⟨s,t,hs,ht,rfl⟩:=q10 d10
   have HS:=aa hs
   have HT:=aa ht
   have c0:=hR.cell (k:=0) rfl
   have c1:=hR.cell (k:=1) rfl
   have z0:=hR.free 0
   have z1:=hR.free 1
   clear hs ht
   clear ha hf ho hlt'
   refine ak rfl rfl ?_
   go_simp
   refine hK _ _ ⟨b0,b1,b2,b3,b4,b5,b6,b7,b8,b9,b10,true,_,_,_,_,_,_,_,_,_,_,_,s,t,rfl,rfl,hC.set2 hg _ _,sd hG (Nat.le_refl _) _ _,(hR.set_ 0 _).set_ 1 _,(fun e=>((q0 e).far _ _).far _ _),q1,q2,(iY (iY q3 _ _) _ _),q4,(fun e=>((q5 e).far _ _).far _ _),q6,q7,(iY (iY q8 _ _) _ _),q9,q10,(fun _=>⟨HS.out,HT.out⟩)⟩
 ·rintro l a wr ⟨b0,b1,b2,b3,b4,b5,b6,b7,b8,b9,b10,b11,x3,x4,x5,x6,x7,x8,x9,x10,x11,x12,x13,y0,y1,rfl,rfl,hC,hG,hR,q0,q1,q2,q3,q4,q5,q6,q7,q8,q9,q10,q11⟩ hr
  have t0:b0=true:=by
   cases hb:b0 with
   | true=>rfl
   | false=>
    exact(aF hr (i:=0) rfl hb (by simp[Region.binds])).elim
  have t1:b1=true:=by
   cases hb:b1 with
   | true=>rfl
   | false=>
    exact(aF hr (i:=1) rfl hb (by simp[Region.binds])).elim
  have t5:b5=true:=by
   cases hb:b5 with
   | true=>rfl
   | false=>
    exact(aF hr (i:=5) rfl hb (by simp[Region.binds])).elim
  have t6:b6=true:=by
   cases hb:b6 with
   | true=>rfl
   | false=>
    exact(aF hr (i:=6) rfl hb (by simp[Region.binds])).elim
  have t2:b2=true:=by
   cases hb:b2 with
   | true=>rfl
   | false=>
    exact(aF hr (i:=2) rfl hb (by simp[Region.binds,t1])).elim
  have t3:b3=true:=by
   cases hb:b3 with
   | true=>rfl
   | false=>
    exact(aF hr (i:=3) rfl hb (by simp[Region.binds,t0,t2])).elim
  have t4:b4=true:=by
   cases hb:b4 with
   | true=>rfl
   | false=>
    exact(aF hr (i:=4) rfl hb (by simp[Region.binds,t3])).elim
  have t7:b7=true:=by
   cases hb:b7 with
   | true=>rfl
   | false=>
    exact(aF hr (i:=7) rfl hb (by simp[Region.binds,t6,t2])).elim
  have t8:b8=true:=by
   cases hb:b8 with
   | true=>rfl
   | false=>
    exact(aF hr (i:=8) rfl hb (by simp[Region.binds,t5,t7])).elim
  have t9:b9=true:=by
   cases hb:b9 with
   | true=>rfl
   | false=>
    exact(aF hr (i:=9) rfl hb (by simp[Region.binds,t8])).elim
  have t10:b10=true:=by
   cases hb:b10 with
   | true=>rfl
   | false=>
    exact(aF hr (i:=10) rfl hb (by simp[Region.binds,t4,t9])).elim
  have t11:b11=true:=by
   cases hb:b11 with
   | true=>rfl
   | false=>
    exact(aF hr (i:=11) rfl hb (by simp[Region.binds,t0,t1,t2,t3,t4,t5,t6,t7,t8,t9,t10])).elim
  obtain⟨hs,ht⟩:=q11 t11
  have c0:=hR.cell (k:=0) rfl
  have c1:=hR.cell (k:=1) rfl
  clear hr t0 t1 t2 t3 t4 t5 t6 t7 t8 t9 t10 t11 q0 q1 q2 q3 q4 q5 q6 q7 q8 q9 q10 q11 hR
  have HS:=aa hs
  have HT:=aa ht
  clear hs ht
  go_wp2_with fail
  exact bodyPost_ret (v:=pv y0 y1) (by simp[results,Tryz.results80,go_sem,c0,c1]) rfl ⟨y0,y1,rfl,HS.out,HT.out,hC,hG⟩
theorem Tryz.info122:(Tryz.prog.info? 122).map (fun i=>(i.zero,i.size,i.bytes))=some (some (.agg #[.int .i64 0,.int .i64 0]),2,16):=by kernel_rfl
theorem nA (g m:Nat) (w:World) (h:Hid (ar w g)) (hm:m<=1000):Calls Tryz.prog 52 #[.pointer (some ⟨g,0,none⟩),.int .i64 (m:Int)] w (xu cH g 122 m w):=by
 obtain⟨i0,hi,hz0,hz1,hz2⟩:=info_parts Tryz.info122
 have hg:=h.out.lt
 go_enter Tryz.func52,Tryz.ntmps52
 go_wp2_with fail
 refine(a6 g _ _ h (by omega) (by omega)).mono ?_
 rintro e w1 ⟨v,rfl,v0,v1,hC,hG,hz⟩
 clear hz
 obtain⟨k,rfl⟩:=Int.eq_ofNat_of_zero_le v0
 have HR:=aa (iD.start (ok:=cH) (t:=122) (m:=m) (by omega:k<=m) hC hG)
 clear hC hG v0 v1
 go_wp2_with fail
 go_loopw [6,5] (fun nv lv wr=>Hid (iD cH w g 122 m nv lv wr)) (fun nv _ _=>(intOf nv).toNat)
 case atStart=>exact HR
 case round=>
  obtain⟨k,l,hk,rfl,ho,hok,hC,hG⟩:=hrel.out
  have Hok:=aa hok
  have HC:=aa hC
  have HG:=aa hG
  clear HR hrel hok hC hG
  by_cases hlt:0<k
  ·have hlt':(0:Int)<(k:Int):=by omega
   obtain⟨j,rfl⟩:∃j,k=j+1:=⟨k-1,by omega⟩
   go_wp2_with fail
   refine(vD g _ HC).mono ?_
   rintro e w2 ⟨x,y,rfl,hx,hy,hC2,hG2⟩
   have ho2:=tQ ho hg hG2
   have HX:=aa (show cH x y=true by unfold cH;rw[hx,hy];rfl)
   have HC2:=aa hC2
   have HG2:=aa (HG.out.trans hG2)
   have hbs:w.heap.size<=w2.heap.size:=HG2.out.size
   clear hx hy hC2 hG2 ho
   go_wp2_with (at_builtin;refine wpList_append_own _ rfl (.tmp 15) (.tmp 18) 96 rfl w.heap.size 122 i0 (.agg #[.int .i64 0,.int .i64 0]) 2 16 Tryz.underlying96 hi hz0 hz1 hz2 rfl (by decide) _ l.length (bm l) rfl (ho2.alloc _) ⟨w2.heap.size,0,none⟩ 1 1 [.int .i64 x,.int .i64 y] rfl rfl (xR _ _ _ _) (sU _ _) (by unfold maxLen;omega) (by omega) (by simp;omega) ?_)
   intro v' w3 ho3 hg3 _
   have R:=aa (iD.step (ok:=cH) (k:=j) (by omega:j+1+l.length<=m) hg ho2 Hok.out HX.out HC2.out HG2.out ho3 hg3)
   clear ho3 hg3 ho2
   go_wp2_with fail
   go_roundw
   case rel=>first|exact R|(have e:((j+1:Nat):Int)-1=(j:Int):=(by omega);simpa[e] using R)
   case measure=>simp[intOf]
  ·obtain rfl:k=0:=by omega
   obtain⟨A,c,rfl,hA,_⟩:=bX ho
   have HO:=aa ho
   clear ho
   go_wp2_with fail
   go_ret
   exact⟨A,c,l,rfl,hA,HO.out,by omega,Hok.out,HC.out,HG.out⟩
structure TrAt (w:World) (B:Nat) (A:Option Addr) (n c:Nat) (l:List Nat):Prop where
 len:l.length=n
 cap:n<=c
 most:n<=9223372036854775807
 nil_:A=none->c=0
 see:an w B A (ah l)
 lt:∀v∈l,v<ae
theorem TrAt.keep {w w':World} {B n c:Nat} {A:Option Addr} {l:List Nat} (h:TrAt w B A n c l) (hk:∀p:Addr,p.block<B->w'.cell? p=w.cell? p):TrAt w' B A n c l:=⟨h.len,h.cap,h.most,h.nil_,h.see.keep hk,h.lt⟩
theorem TrAt.below {w w':World} {B n c:Nat} {A:Option Addr} {l:List Nat} (h:TrAt w B A n c l) (hb:Below B w w'):TrAt w' B A n c l:=h.keep fun _ hp=>hb.cell hp
theorem TrAt.call {w w':World} {n c:Nat} {A:Option Addr} {l:List Nat} (h:TrAt w w.heap.size A n c l) (hb:Below w.heap.size w w'):TrAt w' w'.heap.size A n c l:=⟨h.len,h.cap,h.most,h.nil_,(h.see.below hb).more hb.size,h.lt⟩
theorem qM (l:List Nat) (k V:Nat) (h:l[k]?=some V):(ah l)[k*2]?=some (.int .u64 (lo V))/\(ah l)[k*2+1]?=some (.int .u64 (hi V)):=by
 induction l generalizing k with
 | nil=>simp at h
 | cons x r ih=>
  cases k with
  | zero=>
   simp at h
   subst h
   exact⟨rfl,rfl⟩
  | succ k=>
   have:=ih k (by simpa using h)
   have e:ah (x::r)=.int .u64 (lo x)::.int .u64 (hi x)::ah r:=rfl
   rw[e,show(k+1)*2=k*2+1+1 by omega,show k*2+1+1+1=(k*2+1)+1+1 by omega]
   simpa using this
theorem xx {w:World} {B n c k:Nat} {A:Option Addr} {l:List Nat} (h:TrAt w B A n c l) (hk:k<n):∃b off V,A=some ⟨b,off,none⟩/\l[k]?=some V/\V<ae/\w.cell? ⟨b,off+k*2,none⟩=some (.int .u64 (lo V))/\w.cell? ⟨b,off+k*2+1,none⟩=some (.int .u64 (hi V)):=by
 obtain⟨V,hV⟩:∃V,l[k]?=some V:=⟨_,List.getElem?_eq_getElem (show k<l.length by rw[h.len];exact hk)⟩
 obtain⟨h0,h1⟩:=qM l k V hV
 obtain⟨b,off,e,_,c0⟩:=h.see _ _ h0
 obtain⟨b',off',e',_,c1⟩:=h.see _ _ h1
 rw[e] at e'
 injection e' with e'
 injection e' with e1 e2
 subst e1 e2
 exact⟨b,off,V,e,hV,h.lt V (List.mem_of_getElem? hV),c0,by rw[Nat.add_assoc];exact c1⟩
theorem xU {l l':List Nat} {k V:Nat} (h:l.take k=l'.take k) (h1:l[k]?=some V) (h2:l'[k]?=some V):l.take (k+1)=l'.take (k+1):=by
 rw[List.take_add_one,List.take_add_one,h,h1,h2]
theorem vy {l l':List Nat} {k V U:Nat} (h1:l[k]?=some V) (h2:l'[k]?=some U) (h:V≠U):decide (l=l')=false:=by
 rw[decide_eq_false_iff_not]
 rintro rfl
 rw[h1] at h2
 injection h2 with h2
 exact h h2
theorem qW (A:Option Addr) (n c:Nat) (l:List Nat) (A':Option Addr) (n' c':Nat) (l':List Nat) (B:Nat) (w:World) (h:Hid (TrAt w B A n c l)) (h':Hid (TrAt w B A' n' c' l')) (hB:B<=w.heap.size) :
  Calls Tryz.prog 21 #[.slice A n c,.slice A' n' c'] w fun e w'=>e=.returned (.bool (decide (l=l')))/\Below w.heap.size w w':=by
 obtain⟨b,hb⟩:∃b,decide (l=l')=b:=⟨_,rfl⟩
 rw[hb]
 have HB:=aa hb
 clear hb
 have hm:=h.out.most
 have hm':=h'.out.most
 by_cases hnn:n=n'
 ·subst hnn
  go_enter Tryz.func21,Tryz.ntmps21
  go_wp2_with fail
  go_loopw [5] (fun i wr=>∃k:Nat,k<=n/\i=.int .i64 k/\Hid (l.take k=l'.take k)/\Hid (Below w.heap.size w wr)) (fun i _=>n-(intOf i).toNat)
  case atStart=>exact⟨0,by omega,rfl,aa rfl,aa (Below.refl _ _)⟩
  case round=>
   obtain⟨k,hk,rfl,hT,BB⟩:=hrel
   by_cases hlt:k<n
   ·have hd:decide ((k:Int)<(n:Int))=true:=by simp;omega
    obtain⟨g1,o1,V,rfl,hV,v2,c0,c1⟩:=xx (h.out.below (BB.out.mono hB)) hlt
    obtain⟨g2,o2,U,rfl,hU,u2,d0,d1⟩:=xx (h'.out.below (BB.out.mono hB)) hlt
    have y0:=fun p:After wr=>af c0 p
    have y1:=fun p:After wr=>af c1 p
    have z0:=fun p:After wr=>af d0 p
    have z1:=fun p:After wr=>af d1 p
    have i0:(0:Int)<=(k:Int):=by omega
    have i1:(k:Int)<(n:Int):=by omega
    by_cases hVU:V=U
    ·subst hVU
     have HN:=aa (xU hT.out hV hU)
     have hq:=fun W=>pV V V W rfl
     clear c0 c1 d0 d1 hV hU
     go_upto_region 6 with(fail)
     refine aJ (by kernel_rfl) (by kernel_rfl) ?_
     repeat(go_big_quiet_step (fail))
     refine wpQuiet_nil ?_
     intro _ hw'
     obtain⟨p1,hw''⟩:=hw'
     subst hw''
     have HB9:=aa (ac BB.out p1.b)
     go_wp2_with fail
     go_roundw
     case rel=>exact⟨k+1,by omega,by go_num,HN,HB9⟩
     case measure=>simp[intOf];omega
    ·have hE:=aa (HB.out.symm.trans (vy hV hU hVU))
     have hq:=fun W=>td V U W v2 u2
     rw[decide_eq_false hVU] at hq
     clear c0 c1 d0 d1 hV hU
     go_upto_region 6 with(fail)
     refine aJ (by kernel_rfl) (by kernel_rfl) ?_
     repeat(go_big_quiet_step (fail))
     refine wpQuiet_nil ?_
     intro _ hw'
     obtain⟨p1,hw''⟩:=hw'
     subst hw''
     have HB9:=aa (ac BB.out p1.b)
     go_wp2_with fail
     go_ret
     exact⟨by rw[hE.out];rfl,HB9.out⟩
   ·obtain rfl:k=n:=by omega
    have hE:=aa (HB.out.symm.trans (decide_eq_true (by
     have:=hT.out
     rwa[List.take_of_length_le (by rw[h.out.len];omega),List.take_of_length_le (by rw[h'.out.len];omega)] at this)))
    go_wp2_with fail
    go_ret
    exact⟨by rw[hE.out];rfl,BB.out⟩
 ·have hE:=aa (HB.out.symm.trans (decide_eq_false (fun e=>hnn (by rw[<-h.out.len,<-h'.out.len,e]))))
  have hne:((n:Int) !=(n':Int))=true:=by rw[bne_iff_ne];exact fun e=>hnn (Int.ofNat.inj e)
  go_enter Tryz.func21,Tryz.ntmps21
  go_wp2_with fail
  go_ret
  exact⟨by rw[hE.out];rfl,Below.refl _ _⟩
abbrev ov (k c:Int) (r:Nat) (A:Option Addr) (n cap:Nat) (s:Int):Value:=.agg #[.int .i64 k,.int .u64 c,.int .u64 (lo r),.int .u64 (hi r),.slice A n cap,.int .i64 s]
abbrev ovl (k c:Int) (r:Nat) (A:Option Addr) (n cap:Nat) (s:Int):List Value:=[.int .i64 k,.int .u64 c,.int .u64 (lo r),.int .u64 (hi r),.slice A n cap,.int .i64 s]
def gB (k c:Int) (r:Nat) (l:List Nat) (s:Int) (k' c':Int) (r':Nat) (l':List Nat) (s':Int):Bool:=decide (k=k')&&decide (c=c')&&decide (r=r')&&decide (l=l')&&decide (s=s')
def BH (k:Int):Bool:=decide (k=0\/k=1\/k=2)
theorem eqi (x y:Int):(x==y)=decide (x=y):=by by_cases h:x=y<;>simp[h]
theorem th (k c:Int) (r:Nat) (A:Option Addr) (n cap:Nat) (l:List Nat) (s:Int) (k' c':Int) (r':Nat) (A':Option Addr) (n' cap':Nat) (l':List Nat) (s':Int) (w:World) (h:Hid (TrAt w w.heap.size A n cap l)) (h':Hid (TrAt w w.heap.size A' n' cap' l')) (hr:r<ae) (hr':r'<ae) :
  Calls Tryz.prog 12 #[ov k c r A n cap s,ov k' c' r' A' n' cap' s'] w fun e w'=>e=.returned (.bool (gB k c r l s k' c' r' l' s'))/\Below w.heap.size w w':=by
 obtain⟨W0,hW0⟩:∃W,(w.alloc (.cells #[.int .i64 k,.int .u64 c,.int .u64 (lo r),.int .u64 (hi r),.slice A n cap,.int .i64 s] 41)).alloc (.cells #[.int .i64 k',.int .u64 c',.int .u64 (lo r'),.int .u64 (hi r'),.slice A' n' cap',.int .i64 s'] 41)=W:=⟨_,rfl⟩
 have HW0:=aa hW0
 have RX:=aa (show Row W0 w.heap.size 41 (ovl k c r A n cap s) by rw[<-hW0];exact(Row.new w _ _).alloc _)
 have RY:=aa (show Row W0 (w.heap.size+1) 41 (ovl k' c' r' A' n' cap' s') by rw[<-hW0];exact(Row.new _ _ _).at_ (by simp))
 have B0:=aa (show Below w.heap.size w W0 by rw[<-hW0];exact aP w _ _)
 have H:=aa (h.out.call B0.out)
 have H':=aa (h'.out.call B0.out)
 clear hW0
 have x0:=RX.out.cell (k:=0) rfl
 have x1:=RX.out.cell (k:=1) rfl
 have x2:=RX.out.cell (k:=2) rfl
 have x3:=RX.out.cell (k:=3) rfl
 have x4:=RX.out.cell (k:=4) rfl
 have x5:=RX.out.cell (k:=5) rfl
 have y0:=RY.out.cell (k:=0) rfl
 have y1:=RY.out.cell (k:=1) rfl
 have y2:=RY.out.cell (k:=2) rfl
 have y3:=RY.out.cell (k:=3) rfl
 have y4:=RY.out.cell (k:=4) rfl
 have y5:=RY.out.cell (k:=5) rfl
 have hv:=fun W=>jA r r' W hr hr'
 have ct:=fun W (HS:Hid (TrAt W W.heap.size A n cap l)) (HT:Hid (TrAt W W.heap.size A' n' cap' l'))=>qW A n cap l A' n' cap' l' W.heap.size W HS HT (Nat.le_refl _)
 by_cases hk:k=k'
 ·subst hk
  by_cases hc:c=c'
  ·subst hc
   by_cases hrr:r=r'
   ·subst hrr
    rw[decide_eq_true rfl] at hv
    by_cases hs:s=s'
    ·subst hs
     by_cases hll:l=l'
     ·have hB:=aa (show gB k c r l s k c r l' s=true by simp[gB,hll])
      rw[decide_eq_true hll] at ct
      go_enter Tryz.func12,Tryz.ntmps12
      go_upto_region 1 with(fail)
      rw[HW0.out]
      go_wp2_with fail
      go_fit (ct _ H H')
      rintro e w1 ⟨rfl,hb1⟩
      go_wp2_with fail
      go_ret
      exact⟨by rw[hB.out];rfl,ac B0.out hb1⟩
     ·have hB:=aa (show gB k c r l s k c r l' s=false by simp[gB,hll])
      rw[decide_eq_false hll] at ct
      go_enter Tryz.func12,Tryz.ntmps12
      go_upto_region 1 with(fail)
      rw[HW0.out]
      go_wp2_with fail
      go_fit (ct _ H H')
      rintro e w1 ⟨rfl,hb1⟩
      go_wp2_with fail
      go_ret
      exact⟨by rw[hB.out];rfl,ac B0.out hb1⟩
    ·have hB:=aa (show gB k c r l s k c r l' s'=false by simp[gB,hs])
     have hse:(s==s')=false:=by simpa using hs
     go_enter Tryz.func12,Tryz.ntmps12
     go_upto_region 1 with(fail)
     rw[HW0.out]
     go_wp2_with fail
     go_ret
     exact⟨by rw[hB.out];rfl,B0.out⟩
   ·have hB:=aa (show gB k c r l s k c r' l' s'=false by simp[gB,hrr])
    rw[decide_eq_false hrr] at hv
    go_enter Tryz.func12,Tryz.ntmps12
    go_upto_region 1 with(fail)
    rw[HW0.out]
    go_wp2_with fail
    go_ret
    exact⟨by rw[hB.out];rfl,B0.out⟩
  ·have hB:=aa (show gB k c r l s k c' r' l' s'=false by simp[gB,hc])
   have hce:(c==c')=false:=by simpa using hc
   go_enter Tryz.func12,Tryz.ntmps12
   go_upto_region 1 with(fail)
   rw[HW0.out]
   go_wp2_with fail
   go_ret
   exact⟨by rw[hB.out];rfl,B0.out⟩
 ·have hB:=aa (show gB k c r l s k' c' r' l' s'=false by simp[gB,hk])
  have hke:(k==k')=false:=by simpa using hk
  go_enter Tryz.func12,Tryz.ntmps12
  go_upto_region 1 with(fail)
  rw[HW0.out]
  go_wp2_with fail
  go_ret
  exact⟨by rw[hB.out];rfl,B0.out⟩
theorem yz {w:World} {base e size n c:Nat} {A:Option Addr} {xs:List Value} (h:w.ownsRow base e size (.slice A n c) n xs):c<=9223372036854775807:=by
 rcases h.2 with⟨h1,_⟩|⟨g,cap,cur,h1,_,_,_,h5,_⟩
 ·injection h1 with _ _ h1;omega
 ·injection h1 with _ _ h1;unfold maxLen at h5;omega
theorem zH {w:World} {base n c:Nat} {A:Option Addr} {l:List Nat} (h:w.ownsRow base 38 2 (.slice A n c) n (ah l)) (hl:l.length=n) (hv:∀v∈l,v<ae):TrAt w w.heap.size A n c l:=by
 obtain⟨A',c',e,hA,hc,_,hs⟩:=aW h
 injection e with e1 e2 e3
 subst e1 e3
 exact⟨hl,hc,by have:=yz h;omega,hA,hs,hv⟩
theorem pQ9 (l:List Nat) (k:Nat):(ah l).take (k*2)=ah (l.take k):=by
 induction l generalizing k with
 | nil=>simp[ah]
 | cons a s ih=>
  cases k with
  | zero=>simp[ah]
  | succ k=>
   have:=ih k
   unfold ah at this⊢
   simp only[List.flatMap_cons,List.take_succ_cons]
   have h2:(iE a).length=2:=rfl
   rw[List.take_append,h2,show(k+1)*2-2=k*2 by omega,this,List.take_of_length_le (by rw[h2];omega)]
theorem BE {w:World} {B n c m:Nat} {A:Option Addr} {l:List Nat} (h:TrAt w B A n c l) (hm:m<=n):TrAt w B A m c (l.take m):=
 ⟨by rw[List.length_take,h.len];omega,by have:=h.cap;omega,by have:=h.most;omega,h.nil_,by rw[<-pQ9];exact h.see.take _,fun v hv=>h.lt v (List.mem_of_mem_take hv)⟩
section
variable {w:World}
theorem AR9:(isAgg 41).run Tryz.prog w=.ok true w:=by kernel_rfl
theorem zN9:(sizeOf 41).run Tryz.prog w=.ok 6 w:=by kernel_rfl
end
def Byt (l:List Int):Prop:=∀z∈l,0<=z/\z<=255
theorem Byt.nil_:Byt []:=fun z h=>by cases h
theorem Byt.one {z:Int} (h0:0<=z) (h1:z<=255):Byt [z]:=fun y h=>by simp at h;subst h;exact⟨h0,h1⟩
theorem Byt.cons {z:Int} {l:List Int} (h0:0<=z) (h1:z<=255) (h:Byt l):Byt (z::l):=fun y hy=>by
 rcases List.mem_cons.1 hy with rfl|hy
 ·exact⟨h0,h1⟩
 ·exact h y hy
theorem Byt.app {l m:List Int} (h:Byt l) (h':Byt m):Byt (l++m):=fun z hz=>by
 rcases List.mem_append.1 hz with h1|h1
 ·exact h z h1
 ·exact h' z h1
theorem Byt.left {l m:List Int} (h:Byt (l++m)):Byt l:=fun z hz=>h z (List.mem_append_left _ hz)
theorem Byt.right {l m:List Int} (h:Byt (l++m)):Byt m:=fun z hz=>h z (List.mem_append_right _ hz)
theorem Byt.take {l:List Int} (h:Byt l) (n:Nat):Byt (l.take n):=fun z hz=>h z (List.mem_of_mem_take hz)
theorem Byt.drop {l:List Int} (h:Byt l) (n:Nat):Byt (l.drop n):=fun z hz=>h z (List.mem_of_mem_drop hz)
theorem Byt.flat {α:Type} {f:α->List Int} {l:List α} (h:∀a∈l,Byt (f a)):Byt (l.flatMap f):=fun z hz=>by
 obtain⟨a,ha,hz⟩:=List.mem_flatMap.1 hz
 exact h a ha z hz
structure BsAt (w:World) (B:Nat) (A:Option Addr) (n c:Nat) (zs:List Int):Prop where
 len:zs.length=n
 nc:n<=c
 nil_:A=none->c=0
 cm:c<=9223372036854775807
 byt:Byt zs
 see:an w B A (aq zs)
section
variable {w w':World} {B B' n c:Nat} {A:Option Addr} {zs:List Int}
theorem BsAt.below (h:BsAt w B A n c zs) (hb:Below B w w'):BsAt w' B A n c zs:=⟨h.len,h.nc,h.nil_,h.cm,h.byt,h.see.below hb⟩
theorem BsAt.more (h:BsAt w B A n c zs) (hB:B<=B'):BsAt w B' A n c zs:=⟨h.len,h.nc,h.nil_,h.cm,h.byt,h.see.more hB⟩
theorem BsAt.call (h:BsAt w w.heap.size A n c zs) (hb:Below w.heap.size w w'):BsAt w' w'.heap.size A n c zs:=(h.below hb).more hb.size
theorem BsAt.keep (h:BsAt w B A n c zs) (hk:∀p:Addr,p.block<B->w'.cell? p=w.cell? p):BsAt w' B A n c zs:=⟨h.len,h.nc,h.nil_,h.cm,h.byt,h.see.keep hk⟩
theorem BsAt.own {base:Nat} {t:TypeId} (h:w.ownsRow base t 1 (.slice A n c) n (aq zs)) (hz:Byt zs):BsAt w w.heap.size A n c zs:=by
 obtain⟨A',c',e,hA,hnc,_,hs⟩:=aW h
 obtain⟨A'',c'',e',_,hcm⟩:=bX h
 injection e with e1 _ e3
 subst e1 e3
 have hc:c<=maxLen:=by
  rcases h.2 with⟨he,h0⟩|⟨g,cap,cur,he,_,_,_,hm,_⟩
  ·injection he with _ _ he;subst he;omega
  ·injection he with _ _ he;omega
 exact⟨by have:=yx h;simpa[aq] using this,hnc,hA,by unfold maxLen at hc;exact hc,hz,hs⟩
theorem BsAt.take (h:BsAt w B A n c zs) {k:Nat} (hk:k<=n):BsAt w B A k c (zs.take k):=⟨by rw[List.length_take,h.len];omega,by have:=h.nc;omega,h.nil_,h.cm,h.byt.take k,by have:=h.see.take k;rwa[mz] at this⟩
end
theorem BD (w:World) (lo B:Nat):PgAt w lo B none 0 0 [] []:=⟨rfl,⟨fun _=>rfl,Nat.le_refl _,Nat.zero_le _⟩,Far.none _,an.nil_ _ _ _,⟨rfl,fun k h f e=>by simp at e⟩⟩
theorem AQ9 {w w' w'':World} {D:Nat} (h:Below w.heap.size w w') (hG:w'.grownBy w'' (some D)) (hD:w.heap.size<=D):Below w.heap.size w w'':=h.grown hG h.size fun k hk=>by injection hk with hk;omega
theorem wJ:(Tryz.prog.info? 36).map (fun i=>(i.zero,i.size,i.bytes))=some (some (.int .u64 0),1,8):=by kernel_rfl
theorem yL (w:World) (x:Value) (t:TypeId):∀(j:Nat) (u:Value),[x][j]?=some u->(w.alloc (.cells #[x] t)).cell? ((⟨w.heap.size,0,none⟩:Addr).add j)=some u:=by
 intro j u hu
 rw[WideShapes.add_plain,Nat.zero_add]
 exact(Row.new w t [x]).cell hu
theorem zC9 (l:List Nat):(dM l).length=l.length:=by simp[dM]
theorem qS (l:List Nat) (v:Nat):dM (l++[v])=dM l++[.int .u64 (v:Int)]:=by simp[dM]
def jt (w0:World) (g:Nat) (nv lv:Value) (wr:World):Prop:=
 ∃(k:Nat) (l:List Nat),k+l.length<=3/\nv=.int .i64 (k:Int)/\wr.ownsRow w0.heap.size 36 1 lv l.length (dM l)/\(∀v∈l,v<18446744073709551616)/\ar wr g/\w0.grownBy wr (some g)
def zx (g:Nat) (w:World) (e:Ending) (w':World):Prop:=
 ∃(A:Option Addr) (n c:Nat) (l:List Nat),e=.returned (.slice A n c)/\l.length=n/\n<=3/\(A=none->c=0)/\w'.ownsRow w.heap.size 36 1 (.slice A n c) n (dM l)/\(∀v∈l,v<18446744073709551616)/\ar w' g/\w.grownBy w' (some g)
section
variable {w0 wr w2 w3:World} {g:Nat} {lv v':Value} {l:List Nat}
theorem yM (ho:wr.ownsRow w0.heap.size 36 1 lv l.length (dM l)) (hg:g<w0.heap.size):lv.ownBlock=none\/lv.ownBlock≠some g:=by
 cases e:lv.ownBlock with
 | none=>exact .inl rfl
 | some k=>exact .inr fun h=>by have:=(ho.lt k e).1;injection h with h;omega
theorem jt.step {k:Nat} {x:Int} (hk:k+1+l.length<=3) (hg:g<w0.heap.size) (ho:w2.ownsRow w0.heap.size 36 1 lv l.length (dM l)) (hok:∀v∈l,v<18446744073709551616) (hx:isW x) (hC:ar w2 g) (hG:w0.grownBy w2 (some g))
  (ho':w3.ownsRow w0.heap.size 36 1 v' (l.length+1) (dM l++[.int .u64 x])) (hg':(w2.alloc (.cells #[.int .u64 x] 36)).grownBy w3 lv.ownBlock) :
  jt w0 g (.int .i64 (k:Int)) v' w3:=by
 obtain⟨v,rfl⟩:=Int.eq_ofNat_of_zero_le hx.1
 have hv:=hx.2
 refine⟨k,l++[v],by simp;omega,rfl,?_,fun u hu=>?_,(hC.alloc _).kept hg' (fun j hj=>?_),(hG.trans (World.grownBy_alloc _ _ _)).andThen hg' (fun j hj=>.inl (ho.lt j hj).1)⟩
 ·rw[qS]
  simpa using ho'
 ·rcases List.mem_append.1 hu with h|h
  ·exact hok u h
  ·simp at h;subst h;omega
 ·have:=(ho.lt j hj).1
  omega
theorem jt.start {k:Nat} (hk:k<=3) (hC:ar wr g) (hG:w0.grownBy wr (some g)):jt w0 g (.int .i64 (k:Int)) (.slice none 0 0) wr:=
 ⟨k,[],by simpa using hk,rfl,⟨by simp[dM],.inl ⟨rfl,rfl⟩⟩,(fun u hu=>by cases hu),hC,hG⟩
end
theorem uv (g:Nat) (w:World) (h:Hid (ar w g)):Calls Tryz.prog 15 #[.pointer (some ⟨g,0,none⟩)] w (zx g w):=by
 obtain⟨i0,hi,hz0,hz1,hz2⟩:=info_parts wJ
 have hg:=h.out.lt
 go_enter Tryz.func15,Tryz.ntmps15
 go_wp2_with fail
 refine(a6 g _ _ h (by omega) (by omega)).mono ?_
 rintro e w1 ⟨v,rfl,v0,v1,hC,hG,hz⟩
 clear hz
 obtain⟨k,rfl⟩:=Int.eq_ofNat_of_zero_le v0
 have HR:=aa (jt.start (by omega:k<=3) hC hG)
 clear hC hG v0 v1
 go_wp2_with fail
 go_loopw [4,3] (fun nv lv wr=>Hid (jt w g nv lv wr)) (fun nv _ _=>(intOf nv).toNat)
 case atStart=>exact HR
 case round=>
  obtain⟨k,l,hk,rfl,ho,hok,hC,hG⟩:=hrel.out
  have Hok:=aa hok
  have HC:=aa hC
  have HG:=aa hG
  clear HR hrel hok hC hG
  by_cases hlt:0<k
  ·have hlt':(0:Int)<(k:Int):=by omega
   obtain⟨j,rfl⟩:∃j,k=j+1:=⟨k-1,by omega⟩
   go_wp2_with fail
   refine(iR g _ HC).mono ?_
   rintro e w2 ⟨x,rfl,hx,hC2,hG2,hz2⟩
   have ho2:=ho.kept hG2 (yM ho hg)
   have HX:=aa hx
   have HC2:=aa hC2
   have HG2:=aa (HG.out.trans hG2)
   have hbs:w.heap.size<=w2.heap.size:=HG2.out.size
   clear hx hC2 hG2 ho hz2
   go_wp2_with (at_builtin;refine wpList_append_own _ rfl (.tmp 11) (.tmp 14) 27 rfl w.heap.size 36 i0 (.int .u64 0) 1 8 Tryz.underlying27 hi hz0 hz1 hz2 rfl (by decide) _ l.length (dM l) rfl (ho2.alloc _) ⟨w2.heap.size,0,none⟩ 1 1 [.int .u64 x] rfl rfl (yL _ _ _) (fun u hu=>by simp at hu;subst hu;rfl) (by unfold maxLen;omega) (by omega) (by simp;omega) ?_)
   intro v' w3 ho3 hg3 _
   have R:=aa (jt.step (k:=j) (by omega:j+1+l.length<=3) hg ho2 Hok.out HX.out HC2.out HG2.out ho3 hg3)
   clear ho3 hg3 ho2
   go_wp2_with fail
   go_roundw
   case rel=>first|exact R|(have e:((j+1:Nat):Int)-1=(j:Int):=(by omega);simpa[e] using R)
   case measure=>simp[intOf]
  ·obtain rfl:k=0:=by omega
   obtain⟨A,c,rfl,hA,_⟩:=bX ho
   have HO:=aa ho
   clear ho
   go_wp2_with fail
   go_ret
   exact⟨A,l.length,c,l,rfl,rfl,by omega,hA,HO.out,Hok.out,HC.out,HG.out⟩
end Go.Proofs.YtjbgepjdohfhkaaGreat
