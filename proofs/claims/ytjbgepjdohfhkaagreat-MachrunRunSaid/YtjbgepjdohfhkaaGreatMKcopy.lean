/- The contract of the reference's Copy: both rows are the call's own. Conditions: those of the types; the stack is one for which Check is true. -/
import Derived.Test.YtjbgepjdohfhkaaGreatMKmw
set_option linter.unusedVariables false
set_option linter.unusedSimpArgs false
set_option maxRecDepth 100000
set_option maxHeartbeats 4000000
namespace Go.Proofs.YtjbgepjdohfhkaaGreat
open Go.RowKit
theorem kI {P:Program} {w:World} {o:Oper} {a:Act} {K:Act->World->Prop} {Q:Exit->Act->World->Prop} (s x:Operand) (t:TypeId)
  (ho:o.op=.call { callee:=.builtin .append,args:=#[s,x],argTypes:=#[t,t] })
  (base:Nat) (e:TypeId) (i:TypeInfo) (z:Value) (bytes:Nat) (ht:P.underlying t=some (.slice e)) (hi:P.info? e=some i) (hz:i.zero=some z)
  (hsize:i.size=1) (hby:i.bytes=bytes) (hzs:z.cells.size=1) (hs:a.eval s=.slice none 0 0)
  (B:Nat) (A:Option Addr) (m c:Nat) (news:List Value) (hx:a.eval x=.slice A m c) (hA:Hid (A=none->c=0)) (hl:news.length=m) (hsee:an w B A news) (h1:∀u∈news,u.oneCell'=true)
  (h63:m<=maxLen) (hbytes:m*bytes<=140737488355328) (hbase:base<=w.heap.size)
  (h:∀v' w',w'.ownsRow base e 1 v' m news->Below w.heap.size w w'->K (a.put o.dst v') w'):o.wp P a w K Q:=by
 rcases A with _|ad
 ·have hm:news=[]:=by
   rcases news with _|⟨u,r⟩
   ·rfl
   ·obtain⟨_,_,he,_⟩:=hsee 0 u rfl
    simp at he
  subst hm
  simp at hl
  subst hl
  obtain rfl:=hA.out rfl
  have hrun:=run_append_owned_none (P:=P) (w:=w) base t o.type e i 1 ht hi (.slice none 0 0) 0 [] (World.ownsRow_nil _ _ _ _)
  unfold Oper.wp
  simp[execOp,ho,resolve,invoke,builtin,hs,hx,hrun,Result.andThen]
  exact h _ w (World.ownsRow_nil _ _ _ _) (Below.refl _ _)
 ·refine wp_append_own w s x t ho base e i z 1 bytes ht hi hz hsize hby hzs (by decide) (.slice none 0 0) 0 [] hs (World.ownsRow_nil _ _ _ _) ad m c news hx (by omega) (fun j u hu=>?_) h1 (by omega) (by rw[Nat.zero_add];exact hbytes) hbase (fun v' w' h2 h3 _=>?_)
  ·rcases Nat.lt_or_ge 0 news.length with hp|hp
   ·obtain⟨ad',he,hc⟩:=hsee.src hp
    injection he with he
    subst he
    exact hc j u hu
   ·have:news=[]:=List.eq_nil_of_length_eq_zero (by omega)
    subst this
    simp at hu
  ·exact h v' w' (by simpa using h2) (ii (Below.refl _ _) (World.ownsRow_nil w w.heap.size e 1) (Nat.le_refl _) h3 (Nat.le_refl _))
def xE (A1:Option Addr) (n c1:Nat) (A2:Option Addr) (c2:Nat) (p:Int) (xs ys:List Value) (w:World) (l:Array Bool) (a:Act) (wr:World):Prop:=
 ∃(b0 b1 b2 b3 b4 b5 b6 b7 b8 b9:Bool) (x3 x4 x5 x6 x7 x8 x9 x10 x11 s0 s1:Value),l=#[b0,b1,b2,b3,b4,b5,b6,b7,b8,b9]/\a=⟨#[kv A1 n c1 A2 n c2 p,.pointer (some ⟨w.heap.size,0,none⟩),.pointer (some ⟨w.heap.size+1,0,none⟩),x3,x4,x5,x6,x7,x8,x9,x10,x11],[]⟩ /\
  Below w.heap.size w wr /\
  Row wr w.heap.size 66 [s0,s1,.int .i64 p] /\
  Row wr (w.heap.size+1) 66 [.slice none 0 0,.slice none 0 0,.int .i64 0] /\
  (b7=false->s0=.slice A1 n c1) /\
  (b7=true->s0=x5) /\
  (b9=false->s1=.slice A2 n c2) /\
  (b9=true->s1=x8) /\
  (b1=true->b0=true) /\
  (b2=true->b1=true) /\
  (b4=true->b3=true) /\
  (b5=true->b4=true) /\
  (b7=true->b2=true/\b5=true/\b6=true) /\
  (b9=true->b7=true/\b8=true) /\
  (b0=true->x3=.pointer (some ⟨w.heap.size,0,none⟩)) /\
  (b1=true->x4=.slice A1 n c1) /\
  (b2=true->wr.ownsRow (w.heap.size+2) 5 1 x5 n xs) /\
  (b3=true->x6=.pointer (some ⟨w.heap.size,1,none⟩)) /\
  (b4=true->x7=.slice A2 n c2) /\
  (b5=true->wr.ownsRow (w.heap.size+2) 4 1 x8 n ys) /\
  (b6=true->x9=.pointer (some ⟨w.heap.size,0,none⟩)) /\
  (b8=true->x10=.pointer (some ⟨w.heap.size,1,none⟩))
theorem nG (A1:Option Addr) (n c1:Nat) (A2:Option Addr) (c2:Nat) (p:Int) (xs:List Int) (ys:List Bool) (w:World) (hA1:Hid (A1=none->c1=0)) (hA2:Hid (A2=none->c2=0)) (hn1:n<=c1) (hn2:n<=c2) (hm:n<=1048576) (hx:Hid (xs.length=n)) (hy:Hid (ys.length=n)) (hs1:Hid (an w w.heap.size A1 (aq xs))) (hs2:Hid (an w w.heap.size A2 (bh ys))) :
  Calls Tryz.prog 72 #[kv A1 n c1 A2 n c2 p] w (zu 5 4 n p (aq xs) (bh ys) w):=by
 obtain⟨ia,hai,ha0,ha1,ha2⟩:=info_parts Tryz.cinfo5
 obtain⟨ib,hbi,hb0,hb1,hb2⟩:=info_parts Tryz.cinfo4
 obtain⟨W,hW,hbW,hsW,r0,r1⟩:=sV w [.slice A1 n c1,.slice A2 n c2,.int .i64 p] [.slice none 0 0,.slice none 0 0,.int .i64 0] 66 66
 have HW:=aa hW
 clear hW
 go_enter Tryz.func72,Tryz.ntmps72
 go_upto_region 1 with(fail)
 rw[HW.out]
 have HI0:xE A1 n c1 A2 c2 p (aq xs) (bh ys) w (Array.replicate 10 false) ⟨#[kv A1 n c1 A2 n c2 p,.pointer (some ⟨w.heap.size,0,none⟩),.pointer (some ⟨w.heap.size+1,0,none⟩),undef,undef,undef,undef,undef,undef,undef,undef,undef],[]⟩ W.drew:=
  ⟨false,false,false,false,false,false,false,false,false,false,_,_,_,_,_,_,_,_,_,_,_,rfl,rfl,am hbW 1,r0.drew,r1.drew,(fun _=>rfl),(fun e=>by cases e),(fun _=>rfl),(fun e=>by cases e),(fun e=>by cases e),(fun e=>by cases e),(fun e=>by cases e),(fun e=>by cases e),(fun e=>by cases e),(fun e=>by cases e),(fun e=>by cases e),(fun e=>by cases e),(fun e=>by cases e),(fun e=>by cases e),(fun e=>by cases e),(fun e=>by cases e),(fun e=>by cases e),(fun e=>by cases e)⟩
 refine eq (by kernel_rfl) (xE A1 n c1 A2 c2 p (aq xs) (bh ys) w) HI0 ?_ ?_
 ·rintro l a wr ⟨b0,b1,b2,b3,b4,b5,b6,b7,b8,b9,x3,x4,x5,x6,x7,x8,x9,x10,x11,s0,s1,rfl,rfl,hB,hX,hZ,i_s0,f_s0,i_s1,f_s1,t1,t2,t4,t5,t7,t9,q0,q1,q2,q3,q4,q5,q6,q8⟩ k hi K hK
  have hlt:=jf hi
  obtain⟨hf,o,ho,ha⟩:=je hi
  clear hi
  have hlt':k<10:=hlt
  clear hlt
  rcases(show k=0\/k=1\/k=2\/k=3\/k=4\/k=5\/k=6\/k=7\/k=8\/k=9 by omega) with rfl|rfl|rfl|rfl|rfl|rfl|rfl|rfl|rfl|rfl
  ·obtain rfl:=Option.some.inj ho
   simp[Region.binds] at ha hf
   clear ha ho hlt'
   refine ak rfl rfl ?_
   go_simp
   refine hK _ _ ⟨true,b1,b2,b3,b4,b5,b6,b7,b8,b9,_,_,_,_,_,_,_,_,_,_,_,rfl,rfl,hB,hX,hZ,i_s0,f_s0,i_s1,f_s1,(fun e=>rfl),t2,t4,t5,t7,t9,(fun _=>rfl),(by first|exact q1|exact fun _=>rfl),q2,(by first|exact q3|exact fun _=>rfl),(by first|exact q4|exact fun _=>rfl),q5,(by first|exact q6|exact fun _=>rfl),(by first|exact q8|exact fun _=>rfl)⟩
  ·obtain rfl:=Option.some.inj ho
   simp[Region.binds] at ha hf
   have d0:b0=true:=by simp_all
   have n_s0:b7=false:=by cases e:b7 with|false=>rfl|true=>have:=t7 e;simp_all
   have x:=i_s0 n_s0
   subst x
   have n_s1:b9=false:=by cases e:b9 with|false=>rfl|true=>have:=t9 e;simp_all
   have x:=i_s1 n_s1
   subst x
   have D0:=aa d0
   have x:=q0 d0
   subst x
   have hc:=hX.cell (k:=0) rfl
   clear ha ho hlt'
   refine ak rfl rfl ?_
   go_simp
   refine hK _ _ ⟨b0,true,b2,b3,b4,b5,b6,b7,b8,b9,_,_,_,_,_,_,_,_,_,_,_,rfl,rfl,hB,hX,hZ,(fun _=>rfl),f_s0,(fun _=>rfl),f_s1,(fun _=>D0.out),(fun e=>rfl),t4,t5,t7,t9,(fun _=>rfl),(fun _=>rfl),q2,(by first|exact q3|exact fun _=>rfl),(by first|exact q4|exact fun _=>rfl),q5,(by first|exact q6|exact fun _=>rfl),(by first|exact q8|exact fun _=>rfl)⟩
  ·obtain rfl:=Option.some.inj ho
   simp[Region.binds] at ha hf
   have d1:b1=true:=by simp_all
   have D1:=aa d1
   have x:=q1 d1
   subst x
   clear ha ho hlt'
   refine ak rfl rfl ?_
   refine kI (.const (.slice none 0 0)) (.tmp 4) 22 rfl (w.heap.size+2) 5 ia (.int .u8 0) 1 Tryz.underlying22 hai ha0 ha1 ha2 rfl rfl w.heap.size A1 n c1 (aq xs) rfl hA1 (by rw[dq];exact hx.out) (hs1.out.below hB) (lN xs) (by unfold maxLen;omega) (by omega) (by have:=hB.size;have:=hZ.lt;omega:w.heap.size+2<=wr.heap.size) ?_
   intro v' w' ho' hb'
   refine hK _ _ ⟨b0,b1,true,b3,b4,b5,b6,b7,b8,b9,_,_,_,_,_,_,_,_,_,_,_,rfl,rfl,(hB.trans (hb'.mono hB.size)),(hX.call hb'),(hZ.call hb'),i_s0,(fun e=>by have:=t7 e;simp_all),i_s1,f_s1,t1,(fun _=>D1.out),t4,t5,(fun e=>⟨rfl,(t7 e).2.1,(t7 e).2.2⟩),t9,(by first|exact q0|exact fun _=>rfl),(fun _=>rfl),(fun _=>ho'),(by first|exact q3|exact fun _=>rfl),(by first|exact q4|exact fun _=>rfl),(fun e=>bZ (q5 e) hb'),(by first|exact q6|exact fun _=>rfl),(by first|exact q8|exact fun _=>rfl)⟩
  ·obtain rfl:=Option.some.inj ho
   simp[Region.binds] at ha hf
   clear ha ho hlt'
   refine ak rfl rfl ?_
   go_simp
   refine hK _ _ ⟨b0,b1,b2,true,b4,b5,b6,b7,b8,b9,_,_,_,_,_,_,_,_,_,_,_,rfl,rfl,hB,hX,hZ,i_s0,f_s0,i_s1,f_s1,t1,t2,(fun e=>rfl),t5,t7,t9,(by first|exact q0|exact fun _=>rfl),(by first|exact q1|exact fun _=>rfl),q2,(fun _=>rfl),(by first|exact q4|exact fun _=>rfl),q5,(by first|exact q6|exact fun _=>rfl),(by first|exact q8|exact fun _=>rfl)⟩
  ·obtain rfl:=Option.some.inj ho
   simp[Region.binds] at ha hf
   have d3:b3=true:=by simp_all
   have n_s0:b7=false:=by cases e:b7 with|false=>rfl|true=>have:=t7 e;simp_all
   have x:=i_s0 n_s0
   subst x
   have n_s1:b9=false:=by cases e:b9 with|false=>rfl|true=>have:=t9 e;simp_all
   have x:=i_s1 n_s1
   subst x
   have D3:=aa d3
   have x:=q3 d3
   subst x
   have hc:=hX.cell (k:=1) rfl
   clear ha ho hlt'
   refine ak rfl rfl ?_
   go_simp
   refine hK _ _ ⟨b0,b1,b2,b3,true,b5,b6,b7,b8,b9,_,_,_,_,_,_,_,_,_,_,_,rfl,rfl,hB,hX,hZ,(fun _=>rfl),f_s0,(fun _=>rfl),f_s1,t1,t2,(fun _=>D3.out),(fun e=>rfl),t7,t9,(by first|exact q0|exact fun _=>rfl),(by first|exact q1|exact fun _=>rfl),q2,(fun _=>rfl),(fun _=>rfl),q5,(by first|exact q6|exact fun _=>rfl),(by first|exact q8|exact fun _=>rfl)⟩
  ·obtain rfl:=Option.some.inj ho
   simp[Region.binds] at ha hf
   have d4:b4=true:=by simp_all
   have D4:=aa d4
   have x:=q4 d4
   subst x
   clear ha ho hlt'
   refine ak rfl rfl ?_
   refine kI (.const (.slice none 0 0)) (.tmp 7) 64 rfl (w.heap.size+2) 4 ib (.bool false) 1 Tryz.underlying64 hbi hb0 hb1 hb2 rfl rfl w.heap.size A2 n c2 (bh ys) rfl hA2 (by rw[dn];exact hy.out) (hs2.out.below hB) (sy ys) (by unfold maxLen;omega) (by omega) (by have:=hB.size;have:=hZ.lt;omega:w.heap.size+2<=wr.heap.size) ?_
   intro v' w' ho' hb'
   refine hK _ _ ⟨b0,b1,b2,b3,b4,true,b6,b7,b8,b9,_,_,_,_,_,_,_,_,_,_,_,rfl,rfl,(hB.trans (hb'.mono hB.size)),(hX.call hb'),(hZ.call hb'),i_s0,f_s0,i_s1,(fun e=>by have:=t9 e;simp_all),t1,t2,t4,(fun _=>D4.out),(fun e=>⟨(t7 e).1,rfl,(t7 e).2.2⟩),t9,(by first|exact q0|exact fun _=>rfl),(by first|exact q1|exact fun _=>rfl),(fun e=>bZ (q2 e) hb'),(by first|exact q3|exact fun _=>rfl),(fun _=>rfl),(fun _=>ho'),(by first|exact q6|exact fun _=>rfl),(by first|exact q8|exact fun _=>rfl)⟩
  ·obtain rfl:=Option.some.inj ho
   simp[Region.binds] at ha hf
   clear ha ho hlt'
   refine ak rfl rfl ?_
   go_simp
   refine hK _ _ ⟨b0,b1,b2,b3,b4,b5,true,b7,b8,b9,_,_,_,_,_,_,_,_,_,_,_,rfl,rfl,hB,hX,hZ,i_s0,f_s0,i_s1,f_s1,t1,t2,t4,t5,(fun e=>⟨(t7 e).1,(t7 e).2.1,rfl⟩),t9,(by first|exact q0|exact fun _=>rfl),(by first|exact q1|exact fun _=>rfl),q2,(by first|exact q3|exact fun _=>rfl),(by first|exact q4|exact fun _=>rfl),q5,(fun _=>rfl),(by first|exact q8|exact fun _=>rfl)⟩
  ·obtain rfl:=Option.some.inj ho
   simp[Region.binds] at ha hf
   have d2:b2=true:=by simp_all
   have d5:b5=true:=by simp_all
   have d6:b6=true:=by simp_all
   have D2:=aa d2
   have D5:=aa d5
   have D6:=aa d6
   have x:=q6 d6
   subst x
   have o2:=q2 d2
   have o5:=q5 d5
   have o2:=q2 (by simp_all)
   obtain⟨a5,k5,rfl,-,-⟩:=bX o2
   have z0:=hX.cell (k:=0) rfl
   have y0:=hX.free 0
   clear ha ho hlt'
   refine ak rfl rfl ?_
   go_simp
   refine hK _ _ ⟨b0,b1,b2,b3,b4,b5,b6,true,b8,b9,_,_,_,_,_,_,_,_,_,_,_,rfl,rfl,(ay hB (Nat.le_refl _)),(hX.set_ 0 _),(hZ.far (p:=⟨w.heap.size,0,none⟩) (by simp) _),(fun e=>by cases e),(fun _=>rfl),i_s1,f_s1,t1,t2,t4,t5,(fun _=>⟨D2.out,D5.out,D6.out⟩),(fun e=>⟨rfl,(t9 e).2⟩),(by first|exact q0|exact fun _=>rfl),(by first|exact q1|exact fun _=>rfl),(fun e=>bY (q2 e) (by omega)),(by first|exact q3|exact fun _=>rfl),(by first|exact q4|exact fun _=>rfl),(fun e=>bY (q5 e) (by omega)),(fun _=>rfl),(by first|exact q8|exact fun _=>rfl)⟩
  ·obtain rfl:=Option.some.inj ho
   simp[Region.binds] at ha hf
   clear ha ho hlt'
   refine ak rfl rfl ?_
   go_simp
   refine hK _ _ ⟨b0,b1,b2,b3,b4,b5,b6,b7,true,b9,_,_,_,_,_,_,_,_,_,_,_,rfl,rfl,hB,hX,hZ,i_s0,f_s0,i_s1,f_s1,t1,t2,t4,t5,t7,(fun e=>⟨(t9 e).1,rfl⟩),(by first|exact q0|exact fun _=>rfl),(by first|exact q1|exact fun _=>rfl),q2,(by first|exact q3|exact fun _=>rfl),(by first|exact q4|exact fun _=>rfl),q5,(by first|exact q6|exact fun _=>rfl),(fun _=>rfl)⟩
  ·obtain rfl:=Option.some.inj ho
   simp[Region.binds] at ha hf
   have d7:b7=true:=by simp_all
   have d8:b8=true:=by simp_all
   have D7:=aa d7
   have D8:=aa d8
   have x:=q8 d8
   subst x
   have o5:=q5 (t7 (by simp_all)).2.1
   obtain⟨a8,k8,rfl,-,-⟩:=bX o5
   have z1:=hX.cell (k:=1) rfl
   have y1:=hX.free 1
   clear ha ho hlt'
   refine ak rfl rfl ?_
   go_simp
   refine hK _ _ ⟨b0,b1,b2,b3,b4,b5,b6,b7,b8,true,_,_,_,_,_,_,_,_,_,_,_,rfl,rfl,(ay hB (Nat.le_refl _)),(hX.set_ 1 _),(hZ.far (p:=⟨w.heap.size,1,none⟩) (by simp) _),i_s0,f_s0,(fun e=>by cases e),(fun _=>rfl),t1,t2,t4,t5,t7,(fun _=>⟨D7.out,D8.out⟩),(by first|exact q0|exact fun _=>rfl),(by first|exact q1|exact fun _=>rfl),(fun e=>bY (q2 e) (by omega)),(by first|exact q3|exact fun _=>rfl),(by first|exact q4|exact fun _=>rfl),(fun e=>bY (q5 e) (by omega)),(by first|exact q6|exact fun _=>rfl),(fun _=>rfl)⟩
 ·rintro l a wr ⟨b0,b1,b2,b3,b4,b5,b6,b7,b8,b9,x3,x4,x5,x6,x7,x8,x9,x10,x11,s0,s1,rfl,rfl,hB,hX,hZ,i_s0,f_s0,i_s1,f_s1,t1,t2,t4,t5,t7,t9,q0,q1,q2,q3,q4,q5,q6,q8⟩ hr
  have u0:b0=true:=by
   cases hb:b0 with
   | true=>rfl
   | false=>exact(aF hr (i:=0) rfl hb (by simp[Region.binds])).elim
  have u1:b1=true:=by
   cases hb:b1 with
   | true=>rfl
   | false=>exact(aF hr (i:=1) rfl hb (by simp[Region.binds,u0])).elim
  have u2:b2=true:=by
   cases hb:b2 with
   | true=>rfl
   | false=>exact(aF hr (i:=2) rfl hb (by simp[Region.binds,u0,u1])).elim
  have u3:b3=true:=by
   cases hb:b3 with
   | true=>rfl
   | false=>exact(aF hr (i:=3) rfl hb (by simp[Region.binds,u0,u1,u2])).elim
  have u4:b4=true:=by
   cases hb:b4 with
   | true=>rfl
   | false=>exact(aF hr (i:=4) rfl hb (by simp[Region.binds,u0,u1,u2,u3])).elim
  have u5:b5=true:=by
   cases hb:b5 with
   | true=>rfl
   | false=>exact(aF hr (i:=5) rfl hb (by simp[Region.binds,u0,u1,u2,u3,u4])).elim
  have u6:b6=true:=by
   cases hb:b6 with
   | true=>rfl
   | false=>exact(aF hr (i:=6) rfl hb (by simp[Region.binds,u0,u1,u2,u3,u4,u5])).elim
  have u7:b7=true:=by
   cases hb:b7 with
   | true=>rfl
   | false=>exact(aF hr (i:=7) rfl hb (by simp[Region.binds,u0,u1,u2,u3,u4,u5,u6])).elim
  have u8:b8=true:=by
   cases hb:b8 with
   | true=>rfl
   | false=>exact(aF hr (i:=8) rfl hb (by simp[Region.binds,u0,u1,u2,u3,u4,u5,u6,u7])).elim
  have u9:b9=true:=by
   cases hb:b9 with
   | true=>rfl
   | false=>exact(aF hr (i:=9) rfl hb (by simp[Region.binds,u0,u1,u2,u3,u4,u5,u6,u7,u8])).elim
  clear hr
  obtain rfl:=q8 u8
  obtain rfl:=q6 u6
  have o5:=q5 u5
  obtain rfl:=q4 u4
  obtain rfl:=q3 u3
  have o2:=q2 u2
  obtain rfl:=q1 u1
  obtain rfl:=q0 u0
  obtain rfl:=f_s0 u7
  obtain rfl:=f_s1 u9
  clear q0 q1 q2 q3 q4 q5 q6 q8 f_s0 f_s1 i_s0 i_s1 t1 t2 t4 t5 t7 t9 u0 u1 u2 u3 u4 u5 u6 u7 u8 u9
  obtain⟨a5,k5,rfl,-,-⟩:=bX o2
  obtain⟨a8,k8,rfl,-,-⟩:=bX o5
  have z0:=hX.cell (k:=0) rfl
  have z1:=hX.cell (k:=1) rfl
  have z2:=hX.cell (k:=2) rfl
  have v0:=hZ.cell (k:=0) rfl
  have v1:=hZ.cell (k:=1) rfl
  have v2:=hZ.cell (k:=2) rfl
  have y0:=hZ.free 0
  have y1:=hZ.free 1
  have y2:=hZ.free 2
  go_wp2_with fail
  have r9:=(((hZ.set_ 0 (.slice a5 n k5)).set_ 1 (.slice a8 n k8)).set_ 2 (.int .i64 p))
  have z0:=r9.cell (k:=0) rfl
  have z1:=r9.cell (k:=1) rfl
  have z2:=r9.cell (k:=2) rfl
  exact bodyPost_ret (v:=kv a5 n k5 a8 n k8 p) (by simp[results,Tryz.results72,go_sem,z0,z1,z2]) rfl ⟨_,_,_,_,rfl,it o2 (by omega),it o5 (by omega),ig hB (by omega)⟩
section
attribute [local go_sem ↓] Go.wp_at_zero Go.wp_at_succ
theorem mL {w:World} {base e size n g t k:Nat} {v u:Value} {xs cs:List Value} (h:w.ownsRow base e size v n xs) (hr:Row w g t cs) (ht:t≠e):(w.setCell ⟨g,k,none⟩ u).ownsRow base e size v n xs:=by
 refine h.kept (ey w g k u) (.inr ?_)
 rcases h.2 with⟨rfl,_⟩|⟨g',cap,cur,rfl,_,hg,_⟩
 ·simp[Value.ownBlock]
 ·intro he
  simp only[Value.ownBlock,Option.some.injEq] at he
  subst he
  have:some (Obj.cells cs.toArray t (0,0))=some (Obj.cells cur e (0,0)):=hr.symm.trans hg
  injection this with this
  injection this with _ h2 _
  exact ht h2
theorem kV {w:World} {base e size n g t:Nat} {v:Value} {xs cs:List Value} (h:w.ownsRow base e size v n xs) (hr:Row w g t cs) (ht:t≠e):some g≠v.ownBlock:=by
 rcases h.2 with⟨rfl,_⟩|⟨g',cap,cur,rfl,_,hg,_⟩
 ·simp[Value.ownBlock]
 ·intro he
  simp only[Value.ownBlock,Option.some.injEq] at he
  subst he
  have:some (Obj.cells cs.toArray t (0,0))=some (Obj.cells cur e (0,0)):=hr.symm.trans hg
  injection this with this
  injection this with _ h2 _
  exact ht h2
def Bm (S:Sk) (A1:Option Addr) (c1:Nat) (A2:Option Addr) (c2:Nat) (a1:Option Addr) (k1:Nat) (a2:Option Addr) (k2:Nat) (w:World) (g q m:Nat) (i:Value) (wr:World):Prop:=
 ∃k:Nat,k<=m/\i=.int .i64 ((q+k:Nat):Int)/\Hid (Row wr w.heap.size 66 [.slice A1 S.bs.length c1,.slice A2 S.bs.length c2,.int .i64 (S.sp:Int)])/\Hid (Row wr (w.heap.size+1) 66 [.slice none 0 0,.slice none 0 0,.int .i64 0])/\Hid (Row wr g 66 [.slice a1 S.bs.length k1,.slice a2 S.bs.length k2,.int .i64 (q:Int)]) /\
  Hid (wr.ownsRow (w.heap.size+2) 5 1 (.slice a1 S.bs.length k1) S.bs.length (aq S.bs))/\Hid (wr.ownsRow (w.heap.size+2) 4 1 (.slice a2 S.bs.length k2) S.bs.length (splice (bh S.us) q ((List.replicate m (Value.bool false)).take k)))/\Hid (Below w.heap.size w wr)
theorem ti {A1 A2:Option Addr} {c1 c2:Nat} {S:Sk} (n:Int) (w:World) (hS:Hid (StkAt w w.heap.size A1 c1 A2 c2 S)) :
  Calls Tryz.prog 48 #[sv A1 c1 A2 c2 S,.int .i64 n] w (jr (dj S n) (cV S n) w):=by
 have hok:=aa hS.out.ok
 have hmost:=hS.out.ok.most
 have hsp:=hS.out.ok.sp
 have hm1:=hS.out.m1
 have hm2:=hS.out.m2
 obtain⟨W0,hW0⟩:∃W,(w.alloc (.cells #[.slice A1 S.bs.length c1,.slice A2 S.bs.length c2,.int .i64 (S.sp:Int)] 66)).alloc (.cells #[.slice none 0 0,.slice none 0 0,.int .i64 0] 66)=W:=⟨_,rfl⟩
 have HW0:=aa hW0
 have RX0:=aa (show Row W0 (w.heap.size) 66 [.slice A1 S.bs.length c1,.slice A2 S.bs.length c2,.int .i64 (S.sp:Int)] by rw[<-hW0];exact((Row.new w 66 [.slice A1 S.bs.length c1,.slice A2 S.bs.length c2,.int .i64 (S.sp:Int)]).alloc _))
 have RZ0:=aa (show Row W0 (w.heap.size+1) 66 [.slice none 0 0,.slice none 0 0,.int .i64 0] by rw[<-hW0];exact(Row.new (w.alloc (.cells #[.slice A1 S.bs.length c1,.slice A2 S.bs.length c2,.int .i64 (S.sp:Int)] 66)) 66 [.slice none 0 0,.slice none 0 0,.int .i64 0]).at_ (by simp))
 have B0:=aa (show Below w.heap.size w W0 by rw[<-hW0];exact aP w _ _)
 have Z0:=aa (show W0.heap.size=w.heap.size+2 by rw[<-hW0];simp)
 clear hW0
 by_cases h0:n<0
 ·have hE:=aa (show cV S n=4 by simp[cV,h0])
  have hR:=aa (show dj S n=S by simp[dj,hE.out])
  go_enter Tryz.func48,Tryz.ntmps48
  go_upto_region 1 with(fail)
  rw[HW0.out]
  have fX0:=RX0.out.cell (k:=0) rfl
  have fX1:=RX0.out.cell (k:=1) rfl
  have fX2:=RX0.out.cell (k:=2) rfl
  have fZ0:=RZ0.out.cell (k:=0) rfl
  have fZ1:=RZ0.out.cell (k:=1) rfl
  have fZ2:=RZ0.out.cell (k:=2) rfl
  have yZ0:=RZ0.out.free 0
  have yZ1:=RZ0.out.free 1
  have yZ2:=RZ0.out.free 2
  go_wp2_with fail
  obtain⟨W1,hW1⟩:∃W,((W0.setCell ⟨w.heap.size+1,0,none⟩ (.slice A1 S.bs.length c1)).setCell ⟨w.heap.size+1,1,none⟩ (.slice A2 S.bs.length c2)).setCell ⟨w.heap.size+1,2,none⟩ (.int .i64 (S.sp:Int))=W:=⟨_,rfl⟩
  have HW1:=aa hW1
  have RZ1:=aa (show Row W1 (w.heap.size+1) 66 [.slice A1 S.bs.length c1,.slice A2 S.bs.length c2,.int .i64 (S.sp:Int)] by rw[<-hW1];exact(((RZ0.out).set_ 0 _).set_ 1 _).set_ 2 _)
  have RX1:=aa (show Row W1 (w.heap.size) 66 [.slice A1 S.bs.length c1,.slice A2 S.bs.length c2,.int .i64 (S.sp:Int)] by rw[<-hW1];exact(((RX0.out).far (p:=⟨w.heap.size+1,0,none⟩) (by simp) _).far (p:=⟨w.heap.size+1,1,none⟩) (by simp) _).far (p:=⟨w.heap.size+1,2,none⟩) (by simp) _)
  clear RX0
  have B1:=aa (show Below w.heap.size w W1 by rw[<-hW1];exact ay (ay (ay (B0.out) (by omega)) (by omega)) (by omega))
  clear hW1 RZ0
  clear fX0 fX1 fX2 fZ0 fZ1 fZ2 yZ0 yZ1 yZ2
  have fZ0:=RZ1.out.cell (k:=0) rfl
  have fZ1:=RZ1.out.cell (k:=1) rfl
  have fZ2:=RZ1.out.cell (k:=2) rfl
  rw[HW1.out]
  refine bodyPost_ret (v:=.tuple #[.agg #[.slice A1 S.bs.length c1,.slice A2 S.bs.length c2,.int .i64 (S.sp:Int)],.int .i64 4]) (by simp[results,Tryz.results48,go_sem,fZ0,fZ1,fZ2]) rfl ?_
  exact⟨A1,c1,A2,c2,by rw[hR.out,hE.out],by rw[hR.out];exact hS.out.up B1.out,B1.out,fun h0=>by rw[hE.out] at h0;exact absurd h0 (by decide)⟩
 ·by_cases h1:(S.sp:Int)<n
  ·have hE:=aa (show cV S n=9 by simp[cV,h0,h1])
   have hR:=aa (show dj S n=S by simp[dj,hE.out])
   go_enter Tryz.func48,Tryz.ntmps48
   go_upto_region 1 with(fail)
   rw[HW0.out]
   have fX0:=RX0.out.cell (k:=0) rfl
   have fX1:=RX0.out.cell (k:=1) rfl
   have fX2:=RX0.out.cell (k:=2) rfl
   have fZ0:=RZ0.out.cell (k:=0) rfl
   have fZ1:=RZ0.out.cell (k:=1) rfl
   have fZ2:=RZ0.out.cell (k:=2) rfl
   have yZ0:=RZ0.out.free 0
   have yZ1:=RZ0.out.free 1
   have yZ2:=RZ0.out.free 2
   go_wp2_with fail
   obtain⟨W1,hW1⟩:∃W,((W0.setCell ⟨w.heap.size+1,0,none⟩ (.slice A1 S.bs.length c1)).setCell ⟨w.heap.size+1,1,none⟩ (.slice A2 S.bs.length c2)).setCell ⟨w.heap.size+1,2,none⟩ (.int .i64 (S.sp:Int))=W:=⟨_,rfl⟩
   have HW1:=aa hW1
   have RZ1:=aa (show Row W1 (w.heap.size+1) 66 [.slice A1 S.bs.length c1,.slice A2 S.bs.length c2,.int .i64 (S.sp:Int)] by rw[<-hW1];exact(((RZ0.out).set_ 0 _).set_ 1 _).set_ 2 _)
   have RX1:=aa (show Row W1 (w.heap.size) 66 [.slice A1 S.bs.length c1,.slice A2 S.bs.length c2,.int .i64 (S.sp:Int)] by rw[<-hW1];exact(((RX0.out).far (p:=⟨w.heap.size+1,0,none⟩) (by simp) _).far (p:=⟨w.heap.size+1,1,none⟩) (by simp) _).far (p:=⟨w.heap.size+1,2,none⟩) (by simp) _)
   clear RX0
   have B1:=aa (show Below w.heap.size w W1 by rw[<-hW1];exact ay (ay (ay (B0.out) (by omega)) (by omega)) (by omega))
   clear hW1 RZ0
   clear fX0 fX1 fX2 fZ0 fZ1 fZ2 yZ0 yZ1 yZ2
   have fZ0:=RZ1.out.cell (k:=0) rfl
   have fZ1:=RZ1.out.cell (k:=1) rfl
   have fZ2:=RZ1.out.cell (k:=2) rfl
   rw[HW1.out]
   refine bodyPost_ret (v:=.tuple #[.agg #[.slice A1 S.bs.length c1,.slice A2 S.bs.length c2,.int .i64 (S.sp:Int)],.int .i64 9]) (by simp[results,Tryz.results48,go_sem,fZ0,fZ1,fZ2]) rfl ?_
   exact⟨A1,c1,A2,c2,by rw[hR.out,hE.out],by rw[hR.out];exact hS.out.up B1.out,B1.out,fun h0=>by rw[hE.out] at h0;exact absurd h0 (by decide)⟩
  ·obtain⟨m,rfl⟩:∃m:Nat,n=(m:Int):=⟨n.toNat,by omega⟩
   have hE:=aa (show cV S (m:Int)=0 by simp only[cV];rw[if_neg h0,if_neg h1])
   have hR:=aa (show dj S (m:Int)=di S m by simp[dj,hE.out])
   have hms:m<=S.sp:=by omega
   have hsub:((S.sp:Int)-(m:Int))=((S.sp-m:Nat):Int):=by omega
   obtain⟨q,hq⟩:∃q,S.sp-m=q:=⟨_,rfl⟩
   have hqm:=aa (show q+m=S.sp by omega)
   have hql:q+m<=S.sp:=by omega
   rw[hq] at hsub
   have hq:=aa hq
   have hS0:=aa ((hS.out.below B0.out).more B0.out.size)
   have cc:=nG A1 S.bs.length c1 A2 c2 (S.sp:Int) S.bs S.us W0 (aa hS0.out.k1) (aa hS0.out.k2) hm1 hm2 hmost (aa rfl) (aa hS0.out.ok.len) (aa hS0.out.s1) (aa hS0.out.s2)
   go_enter Tryz.func48,Tryz.ntmps48
   go_upto_region 1 with(fail)
   rw[HW0.out]
   have fX0:=RX0.out.cell (k:=0) rfl
   have fX1:=RX0.out.cell (k:=1) rfl
   have fX2:=RX0.out.cell (k:=2) rfl
   go_wp2_with fail
   refine(cc).mono ?_
   rintro e w1 ⟨a1,k1,a2,k2,rfl,o1,o2,hb1⟩
   have RX2:=aa (RX0.out.call hb1)
   clear RX0
   have RZ2:=aa (RZ0.out.call hb1)
   clear RZ0
   have B2:=aa (ac B0.out hb1)
   clear B0
   clear hb1
   have O11:=aa (dW o1 (show w.heap.size+2<=W0.heap.size+2 by have:=Z0.out;omega))
   have O21:=aa (dW o2 (show w.heap.size+2<=W0.heap.size+2 by have:=Z0.out;omega))
   clear o1 o2
   clear fX0 fX1 fX2
   have fX0:=RX2.out.cell (k:=0) rfl
   have fX1:=RX2.out.cell (k:=1) rfl
   have fX2:=RX2.out.cell (k:=2) rfl
   go_upto_region 6 with(fail)
   have DZ:=aa (show w.heap.size+1<w1.heap.size from RZ2.out.lt)
   obtain⟨W3,hW3⟩:∃W,w1.alloc (.cells #[.slice a1 S.bs.length k1,.slice a2 S.bs.length k2,.int .i64 (S.sp:Int)] 66)=W:=⟨_,rfl⟩
   have HW3:=aa hW3
   have RX3:=aa (show Row W3 (w.heap.size) 66 [.slice A1 S.bs.length c1,.slice A2 S.bs.length c2,.int .i64 (S.sp:Int)] by rw[<-hW3];exact RX2.out.alloc _)
   clear RX2
   have RZ3:=aa (show Row W3 (w.heap.size+1) 66 [.slice none 0 0,.slice none 0 0,.int .i64 0] by rw[<-hW3];exact RZ2.out.alloc _)
   clear RZ2
   have RY3:=aa (show Row W3 (w1.heap.size) 66 [.slice a1 S.bs.length k1,.slice a2 S.bs.length k2,.int .i64 (S.sp:Int)] by rw[<-hW3];exact Row.new w1 _ _)
   have O13:=aa (show W3.ownsRow (w.heap.size+2) 5 1 (.slice a1 S.bs.length k1) S.bs.length (aq S.bs) by rw[<-hW3];exact bZ O11.out (ag _ _))
   clear O11
   have O23:=aa (show W3.ownsRow (w.heap.size+2) 4 1 (.slice a2 S.bs.length k2) S.bs.length (bh S.us) by rw[<-hW3];exact bZ O21.out (ag _ _))
   clear O21
   have L3:=aa (show w1.heap.size<W3.heap.size by rw[<-hW3];simp)
   have G3:=aa B2.out.size
   have B3:=aa (show Below w.heap.size w W3 by rw[<-hW3];exact B2.out.alloc B2.out.size _)
   clear hW3
   rw[HW3.out]
   clear fX0 fX1 fX2
   have fX0:=RX3.out.cell (k:=0) rfl
   have fX1:=RX3.out.cell (k:=1) rfl
   have fX2:=RX3.out.cell (k:=2) rfl
   have fY0:=RY3.out.cell (k:=0) rfl
   have fY1:=RY3.out.cell (k:=1) rfl
   have fY2:=RY3.out.cell (k:=2) rfl
   have yY0:=RY3.out.free 0
   have yY1:=RY3.out.free 1
   have yY2:=RY3.out.free 2
   go_upto_region 7 with(fail)
   have DY:=aa (show w.heap.size+1<w1.heap.size from DZ.out)
   obtain⟨W4,hW4⟩:∃W,W3.setCell ⟨w1.heap.size,2,none⟩ (.int .i64 (q:Int))=W:=⟨_,rfl⟩
   have HW4:=aa hW4
   have RY4:=aa (show Row W4 (w1.heap.size) 66 [.slice a1 S.bs.length k1,.slice a2 S.bs.length k2,.int .i64 (q:Int)] by rw[<-hW4];exact(RY3.out).set_ 2 _)
   have RX4:=aa (show Row W4 (w.heap.size) 66 [.slice A1 S.bs.length c1,.slice A2 S.bs.length c2,.int .i64 (S.sp:Int)] by rw[<-hW4];exact(RX3.out).far (p:=⟨w1.heap.size,2,none⟩) (by have:=DY.out;simp;omega) _)
   clear RX3
   have RZ4:=aa (show Row W4 (w.heap.size+1) 66 [.slice none 0 0,.slice none 0 0,.int .i64 0] by rw[<-hW4];exact(RZ3.out).far (p:=⟨w1.heap.size,2,none⟩) (by have:=DY.out;simp;omega) _)
   clear RZ3
   have O14:=aa (show W4.ownsRow (w.heap.size+2) 5 1 (.slice a1 S.bs.length k1) S.bs.length (aq S.bs) by rw[<-hW4];exact mL (O13.out) RY3.out (by decide))
   clear O13
   have O24:=aa (show W4.ownsRow (w.heap.size+2) 4 1 (.slice a2 S.bs.length k2) S.bs.length (bh S.us) by rw[<-hW4];exact mL (O23.out) RY3.out (by decide))
   clear O23
   have B4:=aa (show Below w.heap.size w W4 by rw[<-hW4];exact ay (B3.out) (by have:=G3.out;omega))
   clear hW4 RY3
   rw[HW4.out]
   clear fX0 fX1 fX2 fY0 fY1 fY2 yY0 yY1 yY2
   have fX0:=RX4.out.cell (k:=0) rfl
   have fX1:=RX4.out.cell (k:=1) rfl
   have fX2:=RX4.out.cell (k:=2) rfl
   have fY0:=RY4.out.cell (k:=0) rfl
   have fY1:=RY4.out.cell (k:=1) rfl
   have fY2:=RY4.out.cell (k:=2) rfl
   have fZ0:=RZ4.out.cell (k:=0) rfl
   have fZ1:=RZ4.out.cell (k:=1) rfl
   have fZ2:=RZ4.out.cell (k:=2) rfl
   clear hsub
   go_wp2_with fail
   go_loopw [7] (fun i wr=>Bm S A1 c1 A2 c2 a1 k1 a2 k2 w w1.heap.size q m i wr) (fun i _=>S.sp-(intOf i).toNat)
   case atStart=>
    refine⟨0,by omega,rfl,RX4,RZ4,RY4,O14,aa ?_,B4⟩
    rw[List.take_zero,gg _ _ (by rw[dn,hok.out.len];omega)]
    exact O24.out
   case round=>
    obtain⟨k,hk,rfl,RX,RZ,RY,O1,O2,BB⟩:=hrel
    clear fX0 fX1 fX2 fY0 fY1 fY2 fZ0 fZ1 fZ2 RX4 RY4 RZ4 O14 O24 B4
    by_cases hlt:k<m
    ·obtain⟨b,k2',hv,hbb,hblt,hnk,_⟩:=eu O2.out (show 0<S.bs.length by omega)
     injection hv with hv1 hv2 hv3
     subst hv1 hv3
     clear hv2
     have fX0:=RX.out.cell (k:=0) rfl
     have fX1:=RX.out.cell (k:=1) rfl
     have fX2:=RX.out.cell (k:=2) rfl
     have fY0:=RY.out.cell (k:=0) rfl
     have fY1:=RY.out.cell (k:=1) rfl
     have fY2:=RY.out.cell (k:=2) rfl
     have hlen:=aa O2.out.1
     have hc:(wr.cell? ⟨b,q+k,none⟩).isSome=true:=by rw[O2.out.cellAt (q+k) (by omega),List.getElem?_eq_getElem (by rw[hlen.out];omega)];rfl
     obtain⟨u,hc⟩:=Option.isSome_iff_exists.1 hc
     have hf:wr.frozen? ⟨b,q+k,none⟩=false:=O2.out.frozenAt (q+k)
     have hst:=O2.out.stored (q+k) (.bool false)
     rw[iG _ _ _ _ (Value.bool false) (by rw[dn,hok.out.len];simp;omega) (by rw[List.getElem?_replicate];simp[hlt])] at hst
     have Hst1:=aa hst.1
     have nY:=aa (kV O2.out RY.out (by decide))
     have n1:=aa (i4 O1.out O2.out (by decide))
     have Hst2:=aa hst.2
     clear hst
     go_wp2_with fail
     refine⟨⟨k+1,by omega,by go_num,?_,?_,?_,?_,Hst1,?_⟩,by simp[intOf];omega⟩
     ·exact aa (RX.out.far (p:=⟨b,q+k,none⟩) (by simp;omega) _)
     ·exact aa (RZ.out.far (p:=⟨b,q+k,none⟩) (by simp;omega) _)
     ·exact aa (RY.out.far (p:=⟨b,q+k,none⟩) (fun h=>nY.out (by rw[h];rfl)) _)
     ·exact aa (O1.out.kept Hst2.out n1.out)
     ·exact aa (BB.out.setCell (p:=⟨b,q+k,none⟩) (by simp;omega) _)
    ·obtain rfl:k=m:=by omega
     rw[List.take_of_length_le (by simp)] at O2
     have fX0:=RX.out.cell (k:=0) rfl
     have fX1:=RX.out.cell (k:=1) rfl
     have fX2:=RX.out.cell (k:=2) rfl
     have fY0:=RY.out.cell (k:=0) rfl
     have fY1:=RY.out.cell (k:=1) rfl
     have fY2:=RY.out.cell (k:=2) rfl
     clear fX0 fX1 fX2 fY0 fY1 fY2
     have fX0:=RX.out.cell (k:=0) rfl
     have fX1:=RX.out.cell (k:=1) rfl
     have fX2:=RX.out.cell (k:=2) rfl
     have fY0:=RY.out.cell (k:=0) rfl
     have fY1:=RY.out.cell (k:=1) rfl
     have fY2:=RY.out.cell (k:=2) rfl
     have fZ0:=RZ.out.cell (k:=0) rfl
     have fZ1:=RZ.out.cell (k:=1) rfl
     have fZ2:=RZ.out.cell (k:=2) rfl
     have yZ0:=RZ.out.free 0
     have yZ1:=RZ.out.free 1
     have yZ2:=RZ.out.free 2
     go_wp2_with fail
     obtain⟨W5,hW5⟩:∃W,((wr.setCell ⟨w.heap.size+1,0,none⟩ (.slice a1 S.bs.length k1)).setCell ⟨w.heap.size+1,1,none⟩ (.slice a2 S.bs.length k2)).setCell ⟨w.heap.size+1,2,none⟩ (.int .i64 (q:Int))=W:=⟨_,rfl⟩
     have HW5:=aa hW5
     have RZ5:=aa (show Row W5 (w.heap.size+1) 66 [.slice a1 S.bs.length k1,.slice a2 S.bs.length k2,.int .i64 (q:Int)] by rw[<-hW5];exact(((RZ.out).set_ 0 _).set_ 1 _).set_ 2 _)
     have RX5:=aa (show Row W5 (w.heap.size) 66 [.slice A1 S.bs.length c1,.slice A2 S.bs.length c2,.int .i64 (S.sp:Int)] by rw[<-hW5];exact(((RX.out).far (p:=⟨w.heap.size+1,0,none⟩) (by have:=DY.out;simp<;>omega) _).far (p:=⟨w.heap.size+1,1,none⟩) (by have:=DY.out;simp<;>omega) _).far (p:=⟨w.heap.size+1,2,none⟩) (by have:=DY.out;simp<;>omega) _)
     clear RX
     have RY5:=aa (show Row W5 (w1.heap.size) 66 [.slice a1 S.bs.length k1,.slice a2 S.bs.length k2,.int .i64 (q:Int)] by rw[<-hW5];exact(((RY.out).far (p:=⟨w.heap.size+1,0,none⟩) (by have:=DY.out;simp<;>omega) _).far (p:=⟨w.heap.size+1,1,none⟩) (by have:=DY.out;simp<;>omega) _).far (p:=⟨w.heap.size+1,2,none⟩) (by have:=DY.out;simp<;>omega) _)
     clear RY
     have O15:=aa (show W5.ownsRow (w.heap.size+2) 5 1 (.slice a1 S.bs.length k1) S.bs.length (aq S.bs) by rw[<-hW5];exact bY (bY (bY (O1.out) (by omega)) (by omega)) (by omega))
     clear O1
     have O25:=aa (show W5.ownsRow (w.heap.size+2) 4 1 (.slice a2 S.bs.length k2) S.bs.length (splice (bh S.us) q (List.replicate k (Value.bool false))) by rw[<-hW5];exact bY (bY (bY (O2.out) (by omega)) (by omega)) (by omega))
     clear O2
     have B5:=aa (show Below w.heap.size w W5 by rw[<-hW5];exact ay (ay (ay (BB.out) (by omega)) (by omega)) (by omega))
     clear hW5 RZ
     clear fX0 fX1 fX2 fY0 fY1 fY2 fZ0 fZ1 fZ2 yZ0 yZ1 yZ2
     have fZ0:=RZ5.out.cell (k:=0) rfl
     have fZ1:=RZ5.out.cell (k:=1) rfl
     have fZ2:=RZ5.out.cell (k:=2) rfl
     rw[HW5.out]
     refine bodyPost_ret (v:=.tuple #[.agg #[.slice a1 S.bs.length k1,.slice a2 S.bs.length k2,.int .i64 (q:Int)],.int .i64 0]) (by simp[results,Tryz.results48,go_sem,fZ0,fZ1,fZ2]) rfl ?_
     exact⟨a1,k1,a2,k2,by rw[hR.out,hE.out,<-hq.out];rfl,by rw[hR.out];exact StkOwn.put_ (S:=di S k) (hok.out.push hms) O15.out (by rw[show(di S k).us=splice S.us (S.sp-k) (List.replicate k false) from rfl,fj,ic,hq.out];exact O25.out),B5.out,fun _=>⟨fG O15.out (by omega),fG O25.out (by omega)⟩⟩
end
def bj (Al:Int) (vf:Value) (R:List Nat) (T:List Value):List Value:=[.int .i64 Al,vf]++(ah R++T)
theorem bP {Al:Int} {vf:Value} {R:List Nat} {T:List Value} (h:R.length=8) (j:Nat) (u:Value):(bj Al vf R T).set (18+j) u=bj Al vf R (T.set j u):=by
 unfold bj
 rw[List.set_append_right _ _ (by simp<;>omega),List.set_append_right _ _ (by rw[aT,h];simp<;>omega),aT,h]
 congr 3
 simp
 omega
theorem Tryz.info114w:(Tryz.prog.info? 114).map (fun i=>(i.zero,i.size,i.bytes))=some (some (.agg #[.int .i64 0,.int .i64 0]),2,16):=by kernel_rfl
theorem nu {S:Sk} {m:Nat} (h:m<=S.sp):cV S (m:Int)=0/\dj S (m:Int)=di S m:=by
 have e:cV S (m:Int)=0:=by simp only[cV];rw[if_neg (by omega),if_neg (by omega)]
 exact⟨e,by simp[dj,e]⟩
theorem sN {S:Sk} {m:Nat} (h:S.sp<m):cV S (m:Int)=9/\dj S (m:Int)=S:=by
 have e:cV S (m:Int)=9:=by simp only[cV];rw[if_neg (by omega),if_pos (by omega)]
 exact⟨e,by simp[dj,e]⟩
theorem jL (l:List (Nat×Nat)):∀u∈aA l,u.oneCell'=true:=by
 intro u hu
 simp only[aA,List.mem_flatMap] at hu
 obtain⟨x,_,hu⟩:=hu
 exact io x u hu
theorem fy.lower {w:World} {lb lb' B:Nat} {v1 v2 vp:Value} {S:Sk} (h:fy w lb B v1 v2 vp S) (hl:lb'<=lb):fy w lb' B v1 v2 vp S:=by
 obtain⟨A1,c1,A2,c2,h1,h2,h3,h4,h5,h6⟩:=h
 exact⟨A1,c1,A2,c2,h1,h2,h3,h4,h5.more hl,h6.more hl⟩
section
variable {g:Nat} {Al:Int} {T0:Nat} {vs v1 v2 vp vi vt:Value} {R:List Nat} {s:Tm}
theorem mr {F:Tg} {fm:Fm} {lb n c bF oF:Nat} {hs:List Fd} (f:Nat) (w:World) (hf:Hid (F[f]?=some fm)) (hsz:0<=fm.size) (hst:s.st.length<=1000000) (hT0:T0<=1048576) (hspT:s.mem.sp<=T0) (hdp:s.deep<=1048576) (hn80:n<=80) (hbFg:bF<g) (hPg:Hid (TgAt w lb g (some ⟨bF,oF,none⟩) n c hs F)) (hend:s.c.ended=false) (h:Hid (WmAt w g Al T0 (.slice (some ⟨bF,oF,none⟩) n c) vs v1 v2 vp vi vt R s)) :
  Calls Tryz.prog 31 #[.pointer (some ⟨g,0,none⟩),.int .i64 (f:Int)] w (jJ g Al T0 (.slice (some ⟨bF,oF,none⟩) n c) (s.enter F T0 f) w):=by
 obtain⟨i0,ih,hz0,hz1,hz2⟩:=info_parts Tryz.info114w
 have hfl:f<n:=by rw[<-hPg.out.len];exact(List.getElem?_eq_some_iff.1 hf.out).1
 obtain⟨bF',oF',P,Sz,Ac,nc,cc,f',hAF,hbF,hf',hhf,hfd,d0,d1,d2⟩:=dk hPg.out hfl
 injection hAF with hAF
 injection hAF with hAF1 hAF2
 subst hAF1 hAF2
 rw[hf.out] at hf'
 injection hf' with hf'
 subst hf'
 have hSz:Sz=fm.size:=hfd.s
 obtain⟨m,hm⟩:∃m:Nat,fm.size=(m:Int):=⟨fm.size.toNat,by omega⟩
 have hfs:fsz F f=m:=by
  unfold fsz fX
  rw[List.getD_eq_getElem?_getD,hf.out]
  show fm.size.toNat=m
  omega
 rw[hSz,hm] at d1
 have hf0:(0:Int)<=(f:Int):=by omega
 have hf1:(f:Int)<(n:Int):=by omega
 obtain⟨hRR,A1,c1,A2,c2,rfl,rfl,rfl,hstk,hfa1,hfa2⟩:=h.out.go hend
 have hgl:=h.out.gl
 obtain⟨As,ns,cs,rfl,hal,hac,han,haf,has⟩:=h.out.acts
 clear hac han haf has
 have ca:=fun(W:World) (hW:Below w.heap.size w W)=>ti (m:Int) W (aa (hstk.call hW))
 unfold jr at ca
 have x0:=fun(w':World) (hb:Below w.heap.size w w')=>(h.out.call hb).cell 1 rfl
 have x1:=fun(w':World) (hb:Below w.heap.size w w')=>(h.out.call hb).cell 2 rfl
 have x2:=fun(w':World) (hb:Below w.heap.size w w')=>(h.out.call hb).cell 3 rfl
 have x3:=fun(w':World) (hb:Below w.heap.size w w')=>(h.out.call hb).frames
 have x4:=fun(w':World) (hb:Below w.heap.size w w')=>(hb.cell (p:=⟨bF,oF+f*3+1,none⟩) (by simp;omega)).trans d1
 clear hSz hm d0 d1 d2 hfd hhf hsz hfa1 hfa2
 obtain⟨E,hE⟩:∃E,cV s.mem (m:Int)=E:=⟨_,rfl⟩
 obtain⟨Z,hZ⟩:∃Z,dj s.mem (m:Int)=Z:=⟨_,rfl⟩
 rw[hE,hZ] at ca
 have CA:=aa ca
 have HE:=aa hE
 have HZ:=aa hZ
 clear hE hZ ca
 go_enter Tryz.func31,Tryz.ntmps31
 go_upto_region 0 with(fail)
 go_region_held3 (fun w'=>Below w.heap.size w w') (first|exact bb|exact am (Below.refl _ _) 1|exact dR _ _|exact bb.alloc bb.size _|exact((bb.alloc bb.size _).setCell bb.size _).setCell bb.size _|exact((bb.setCell hY5 _).setCell hY5 _).setCell hY5 _)
  (first
   | (go_at_call 48;with_reducible refine Calls.mono (CA.out (w.alloc (.cells #[.slice none 0 0,.slice none 0 0,.int .i64 0] 66)).drew (dR w _)) ?_;rintro e w5 ⟨a1,k1,a2,k2,rfl,hst5,hb5,hfr5⟩;have HST:=aa hst5;have HFR:=aa hfr5;have hW5:w.heap.size<=w.heap.size:=Nat.le_refl _;have bb:=ac (dR w _) hb5;have y7:=fD w 66 [.slice none 0 0,.slice none 0 0,.int .i64 0] hb5;have hY5:w.heap.size<=w.heap.size:=Nat.le_refl _;have n0:=y7.cell (k:=0) rfl;have n1:=y7.cell (k:=1) rfl;have n2:=y7.cell (k:=2) rfl;have n3:=y7.free 0;have n4:=y7.free 1;have n5:=y7.free 2;have Y5:=aa y7;clear hb5 y7 hst5 hfr5)
   | (go_at_call 48;with_reducible refine Calls.mono (CA.out _ (by first|exact bb|exact bb.drew|exact(Below.refl _ _).drew)) ?_;rintro e w5 ⟨a1,k1,a2,k2,rfl,hst5,hb5,hfr5⟩;have HST:=aa hst5;have HFR:=aa hfr5;have bb:=ac (show Below w.heap.size w _ from by first|exact bb|exact am bb _|exact(Below.refl _ _).drew|exact bb.drew|exact am (Below.refl _ _) 1) hb5;clear hb5 hst5 hfr5))
 all_goals
  first
   | (obtain⟨W6,hW6⟩:∃W6,((w5.setCell ⟨w.heap.size,0,none⟩ (.slice a1 Z.bs.length k1)).setCell ⟨w.heap.size,1,none⟩ (.slice a2 Z.bs.length k2)).setCell ⟨w.heap.size,2,none⟩ (.int .i64 (Z.sp:Int))=W6:=⟨_,rfl⟩;obtain⟨G,hG⟩:∃Y,w.heap.size=Y:=⟨_,rfl⟩;have Y6:=aa (show Row W6 G 66 [.slice a1 Z.bs.length k1,.slice a2 Z.bs.length k2,.int .i64 (Z.sp:Int)] by rw[<-hW6,<-hG];exact((Y5.out.set_ 0 _).set_ 1 _).set_ 2 _);have bW:=aa (show Below w.heap.size w W6 by rw[<-hW6];exact((bb.setCell (p:=⟨w.heap.size,0,none⟩) hY5 _).setCell (p:=⟨w.heap.size,1,none⟩) hY5 _).setCell (p:=⟨w.heap.size,2,none⟩) hY5 _);have SS6:=aa (show E=0->fy W6 (g+1) W6.heap.size (.slice a1 Z.bs.length k1) (.slice a2 Z.bs.length k2) (.int .i64 (Z.sp:Int)) Z from fun e0=>by
     obtain⟨q1,q2⟩:=HFR.out e0
     have q1:Far (w.heap.size+1) a1:=q1.more (by simp)
     have q2:Far (w.heap.size+1) a2:=q2.more (by simp)
     have hs5:fy w5 (w.heap.size+1) w5.heap.size (.slice a1 Z.bs.length k1) (.slice a2 Z.bs.length k2) (.int .i64 (Z.sp:Int)) Z:=⟨a1,k1,a2,k2,rfl,rfl,rfl,HST.out,q1,q2⟩
     refine(hs5.keep (w':=W6) (B':=W6.heap.size) (fun p h1 _=>?_) (by rw[<-hW6];simp[World.setCell])).lower (by omega)
     have hne:∀k,(⟨w.heap.size,k,none⟩:Addr)≠p:=fun k e=>by subst e;simp at h1;omega
     rw[<-hW6,World.cell?_setCell_other _ _ _ _ (hne _),World.cell?_setCell_other _ _ _ _ (hne _),World.cell?_setCell_other _ _ _ _ (hne _)]);clear n0 n1 n2 n3 n4 n5 hW5 hY5 Y5)
   | (obtain⟨W6,hW6⟩:∃W6,w5.alloc (.cells #[.slice a1 Z.bs.length k1,.slice a2 Z.bs.length k2,.int .i64 (Z.sp:Int)] 66)=W6:=⟨_,rfl⟩;obtain⟨G,hG⟩:∃Y,w5.heap.size=Y:=⟨_,rfl⟩;have Y6:=aa (show Row W6 G 66 [.slice a1 Z.bs.length k1,.slice a2 Z.bs.length k2,.int .i64 (Z.sp:Int)] by rw[<-hW6,<-hG];exact Row.new w5 _ _);have bW:=aa (show Below w.heap.size w W6 by rw[<-hW6];exact bb.alloc bb.size _);have SS6:=aa (show E=0->fy W6 (g+1) W6.heap.size (.slice a1 Z.bs.length k1) (.slice a2 Z.bs.length k2) (.int .i64 (Z.sp:Int)) Z from fun e0=>by
     obtain⟨q1,q2⟩:=HFR.out e0
     have q1:Far (g+1) a1:=q1.more (by simp<;>omega)
     have q2:Far (g+1) a2:=q2.more (by simp<;>omega)
     have hs5:fy w5 (g+1) w5.heap.size (.slice a1 Z.bs.length k1) (.slice a2 Z.bs.length k2) (.int .i64 (Z.sp:Int)) Z:=⟨a1,k1,a2,k2,rfl,rfl,rfl,HST.out,q1,q2⟩
     exact hs5.keep (w':=W6) (B':=W6.heap.size) (fun p _ h2=>by rw[<-hW6];exact World.cell?_alloc_lt w5 _ p h2) (by rw[<-hW6];simp)))
  have HW6:=aa hW6
  have HG:=aa hG
  have hgG:g≠G:=by rw[<-hG];first|omega|(have:=bb.size;omega)
  have H6:=aa (h.out.call bW.out)
  clear hW6 hG bb HST HFR x0 x1 x2 x3 x4 CA
  go_upto_region 1 with(fail)
  rw[HW6.out,HG.out]
  clear HW6 HG
  by_cases hov:s.mem.sp<m
  ·obtain rfl:E=9:=by rw[<-HE.out];exact(sN hov).1
   have hT:=aa (show s.enter F T0 f=s.stop 5 by unfold Tm.enter;rw[hfs,if_pos hov])
   clear hov hfs
   go_wp2_with fail
   refine(gz 5 W6 H6).mono ?_
   rintro e w7 ⟨rfl,h7,g7⟩
   have H7:=aa h7
   have G7:=aa g7
   clear h7 g7
   go_wp2_with fail
   go_end0
   exact⟨rfl,by rw[hT.out];exact⟨_,_,_,_,_,_,_,H7.out⟩,(aG bW.out (some g)).trans G7.out⟩
  ·have hms:m<=s.mem.sp:=by omega
   obtain rfl:E=0:=by rw[<-HE.out];exact(nu hms).1
   obtain rfl:Z=di s.mem m:=by rw[<-HZ.out];exact(nu hms).2
   have hT:=aa (show s.enter F T0 f={ s with mem:=di s.mem m,st:=s.st++[(f,0)],deep:=max s.deep (T0-(s.mem.sp-m)) } by unfold Tm.enter;rw[hfs,if_neg hov])
   have S6:=aa (SS6.out rfl)
   obtain⟨Z,hZ⟩:∃Z,di s.mem m=Z:=⟨_,rfl⟩
   obtain⟨q,hq⟩:∃q:Nat,s.mem.sp-m=q:=⟨_,rfl⟩
   have hZq:Z.sp=q:=by rw[<-hZ,<-hq];rfl
   rw[hZ,hq] at hT
   rw[hZ] at S6 Y6
   try rw[hZ]
   rw[hZq] at Y6 S6
   try rw[hZq]
   have y0:=Y6.out.cell (k:=0) rfl
   have y1:=Y6.out.cell (k:=1) rfl
   have y2:=Y6.out.cell (k:=2) rfl
   have z0:=H6.out.cell 1 rfl
   have z1:=H6.out.cell 2 rfl
   have z2:=H6.out.cell 3 rfl
   have e0:=H6.out.free 19
   have e1:=H6.out.free 20
   have e2:=H6.out.free 21
   obtain⟨W7,hW7⟩:∃W7,((W6.setCell ⟨g,19,none⟩ (.slice a1 Z.bs.length k1)).setCell ⟨g,20,none⟩ (.slice a2 Z.bs.length k2)).setCell ⟨g,21,none⟩ (.int .i64 (q:Int))=W7:=⟨_,rfl⟩
   have HW7:=aa hW7
   have hqT:q<=T0:=by omega
   clear SS6 hov hfs hms hq hW7
   go_upto_region 4 with(fail)
   rw[HW7.out]
   have hg7:W6.grownBy W7 (some g):=by rw[<-HW7.out];exact aS (aS (aS (World.grownBy.refl W6 _) 19 _) 20 _) 21 _
   obtain⟨ka,ki,kt,kg⟩:=H6.out.keptG hg7
   have H7:=aa (show WmAt W7 g Al T0 (.slice (some ⟨bF,oF,none⟩) n c) (.slice As ns cs) (.slice a1 Z.bs.length k1) (.slice a2 Z.bs.length k2) (.int .i64 (q:Int)) vi vt R { s with mem:=Z } from⟨by
    have h1:=((H6.out.row.set_ (18+1) (.slice a1 Z.bs.length k1)).set_ (18+2) (.slice a2 Z.bs.length k2)).set_ (18+3) (.int .i64 (q:Int))
    rw[show∀x1 x2 x3,bR Al T0 (.slice (some ⟨bF,oF,none⟩) n c) (.slice As ns cs) x1 x2 x3 vi vt R s=bj Al (.slice (some ⟨bF,oF,none⟩) n c) R (da T0 (.slice As ns cs) x1 x2 x3 vi vt s) from fun _ _ _=>rfl,bP H6.out.rl,bP H6.out.rl,bP H6.out.rl] at h1
    rw[<-HW7.out]
    exact h1,H6.out.rl,ka,ki,kt,fun he=>⟨(kg he).1,by
    have h2:=S6.out.keep (w':=W7) (B':=W7.heap.size) (fun p h1 h2=>World.cell?_of_block (hg7.block p.block h2 (fun e=>by injection e with e;omega))) hg7.size
    exact h2⟩⟩)
   have YG:=Y6.out.grown hg7 (fun e=>by injection e with e;exact hgG e.symm)
   have G7:=aa ((aG bW.out (some g)).trans hg7)
   clear y0 y1 y2 z0 z1 z2 e0 e1 e2 ka ki kt kg S6 H6 Y6 hg7 HW7
   have y2:=YG.cell (k:=2) rfl
   have u0:=H7.out.cell 4 rfl
   have u1:=H7.out.cell 5 rfl
   have u2:=H7.out.free 23
   have hw1:IntKind.i64.wrap ((T0:Int)-(q:Int))=(T0:Int)-(q:Int):=by rw[IntKind.wrap_i64];omega
   obtain⟨D,hD⟩:∃D,max s.deep (T0-q)=D:=⟨_,rfl⟩
   have HD:=aa (show(if(s.deep:Int)<(T0:Int)-(q:Int) then(T0:Int)-(q:Int) else(s.deep:Int))=(D:Int) by rw[<-hD];split<;>omega)
   rw[hD] at hT
   obtain⟨W8,hW8⟩:∃W8,(W7.setCell ⟨g,23,none⟩ (.int .i64 (D:Int))).drew=W8:=⟨_,rfl⟩
   have HW8:=aa hW8
   have hg8:W7.grownBy W8 (some g):=by rw[<-hW8];exact be (aS (World.grownBy.refl W7 _) 23 _) 1
   obtain⟨ka,ki,kt,kg⟩:=H7.out.keptG hg8
   have H8:=aa (show WmAt W8 g Al T0 (.slice (some ⟨bF,oF,none⟩) n c) (.slice As ns cs) (.slice a1 Z.bs.length k1) (.slice a2 Z.bs.length k2) (.int .i64 (q:Int)) vi vt R { s with mem:=Z,deep:=D } from⟨by
    have h1:=(H7.out.row.set_ (18+5) (.int .i64 (D:Int))).drew
    rw[show bR Al T0 (.slice (some ⟨bF,oF,none⟩) n c) (.slice As ns cs) (.slice a1 Z.bs.length k1) (.slice a2 Z.bs.length k2) (.int .i64 (q:Int)) vi vt R { s with mem:=Z }=bj Al (.slice (some ⟨bF,oF,none⟩) n c) R (da T0 (.slice As ns cs) (.slice a1 Z.bs.length k1) (.slice a2 Z.bs.length k2) (.int .i64 (q:Int)) vi vt { s with mem:=Z }) from rfl,bP H7.out.rl] at h1
    rw[<-hW8]
    exact h1,H7.out.rl,ka,ki,kt,kg⟩)
   have G8:=aa (G7.out.trans hg8)
   clear hD hW8 ka ki kt kg H7 G7 hg8 YG
   go_upto_region 5 with(first|go_region)
   rw[HD.out,HW8.out]
   clear y2 u0 u1 u2 hw1 HD HW8
   obtain⟨As',ns',cs',hae,hsl,hsc,hsn,hsf,hss⟩:=H8.out.acts
   injection hae with hae1 hae2 hae3
   subst hae1 hae2 hae3
   have hnl:ns<=1000000:=by have:s.st.length=ns:=hsl;omega
   have t0:=H8.out.cell 0 rfl
   go_wp2_with (at_builtin;refine bE rfl (.const (.slice none 0 0)) (.tmp 50) 92 rfl W8.heap.size 114 i0 (.agg #[.int .i64 0,.int .i64 0]) 2 16 Tryz.underlying92 ih hz0 hz1 hz2 rfl (by decide) (.slice none 0 0) 0 [] rfl (World.ownsRow_nil _ _ _ _) W8.heap.size As ns cs (aA s.st) rfl (aa hsn) (aa (by have:s.st.length=ns:=hsl;rw[dV,this])) (aa hss) (aa hsc) (jL _) (by unfold maxLen;omega) (by omega) (Nat.le_refl _) ?_)
   intro v9 w9 ho9 hg9
   have HO9:=aa (show w9.ownsRow W8.heap.size 114 2 v9 ns (aA s.st) by simpa using ho9)
   have HG9:=aa hg9
   clear ho9 hg9 hsn hss hsc hsf
   go_wp2_with (at_builtin;refine wpList_append_own _ rfl (.tmp 51) (.tmp 54) 92 rfl W8.heap.size 114 i0 (.agg #[.int .i64 0,.int .i64 0]) 2 16 Tryz.underlying92 ih hz0 hz1 hz2 rfl (by decide) v9 ns (aA s.st) rfl (HO9.out.alloc _) ⟨w9.heap.size,0,none⟩ 1 1 (gd (f,0)) rfl rfl (fun j u hu=>by rw[WideShapes.add_plain,Nat.zero_add];exact(Row.new w9 114 (gd (f,0))).cell hu) (io _) (by unfold maxLen;omega) (by omega) (by have:=HG9.out.size;simp;omega) ?_)
   intro v10 w10 ho10 hg10 _
   have hgn:W8.grownBy w10 none:=(HG9.out.trans (World.grownBy_alloc _ _ _)).andThen hg10 (fun k hk=>.inl (HO9.out.lt k hk).1)
   have hb10:Below W8.heap.size W8 w10:=(Below.refl _ _).grown hgn (Nat.le_refl _) (fun k hk=>by cases hk)
   have H10:=aa (H8.out.call hb10)
   have G10:=aa (G8.out.trans (aG hb10 (some g)))
   have hg8l:=H8.out.gl
   obtain⟨A10,c10,rfl,hA10,hm10,hf10,hs10⟩:=aW ho10
   have t1:=H10.out.cell 0 rfl
   have t2:=H10.out.free 18
   obtain⟨W11,hW11⟩:∃W,w10.setCell ⟨g,18,none⟩ (.slice A10 (ns+1) c10)=W:=⟨_,rfl⟩
   have HW11:=aa hW11
   have hg11:w10.grownBy W11 (some g):=by rw[<-hW11];exact aS (World.grownBy.refl w10 _) 18 _
   obtain⟨ka,ki,kt,kg⟩:=H10.out.keptG hg11
   have H11:=aa (show WmAt W11 g Al T0 (.slice (some ⟨bF,oF,none⟩) n c) (.slice A10 (ns+1) c10) (.slice a1 Z.bs.length k1) (.slice a2 Z.bs.length k2) (.int .i64 (q:Int)) vi vt R { s with mem:=Z,st:=s.st++[(f,0)],deep:=D } from⟨by
    have h1:=H10.out.row.set_ (18+0) (.slice A10 (ns+1) c10)
    rw[show bR Al T0 (.slice (some ⟨bF,oF,none⟩) n c) (.slice As ns cs) (.slice a1 Z.bs.length k1) (.slice a2 Z.bs.length k2) (.int .i64 (q:Int)) vi vt R { s with mem:=Z,deep:=D }=bj Al (.slice (some ⟨bF,oF,none⟩) n c) R (da T0 (.slice As ns cs) (.slice a1 Z.bs.length k1) (.slice a2 Z.bs.length k2) (.int .i64 (q:Int)) vi vt { s with mem:=Z,deep:=D }) from rfl,bP H10.out.rl] at h1
    rw[<-hW11]
    exact h1,H10.out.rl,⟨A10,ns+1,c10,rfl,by have:s.st.length=ns:=hsl;simp[this],hm10,hA10,hf10.more (by omega),by
    have h1:=(hs10.keepF (w':=W11) hf10 (fun p h1 h2=>World.cell?_of_block (hg11.block p.block h2 (fun e=>by injection e with e;omega)))).more hg11.size
    rw[eB]
    exact h1⟩,ki,kt,kg⟩)
   have G11:=aa (G10.out.trans hg11)
   clear hgn hb10 ho10 hg10 hA10 hm10 hf10 hs10 hW11 hg11 ka ki kt kg H10 G10 H8 G8 HO9 HG9
   go_wp2_with fail
   rw[HW11.out]
   go_end0
   exact⟨rfl,by rw[hT.out];exact⟨_,_,_,_,_,_,_,H11.out⟩,G11.out⟩
end
end Go.Proofs.YtjbgepjdohfhkaaGreat
