/- The contracts of stack.New and of the reference's New: a stack, or the error with the empty one. Conditions: those of the types. -/
import Derived.Test.YtjbgepjdohfhkaaGreatMEpow
set_option linter.unusedVariables false
set_option linter.unusedSimpArgs false
set_option maxRecDepth 100000
set_option maxHeartbeats 4000000
namespace Go.Proofs.YtjbgepjdohfhkaaGreat
open Go.RowKit
theorem uo (z:Value) (k:Nat):madeCells #[z] k=(List.replicate k z).toArray:=j4 z k
theorem ks {P:Program} {t e:TypeId} {i:TypeInfo} {z:Value} {L:List Value} (ht:P.underlying t=some (.slice e)) (hi:P.info? e=some i) (hz:i.zero=some z) (hs:i.size=1) (hb:i.bytes=1) (hc:z.cells=#[z])
  (n:Nat) (hm:n<=1048576) (hL:List.replicate n z=L) (W:World) :
  (Instr.makeSlice t (.int .i64 (n:Int)) (.int .i64 (n:Int))).run P W=.ok (.slice (some ⟨W.heap.size,0,none⟩) n n) (W.alloc (.cells L.toArray e)):=by
 have h:=run_make W t e i _ ht hi hz .i64 .i64 (n:Int) (n:Int) (by omega) (by omega) (by rw[hb];omega) (by omega)
 rw[h,show((n:Int)).toNat=n by omega,hs,Nat.mul_one,hc,uo,hL]
theorem lm {W:World} {base n:Nat} {e:TypeId} {L:List Value} (hl:L.length=n) (hb:base<=W.heap.size) (hm:n<=1048576):(W.alloc (.cells L.toArray e)).ownsRow base e 1 (.slice (some ⟨W.heap.size,0,none⟩) n n) n L:=by
 refine⟨by omega,.inr ⟨W.heap.size,n,_,rfl,hb,heap_alloc_new W _,Nat.le_refl _,by unfold maxLen;omega,by simp[hl],?_⟩⟩
 simp only[Nat.mul_one]
 rw[List.take_of_length_le (by omega)]
def kX (n a:Int):Int:=if 0<=n/\n<=1048576/\aR a=true then 0 else 4
def jQ (n a:Int):Sk:=if 0<=n/\n<=1048576/\aR a=true then bg n.toNat (n.toNat-n.toNat % a.toNat) else bg 0 0
theorem kW (n a:Int) (h:¬(0<=n/\n<=1048576/\aR a=true)):kX n a=4/\jQ n a=bg 0 0:=by simp[kX,jQ,h]
theorem lr (n a:Int) (h:0<=n/\n<=1048576/\aR a=true):kX n a=0/\jQ n a=bg n.toNat (n.toNat-n.toNat % a.toNat):=by simp[kX,jQ,h]
theorem s7 (A1:Option Addr) (c1:Nat) (A2:Option Addr) (c2:Nat) {m r:Nat} (h:r<=m):sv A1 c1 A2 c2 (bg m (m-r))=kv A1 m c1 A2 m c2 ((m:Int)-(r:Int)):=by
 have e1:(bg m (m-r)).bs.length=m:=by simp[bg]
 have e2:(((bg m (m-r)).sp:Nat):Int)=(m:Int)-(r:Int):=by show((m-r:Nat):Int)=_;omega
 show Value.agg #[.slice A1 (bg m (m-r)).bs.length c1,.slice A2 (bg m (m-r)).bs.length c2,.int .i64 ((bg m (m-r)).sp:Int)]=_
 rw[e1,e2]
theorem wT (w:World) (B:Nat):StkAt w B none 0 none 0 (bg 0 0):=⟨j3 (by omega) (by omega),fun _=>rfl,fun _=>rfl,Nat.le_refl _,Nat.le_refl _,an.nil_ _ _ _,an.nil_ _ _ _⟩
def qI (S:Sk) (E:Int) (w:World) (e:Ending) (w':World):Prop:=
 ∃(A1:Option Addr) (c1:Nat) (A2:Option Addr) (c2:Nat),e=.returned (.tuple #[sv A1 c1 A2 c2 S,.int .i64 E])/\StkOwn w' w.heap.size A1 c1 A2 c2 S 5 4/\Below w.heap.size w w'
def sH (n b r:Nat) (L1 L2:List Value) (w:World) (l:Array Bool) (a:Act) (wr:World):Prop:=
 ∃(b0 b1 b2 b3 b4 b5 b6 b7 b8 b9 b10 b11:Bool) (y2 y3 x17 x18 x19 x20 x21 x22 x23 x24 x25 x26 x27 s0 s1 s2:Value),l=#[b0,b1,b2,b3,b4,b5,b6,b7,b8,b9,b10,b11]/\a=⟨#[.int .i64 (n:Int),.int .i64 (b:Int),y2,y3,.pointer (some ⟨w.heap.size,0,none⟩),.int .i64 0,.int .i64 (n:Int),.bool false,.bool false,.int .i64 (n:Int),.bool false,.bool false,.bool false,.int .i64 (b:Int),.bool true,.bool false,.bool false,x17,x18,x19,x20,x21,x22,x23,x24,x25,x26,x27],[]⟩ /\
  Below w.heap.size w wr /\
  Row wr w.heap.size 66 [s0,s1,s2] /\
  (b10=true->s0=x19) /\
  (b10=true->s1=x21) /\
  (b10=true->s2=.int .i64 ((n:Int)-(r:Int))) /\
  (b1=true->b0=true) /\
  (b3=true->b2=true) /\
  (b7=true->b5=true/\b6=true) /\
  (b8=true->b4=true/\b7=true) /\
  (b9=true->b1=true/\b3=true/\b8=true) /\
  (b10=true->b9=true) /\
  (b0=true->x18=.int .i64 (n:Int)) /\
  (b1=true->wr.ownsRow (w.heap.size+1) 5 1 x19 n L1) /\
  (b2=true->x20=.int .i64 (n:Int)) /\
  (b3=true->wr.ownsRow (w.heap.size+1) 4 1 x21 n L2) /\
  (b4=true->x22=.int .i64 (n:Int)) /\
  (b5=true->x23=.int .i64 (n:Int)) /\
  (b6=true->x24=.int .i64 (b:Int)) /\
  (b7=true->x25=.int .i64 (r:Int)) /\
  (b8=true->x26=.int .i64 ((n:Int)-(r:Int))) /\
  (b9=true->x27=.agg #[x19,x21,.int .i64 ((n:Int)-(r:Int))])
theorem mB (n a:Int) (w:World):Calls Tryz.prog 27 #[.int .i64 n,.int .i64 a] w (qI (jQ n a) (kX n a) w):=by
 have cp:=kU a
 have bad:¬(0<=n/\n<=1048576/\aR a=true)->∀W e,e=.returned (.tuple #[kv none 0 0 none 0 0 0,.int .i64 4])->Below w.heap.size w W->qI (jQ n a) (kX n a) w e W:=by
  intro h W e he hb
  rw[(kW n a h).1,(kW n a h).2]
  exact⟨none,0,none,0,he,⟨j3 (by omega) (by omega),World.ownsRow_nil _ _ _ _,World.ownsRow_nil _ _ _ _⟩,hb⟩
 have R:=aa (Row.new w 66 [.slice none 0 0,.slice none 0 0,.int .i64 0])
 have b1:=aa (ag w (.cells #[.slice none 0 0,.slice none 0 0,.int .i64 0] 66))
 obtain⟨W,hW⟩:∃W,w.alloc (.cells #[.slice none 0 0,.slice none 0 0,.int .i64 0] 66)=W:=⟨_,rfl⟩
 have HW:=aa hW
 have R1:=aa (show Row W w.heap.size 66 [.slice none 0 0,.slice none 0 0,.int .i64 0] by rw[<-hW];exact R.out)
 have B1:=aa (show Below w.heap.size w W by rw[<-hW];exact b1.out)
 have B2:=aa (show Below w.heap.size w (((W.setCell ⟨w.heap.size,0,none⟩ (.slice none 0 0)).setCell ⟨w.heap.size,1,none⟩ (.slice none 0 0)).setCell ⟨w.heap.size,2,none⟩ (.int .i64 0)) from ig B1.out (Nat.le_refl _))
 have R2:=aa (show Row (((W.setCell ⟨w.heap.size,0,none⟩ (.slice none 0 0)).setCell ⟨w.heap.size,1,none⟩ (.slice none 0 0)).setCell ⟨w.heap.size,2,none⟩ (.int .i64 0)) w.heap.size 66 [.slice none 0 0,.slice none 0 0,.int .i64 0] from(((R1.out.set_ 0 _).set_ 1 _).set_ 2 _))
 clear hW R b1
 have z0:=R1.out.cell (k:=0) rfl
 have z1:=R1.out.cell (k:=1) rfl
 have z2:=R1.out.cell (k:=2) rfl
 have y0:=R1.out.free 0
 have y1:=R1.out.free 1
 have y2:=R1.out.free 2
 have v0:=R2.out.cell (k:=0) rfl
 have v1:=R2.out.cell (k:=1) rfl
 have v2:=R2.out.cell (k:=2) rfl
 clear R2
 by_cases h0:0<=n
 ·by_cases h1:n<=1048576
  ·cases hp:aR a with
   | false=>
    have bad:=bad (by rw[hp];simp)
    have Bad:=aa bad
    rw[hp] at cp
    clear bad hp
    go_enter Tryz.func27,Tryz.ntmps27
    go_upto_region 1 with(fail)
    rw[HW.out]
    go_wp2_with fail
    refine(cp _).mono ?_
    rintro e w' ⟨rfl,rfl⟩
    go_wp2_with fail
    exact bodyPost_ret (v:=.tuple #[kv none 0 0 none 0 0 0,.int .i64 4]) (by simp[results,Tryz.results27,go_sem,v0,v1,v2]) rfl (Bad.out _ _ rfl B2.out)
   | true=>
    obtain⟨k,hk,hak⟩:=ir.1 hp
    have ha0:1<=a/\a<=16777216:=by
     have:=jy (k:=k) (by omega)
     rw[hak];exact this
    obtain⟨hE,hR⟩:=lr n a ⟨h0,h1,hp⟩
    rw[hp] at cp
    rw[hE,hR]
    clear hak hk hp hE hR bad
    obtain⟨m,rfl⟩:∃m:Nat,n=(m:Int):=⟨n.toNat,by omega⟩
    obtain⟨b,rfl⟩:∃b:Nat,a=(b:Int):=⟨a.toNat,by omega⟩
    simp only[Int.toNat_natCast]
    have hm:m<=1048576:=by omega
    obtain⟨r,hr⟩:∃r,m % b=r:=⟨_,rfl⟩
    have hrm:r<=m:=by rw[<-hr];exact Nat.mod_le _ _
    have hrun:Int.tmod (m:Int) (b:Int)=(r:Int):=by rw[<-Int.ofNat_tmod,hr]
    have hb0:¬(b=0):=by omega
    have hwr:=aa (show IntKind.i64.wrap ((m:Int)-(r:Int))=(m:Int)-(r:Int) by rw[IntKind.wrap_i64];omega)
    have d1:decide ((m:Int)<0)=false:=by simp
    have d2:decide (1048576<(m:Int))=false:=by simp;omega
    rw[hr]
    obtain⟨L1,hL1⟩:∃L,List.replicate m (Value.int .u8 0)=L:=⟨_,rfl⟩
    obtain⟨L2,hL2⟩:∃L,List.replicate m (Value.bool false)=L:=⟨_,rfl⟩
    have hl1:=aa (show L1.length=m by rw[<-hL1];simp)
    have hl2:=aa (show L2.length=m by rw[<-hL2];simp)
    obtain⟨ia,hai,ha0',ha1,ha2⟩:=info_parts Tryz.cinfo5
    obtain⟨ib,hbi,hb0',hb1,hb2⟩:=info_parts Tryz.cinfo4
    have mk1:=ks (P:=Tryz.prog) Tryz.underlying22 hai ha0' ha1 ha2 rfl m hm hL1
    have mk2:=ks (P:=Tryz.prog) Tryz.underlying64 hbi hb0' hb1 hb2 rfl m hm hL2
    have HL1:=aa (show aq (bg m (m-r)).bs=L1 by rw[<-hL1];simp[bg,aq])
    have HL2:=aa (show bh (bg m (m-r)).us=L2 by rw[<-hL2];simp[bg,bh])
    clear hL1 hL2 hai ha0' ha1 ha2 hbi hb0' hb1 hb2 hr v0 v1 v2 B2
    go_enter Tryz.func27,Tryz.ntmps27
    go_upto_region 1 with(fail)
    rw[HW.out]
    clear z0 z1 z2 y0 y1 y2
    go_wp2_with fail
    refine(cp _).mono ?_
    rintro e w' ⟨rfl,rfl⟩
    go_upto_region 3 with(fail)
    have HI0:sH m b r L1 L2 w (Array.replicate 12 false) ⟨#[.int .i64 (m:Int),.int .i64 (b:Int),undef,undef,.pointer (some ⟨w.heap.size,0,none⟩),.int .i64 0,.int .i64 (m:Int),.bool false,.bool false,.int .i64 (m:Int),.bool false,.bool false,.bool false,.int .i64 (b:Int),.bool true,.bool false,.bool false,undef,undef,undef,undef,undef,undef,undef,undef,undef,undef,undef],[]⟩ W.drew:=
     ⟨false,false,false,false,false,false,false,false,false,false,false,false,_,_,_,_,_,_,_,_,_,_,_,_,_,_,_,_,rfl,rfl,am B1.out 1,R1.out.drew,(fun e=>by cases e),(fun e=>by cases e),(fun e=>by cases e),(fun e=>by cases e),(fun e=>by cases e),(fun e=>by cases e),(fun e=>by cases e),(fun e=>by cases e),(fun e=>by cases e),(fun e=>by cases e),(fun e=>by cases e),(fun e=>by cases e),(fun e=>by cases e),(fun e=>by cases e),(fun e=>by cases e),(fun e=>by cases e),(fun e=>by cases e),(fun e=>by cases e),(fun e=>by cases e)⟩
    refine eq (by kernel_rfl) (sH m b r L1 L2 w) HI0 ?_ ?_
    ·rintro l a wr ⟨b0,b1,b2,b3,b4,b5,b6,b7,b8,b9,b10,b11,y2,y3,x17,x18,x19,x20,x21,x22,x23,x24,x25,x26,x27,s0,s1,s2,rfl,rfl,hB,hZ,f_s0,f_s1,f_s2,t1,t3,t7,t8,t9,t10,q0,q1,q2,q3,q4,q5,q6,q7,q8,q9⟩ k hi K hK
     have hlt:=jf hi
     obtain⟨hf,o,ho,ha⟩:=je hi
     clear hi
     have hlt':k<12:=hlt
     clear hlt
     rcases(show k=0\/k=1\/k=2\/k=3\/k=4\/k=5\/k=6\/k=7\/k=8\/k=9\/k=10\/k=11 by omega) with rfl|rfl|rfl|rfl|rfl|rfl|rfl|rfl|rfl|rfl|rfl|rfl
     ·obtain rfl:=Option.some.inj ho
      simp[Region.binds] at ha hf
      clear ha ho hlt'
      refine ak rfl rfl ?_
      go_simp
      refine hK _ _ ⟨true,b1,b2,b3,b4,b5,b6,b7,b8,b9,b10,b11,_,_,_,_,_,_,_,_,_,_,_,_,_,_,_,_,rfl,rfl,hB,hZ,f_s0,f_s1,f_s2,(fun e=>rfl),t3,t7,t8,t9,t10,(fun _=>rfl),q1,(by first|exact q2|exact fun _=>rfl),q3,(by first|exact q4|exact fun _=>rfl),(by first|exact q5|exact fun _=>rfl),(by first|exact q6|exact fun _=>rfl),(by first|exact q7|exact fun _=>rfl),(by first|exact q8|exact fun _=>rfl),(by first|exact q9|exact fun _=>rfl)⟩
     ·obtain rfl:=Option.some.inj ho
      simp[Region.binds] at ha hf
      have d0:b0=true:=by simp_all
      have D0:=aa d0
      have x:=q0 d0
      subst x
      clear ha ho hlt'
      refine ak rfl rfl ?_
      go_simp
      have ho':=lm (W:=wr) (e:=5) (base:=w.heap.size+1) hl1.out (by have:=hB.size;have:=hZ.lt;omega:w.heap.size+1<=wr.heap.size) hm
      have hb':=ag wr (.cells L1.toArray 5)
      refine hK _ _ ⟨b0,true,b2,b3,b4,b5,b6,b7,b8,b9,b10,b11,_,_,_,_,_,_,_,_,_,_,_,_,_,_,_,_,rfl,rfl,(hB.trans (hb'.mono hB.size)),(hZ.call hb'),(fun e=>by have:=t10 e;simp_all),f_s1,f_s2,(fun _=>D0.out),t3,t7,t8,(fun e=>⟨rfl,(t9 e).2.1,(t9 e).2.2⟩),t10,(fun _=>rfl),(fun _=>ho'),(by first|exact q2|exact fun _=>rfl),(fun e=>bZ (q3 e) hb'),(by first|exact q4|exact fun _=>rfl),(by first|exact q5|exact fun _=>rfl),(by first|exact q6|exact fun _=>rfl),(by first|exact q7|exact fun _=>rfl),(by first|exact q8|exact fun _=>rfl),(fun e=>by have:=t9 e;simp_all)⟩
     ·obtain rfl:=Option.some.inj ho
      simp[Region.binds] at ha hf
      clear ha ho hlt'
      refine ak rfl rfl ?_
      go_simp
      refine hK _ _ ⟨b0,b1,true,b3,b4,b5,b6,b7,b8,b9,b10,b11,_,_,_,_,_,_,_,_,_,_,_,_,_,_,_,_,rfl,rfl,hB,hZ,f_s0,f_s1,f_s2,t1,(fun e=>rfl),t7,t8,t9,t10,(by first|exact q0|exact fun _=>rfl),q1,(fun _=>rfl),q3,(by first|exact q4|exact fun _=>rfl),(by first|exact q5|exact fun _=>rfl),(by first|exact q6|exact fun _=>rfl),(by first|exact q7|exact fun _=>rfl),(by first|exact q8|exact fun _=>rfl),(by first|exact q9|exact fun _=>rfl)⟩
     ·obtain rfl:=Option.some.inj ho
      simp[Region.binds] at ha hf
      have d2:b2=true:=by simp_all
      have D2:=aa d2
      have x:=q2 d2
      subst x
      clear ha ho hlt'
      refine ak rfl rfl ?_
      go_simp
      have ho':=lm (W:=wr) (e:=4) (base:=w.heap.size+1) hl2.out (by have:=hB.size;have:=hZ.lt;omega:w.heap.size+1<=wr.heap.size) hm
      have hb':=ag wr (.cells L2.toArray 4)
      refine hK _ _ ⟨b0,b1,b2,true,b4,b5,b6,b7,b8,b9,b10,b11,_,_,_,_,_,_,_,_,_,_,_,_,_,_,_,_,rfl,rfl,(hB.trans (hb'.mono hB.size)),(hZ.call hb'),f_s0,(fun e=>by have:=t10 e;simp_all),f_s2,t1,(fun _=>D2.out),t7,t8,(fun e=>⟨(t9 e).1,rfl,(t9 e).2.2⟩),t10,(by first|exact q0|exact fun _=>rfl),(fun e=>bZ (q1 e) hb'),(fun _=>rfl),(fun _=>ho'),(by first|exact q4|exact fun _=>rfl),(by first|exact q5|exact fun _=>rfl),(by first|exact q6|exact fun _=>rfl),(by first|exact q7|exact fun _=>rfl),(by first|exact q8|exact fun _=>rfl),(fun e=>by have:=t9 e;simp_all)⟩
     ·obtain rfl:=Option.some.inj ho
      simp[Region.binds] at ha hf
      clear ha ho hlt'
      refine ak rfl rfl ?_
      go_simp
      refine hK _ _ ⟨b0,b1,b2,b3,true,b5,b6,b7,b8,b9,b10,b11,_,_,_,_,_,_,_,_,_,_,_,_,_,_,_,_,rfl,rfl,hB,hZ,f_s0,f_s1,f_s2,t1,t3,t7,(fun e=>⟨rfl,(t8 e).2⟩),t9,t10,(by first|exact q0|exact fun _=>rfl),q1,(by first|exact q2|exact fun _=>rfl),q3,(fun _=>rfl),(by first|exact q5|exact fun _=>rfl),(by first|exact q6|exact fun _=>rfl),(by first|exact q7|exact fun _=>rfl),(by first|exact q8|exact fun _=>rfl),(by first|exact q9|exact fun _=>rfl)⟩
     ·obtain rfl:=Option.some.inj ho
      simp[Region.binds] at ha hf
      clear ha ho hlt'
      refine ak rfl rfl ?_
      go_simp
      refine hK _ _ ⟨b0,b1,b2,b3,b4,true,b6,b7,b8,b9,b10,b11,_,_,_,_,_,_,_,_,_,_,_,_,_,_,_,_,rfl,rfl,hB,hZ,f_s0,f_s1,f_s2,t1,t3,(fun e=>⟨rfl,(t7 e).2⟩),t8,t9,t10,(by first|exact q0|exact fun _=>rfl),q1,(by first|exact q2|exact fun _=>rfl),q3,(by first|exact q4|exact fun _=>rfl),(fun _=>rfl),(by first|exact q6|exact fun _=>rfl),(by first|exact q7|exact fun _=>rfl),(by first|exact q8|exact fun _=>rfl),(by first|exact q9|exact fun _=>rfl)⟩
     ·obtain rfl:=Option.some.inj ho
      simp[Region.binds] at ha hf
      clear ha ho hlt'
      refine ak rfl rfl ?_
      go_simp
      refine hK _ _ ⟨b0,b1,b2,b3,b4,b5,true,b7,b8,b9,b10,b11,_,_,_,_,_,_,_,_,_,_,_,_,_,_,_,_,rfl,rfl,hB,hZ,f_s0,f_s1,f_s2,t1,t3,(fun e=>⟨(t7 e).1,rfl⟩),t8,t9,t10,(by first|exact q0|exact fun _=>rfl),q1,(by first|exact q2|exact fun _=>rfl),q3,(by first|exact q4|exact fun _=>rfl),(by first|exact q5|exact fun _=>rfl),(fun _=>rfl),(by first|exact q7|exact fun _=>rfl),(by first|exact q8|exact fun _=>rfl),(by first|exact q9|exact fun _=>rfl)⟩
     ·obtain rfl:=Option.some.inj ho
      simp[Region.binds] at ha hf
      have d5:b5=true:=by simp_all
      have d6:b6=true:=by simp_all
      have D5:=aa d5
      have D6:=aa d6
      have x:=q6 d6
      subst x
      have x:=q5 d5
      subst x
      clear ha ho hlt'
      refine ak rfl rfl ?_
      go_simp
      refine hK _ _ ⟨b0,b1,b2,b3,b4,b5,b6,true,b8,b9,b10,b11,_,_,_,_,_,_,_,_,_,_,_,_,_,_,_,_,rfl,rfl,hB,hZ,f_s0,f_s1,f_s2,t1,t3,(fun _=>⟨D5.out,D6.out⟩),(fun e=>⟨(t8 e).1,rfl⟩),t9,t10,(by first|exact q0|exact fun _=>rfl),q1,(by first|exact q2|exact fun _=>rfl),q3,(by first|exact q4|exact fun _=>rfl),(fun _=>rfl),(fun _=>rfl),(fun _=>rfl),(by first|exact q8|exact fun _=>rfl),(by first|exact q9|exact fun _=>rfl)⟩
     ·obtain rfl:=Option.some.inj ho
      simp[Region.binds] at ha hf
      have d4:b4=true:=by simp_all
      have d7:b7=true:=by simp_all
      have D4:=aa d4
      have D7:=aa d7
      have x:=q7 d7
      subst x
      have x:=q4 d4
      subst x
      clear ha ho hlt'
      refine ak rfl rfl ?_
      go_simp
      rw[hwr.out]
      refine hK _ _ ⟨b0,b1,b2,b3,b4,b5,b6,b7,true,b9,b10,b11,_,_,_,_,_,_,_,_,_,_,_,_,_,_,_,_,rfl,rfl,hB,hZ,f_s0,f_s1,f_s2,t1,t3,t7,(fun _=>⟨D4.out,D7.out⟩),(fun e=>⟨(t9 e).1,(t9 e).2.1,rfl⟩),t10,(by first|exact q0|exact fun _=>rfl),q1,(by first|exact q2|exact fun _=>rfl),q3,(fun _=>rfl),(by first|exact q5|exact fun _=>rfl),(by first|exact q6|exact fun _=>rfl),(fun _=>rfl),(fun _=>rfl),(by first|exact q9|exact fun _=>rfl)⟩
     ·obtain rfl:=Option.some.inj ho
      simp[Region.binds] at ha hf
      have d1:b1=true:=by simp_all
      have d3:b3=true:=by simp_all
      have d8:b8=true:=by simp_all
      have D1:=aa d1
      have D3:=aa d3
      have D8:=aa d8
      have x:=q8 d8
      subst x
      have o1:=q1 d1
      have o3:=q3 d3
      obtain⟨a5,k5,rfl,-,-⟩:=bX o1
      obtain⟨a8,k8,rfl,-,-⟩:=bX o3
      clear ha ho hlt'
      refine ak rfl rfl ?_
      go_simp
      refine hK _ _ ⟨b0,b1,b2,b3,b4,b5,b6,b7,b8,true,b10,b11,_,_,_,_,_,_,_,_,_,_,_,_,_,_,_,_,rfl,rfl,hB,hZ,f_s0,f_s1,f_s2,t1,t3,t7,t8,(fun _=>⟨D1.out,D3.out,D8.out⟩),(fun e=>rfl),(by first|exact q0|exact fun _=>rfl),q1,(by first|exact q2|exact fun _=>rfl),q3,(by first|exact q4|exact fun _=>rfl),(by first|exact q5|exact fun _=>rfl),(by first|exact q6|exact fun _=>rfl),(by first|exact q7|exact fun _=>rfl),(fun _=>rfl),(fun _=>rfl)⟩
     ·obtain rfl:=Option.some.inj ho
      simp[Region.binds] at ha hf
      have d9:b9=true:=by simp_all
      have D9:=aa d9
      have x:=q9 d9
      subst x
      have o2:=q1 (t9 (by simp_all)).1
      have o5:=q3 (t9 (by simp_all)).2.1
      obtain⟨a5,k5,rfl,-,-⟩:=bX o2
      obtain⟨a8,k8,rfl,-,-⟩:=bX o5
      have z0:=hZ.cell (k:=0) rfl
      have z1:=hZ.cell (k:=1) rfl
      have z2:=hZ.cell (k:=2) rfl
      have y0:=hZ.free 0
      have y1:=hZ.free 1
      have y2:=hZ.free 2
      clear ha ho hlt'
      refine ak rfl rfl ?_
      go_simp
      refine hK _ _ ⟨b0,b1,b2,b3,b4,b5,b6,b7,b8,b9,true,b11,_,_,_,_,_,_,_,_,_,_,_,_,_,_,_,_,rfl,rfl,(ig hB (Nat.le_refl _)),(((hZ.set_ 0 _).set_ 1 _).set_ 2 _),(fun _=>rfl),(fun _=>rfl),(fun _=>rfl),t1,t3,t7,t8,t9,(fun _=>D9.out),(by first|exact q0|exact fun _=>rfl),(fun e=>it (q1 e) (by omega)),(by first|exact q2|exact fun _=>rfl),(fun e=>it (q3 e) (by omega)),(by first|exact q4|exact fun _=>rfl),(by first|exact q5|exact fun _=>rfl),(by first|exact q6|exact fun _=>rfl),(by first|exact q7|exact fun _=>rfl),(by first|exact q8|exact fun _=>rfl),(fun _=>rfl)⟩
     ·obtain rfl:=Option.some.inj ho
      simp[Region.binds] at ha hf
      clear ha ho hlt'
      refine ak rfl rfl ?_
      go_simp
      refine hK _ _ ⟨b0,b1,b2,b3,b4,b5,b6,b7,b8,b9,b10,true,_,_,_,_,_,_,_,_,_,_,_,_,_,_,_,_,rfl,rfl,hB,hZ,f_s0,f_s1,f_s2,t1,t3,t7,t8,t9,t10,(by first|exact q0|exact fun _=>rfl),q1,(by first|exact q2|exact fun _=>rfl),q3,(by first|exact q4|exact fun _=>rfl),(by first|exact q5|exact fun _=>rfl),(by first|exact q6|exact fun _=>rfl),(by first|exact q7|exact fun _=>rfl),(by first|exact q8|exact fun _=>rfl),(by first|exact q9|exact fun _=>rfl)⟩
    ·rintro l a wr ⟨b0,b1,b2,b3,b4,b5,b6,b7,b8,b9,b10,b11,y2,y3,x17,x18,x19,x20,x21,x22,x23,x24,x25,x26,x27,s0,s1,s2,rfl,rfl,hB,hZ,f_s0,f_s1,f_s2,t1,t3,t7,t8,t9,t10,q0,q1,q2,q3,q4,q5,q6,q7,q8,q9⟩ hr
     have u0:b0=true:=by
      cases hb:b0 with
      | true=>rfl
      | false=>exact(aF hr (i:=0) rfl hb (by simp[Region.binds])).elim
     have u1:b1=true:=by
      cases hb:b1 with
      | true=>rfl
      | false=>exact(aF hr (i:=1) rfl hb (by simp[Region.binds,u0])).elim
     have u2:b2=true:=by
      cases hb:b2 with
      | true=>rfl
      | false=>exact(aF hr (i:=2) rfl hb (by simp[Region.binds,u0,u1])).elim
     have u3:b3=true:=by
      cases hb:b3 with
      | true=>rfl
      | false=>exact(aF hr (i:=3) rfl hb (by simp[Region.binds,u0,u1,u2])).elim
     have u4:b4=true:=by
      cases hb:b4 with
      | true=>rfl
      | false=>exact(aF hr (i:=4) rfl hb (by simp[Region.binds,u0,u1,u2,u3])).elim
     have u5:b5=true:=by
      cases hb:b5 with
      | true=>rfl
      | false=>exact(aF hr (i:=5) rfl hb (by simp[Region.binds,u0,u1,u2,u3,u4])).elim
     have u6:b6=true:=by
      cases hb:b6 with
      | true=>rfl
      | false=>exact(aF hr (i:=6) rfl hb (by simp[Region.binds,u0,u1,u2,u3,u4,u5])).elim
     have u7:b7=true:=by
      cases hb:b7 with
      | true=>rfl
      | false=>exact(aF hr (i:=7) rfl hb (by simp[Region.binds,u0,u1,u2,u3,u4,u5,u6])).elim
     have u8:b8=true:=by
      cases hb:b8 with
      | true=>rfl
      | false=>exact(aF hr (i:=8) rfl hb (by simp[Region.binds,u0,u1,u2,u3,u4,u5,u6,u7])).elim
     have u9:b9=true:=by
      cases hb:b9 with
      | true=>rfl
      | false=>exact(aF hr (i:=9) rfl hb (by simp[Region.binds,u0,u1,u2,u3,u4,u5,u6,u7,u8])).elim
     have u10:b10=true:=by
      cases hb:b10 with
      | true=>rfl
      | false=>exact(aF hr (i:=10) rfl hb (by simp[Region.binds,u0,u1,u2,u3,u4,u5,u6,u7,u8,u9])).elim
     have u11:b11=true:=by
      cases hb:b11 with
      | true=>rfl
      | false=>exact(aF hr (i:=11) rfl hb (by simp[Region.binds,u0,u1,u2,u3,u4,u5,u6,u7,u8,u9,u10])).elim
     clear hr
     obtain rfl:=q9 u9
     obtain rfl:=q8 u8
     obtain rfl:=q7 u7
     obtain rfl:=q6 u6
     obtain rfl:=q5 u5
     obtain rfl:=q4 u4
     have o3:=q3 u3
     obtain rfl:=q2 u2
     have o1:=q1 u1
     obtain rfl:=q0 u0
     obtain rfl:=f_s0 u10
     obtain rfl:=f_s1 u10
     obtain rfl:=f_s2 u10
     clear q0 q1 q2 q3 q4 q5 q6 q7 q8 q9 f_s0 f_s1 f_s2 t1 t3 t7 t8 t9 t10 u0 u1 u2 u3 u4 u5 u6 u7 u8 u9 u10 u11
     obtain⟨a5,k5,rfl,-,-⟩:=bX o1
     obtain⟨a8,k8,rfl,-,-⟩:=bX o3
     have z0:=hZ.cell (k:=0) rfl
     have z1:=hZ.cell (k:=1) rfl
     have z2:=hZ.cell (k:=2) rfl
     go_wp2_with fail
     refine bodyPost_ret (v:=.tuple #[kv a5 m k5 a8 m k8 ((m:Int)-(r:Int)),.int .i64 0]) (by simp[results,Tryz.results27,go_sem,z0,z1,z2]) rfl ?_
     have hown:StkOwn wr (w.heap.size+1) a5 k5 a8 k8 (bg m (m-r)) 5 4:=⟨j3 hm (by omega),by rw[HL1.out];simpa[bg] using o1,by rw[HL2.out];simpa[bg] using o3⟩
     exact⟨a5,k5,a8,k8,by rw[s7 _ _ _ _ hrm],⟨hown.ok,dW hown.o1 (by omega),dW hown.o2 (by omega)⟩,hB⟩
  ·have bad:=aa (bad (by omega))
   go_enter Tryz.func27,Tryz.ntmps27
   go_upto_region 1 with(fail)
   rw[HW.out]
   go_wp2_with fail
   exact bodyPost_ret (v:=.tuple #[kv none 0 0 none 0 0 0,.int .i64 4]) (by simp[results,Tryz.results27,go_sem,v0,v1,v2]) rfl (bad.out _ _ rfl B2.out)
 ·have bad:=aa (bad (by omega))
  go_enter Tryz.func27,Tryz.ntmps27
  go_upto_region 1 with(fail)
  rw[HW.out]
  go_wp2_with fail
  exact bodyPost_ret (v:=.tuple #[kv none 0 0 none 0 0 0,.int .i64 4]) (by simp[results,Tryz.results27,go_sem,v0,v1,v2]) rfl (bad.out _ _ rfl B2.out)
theorem pW (n a:Int) (w:World):Calls Tryz.prog 30 #[.int .i64 n,.int .i64 a] w (jr (jQ n a) (kX n a) w):=by
 have cp:=gZ a
 have bad:¬(0<=n/\n<=1048576/\aR a=true)->∀W e,e=.returned (.tuple #[kv none 0 0 none 0 0 0,.int .i64 4])->Below w.heap.size w W->jr (jQ n a) (kX n a) w e W:=by
  intro h W e he hb
  rw[(kW n a h).1,(kW n a h).2]
  exact⟨none,0,none,0,he,wT _ _,hb,fun _=>⟨Far.none _,Far.none _⟩⟩
 have R:=aa (Row.new w 66 [.slice none 0 0,.slice none 0 0,.int .i64 0])
 have b1:=aa (ag w (.cells #[.slice none 0 0,.slice none 0 0,.int .i64 0] 66))
 obtain⟨W,hW⟩:∃W,w.alloc (.cells #[.slice none 0 0,.slice none 0 0,.int .i64 0] 66)=W:=⟨_,rfl⟩
 have HW:=aa hW
 have R1:=aa (show Row W w.heap.size 66 [.slice none 0 0,.slice none 0 0,.int .i64 0] by rw[<-hW];exact R.out)
 have B1:=aa (show Below w.heap.size w W by rw[<-hW];exact b1.out)
 have B2:=aa (show Below w.heap.size w (((W.setCell ⟨w.heap.size,0,none⟩ (.slice none 0 0)).setCell ⟨w.heap.size,1,none⟩ (.slice none 0 0)).setCell ⟨w.heap.size,2,none⟩ (.int .i64 0)) from ig B1.out (Nat.le_refl _))
 have R2:=aa (show Row (((W.setCell ⟨w.heap.size,0,none⟩ (.slice none 0 0)).setCell ⟨w.heap.size,1,none⟩ (.slice none 0 0)).setCell ⟨w.heap.size,2,none⟩ (.int .i64 0)) w.heap.size 66 [.slice none 0 0,.slice none 0 0,.int .i64 0] from(((R1.out.set_ 0 _).set_ 1 _).set_ 2 _))
 clear hW R b1
 have z0:=R1.out.cell (k:=0) rfl
 have z1:=R1.out.cell (k:=1) rfl
 have z2:=R1.out.cell (k:=2) rfl
 have y0:=R1.out.free 0
 have y1:=R1.out.free 1
 have y2:=R1.out.free 2
 have v0:=R2.out.cell (k:=0) rfl
 have v1:=R2.out.cell (k:=1) rfl
 have v2:=R2.out.cell (k:=2) rfl
 clear R2
 by_cases h0:0<=n
 ·by_cases h1:n<=1048576
  ·cases hp:aR a with
   | false=>
    have bad:=bad (by rw[hp];simp)
    have Bad:=aa bad
    rw[hp] at cp
    clear bad hp
    go_enter Tryz.func30,Tryz.ntmps30
    go_upto_region 1 with(fail)
    rw[HW.out]
    go_wp2_with fail
    refine(cp _).mono ?_
    rintro e w' ⟨rfl,rfl⟩
    go_wp2_with fail
    exact bodyPost_ret (v:=.tuple #[kv none 0 0 none 0 0 0,.int .i64 4]) (by simp[results,Tryz.results30,go_sem,v0,v1,v2]) rfl (Bad.out _ _ rfl B2.out)
   | true=>
    obtain⟨k,hk,hak⟩:=ir.1 hp
    have ha0:1<=a/\a<=16777216:=by
     have:=jy (k:=k) (by omega)
     rw[hak];exact this
    obtain⟨hE,hR⟩:=lr n a ⟨h0,h1,hp⟩
    rw[hp] at cp
    rw[hE,hR]
    clear hak hk hp hE hR bad
    obtain⟨m,rfl⟩:∃m:Nat,n=(m:Int):=⟨n.toNat,by omega⟩
    obtain⟨b,rfl⟩:∃b:Nat,a=(b:Int):=⟨a.toNat,by omega⟩
    simp only[Int.toNat_natCast]
    have hm:m<=1048576:=by omega
    obtain⟨r,hr⟩:∃r,m % b=r:=⟨_,rfl⟩
    have hrm:r<=m:=by rw[<-hr];exact Nat.mod_le _ _
    have hrun:Int.tmod (m:Int) (b:Int)=(r:Int):=by rw[<-Int.ofNat_tmod,hr]
    have hb0:¬(b=0):=by omega
    have hwr:=aa (show IntKind.i64.wrap ((m:Int)-(r:Int))=(m:Int)-(r:Int) by rw[IntKind.wrap_i64];omega)
    have d1:decide ((m:Int)<0)=false:=by simp
    have d2:decide (1048576<(m:Int))=false:=by simp;omega
    rw[hr]
    obtain⟨L1,hL1⟩:∃L,List.replicate m (Value.int .u8 0)=L:=⟨_,rfl⟩
    obtain⟨L2,hL2⟩:∃L,List.replicate m (Value.bool false)=L:=⟨_,rfl⟩
    have hl1:=aa (show L1.length=m by rw[<-hL1];simp)
    have hl2:=aa (show L2.length=m by rw[<-hL2];simp)
    obtain⟨ia,hai,ha0',ha1,ha2⟩:=info_parts Tryz.cinfo5
    obtain⟨ib,hbi,hb0',hb1,hb2⟩:=info_parts Tryz.cinfo4
    have mk1:=ks (P:=Tryz.prog) Tryz.underlying22 hai ha0' ha1 ha2 rfl m hm hL1
    have mk2:=ks (P:=Tryz.prog) Tryz.underlying64 hbi hb0' hb1 hb2 rfl m hm hL2
    have HL1:=aa (show aq (bg m (m-r)).bs=L1 by rw[<-hL1];simp[bg,aq])
    have HL2:=aa (show bh (bg m (m-r)).us=L2 by rw[<-hL2];simp[bg,bh])
    clear hL1 hL2 hai ha0' ha1 ha2 hbi hb0' hb1 hb2 hr v0 v1 v2 B2
    go_enter Tryz.func30,Tryz.ntmps30
    go_upto_region 1 with(fail)
    rw[HW.out]
    clear z0 z1 z2 y0 y1 y2
    go_wp2_with fail
    refine(cp _).mono ?_
    rintro e w' ⟨rfl,rfl⟩
    go_upto_region 3 with(fail)
    have HI0:sH m b r L1 L2 w (Array.replicate 12 false) ⟨#[.int .i64 (m:Int),.int .i64 (b:Int),undef,undef,.pointer (some ⟨w.heap.size,0,none⟩),.int .i64 0,.int .i64 (m:Int),.bool false,.bool false,.int .i64 (m:Int),.bool false,.bool false,.bool false,.int .i64 (b:Int),.bool true,.bool false,.bool false,undef,undef,undef,undef,undef,undef,undef,undef,undef,undef,undef],[]⟩ W.drew:=
     ⟨false,false,false,false,false,false,false,false,false,false,false,false,_,_,_,_,_,_,_,_,_,_,_,_,_,_,_,_,rfl,rfl,am B1.out 1,R1.out.drew,(fun e=>by cases e),(fun e=>by cases e),(fun e=>by cases e),(fun e=>by cases e),(fun e=>by cases e),(fun e=>by cases e),(fun e=>by cases e),(fun e=>by cases e),(fun e=>by cases e),(fun e=>by cases e),(fun e=>by cases e),(fun e=>by cases e),(fun e=>by cases e),(fun e=>by cases e),(fun e=>by cases e),(fun e=>by cases e),(fun e=>by cases e),(fun e=>by cases e),(fun e=>by cases e)⟩
    refine eq (by kernel_rfl) (sH m b r L1 L2 w) HI0 ?_ ?_
    ·rintro l a wr ⟨b0,b1,b2,b3,b4,b5,b6,b7,b8,b9,b10,b11,y2,y3,x17,x18,x19,x20,x21,x22,x23,x24,x25,x26,x27,s0,s1,s2,rfl,rfl,hB,hZ,f_s0,f_s1,f_s2,t1,t3,t7,t8,t9,t10,q0,q1,q2,q3,q4,q5,q6,q7,q8,q9⟩ k hi K hK
     have hlt:=jf hi
     obtain⟨hf,o,ho,ha⟩:=je hi
     clear hi
     have hlt':k<12:=hlt
     clear hlt
     rcases(show k=0\/k=1\/k=2\/k=3\/k=4\/k=5\/k=6\/k=7\/k=8\/k=9\/k=10\/k=11 by omega) with rfl|rfl|rfl|rfl|rfl|rfl|rfl|rfl|rfl|rfl|rfl|rfl
     ·obtain rfl:=Option.some.inj ho
      simp[Region.binds] at ha hf
      clear ha ho hlt'
      refine ak rfl rfl ?_
      go_simp
      refine hK _ _ ⟨true,b1,b2,b3,b4,b5,b6,b7,b8,b9,b10,b11,_,_,_,_,_,_,_,_,_,_,_,_,_,_,_,_,rfl,rfl,hB,hZ,f_s0,f_s1,f_s2,(fun e=>rfl),t3,t7,t8,t9,t10,(fun _=>rfl),q1,(by first|exact q2|exact fun _=>rfl),q3,(by first|exact q4|exact fun _=>rfl),(by first|exact q5|exact fun _=>rfl),(by first|exact q6|exact fun _=>rfl),(by first|exact q7|exact fun _=>rfl),(by first|exact q8|exact fun _=>rfl),(by first|exact q9|exact fun _=>rfl)⟩
     ·obtain rfl:=Option.some.inj ho
      simp[Region.binds] at ha hf
      have d0:b0=true:=by simp_all
      have D0:=aa d0
      have x:=q0 d0
      subst x
      clear ha ho hlt'
      refine ak rfl rfl ?_
      go_simp
      have ho':=lm (W:=wr) (e:=5) (base:=w.heap.size+1) hl1.out (by have:=hB.size;have:=hZ.lt;omega:w.heap.size+1<=wr.heap.size) hm
      have hb':=ag wr (.cells L1.toArray 5)
      refine hK _ _ ⟨b0,true,b2,b3,b4,b5,b6,b7,b8,b9,b10,b11,_,_,_,_,_,_,_,_,_,_,_,_,_,_,_,_,rfl,rfl,(hB.trans (hb'.mono hB.size)),(hZ.call hb'),(fun e=>by have:=t10 e;simp_all),f_s1,f_s2,(fun _=>D0.out),t3,t7,t8,(fun e=>⟨rfl,(t9 e).2.1,(t9 e).2.2⟩),t10,(fun _=>rfl),(fun _=>ho'),(by first|exact q2|exact fun _=>rfl),(fun e=>bZ (q3 e) hb'),(by first|exact q4|exact fun _=>rfl),(by first|exact q5|exact fun _=>rfl),(by first|exact q6|exact fun _=>rfl),(by first|exact q7|exact fun _=>rfl),(by first|exact q8|exact fun _=>rfl),(fun e=>by have:=t9 e;simp_all)⟩
     ·obtain rfl:=Option.some.inj ho
      simp[Region.binds] at ha hf
      clear ha ho hlt'
      refine ak rfl rfl ?_
      go_simp
      refine hK _ _ ⟨b0,b1,true,b3,b4,b5,b6,b7,b8,b9,b10,b11,_,_,_,_,_,_,_,_,_,_,_,_,_,_,_,_,rfl,rfl,hB,hZ,f_s0,f_s1,f_s2,t1,(fun e=>rfl),t7,t8,t9,t10,(by first|exact q0|exact fun _=>rfl),q1,(fun _=>rfl),q3,(by first|exact q4|exact fun _=>rfl),(by first|exact q5|exact fun _=>rfl),(by first|exact q6|exact fun _=>rfl),(by first|exact q7|exact fun _=>rfl),(by first|exact q8|exact fun _=>rfl),(by first|exact q9|exact fun _=>rfl)⟩
     ·obtain rfl:=Option.some.inj ho
      simp[Region.binds] at ha hf
      have d2:b2=true:=by simp_all
      have D2:=aa d2
      have x:=q2 d2
      subst x
      clear ha ho hlt'
      refine ak rfl rfl ?_
      go_simp
      have ho':=lm (W:=wr) (e:=4) (base:=w.heap.size+1) hl2.out (by have:=hB.size;have:=hZ.lt;omega:w.heap.size+1<=wr.heap.size) hm
      have hb':=ag wr (.cells L2.toArray 4)
      refine hK _ _ ⟨b0,b1,b2,true,b4,b5,b6,b7,b8,b9,b10,b11,_,_,_,_,_,_,_,_,_,_,_,_,_,_,_,_,rfl,rfl,(hB.trans (hb'.mono hB.size)),(hZ.call hb'),f_s0,(fun e=>by have:=t10 e;simp_all),f_s2,t1,(fun _=>D2.out),t7,t8,(fun e=>⟨(t9 e).1,rfl,(t9 e).2.2⟩),t10,(by first|exact q0|exact fun _=>rfl),(fun e=>bZ (q1 e) hb'),(fun _=>rfl),(fun _=>ho'),(by first|exact q4|exact fun _=>rfl),(by first|exact q5|exact fun _=>rfl),(by first|exact q6|exact fun _=>rfl),(by first|exact q7|exact fun _=>rfl),(by first|exact q8|exact fun _=>rfl),(fun e=>by have:=t9 e;simp_all)⟩
     ·obtain rfl:=Option.some.inj ho
      simp[Region.binds] at ha hf
      clear ha ho hlt'
      refine ak rfl rfl ?_
      go_simp
      refine hK _ _ ⟨b0,b1,b2,b3,true,b5,b6,b7,b8,b9,b10,b11,_,_,_,_,_,_,_,_,_,_,_,_,_,_,_,_,rfl,rfl,hB,hZ,f_s0,f_s1,f_s2,t1,t3,t7,(fun e=>⟨rfl,(t8 e).2⟩),t9,t10,(by first|exact q0|exact fun _=>rfl),q1,(by first|exact q2|exact fun _=>rfl),q3,(fun _=>rfl),(by first|exact q5|exact fun _=>rfl),(by first|exact q6|exact fun _=>rfl),(by first|exact q7|exact fun _=>rfl),(by first|exact q8|exact fun _=>rfl),(by first|exact q9|exact fun _=>rfl)⟩
     ·obtain rfl:=Option.some.inj ho
      simp[Region.binds] at ha hf
      clear ha ho hlt'
      refine ak rfl rfl ?_
      go_simp
      refine hK _ _ ⟨b0,b1,b2,b3,b4,true,b6,b7,b8,b9,b10,b11,_,_,_,_,_,_,_,_,_,_,_,_,_,_,_,_,rfl,rfl,hB,hZ,f_s0,f_s1,f_s2,t1,t3,(fun e=>⟨rfl,(t7 e).2⟩),t8,t9,t10,(by first|exact q0|exact fun _=>rfl),q1,(by first|exact q2|exact fun _=>rfl),q3,(by first|exact q4|exact fun _=>rfl),(fun _=>rfl),(by first|exact q6|exact fun _=>rfl),(by first|exact q7|exact fun _=>rfl),(by first|exact q8|exact fun _=>rfl),(by first|exact q9|exact fun _=>rfl)⟩
     ·obtain rfl:=Option.some.inj ho
      simp[Region.binds] at ha hf
      clear ha ho hlt'
      refine ak rfl rfl ?_
      go_simp
      refine hK _ _ ⟨b0,b1,b2,b3,b4,b5,true,b7,b8,b9,b10,b11,_,_,_,_,_,_,_,_,_,_,_,_,_,_,_,_,rfl,rfl,hB,hZ,f_s0,f_s1,f_s2,t1,t3,(fun e=>⟨(t7 e).1,rfl⟩),t8,t9,t10,(by first|exact q0|exact fun _=>rfl),q1,(by first|exact q2|exact fun _=>rfl),q3,(by first|exact q4|exact fun _=>rfl),(by first|exact q5|exact fun _=>rfl),(fun _=>rfl),(by first|exact q7|exact fun _=>rfl),(by first|exact q8|exact fun _=>rfl),(by first|exact q9|exact fun _=>rfl)⟩
     ·obtain rfl:=Option.some.inj ho
      simp[Region.binds] at ha hf
      have d5:b5=true:=by simp_all
      have d6:b6=true:=by simp_all
      have D5:=aa d5
      have D6:=aa d6
      have x:=q6 d6
      subst x
      have x:=q5 d5
      subst x
      clear ha ho hlt'
      refine ak rfl rfl ?_
      go_simp
      refine hK _ _ ⟨b0,b1,b2,b3,b4,b5,b6,true,b8,b9,b10,b11,_,_,_,_,_,_,_,_,_,_,_,_,_,_,_,_,rfl,rfl,hB,hZ,f_s0,f_s1,f_s2,t1,t3,(fun _=>⟨D5.out,D6.out⟩),(fun e=>⟨(t8 e).1,rfl⟩),t9,t10,(by first|exact q0|exact fun _=>rfl),q1,(by first|exact q2|exact fun _=>rfl),q3,(by first|exact q4|exact fun _=>rfl),(fun _=>rfl),(fun _=>rfl),(fun _=>rfl),(by first|exact q8|exact fun _=>rfl),(by first|exact q9|exact fun _=>rfl)⟩
     ·obtain rfl:=Option.some.inj ho
      simp[Region.binds] at ha hf
      have d4:b4=true:=by simp_all
      have d7:b7=true:=by simp_all
      have D4:=aa d4
      have D7:=aa d7
      have x:=q7 d7
      subst x
      have x:=q4 d4
      subst x
      clear ha ho hlt'
      refine ak rfl rfl ?_
      go_simp
      rw[hwr.out]
      refine hK _ _ ⟨b0,b1,b2,b3,b4,b5,b6,b7,true,b9,b10,b11,_,_,_,_,_,_,_,_,_,_,_,_,_,_,_,_,rfl,rfl,hB,hZ,f_s0,f_s1,f_s2,t1,t3,t7,(fun _=>⟨D4.out,D7.out⟩),(fun e=>⟨(t9 e).1,(t9 e).2.1,rfl⟩),t10,(by first|exact q0|exact fun _=>rfl),q1,(by first|exact q2|exact fun _=>rfl),q3,(fun _=>rfl),(by first|exact q5|exact fun _=>rfl),(by first|exact q6|exact fun _=>rfl),(fun _=>rfl),(fun _=>rfl),(by first|exact q9|exact fun _=>rfl)⟩
     ·obtain rfl:=Option.some.inj ho
      simp[Region.binds] at ha hf
      have d1:b1=true:=by simp_all
      have d3:b3=true:=by simp_all
      have d8:b8=true:=by simp_all
      have D1:=aa d1
      have D3:=aa d3
      have D8:=aa d8
      have x:=q8 d8
      subst x
      have o1:=q1 d1
      have o3:=q3 d3
      obtain⟨a5,k5,rfl,-,-⟩:=bX o1
      obtain⟨a8,k8,rfl,-,-⟩:=bX o3
      clear ha ho hlt'
      refine ak rfl rfl ?_
      go_simp
      refine hK _ _ ⟨b0,b1,b2,b3,b4,b5,b6,b7,b8,true,b10,b11,_,_,_,_,_,_,_,_,_,_,_,_,_,_,_,_,rfl,rfl,hB,hZ,f_s0,f_s1,f_s2,t1,t3,t7,t8,(fun _=>⟨D1.out,D3.out,D8.out⟩),(fun e=>rfl),(by first|exact q0|exact fun _=>rfl),q1,(by first|exact q2|exact fun _=>rfl),q3,(by first|exact q4|exact fun _=>rfl),(by first|exact q5|exact fun _=>rfl),(by first|exact q6|exact fun _=>rfl),(by first|exact q7|exact fun _=>rfl),(fun _=>rfl),(fun _=>rfl)⟩
     ·obtain rfl:=Option.some.inj ho
      simp[Region.binds] at ha hf
      have d9:b9=true:=by simp_all
      have D9:=aa d9
      have x:=q9 d9
      subst x
      have o2:=q1 (t9 (by simp_all)).1
      have o5:=q3 (t9 (by simp_all)).2.1
      obtain⟨a5,k5,rfl,-,-⟩:=bX o2
      obtain⟨a8,k8,rfl,-,-⟩:=bX o5
      have z0:=hZ.cell (k:=0) rfl
      have z1:=hZ.cell (k:=1) rfl
      have z2:=hZ.cell (k:=2) rfl
      have y0:=hZ.free 0
      have y1:=hZ.free 1
      have y2:=hZ.free 2
      clear ha ho hlt'
      refine ak rfl rfl ?_
      go_simp
      refine hK _ _ ⟨b0,b1,b2,b3,b4,b5,b6,b7,b8,b9,true,b11,_,_,_,_,_,_,_,_,_,_,_,_,_,_,_,_,rfl,rfl,(ig hB (Nat.le_refl _)),(((hZ.set_ 0 _).set_ 1 _).set_ 2 _),(fun _=>rfl),(fun _=>rfl),(fun _=>rfl),t1,t3,t7,t8,t9,(fun _=>D9.out),(by first|exact q0|exact fun _=>rfl),(fun e=>it (q1 e) (by omega)),(by first|exact q2|exact fun _=>rfl),(fun e=>it (q3 e) (by omega)),(by first|exact q4|exact fun _=>rfl),(by first|exact q5|exact fun _=>rfl),(by first|exact q6|exact fun _=>rfl),(by first|exact q7|exact fun _=>rfl),(by first|exact q8|exact fun _=>rfl),(fun _=>rfl)⟩
     ·obtain rfl:=Option.some.inj ho
      simp[Region.binds] at ha hf
      clear ha ho hlt'
      refine ak rfl rfl ?_
      go_simp
      refine hK _ _ ⟨b0,b1,b2,b3,b4,b5,b6,b7,b8,b9,b10,true,_,_,_,_,_,_,_,_,_,_,_,_,_,_,_,_,rfl,rfl,hB,hZ,f_s0,f_s1,f_s2,t1,t3,t7,t8,t9,t10,(by first|exact q0|exact fun _=>rfl),q1,(by first|exact q2|exact fun _=>rfl),q3,(by first|exact q4|exact fun _=>rfl),(by first|exact q5|exact fun _=>rfl),(by first|exact q6|exact fun _=>rfl),(by first|exact q7|exact fun _=>rfl),(by first|exact q8|exact fun _=>rfl),(by first|exact q9|exact fun _=>rfl)⟩
    ·rintro l a wr ⟨b0,b1,b2,b3,b4,b5,b6,b7,b8,b9,b10,b11,y2,y3,x17,x18,x19,x20,x21,x22,x23,x24,x25,x26,x27,s0,s1,s2,rfl,rfl,hB,hZ,f_s0,f_s1,f_s2,t1,t3,t7,t8,t9,t10,q0,q1,q2,q3,q4,q5,q6,q7,q8,q9⟩ hr
     have u0:b0=true:=by
      cases hb:b0 with
      | true=>rfl
      | false=>exact(aF hr (i:=0) rfl hb (by simp[Region.binds])).elim
     have u1:b1=true:=by
      cases hb:b1 with
      | true=>rfl
      | false=>exact(aF hr (i:=1) rfl hb (by simp[Region.binds,u0])).elim
     have u2:b2=true:=by
      cases hb:b2 with
      | true=>rfl
      | false=>exact(aF hr (i:=2) rfl hb (by simp[Region.binds,u0,u1])).elim
     have u3:b3=true:=by
      cases hb:b3 with
      | true=>rfl
      | false=>exact(aF hr (i:=3) rfl hb (by simp[Region.binds,u0,u1,u2])).elim
     have u4:b4=true:=by
      cases hb:b4 with
      | true=>rfl
      | false=>exact(aF hr (i:=4) rfl hb (by simp[Region.binds,u0,u1,u2,u3])).elim
     have u5:b5=true:=by
      cases hb:b5 with
      | true=>rfl
      | false=>exact(aF hr (i:=5) rfl hb (by simp[Region.binds,u0,u1,u2,u3,u4])).elim
     have u6:b6=true:=by
      cases hb:b6 with
      | true=>rfl
      | false=>exact(aF hr (i:=6) rfl hb (by simp[Region.binds,u0,u1,u2,u3,u4,u5])).elim
     have u7:b7=true:=by
      cases hb:b7 with
      | true=>rfl
      | false=>exact(aF hr (i:=7) rfl hb (by simp[Region.binds,u0,u1,u2,u3,u4,u5,u6])).elim
     have u8:b8=true:=by
      cases hb:b8 with
      | true=>rfl
      | false=>exact(aF hr (i:=8) rfl hb (by simp[Region.binds,u0,u1,u2,u3,u4,u5,u6,u7])).elim
     have u9:b9=true:=by
      cases hb:b9 with
      | true=>rfl
      | false=>exact(aF hr (i:=9) rfl hb (by simp[Region.binds,u0,u1,u2,u3,u4,u5,u6,u7,u8])).elim
     have u10:b10=true:=by
      cases hb:b10 with
      | true=>rfl
      | false=>exact(aF hr (i:=10) rfl hb (by simp[Region.binds,u0,u1,u2,u3,u4,u5,u6,u7,u8,u9])).elim
     have u11:b11=true:=by
      cases hb:b11 with
      | true=>rfl
      | false=>exact(aF hr (i:=11) rfl hb (by simp[Region.binds,u0,u1,u2,u3,u4,u5,u6,u7,u8,u9,u10])).elim
     clear hr
     obtain rfl:=q9 u9
     obtain rfl:=q8 u8
     obtain rfl:=q7 u7
     obtain rfl:=q6 u6
     obtain rfl:=q5 u5
     obtain rfl:=q4 u4
     have o3:=q3 u3
     obtain rfl:=q2 u2
     have o1:=q1 u1
     obtain rfl:=q0 u0
     obtain rfl:=f_s0 u10
     obtain rfl:=f_s1 u10
     obtain rfl:=f_s2 u10
     clear q0 q1 q2 q3 q4 q5 q6 q7 q8 q9 f_s0 f_s1 f_s2 t1 t3 t7 t8 t9 t10 u0 u1 u2 u3 u4 u5 u6 u7 u8 u9 u10 u11
     obtain⟨a5,k5,rfl,-,-⟩:=bX o1
     obtain⟨a8,k8,rfl,-,-⟩:=bX o3
     have z0:=hZ.cell (k:=0) rfl
     have z1:=hZ.cell (k:=1) rfl
     have z2:=hZ.cell (k:=2) rfl
     go_wp2_with fail
     refine bodyPost_ret (v:=.tuple #[kv a5 m k5 a8 m k8 ((m:Int)-(r:Int)),.int .i64 0]) (by simp[results,Tryz.results30,go_sem,z0,z1,z2]) rfl ?_
     have hown:StkOwn wr (w.heap.size+1) a5 k5 a8 k8 (bg m (m-r)) 5 4:=⟨j3 hm (by omega),by rw[HL1.out];simpa[bg] using o1,by rw[HL2.out];simpa[bg] using o3⟩
     exact⟨a5,k5,a8,k8,by rw[s7 _ _ _ _ hrm],hown.at_,hB,fun _=>⟨fG hown.o1 (by omega),fG hown.o2 (by omega)⟩⟩
  ·have bad:=aa (bad (by omega))
   go_enter Tryz.func30,Tryz.ntmps30
   go_upto_region 1 with(fail)
   rw[HW.out]
   go_wp2_with fail
   exact bodyPost_ret (v:=.tuple #[kv none 0 0 none 0 0 0,.int .i64 4]) (by simp[results,Tryz.results30,go_sem,v0,v1,v2]) rfl (bad.out _ _ rfl B2.out)
 ·have bad:=aa (bad (by omega))
  go_enter Tryz.func30,Tryz.ntmps30
  go_upto_region 1 with(fail)
  rw[HW.out]
  go_wp2_with fail
  exact bodyPost_ret (v:=.tuple #[kv none 0 0 none 0 0 0,.int .i64 4]) (by simp[results,Tryz.results30,go_sem,v0,v1,v2]) rfl (bad.out _ _ rfl B2.out)
end Go.Proofs.YtjbgepjdohfhkaaGreat
