/- The reference's CheckInstr (chapter 10) at an instruction that there is, in a frame of a right shape. Conditions: those of the types. -/
import Derived.Test.YtjbgepjdohfhkaaGreatMQopd
import Derived.Test.YtjbgepjdohfhkaaGreatMMoper
set_option linter.unusedVariables false
set_option linter.unusedSimpArgs false
set_option maxRecDepth 100000
set_option maxHeartbeats 4000000
namespace Go.Proofs.YtjbgepjdohfhkaaGreat
open Go.RowKit
theorem toA (Al:Int) (A:Option Addr) (n c:Nat) (hs:List Fd) (F:Tg) (lo B i k:Nat) (f:Fm) (x:Ins) (w:World) (H:Hid (TgAt w lo B A n c hs F)) (hB:B<=w.heap.size) (hf:Hid (F[i]?=some f)) (hx:Hid (f.code[k]?=some x)) (hsh:Hid (shB Al f=true)) (HX:Hid (exB x.op=true)) (HU:Hid (muA x.op=true/\muB x.op=false/\muC x.op=false/\muI x.op=true)) :
  Calls Tryz.prog 70 #[tv Al A n c,.int .i64 (i:Int),.int .i64 (k:Int)] w fun e w'=>e=.returned (.int .i64 (aC n f x))/\Below w.heap.size w w':=by
 have hin:i<n:=by rw[<-H.out.len];exact(List.getElem?_eq_some_iff.1 hf.out).1
 obtain⟨b,off,P,S,A1,n1,c1,f',rfl,hb,e1,hh,h,p0,p1,p2⟩:=dk H.out hin
 obtain rfl:f'=f:=by rw[hf.out] at e1;injection e1 with e1;exact e1.symm
 clear e1 hh
 have hn:=H.out.cap.2.2
 have HL:=aa (show f'.code.length=n1 from h.l)
 have HP:=aa (show P=f'.params from h.p)
 have HS:=aa (show S=f'.size from h.s)
 have hn1:n1<=8796093022208:=h.k.2.2
 have hkl:k<f'.code.length:=(List.getElem?_eq_some_iff.1 hx.out).1
 have hk:k<n1:=by have:=HL.out;omega
 obtain⟨bb,oo,hA1,hbb,x0,x1,x2,x3,x4⟩:=ee h.c hkl
 simp only at hA1
 subst hA1
 have hxe:f'.code[k]=x:=by have:=hx.out;rw[List.getElem?_eq_getElem hkl] at this;injection this
 rw[hxe] at x0 x1 x2 x3 x4
 obtain⟨o,a,b',d,m⟩:=x
 simp only at x0 x1 x2 x3 x4
 have hbs:=iH hsh.out
 rw[<-HP.out,<-HS.out] at hbs
 obtain⟨⟨P0,P1⟩,S0,S1⟩:=hbs
 have hbw:b<w.heap.size:=by omega
 have hbbw:bb<w.heap.size:=by omega
 have hb1:=ag w (.cells #[.int .i64 Al,.slice (some ⟨b,off,none⟩) n c] 26)
 have R0:=Row.new w 26 [.int .i64 Al,.slice (some ⟨b,off,none⟩) n c]
 obtain⟨W1,hW1⟩:∃V,w.alloc (.cells #[.int .i64 Al,.slice (some ⟨b,off,none⟩) n c] 26)=V:=⟨_,rfl⟩
 rw[show([.int .i64 Al,.slice (some ⟨b,off,none⟩) n c]:List Value).toArray=#[.int .i64 Al,.slice (some ⟨b,off,none⟩) n c] from rfl,hW1] at R0
 rw[hW1] at hb1
 have q0:=(hb1.cell (p:=⟨b,off+i*3,none⟩) hbw).trans p0
 have q1:=(hb1.cell (p:=⟨b,off+i*3+1,none⟩) hbw).trans p1
 have q2:=(hb1.cell (p:=⟨b,off+i*3+2,none⟩) hbw).trans p2
 have y0:=(hb1.cell (p:=⟨bb,oo+k*5,none⟩) hbbw).trans x0
 have y1:=(hb1.cell (p:=⟨bb,oo+k*5+1,none⟩) hbbw).trans x1
 have y2:=(hb1.cell (p:=⟨bb,oo+k*5+2,none⟩) hbbw).trans x2
 have y3:=(hb1.cell (p:=⟨bb,oo+k*5+3,none⟩) hbbw).trans x3
 have y4:=(hb1.cell (p:=⟨bb,oo+k*5+4,none⟩) hbbw).trans x4
 have t0:=R0.cell (k:=0) rfl
 have t1:=R0.cell (k:=1) rfl
 have HW1:=aa hW1
 have HB1:=aa hb1
 have HR0:=aa R0
 have hiz:(0:Int)<=(i:Int):=by omega
 have hiz':(i:Int)<(n:Int):=by omega
 have hkz:(0:Int)<=(k:Int):=by omega
 have hkz':(k:Int)<(n1:Int):=by omega
 have t0':=af t0
 have t1':=af t1
 have q0':=af q0
 have q1':=af q1
 have q2':=af q2
 have y0':=af y0
 have y1':=af y1
 have y2':=af y2
 have y3':=af y3
 have y4':=af y4
 have cw1:∀p:After W1,Calls Tryz.prog 68 #[.int .i64 (i:Int),.int .i64 (n:Int)] p.w fun e w'=>e=.returned (.bool true)/\p.w=w':=fun p=>by
  have:=az (i:Int) (n:Int) p.w;rwa[ai.2 ⟨by omega,by omega⟩] at this
 have cw2:∀p:After W1,Calls Tryz.prog 68 #[.int .i64 (k:Int),.int .i64 (n1:Int)] p.w fun e w'=>e=.returned (.bool true)/\p.w=w':=fun p=>by
  have:=az (k:Int) (n1:Int) p.w;rwa[ai.2 ⟨by omega,by omega⟩] at this
 have cw3:∀p:After W1,Calls Tryz.prog 69 #[tv Al (some ⟨b,off,none⟩) n c,mv P S (some ⟨bb,oo,none⟩) n1 c1] p.w fun e w'=>e=.returned (.bool true)/\Below p.w.heap.size p.w w':=fun p=>by
  have:=dv Al (some ⟨b,off,none⟩) n c P S (some ⟨bb,oo,none⟩) n1 c1 f' p.w (aa ⟨HP.out.symm,HS.out.symm⟩);rwa[hsh.out] at this
 have K1:=aa cw1
 have K2:=aa cw2
 have K3:=aa cw3
 clear hW1 hb1 R0 p0 p1 p2 x0 x1 x2 x3 x4 h cw1 cw2 cw3 hxe
 go_enter Tryz.func70,Tryz.ntmps70
 go_upto_region 1 with(fail)
 rw[HW1.out]
 clear HW1
 refine aJ (by kernel_rfl) (by kernel_rfl) ?_
 repeat(go_big_quiet_step ((first
  | (go_at_call 68;with_reducible exact cI (K1.out _))
  | (go_at_call 68;with_reducible exact cI (K2.out _))
  | (go_at_call 69;with_reducible exact bO (K3.out _)))))
 refine wpQuiet_nil ?_
 intro _ hw'
 obtain⟨p1,hw''⟩:=hw'
 subst hw''
 clear K1 K2 K3
 have HBP:=aa (HB1.out.trans (p1.b.mono HB1.out.size))
 have RP:=aa (HR0.out.call p1.b)
 have t0:=t0' p1
 have t1:=t1' p1
 have q0:=q0' p1
 have q1:=q1' p1
 have q2:=q2' p1
 have y0:=y0' p1
 have y1:=y1' p1
 have y2:=y2' p1
 have y3:=y3' p1
 have y4:=y4' p1
 clear t0' t1' q0' q1' q2' y0' y1' y2' y3' y4' HB1 HR0
 obtain⟨W2,hW2⟩:∃V,p1.w=V:=⟨_,rfl⟩
 rw[hW2] at HBP RP t0 t1 q0 q1 q2 y0 y1 y2 y3 y4⊢
 clear hW2
 go_upto_region 4 with(fail)
 have hl2:w.heap.size<W2.heap.size:=RP.out.lt
 have hbb2:bb<W2.heap.size:=by have:=HBP.out.size;omega
 obtain⟨W3,hW3⟩:∃V,W2.alloc (.cells #[.int .i64 P,.int .i64 S,.slice (some ⟨bb,oo,none⟩) n1 c1] 53)=V:=⟨_,rfl⟩
 have RF3:=aa (show Row W3 W2.heap.size 53 [.int .i64 P,.int .i64 S,.slice (some ⟨bb,oo,none⟩) n1 c1] by rw[<-hW3];exact Row.new W2 _ _)
 have RT3:=aa (show Row W3 w.heap.size 26 [.int .i64 Al,.slice (some ⟨b,off,none⟩) n c] by rw[<-hW3];exact RP.out.alloc _)
 have HB3:=aa (show Below w.heap.size w W3 by rw[<-hW3];exact HBP.out.alloc HBP.out.size _)
 have y0:W3.cell? ⟨bb,oo+k*5,none⟩=some (.int .i64 o):=by rw[<-hW3];exact((ag W2 _).cell (p:=⟨bb,oo+k*5,none⟩) hbb2).trans y0
 have y1:W3.cell? ⟨bb,oo+k*5+1,none⟩=some (.int .i64 a):=by rw[<-hW3];exact((ag W2 _).cell (p:=⟨bb,oo+k*5+1,none⟩) hbb2).trans y1
 have y2:W3.cell? ⟨bb,oo+k*5+2,none⟩=some (.int .i64 b'):=by rw[<-hW3];exact((ag W2 _).cell (p:=⟨bb,oo+k*5+2,none⟩) hbb2).trans y2
 have y3:W3.cell? ⟨bb,oo+k*5+3,none⟩=some (.int .i64 d):=by rw[<-hW3];exact((ag W2 _).cell (p:=⟨bb,oo+k*5+3,none⟩) hbb2).trans y3
 have y4:W3.cell? ⟨bb,oo+k*5+4,none⟩=some (.int .u64 m):=by rw[<-hW3];exact((ag W2 _).cell (p:=⟨bb,oo+k*5+4,none⟩) hbb2).trans y4
 rw[hW3]
 obtain⟨gf,hgf⟩:∃g,W2.heap.size=g:=⟨_,rfl⟩
 rw[hgf] at RF3⊢
 have g2:=RF3.out.cell (k:=2) rfl
 clear hW3 hgf RP HBP q0 q1 q2 t0 t1 hl2 hbb2
 go_upto_region 5 with(fail)
 obtain⟨W4,hW4⟩:∃V,W3.alloc (.cells #[.int .i64 o,.int .i64 a,.int .i64 b',.int .i64 d,.int .u64 m] 50)=V:=⟨_,rfl⟩
 have RX4:=aa (show Row W4 W3.heap.size 50 [.int .i64 o,.int .i64 a,.int .i64 b',.int .i64 d,.int .u64 m] by rw[<-hW4];exact Row.new W3 _ _)
 have RF4:=aa (show Row W4 gf 53 [.int .i64 P,.int .i64 S,.slice (some ⟨bb,oo,none⟩) n1 c1] by rw[<-hW4];exact RF3.out.alloc _)
 have RT4:=aa (show Row W4 w.heap.size 26 [.int .i64 Al,.slice (some ⟨b,off,none⟩) n c] by rw[<-hW4];exact RT3.out.alloc _)
 have HB4:=aa (show Below w.heap.size w W4 by rw[<-hW4];exact HB3.out.alloc HB3.out.size _)
 rw[hW4]
 obtain⟨gx,hgx⟩:∃g,W3.heap.size=g:=⟨_,rfl⟩
 rw[hgx] at RX4⊢
 clear hW4 hgx y0 y1 y2 y3 y4 g2 RF3 RT3 HB3
 have z0:=RX4.out.cell (k:=0) rfl
 have cw:=az o 25
 have hex:exB o=true:=HX.out
 have hwo:ax o 25=true:=by have h:=hex;unfold exB at h;simp only[Bool.and_eq_true] at h;exact h.1
 have h18:o≠18:=by rintro rfl;exact absurd hex (by decide)
 have h19:o≠19:=by rintro rfl;exact absurd hex (by decide)
 rw[hwo] at cw
 have b18:(o==18)=false:=by simpa using h18
 have b19:(o==19)=false:=by simpa using h19
 have ho:=ai.1 hwo
 obtain⟨m1,m2,m3,m4⟩:=HU.out
 simp only at m1 m2 m3 m4
 have HO:=aa (fS (N:=n) (f:=f') (x:=⟨o,a,b',d,m⟩) hex (by rw[<-HP.out];exact P0) (by rw[<-HS.out];exact S0))
 have HR:Hid (aC n f' ⟨o,a,b',d,m⟩=if ep ⟨o,a,b',d,m⟩=true then 2 else if bM n ⟨o,a,b',d,m⟩=false then 4 else if(dK o&&!szB d)=true then 5 else if(rdB o&&!a9 (rdI ⟨o,a,b',d,m⟩).1 (rdI ⟨o,a,b',d,m⟩).2 (S+16*P))=true then 4 else if(wrB o&&!a9 (wrI ⟨o,a,b',d,m⟩).1 (wrI ⟨o,a,b',d,m⟩).2 S)=true then 4 else if eo n1 ⟨o,a,b',d,m⟩=true then 6 else 0):=by
  show aC n f' ⟨o,a,b',d,m⟩=_
  rw[HO.out,HP.out,HS.out,HL.out]
 have co:∀W,Calls Tryz.prog 105 #[.int .i64 o] W fun e w'=>e=.returned (.tuple #[.bool true,.bool false,.bool false,.bool true])/\W=w':=fun W=>by
  have h:=gH o W ho.1 ho.2 hex
  rwa[m1,m2,m3,m4] at h
 have cn:=fun W=>fO Al (some ⟨b,off,none⟩) n c o a b' d m W ho.1 ho.2 hex
 have cm:=eQ o
 have cz:=eG d
 have cr:=fun W=>fN P S (some ⟨bb,oo,none⟩) n1 c1 o a b' d m W
 have cq:=fun W=>fk P S (some ⟨bb,oo,none⟩) n1 c1 o a b' d m W
 have HF:=aa (show ep ⟨o,a,b',d,m⟩=((!muA o&&a !=0)||((!muB o&&b' !=0)||((!muC o&&d !=0)||(!muI o&&m !=0)))) from rfl)
 rw[m1,m2,m3,m4] at HF
 have HTB:=aa (show eo n1 ⟨o,a,b',d,m⟩=((decide (o=20)&&!ax a n1)||(decide (o=21)&&!ax b' n1)) from rfl)
 obtain⟨fb,hfb⟩:∃v,ep ⟨o,a,b',d,m⟩=v:=⟨_,rfl⟩
 obtain⟨nb,hnb⟩:∃v,bM n ⟨o,a,b',d,m⟩=v:=⟨_,rfl⟩
 obtain⟨mb,hmb⟩:∃v,dK o=v:=⟨_,rfl⟩
 obtain⟨zb,hzb⟩:∃v,szB d=v:=⟨_,rfl⟩
 obtain⟨rb,hrb⟩:∃v,rdB o=v:=⟨_,rfl⟩
 obtain⟨wb,hwb⟩:∃v,wrB o=v:=⟨_,rfl⟩
 obtain⟨rp,hrp⟩:∃v,rdI ⟨o,a,b',d,m⟩=v:=⟨_,rfl⟩
 obtain⟨wp_,hwp⟩:∃v,wrI ⟨o,a,b',d,m⟩=v:=⟨_,rfl⟩
 obtain⟨tb,htb⟩:∃v,eo n1 ⟨o,a,b',d,m⟩=v:=⟨_,rfl⟩
 rw[hfb] at HR HF
 rw[hnb] at HR cn
 rw[hmb] at HR cm
 rw[hzb] at HR cz
 rw[hrb] at HR cr
 rw[hwb] at HR cq
 rw[hrp] at HR cr
 rw[hwp] at HR cq
 rw[htb] at HR HTB
 obtain⟨s1,s2⟩:=rp
 obtain⟨u1,u2⟩:=wp_
 simp only at HR cr cq
 have CN:=aa cn
 have CM:=aa cm
 have CZ:=aa cz
 have CR:=aa cr
 have CQ:=aa cq
 clear hwo h18 h19 hex HO hfb hnb hmb hzb hrb hwb hrp hwp htb cn cm cz cr cq ho m1 m2 m3 m4 HX HU
 have z1:=RX4.out.cell (k:=1) rfl
 have z2:=RX4.out.cell (k:=2) rfl
 have z3:=RX4.out.cell (k:=3) rfl
 have z4:=RX4.out.cell (k:=4) rfl
 go_upto_region 8 with(first|(go_at_call 68;refine(cw _).mono ?_;rintro e w' ⟨rfl,rfl⟩)|(go_at_call 105;refine(co _).mono ?_;rintro e w' ⟨rfl,rfl⟩))
 go_cut [110] (fun v wx=>v=.bool fb/\wx=W4)
 case first=>
  rcases Bool.eq_false_or_eq_true (b' !=0) with hb_|hb_
  ·go_wp2_with fail
   go_meet
   exact⟨congrArg Value.bool (by rw[HF.out];simp[hb_]),rfl⟩
  ·rcases Bool.eq_false_or_eq_true (d !=0) with hd|hd
   ·go_wp2_with fail
    go_meet
    exact⟨congrArg Value.bool (by rw[HF.out];simp[hb_,hd]),rfl⟩
   ·go_wp2_with fail
    go_meet
    exact⟨congrArg Value.bool (by rw[HF.out];simp[hb_,hd]),rfl⟩
 case rest=>
  obtain⟨rfl,rfl⟩:=hcut
  cases fb with
  | true=>
   go_wp2_with fail
   go_ret
   exact⟨aj HR.out.symm,HB4.out⟩
  | false=>
   have t0:=RT4.out.cell (k:=0) rfl
   have t1:=RT4.out.cell (k:=1) rfl
   go_wp2_with fail
   refine(CN.out _).mono ?_
   rintro e W5 ⟨rfl,hb5⟩
   have RX5:=aa (RX4.out.call hb5)
   have RF5:=aa (RF4.out.call hb5)
   have HB5:=aa (ac HB4.out hb5)
   clear hb5 t0 t1 z0 z1 z2 z3 z4 RX4 RF4 RT4 HB4
   cases nb with
   | false=>
    go_wp2_with fail
    go_ret
    exact⟨aj HR.out.symm,HB5.out⟩
   | true=>
    have z0:=RX5.out.cell (k:=0) rfl
    have z1:=RX5.out.cell (k:=1) rfl
    have z2:=RX5.out.cell (k:=2) rfl
    have z3:=RX5.out.cell (k:=3) rfl
    have z4:=RX5.out.cell (k:=4) rfl
    have f0:=RF5.out.cell (k:=0) rfl
    have f1:=RF5.out.cell (k:=1) rfl
    have f2:=RF5.out.cell (k:=2) rfl
    go_upto_region 12 with(fail)
    go_cut [123] (fun v wx=>v=.bool (mb&&!zb)/\wx=W5)
    case first=>
     cases mb with
     | false=>
      go_wp2_with fail
      refine(CM.out _).mono ?_
      rintro e w' ⟨rfl,rfl⟩
      go_wp2_with fail
      go_meet
      exact⟨rfl,rfl⟩
     | true=>
      go_wp2_with fail
      refine(CM.out _).mono ?_
      rintro e w' ⟨rfl,rfl⟩
      go_wp2_with fail
      refine(CZ.out _).mono ?_
      rintro e w' ⟨rfl,rfl⟩
      go_wp2_with fail
      go_meet
      exact⟨by first|rfl|(cases zb<;>rfl),rfl⟩
    case rest=>
     obtain⟨rfl,rfl⟩:=hcut
     generalize(mb&&!zb)=v5 at HR⊢
     cases v5 with
     | true=>
      go_wp2_with fail
      go_ret
      exact⟨aj HR.out.symm,HB5.out⟩
     | false=>
      go_upto_region 15 with(go_at_call 108;refine(CR.out _).mono ?_;rintro e W6 ⟨rfl,hb6⟩)
      obtain⟨W7,hW7⟩:∃V,W6.alloc (.cells #[.int .i64 s1,.int .i64 s2] 127)=V:=⟨_,rfl⟩
      have RX7:=aa (show Row W7 gx 50 [.int .i64 o,.int .i64 a,.int .i64 b',.int .i64 d,.int .u64 m] by rw[<-hW7];exact(RX5.out.call hb6).alloc _)
      have RF7:=aa (show Row W7 gf 53 [.int .i64 P,.int .i64 S,.slice (some ⟨bb,oo,none⟩) n1 c1] by rw[<-hW7];exact(RF5.out.call hb6).alloc _)
      have RI7:=aa (show Row W7 W6.heap.size 127 [.int .i64 s1,.int .i64 s2] by rw[<-hW7];exact Row.new W6 _ _)
      have HB7:=aa (show Below w.heap.size w W7 by rw[<-hW7];have h:=ac HB5.out hb6;exact h.alloc h.size _)
      rw[hW7]
      obtain⟨gi,hgi⟩:∃g,W6.heap.size=g:=⟨_,rfl⟩
      rw[hgi] at RI7⊢
      clear hW7 hgi hb6 z0 z1 z2 z3 z4 f0 f1 f2 RX5 RF5 HB5
      have f0:=RF7.out.cell (k:=0) rfl
      have f1:=RF7.out.cell (k:=1) rfl
      have i0:=RI7.out.cell (k:=0) rfl
      have i1:=RI7.out.cell (k:=1) rfl
      have ci:=cP s1 s2 (S+16*P)
      generalize a9 s1 s2 (S+16*P)=ib at ci HR
      go_cut [141] (fun v wx=>v=.bool (rb&&!ib)/\Hid (Below W7.heap.size W7 wx))
      case first=>
       cases rb with
       | false=>
        go_wp2_with fail
        go_meet
        exact⟨rfl,aa (Below.refl _ _)⟩
       | true=>
        go_wp2_with fail
        refine(ci _).mono ?_
        rintro e w' ⟨rfl,hb⟩
        go_wp2_with fail
        go_meet
        exact⟨by first|rfl|(cases ib<;>rfl),aa hb⟩
      case rest=>
       obtain⟨rfl,hbc⟩:=hcut
       generalize(rb&&!ib)=v6 at HR⊢
       have HB8:=aa (ac HB7.out hbc.out)
       have RX8:=aa (RX7.out.call hbc.out)
       have RF8:=aa (RF7.out.call hbc.out)
       clear f0 f1 i0 i1 ci RX7 RF7 RI7 HB7 hbc
       cases v6 with
       | true=>
        go_wp2_with fail
        go_ret
        exact⟨aj HR.out.symm,HB8.out⟩
       | false=>
        have z0:=RX8.out.cell (k:=0) rfl
        have z1:=RX8.out.cell (k:=1) rfl
        have z2:=RX8.out.cell (k:=2) rfl
        have z3:=RX8.out.cell (k:=3) rfl
        have z4:=RX8.out.cell (k:=4) rfl
        have f0:=RF8.out.cell (k:=0) rfl
        have f1:=RF8.out.cell (k:=1) rfl
        have f2:=RF8.out.cell (k:=2) rfl
        go_upto_region 18 with(go_at_call 109;refine(CQ.out _).mono ?_;rintro e W9 ⟨rfl,hb9⟩)
        obtain⟨W10,hW10⟩:∃V,W9.alloc (.cells #[.int .i64 u1,.int .i64 u2] 127)=V:=⟨_,rfl⟩
        have RX10:=aa (show Row W10 gx 50 [.int .i64 o,.int .i64 a,.int .i64 b',.int .i64 d,.int .u64 m] by rw[<-hW10];exact(RX8.out.call hb9).alloc _)
        have RF10:=aa (show Row W10 gf 53 [.int .i64 P,.int .i64 S,.slice (some ⟨bb,oo,none⟩) n1 c1] by rw[<-hW10];exact(RF8.out.call hb9).alloc _)
        have RI10:=aa (show Row W10 W9.heap.size 127 [.int .i64 u1,.int .i64 u2] by rw[<-hW10];exact Row.new W9 _ _)
        have HB10:=aa (show Below w.heap.size w W10 by rw[<-hW10];have h:=ac HB8.out hb9;exact h.alloc h.size _)
        rw[hW10]
        obtain⟨gj,hgj⟩:∃g,W9.heap.size=g:=⟨_,rfl⟩
        rw[hgj] at RI10⊢
        clear hW10 hgj hb9 z0 z1 z2 z3 z4 f0 f1 f2 RX8 RF8 HB8
        have f1:=RF10.out.cell (k:=1) rfl
        have i0:=RI10.out.cell (k:=0) rfl
        have i1:=RI10.out.cell (k:=1) rfl
        have ci:=cP u1 u2 S
        generalize a9 u1 u2 S=ib at ci HR
        go_cut [155] (fun v wx=>v=.bool (wb&&!ib)/\Hid (Below W10.heap.size W10 wx))
        case first=>
         cases wb with
         | false=>
          go_wp2_with fail
          go_meet
          exact⟨rfl,aa (Below.refl _ _)⟩
         | true=>
          go_wp2_with fail
          refine(ci _).mono ?_
          rintro e w' ⟨rfl,hb⟩
          go_wp2_with fail
          go_meet
          exact⟨by first|rfl|(cases ib<;>rfl),aa hb⟩
        case rest=>
         obtain⟨rfl,hbc⟩:=hcut
         generalize(wb&&!ib)=v7 at HR⊢
         have HB11:=aa (ac HB10.out hbc.out)
         have RX11:=aa (RX10.out.call hbc.out)
         have RF11:=aa (RF10.out.call hbc.out)
         clear f1 i0 i1 ci RX10 RF10 RI10 HB10 hbc
         cases v7 with
         | true=>
          go_wp2_with fail
          go_ret
          exact⟨aj HR.out.symm,HB11.out⟩
         | false=>
          have z0:=RX11.out.cell (k:=0) rfl
          have z1:=RX11.out.cell (k:=1) rfl
          have z2:=RX11.out.cell (k:=2) rfl
          have f2:=RF11.out.cell (k:=2) rfl
          have ca:=az a (n1:Int)
          have cb:=az b' (n1:Int)
          generalize ax a n1=qa at ca HTB
          generalize ax b' n1=qb at cb HTB
          by_cases h20:o=20
          ·have b20:(o==20)=true:=by simpa using h20
           have b21:(o==21)=false:=by simp;omega
           have HT2:=aa (show tb=!qa by rw[HTB.out,decide_eq_true h20,decide_eq_false (show¬o=21 by omega)];simp)
           cases qa with
           | true=>
            have HZ:=aa (show aC n f' ⟨o,a,b',d,m⟩=0 by rw[HR.out,HT2.out];rfl)
            clear h20
            go_wp2_with fail
            refine(ca _).mono ?_
            rintro e w' ⟨rfl,rfl⟩
            go_wp2_with fail
            go_ret
            exact⟨aj HZ.out.symm,HB11.out⟩
           | false=>
            have HZ:=aa (show aC n f' ⟨o,a,b',d,m⟩=6 by rw[HR.out,HT2.out];rfl)
            clear h20
            go_wp2_with fail
            refine(ca _).mono ?_
            rintro e w' ⟨rfl,rfl⟩
            go_wp2_with fail
            go_ret
            exact⟨aj HZ.out.symm,HB11.out⟩
          ·have b20:(o==20)=false:=by simpa using h20
           by_cases h21:o=21
           ·have b21:(o==21)=true:=by simpa using h21
            have HT2:=aa (show tb=!qb by rw[HTB.out,decide_eq_false h20,decide_eq_true h21];simp)
            cases qb with
            | true=>
             have HZ:=aa (show aC n f' ⟨o,a,b',d,m⟩=0 by rw[HR.out,HT2.out];rfl)
             clear h20 h21
             go_wp2_with fail
             refine(cb _).mono ?_
             rintro e w' ⟨rfl,rfl⟩
             go_wp2_with fail
             go_ret
             exact⟨aj HZ.out.symm,HB11.out⟩
            | false=>
             have HZ:=aa (show aC n f' ⟨o,a,b',d,m⟩=6 by rw[HR.out,HT2.out];rfl)
             clear h20 h21
             go_wp2_with fail
             refine(cb _).mono ?_
             rintro e w' ⟨rfl,rfl⟩
             go_wp2_with fail
             go_ret
             exact⟨aj HZ.out.symm,HB11.out⟩
           ·have b21:(o==21)=false:=by simpa using h21
            have HZ:=aa (show aC n f' ⟨o,a,b',d,m⟩=0 by rw[HR.out,HTB.out,decide_eq_false h20,decide_eq_false h21];rfl)
            clear h20 h21
            go_wp2_with fail
            go_ret
            exact⟨aj HZ.out.symm,HB11.out⟩
theorem tq (Al:Int) (A:Option Addr) (n c:Nat) (hs:List Fd) (F:Tg) (lo B i k:Nat) (f:Fm) (x:Ins) (w:World) (H:Hid (TgAt w lo B A n c hs F)) (hB:B<=w.heap.size) (hf:Hid (F[i]?=some f)) (hx:Hid (f.code[k]?=some x)) (hsh:Hid (shB Al f=true)) (HX:Hid (exB x.op=true)) (HU:Hid (muA x.op=false/\muB x.op=false/\muC x.op=false/\muI x.op=true)) :
  Calls Tryz.prog 70 #[tv Al A n c,.int .i64 (i:Int),.int .i64 (k:Int)] w fun e w'=>e=.returned (.int .i64 (aC n f x))/\Below w.heap.size w w':=by
 have hin:i<n:=by rw[<-H.out.len];exact(List.getElem?_eq_some_iff.1 hf.out).1
 obtain⟨b,off,P,S,A1,n1,c1,f',rfl,hb,e1,hh,h,p0,p1,p2⟩:=dk H.out hin
 obtain rfl:f'=f:=by rw[hf.out] at e1;injection e1 with e1;exact e1.symm
 clear e1 hh
 have hn:=H.out.cap.2.2
 have HL:=aa (show f'.code.length=n1 from h.l)
 have HP:=aa (show P=f'.params from h.p)
 have HS:=aa (show S=f'.size from h.s)
 have hn1:n1<=8796093022208:=h.k.2.2
 have hkl:k<f'.code.length:=(List.getElem?_eq_some_iff.1 hx.out).1
 have hk:k<n1:=by have:=HL.out;omega
 obtain⟨bb,oo,hA1,hbb,x0,x1,x2,x3,x4⟩:=ee h.c hkl
 simp only at hA1
 subst hA1
 have hxe:f'.code[k]=x:=by have:=hx.out;rw[List.getElem?_eq_getElem hkl] at this;injection this
 rw[hxe] at x0 x1 x2 x3 x4
 obtain⟨o,a,b',d,m⟩:=x
 simp only at x0 x1 x2 x3 x4
 have hbs:=iH hsh.out
 rw[<-HP.out,<-HS.out] at hbs
 obtain⟨⟨P0,P1⟩,S0,S1⟩:=hbs
 have hbw:b<w.heap.size:=by omega
 have hbbw:bb<w.heap.size:=by omega
 have hb1:=ag w (.cells #[.int .i64 Al,.slice (some ⟨b,off,none⟩) n c] 26)
 have R0:=Row.new w 26 [.int .i64 Al,.slice (some ⟨b,off,none⟩) n c]
 obtain⟨W1,hW1⟩:∃V,w.alloc (.cells #[.int .i64 Al,.slice (some ⟨b,off,none⟩) n c] 26)=V:=⟨_,rfl⟩
 rw[show([.int .i64 Al,.slice (some ⟨b,off,none⟩) n c]:List Value).toArray=#[.int .i64 Al,.slice (some ⟨b,off,none⟩) n c] from rfl,hW1] at R0
 rw[hW1] at hb1
 have q0:=(hb1.cell (p:=⟨b,off+i*3,none⟩) hbw).trans p0
 have q1:=(hb1.cell (p:=⟨b,off+i*3+1,none⟩) hbw).trans p1
 have q2:=(hb1.cell (p:=⟨b,off+i*3+2,none⟩) hbw).trans p2
 have y0:=(hb1.cell (p:=⟨bb,oo+k*5,none⟩) hbbw).trans x0
 have y1:=(hb1.cell (p:=⟨bb,oo+k*5+1,none⟩) hbbw).trans x1
 have y2:=(hb1.cell (p:=⟨bb,oo+k*5+2,none⟩) hbbw).trans x2
 have y3:=(hb1.cell (p:=⟨bb,oo+k*5+3,none⟩) hbbw).trans x3
 have y4:=(hb1.cell (p:=⟨bb,oo+k*5+4,none⟩) hbbw).trans x4
 have t0:=R0.cell (k:=0) rfl
 have t1:=R0.cell (k:=1) rfl
 have HW1:=aa hW1
 have HB1:=aa hb1
 have HR0:=aa R0
 have hiz:(0:Int)<=(i:Int):=by omega
 have hiz':(i:Int)<(n:Int):=by omega
 have hkz:(0:Int)<=(k:Int):=by omega
 have hkz':(k:Int)<(n1:Int):=by omega
 have t0':=af t0
 have t1':=af t1
 have q0':=af q0
 have q1':=af q1
 have q2':=af q2
 have y0':=af y0
 have y1':=af y1
 have y2':=af y2
 have y3':=af y3
 have y4':=af y4
 have cw1:∀p:After W1,Calls Tryz.prog 68 #[.int .i64 (i:Int),.int .i64 (n:Int)] p.w fun e w'=>e=.returned (.bool true)/\p.w=w':=fun p=>by
  have:=az (i:Int) (n:Int) p.w;rwa[ai.2 ⟨by omega,by omega⟩] at this
 have cw2:∀p:After W1,Calls Tryz.prog 68 #[.int .i64 (k:Int),.int .i64 (n1:Int)] p.w fun e w'=>e=.returned (.bool true)/\p.w=w':=fun p=>by
  have:=az (k:Int) (n1:Int) p.w;rwa[ai.2 ⟨by omega,by omega⟩] at this
 have cw3:∀p:After W1,Calls Tryz.prog 69 #[tv Al (some ⟨b,off,none⟩) n c,mv P S (some ⟨bb,oo,none⟩) n1 c1] p.w fun e w'=>e=.returned (.bool true)/\Below p.w.heap.size p.w w':=fun p=>by
  have:=dv Al (some ⟨b,off,none⟩) n c P S (some ⟨bb,oo,none⟩) n1 c1 f' p.w (aa ⟨HP.out.symm,HS.out.symm⟩);rwa[hsh.out] at this
 have K1:=aa cw1
 have K2:=aa cw2
 have K3:=aa cw3
 clear hW1 hb1 R0 p0 p1 p2 x0 x1 x2 x3 x4 h cw1 cw2 cw3 hxe
 go_enter Tryz.func70,Tryz.ntmps70
 go_upto_region 1 with(fail)
 rw[HW1.out]
 clear HW1
 refine aJ (by kernel_rfl) (by kernel_rfl) ?_
 repeat(go_big_quiet_step ((first
  | (go_at_call 68;with_reducible exact cI (K1.out _))
  | (go_at_call 68;with_reducible exact cI (K2.out _))
  | (go_at_call 69;with_reducible exact bO (K3.out _)))))
 refine wpQuiet_nil ?_
 intro _ hw'
 obtain⟨p1,hw''⟩:=hw'
 subst hw''
 clear K1 K2 K3
 have HBP:=aa (HB1.out.trans (p1.b.mono HB1.out.size))
 have RP:=aa (HR0.out.call p1.b)
 have t0:=t0' p1
 have t1:=t1' p1
 have q0:=q0' p1
 have q1:=q1' p1
 have q2:=q2' p1
 have y0:=y0' p1
 have y1:=y1' p1
 have y2:=y2' p1
 have y3:=y3' p1
 have y4:=y4' p1
 clear t0' t1' q0' q1' q2' y0' y1' y2' y3' y4' HB1 HR0
 obtain⟨W2,hW2⟩:∃V,p1.w=V:=⟨_,rfl⟩
 rw[hW2] at HBP RP t0 t1 q0 q1 q2 y0 y1 y2 y3 y4⊢
 clear hW2
 go_upto_region 4 with(fail)
 have hl2:w.heap.size<W2.heap.size:=RP.out.lt
 have hbb2:bb<W2.heap.size:=by have:=HBP.out.size;omega
 obtain⟨W3,hW3⟩:∃V,W2.alloc (.cells #[.int .i64 P,.int .i64 S,.slice (some ⟨bb,oo,none⟩) n1 c1] 53)=V:=⟨_,rfl⟩
 have RF3:=aa (show Row W3 W2.heap.size 53 [.int .i64 P,.int .i64 S,.slice (some ⟨bb,oo,none⟩) n1 c1] by rw[<-hW3];exact Row.new W2 _ _)
 have RT3:=aa (show Row W3 w.heap.size 26 [.int .i64 Al,.slice (some ⟨b,off,none⟩) n c] by rw[<-hW3];exact RP.out.alloc _)
 have HB3:=aa (show Below w.heap.size w W3 by rw[<-hW3];exact HBP.out.alloc HBP.out.size _)
 have y0:W3.cell? ⟨bb,oo+k*5,none⟩=some (.int .i64 o):=by rw[<-hW3];exact((ag W2 _).cell (p:=⟨bb,oo+k*5,none⟩) hbb2).trans y0
 have y1:W3.cell? ⟨bb,oo+k*5+1,none⟩=some (.int .i64 a):=by rw[<-hW3];exact((ag W2 _).cell (p:=⟨bb,oo+k*5+1,none⟩) hbb2).trans y1
 have y2:W3.cell? ⟨bb,oo+k*5+2,none⟩=some (.int .i64 b'):=by rw[<-hW3];exact((ag W2 _).cell (p:=⟨bb,oo+k*5+2,none⟩) hbb2).trans y2
 have y3:W3.cell? ⟨bb,oo+k*5+3,none⟩=some (.int .i64 d):=by rw[<-hW3];exact((ag W2 _).cell (p:=⟨bb,oo+k*5+3,none⟩) hbb2).trans y3
 have y4:W3.cell? ⟨bb,oo+k*5+4,none⟩=some (.int .u64 m):=by rw[<-hW3];exact((ag W2 _).cell (p:=⟨bb,oo+k*5+4,none⟩) hbb2).trans y4
 rw[hW3]
 obtain⟨gf,hgf⟩:∃g,W2.heap.size=g:=⟨_,rfl⟩
 rw[hgf] at RF3⊢
 have g2:=RF3.out.cell (k:=2) rfl
 clear hW3 hgf RP HBP q0 q1 q2 t0 t1 hl2 hbb2
 go_upto_region 5 with(fail)
 obtain⟨W4,hW4⟩:∃V,W3.alloc (.cells #[.int .i64 o,.int .i64 a,.int .i64 b',.int .i64 d,.int .u64 m] 50)=V:=⟨_,rfl⟩
 have RX4:=aa (show Row W4 W3.heap.size 50 [.int .i64 o,.int .i64 a,.int .i64 b',.int .i64 d,.int .u64 m] by rw[<-hW4];exact Row.new W3 _ _)
 have RF4:=aa (show Row W4 gf 53 [.int .i64 P,.int .i64 S,.slice (some ⟨bb,oo,none⟩) n1 c1] by rw[<-hW4];exact RF3.out.alloc _)
 have RT4:=aa (show Row W4 w.heap.size 26 [.int .i64 Al,.slice (some ⟨b,off,none⟩) n c] by rw[<-hW4];exact RT3.out.alloc _)
 have HB4:=aa (show Below w.heap.size w W4 by rw[<-hW4];exact HB3.out.alloc HB3.out.size _)
 rw[hW4]
 obtain⟨gx,hgx⟩:∃g,W3.heap.size=g:=⟨_,rfl⟩
 rw[hgx] at RX4⊢
 clear hW4 hgx y0 y1 y2 y3 y4 g2 RF3 RT3 HB3
 have z0:=RX4.out.cell (k:=0) rfl
 have cw:=az o 25
 have hex:exB o=true:=HX.out
 have hwo:ax o 25=true:=by have h:=hex;unfold exB at h;simp only[Bool.and_eq_true] at h;exact h.1
 have h18:o≠18:=by rintro rfl;exact absurd hex (by decide)
 have h19:o≠19:=by rintro rfl;exact absurd hex (by decide)
 rw[hwo] at cw
 have b18:(o==18)=false:=by simpa using h18
 have b19:(o==19)=false:=by simpa using h19
 have ho:=ai.1 hwo
 obtain⟨m1,m2,m3,m4⟩:=HU.out
 simp only at m1 m2 m3 m4
 have HO:=aa (fS (N:=n) (f:=f') (x:=⟨o,a,b',d,m⟩) hex (by rw[<-HP.out];exact P0) (by rw[<-HS.out];exact S0))
 have HR:Hid (aC n f' ⟨o,a,b',d,m⟩=if ep ⟨o,a,b',d,m⟩=true then 2 else if bM n ⟨o,a,b',d,m⟩=false then 4 else if(dK o&&!szB d)=true then 5 else if(rdB o&&!a9 (rdI ⟨o,a,b',d,m⟩).1 (rdI ⟨o,a,b',d,m⟩).2 (S+16*P))=true then 4 else if(wrB o&&!a9 (wrI ⟨o,a,b',d,m⟩).1 (wrI ⟨o,a,b',d,m⟩).2 S)=true then 4 else if eo n1 ⟨o,a,b',d,m⟩=true then 6 else 0):=by
  show aC n f' ⟨o,a,b',d,m⟩=_
  rw[HO.out,HP.out,HS.out,HL.out]
 have co:∀W,Calls Tryz.prog 105 #[.int .i64 o] W fun e w'=>e=.returned (.tuple #[.bool false,.bool false,.bool false,.bool true])/\W=w':=fun W=>by
  have h:=gH o W ho.1 ho.2 hex
  rwa[m1,m2,m3,m4] at h
 have cn:=fun W=>fO Al (some ⟨b,off,none⟩) n c o a b' d m W ho.1 ho.2 hex
 have cm:=eQ o
 have cz:=eG d
 have cr:=fun W=>fN P S (some ⟨bb,oo,none⟩) n1 c1 o a b' d m W
 have cq:=fun W=>fk P S (some ⟨bb,oo,none⟩) n1 c1 o a b' d m W
 have HF:=aa (show ep ⟨o,a,b',d,m⟩=((!muA o&&a !=0)||((!muB o&&b' !=0)||((!muC o&&d !=0)||(!muI o&&m !=0)))) from rfl)
 rw[m1,m2,m3,m4] at HF
 have HTB:=aa (show eo n1 ⟨o,a,b',d,m⟩=((decide (o=20)&&!ax a n1)||(decide (o=21)&&!ax b' n1)) from rfl)
 obtain⟨fb,hfb⟩:∃v,ep ⟨o,a,b',d,m⟩=v:=⟨_,rfl⟩
 obtain⟨nb,hnb⟩:∃v,bM n ⟨o,a,b',d,m⟩=v:=⟨_,rfl⟩
 obtain⟨mb,hmb⟩:∃v,dK o=v:=⟨_,rfl⟩
 obtain⟨zb,hzb⟩:∃v,szB d=v:=⟨_,rfl⟩
 obtain⟨rb,hrb⟩:∃v,rdB o=v:=⟨_,rfl⟩
 obtain⟨wb,hwb⟩:∃v,wrB o=v:=⟨_,rfl⟩
 obtain⟨rp,hrp⟩:∃v,rdI ⟨o,a,b',d,m⟩=v:=⟨_,rfl⟩
 obtain⟨wp_,hwp⟩:∃v,wrI ⟨o,a,b',d,m⟩=v:=⟨_,rfl⟩
 obtain⟨tb,htb⟩:∃v,eo n1 ⟨o,a,b',d,m⟩=v:=⟨_,rfl⟩
 rw[hfb] at HR HF
 rw[hnb] at HR cn
 rw[hmb] at HR cm
 rw[hzb] at HR cz
 rw[hrb] at HR cr
 rw[hwb] at HR cq
 rw[hrp] at HR cr
 rw[hwp] at HR cq
 rw[htb] at HR HTB
 obtain⟨s1,s2⟩:=rp
 obtain⟨u1,u2⟩:=wp_
 simp only at HR cr cq
 have CN:=aa cn
 have CM:=aa cm
 have CZ:=aa cz
 have CR:=aa cr
 have CQ:=aa cq
 clear hwo h18 h19 hex HO hfb hnb hmb hzb hrb hwb hrp hwp htb cn cm cz cr cq ho m1 m2 m3 m4 HX HU
 have z1:=RX4.out.cell (k:=1) rfl
 have z2:=RX4.out.cell (k:=2) rfl
 have z3:=RX4.out.cell (k:=3) rfl
 have z4:=RX4.out.cell (k:=4) rfl
 go_upto_region 8 with(first|(go_at_call 68;refine(cw _).mono ?_;rintro e w' ⟨rfl,rfl⟩)|(go_at_call 105;refine(co _).mono ?_;rintro e w' ⟨rfl,rfl⟩))
 go_cut [110] (fun v wx=>v=.bool fb/\wx=W4)
 case first=>
  rcases Bool.eq_false_or_eq_true (a !=0) with ha|ha
  ·go_wp2_with fail
   go_meet
   exact⟨congrArg Value.bool (by rw[HF.out];simp[ha]),rfl⟩
  ·rcases Bool.eq_false_or_eq_true (b' !=0) with hb_|hb_
   ·go_wp2_with fail
    go_meet
    exact⟨congrArg Value.bool (by rw[HF.out];simp[ha,hb_]),rfl⟩
   ·rcases Bool.eq_false_or_eq_true (d !=0) with hd|hd
    ·go_wp2_with fail
     go_meet
     exact⟨congrArg Value.bool (by rw[HF.out];simp[ha,hb_,hd]),rfl⟩
    ·go_wp2_with fail
     go_meet
     exact⟨congrArg Value.bool (by rw[HF.out];simp[ha,hb_,hd]),rfl⟩
 case rest=>
  obtain⟨rfl,rfl⟩:=hcut
  cases fb with
  | true=>
   go_wp2_with fail
   go_ret
   exact⟨aj HR.out.symm,HB4.out⟩
  | false=>
   have t0:=RT4.out.cell (k:=0) rfl
   have t1:=RT4.out.cell (k:=1) rfl
   go_wp2_with fail
   refine(CN.out _).mono ?_
   rintro e W5 ⟨rfl,hb5⟩
   have RX5:=aa (RX4.out.call hb5)
   have RF5:=aa (RF4.out.call hb5)
   have HB5:=aa (ac HB4.out hb5)
   clear hb5 t0 t1 z0 z1 z2 z3 z4 RX4 RF4 RT4 HB4
   cases nb with
   | false=>
    go_wp2_with fail
    go_ret
    exact⟨aj HR.out.symm,HB5.out⟩
   | true=>
    have z0:=RX5.out.cell (k:=0) rfl
    have z1:=RX5.out.cell (k:=1) rfl
    have z2:=RX5.out.cell (k:=2) rfl
    have z3:=RX5.out.cell (k:=3) rfl
    have z4:=RX5.out.cell (k:=4) rfl
    have f0:=RF5.out.cell (k:=0) rfl
    have f1:=RF5.out.cell (k:=1) rfl
    have f2:=RF5.out.cell (k:=2) rfl
    go_upto_region 12 with(fail)
    go_cut [123] (fun v wx=>v=.bool (mb&&!zb)/\wx=W5)
    case first=>
     cases mb with
     | false=>
      go_wp2_with fail
      refine(CM.out _).mono ?_
      rintro e w' ⟨rfl,rfl⟩
      go_wp2_with fail
      go_meet
      exact⟨rfl,rfl⟩
     | true=>
      go_wp2_with fail
      refine(CM.out _).mono ?_
      rintro e w' ⟨rfl,rfl⟩
      go_wp2_with fail
      refine(CZ.out _).mono ?_
      rintro e w' ⟨rfl,rfl⟩
      go_wp2_with fail
      go_meet
      exact⟨by first|rfl|(cases zb<;>rfl),rfl⟩
    case rest=>
     obtain⟨rfl,rfl⟩:=hcut
     generalize(mb&&!zb)=v5 at HR⊢
     cases v5 with
     | true=>
      go_wp2_with fail
      go_ret
      exact⟨aj HR.out.symm,HB5.out⟩
     | false=>
      go_upto_region 15 with(go_at_call 108;refine(CR.out _).mono ?_;rintro e W6 ⟨rfl,hb6⟩)
      obtain⟨W7,hW7⟩:∃V,W6.alloc (.cells #[.int .i64 s1,.int .i64 s2] 127)=V:=⟨_,rfl⟩
      have RX7:=aa (show Row W7 gx 50 [.int .i64 o,.int .i64 a,.int .i64 b',.int .i64 d,.int .u64 m] by rw[<-hW7];exact(RX5.out.call hb6).alloc _)
      have RF7:=aa (show Row W7 gf 53 [.int .i64 P,.int .i64 S,.slice (some ⟨bb,oo,none⟩) n1 c1] by rw[<-hW7];exact(RF5.out.call hb6).alloc _)
      have RI7:=aa (show Row W7 W6.heap.size 127 [.int .i64 s1,.int .i64 s2] by rw[<-hW7];exact Row.new W6 _ _)
      have HB7:=aa (show Below w.heap.size w W7 by rw[<-hW7];have h:=ac HB5.out hb6;exact h.alloc h.size _)
      rw[hW7]
      obtain⟨gi,hgi⟩:∃g,W6.heap.size=g:=⟨_,rfl⟩
      rw[hgi] at RI7⊢
      clear hW7 hgi hb6 z0 z1 z2 z3 z4 f0 f1 f2 RX5 RF5 HB5
      have f0:=RF7.out.cell (k:=0) rfl
      have f1:=RF7.out.cell (k:=1) rfl
      have i0:=RI7.out.cell (k:=0) rfl
      have i1:=RI7.out.cell (k:=1) rfl
      have ci:=cP s1 s2 (S+16*P)
      generalize a9 s1 s2 (S+16*P)=ib at ci HR
      go_cut [141] (fun v wx=>v=.bool (rb&&!ib)/\Hid (Below W7.heap.size W7 wx))
      case first=>
       cases rb with
       | false=>
        go_wp2_with fail
        go_meet
        exact⟨rfl,aa (Below.refl _ _)⟩
       | true=>
        go_wp2_with fail
        refine(ci _).mono ?_
        rintro e w' ⟨rfl,hb⟩
        go_wp2_with fail
        go_meet
        exact⟨by first|rfl|(cases ib<;>rfl),aa hb⟩
      case rest=>
       obtain⟨rfl,hbc⟩:=hcut
       generalize(rb&&!ib)=v6 at HR⊢
       have HB8:=aa (ac HB7.out hbc.out)
       have RX8:=aa (RX7.out.call hbc.out)
       have RF8:=aa (RF7.out.call hbc.out)
       clear f0 f1 i0 i1 ci RX7 RF7 RI7 HB7 hbc
       cases v6 with
       | true=>
        go_wp2_with fail
        go_ret
        exact⟨aj HR.out.symm,HB8.out⟩
       | false=>
        have z0:=RX8.out.cell (k:=0) rfl
        have z1:=RX8.out.cell (k:=1) rfl
        have z2:=RX8.out.cell (k:=2) rfl
        have z3:=RX8.out.cell (k:=3) rfl
        have z4:=RX8.out.cell (k:=4) rfl
        have f0:=RF8.out.cell (k:=0) rfl
        have f1:=RF8.out.cell (k:=1) rfl
        have f2:=RF8.out.cell (k:=2) rfl
        go_upto_region 18 with(go_at_call 109;refine(CQ.out _).mono ?_;rintro e W9 ⟨rfl,hb9⟩)
        obtain⟨W10,hW10⟩:∃V,W9.alloc (.cells #[.int .i64 u1,.int .i64 u2] 127)=V:=⟨_,rfl⟩
        have RX10:=aa (show Row W10 gx 50 [.int .i64 o,.int .i64 a,.int .i64 b',.int .i64 d,.int .u64 m] by rw[<-hW10];exact(RX8.out.call hb9).alloc _)
        have RF10:=aa (show Row W10 gf 53 [.int .i64 P,.int .i64 S,.slice (some ⟨bb,oo,none⟩) n1 c1] by rw[<-hW10];exact(RF8.out.call hb9).alloc _)
        have RI10:=aa (show Row W10 W9.heap.size 127 [.int .i64 u1,.int .i64 u2] by rw[<-hW10];exact Row.new W9 _ _)
        have HB10:=aa (show Below w.heap.size w W10 by rw[<-hW10];have h:=ac HB8.out hb9;exact h.alloc h.size _)
        rw[hW10]
        obtain⟨gj,hgj⟩:∃g,W9.heap.size=g:=⟨_,rfl⟩
        rw[hgj] at RI10⊢
        clear hW10 hgj hb9 z0 z1 z2 z3 z4 f0 f1 f2 RX8 RF8 HB8
        have f1:=RF10.out.cell (k:=1) rfl
        have i0:=RI10.out.cell (k:=0) rfl
        have i1:=RI10.out.cell (k:=1) rfl
        have ci:=cP u1 u2 S
        generalize a9 u1 u2 S=ib at ci HR
        go_cut [155] (fun v wx=>v=.bool (wb&&!ib)/\Hid (Below W10.heap.size W10 wx))
        case first=>
         cases wb with
         | false=>
          go_wp2_with fail
          go_meet
          exact⟨rfl,aa (Below.refl _ _)⟩
         | true=>
          go_wp2_with fail
          refine(ci _).mono ?_
          rintro e w' ⟨rfl,hb⟩
          go_wp2_with fail
          go_meet
          exact⟨by first|rfl|(cases ib<;>rfl),aa hb⟩
        case rest=>
         obtain⟨rfl,hbc⟩:=hcut
         generalize(wb&&!ib)=v7 at HR⊢
         have HB11:=aa (ac HB10.out hbc.out)
         have RX11:=aa (RX10.out.call hbc.out)
         have RF11:=aa (RF10.out.call hbc.out)
         clear f1 i0 i1 ci RX10 RF10 RI10 HB10 hbc
         cases v7 with
         | true=>
          go_wp2_with fail
          go_ret
          exact⟨aj HR.out.symm,HB11.out⟩
         | false=>
          have z0:=RX11.out.cell (k:=0) rfl
          have z1:=RX11.out.cell (k:=1) rfl
          have z2:=RX11.out.cell (k:=2) rfl
          have f2:=RF11.out.cell (k:=2) rfl
          have ca:=az a (n1:Int)
          have cb:=az b' (n1:Int)
          generalize ax a n1=qa at ca HTB
          generalize ax b' n1=qb at cb HTB
          by_cases h20:o=20
          ·have b20:(o==20)=true:=by simpa using h20
           have b21:(o==21)=false:=by simp;omega
           have HT2:=aa (show tb=!qa by rw[HTB.out,decide_eq_true h20,decide_eq_false (show¬o=21 by omega)];simp)
           cases qa with
           | true=>
            have HZ:=aa (show aC n f' ⟨o,a,b',d,m⟩=0 by rw[HR.out,HT2.out];rfl)
            clear h20
            go_wp2_with fail
            refine(ca _).mono ?_
            rintro e w' ⟨rfl,rfl⟩
            go_wp2_with fail
            go_ret
            exact⟨aj HZ.out.symm,HB11.out⟩
           | false=>
            have HZ:=aa (show aC n f' ⟨o,a,b',d,m⟩=6 by rw[HR.out,HT2.out];rfl)
            clear h20
            go_wp2_with fail
            refine(ca _).mono ?_
            rintro e w' ⟨rfl,rfl⟩
            go_wp2_with fail
            go_ret
            exact⟨aj HZ.out.symm,HB11.out⟩
          ·have b20:(o==20)=false:=by simpa using h20
           by_cases h21:o=21
           ·have b21:(o==21)=true:=by simpa using h21
            have HT2:=aa (show tb=!qb by rw[HTB.out,decide_eq_false h20,decide_eq_true h21];simp)
            cases qb with
            | true=>
             have HZ:=aa (show aC n f' ⟨o,a,b',d,m⟩=0 by rw[HR.out,HT2.out];rfl)
             clear h20 h21
             go_wp2_with fail
             refine(cb _).mono ?_
             rintro e w' ⟨rfl,rfl⟩
             go_wp2_with fail
             go_ret
             exact⟨aj HZ.out.symm,HB11.out⟩
            | false=>
             have HZ:=aa (show aC n f' ⟨o,a,b',d,m⟩=6 by rw[HR.out,HT2.out];rfl)
             clear h20 h21
             go_wp2_with fail
             refine(cb _).mono ?_
             rintro e w' ⟨rfl,rfl⟩
             go_wp2_with fail
             go_ret
             exact⟨aj HZ.out.symm,HB11.out⟩
           ·have b21:(o==21)=false:=by simpa using h21
            have HZ:=aa (show aC n f' ⟨o,a,b',d,m⟩=0 by rw[HR.out,HTB.out,decide_eq_false h20,decide_eq_false h21];rfl)
            clear h20 h21
            go_wp2_with fail
            go_ret
            exact⟨aj HZ.out.symm,HB11.out⟩
theorem tu (Al:Int) (A:Option Addr) (n c:Nat) (hs:List Fd) (F:Tg) (lo B i k:Nat) (f:Fm) (x:Ins) (w:World) (H:Hid (TgAt w lo B A n c hs F)) (hB:B<=w.heap.size) (hf:Hid (F[i]?=some f)) (hx:Hid (f.code[k]?=some x)) (hsh:Hid (shB Al f=true)) (HX:Hid (exB x.op=true)) (HU:Hid (muA x.op=false/\muB x.op=false/\muC x.op=false/\muI x.op=false)) :
  Calls Tryz.prog 70 #[tv Al A n c,.int .i64 (i:Int),.int .i64 (k:Int)] w fun e w'=>e=.returned (.int .i64 (aC n f x))/\Below w.heap.size w w':=by
 have hin:i<n:=by rw[<-H.out.len];exact(List.getElem?_eq_some_iff.1 hf.out).1
 obtain⟨b,off,P,S,A1,n1,c1,f',rfl,hb,e1,hh,h,p0,p1,p2⟩:=dk H.out hin
 obtain rfl:f'=f:=by rw[hf.out] at e1;injection e1 with e1;exact e1.symm
 clear e1 hh
 have hn:=H.out.cap.2.2
 have HL:=aa (show f'.code.length=n1 from h.l)
 have HP:=aa (show P=f'.params from h.p)
 have HS:=aa (show S=f'.size from h.s)
 have hn1:n1<=8796093022208:=h.k.2.2
 have hkl:k<f'.code.length:=(List.getElem?_eq_some_iff.1 hx.out).1
 have hk:k<n1:=by have:=HL.out;omega
 obtain⟨bb,oo,hA1,hbb,x0,x1,x2,x3,x4⟩:=ee h.c hkl
 simp only at hA1
 subst hA1
 have hxe:f'.code[k]=x:=by have:=hx.out;rw[List.getElem?_eq_getElem hkl] at this;injection this
 rw[hxe] at x0 x1 x2 x3 x4
 obtain⟨o,a,b',d,m⟩:=x
 simp only at x0 x1 x2 x3 x4
 have hbs:=iH hsh.out
 rw[<-HP.out,<-HS.out] at hbs
 obtain⟨⟨P0,P1⟩,S0,S1⟩:=hbs
 have hbw:b<w.heap.size:=by omega
 have hbbw:bb<w.heap.size:=by omega
 have hb1:=ag w (.cells #[.int .i64 Al,.slice (some ⟨b,off,none⟩) n c] 26)
 have R0:=Row.new w 26 [.int .i64 Al,.slice (some ⟨b,off,none⟩) n c]
 obtain⟨W1,hW1⟩:∃V,w.alloc (.cells #[.int .i64 Al,.slice (some ⟨b,off,none⟩) n c] 26)=V:=⟨_,rfl⟩
 rw[show([.int .i64 Al,.slice (some ⟨b,off,none⟩) n c]:List Value).toArray=#[.int .i64 Al,.slice (some ⟨b,off,none⟩) n c] from rfl,hW1] at R0
 rw[hW1] at hb1
 have q0:=(hb1.cell (p:=⟨b,off+i*3,none⟩) hbw).trans p0
 have q1:=(hb1.cell (p:=⟨b,off+i*3+1,none⟩) hbw).trans p1
 have q2:=(hb1.cell (p:=⟨b,off+i*3+2,none⟩) hbw).trans p2
 have y0:=(hb1.cell (p:=⟨bb,oo+k*5,none⟩) hbbw).trans x0
 have y1:=(hb1.cell (p:=⟨bb,oo+k*5+1,none⟩) hbbw).trans x1
 have y2:=(hb1.cell (p:=⟨bb,oo+k*5+2,none⟩) hbbw).trans x2
 have y3:=(hb1.cell (p:=⟨bb,oo+k*5+3,none⟩) hbbw).trans x3
 have y4:=(hb1.cell (p:=⟨bb,oo+k*5+4,none⟩) hbbw).trans x4
 have t0:=R0.cell (k:=0) rfl
 have t1:=R0.cell (k:=1) rfl
 have HW1:=aa hW1
 have HB1:=aa hb1
 have HR0:=aa R0
 have hiz:(0:Int)<=(i:Int):=by omega
 have hiz':(i:Int)<(n:Int):=by omega
 have hkz:(0:Int)<=(k:Int):=by omega
 have hkz':(k:Int)<(n1:Int):=by omega
 have t0':=af t0
 have t1':=af t1
 have q0':=af q0
 have q1':=af q1
 have q2':=af q2
 have y0':=af y0
 have y1':=af y1
 have y2':=af y2
 have y3':=af y3
 have y4':=af y4
 have cw1:∀p:After W1,Calls Tryz.prog 68 #[.int .i64 (i:Int),.int .i64 (n:Int)] p.w fun e w'=>e=.returned (.bool true)/\p.w=w':=fun p=>by
  have:=az (i:Int) (n:Int) p.w;rwa[ai.2 ⟨by omega,by omega⟩] at this
 have cw2:∀p:After W1,Calls Tryz.prog 68 #[.int .i64 (k:Int),.int .i64 (n1:Int)] p.w fun e w'=>e=.returned (.bool true)/\p.w=w':=fun p=>by
  have:=az (k:Int) (n1:Int) p.w;rwa[ai.2 ⟨by omega,by omega⟩] at this
 have cw3:∀p:After W1,Calls Tryz.prog 69 #[tv Al (some ⟨b,off,none⟩) n c,mv P S (some ⟨bb,oo,none⟩) n1 c1] p.w fun e w'=>e=.returned (.bool true)/\Below p.w.heap.size p.w w':=fun p=>by
  have:=dv Al (some ⟨b,off,none⟩) n c P S (some ⟨bb,oo,none⟩) n1 c1 f' p.w (aa ⟨HP.out.symm,HS.out.symm⟩);rwa[hsh.out] at this
 have K1:=aa cw1
 have K2:=aa cw2
 have K3:=aa cw3
 clear hW1 hb1 R0 p0 p1 p2 x0 x1 x2 x3 x4 h cw1 cw2 cw3 hxe
 go_enter Tryz.func70,Tryz.ntmps70
 go_upto_region 1 with(fail)
 rw[HW1.out]
 clear HW1
 refine aJ (by kernel_rfl) (by kernel_rfl) ?_
 repeat(go_big_quiet_step ((first
  | (go_at_call 68;with_reducible exact cI (K1.out _))
  | (go_at_call 68;with_reducible exact cI (K2.out _))
  | (go_at_call 69;with_reducible exact bO (K3.out _)))))
 refine wpQuiet_nil ?_
 intro _ hw'
 obtain⟨p1,hw''⟩:=hw'
 subst hw''
 clear K1 K2 K3
 have HBP:=aa (HB1.out.trans (p1.b.mono HB1.out.size))
 have RP:=aa (HR0.out.call p1.b)
 have t0:=t0' p1
 have t1:=t1' p1
 have q0:=q0' p1
 have q1:=q1' p1
 have q2:=q2' p1
 have y0:=y0' p1
 have y1:=y1' p1
 have y2:=y2' p1
 have y3:=y3' p1
 have y4:=y4' p1
 clear t0' t1' q0' q1' q2' y0' y1' y2' y3' y4' HB1 HR0
 obtain⟨W2,hW2⟩:∃V,p1.w=V:=⟨_,rfl⟩
 rw[hW2] at HBP RP t0 t1 q0 q1 q2 y0 y1 y2 y3 y4⊢
 clear hW2
 go_upto_region 4 with(fail)
 have hl2:w.heap.size<W2.heap.size:=RP.out.lt
 have hbb2:bb<W2.heap.size:=by have:=HBP.out.size;omega
 obtain⟨W3,hW3⟩:∃V,W2.alloc (.cells #[.int .i64 P,.int .i64 S,.slice (some ⟨bb,oo,none⟩) n1 c1] 53)=V:=⟨_,rfl⟩
 have RF3:=aa (show Row W3 W2.heap.size 53 [.int .i64 P,.int .i64 S,.slice (some ⟨bb,oo,none⟩) n1 c1] by rw[<-hW3];exact Row.new W2 _ _)
 have RT3:=aa (show Row W3 w.heap.size 26 [.int .i64 Al,.slice (some ⟨b,off,none⟩) n c] by rw[<-hW3];exact RP.out.alloc _)
 have HB3:=aa (show Below w.heap.size w W3 by rw[<-hW3];exact HBP.out.alloc HBP.out.size _)
 have y0:W3.cell? ⟨bb,oo+k*5,none⟩=some (.int .i64 o):=by rw[<-hW3];exact((ag W2 _).cell (p:=⟨bb,oo+k*5,none⟩) hbb2).trans y0
 have y1:W3.cell? ⟨bb,oo+k*5+1,none⟩=some (.int .i64 a):=by rw[<-hW3];exact((ag W2 _).cell (p:=⟨bb,oo+k*5+1,none⟩) hbb2).trans y1
 have y2:W3.cell? ⟨bb,oo+k*5+2,none⟩=some (.int .i64 b'):=by rw[<-hW3];exact((ag W2 _).cell (p:=⟨bb,oo+k*5+2,none⟩) hbb2).trans y2
 have y3:W3.cell? ⟨bb,oo+k*5+3,none⟩=some (.int .i64 d):=by rw[<-hW3];exact((ag W2 _).cell (p:=⟨bb,oo+k*5+3,none⟩) hbb2).trans y3
 have y4:W3.cell? ⟨bb,oo+k*5+4,none⟩=some (.int .u64 m):=by rw[<-hW3];exact((ag W2 _).cell (p:=⟨bb,oo+k*5+4,none⟩) hbb2).trans y4
 rw[hW3]
 obtain⟨gf,hgf⟩:∃g,W2.heap.size=g:=⟨_,rfl⟩
 rw[hgf] at RF3⊢
 have g2:=RF3.out.cell (k:=2) rfl
 clear hW3 hgf RP HBP q0 q1 q2 t0 t1 hl2 hbb2
 go_upto_region 5 with(fail)
 obtain⟨W4,hW4⟩:∃V,W3.alloc (.cells #[.int .i64 o,.int .i64 a,.int .i64 b',.int .i64 d,.int .u64 m] 50)=V:=⟨_,rfl⟩
 have RX4:=aa (show Row W4 W3.heap.size 50 [.int .i64 o,.int .i64 a,.int .i64 b',.int .i64 d,.int .u64 m] by rw[<-hW4];exact Row.new W3 _ _)
 have RF4:=aa (show Row W4 gf 53 [.int .i64 P,.int .i64 S,.slice (some ⟨bb,oo,none⟩) n1 c1] by rw[<-hW4];exact RF3.out.alloc _)
 have RT4:=aa (show Row W4 w.heap.size 26 [.int .i64 Al,.slice (some ⟨b,off,none⟩) n c] by rw[<-hW4];exact RT3.out.alloc _)
 have HB4:=aa (show Below w.heap.size w W4 by rw[<-hW4];exact HB3.out.alloc HB3.out.size _)
 rw[hW4]
 obtain⟨gx,hgx⟩:∃g,W3.heap.size=g:=⟨_,rfl⟩
 rw[hgx] at RX4⊢
 clear hW4 hgx y0 y1 y2 y3 y4 g2 RF3 RT3 HB3
 have z0:=RX4.out.cell (k:=0) rfl
 have cw:=az o 25
 have hex:exB o=true:=HX.out
 have hwo:ax o 25=true:=by have h:=hex;unfold exB at h;simp only[Bool.and_eq_true] at h;exact h.1
 have h18:o≠18:=by rintro rfl;exact absurd hex (by decide)
 have h19:o≠19:=by rintro rfl;exact absurd hex (by decide)
 rw[hwo] at cw
 have b18:(o==18)=false:=by simpa using h18
 have b19:(o==19)=false:=by simpa using h19
 have ho:=ai.1 hwo
 obtain⟨m1,m2,m3,m4⟩:=HU.out
 simp only at m1 m2 m3 m4
 have HO:=aa (fS (N:=n) (f:=f') (x:=⟨o,a,b',d,m⟩) hex (by rw[<-HP.out];exact P0) (by rw[<-HS.out];exact S0))
 have HR:Hid (aC n f' ⟨o,a,b',d,m⟩=if ep ⟨o,a,b',d,m⟩=true then 2 else if bM n ⟨o,a,b',d,m⟩=false then 4 else if(dK o&&!szB d)=true then 5 else if(rdB o&&!a9 (rdI ⟨o,a,b',d,m⟩).1 (rdI ⟨o,a,b',d,m⟩).2 (S+16*P))=true then 4 else if(wrB o&&!a9 (wrI ⟨o,a,b',d,m⟩).1 (wrI ⟨o,a,b',d,m⟩).2 S)=true then 4 else if eo n1 ⟨o,a,b',d,m⟩=true then 6 else 0):=by
  show aC n f' ⟨o,a,b',d,m⟩=_
  rw[HO.out,HP.out,HS.out,HL.out]
 have co:∀W,Calls Tryz.prog 105 #[.int .i64 o] W fun e w'=>e=.returned (.tuple #[.bool false,.bool false,.bool false,.bool false])/\W=w':=fun W=>by
  have h:=gH o W ho.1 ho.2 hex
  rwa[m1,m2,m3,m4] at h
 have cn:=fun W=>fO Al (some ⟨b,off,none⟩) n c o a b' d m W ho.1 ho.2 hex
 have cm:=eQ o
 have cz:=eG d
 have cr:=fun W=>fN P S (some ⟨bb,oo,none⟩) n1 c1 o a b' d m W
 have cq:=fun W=>fk P S (some ⟨bb,oo,none⟩) n1 c1 o a b' d m W
 have HF:=aa (show ep ⟨o,a,b',d,m⟩=((!muA o&&a !=0)||((!muB o&&b' !=0)||((!muC o&&d !=0)||(!muI o&&m !=0)))) from rfl)
 rw[m1,m2,m3,m4] at HF
 have HTB:=aa (show eo n1 ⟨o,a,b',d,m⟩=((decide (o=20)&&!ax a n1)||(decide (o=21)&&!ax b' n1)) from rfl)
 obtain⟨fb,hfb⟩:∃v,ep ⟨o,a,b',d,m⟩=v:=⟨_,rfl⟩
 obtain⟨nb,hnb⟩:∃v,bM n ⟨o,a,b',d,m⟩=v:=⟨_,rfl⟩
 obtain⟨mb,hmb⟩:∃v,dK o=v:=⟨_,rfl⟩
 obtain⟨zb,hzb⟩:∃v,szB d=v:=⟨_,rfl⟩
 obtain⟨rb,hrb⟩:∃v,rdB o=v:=⟨_,rfl⟩
 obtain⟨wb,hwb⟩:∃v,wrB o=v:=⟨_,rfl⟩
 obtain⟨rp,hrp⟩:∃v,rdI ⟨o,a,b',d,m⟩=v:=⟨_,rfl⟩
 obtain⟨wp_,hwp⟩:∃v,wrI ⟨o,a,b',d,m⟩=v:=⟨_,rfl⟩
 obtain⟨tb,htb⟩:∃v,eo n1 ⟨o,a,b',d,m⟩=v:=⟨_,rfl⟩
 rw[hfb] at HR HF
 rw[hnb] at HR cn
 rw[hmb] at HR cm
 rw[hzb] at HR cz
 rw[hrb] at HR cr
 rw[hwb] at HR cq
 rw[hrp] at HR cr
 rw[hwp] at HR cq
 rw[htb] at HR HTB
 obtain⟨s1,s2⟩:=rp
 obtain⟨u1,u2⟩:=wp_
 simp only at HR cr cq
 have CN:=aa cn
 have CM:=aa cm
 have CZ:=aa cz
 have CR:=aa cr
 have CQ:=aa cq
 clear hwo h18 h19 hex HO hfb hnb hmb hzb hrb hwb hrp hwp htb cn cm cz cr cq ho m1 m2 m3 m4 HX HU
 have z1:=RX4.out.cell (k:=1) rfl
 have z2:=RX4.out.cell (k:=2) rfl
 have z3:=RX4.out.cell (k:=3) rfl
 have z4:=RX4.out.cell (k:=4) rfl
 go_upto_region 8 with(first|(go_at_call 68;refine(cw _).mono ?_;rintro e w' ⟨rfl,rfl⟩)|(go_at_call 105;refine(co _).mono ?_;rintro e w' ⟨rfl,rfl⟩))
 go_cut [110] (fun v wx=>v=.bool fb/\wx=W4)
 case first=>
  rcases Bool.eq_false_or_eq_true (a !=0) with ha|ha
  ·go_wp2_with fail
   go_meet
   exact⟨congrArg Value.bool (by rw[HF.out];simp[ha]),rfl⟩
  ·rcases Bool.eq_false_or_eq_true (b' !=0) with hb_|hb_
   ·go_wp2_with fail
    go_meet
    exact⟨congrArg Value.bool (by rw[HF.out];simp[ha,hb_]),rfl⟩
   ·rcases Bool.eq_false_or_eq_true (d !=0) with hd|hd
    ·go_wp2_with fail
     go_meet
     exact⟨congrArg Value.bool (by rw[HF.out];simp[ha,hb_,hd]),rfl⟩
    ·rcases Bool.eq_false_or_eq_true (m !=0) with hm|hm
     ·go_wp2_with fail
      go_meet
      exact⟨congrArg Value.bool (by rw[HF.out];simp[ha,hb_,hd,hm]),rfl⟩
     ·go_wp2_with fail
      go_meet
      exact⟨congrArg Value.bool (by rw[HF.out];simp[ha,hb_,hd,hm]),rfl⟩
 case rest=>
  obtain⟨rfl,rfl⟩:=hcut
  cases fb with
  | true=>
   go_wp2_with fail
   go_ret
   exact⟨aj HR.out.symm,HB4.out⟩
  | false=>
   have t0:=RT4.out.cell (k:=0) rfl
   have t1:=RT4.out.cell (k:=1) rfl
   go_wp2_with fail
   refine(CN.out _).mono ?_
   rintro e W5 ⟨rfl,hb5⟩
   have RX5:=aa (RX4.out.call hb5)
   have RF5:=aa (RF4.out.call hb5)
   have HB5:=aa (ac HB4.out hb5)
   clear hb5 t0 t1 z0 z1 z2 z3 z4 RX4 RF4 RT4 HB4
   cases nb with
   | false=>
    go_wp2_with fail
    go_ret
    exact⟨aj HR.out.symm,HB5.out⟩
   | true=>
    have z0:=RX5.out.cell (k:=0) rfl
    have z1:=RX5.out.cell (k:=1) rfl
    have z2:=RX5.out.cell (k:=2) rfl
    have z3:=RX5.out.cell (k:=3) rfl
    have z4:=RX5.out.cell (k:=4) rfl
    have f0:=RF5.out.cell (k:=0) rfl
    have f1:=RF5.out.cell (k:=1) rfl
    have f2:=RF5.out.cell (k:=2) rfl
    go_upto_region 12 with(fail)
    go_cut [123] (fun v wx=>v=.bool (mb&&!zb)/\wx=W5)
    case first=>
     cases mb with
     | false=>
      go_wp2_with fail
      refine(CM.out _).mono ?_
      rintro e w' ⟨rfl,rfl⟩
      go_wp2_with fail
      go_meet
      exact⟨rfl,rfl⟩
     | true=>
      go_wp2_with fail
      refine(CM.out _).mono ?_
      rintro e w' ⟨rfl,rfl⟩
      go_wp2_with fail
      refine(CZ.out _).mono ?_
      rintro e w' ⟨rfl,rfl⟩
      go_wp2_with fail
      go_meet
      exact⟨by first|rfl|(cases zb<;>rfl),rfl⟩
    case rest=>
     obtain⟨rfl,rfl⟩:=hcut
     generalize(mb&&!zb)=v5 at HR⊢
     cases v5 with
     | true=>
      go_wp2_with fail
      go_ret
      exact⟨aj HR.out.symm,HB5.out⟩
     | false=>
      go_upto_region 15 with(go_at_call 108;refine(CR.out _).mono ?_;rintro e W6 ⟨rfl,hb6⟩)
      obtain⟨W7,hW7⟩:∃V,W6.alloc (.cells #[.int .i64 s1,.int .i64 s2] 127)=V:=⟨_,rfl⟩
      have RX7:=aa (show Row W7 gx 50 [.int .i64 o,.int .i64 a,.int .i64 b',.int .i64 d,.int .u64 m] by rw[<-hW7];exact(RX5.out.call hb6).alloc _)
      have RF7:=aa (show Row W7 gf 53 [.int .i64 P,.int .i64 S,.slice (some ⟨bb,oo,none⟩) n1 c1] by rw[<-hW7];exact(RF5.out.call hb6).alloc _)
      have RI7:=aa (show Row W7 W6.heap.size 127 [.int .i64 s1,.int .i64 s2] by rw[<-hW7];exact Row.new W6 _ _)
      have HB7:=aa (show Below w.heap.size w W7 by rw[<-hW7];have h:=ac HB5.out hb6;exact h.alloc h.size _)
      rw[hW7]
      obtain⟨gi,hgi⟩:∃g,W6.heap.size=g:=⟨_,rfl⟩
      rw[hgi] at RI7⊢
      clear hW7 hgi hb6 z0 z1 z2 z3 z4 f0 f1 f2 RX5 RF5 HB5
      have f0:=RF7.out.cell (k:=0) rfl
      have f1:=RF7.out.cell (k:=1) rfl
      have i0:=RI7.out.cell (k:=0) rfl
      have i1:=RI7.out.cell (k:=1) rfl
      have ci:=cP s1 s2 (S+16*P)
      generalize a9 s1 s2 (S+16*P)=ib at ci HR
      go_cut [141] (fun v wx=>v=.bool (rb&&!ib)/\Hid (Below W7.heap.size W7 wx))
      case first=>
       cases rb with
       | false=>
        go_wp2_with fail
        go_meet
        exact⟨rfl,aa (Below.refl _ _)⟩
       | true=>
        go_wp2_with fail
        refine(ci _).mono ?_
        rintro e w' ⟨rfl,hb⟩
        go_wp2_with fail
        go_meet
        exact⟨by first|rfl|(cases ib<;>rfl),aa hb⟩
      case rest=>
       obtain⟨rfl,hbc⟩:=hcut
       generalize(rb&&!ib)=v6 at HR⊢
       have HB8:=aa (ac HB7.out hbc.out)
       have RX8:=aa (RX7.out.call hbc.out)
       have RF8:=aa (RF7.out.call hbc.out)
       clear f0 f1 i0 i1 ci RX7 RF7 RI7 HB7 hbc
       cases v6 with
       | true=>
        go_wp2_with fail
        go_ret
        exact⟨aj HR.out.symm,HB8.out⟩
       | false=>
        have z0:=RX8.out.cell (k:=0) rfl
        have z1:=RX8.out.cell (k:=1) rfl
        have z2:=RX8.out.cell (k:=2) rfl
        have z3:=RX8.out.cell (k:=3) rfl
        have z4:=RX8.out.cell (k:=4) rfl
        have f0:=RF8.out.cell (k:=0) rfl
        have f1:=RF8.out.cell (k:=1) rfl
        have f2:=RF8.out.cell (k:=2) rfl
        go_upto_region 18 with(go_at_call 109;refine(CQ.out _).mono ?_;rintro e W9 ⟨rfl,hb9⟩)
        obtain⟨W10,hW10⟩:∃V,W9.alloc (.cells #[.int .i64 u1,.int .i64 u2] 127)=V:=⟨_,rfl⟩
        have RX10:=aa (show Row W10 gx 50 [.int .i64 o,.int .i64 a,.int .i64 b',.int .i64 d,.int .u64 m] by rw[<-hW10];exact(RX8.out.call hb9).alloc _)
        have RF10:=aa (show Row W10 gf 53 [.int .i64 P,.int .i64 S,.slice (some ⟨bb,oo,none⟩) n1 c1] by rw[<-hW10];exact(RF8.out.call hb9).alloc _)
        have RI10:=aa (show Row W10 W9.heap.size 127 [.int .i64 u1,.int .i64 u2] by rw[<-hW10];exact Row.new W9 _ _)
        have HB10:=aa (show Below w.heap.size w W10 by rw[<-hW10];have h:=ac HB8.out hb9;exact h.alloc h.size _)
        rw[hW10]
        obtain⟨gj,hgj⟩:∃g,W9.heap.size=g:=⟨_,rfl⟩
        rw[hgj] at RI10⊢
        clear hW10 hgj hb9 z0 z1 z2 z3 z4 f0 f1 f2 RX8 RF8 HB8
        have f1:=RF10.out.cell (k:=1) rfl
        have i0:=RI10.out.cell (k:=0) rfl
        have i1:=RI10.out.cell (k:=1) rfl
        have ci:=cP u1 u2 S
        generalize a9 u1 u2 S=ib at ci HR
        go_cut [155] (fun v wx=>v=.bool (wb&&!ib)/\Hid (Below W10.heap.size W10 wx))
        case first=>
         cases wb with
         | false=>
          go_wp2_with fail
          go_meet
          exact⟨rfl,aa (Below.refl _ _)⟩
         | true=>
          go_wp2_with fail
          refine(ci _).mono ?_
          rintro e w' ⟨rfl,hb⟩
          go_wp2_with fail
          go_meet
          exact⟨by first|rfl|(cases ib<;>rfl),aa hb⟩
        case rest=>
         obtain⟨rfl,hbc⟩:=hcut
         generalize(wb&&!ib)=v7 at HR⊢
         have HB11:=aa (ac HB10.out hbc.out)
         have RX11:=aa (RX10.out.call hbc.out)
         have RF11:=aa (RF10.out.call hbc.out)
         clear f1 i0 i1 ci RX10 RF10 RI10 HB10 hbc
         cases v7 with
         | true=>
          go_wp2_with fail
          go_ret
          exact⟨aj HR.out.symm,HB11.out⟩
         | false=>
          have z0:=RX11.out.cell (k:=0) rfl
          have z1:=RX11.out.cell (k:=1) rfl
          have z2:=RX11.out.cell (k:=2) rfl
          have f2:=RF11.out.cell (k:=2) rfl
          have ca:=az a (n1:Int)
          have cb:=az b' (n1:Int)
          generalize ax a n1=qa at ca HTB
          generalize ax b' n1=qb at cb HTB
          by_cases h20:o=20
          ·have b20:(o==20)=true:=by simpa using h20
           have b21:(o==21)=false:=by simp;omega
           have HT2:=aa (show tb=!qa by rw[HTB.out,decide_eq_true h20,decide_eq_false (show¬o=21 by omega)];simp)
           cases qa with
           | true=>
            have HZ:=aa (show aC n f' ⟨o,a,b',d,m⟩=0 by rw[HR.out,HT2.out];rfl)
            clear h20
            go_wp2_with fail
            refine(ca _).mono ?_
            rintro e w' ⟨rfl,rfl⟩
            go_wp2_with fail
            go_ret
            exact⟨aj HZ.out.symm,HB11.out⟩
           | false=>
            have HZ:=aa (show aC n f' ⟨o,a,b',d,m⟩=6 by rw[HR.out,HT2.out];rfl)
            clear h20
            go_wp2_with fail
            refine(ca _).mono ?_
            rintro e w' ⟨rfl,rfl⟩
            go_wp2_with fail
            go_ret
            exact⟨aj HZ.out.symm,HB11.out⟩
          ·have b20:(o==20)=false:=by simpa using h20
           by_cases h21:o=21
           ·have b21:(o==21)=true:=by simpa using h21
            have HT2:=aa (show tb=!qb by rw[HTB.out,decide_eq_false h20,decide_eq_true h21];simp)
            cases qb with
            | true=>
             have HZ:=aa (show aC n f' ⟨o,a,b',d,m⟩=0 by rw[HR.out,HT2.out];rfl)
             clear h20 h21
             go_wp2_with fail
             refine(cb _).mono ?_
             rintro e w' ⟨rfl,rfl⟩
             go_wp2_with fail
             go_ret
             exact⟨aj HZ.out.symm,HB11.out⟩
            | false=>
             have HZ:=aa (show aC n f' ⟨o,a,b',d,m⟩=6 by rw[HR.out,HT2.out];rfl)
             clear h20 h21
             go_wp2_with fail
             refine(cb _).mono ?_
             rintro e w' ⟨rfl,rfl⟩
             go_wp2_with fail
             go_ret
             exact⟨aj HZ.out.symm,HB11.out⟩
           ·have b21:(o==21)=false:=by simpa using h21
            have HZ:=aa (show aC n f' ⟨o,a,b',d,m⟩=0 by rw[HR.out,HTB.out,decide_eq_false h20,decide_eq_false h21];rfl)
            clear h20 h21
            go_wp2_with fail
            go_ret
            exact⟨aj HZ.out.symm,HB11.out⟩
end Go.Proofs.YtjbgepjdohfhkaaGreat
