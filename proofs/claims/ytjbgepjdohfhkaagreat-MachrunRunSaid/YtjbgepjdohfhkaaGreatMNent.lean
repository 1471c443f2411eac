/- The contract of the machine's enter (chapter 12). Conditions: those of the types; the frame is one of the target. -/
import Derived.Test.YtjbgepjdohfhkaaGreatMKruse
set_option linter.unusedVariables false
set_option linter.unusedSimpArgs false
set_option maxRecDepth 100000
set_option maxHeartbeats 8000000
namespace Go.Proofs.YtjbgepjdohfhkaaGreat
open Go.RowKit
theorem Tryz.info137z:(Tryz.prog.info? 137).map (fun i=>(i.zero,i.size,i.bytes))=some (some (.agg #[.int .i64 0,.int .i64 0]),2,16):=by kernel_rfl
theorem oT {S:Sk} {m:Nat} (h:m<=S.sp):cV S (m:Int)=0/\dj S (m:Int)=di S m:=by
 have e:cV S (m:Int)=0:=by simp only[cV];rw[if_neg (by omega),if_neg (by omega)]
 exact⟨e,by simp[dj,e]⟩
theorem oS {S:Sk} {m:Nat} (h:S.sp<m):cV S (m:Int)=9/\dj S (m:Int)=S:=by
 have e:cV S (m:Int)=9:=by simp only[cV];rw[if_neg (by omega),if_pos (by omega)]
 exact⟨e,by simp[dj,e]⟩
section
variable {g base fu T0:Nat} {vi vt vf vs:Value} {A1 A2:Option Addr} {c1 c2:Nat} {s:Tm}
theorem my {F:Tg} {fm:Fm} {lo n c:Nat} {A:Option Addr} {hs:List Fd} (f:Nat) (w:World) (hf:Hid (F[f]?=some fm)) (hsz:0<=fm.size) (hst:s.st.length<=1000000) (hT0:T0<=1048576) (hspT:s.mem.sp<=T0) (hdp:s.deep<=1048576) (hvf:vf=.slice A n c) (hn80:n<=80) (hPg:Hid (TgAt w lo base A n c hs F)) (h:Hid (TmAt w g base fu T0 vi vt vf A1 c1 A2 c2 vs s)) :
  Calls Tryz.prog 43 #[.pointer (some ⟨g,0,none⟩),.int .i64 (f:Int)] w (jK g base fu T0 vf (s.enter F T0 f) w):=by
 obtain⟨i0,ih,hz0,hz1,hz2⟩:=info_parts Tryz.info137z
 have hfl:f<n:=by rw[<-hPg.out.len];exact(List.getElem?_eq_some_iff.1 hf.out).1
 obtain⟨bF,oF,P,Sz,Ac,nc,cc,f',rfl,hbF,hf',hhf,hfd,d0,d1,d2⟩:=dk hPg.out hfl
 rw[hf.out] at hf'
 injection hf' with hf'
 subst hf'
 have hSz:Sz=fm.size:=hfd.s
 obtain⟨m,hm⟩:∃m:Nat,fm.size=(m:Int):=⟨fm.size.toNat,by omega⟩
 have hfs:fsz F f=m:=by
  unfold fsz fX
  rw[List.getD_eq_getElem?_getD,hf.out]
  show fm.size.toNat=m
  omega
 rw[hSz,hm] at d1
 subst hvf
 have x0:=h.out.far 0 rfl
 have HbF:=aa hbF
 have hbl:=h.out.bl
 have hf0:(0:Int)<=(f:Int):=by omega
 have hf1:(f:Int)<(n:Int):=by omega
 have cp:=fun q=>uk (m:Int) (w.drewN q) (aa (h.out.drewN q).mem)
 have hbg:bF≠g:=by have:=h.out.core.gb;omega
 clear hSz hm d0 d2 hfd hhf hsz
 by_cases hov:s.mem.sp<m
 ·have hT:s.enter F T0 f=s.stop 5:=by unfold Tm.enter;rw[hfs,if_pos hov]
  rw[hT,(oS hov).1] at *
  rw[(oS hov).2] at cp
  clear hT hfs hov
  go_enter Tryz.func43,Tryz.ntmps43
  go_upto_region 0 with(fail)
  go_region_held3 (fun w'=>w'.cell? ⟨g,25,none⟩=some (.slice (some ⟨bF,oF,none⟩) n c)/\w'.cell? ⟨bF,oF+f*3+1,none⟩=some (.int .i64 (m:Int))) (first|go_keep|exact m5)
   (first|(go_at_call 63;refine(cp _).mono ?_;rintro e w5 ⟨rfl,h5,k5⟩;have H5:=aa ((h.out.drewN _).turned h5 k5 rfl);have B5:=aa ((h.out.drewN _).belowM k5);have m5:=(⟨H5.out.far 0 rfl,(B5.out.cell (p:=⟨bF,oF+f*3+1,none⟩) HbF.out).trans d1⟩:w5.cell? ⟨g,25,none⟩=some (.slice (some ⟨bF,oF,none⟩) n c)/\w5.cell? ⟨bF,oF+f*3+1,none⟩=some (.int .i64 (m:Int)));clear h5 k5))
  have cn:=gN 5 w5 (aa H5.out.core)
  clear x0 d1 cp m5
  go_wp2_with fail
  refine cn.mono ?_
  rintro e w6 ⟨rfl,h6,k6⟩
  have H6:=aa (H5.out.cored h6 (k6.weak H5.out.core.tr))
  have B6:=aa (Below.trans (am (Below.refl base w) _) (B5.out.trans (H5.out.belowC (k6.weak H5.out.core.tr))))
  clear h6 k6 cn
  go_wp2_with fail
  go_end0
  exact⟨rfl,H6.out.in_,B6.out⟩
 ·have hms:m<=s.mem.sp:=by omega
  have hT:s.enter F T0 f={ s with mem:=di s.mem m,st:=s.st++[(f,0)],deep:=max s.deep (T0-(s.mem.sp-m)) }:=by unfold Tm.enter;rw[hfs,if_neg hov]
  rw[hT,(oT hms).1] at *
  rw[(oT hms).2] at cp
  clear hT hfs hov
  go_enter Tryz.func43,Tryz.ntmps43
  go_upto_region 0 with(fail)
  go_region_held3 (fun w'=>w'.cell? ⟨g,25,none⟩=some (.slice (some ⟨bF,oF,none⟩) n c)/\w'.cell? ⟨bF,oF+f*3+1,none⟩=some (.int .i64 (m:Int))) (first|go_keep|exact m5)
   (first|(go_at_call 63;refine(cp _).mono ?_;rintro e w5 ⟨rfl,h5,k5⟩;have H5:=aa ((h.out.drewN _).turned h5 k5 rfl);have B5:=aa ((h.out.drewN _).belowM k5);have m5:=(⟨H5.out.far 0 rfl,(B5.out.cell (p:=⟨bF,oF+f*3+1,none⟩) HbF.out).trans d1⟩:w5.cell? ⟨g,25,none⟩=some (.slice (some ⟨bF,oF,none⟩) n c)/\w5.cell? ⟨bF,oF+f*3+1,none⟩=some (.int .i64 (m:Int)));clear h5 k5))
  clear x0 d1 cp m5
  have B5':=aa (Below.trans (am (Below.refl base w) _) B5.out)
  have H5':=aa H5.out
  clear B5
  have t0:=H5'.out.far 5 rfl
  have t1:∀o:Obj,(w5.alloc o).cell? ⟨g,30,none⟩=some vs:=fun o=>(H5'.out.alloc o).far 5 rfl
  have HM3:=aa (show s.st.length+1<=maxLen by unfold maxLen;omega)
  have HM4:=aa (show(s.st.length+1)*16<=140737488355328 by omega)
  have HBL:=aa (show base<=w5.heap.size from H5'.out.bl)
  clear H5
  go_upto_region 3 with(at_builtin;refine wpList_append_own _ rfl (.tmp 25) (.tmp 28) 69 rfl base 137 i0 (.agg #[.int .i64 0,.int .i64 0]) 2 16 Tryz.underlying69 ih hz0 hz1 hz2 rfl (by decide) vs s.st.length (aA s.st) rfl ((H5'.out.alloc _).st) ⟨w5.heap.size,0,none⟩ 1 1 (gd (f,0)) rfl rfl (fun j u hu=>by rw[WideShapes.add_plain,Nat.zero_add];exact(Row.new w5 137 (gd (f,0))).cell hu) (io _) HM3.out HM4.out (Nat.le_trans HBL.out (by simp)) ?_;intro v2 w7 ho2 hg2 _;obtain⟨A7,c7,rfl⟩:=jC ho2;have FIN:=aa (H5'.out.pushed ((World.grownBy_alloc w5 _ _).trans hg2) ho2);have p0:=FIN.out.2.1.cell (k:=30) (show(bD fu s.c vi vt++db T0 _ _ A1 c1 A2 c2 vs)[24+6]?=some vs by rw[fd H5'.out.core.r8];rfl);have p1:=FIN.out.2.1.free 30;clear hg2 ho2 t0 t1)
  obtain⟨W8,hW8⟩:∃W8,w7.setCell ⟨g,30,none⟩ (.slice A7 (s.st.length+1) c7)=W8:=⟨_,rfl⟩
  have H8:=aa FIN.out.1
  have B8:=aa (B5'.out.trans FIN.out.2.2)
  rw[show 25+5=30 from rfl,hW8] at H8 B8
  rw[hW8]
  clear FIN hW8 p0 p1 HM3 HM4 HBL H5' B5'
  have d0:=H8.out.far 6 rfl
  have d1:=H8.out.far 4 rfl
  have d2:=H8.out.far 3 rfl
  have d3:=H8.out.free 31
  have hps:(di s.mem m).sp=s.mem.sp-m:=rfl
  have FX:=aa (show∀X:Int,X=((max s.deep (T0-(s.mem.sp-m)):Nat):Int)->TmAt (W8.setCell ⟨g,31,none⟩ (.int .i64 X)) g base fu T0 vi vt (.slice (some ⟨bF,oF,none⟩) n c) A1 c1 A2 c2 (.slice A7 (s.st.length+1) c7) { s with mem:=di s.mem m,st:=s.st++[(f,0)],deep:=max s.deep (T0-(s.mem.sp-m)) } from fun X e=>by
   rw[e]
   exact H8.out.setRest 6 (.int .i64 ((max s.deep (T0-(s.mem.sp-m)):Nat):Int)) rfl rfl rfl (H8.out.st.kept (ey W8 g 31 _) (bV H8.out.st H8.out.core.row (by decide))))
  have hgb:=aa H8.out.core.gb
  obtain⟨q,hq⟩:∃q:Nat,s.mem.sp-m=q:=⟨_,rfl⟩
  rw[hps,hq] at d2
  have hqT:q<=T0:=by omega
  have hw1:IntKind.i64.wrap ((T0:Int)-(q:Int))=(T0:Int)-(q:Int):=by rw[IntKind.wrap_i64];omega
  have HQ:=aa hq
  clear hps hms H8 hq
  go_wp2_with (first|go_region)
  all_goals
   go_end0
   exact⟨rfl,(FX.out _ (by rw[HQ.out];omega)).drew_.in_,am (B8.out.trans ((Below.refl _ _).setCell (p:=⟨g,31,none⟩) hgb.out _)) 1⟩
end
theorem qo {S:Sk} {m:Nat} (h:S.sp+m<=S.bs.length):eH S (m:Int)=0/\fE S (m:Int)=dw S m:=by
 have e:eH S (m:Int)=0:=by unfold eH;rw[if_neg (by omega)]
 exact⟨e,by simp[fE,e]⟩
section
variable {g base fu T0:Nat} {vi vt vf vs:Value} {A1 A2:Option Addr} {c1 c2:Nat} {s:Tm}
theorem qU {F:Tg} {fm:Fm} {lo n c:Nat} {A:Option Addr} {hs:List Fd} (w:World) (hn:1<=s.st.length) (hst:s.st.length<=1000000) (hf:Hid (F[s.top.1]?=some fm)) (hsz:0<=fm.size) (hpop:s.mem.sp+fsz F s.top.1<=s.mem.bs.length) (hvf:vf=.slice A n c) (hn80:n<=80) (hPg:Hid (TgAt w lo base A n c hs F)) (h:Hid (TmAt w g base fu T0 vi vt vf A1 c1 A2 c2 vs s)) :
  Calls Tryz.prog 66 #[.pointer (some ⟨g,0,none⟩)] w (jK g base fu T0 vf (s.leave F) w):=by
 obtain⟨G,cG,k,z,ys,ht,hGg⟩:=h.out.topT hn
 obtain⟨rfl,hzs,hyk,ht0,ht1,hfr,hGl,hGb,hcap⟩:=ht
 have htop:s.top=z:=by unfold Tm.top;rw[hzs,List.getLastD_concat]
 have hdl:s.st.dropLast=ys:=by rw[hzs,List.dropLast_concat]
 rw[htop] at hf hpop
 obtain⟨f,pc⟩:=z
 dsimp only at *
 have hfl:f<n:=by rw[<-hPg.out.len];exact(List.getElem?_eq_some_iff.1 hf.out).1
 obtain⟨bF,oF,P,Sz,Ac,nc,cc,f',rfl,hbF,hf',hhf,hfd,d0,d1,d2⟩:=dk hPg.out hfl
 rw[hf.out] at hf'
 injection hf' with hf'
 subst hf'
 have hSz:Sz=fm.size:=hfd.s
 obtain⟨m,hm⟩:∃m:Nat,fm.size=(m:Int):=⟨fm.size.toNat,by omega⟩
 have hfs:fsz F f=m:=by
  unfold fsz fX
  rw[List.getD_eq_getElem?_getD,hf.out]
  show fm.size.toNat=m
  omega
 rw[hSz,hm] at d1
 rw[hfs] at hpop
 subst hvf
 have hlen:s.st.length=k+1:=by rw[hzs,List.length_append,hyk];rfl
 have hL:s.leave F=if k=0 then { s with mem:=dw s.mem m,st:=ys,c:=s.c.ret } else { s with mem:=dw s.mem m,st:=ys }:=by
  unfold Tm.leave
  dsimp only
  rw[htop,hdl,hlen,hfs]
  by_cases h0:k=0
  ·rw[if_pos h0,if_pos (by omega)]
  ·rw[if_neg h0,if_neg (by omega)]
 have x0:=h.out.far 0 rfl
 have x5:=h.out.far 5 rfl
 have HLEN:=aa hlen
 have HZS:=aa hzs
 have HYK:=aa hyk
 rw[hlen] at hst
 have hf0:(0:Int)<=(f:Int):=by omega
 have hf1:(f:Int)<(n:Int):=by omega
 have hk0:(0:Int)<=(k:Int):=by omega
 have hwk:IntKind.i64.wrap ((k:Int)+1-1)=(k:Int):=by rw[IntKind.wrap_i64];omega
 have hwk2:((k+1:Nat):Int)=(k:Int)+1:=by omega
 rw[hL]
 have cp:=fun(p:After w)=>wn (m:Int) p.w (aa (h.out.call p.b).mem)
 rw[(qo hpop).1,(qo hpop).2] at cp
 have CP:=aa cp
 have HPO:=aa hpop
 clear hL hSz hm d0 d2 hfd hhf hsz hfs hdl htop hlen hzs hyk cp hpop
 rcases Nat.eq_zero_or_pos k with rfl|hkp
 ·have ht0:w.cell? ⟨G,0,none⟩=some (.int .i64 (f:Int)):=by simpa using ht0
  go_enter Tryz.func66,Tryz.ntmps66
  go_upto_region 1 with(fail)
  have x0:=fun p:After w=>af x0 p
  have x5:=fun p:After w=>af x5 p
  have t0:=fun p:After w=>af ht0 p
  have d1:=fun p:After w=>af d1 p
  refine cX 18 (by kernel_rfl) rfl rfl (by kernel_rfl) (by kernel_rfl) (by kernel_rfl) (C:=fun w'=>∃p:After w,w'=p.w) ⟨⟨w.drew,(Below.refl _ _).drew⟩,rfl⟩ ?_
  dsimp only[List.take_succ_cons,List.take_zero]
  repeat(go_big_quiet_step (fail))
  refine wpQuiet_nil ?_
  intro _ hw'
  obtain⟨p1,hw''⟩:=hw'
  subst hw''
  clear x0 x5 t0 d1
  go_wp2_with fail
  refine(CP.out p1).mono ?_
  rintro e w2 ⟨rfl,h2,k2⟩
  have H2:=aa ((h.out.call p1.b).turned h2 k2 rfl)
  have B2:=aa (Below.trans (p1.b.mono h.out.bl) ((h.out.call p1.b).belowM k2))
  clear h2 k2 CP
  have y5:=H2.out.far 5 rfl
  have y5f:=H2.out.free 30
  have hst2:w2.ownsRow base 137 2 (.slice (some ⟨G,0,none⟩) (0+1) cG) (0+1) (aA s.st):=by have:=H2.out.st;rwa[show({ s with mem:=dw s.mem m }:Tm).st.length=0+1 from HLEN.out] at this
  have hsh:=mK hst2
  have htk:(aA s.st).take (0*2)=aA ys:=by
   rw[HZS.out,eB,List.take_left' (by rw[dV,HYK.out])]
  rw[htk] at hsh
  obtain⟨W3,hW3⟩:∃W3,w2.setCell ⟨g,30,none⟩ (.slice (some ⟨G,0,none⟩) 0 cG)=W3:=⟨_,rfl⟩
  have H3:=aa (show TmAt W3 g base fu T0 vi vt (.slice (some ⟨bF,oF,none⟩) n c) A1 c1 A2 c2 (.slice (some ⟨G,0,none⟩) 0 cG) { s with mem:=dw s.mem m,st:=ys } by
   rw[<-hW3]
   exact H2.out.setRest 5 (.slice (some ⟨G,0,none⟩) 0 cG) rfl rfl rfl (by
    show World.ownsRow _ base _ 2 _ ys.length (aA ys)
    rw[HYK.out]
    exact hsh.kept (ey w2 g 30 _) (bV hsh H2.out.core.row (by decide))))
  have B3:=aa (show Below base w W3 by rw[<-hW3];exact B2.out.trans ((Below.refl _ _).setCell (p:=⟨g,30,none⟩) H2.out.core.gb _))
  have HW3:=aa hW3
  clear hW3 hst2 hsh htk
  go_upto_region 3 with(first|go_region)
  rw[HW3.out]
  clear HW3 y5 y5f H2 B2
  have cr:=pw W3 (aa H3.out.core)
  go_wp2_with fail
  refine cr.mono ?_
  rintro e w6 ⟨rfl,h6,k6⟩
  have H6:=aa (H3.out.cored h6 (k6.weak H3.out.core.tr))
  have B6:=aa (B3.out.trans (H3.out.belowC (k6.weak H3.out.core.tr)))
  clear h6 k6 cr
  go_wp2_with fail
  go_end0
  exact⟨rfl,H6.out.in_,B6.out⟩
 ·have hkn:¬k=0:=by omega
  go_enter Tryz.func66,Tryz.ntmps66
  go_upto_region 1 with(fail)
  have x0:=fun p:After w=>af x0 p
  have x5:=fun p:After w=>af x5 p
  have t0:=fun p:After w=>af ht0 p
  have d1:=fun p:After w=>af d1 p
  refine cX 18 (by kernel_rfl) rfl rfl (by kernel_rfl) (by kernel_rfl) (by kernel_rfl) (C:=fun w'=>∃p:After w,w'=p.w) ⟨⟨w.drew,(Below.refl _ _).drew⟩,rfl⟩ ?_
  dsimp only[List.take_succ_cons,List.take_zero]
  repeat(go_big_quiet_step (fail))
  refine wpQuiet_nil ?_
  intro _ hw'
  obtain⟨p1,hw''⟩:=hw'
  subst hw''
  clear x0 x5 t0 d1
  go_wp2_with fail
  refine(CP.out p1).mono ?_
  rintro e w2 ⟨rfl,h2,k2⟩
  have H2:=aa ((h.out.call p1.b).turned h2 k2 rfl)
  have B2:=aa (Below.trans (p1.b.mono h.out.bl) ((h.out.call p1.b).belowM k2))
  clear h2 k2 CP
  have y5:=H2.out.far 5 rfl
  have y5f:=H2.out.free 30
  have hst2:w2.ownsRow base 137 2 (.slice (some ⟨G,0,none⟩) (k+1) cG) (k+1) (aA s.st):=by have:=H2.out.st;rwa[show({ s with mem:=dw s.mem m }:Tm).st.length=k+1 from HLEN.out] at this
  have hsh:=mK hst2
  have htk:(aA s.st).take (k*2)=aA ys:=by
   rw[HZS.out,eB,List.take_left' (by rw[dV,HYK.out])]
  rw[htk] at hsh
  obtain⟨W3,hW3⟩:∃W3,w2.setCell ⟨g,30,none⟩ (.slice (some ⟨G,0,none⟩) k cG)=W3:=⟨_,rfl⟩
  have H3:=aa (show TmAt W3 g base fu T0 vi vt (.slice (some ⟨bF,oF,none⟩) n c) A1 c1 A2 c2 (.slice (some ⟨G,0,none⟩) k cG) { s with mem:=dw s.mem m,st:=ys } by
   rw[<-hW3]
   exact H2.out.setRest 5 (.slice (some ⟨G,0,none⟩) k cG) rfl rfl rfl (by
    show World.ownsRow _ base _ 2 _ ys.length (aA ys)
    rw[HYK.out]
    exact hsh.kept (ey w2 g 30 _) (bV hsh H2.out.core.row (by decide))))
  have B3:=aa (show Below base w W3 by rw[<-hW3];exact B2.out.trans ((Below.refl _ _).setCell (p:=⟨g,30,none⟩) H2.out.core.gb _))
  have HW3:=aa hW3
  clear hW3 hst2 hsh htk
  go_upto_region 3 with(first|go_region)
  rw[HW3.out]
  clear HW3 y5 y5f H2 B2
  go_wp2_with fail
  go_end0
  exact⟨rfl,H3.out.in_,B3.out⟩
end
section
attribute [local go_sem ↓] Go.wp_at_zero Go.wp_at_succ
theorem wC {A1 A2:Option Addr} {c1 c2:Nat} {S:Sk} (off n:Int) (ho:isI off) (w:World) (hS:Hid (StkAt w w.heap.size A1 c1 A2 c2 S)) :
  Calls Tryz.prog 94 #[sv A1 c1 A2 c2 S,.int .i64 off,.int .i64 n] w (cS S off n w):=by
 have hok:=aa hS.out.ok
 have hmost:=hS.out.ok.most
 have hsp:=hS.out.ok.sp
 have hm1:=hS.out.m1
 have hm2:=hS.out.m2
 obtain⟨W0,hW0⟩:∃W,(w.alloc (.cells #[.slice A1 S.bs.length c1,.slice A2 S.bs.length c2,.int .i64 (S.sp:Int)] 66)).alloc (.cells #[.int .u64 0,.int .u64 0] 38)=W:=⟨_,rfl⟩
 have HW0:=aa hW0
 have RX0:=aa (show Row W0 (w.heap.size) 66 [.slice A1 S.bs.length c1,.slice A2 S.bs.length c2,.int .i64 (S.sp:Int)] by rw[<-hW0];exact((Row.new w 66 [.slice A1 S.bs.length c1,.slice A2 S.bs.length c2,.int .i64 (S.sp:Int)]).alloc _))
 have RZ0:=aa (show Row W0 (w.heap.size+1) 38 [.int .u64 0,.int .u64 0] by rw[<-hW0];exact(Row.new (w.alloc (.cells #[.slice A1 S.bs.length c1,.slice A2 S.bs.length c2,.int .i64 (S.sp:Int)] 66)) 38 [.int .u64 0,.int .u64 0]).at_ (by simp))
 have B0:=aa (show Below w.heap.size w W0 by rw[<-hW0];exact aP w _ _)
 have Z0:=aa (show W0.heap.size=w.heap.size+2 by rw[<-hW0];simp)
 clear hW0
 have S0:=aa ((hS.out.below B0.out).more B0.out.size)
 cases hf:bN S off n with
 | false=>
  obtain⟨hE,hB,hV⟩:=qu hf
  have HE:=aa (show cS S off n w=fun e w'=>e=.returned (.tuple #[.agg #[.int .u64 0,.int .u64 0],.bool false,.int .i64 4])/\Below w.heap.size w w' by unfold cS;rw[hE,hB,hV,kw])
  rw[HE.out]
  clear hE hB hV
  have cf:=fun(W:World) (HS:Hid (StkAt W W.heap.size A1 c1 A2 c2 S))=>jm (A1:=A1) (A2:=A2) (c1:=c1) (c2:=c2) off n W hok
  rw[hf] at cf
  clear hf
  go_enter Tryz.func94,Tryz.ntmps94
  go_upto_region 1 with(fail)
  rw[HW0.out]
  have fX0:=RX0.out.cell (k:=0) rfl
  have fX1:=RX0.out.cell (k:=1) rfl
  have fX2:=RX0.out.cell (k:=2) rfl
  go_wp2_with fail
  refine(cf _ S0).mono ?_
  rintro e w1 ⟨rfl,hb1⟩
  have RX2:=aa (RX0.out.call hb1)
  clear RX0
  have RZ2:=aa (RZ0.out.call hb1)
  clear RZ0
  have S12:=aa (S0.out.call hb1)
  clear S0
  have B2:=aa (ac B0.out hb1)
  clear B0
  clear hb1
  clear fX0 fX1 fX2
  have fX0:=RX2.out.cell (k:=0) rfl
  have fX1:=RX2.out.cell (k:=1) rfl
  have fX2:=RX2.out.cell (k:=2) rfl
  have fZ0:=RZ2.out.cell (k:=0) rfl
  have fZ1:=RZ2.out.cell (k:=1) rfl
  have yZ0:=RZ2.out.free 0
  have yZ1:=RZ2.out.free 1
  go_wp2_with fail
  obtain⟨W3,hW3⟩:∃W,(w1.setCell ⟨w.heap.size+1,0,none⟩ (.int .u64 0)).setCell ⟨w.heap.size+1,1,none⟩ (.int .u64 0)=W:=⟨_,rfl⟩
  have HW3:=aa hW3
  have RZ3:=aa (show Row W3 (w.heap.size+1) 38 [.int .u64 0,.int .u64 0] by rw[<-hW3];exact((RZ2.out).set_ 0 _).set_ 1 _)
  have RX3:=aa (show Row W3 (w.heap.size) 66 [.slice A1 S.bs.length c1,.slice A2 S.bs.length c2,.int .i64 (S.sp:Int)] by rw[<-hW3];exact((RX2.out).far (p:=⟨w.heap.size+1,0,none⟩) (by simp) _).far (p:=⟨w.heap.size+1,1,none⟩) (by simp) _)
  clear RX2
  have B3:=aa (show Below w.heap.size w W3 by rw[<-hW3];exact ay (ay (B2.out) (by omega)) (by omega))
  clear hW3 RZ2
  clear fX0 fX1 fX2 fZ0 fZ1 yZ0 yZ1
  have fZ0:=RZ3.out.cell (k:=0) rfl
  have fZ1:=RZ3.out.cell (k:=1) rfl
  rw[HW3.out]
  refine bodyPost_ret (v:=.tuple #[.agg #[.int .u64 0,.int .u64 0],.bool false,.int .i64 4]) (by simp[results,Tryz.results94,go_sem,fZ0,fZ1]) rfl ?_
  exact⟨rfl,B3.out⟩
 | true=>
  obtain⟨o,m,rfl,rfl,hm0,hm16,hfit⟩:=gM hf
  have cf:=fun(W:World) (HS:Hid (StkAt W W.heap.size A1 c1 A2 c2 S))=>jm (A1:=A1) (A2:=A2) (c1:=c1) (c2:=c2) (o:Int) (m:Int) W hok
  rw[hf] at cf
  have cu:=fun(W:World) (HS:Hid (StkAt W W.heap.size A1 c1 A2 c2 S))=>oE (S.sp+o) m W HS hm0 hfit
  rw[show((S.sp+o:Nat):Int)=(S.sp:Int)+(o:Int) by omega] at cu
  cases hu:dg S (S.sp+o) m with
  | false=>
   obtain⟨hE,hB,hV⟩:=eT hf hu
   have HE:=aa (show cS S o m w=fun e w'=>e=.returned (.tuple #[.agg #[.int .u64 0,.int .u64 0],.bool false,.int .i64 0])/\Below w.heap.size w w' by unfold cS;rw[hE,hB,hV,kw])
   rw[HE.out]
   clear hE hB hV hf
   rw[hu] at cu
   clear hu
   go_enter Tryz.func94,Tryz.ntmps94
   go_upto_region 1 with(fail)
   rw[HW0.out]
   have fX0:=RX0.out.cell (k:=0) rfl
   have fX1:=RX0.out.cell (k:=1) rfl
   have fX2:=RX0.out.cell (k:=2) rfl
   go_wp2_with fail
   refine(cf _ S0).mono ?_
   rintro e w1 ⟨rfl,hb1⟩
   have RX2:=aa (RX0.out.call hb1)
   clear RX0
   have RZ2:=aa (RZ0.out.call hb1)
   clear RZ0
   have S12:=aa (S0.out.call hb1)
   clear S0
   have B2:=aa (ac B0.out hb1)
   clear B0
   clear hb1
   clear fX0 fX1 fX2
   have fX0:=RX2.out.cell (k:=0) rfl
   have fX1:=RX2.out.cell (k:=1) rfl
   have fX2:=RX2.out.cell (k:=2) rfl
   go_wp2_with fail
   refine(cu _ S12).mono ?_
   rintro e w3 ⟨rfl,hb3⟩
   have RX4:=aa (RX2.out.call hb3)
   clear RX2
   have RZ4:=aa (RZ2.out.call hb3)
   clear RZ2
   have S14:=aa (S12.out.call hb3)
   clear S12
   have B4:=aa (ac B2.out hb3)
   clear B2
   clear hb3
   clear fX0 fX1 fX2
   have fX0:=RX4.out.cell (k:=0) rfl
   have fX1:=RX4.out.cell (k:=1) rfl
   have fX2:=RX4.out.cell (k:=2) rfl
   have fZ0:=RZ4.out.cell (k:=0) rfl
   have fZ1:=RZ4.out.cell (k:=1) rfl
   have yZ0:=RZ4.out.free 0
   have yZ1:=RZ4.out.free 1
   go_wp2_with fail
   obtain⟨W5,hW5⟩:∃W,(w3.setCell ⟨w.heap.size+1,0,none⟩ (.int .u64 0)).setCell ⟨w.heap.size+1,1,none⟩ (.int .u64 0)=W:=⟨_,rfl⟩
   have HW5:=aa hW5
   have RZ5:=aa (show Row W5 (w.heap.size+1) 38 [.int .u64 0,.int .u64 0] by rw[<-hW5];exact((RZ4.out).set_ 0 _).set_ 1 _)
   have RX5:=aa (show Row W5 (w.heap.size) 66 [.slice A1 S.bs.length c1,.slice A2 S.bs.length c2,.int .i64 (S.sp:Int)] by rw[<-hW5];exact((RX4.out).far (p:=⟨w.heap.size+1,0,none⟩) (by simp) _).far (p:=⟨w.heap.size+1,1,none⟩) (by simp) _)
   clear RX4
   have B5:=aa (show Below w.heap.size w W5 by rw[<-hW5];exact ay (ay (B4.out) (by omega)) (by omega))
   clear hW5 RZ4
   clear fX0 fX1 fX2 fZ0 fZ1 yZ0 yZ1
   have fZ0:=RZ5.out.cell (k:=0) rfl
   have fZ1:=RZ5.out.cell (k:=1) rfl
   rw[HW5.out]
   refine bodyPost_ret (v:=.tuple #[.agg #[.int .u64 0,.int .u64 0],.bool false,.int .i64 0]) (by simp[results,Tryz.results94,go_sem,fZ0,fZ1]) rfl ?_
   exact⟨rfl,B5.out⟩
  | true=>
   obtain⟨hE,hB,hV⟩:=gC hf hu
   obtain⟨V,hVV⟩:∃V,aO ((dz S (S.sp+o) m).take 16)=V:=⟨_,rfl⟩
   rw[hVV] at hV
   have HE:=aa (show cS S o m w=fun e w'=>e=.returned (.tuple #[.agg #[.int .u64 (lo V),.int .u64 (hi V)],.bool true,.int .i64 0])/\Below w.heap.size w w' by unfold cS;rw[hE,hB,hV])
   rw[HE.out]
   clear hE hB hV hf
   rw[hu] at cu
   clear hu
   obtain⟨⟨b,off,hA,hbl⟩,_⟩:=hS.out.place (by omega)
   subst hA
   have hcl:=aa (fV (S:=S) (a:=S.sp+o) (n:=m) hfit)
   have hcb:=aa (iy hok.out (S.sp+o) m)
   have cm:=fun(W:World) (HS:Hid (StkAt W W.heap.size (some ⟨b,off,none⟩) c1 A2 c2 S))=>wP (some ⟨b,off+(S.sp+o),none⟩) m (c1-(S.sp+o)) (dz S (S.sp+o) m) W.heap.size W hcl (by omega) (by omega) (by have:=HS.out.cut (S.sp+o) m;rwa[Option.map_some,WideShapes.add_plain] at this) (Nat.le_refl _) hcb
   rw[hVV] at cm
   clear hVV
   go_enter Tryz.func94,Tryz.ntmps94
   go_upto_region 1 with(fail)
   rw[HW0.out]
   have fX0:=RX0.out.cell (k:=0) rfl
   have fX1:=RX0.out.cell (k:=1) rfl
   have fX2:=RX0.out.cell (k:=2) rfl
   go_wp2_with fail
   refine(cf _ S0).mono ?_
   rintro e w1 ⟨rfl,hb1⟩
   have RX2:=aa (RX0.out.call hb1)
   clear RX0
   have RZ2:=aa (RZ0.out.call hb1)
   clear RZ0
   have S12:=aa (S0.out.call hb1)
   clear S0
   have B2:=aa (ac B0.out hb1)
   clear B0
   clear hb1
   clear fX0 fX1 fX2
   have fX0:=RX2.out.cell (k:=0) rfl
   have fX1:=RX2.out.cell (k:=1) rfl
   have fX2:=RX2.out.cell (k:=2) rfl
   go_wp2_with fail
   refine(cu _ S12).mono ?_
   rintro e w3 ⟨rfl,hb3⟩
   have RX4:=aa (RX2.out.call hb3)
   clear RX2
   have RZ4:=aa (RZ2.out.call hb3)
   clear RZ2
   have S14:=aa (S12.out.call hb3)
   clear S12
   have B4:=aa (ac B2.out hb3)
   clear B2
   clear hb3
   clear fX0 fX1 fX2
   have fX0:=RX4.out.cell (k:=0) rfl
   have fX1:=RX4.out.cell (k:=1) rfl
   have fX2:=RX4.out.cell (k:=2) rfl
   go_wp2_with fail
   refine(cm _ S14).mono ?_
   rintro e w5 ⟨rfl,hb5⟩
   have RX6:=aa (RX4.out.call hb5)
   clear RX4
   have RZ6:=aa (RZ4.out.call hb5)
   clear RZ4
   have S16:=aa (S14.out.call hb5)
   clear S14
   have B6:=aa (ac B4.out hb5)
   clear B4
   clear hb5
   clear fX0 fX1 fX2
   have fX0:=RX6.out.cell (k:=0) rfl
   have fX1:=RX6.out.cell (k:=1) rfl
   have fX2:=RX6.out.cell (k:=2) rfl
   have fZ0:=RZ6.out.cell (k:=0) rfl
   have fZ1:=RZ6.out.cell (k:=1) rfl
   have yZ0:=RZ6.out.free 0
   have yZ1:=RZ6.out.free 1
   go_wp2_with fail
   obtain⟨W7,hW7⟩:∃W,(w5.setCell ⟨w.heap.size+1,0,none⟩ (.int .u64 (lo V))).setCell ⟨w.heap.size+1,1,none⟩ (.int .u64 (hi V))=W:=⟨_,rfl⟩
   have HW7:=aa hW7
   have RZ7:=aa (show Row W7 (w.heap.size+1) 38 [.int .u64 (lo V),.int .u64 (hi V)] by rw[<-hW7];exact((RZ6.out).set_ 0 _).set_ 1 _)
   have RX7:=aa (show Row W7 (w.heap.size) 66 [.slice (some ⟨b,off,none⟩) S.bs.length c1,.slice A2 S.bs.length c2,.int .i64 (S.sp:Int)] by rw[<-hW7];exact((RX6.out).far (p:=⟨w.heap.size+1,0,none⟩) (by simp) _).far (p:=⟨w.heap.size+1,1,none⟩) (by simp) _)
   clear RX6
   have B7:=aa (show Below w.heap.size w W7 by rw[<-hW7];exact ay (ay (B6.out) (by omega)) (by omega))
   clear hW7 RZ6
   clear fX0 fX1 fX2 fZ0 fZ1 yZ0 yZ1
   have fZ0:=RZ7.out.cell (k:=0) rfl
   have fZ1:=RZ7.out.cell (k:=1) rfl
   rw[HW7.out]
   refine bodyPost_ret (v:=.tuple #[.agg #[.int .u64 (lo V),.int .u64 (hi V)],.bool true,.int .i64 0]) (by simp[results,Tryz.results94,go_sem,fZ0,fZ1]) rfl ?_
   exact⟨rfl,B7.out⟩
end
section
variable {g base fu T0:Nat} {vi vt vf vs:Value} {A1 A2:Option Addr} {c1 c2:Nat} {s:Tm}
theorem lQ (w:World) (h:Hid (TmAt w g base fu T0 vi vt vf A1 c1 A2 c2 vs s)) :
  Calls Tryz.prog 96 #[.pointer (some ⟨g,0,none⟩),.bool true,.int .i64 0] w fun e w'=>e=.returned (.tuple #[])/\Below w.heap.size w w':=by
 go_enter Tryz.func96,Tryz.ntmps96
 go_wp2_with fail
 go_end0
 exact⟨rfl,Below.refl _ _⟩
theorem lF (w:World) (h:Hid (TmAt w g base fu T0 vi vt vf A1 c1 A2 c2 vs s)) :
  Calls Tryz.prog 96 #[.pointer (some ⟨g,0,none⟩),.bool false,.int .i64 0] w fun e w'=>e=.returned (.tuple #[])/\TmAt w' g base fu T0 vi vt vf A1 c1 A2 c2 vs (s.stop 3)/\CKp w w' g base:=by
 have cn:=gN 3 w (aa h.out.core)
 go_enter Tryz.func96,Tryz.ntmps96
 go_wp2_with fail
 refine cn.mono ?_
 rintro e w6 ⟨rfl,h6,k6⟩
 have H6:=aa (h.out.cored h6 (k6.weak h.out.core.tr))
 have K6:=aa (k6.weak h.out.core.tr)
 clear h6 k6 cn
 go_wp2_with fail
 go_end0
 exact⟨rfl,H6.out,K6.out⟩
theorem lR (w:World) (op a b d m:Int) (h:Hid (TmAt w g base fu T0 vi vt vf A1 c1 A2 c2 vs s)):∃W1,w.alloc (.cells #[.int .i64 op,.int .i64 a,.int .i64 b,.int .i64 d,.int .u64 m] 50)=W1/\Hid (Row W1 w.heap.size 50 [.int .i64 op,.int .i64 a,.int .i64 b,.int .i64 d,.int .u64 m])/\Hid (TmAt W1 g base fu T0 vi vt vf A1 c1 A2 c2 vs s)/\Hid (Below base w W1):=
 ⟨_,rfl,aa (Row.new w _ _),aa (h.out.alloc _),aa ((ag w _).mono h.out.bl)⟩
theorem xV (a b d m:Int) (w:World) (ha:AccOk T0 s ⟨17,a,b,d,m⟩) (hlen:T0<=s.mem.bs.length) (h:Hid (TmAt w g base fu T0 vi vt vf A1 c1 A2 c2 vs s)) :
  Calls Tryz.prog 65 #[.pointer (some ⟨g,0,none⟩),iv 17 a b d m] w (jK g base fu T0 vf (s.access ⟨17,a,b,d,m⟩) w):=by
 have hsz:szB d=true:=ha.sz
 have hs1:=gS hsz
 obtain⟨r1,r2⟩:=ha.wr (show¬(17:Int)=15 by decide)
 obtain⟨r3,r4⟩:=ha.rd (show¬(17:Int)=16 by decide)
 dsimp only at r1 r2 r3 r4
 have hf1:bN s.mem a d=true:=fh hsz r1 (by omega)
 have hf2:bN s.mem b d=true:=fh hsz r3 (by omega)
 obtain⟨a',rfl⟩:∃k:Nat,a=(k:Int):=⟨a.toNat,by omega⟩
 obtain⟨b',rfl⟩:∃k:Nat,b=(k:Int):=⟨b.toNat,by omega⟩
 obtain⟨d',rfl⟩:∃k:Nat,d=(k:Int):=⟨d.toNat,by omega⟩
 simp only[Int.toNat_natCast] at r2 r4
 obtain⟨W1,hW1,R1,H1,B1⟩:=lR w 17 (a':Int) (b':Int) (d':Int) m h
 have HW1:=aa hW1
 have hgX:=aa (show w.heap.size≠g by have:=h.out.gl;omega)
 have x0:=R1.out.cell (k:=0) rfl
 have x1:=R1.out.cell (k:=1) rfl
 have x2:=R1.out.cell (k:=2) rfl
 have x3:=R1.out.cell (k:=3) rfl
 have cm:=fun q=>um (a':Int) (b':Int) (d':Int) (W1.drewN q) (aa (H1.out.drewN q).mem)
 have hA:s.access ⟨17,(a':Int),(b':Int),(d':Int),m⟩=if dg s.mem (s.mem.sp+b') d'=false then s.stop 3 else { s with mem:=iU s.mem (s.mem.sp+a') (dz s.mem (s.mem.sp+b') d') }:=by
  unfold Tm.access
  dsimp only
  rw[if_neg (by decide),if_neg (by decide),if_neg (by rw[hf1,hf2];simp)]
  rfl
 rw[hA]
 clear hW1 hA
 cases hu:dg s.mem (s.mem.sp+b') d' with
 | false=>
  obtain⟨hE,hB,hR⟩:=kr hf1 hf2 hu
  rw[hE,hB,hR] at cm
  clear hE hB hR hf1 hf2 hu
  go_enter Tryz.func65,Tryz.ntmps65
  go_upto_region 1 with(fail)
  rw[HW1.out]
  clear HW1
  go_upto_region 9 with(fail)
  go_region_held3 (fun w'=>w'.cell? ⟨w.heap.size,1,none⟩=some (.int .i64 (a':Int))/\w'.cell? ⟨w.heap.size,2,none⟩=some (.int .i64 (b':Int))/\w'.cell? ⟨w.heap.size,3,none⟩=some (.int .i64 (d':Int))) (first|go_keep|exact m5|exact m6)
   (first
    | (go_at_call 98;refine(cm _).mono ?_;rintro e w5 ⟨rfl,h5,k5⟩;have H5:=aa ((H1.out.drewN _).stored h5 k5 rfl rfl);have B5:=aa ((H1.out.drewN _).belowM k5);have R5:=aa (k5.row (R1.out.drewN _) hgX.out (.inr ⟨by decide,by decide⟩));have m5:=(⟨R5.out.cell (k:=1) rfl,R5.out.cell (k:=2) rfl,R5.out.cell (k:=3) rfl⟩:w5.cell? ⟨w.heap.size,1,none⟩=some (.int .i64 (a':Int))/\w5.cell? ⟨w.heap.size,2,none⟩=some (.int .i64 (b':Int))/\w5.cell? ⟨w.heap.size,3,none⟩=some (.int .i64 (d':Int)));clear h5 k5)
    | (go_at_call 96;refine(lF w5 H5).mono ?_;rintro e w6 ⟨rfl,h6,k6⟩;have H6:=aa h6;have B6:=aa (H5.out.belowC k6);have R6:=aa (k6.row R5.out hgX.out (.inr (by decide)));have m6:=(⟨R6.out.cell (k:=1) rfl,R6.out.cell (k:=2) rfl,R6.out.cell (k:=3) rfl⟩:w6.cell? ⟨w.heap.size,1,none⟩=some (.int .i64 (a':Int))/\w6.cell? ⟨w.heap.size,2,none⟩=some (.int .i64 (b':Int))/\w6.cell? ⟨w.heap.size,3,none⟩=some (.int .i64 (d':Int)));clear h6 k6))
  all_goals
   go_wp2_with fail
   go_end0
   exact⟨rfl,H6.out.in_,((am B1.out _).trans B5.out).trans B6.out⟩
 | true=>
  obtain⟨hE,hB,hR⟩:=lZ hf1 hf2 hu
  rw[hE,hB,hR] at cm
  have hPL:=aa (iq (S:=s.mem) (a:=s.mem.sp+a') (zs:=dz s.mem (s.mem.sp+b') d') (by rw[fV (by omega)];omega))
  clear hE hB hR hf1 hf2 hu
  go_enter Tryz.func65,Tryz.ntmps65
  go_upto_region 1 with(fail)
  rw[HW1.out]
  clear HW1
  go_upto_region 9 with(fail)
  go_region_held3 (fun w'=>w'.cell? ⟨w.heap.size,1,none⟩=some (.int .i64 (a':Int))/\w'.cell? ⟨w.heap.size,2,none⟩=some (.int .i64 (b':Int))/\w'.cell? ⟨w.heap.size,3,none⟩=some (.int .i64 (d':Int))) (first|go_keep|exact m5|exact m6)
   (first
    | (go_at_call 98;refine(cm _).mono ?_;rintro e w5 ⟨rfl,h5,k5⟩;have H5:=aa ((H1.out.drewN _).stored h5 k5 hPL.out rfl);have B5:=aa ((H1.out.drewN _).belowM k5);have R5:=aa (k5.row (R1.out.drewN _) hgX.out (.inr ⟨by decide,by decide⟩));have m5:=(⟨R5.out.cell (k:=1) rfl,R5.out.cell (k:=2) rfl,R5.out.cell (k:=3) rfl⟩:w5.cell? ⟨w.heap.size,1,none⟩=some (.int .i64 (a':Int))/\w5.cell? ⟨w.heap.size,2,none⟩=some (.int .i64 (b':Int))/\w5.cell? ⟨w.heap.size,3,none⟩=some (.int .i64 (d':Int)));clear h5 k5)
    | (go_at_call 96;refine(lQ w5 H5).mono ?_;rintro e w6 ⟨rfl,b6⟩;have H6:=aa (H5.out.call b6);have B6:=aa (b6.mono H5.out.bl);have R6:=aa (R5.out.call b6);have m6:=(⟨R6.out.cell (k:=1) rfl,R6.out.cell (k:=2) rfl,R6.out.cell (k:=3) rfl⟩:w6.cell? ⟨w.heap.size,1,none⟩=some (.int .i64 (a':Int))/\w6.cell? ⟨w.heap.size,2,none⟩=some (.int .i64 (b':Int))/\w6.cell? ⟨w.heap.size,3,none⟩=some (.int .i64 (d':Int)));clear b6))
  all_goals
   go_wp2_with fail
   go_end0
   exact⟨rfl,H6.out.in_,((am B1.out _).trans B5.out).trans B6.out⟩
theorem xW (a b d m:Int) (w:World) (ha:AccOk T0 s ⟨16,a,b,d,m⟩) (hlen:T0<=s.mem.bs.length) (hX:s.c.reg b<ae) (h:Hid (TmAt w g base fu T0 vi vt vf A1 c1 A2 c2 vs s)) :
  Calls Tryz.prog 65 #[.pointer (some ⟨g,0,none⟩),iv 16 a b d m] w (jK g base fu T0 vf (s.access ⟨16,a,b,d,m⟩) w):=by
 have hsz:szB d=true:=ha.sz
 have hs1:=gS hsz
 obtain⟨r1,r2⟩:=ha.wr (show¬(16:Int)=15 by decide)
 dsimp only at r1 r2
 have hf1:bN s.mem a d=true:=fh hsz r1 (by omega)
 obtain⟨a',rfl⟩:∃k:Nat,a=(k:Int):=⟨a.toNat,by omega⟩
 obtain⟨d',rfl⟩:∃k:Nat,d=(k:Int):=⟨d.toNat,by omega⟩
 simp only[Int.toNat_natCast] at r2
 obtain⟨W1,hW1,R1,H1,B1⟩:=lR w 16 (a':Int) b (d':Int) m h
 have HW1:=aa hW1
 have hgX:=aa (show w.heap.size≠g by have:=h.out.gl;omega)
 have x0:=R1.out.cell (k:=0) rfl
 have x1:=R1.out.cell (k:=1) rfl
 have x2:=R1.out.cell (k:=2) rfl
 have x3:=R1.out.cell (k:=3) rfl
 have hA:s.access ⟨16,(a':Int),b,(d':Int),m⟩={ s with mem:=aQ s.mem (s.mem.sp+a') d' (s.c.reg b) }:=by
  unfold Tm.access
  dsimp only
  rw[if_neg (by decide),if_pos rfl,if_neg (by rw[hf1];decide)]
  rfl
 rw[hA]
 obtain⟨V,hV⟩:∃V,s.c.reg b=V:=⟨_,rfl⟩
 have cr:=fun q=>eA b (W1.drewN q) (aa (H1.out.drewN q).core)
 rw[hV] at cr hX⊢
 have cs:=fun(W:World) (hb:Below W1.heap.size W1 W)=>rM (a':Int) (d':Int) V hX W (aa (H1.out.call hb).mem)
 obtain⟨hE,hR⟩:=gF (X:=V) hf1
 rw[hE,hR] at cs
 have hPL:=aa (show(aQ s.mem (s.mem.sp+a') d' V).bs.length=s.mem.bs.length from iq (by rw[bH];omega))
 clear hW1 hA hE hR hf1 hV
 go_enter Tryz.func65,Tryz.ntmps65
 go_upto_region 1 with(fail)
 rw[HW1.out]
 clear HW1
 go_upto_region 7 with(fail)
 go_region_held3 (fun w'=>w'.cell? ⟨w.heap.size,1,none⟩=some (.int .i64 (a':Int))/\w'.cell? ⟨w.heap.size,2,none⟩=some (.int .i64 b)/\w'.cell? ⟨w.heap.size,3,none⟩=some (.int .i64 (d':Int))) (first|go_keep|exact m4|exact m5|exact m6)
  (first
   | (go_at_call 93;refine(cr _).mono ?_;rintro e w4 ⟨rfl,hb4⟩;have b4:=aa (show Below W1.heap.size W1 w4 from Below.trans (am (Below.refl W1.heap.size W1) _) hb4);have R4:=aa (R1.out.call b4.out);have m4:=(⟨R4.out.cell (k:=1) rfl,R4.out.cell (k:=2) rfl,R4.out.cell (k:=3) rfl⟩:w4.cell? ⟨w.heap.size,1,none⟩=some (.int .i64 (a':Int))/\w4.cell? ⟨w.heap.size,2,none⟩=some (.int .i64 b)/\w4.cell? ⟨w.heap.size,3,none⟩=some (.int .i64 (d':Int)));clear hb4)
   | (go_at_call 97;refine(cs w4 b4.out).mono ?_;rintro e w5 ⟨rfl,h5,k5⟩;have H5:=aa ((H1.out.call b4.out).stored h5 k5 hPL.out rfl);have B5:=aa ((H1.out.call b4.out).belowM k5);have R5:=aa (k5.row R4.out hgX.out (.inr ⟨by decide,by decide⟩));have m5:=(⟨R5.out.cell (k:=1) rfl,R5.out.cell (k:=2) rfl,R5.out.cell (k:=3) rfl⟩:w5.cell? ⟨w.heap.size,1,none⟩=some (.int .i64 (a':Int))/\w5.cell? ⟨w.heap.size,2,none⟩=some (.int .i64 b)/\w5.cell? ⟨w.heap.size,3,none⟩=some (.int .i64 (d':Int)));clear h5 k5)
   | (go_at_call 96;refine(lQ w5 H5).mono ?_;rintro e w6 ⟨rfl,b6⟩;have H6:=aa (H5.out.call b6);have B6:=aa (b6.mono H5.out.bl);have R6:=aa (R5.out.call b6);have m6:=(⟨R6.out.cell (k:=1) rfl,R6.out.cell (k:=2) rfl,R6.out.cell (k:=3) rfl⟩:w6.cell? ⟨w.heap.size,1,none⟩=some (.int .i64 (a':Int))/\w6.cell? ⟨w.heap.size,2,none⟩=some (.int .i64 b)/\w6.cell? ⟨w.heap.size,3,none⟩=some (.int .i64 (d':Int)));clear b6))
 all_goals
  go_wp2_with fail
  go_end0
  exact⟨rfl,H6.out.in_,((B1.out.trans (b4.out.mono H1.out.bl)).trans B5.out).trans B6.out⟩
theorem xX (a b d m:Int) (w:World) (ha:AccOk T0 s ⟨15,a,b,d,m⟩) (hlen:T0<=s.mem.bs.length) (h:Hid (TmAt w g base fu T0 vi vt vf A1 c1 A2 c2 vs s)) :
  Calls Tryz.prog 65 #[.pointer (some ⟨g,0,none⟩),iv 15 a b d m] w (jK g base fu T0 vf (s.access ⟨15,a,b,d,m⟩) w):=by
 have hsz:szB d=true:=ha.sz
 have hs1:=gS hsz
 obtain⟨r3,r4⟩:=ha.rd (show¬(15:Int)=16 by decide)
 dsimp only at r3 r4
 have hf2:bN s.mem b d=true:=fh hsz r3 (by omega)
 have hmost:=h.out.own.ok.most
 obtain⟨b',rfl⟩:∃k:Nat,b=(k:Int):=⟨b.toNat,by omega⟩
 obtain⟨d',rfl⟩:∃k:Nat,d=(k:Int):=⟨d.toNat,by omega⟩
 simp only[Int.toNat_natCast] at r4
 obtain⟨W1,hW1,R1,H1,B1⟩:=lR w 15 a (b':Int) (d':Int) m h
 have HW1:=aa hW1
 have x0:=R1.out.cell (k:=0) rfl
 obtain⟨V,u,hV,hu,hA⟩:∃V u,iZ s.mem (b':Int) (d':Int)=V/\fA s.mem (b':Int) (d':Int)=u/\s.access ⟨15,a,(b':Int),(d':Int),m⟩=if u=true then { s with c:=s.c.setR a V } else({ s with c:=s.c.setR a V }:Tm).stop 3:=by
  refine⟨_,_,rfl,rfl,?_⟩
  unfold Tm.access
  dsimp only
  rw[if_pos rfl,if_neg (by rw[hf2];decide)]
  simp only[Int.toNat_natCast]
  cases hub:dg s.mem (s.mem.sp+b') d' with
  | false=>
   obtain⟨_,e2,e3⟩:=eT hf2 hub
   rw[e2,e3]
   rfl
  | true=>
   obtain⟨_,e2,e3⟩:=gC hf2 hub
   rw[e2,e3,List.take_of_length_le (by rw[fV (by omega)];omega)]
   rfl
 have hE:fI s.mem (b':Int) (d':Int)=0:=by simp[fI,hf2]
 have cl:∀W,Below W1.heap.size W1 W->Calls Tryz.prog 94 #[sv A1 c1 A2 c2 s.mem,.int .i64 (b':Int),.int .i64 (d':Int)] W fun e w'=>e=.returned (.tuple #[vv V,.bool u,.int .i64 0])/\Below W.heap.size W w':=fun W hW=>by
  have:=wC (A1:=A1) (A2:=A2) (c1:=c1) (c2:=c2) (b':Int) (d':Int) (by constructor<;>omega) W (aa (H1.out.call hW).own.at_)
  unfold cS at this
  rwa[hV,hu,hE] at this
 have CL:=aa cl
 rw[hA]
 clear hW1 hA hf2 hV hu hE cl
 have x2:=fun(w':World) (hb:Below W1.heap.size W1 w')=>(R1.out.call hb).cell (k:=2) rfl
 have x3:=fun(w':World) (hb:Below W1.heap.size W1 w')=>(R1.out.call hb).cell (k:=3) rfl
 have y1:=fun(w':World) (hb:Below W1.heap.size W1 w')=>(H1.out.call hb).far 1 rfl
 have y2:=fun(w':World) (hb:Below W1.heap.size W1 w')=>(H1.out.call hb).far 2 rfl
 have y3:=fun(w':World) (hb:Below W1.heap.size W1 w')=>(H1.out.call hb).far 3 rfl
 cases u with
 | true=>
  go_enter Tryz.func65,Tryz.ntmps65
  go_upto_region 1 with(fail)
  rw[HW1.out]
  clear HW1
  go_upto_region 3 with(fail)
  go_region_held3 (fun w'=>Below W1.heap.size W1 w') (first|exact bb|exact am (Below.refl _ _) 1|exact dR _ _|exact(bb.setCell (Nat.le_refl _) _).setCell (Nat.le_refl _) _|exact bb.alloc bb.size _|exact((bb.alloc bb.size _).setCell bb.size _).setCell bb.size _)
   (first
    | (go_at_call 94;with_reducible refine Calls.mono (CL.out _ (by first|exact bb|exact bb.drew|exact(Below.refl _ _).drew)) ?_;rintro e w5 ⟨rfl,hb5⟩;have bb:=ac (show Below W1.heap.size W1 _ from by first|exact bb|exact bb.drew|exact(Below.refl _ _).drew) hb5;clear hb5)
    | (go_at_call 94;with_reducible refine Calls.mono (CL.out (W1.alloc (.cells #[.int .u64 0,.int .u64 0] 38)).drew (dR W1 _)) ?_;rintro e w5 ⟨rfl,hb5⟩;have bb:=ac (dR W1 _) hb5;have y7:=fD W1 38 [.int .u64 0,.int .u64 0] hb5;have n0:=y7.cell (k:=0) rfl;have n1:=y7.cell (k:=1) rfl;have n2:=y7.free 0;have n3:=y7.free 1;have Y5:=aa y7;clear hb5 y7))
  all_goals
   first
    | (obtain⟨W6,hW6⟩:∃W6,(w5.setCell ⟨W1.heap.size,0,none⟩ (.int .u64 (lo V))).setCell ⟨W1.heap.size,1,none⟩ (.int .u64 (hi V))=W6:=⟨_,rfl⟩;obtain⟨Y,hY⟩:∃Y,W1.heap.size=Y:=⟨_,rfl⟩;have Y6:=aa (show Row W6 Y 38 [.int .u64 (lo V),.int .u64 (hi V)] by rw[<-hW6,<-hY];exact(Y5.out.set_ 0 (.int .u64 (lo V))).set_ 1 (.int .u64 (hi V)));have bW:=aa (show Below W1.heap.size W1 W6 by rw[<-hW6];exact(bb.setCell (p:=⟨W1.heap.size,0,none⟩) (Nat.le_refl _) _).setCell (p:=⟨W1.heap.size,1,none⟩) (Nat.le_refl _) _);clear n0 n1 n2 n3 Y5)
    | (obtain⟨W6,hW6⟩:∃W6,w5.alloc (.cells #[.int .u64 (lo V),.int .u64 (hi V)] 38)=W6:=⟨_,rfl⟩;obtain⟨Y,hY⟩:∃Y,w5.heap.size=Y:=⟨_,rfl⟩;have Y6:=aa (show Row W6 Y 38 [.int .u64 (lo V),.int .u64 (hi V)] by rw[<-hW6,<-hY];exact Row.new w5 _ _);have bW:=aa (show Below W1.heap.size W1 W6 by rw[<-hW6];exact bb.alloc bb.size _))
   have HW6:=aa hW6
   have HY:=aa hY
   clear hW6 hY bb x2 x3 y1 y2 y3 CL
   go_upto_region 4 with(fail)
   rw[HW6.out,HY.out]
   have H6:=aa (H1.out.call bW.out)
   have B6:=aa (B1.out.trans (bW.out.mono H1.out.bl))
   have z1:=fun p:After W6=>af ((R1.out.call bW.out).cell (k:=1) rfl) p
   have z2:=fun p:After W6=>af (Y6.out.cell (k:=0) rfl) p
   have z3:=fun p:After W6=>af (Y6.out.cell (k:=1) rfl) p
   refine cX 6 (by kernel_rfl) rfl rfl (by kernel_rfl) (by kernel_rfl) (by kernel_rfl) (C:=fun w'=>∃p:After W6,w'=p.w) ⟨⟨W6.drew,(Below.refl _ _).drew⟩,rfl⟩ ?_
   dsimp only[List.take_succ_cons,List.take_zero]
   repeat(go_big_quiet_step (fail))
   refine wpQuiet_nil ?_
   intro _ hw'
   obtain⟨p1,hw''⟩:=hw'
   subst hw''
   have cs:=eP a V p1.w (aa (H6.out.call p1.b).core)
   clear z1 z2 z3
   go_wp2_with fail
   go_fit cs
   rintro e w7 ⟨rfl,h7,k7⟩
   have H7:=aa ((H6.out.call p1.b).cored h7 (k7.weak (H6.out.call p1.b).core.tr))
   have B7:=aa (B6.out.trans ((p1.b.mono H6.out.bl).trans ((H6.out.call p1.b).belowC (k7.weak (H6.out.call p1.b).core.tr))))
   clear h7 k7 cs
   have ca:=lQ w7 H7
   go_wp2_with fail
   go_fit ca
   rintro e w8 ⟨rfl,b8⟩
   have H8:=aa (H7.out.call b8)
   have B8:=aa (B7.out.trans (b8.mono H7.out.bl))
   clear b8 ca
   go_wp2_with fail
   go_end0
   exact⟨rfl,H8.out.in_,B8.out⟩
 | false=>
  go_enter Tryz.func65,Tryz.ntmps65
  go_upto_region 1 with(fail)
  rw[HW1.out]
  clear HW1
  go_upto_region 3 with(fail)
  go_region_held3 (fun w'=>Below W1.heap.size W1 w') (first|exact bb|exact am (Below.refl _ _) 1|exact dR _ _|exact(bb.setCell (Nat.le_refl _) _).setCell (Nat.le_refl _) _|exact bb.alloc bb.size _|exact((bb.alloc bb.size _).setCell bb.size _).setCell bb.size _)
   (first
    | (go_at_call 94;with_reducible refine Calls.mono (CL.out _ (by first|exact bb|exact bb.drew|exact(Below.refl _ _).drew)) ?_;rintro e w5 ⟨rfl,hb5⟩;have bb:=ac (show Below W1.heap.size W1 _ from by first|exact bb|exact bb.drew|exact(Below.refl _ _).drew) hb5;clear hb5)
    | (go_at_call 94;with_reducible refine Calls.mono (CL.out (W1.alloc (.cells #[.int .u64 0,.int .u64 0] 38)).drew (dR W1 _)) ?_;rintro e w5 ⟨rfl,hb5⟩;have bb:=ac (dR W1 _) hb5;have y7:=fD W1 38 [.int .u64 0,.int .u64 0] hb5;have n0:=y7.cell (k:=0) rfl;have n1:=y7.cell (k:=1) rfl;have n2:=y7.free 0;have n3:=y7.free 1;have Y5:=aa y7;clear hb5 y7))
  all_goals
   first
    | (obtain⟨W6,hW6⟩:∃W6,(w5.setCell ⟨W1.heap.size,0,none⟩ (.int .u64 (lo V))).setCell ⟨W1.heap.size,1,none⟩ (.int .u64 (hi V))=W6:=⟨_,rfl⟩;obtain⟨Y,hY⟩:∃Y,W1.heap.size=Y:=⟨_,rfl⟩;have Y6:=aa (show Row W6 Y 38 [.int .u64 (lo V),.int .u64 (hi V)] by rw[<-hW6,<-hY];exact(Y5.out.set_ 0 (.int .u64 (lo V))).set_ 1 (.int .u64 (hi V)));have bW:=aa (show Below W1.heap.size W1 W6 by rw[<-hW6];exact(bb.setCell (p:=⟨W1.heap.size,0,none⟩) (Nat.le_refl _) _).setCell (p:=⟨W1.heap.size,1,none⟩) (Nat.le_refl _) _);clear n0 n1 n2 n3 Y5)
    | (obtain⟨W6,hW6⟩:∃W6,w5.alloc (.cells #[.int .u64 (lo V),.int .u64 (hi V)] 38)=W6:=⟨_,rfl⟩;obtain⟨Y,hY⟩:∃Y,w5.heap.size=Y:=⟨_,rfl⟩;have Y6:=aa (show Row W6 Y 38 [.int .u64 (lo V),.int .u64 (hi V)] by rw[<-hW6,<-hY];exact Row.new w5 _ _);have bW:=aa (show Below W1.heap.size W1 W6 by rw[<-hW6];exact bb.alloc bb.size _))
   have HW6:=aa hW6
   have HY:=aa hY
   clear hW6 hY bb x2 x3 y1 y2 y3 CL
   go_upto_region 4 with(fail)
   rw[HW6.out,HY.out]
   have H6:=aa (H1.out.call bW.out)
   have B6:=aa (B1.out.trans (bW.out.mono H1.out.bl))
   have z1:=fun p:After W6=>af ((R1.out.call bW.out).cell (k:=1) rfl) p
   have z2:=fun p:After W6=>af (Y6.out.cell (k:=0) rfl) p
   have z3:=fun p:After W6=>af (Y6.out.cell (k:=1) rfl) p
   refine cX 6 (by kernel_rfl) rfl rfl (by kernel_rfl) (by kernel_rfl) (by kernel_rfl) (C:=fun w'=>∃p:After W6,w'=p.w) ⟨⟨W6.drew,(Below.refl _ _).drew⟩,rfl⟩ ?_
   dsimp only[List.take_succ_cons,List.take_zero]
   repeat(go_big_quiet_step (fail))
   refine wpQuiet_nil ?_
   intro _ hw'
   obtain⟨p1,hw''⟩:=hw'
   subst hw''
   have cs:=eP a V p1.w (aa (H6.out.call p1.b).core)
   clear z1 z2 z3
   go_wp2_with fail
   go_fit cs
   rintro e w7 ⟨rfl,h7,k7⟩
   have H7:=aa ((H6.out.call p1.b).cored h7 (k7.weak (H6.out.call p1.b).core.tr))
   have B7:=aa (B6.out.trans ((p1.b.mono H6.out.bl).trans ((H6.out.call p1.b).belowC (k7.weak (H6.out.call p1.b).core.tr))))
   clear h7 k7 cs
   have ca:=lF w7 H7
   go_wp2_with fail
   go_fit ca
   rintro e w8 ⟨rfl,h8,k8⟩
   have H8:=aa h8
   have B8:=aa (B7.out.trans (H7.out.belowC k8))
   clear h8 k8 ca
   go_wp2_with fail
   go_end0
   exact⟨rfl,H8.out.in_,B8.out⟩
theorem vC (x:Ins) (w:World) (ha:AccOk T0 s x) (hlen:T0<=s.mem.bs.length) (hs:SmallC s.c) (h:Hid (TmAt w g base fu T0 vi vt vf A1 c1 A2 c2 vs s)) :
  Calls Tryz.prog 65 #[.pointer (some ⟨g,0,none⟩),ivI x] w (jK g base fu T0 vf (s.access x) w):=by
 obtain⟨op,a,b,d,m⟩:=x
 unfold ivI
 rcases ha.op with h1|h1|h1
 ·have h1:op=15:=h1
  subst h1
  exact xX a b d m w ha hlen h
 ·have h1:op=16:=h1
  subst h1
  exact xW a b d m w ha hlen (hs.reg b) h
 ·have h1:op=17:=h1
  subst h1
  exact xV a b d m w ha hlen h
end
section
variable {g base fu T0:Nat} {vi vt vf vs:Value} {A1 A2:Option Addr} {c1 c2:Nat} {s:Tm}
structure FetT (w:World) (base:Nat) (A:Option Addr) (nF:Nat) (fi pc:Nat) (x:Ins) (bF oF:Nat) (n2 c2 bC oC:Nat):Prop where
 a:A=some ⟨bF,oF,none⟩
 bf:bF<base
 bc:bC<base
 fl:fi<nF
 pl:pc<n2
 h:w.cell? ⟨bF,oF+fi*3+2,none⟩=some (.slice (some ⟨bC,oC,none⟩) n2 c2)
 x0:w.cell? ⟨bC,oC+pc*5,none⟩=some (.int .i64 x.op)
 x1:w.cell? ⟨bC,oC+pc*5+1,none⟩=some (.int .i64 x.a)
 x2:w.cell? ⟨bC,oC+pc*5+2,none⟩=some (.int .i64 x.b)
 x3:w.cell? ⟨bC,oC+pc*5+3,none⟩=some (.int .i64 x.c)
 x4:w.cell? ⟨bC,oC+pc*5+4,none⟩=some (.int .u64 x.imm)
theorem FetT.below {w w':World} {A:Option Addr} {nF fi pc bF oF n2 c2 bC oC:Nat} {x:Ins} (h:FetT w base A nF fi pc x bF oF n2 c2 bC oC) (hb:Below base w w'):FetT w' base A nF fi pc x bF oF n2 c2 bC oC:=
 ⟨h.a,h.bf,h.bc,h.fl,h.pl,(hb.cell (p:=⟨bF,_,none⟩) h.bf).trans h.h,(hb.cell (p:=⟨bC,_,none⟩) h.bc).trans h.x0,(hb.cell (p:=⟨bC,_,none⟩) h.bc).trans h.x1,(hb.cell (p:=⟨bC,_,none⟩) h.bc).trans h.x2,(hb.cell (p:=⟨bC,_,none⟩) h.bc).trans h.x3,(hb.cell (p:=⟨bC,_,none⟩) h.bc).trans h.x4⟩
theorem qA {w:World} {lo nF cF fi pc:Nat} {A:Option Addr} {hs:List Fd} {F:Tg} {f:Fm} {x:Ins} (H:TgAt w lo base A nF cF hs F) (hf:F[fi]?=some f) (hx:f.code[pc]?=some x):∃bF oF n2 c2 bC oC,FetT w base A nF fi pc x bF oF n2 c2 bC oC/\n2=f.code.length:=by
 have hfl:fi<nF:=by rw[<-H.len];exact(List.getElem?_eq_some_iff.1 hf).1
 obtain⟨bF,oF,P,Sz,Ac,nc,cc,f',rfl,hbF,hf',hhf,hfd,d0,d1,d2⟩:=dk H hfl
 rw[hf] at hf'
 injection hf' with hf'
 subst hf'
 obtain⟨hp,hxe⟩:=List.getElem?_eq_some_iff.1 hx
 obtain⟨bC,oC,rfl,hbC,x0,x1,x2,x3,x4⟩:=ee hfd.c hp
 rw[hxe] at x0 x1 x2 x3 x4
 have hl:f.code.length=nc:=hfd.l
 exact⟨bF,oF,nc,cc,bC,oC,⟨rfl,hbF,hbC,hfl,by omega,d2,x0,x1,x2,x3,x4⟩,hl.symm⟩
theorem TmAt.more {w:World} (h:TmAt w g base fu T0 vi vt vf A1 c1 A2 c2 vs s):TmAt (w.setCell ⟨g,7,none⟩ (.int .i64 ((s.c.steps:Int)+1))) g base fu T0 vi vt vf A1 c1 A2 c2 vs { s with c:=s.c.more }:=
 h.cored (h.core.store 7 (.int .i64 ((s.c.steps:Int)+1)) (c':=s.c.more) (fu':=fu) (vi':=vi) (rest':=db T0 s vf A1 c1 A2 c2 vs) rfl h.core.inp rfl h.core.r8) (CKp.set w g base 7 _)
theorem TmAt.top_cells {w:World} {G c k:Nat} {z:Nat×Nat} {ys:List (Nat×Nat)} (h:TmAt w g base fu T0 vi vt vf A1 c1 A2 c2 (.slice (some ⟨G,0,none⟩) (k+1) c) s) (hst:s.st=ys++[z]) (hk:ys.length=k):w.cell? ⟨G,k*2,none⟩=some (.int .i64 (z.1:Int))/\w.cell? ⟨G,k*2+1,none⟩=some (.int .i64 (z.2:Int)):=by
 have hz:s.st[k]?=some z:=by rw[hst,<-hk];simp
 obtain⟨a0,a1⟩:=gR hz
 have hc:∀j u,(aA s.st)[j]?=some u->w.cell? ⟨G,j,none⟩=some u:=fun j u hj=>by
  have:=h.st.cells (g:=G) rfl j u hj
  rwa[show(⟨G,0,none⟩:Addr).add j=⟨G,j,none⟩ by unfold Addr.add;split<;>simp_all] at this
 exact⟨hc _ _ a0,hc _ _ a1⟩
theorem mA (ys:List (Nat×Nat)) (z:Nat×Nat) (pc:Nat):(aA (ys++[z])).set (ys.length*2+1) (.int .i64 (pc:Int))=aA (ys++[(z.1,pc)]):=by
 rw[eB,eB,List.set_append_right _ _ (by rw[dV];omega),dV,show ys.length*2+1-ys.length*2=1 by omega]
 rfl
theorem TmAt.pcSet {w:World} {G c k:Nat} {z:Nat×Nat} {ys:List (Nat×Nat)} (h:TmAt w g base fu T0 vi vt vf A1 c1 A2 c2 (.slice (some ⟨G,0,none⟩) (k+1) c) s) (hst:s.st=ys++[z]) (hk:ys.length=k) (pc:Nat) :
  TmAt (w.setCell ⟨G,k*2+1,none⟩ (.int .i64 (pc:Int))) g base fu T0 vi vt vf A1 c1 A2 c2 (.slice (some ⟨G,0,none⟩) (k+1) c) { s with st:=ys++[(z.1,pc)] }/\w.grownBy (w.setCell ⟨G,k*2+1,none⟩ (.int .i64 (pc:Int))) (some G)/\base<=G:=by
 have hl:s.st.length=k+1:=by rw[hst,List.length_append,hk];rfl
 have ho:=h.st
 rw[hl,hst] at ho
 obtain⟨h1,hg⟩:=World.ownsRow.stored ho (k*2+1) (.int .i64 (pc:Int))
 rw[<-hk,mA] at h1
 have hG:=(ho.lt G rfl).1
 have hGg:G≠g:=by
  rcases bV ho h.core.row (by decide) with e|e
  ·simp[Value.ownBlock] at e
  ·exact fun eg=>e (by rw[eg];rfl)
 have hB:Below base w (w.setCell ⟨G,k*2+1,none⟩ (.int .i64 (pc:Int))):=(Below.refl _ _).setCell (p:=⟨G,k*2+1,none⟩) hG _
 have hoff:∀{b t n sz:Nat} {v:Value} {xs:List Value},w.ownsRow b t sz v n xs->137≠t->v.ownBlock=none\/v.ownBlock≠some G:=fun o ht=>ll (v2:=.slice (some ⟨G,0,none⟩) (k+1) c) o ho ht
 refine⟨⟨⟨h.core.row.grown hg (fun e=>hGg (by first|exact Option.some.inj e|exact(Option.some.inj e).symm)),h.core.gb,h.core.nt,h.core.r8,h.core.inp.below hB,h.core.tr.kept hg (hoff h.core.tr (by decide))⟩,⟨h.own.ok,h.own.o1.kept hg (hoff h.own.o1 (by decide)),h.own.o2.kept hg (hoff h.own.o2 (by decide))⟩,?_⟩,hg,hG⟩
 show World.ownsRow _ base _ 2 _ (ys++[(z.1,pc)]).length _
 rw[List.length_append,hk]
 rw[hk] at h1
 exact h1
theorem sW {F:Tg} {Al:Int} {lo nF cF:Nat} {A:Option Addr} {hs:List Fd} (w:World) (hR:Hid (RightT Al F)) (him:Hid (eN F)) (hv:Hid (VT F T0 s)) (hsm:s.c.steps<=200000) (hT0:T0<=1048576) (hvf:vf=.slice A nF cF) (hPg:Hid (TgAt w lo base A nF cF hs F)) (h:Hid (TmAt w g base fu T0 vi vt vf A1 c1 A2 c2 vs s)) :
  Calls Tryz.prog 44 #[.pointer (some ⟨g,0,none⟩)] w (jK g base fu T0 vf (s.step F T0) w):=by
 obtain⟨G,cG,k,z,ys,ht,hGg⟩:=h.out.topT hv.out.ne
 obtain⟨rfl,hzs,hyk,ht0,ht1,hfr,hGl,hGb,hcap⟩:=ht
 have htop:s.top=z:=by unfold Tm.top;rw[hzs,List.getLastD_concat]
 obtain⟨f,hf,hp,hx⟩:=hv.out.next_at
 have hsort:=aa (hv.out.sort hR.out hf hx)
 have hfm:=hR.out.f f (List.mem_of_getElem? hf)
 have hcl:=hfm.2.1
 obtain⟨hex,_⟩:=iQ (hfm.2.2.1 _ (List.mem_of_getElem? hx))
 have hops:=nl hex
 have hnx:=aa (show 0<=s.c.more.next (s.cur F) (s.top.2:Int) by
  by_cases h23:(s.cur F).op=23
  ·unfold Co.next;rw[if_neg (by omega),if_neg (by omega)];omega
  ·by_cases h24:(s.cur F).op=24
   ·unfold Co.next;rw[if_neg (by omega),if_neg (by omega)];omega
   ·exact(nh hx (hfm.2.2.1 _ (List.mem_of_getElem? hx)) hfm.2.2.2 h23 h24).1)
 have hxi:=aa (him.out f (List.mem_of_getElem? hf) _ (List.mem_of_getElem? hx))
 have hfsz:=aa (gG hfm.1).2.2.1
 obtain⟨bF,oF,n2,c2',bC,oC,hfet,hn2⟩:=qA hPg.out hf hx
 have Hf:=aa hf
 have hkst:k<=s.c.steps:=by have h1:=hv.out.stl;rw[hzs,List.length_append,hyk] at h1;simp at h1;omega
 have hnF80:nF<=80:=by have h1:=hPg.out.len;have h2:=hR.out.n80;omega
 have hn2b:n2<=1024:=by omega
 obtain⟨x,hxx⟩:∃x,s.cur F=x:=⟨_,rfl⟩
 have HXX:=aa hxx
 rw[hxx] at hfet hops hxi
 rw[htop] at hfet
 have HFET:=aa hfet
 have HTOP:=aa htop
 have HZS:=aa hzs
 have HYK:=aa hyk
 obtain⟨S',hS'⟩:∃S',s.step F T0=S':=⟨_,rfl⟩
 have HS':=aa hS'
 rw[hS']
 have c7:=h.out.core.far 7 rfl
 have f7:=h.out.free 7
 have hwrap:IntKind.i64.wrap ((s.c.steps:Int)+1)=(s.c.steps:Int)+1:=by rw[IntKind.wrap_i64];omega
 have hk0:(0:Int)<=(k:Int):=by omega
 have hwk:IntKind.i64.wrap ((k:Int)+1-1)=(k:Int):=by rw[IntKind.wrap_i64];omega
 clear hf hp hx hfm hex hn2 hxx hfet htop hzs hyk hcl hS'
 go_enter Tryz.func44,Tryz.ntmps44
 go_upto_region 1 with(fail)
 obtain⟨W1,hW1⟩:∃W1,w.setCell ⟨g,7,none⟩ (.int .i64 ((s.c.steps:Int)+1))=W1:=⟨_,rfl⟩
 have H1:=aa (show TmAt W1 g base fu T0 vi vt vf A1 c1 A2 c2 (.slice (some ⟨G,0,none⟩) (k+1) cG) { s with c:=s.c.more } by rw[<-hW1];exact h.out.more)
 have B1:=aa (show Below base w W1 by rw[<-hW1];exact(Below.refl _ _).setCell (p:=⟨g,7,none⟩) h.out.core.gb _)
 have hGne:¬(G=g):=hGg
 have hgGne:¬(g=G):=fun e=>hGg e.symm
 obtain⟨t0,t1⟩:=H1.out.top_cells HZS.out HYK.out
 rw[hW1]
 have hG1:=aa (show G<W1.heap.size from Nat.lt_of_lt_of_le hGl (by rw[<-hW1];simp[World.setCell]))
 clear hW1 c7 f7 hwrap ht0 ht1
 have a0:=H1.out.far 5 rfl
 have F1:=aa (HFET.out.below B1.out)
 go_upto_region 2 with(first|go_region)
 obtain⟨W2,hW2⟩:∃W2,W1.drew=W2:=⟨_,rfl⟩
 have H2:=aa (show TmAt W2 g base fu T0 vi vt vf A1 c1 A2 c2 (.slice (some ⟨G,0,none⟩) (k+1) cG) { s with c:=s.c.more } by rw[<-hW2];exact H1.out.drew_)
 have B2:=aa (show Below base w W2 by rw[<-hW2];exact B1.out.drew)
 rw[hW2]
 have F2:=aa (HFET.out.below B2.out)
 have hG2:=aa (show G<W2.heap.size from Nat.lt_of_lt_of_le hG1.out (by rw[<-hW2];exact Nat.le_refl _))
 clear hW2 H1 B1 F1 t0 t1 a0 hG1 HFET
 obtain⟨t0,t1⟩:=H2.out.top_cells HZS.out HYK.out
 have v0:=H2.out.far 0 rfl
 rw[hvf,F2.out.a] at v0
 have y0:=F2.out.h
 have y1:=F2.out.x0
 have y2:=F2.out.x1
 have y3:=F2.out.x2
 have y4:=F2.out.x3
 have y5:=F2.out.x4
 have v0':=fun o:Obj=>aD (ag W2 o) v0
 have t0':=fun o:Obj=>aD (ag W2 o) t0
 have t1':=fun o:Obj=>aD (ag W2 o) t1
 have y0':=fun o:Obj=>aD (ag W2 o) y0
 have y1':=fun o:Obj=>aD (ag W2 o) y1
 have y2':=fun o:Obj=>aD (ag W2 o) y2
 have y3':=fun o:Obj=>aD (ag W2 o) y3
 have y4':=fun o:Obj=>aD (ag W2 o) y4
 have y5':=fun o:Obj=>aD (ag W2 o) y5
 have i0:(0:Int)<=(z.1:Int):=by omega
 have i1:(z.1:Int)<(nF:Int):=by have:=F2.out.fl;omega
 have i2:(0:Int)<=(z.2:Int):=by omega
 have i3:(z.2:Int)<(n2:Int):=by have:=F2.out.pl;omega
 have hz2b:=aa (show z.2<=1024 by have:=F2.out.pl;omega)
 go_upto_region 2 with(fail)
 go_region
 go_upto_region 3 with(fail)
 obtain⟨X,hX⟩:∃X,W2.heap.size=X:=⟨_,rfl⟩
 obtain⟨W3,hW3⟩:∃W3,(W2.alloc (.cells #[.int .i64 x.op,.int .i64 x.a,.int .i64 x.b,.int .i64 x.c,.int .u64 x.imm] 50)).drew=W3:=⟨_,rfl⟩
 have H3:=aa (show TmAt W3 g base fu T0 vi vt vf A1 c1 A2 c2 (.slice (some ⟨G,0,none⟩) (k+1) cG) { s with c:=s.c.more } by rw[<-hW3];exact(H2.out.alloc _).drew_)
 have B3:=aa (show Below base w W3 by rw[<-hW3];exact(B2.out.alloc H2.out.bl _).drew)
 have R3:=aa (show Row W3 X 50 [.int .i64 x.op,.int .i64 x.a,.int .i64 x.b,.int .i64 x.c,.int .u64 x.imm] by rw[<-hW3,<-hX];exact(Row.new W2 _ _).drew)
 have hXG:=aa (show X≠G by have:=hG2.out;omega)
 have hXg:=aa (show X≠g by have:=H2.out.gl;omega)
 rw[hW3,hX]
 clear hW3 hX v0 t0 t1 y0 y1 y2 y3 y4 y5 v0' t0' t1' y0' y1' y2' y3' y4' y5' i0 i1 i2 i3 H2 B2 F2
 have t1:=fun p:After W3=>af (H3.out.top_cells HZS.out HYK.out).2 p
 have r0:=fun p:After W3=>af (R3.out.cell (k:=0) rfl) p
 have r1:=fun p:After W3=>af (R3.out.cell (k:=1) rfl) p
 have r2:=fun p:After W3=>af (R3.out.cell (k:=2) rfl) p
 have r3:=fun p:After W3=>af (R3.out.cell (k:=3) rfl) p
 have r4:=fun p:After W3=>af (R3.out.cell (k:=4) rfl) p
 obtain⟨N,hN⟩:∃N,s.c.more.next x (z.2:Int)=N:=⟨_,rfl⟩
 have cn:∀p:After W3,Calls Tryz.prog 64 #[.pointer (some ⟨g,0,none⟩),iv x.op x.a x.b x.c x.imm,.int .i64 (z.2:Int)] p.w fun e w'=>e=.returned (.int .i64 N)/\Below p.w.heap.size p.w w':=fun p=>by
  rw[<-hN]
  exact su x.op x.a x.b x.c x.imm (z.2:Int) p.w (by have:=hz2b.out;omega) (aa (H3.out.call p.b).core)
 have CN:=aa cn
 have HN:=aa hN
 clear cn hN
 refine cX 12 (by kernel_rfl) rfl rfl (by kernel_rfl) (by kernel_rfl) (by kernel_rfl) (C:=fun w'=>∃p:After W3,w'=p.w) ⟨⟨W3.drew,(Below.refl _ _).drew⟩,rfl⟩ ?_
 dsimp only[List.take_succ_cons,List.take_zero]
 repeat(go_big_quiet_step ((go_at_call 64;with_reducible exact bO (CN.out _))))
 refine wpQuiet_nil ?_
 intro _ hw'
 obtain⟨p1,hw''⟩:=hw'
 subst hw''
 clear t1 r0 r1 r2 r3 r4 CN
 have H3p:=aa (H3.out.call p1.b)
 have tt:=(H3p.out.top_cells HZS.out HYK.out).2
 have hst3:p1.w.ownsRow base 137 2 (.slice (some ⟨G,0,none⟩) (k+1) cG) (k+1) (aA s.st):=by
  have:=H3p.out.st
  rwa[show({ s with c:=s.c.more }:Tm).st.length=k+1 by show s.st.length=k+1;rw[HZS.out,List.length_append,HYK.out];rfl] at this
 have ff:p1.w.frozen? ⟨G,k*2+1,none⟩=false:=hst3.frozenAt (k*2+1)
 clear hst3
 have hN0:0<=N:=by rw[<-HN.out,<-HXX.out];have:=hnx.out;rw[HTOP.out] at this;exact this
 obtain⟨W4,hW4⟩:∃W4,p1.w.setCell ⟨G,k*2+1,none⟩ (.int .i64 N)=W4:=⟨_,rfl⟩
 have hset:=H3p.out.pcSet HZS.out HYK.out N.toNat
 rw[Int.toNat_of_nonneg hN0,hW4] at hset
 obtain⟨h4,hg4,hGb4⟩:=hset
 have hfe:({ s with c:=s.c.more,st:=ys++[(z.1,N.toNat)] }:Tm)=s.fetched x:=by
  unfold Tm.fetched Tm.setTop
  dsimp only
  rw[HTOP.out,HN.out,HZS.out,List.dropLast_concat]
 have H4:=aa (show TmAt W4 g base fu T0 vi vt vf A1 c1 A2 c2 (.slice (some ⟨G,0,none⟩) (k+1) cG) (s.fetched x) by rw[<-hfe];exact h4)
 have B4:=aa (show Below base w W4 by rw[<-hW4];exact(B3.out.trans (p1.b.mono H3.out.bl)).setCell (p:=⟨G,k*2+1,none⟩) hGb4 _)
 have R4:=aa ((R3.out.call p1.b).grown hg4 (fun e=>hXG.out (by first|exact Option.some.inj e|exact(Option.some.inj e).symm)))
 have HW4:=aa hW4
 clear h4 hg4 hW4 hfe hGb4
 go_upto_region 4 with(fail)
 rw[HW4.out]
 clear HW4 tt ff H3p H3 B3 R3
 have r0:=R4.out.cell (k:=0) rfl
 have r1:=R4.out.cell (k:=1) rfl
 have r2:=R4.out.cell (k:=2) rfl
 have r3:=R4.out.cell (k:=3) rfl
 have r4:=R4.out.cell (k:=4) rfl
 have hs:=hsort.out
 have hstep:=HS'.out
 rcases hs with⟨hop,v,a,e⟩|⟨hop,v,gf,hg,ha0,hc,hr,hl,e⟩|⟨hop,e⟩|⟨hop,e⟩|⟨hk',v,ht,e⟩
 ·rw[HXX.out] at hop v a e
  rw[e] at hstep
  have ca:=vC x W4 a v.len v.sm H4
  unfold ivI at ca
  rw[hstep] at ca
  clear v a e hstep hsort hv hR him hPg
  rcases(show x.op=15\/x.op=16\/x.op=17 by omega) with h1|h1|h1
  all_goals
   rw[h1] at r0 ca
   clear h1 hop hops
   go_wp2_with fail
   go_fit ca
   rintro e w6 ⟨rfl,h6,b6⟩
   have H6:=aa h6
   have B6:=aa (B4.out.trans b6)
   clear h6 b6 ca
   go_wp2_with fail
   go_end0
   exact⟨rfl,H6.out,B6.out⟩
 ·rw[HXX.out] at hop v e ha0 hg hr hl
  rw[e] at hstep
  obtain⟨n,hn⟩:∃n:Nat,x.a=(n:Int):=⟨x.a.toNat,by omega⟩
  rw[hn] at hg hstep r1
  rw[Int.toNat_natCast] at hg hstep
  have hgs:=(gG (hR.out.f gf (List.mem_of_getElem? hg)).1).2.2.1
  have hsum:=v.sum
  have hstl:=v.stl
  have hstp:(s.fetched x).c.steps=s.c.steps+1:=rfl
  have ce:=my n W4 (aa hg) hgs.1 (by omega) hT0 (by omega) (Nat.le_trans v.dp.dl hT0) hvf hnF80 (aa (hPg.out.below B4.out)) H4
  rw[hstep] at ce
  clear v e hstep hsort hv hR him hPg hg hr hl hgs hsum hstl hstp
  rw[hop] at r0
  go_wp2_with fail
  go_fit ce
  rintro e w6 ⟨rfl,h6,b6⟩
  have H6:=aa h6
  have B6:=aa (B4.out.trans b6)
  clear h6 b6 ce
  go_wp2_with fail
  go_end0
  exact⟨rfl,H6.out,B6.out⟩
 ·rw[HXX.out] at hop e
  rw[e] at hstep
  have hst4:(s.fetched x).st=ys++[(z.1,N.toNat)]:=by
   unfold Tm.fetched Tm.setTop
   dsimp only
   rw[HTOP.out,HN.out,HZS.out,List.dropLast_concat]
  have htop4:(s.fetched x).top.1=s.top.1:=by unfold Tm.top;rw[hst4,HZS.out,List.getLastD_concat,List.getLastD_concat]
  have hsum:=hv.out.sum
  have hlen:=hv.out.len
  rw[HZS.out,eC,dI] at hsum
  have ct:=qU W4 (s:=s.fetched x) (fm:=f) (by rw[hst4];simp) (by rw[hst4,List.length_append,HYK.out];simp;omega) (aa (by rw[htop4];exact Hf.out)) hfsz.out.1 (by rw[htop4,HTOP.out];show s.mem.sp+fsz F z.1<=s.mem.bs.length;omega) hvf hnF80 (aa (hPg.out.below B4.out)) H4
  rw[hstep] at ct
  clear e hstep hsort hv hR him hPg hst4 htop4 hsum hlen
  rw[hop] at r0
  go_wp2_with fail
  go_fit ct
  rintro e w6 ⟨rfl,h6,b6⟩
  have H6:=aa h6
  have B6:=aa (B4.out.trans b6)
  clear h6 b6 ct
  go_wp2_with fail
  go_end0
  exact⟨rfl,H6.out,B6.out⟩
 ·rw[HXX.out] at hop
  have e2:s.step F T0={ s.fetched x with c:=(s.fetched x).c.execC x }:=by
   unfold Tm.step Tm.exec
   rw[HXX.out,if_neg (by omega),if_neg (by omega),if_neg (by omega)]
  rw[e2] at hstep
  have hx0:∀q:Nat,Calls Tryz.prog 67 #[.pointer (some ⟨g,0,none⟩),ivI x] (W4.drewN q) fun e w'=>e=.returned (.tuple #[])/\(∃vi' vt',CoAt w' g base 71 fu vi' vt' (db T0 (s.fetched x) vf A1 c1 A2 c2 (.slice (some ⟨G,0,none⟩) (k+1) cG)) ((s.fetched x).c.execC x)/\CKp (W4.drewN q) w' g base):=fun q=>
   pn x (W4.drewN q) (.inr (.inr (.inr hop))) hxi.out ⟨hv.out.sm.r8,hv.out.sm.rv,hv.out.sm.iv⟩ (by show s.c.trace.length<=1000000;have:=hv.out.tl;omega) (aa (H4.out.drewN q).core)
  unfold ivI at hx0
  have e15:(x.op==15)=false:=by rw[beq_eq_false_iff_ne];omega
  have e16:(x.op==16)=false:=by rw[beq_eq_false_iff_ne];omega
  have e17:(x.op==17)=false:=by rw[beq_eq_false_iff_ne];omega
  have e22:(x.op==22)=false:=by rw[beq_eq_false_iff_ne];omega
  have e23:(x.op==23)=false:=by rw[beq_eq_false_iff_ne];omega
  have HX0:=aa hx0
  clear hx0 hop hops
  go_upto_region 5 with(fail)
  have z0:=fun p:After W4=>af r0 p
  have z1:=fun p:After W4=>af r1 p
  have z2:=fun p:After W4=>af r2 p
  have z3:=fun p:After W4=>af r3 p
  have z4:=fun p:After W4=>af r4 p
  go_region_held3 (fun w'=>w'.cell? ⟨X,0,none⟩=some (.int .i64 x.op)/\w'.cell? ⟨X,1,none⟩=some (.int .i64 x.a)/\w'.cell? ⟨X,2,none⟩=some (.int .i64 x.b)/\w'.cell? ⟨X,3,none⟩=some (.int .i64 x.c)/\w'.cell? ⟨X,4,none⟩=some (.int .u64 x.imm)) (first|go_keep|exact m6)
   (first|(go_at_call 67;refine(HX0.out _).mono ?_;rintro e w6 ⟨rfl,vi6,vt6,h6,k6⟩;have H6:=aa ((H4.out.drewN _).cored h6 k6);have B6:=aa ((am B4.out _).trans ((H4.out.drewN _).belowC k6));have R6:=aa (k6.row (R4.out.drewN _) hXg.out (.inr (by decide)));have m6:=(⟨R6.out.cell (k:=0) rfl,R6.out.cell (k:=1) rfl,R6.out.cell (k:=2) rfl,R6.out.cell (k:=3) rfl,R6.out.cell (k:=4) rfl⟩:w6.cell? ⟨X,0,none⟩=some (.int .i64 x.op)/\w6.cell? ⟨X,1,none⟩=some (.int .i64 x.a)/\w6.cell? ⟨X,2,none⟩=some (.int .i64 x.b)/\w6.cell? ⟨X,3,none⟩=some (.int .i64 x.c)/\w6.cell? ⟨X,4,none⟩=some (.int .u64 x.imm));clear h6 k6))
  all_goals
   go_wp2_with fail
   go_end0
   rw[<-hstep]
   exact⟨rfl,H6.out.in_,B6.out⟩
 ·rw[HXX.out] at hk' v e ht
  rw[e] at hstep
  have hx0:∀q:Nat,Calls Tryz.prog 67 #[.pointer (some ⟨g,0,none⟩),ivI x] (W4.drewN q) fun e w'=>e=.returned (.tuple #[])/\(∃vi' vt',CoAt w' g base 71 fu vi' vt' (db T0 (s.fetched x) vf A1 c1 A2 c2 (.slice (some ⟨G,0,none⟩) (k+1) cG)) ((s.fetched x).c.execC x)/\CKp (W4.drewN q) w' g base):=fun q=>
   pn x (W4.drewN q) (by omega) hxi.out v.sm (by have h1:=v.tl;have h2:(s.fetched x).c.steps=s.c.steps+1:=rfl;omega) (aa (H4.out.drewN q).core)
  unfold ivI at hx0
  have hop:x.op≠22/\x.op≠23/\¬(15<=x.op/\x.op<=17):=by omega
  have e15:(x.op==15)=false:=by rw[beq_eq_false_iff_ne];omega
  have e16:(x.op==16)=false:=by rw[beq_eq_false_iff_ne];omega
  have e17:(x.op==17)=false:=by rw[beq_eq_false_iff_ne];omega
  have e22:(x.op==22)=false:=by rw[beq_eq_false_iff_ne];omega
  have e23:(x.op==23)=false:=by rw[beq_eq_false_iff_ne];omega
  have HX0:=aa hx0
  clear hx0 hop hops
  go_upto_region 5 with(fail)
  have z0:=fun p:After W4=>af r0 p
  have z1:=fun p:After W4=>af r1 p
  have z2:=fun p:After W4=>af r2 p
  have z3:=fun p:After W4=>af r3 p
  have z4:=fun p:After W4=>af r4 p
  go_region_held3 (fun w'=>w'.cell? ⟨X,0,none⟩=some (.int .i64 x.op)/\w'.cell? ⟨X,1,none⟩=some (.int .i64 x.a)/\w'.cell? ⟨X,2,none⟩=some (.int .i64 x.b)/\w'.cell? ⟨X,3,none⟩=some (.int .i64 x.c)/\w'.cell? ⟨X,4,none⟩=some (.int .u64 x.imm)) (first|go_keep|exact m6)
   (first|(go_at_call 67;refine(HX0.out _).mono ?_;rintro e w6 ⟨rfl,vi6,vt6,h6,k6⟩;have H6:=aa ((H4.out.drewN _).cored h6 k6);have B6:=aa ((am B4.out _).trans ((H4.out.drewN _).belowC k6));have R6:=aa (k6.row (R4.out.drewN _) hXg.out (.inr (by decide)));have m6:=(⟨R6.out.cell (k:=0) rfl,R6.out.cell (k:=1) rfl,R6.out.cell (k:=2) rfl,R6.out.cell (k:=3) rfl,R6.out.cell (k:=4) rfl⟩:w6.cell? ⟨X,0,none⟩=some (.int .i64 x.op)/\w6.cell? ⟨X,1,none⟩=some (.int .i64 x.a)/\w6.cell? ⟨X,2,none⟩=some (.int .i64 x.b)/\w6.cell? ⟨X,3,none⟩=some (.int .i64 x.c)/\w6.cell? ⟨X,4,none⟩=some (.int .u64 x.imm));clear h6 k6))
  all_goals
   go_wp2_with fail
   go_end0
   rw[<-hstep]
   exact⟨rfl,H6.out.in_,B6.out⟩
end
def lz (m:Nat):Option Value->Option Value->Nat
 | some (.int _ n),some (.bool b)=>if b then 0 else m+2-n.toNat
 | _,_=>0
theorem mQ {m a b:Nat} {x:Bool} (ha:a<=m) (hb:b=a+1\/x=true):lz m (some (.int .i64 (b:Int))) (some (.bool x))<lz m (some (.int .i64 (a:Int))) (some (.bool false)):=by
 cases x
 ·simp[lz];have:b=a+1:=by simpa using hb
  omega
 ·simp[lz];omega
inductive LoopT (F:Tg) (A:Nat) (inp:List Nat) (fu size:Nat) (S:Tm):Prop
 | on (j:Nat) (hj:j<=fu) (e:S=cZ F (aK A size) j (fg A F inp size)) (h:S.c.ended=false) (hs:S.c.steps=j) (v:VT F (aK A size) S)
 | off (h:S.c.ended=true) (e:S=gU A F inp fu size)
section
variable {F:Tg} {A:Nat} {inp:List Nat} {fu size:Nat} {S:Tm} {Al:Int}
theorem mU {T0 j m:Nat} {s:Tm} (h:(cZ F T0 j s).c.ended=true) (hj:j<=m):(cZ F T0 m s).fuelled=cZ F T0 j s:=by
 have e:cZ F T0 m s=cZ F T0 j s:=by
  rw[show m=j+(m-j) by omega,nO,lJ h]
 rw[e]
 unfold Tm.fuelled
 rw[if_pos h]
theorem LoopT.start (hR:RightT Al F) (hi:∀v∈inp,v<18446744073709551616) (hs:size<=1048576) (h0:fu≠0):LoopT F A inp fu size (fg A F inp size):=by
 rcases oz hR hi hs (A:=A) with h|h
 ·refine .off h.1 ?_
  rw[jd h0]
  exact(mU (j:=0) h.1 (Nat.zero_le _)).symm
 ·exact .on 0 (Nat.zero_le _) rfl h.1 ((jM (F:=F) (Al:=A) (inp:=inp) (size:=size)).steps) h.2
theorem LoopT.fuel (h:LoopT F A inp fu size S) (h0:fu≠0) (he:S.c.ended=false) (hs:fu<=S.c.steps):S.stop 4=gU A F inp fu size:=by
 rcases h with⟨j,hj,e,_,hst,v⟩|⟨h1,_⟩
 ·have:j=fu:=by omega
  subst this
  rw[jd h0,<-e]
  unfold Tm.fuelled
  rw[if_neg (by rw[he];decide)]
 ·rw[he] at h1;cases h1
theorem LoopT.vt (h:LoopT F A inp fu size S) (he:S.c.ended=false):VT F (aK A size) S/\S.c.steps<=fu:=by
 rcases h with⟨j,hj,e,_,hst,v⟩|⟨h1,_⟩
 ·exact⟨v,by omega⟩
 ·rw[he] at h1;cases h1
theorem LoopT.step (hR:RightT Al F) (him:eN F) (h:LoopT F A inp fu size S) (h0:fu≠0) (he:S.c.ended=false) (hs:S.c.steps<fu):LoopT F A inp fu size (S.step F (aK A size))/\(S.step F (aK A size)).c.steps=S.c.steps+1:=by
 have hm:=lG (F:=F) (T0:=aK A size) he
 refine⟨?_,hm.steps⟩
 rcases h with⟨j,hj,e,_,hst,v⟩|⟨h1,_⟩
 ·have e2:S.step F (aK A size)=cZ F (aK A size) (j+1) (fg A F inp size):=by rw[rT,<-e,if_neg (by rw[he];decide)]
  rcases ql hR him v he with h2|h2
  ·refine .off h2.1 ?_
   have h3:=h2.1
   rw[e2] at h3⊢
   rw[jd h0]
   exact(mU h3 (by omega)).symm
  ·exact .on (j+1) (by omega) e2 h2.1 (by rw[hm.steps,hst]) h2.2
 ·rw[he] at h1;cases h1
end
section
variable {g base fu T0:Nat} {vi vt vf vs:Value} {A1 A2:Option Addr} {c1 c2:Nat}
def sF (w:World) (F:Tg) (A:Nat) (inp:List Nat) (fu size g base:Nat) (vf:Value) (wr:World):Prop:=
 ∃(S:Tm) (vi vt:Value) (A1:Option Addr) (c1:Nat) (A2:Option Addr) (c2:Nat) (vs:Value),TmAt wr g base fu (aK A size) vi vt vf A1 c1 A2 c2 vs S/\LoopT F A inp fu size S/\Below base w wr
theorem vx {F:Tg} {Al:Int} {A size:Nat} {inp:List Nat} {lo nF cF:Nat} {AF:Option Addr} {hs:List Fd} (w:World) (hR:Hid (RightT Al F)) (him:Hid (eN F)) (hi:Hid (∀v∈inp,v<18446744073709551616)) (hfu:fu<=100000) (hsz:size<=1048576) (hvf:vf=.slice AF nF cF) (hPg:Hid (TgAt w lo base AF nF cF hs F)) (h:Hid (TmAt w g base fu (aK A size) vi vt vf A1 c1 A2 c2 vs (de A inp size))) :
  Calls Tryz.prog 28 #[.pointer (some ⟨g,0,none⟩)] w (jK g base fu (aK A size) vf (gU A F inp fu size) w):=by
 have hroom:aK A size<=1048576:=Nat.le_trans (Nat.sub_le _ _) hsz
 have cg:=i7 w (aa h.out.core) (by omega) (show(0:Nat)<=1000000 by omega)
 by_cases h0:fu=0
 ·subst h0
  have ha:(de A inp size).c.asked 0=(de A inp size).c.stop 4:=rfl
  rw[ha] at cg
  go_enter Tryz.func28,Tryz.ntmps28
  go_wp2_with fail
  refine cg.mono ?_
  rintro e w1 ⟨rfl,h1,k1⟩
  have H1:=aa (h.out.cored h1 (k1.weak h.out.core.tr))
  have B1:=aa (h.out.belowC (k1.weak h.out.core.tr))
  clear h1 k1 cg ha
  go_wp2_with fail
  go_loopw [] (fun wr=>Hid (TmAt wr g base 0 (aK A size) vi vt vf A1 c1 A2 c2 vs ((de A inp size).stop 4))/\Hid (Below base w wr)) (fun _=>0)
  case atStart=>exact⟨H1,B1⟩
  case round=>
   obtain⟨H,hB⟩:=hrel
   have cg2:=i7 wr (aa H.out.core) (by omega) (show(0:Nat)<=1000000 by omega)
   have ha2:((de A inp size).stop 4).c.asked 0=((de A inp size).stop 4).c:=rfl
   rw[ha2] at cg2
   go_wp2_with fail
   refine cg2.mono ?_
   rintro e w2 ⟨rfl,h2,k2⟩
   have H2:=aa (H.out.cored h2 (k2.weak H.out.core.tr))
   have B2:=aa (hB.out.trans (H.out.belowC (k2.weak H.out.core.tr)))
   clear h2 k2 cg2
   go_wp2_with fail
   go_end0
   exact⟨rfl,H2.out.in_,B2.out⟩
 ·have ha:(de A inp size).c.asked fu=(de A inp size).c:=by
   unfold Co.asked
   rw[if_neg (fun hh=>h0 (Nat.le_zero.1 hh.2))]
  rw[ha] at cg
  obtain⟨f0,hf0,hp0⟩:=hR.out.z
  have hf0s:=(gG (hR.out.f f0 (List.mem_of_getElem? hf0)).1).2.2.1
  have hnF80:nF<=80:=by have h1:=hPg.out.len;have h2:=hR.out.n80;omega
  go_enter Tryz.func28,Tryz.ntmps28
  go_wp2_with fail
  refine cg.mono ?_
  rintro e w1 ⟨rfl,h1,k1⟩
  have H1:=aa (h.out.cored h1 (k1.weak h.out.core.tr))
  have B1:=aa (h.out.belowC (k1.weak h.out.core.tr))
  have he1:(!(de A inp size).c.ended)=true:=rfl
  have ce:=my (s:=de A inp size) (T0:=aK A size) 0 w1 (aa hf0) hf0s.1 (show(0:Nat)<=1000000 by omega) hroom (show aK A size<=aK A size from Nat.le_refl _) (show(0:Nat)<=1048576 by omega) hvf hnF80 (aa (hPg.out.below B1.out)) H1
  rw[show((0:Nat):Int)=0 from rfl] at ce
  clear h1 k1 cg ha hf0 hp0 hf0s
  go_wp2_with fail
  go_fit ce
  rintro e w2 ⟨rfl,⟨vi2,vt2,A12,c12,A22,c22,vs2,h2⟩,b2⟩
  have HR:=aa (show sF w F A inp fu size g base vf w2 from⟨_,_,_,_,_,_,_,_,h2,LoopT.start hR.out hi.out hsz h0,B1.out.trans b2⟩)
  clear h2 b2 ce he1
  go_wp2_with fail
  go_loopw [] (fun wr=>Hid (sF w F A inp fu size g base vf wr)) (fun wr=>lz fu (wr.cell? ⟨g,7,none⟩) (wr.cell? ⟨g,24,none⟩))
  case atStart=>exact HR
  case round=>
   obtain⟨S,vi,vt,A1,c1,A2,c2,vs,H,hL,hB⟩:=hrel.out
   clear hrel
   have H:=aa H
   have hL:=aa hL
   have hB:=aa hB
   have c7:=H.out.core.far 7 rfl
   have c24:=H.out.core.ended
   cases hen:S.c.ended with
   | true=>
    have hS:S=gU A F inp fu size:=by
     rcases hL.out with⟨j,hj,e,hh,hs,v⟩|⟨hh,e⟩
     ·rw[hen] at hh;cases hh
     ·exact e
    have hmost:S.c.steps<=fu:=by rw[hS];exact tf fu
    have cg2:=i7 wr (aa H.out.core) (by omega) (by omega)
    have ha2:S.c.asked fu=S.c:=by unfold Co.asked;rw[if_neg (by rw[hen];simp)]
    rw[ha2,hen] at cg2
    rw[<-hS]
    clear ha2 c7 c24
    go_wp2_with fail
    refine cg2.mono ?_
    rintro e w2 ⟨rfl,h2,k2⟩
    have H2:=aa (H.out.cored h2 (k2.weak H.out.core.tr))
    have B2:=aa (hB.out.trans (H.out.belowC (k2.weak H.out.core.tr)))
    clear h2 k2 cg2
    go_wp2_with fail
    go_end0
    exact⟨rfl,H2.out.in_,B2.out⟩
   | false=>
    obtain⟨hv,hmost⟩:=hL.out.vt hen
    have cg2:=i7 wr (aa H.out.core) (by omega) (by omega)
    by_cases hge:fu<=S.c.steps
    ·have ha2:S.c.asked fu=S.c.stop 4:=by unfold Co.asked;rw[if_pos ⟨hen,hge⟩]
     rw[ha2] at cg2
     rw[<-hL.out.fuel h0 hen hge]
     have hst:(!(S.c.stop 4).ended)=false:=rfl
     rw[hst] at cg2
     clear ha2 c7 c24 hst
     go_wp2_with fail
     refine cg2.mono ?_
     rintro e w2 ⟨rfl,h2,k2⟩
     have H2:=aa (H.out.cored h2 (k2.weak H.out.core.tr))
     have B2:=aa (hB.out.trans (H.out.belowC (k2.weak H.out.core.tr)))
     clear h2 k2 cg2
     go_wp2_with fail
     go_end0
     exact⟨rfl,H2.out.in_,B2.out⟩
    ·have ha2:S.c.asked fu=S.c:=by unfold Co.asked;rw[if_neg (fun hh=>hge hh.2)]
     rw[ha2,hen] at cg2
     rw[hen] at c24
     have HL2:=aa (hL.out.step hR.out him.out h0 hen (by omega))
     have hmf:S.c.steps<=fu:=by omega
     have hV:=aa hv
     have hst2:S.c.steps<=200000:=by omega
     clear ha2 hge hv
     go_wp2_with fail
     refine cg2.mono ?_
     rintro e w2 ⟨rfl,h2,k2⟩
     have H2:=aa (H.out.cored h2 (k2.weak H.out.core.tr))
     have B2:=aa (hB.out.trans (H.out.belowC (k2.weak H.out.core.tr)))
     clear h2 k2 cg2
     have cs:=sW w2 hR him hV hst2 hroom hvf (aa (hPg.out.below B2.out)) H2
     go_wp2_with fail
     go_fit cs
     rintro e w6 ⟨rfl,⟨vi6,vt6,A16,c16,A26,c26,vs6,h6⟩,b6⟩
     have HR:=aa (show sF w F A inp fu size g base vf w6 from⟨_,_,_,_,_,_,_,_,h6,HL2.out.1,B2.out.trans b6⟩)
     have d7:=aa (h6.core.far 7 rfl)
     have d24:=aa h6.core.ended
     have h2:=HL2.out.2
     clear cs h6 b6 H hL hB HL2 hV H2 B2
     go_wp2_with fail
     go_roundw
     case rel=>exact HR
     case measure=>
      rw[d7.out,d24.out]
      try rw[c7,c24]
      exact mQ hmf (Or.inl h2)
end
end Go.Proofs.YtjbgepjdohfhkaaGreat
