/- The reference's machine of chapter 12: leave. Conditions: those of the types; the run goes on; the frame that runs is one of the target, and its bytes lie on the stack. -/
import Derived.Test.YtjbgepjdohfhkaaGreatMKcopy
set_option linter.unusedVariables false
set_option linter.unusedSimpArgs false
set_option maxRecDepth 100000
set_option maxHeartbeats 4000000
namespace Go.Proofs.YtjbgepjdohfhkaaGreat
open Go.RowKit
theorem vk {S:Sk} {m:Nat} (h:S.sp+m<=S.bs.length):fE S (m:Int)=dw S m:=by
 have e:eH S (m:Int)=0:=by simp only[eH];rw[if_neg (by omega)]
 simp[fE,e]
section
variable {g:Nat} {Al:Int} {T0:Nat} {vs v1 v2 vp vi vt:Value} {R:List Nat} {s:Tm}
theorem qL {F:Tg} {fm:Fm} {lb n c bF oF:Nat} {hs:List Fd} (w:World) (hn:1<=s.st.length) (hst:s.st.length<=1000000) (hf:Hid (F[s.top.1]?=some fm)) (hsz:0<=fm.size) (hpop:s.mem.sp+fsz F s.top.1<=s.mem.bs.length) (hn80:n<=80) (hbFg:bF<g) (hPg:Hid (TgAt w lb g (some ⟨bF,oF,none⟩) n c hs F)) (hend:s.c.ended=false) (h:Hid (WmAt w g Al T0 (.slice (some ⟨bF,oF,none⟩) n c) vs v1 v2 vp vi vt R s)) :
  Calls Tryz.prog 49 #[.pointer (some ⟨g,0,none⟩)] w (jJ g Al T0 (.slice (some ⟨bF,oF,none⟩) n c) (s.leave F) w):=by
 obtain⟨i0,ih,hz0,hz1,hz2⟩:=info_parts Tryz.info114w
 obtain⟨⟨f,pc⟩,htop⟩:∃z,s.top=z:=⟨_,rfl⟩
 rw[htop] at hf hpop
 simp only at hf hpop
 have hfl:f<n:=by rw[<-hPg.out.len];exact(List.getElem?_eq_some_iff.1 hf.out).1
 obtain⟨bF',oF',P,Sz,Ac,nc,cc,f',hAF,hbF,hf',hhf,hfd,d0,d1,d2⟩:=dk hPg.out hfl
 injection hAF with hAF
 injection hAF with hAF1 hAF2
 subst hAF1 hAF2
 rw[hf.out] at hf'
 injection hf' with hf'
 subst hf'
 have hSz:Sz=fm.size:=hfd.s
 obtain⟨m,hm⟩:∃m:Nat,fm.size=(m:Int):=⟨fm.size.toNat,by omega⟩
 have hfs:fsz F f=m:=by
  unfold fsz fX
  rw[List.getD_eq_getElem?_getD,hf.out]
  show fm.size.toNat=m
  omega
 rw[hSz,hm] at d1
 rw[hfs] at hpop
 obtain⟨k,hk⟩:∃k,s.st.length=k+1:=⟨s.st.length-1,by omega⟩
 have hstk:s.st=s.st.dropLast++[(f,pc)]:=by
  obtain⟨ys,z,e⟩:∃ys z,s.st=ys++[z]:=⟨s.st.dropLast,s.st.getLast (by intro e;rw[e] at hk;simp at hk),(List.dropLast_concat_getLast _).symm⟩
  have hz:s.top=z:=by unfold Tm.top;rw[e,List.getLastD_concat]
  rw[e,List.dropLast_concat,<-hz,htop]
 obtain⟨ys,hys⟩:∃ys,s.st.dropLast=ys:=⟨_,rfl⟩
 rw[hys] at hstk
 have hyl:ys.length=k:=by rw[<-hys];simp[hk]
 obtain⟨hRR,A1,c1,A2,c2,rfl,rfl,rfl,hsk,hfa1,hfa2⟩:=h.out.go hend
 have hgl:=h.out.gl
 obtain⟨As,ns,cs,rfl,hal,hac,han,haf,has⟩:=h.out.acts
 obtain rfl:ns=k+1:=by rw[<-hal,hk]
 have htk:(aA s.st)[k*2]?=some (.int .i64 (f:Int)):=(gR (a:=(f,pc)) (by rw[hstk,List.getElem?_append_right (by omega),hyl];simp)).1
 obtain⟨bA,oA,rfl,hbA,hcA⟩:=has (k*2) _ htk
 have hcp:fE s.mem (m:Int)=dw s.mem m:=vk hpop
 have cp:∀q,Calls Tryz.prog 73 #[sv A1 c1 A2 c2 s.mem,.int .i64 (m:Int)] (w.drewN q) fun e w5=>e=.returned (.tuple #[sv A1 c1 A2 c2 (dw s.mem m),.int .i64 (eH s.mem (m:Int))])/\Hid (WmAt w5 g Al T0 (.slice (some ⟨bF,oF,none⟩) n c) (.slice (some ⟨bA,oA,none⟩) (k+1) cs) (.slice A1 s.mem.bs.length c1) (.slice A2 s.mem.bs.length c2) (.int .i64 (s.mem.sp:Int)) vi vt R s)/\Hid (Below w.heap.size w w5):=fun q=>by
  refine(ye (m:Int) (w.drewN q) (aa (hsk.drewN q))).mono ?_
  rintro e w5 ⟨rfl,h5,hb5⟩
  rw[hcp]
  exact⟨rfl,aa ((h.out.drewN q).call hb5),aa (Below.trans (am (Below.refl _ _) q) hb5)⟩
 have x0:=h.out.cell 0 rfl
 have x1:=h.out.cell 1 rfl
 have x2:=h.out.cell 2 rfl
 have x3:=h.out.cell 3 rfl
 have x4:=h.out.frames
 have hf0:(0:Int)<=(f:Int):=by omega
 have hf1:(f:Int)<(n:Int):=by omega
 have hk0:(0:Int)<=(k:Int):=by omega
 have hk1:IntKind.i64.wrap (((k:Int)+1)-1)=(k:Int):=by rw[IntKind.wrap_i64];omega
 have hkc:(k:Int)<=(cs:Int):=by omega
 have hk2:(k:Int)<(k:Int)+1:=by omega
 obtain⟨E,hE⟩:∃E,eH s.mem (m:Int)=E:=⟨_,rfl⟩
 rw[hE] at cp
 have HY:=aa hstk
 have HTK:=aa (show(aA s.st).take (k*2)=aA ys by rw[hstk,eB,List.take_left' (by rw[dV,hyl])])
 have HLV:=aa (show s.leave F=if s.st.length<=1 then { s with mem:=dw s.mem m,st:=ys,c:=s.c.ret } else { s with mem:=dw s.mem m,st:=ys } by
  unfold Tm.leave
  rw[htop,hys]
  simp only
  rw[hfs])
 rw[hk] at HLV
 have HK:=aa hk
 have HYL:=aa hyl
 have hkm:k<=1000000:=by omega
 clear hSz hm d0 d2 hfd hhf hsz htk hfs hE hcp hys hstk hyl hk htop has han haf
 go_enter Tryz.func49,Tryz.ntmps49
 go_upto_region 1 with(fail)
 go_region_law (go_simp;go_at_call 73;refine(cp _).mono ?_;rintro e w5 ⟨rfl,H5,B5⟩;have y1:=H5.out.cell 1 rfl;have y2:=H5.out.cell 2 rfl;have y3:=H5.out.cell 3 rfl;have f1:=H5.out.free 19;have f2:=H5.out.free 20;have f3:=H5.out.free 21)
 all_goals
  obtain⟨W6,hW6⟩:∃W6,((w5.setCell ⟨g,19,none⟩ (.slice A1 (dw s.mem m).bs.length c1)).setCell ⟨g,20,none⟩ (.slice A2 (dw s.mem m).bs.length c2)).setCell ⟨g,21,none⟩ (.int .i64 ((dw s.mem m).sp:Int))=W6:=⟨_,rfl⟩
  have HW6:=aa hW6
  have hg6:w5.grownBy W6 (some g):=by rw[<-hW6];exact aS (aS (aS (World.grownBy.refl w5 _) 19 _) 20 _) 21 _
  obtain⟨ka,ki,kt,kg⟩:=H5.out.keptG hg6
  obtain⟨Z,hZ⟩:∃Z,dw s.mem m=Z:=⟨_,rfl⟩
  have hZb:Z.bs.length=s.mem.bs.length:=by rw[<-hZ];rfl
  have HPZ:=aa (show Z=dw s.mem m from hZ.symm)
  have H6:=aa (show WmAt W6 g Al T0 (.slice (some ⟨bF,oF,none⟩) n c) (.slice (some ⟨bA,oA,none⟩) (k+1) cs) (.slice A1 Z.bs.length c1) (.slice A2 Z.bs.length c2) (.int .i64 (Z.sp:Int)) vi vt R { s with mem:=Z } from⟨by
   have h1:=((H5.out.row.set_ (18+1) (.slice A1 Z.bs.length c1)).set_ (18+2) (.slice A2 Z.bs.length c2)).set_ (18+3) (.int .i64 (Z.sp:Int))
   rw[show∀x1 x2 x3,bR Al T0 (.slice (some ⟨bF,oF,none⟩) n c) (.slice (some ⟨bA,oA,none⟩) (k+1) cs) x1 x2 x3 vi vt R s=bj Al (.slice (some ⟨bF,oF,none⟩) n c) R (da T0 (.slice (some ⟨bA,oA,none⟩) (k+1) cs) x1 x2 x3 vi vt s) from fun _ _ _=>rfl,bP H5.out.rl,bP H5.out.rl,bP H5.out.rl] at h1
   rw[<-hW6,hZ]
   exact h1,H5.out.rl,ka,ki,kt,fun he=>⟨(kg he).1,by
   obtain⟨B1,d1,B2,d2,r1,r2,r3,r4,r5,r6⟩:=(kg he).2
   injection r1 with r11 _ r13
   injection r2 with r21 _ r23
   subst r11 r13 r21 r23
   exact⟨_,_,_,_,rfl,rfl,rfl,by rw[<-hZ];exact r4.pop hpop,r5,r6⟩⟩⟩)
  have G6:=aa ((aG B5.out (some g)).trans hg6)
  rw[hZ] at HLV
  rw[hZ] at HW6
  try rw[hZ]
  clear hW6 hg6 ka ki kt kg y1 y2 y3 f1 f2 f3 x0 x1 x2 x3 x4 cp hZ
  go_upto_region 2 with(fail)
  rw[HW6.out]
  clear HW6 H5 B5
  obtain⟨As',ns',cs',hae,hsl,hsc,hsn,hsf,hss⟩:=H6.out.acts
  injection hae with hae1 hae2 hae3
  subst hae1 hae2 hae3
  have t0:=H6.out.cell 0 rfl
  go_wp2_with (at_builtin;refine bE rfl (.const (.slice none 0 0)) (.tmp 42) 92 rfl W6.heap.size 114 i0 (.agg #[.int .i64 0,.int .i64 0]) 2 16 Tryz.underlying92 ih hz0 hz1 hz2 rfl (by decide) (.slice none 0 0) 0 [] rfl (World.ownsRow_nil _ _ _ _) W6.heap.size (some ⟨bA,oA,none⟩) k cs (aA ys) rfl (aa hsn) (aa (by rw[dV,HYL.out])) (aa (by have h1:=hss.take (k*2);rw[show(aA s.st).take (k*2)=aA ys from HTK.out] at h1;exact h1)) (aa (by omega)) (jL _) (by unfold maxLen;omega) (by omega) (Nat.le_refl _) ?_)
  intro v9 w9 ho9 hg9
  have ho9:w9.ownsRow W6.heap.size 114 2 v9 k (aA ys):=by simpa using ho9
  have hb9:Below W6.heap.size W6 w9:=(Below.refl _ _).grown hg9 (Nat.le_refl _) (fun k hk=>by cases hk)
  have H9:=aa (H6.out.call hb9)
  have G9:=aa (G6.out.trans (aG hb9 (some g)))
  have hg6l:=H6.out.gl
  obtain⟨A9,c9,rfl,hA9,hm9,hf9,hs9⟩:=aW ho9
  have t1:=H9.out.cell 0 rfl
  have t2:=H9.out.free 18
  obtain⟨W10,hW10⟩:∃W,w9.setCell ⟨g,18,none⟩ (.slice A9 k c9)=W:=⟨_,rfl⟩
  have HW10:=aa hW10
  have hg10:w9.grownBy W10 (some g):=by rw[<-hW10];exact aS (World.grownBy.refl w9 _) 18 _
  obtain⟨ka,ki,kt,kg⟩:=H9.out.keptG hg10
  have H10:=aa (show WmAt W10 g Al T0 (.slice (some ⟨bF,oF,none⟩) n c) (.slice A9 k c9) (.slice A1 Z.bs.length c1) (.slice A2 Z.bs.length c2) (.int .i64 (Z.sp:Int)) vi vt R { s with mem:=Z,st:=ys } from⟨by
   have h1:=H9.out.row.set_ (18+0) (.slice A9 k c9)
   rw[show bR Al T0 (.slice (some ⟨bF,oF,none⟩) n c) (.slice (some ⟨bA,oA,none⟩) (k+1) cs) (.slice A1 Z.bs.length c1) (.slice A2 Z.bs.length c2) (.int .i64 (Z.sp:Int)) vi vt R { s with mem:=Z }=bj Al (.slice (some ⟨bF,oF,none⟩) n c) R (da T0 (.slice (some ⟨bA,oA,none⟩) (k+1) cs) (.slice A1 Z.bs.length c1) (.slice A2 Z.bs.length c2) (.int .i64 (Z.sp:Int)) vi vt { s with mem:=Z }) from rfl,bP H9.out.rl] at h1
   rw[<-hW10]
   exact h1,H9.out.rl,⟨A9,k,c9,rfl,HYL.out,hm9,hA9,hf9.more (by omega),(hs9.keepF (w':=W10) hf9 (fun p h1 h2=>World.cell?_of_block (hg10.block p.block h2 (fun e=>by injection e with e;omega)))).more hg10.size⟩,ki,kt,kg⟩)
  have G10:=aa (G9.out.trans hg10)
  clear hb9 ho9 hg9 hA9 hm9 hf9 hs9 hW10 hg10 ka ki kt kg H9 G9 H6 G6 hsn hss hsc hsf hsl t0
  go_upto_region 3 with(fail)
  rw[HW10.out]
  clear HW10 t1 t2
  by_cases hk00:k=0
  ·have hL:=aa (show s.leave F={ s with mem:=Z,st:=ys,c:=s.c.ret } by rw[HLV.out,if_pos (by omega)])
   have hkz:(k:Int)=0:=by omega
   obtain⟨r0,hr0⟩:∃V,s.c.regs[0]?=some V:=⟨_,List.getElem?_eq_getElem (by rw[<-hRR,H10.out.rl];omega)⟩
   have hreg:s.c.reg 0=r0:=by
    rw[show(0:Int)=((0:Nat):Int) from rfl,Co.reg_in s.c (by omega),List.getD_eq_getElem?_getD,hr0];rfl
   have HR0:=aa (show R[0]?=some r0 by rw[hRR];exact hr0)
   have HRG:=aa hreg
   clear hr0 hreg hk00
   go_wp2_with fail
   refine(gz 0 W10 H10).mono ?_
   rintro e w11 ⟨rfl,h11,g11⟩
   have H11:=aa h11
   have G11:=aa (G10.out.trans g11)
   clear h11 g11 H10 G10
   obtain⟨q0,q1⟩:=ke (Al:=Al) (T0:=T0) (vf:=(.slice (some ⟨bF,oF,none⟩) n c)) (vs:=(.slice A9 k c9)) (v1:=(.slice A1 Z.bs.length c1)) (v2:=(.slice A2 Z.bs.length c2)) (vp:=(.int .i64 (Z.sp:Int))) (vi:=vi) (vt:=vt) (s:=Tm.stop { s with mem:=Z,st:=ys } 0) H11.out.rl HR0.out
   have p0:w11.cell? ⟨g,2,none⟩=some (.int .u64 (lo r0)):=H11.out.row.cell q0
   have p1:w11.cell? ⟨g,3,none⟩=some (.int .u64 (hi r0)):=H11.out.row.cell q1
   have p2:=H11.out.cell 10 rfl
   have p3:=H11.out.cell 11 rfl
   have e2:=H11.out.free 28
   have e3:=H11.out.free 29
   obtain⟨W12,hW12⟩:∃W,(w11.setCell ⟨g,28,none⟩ (.int .u64 (lo r0))).setCell ⟨g,29,none⟩ (.int .u64 (hi r0))=W:=⟨_,rfl⟩
   have HW12:=aa hW12
   have hg12:w11.grownBy W12 (some g):=by rw[<-hW12];exact aS (aS (World.grownBy.refl w11 _) 28 _) 29 _
   obtain⟨ka,ki,kt,kg⟩:=H11.out.keptG hg12
   have H12:=aa (show WmAt W12 g Al T0 (.slice (some ⟨bF,oF,none⟩) n c) (.slice A9 k c9) (.slice A1 Z.bs.length c1) (.slice A2 Z.bs.length c2) (.int .i64 (Z.sp:Int)) vi vt R { s with mem:=Z,st:=ys,c:=s.c.ret } from⟨by
    have h1:=(H11.out.row.set_ (18+10) (.int .u64 (lo r0))).set_ (18+11) (.int .u64 (hi r0))
    rw[show bR Al T0 (.slice (some ⟨bF,oF,none⟩) n c) (.slice A9 k c9) (.slice A1 Z.bs.length c1) (.slice A2 Z.bs.length c2) (.int .i64 (Z.sp:Int)) vi vt R (Tm.stop { s with mem:=Z,st:=ys } 0)=bj Al (.slice (some ⟨bF,oF,none⟩) n c) R (da T0 (.slice A9 k c9) (.slice A1 Z.bs.length c1) (.slice A2 Z.bs.length c2) (.int .i64 (Z.sp:Int)) vi vt (Tm.stop { s with mem:=Z,st:=ys } 0)) from rfl,bP H11.out.rl,bP H11.out.rl] at h1
    rw[<-hW12,<-HRG.out]
    rw[<-HRG.out] at h1
    exact h1,H11.out.rl,ka,ki,kt,fun he=>by cases he⟩)
   have G12:=aa (G11.out.trans hg12)
   clear ka ki kt kg hg12 hW12
   go_wp2_with fail
   rw[HW12.out]
   go_end0
   exact⟨rfl,by rw[hL.out];exact⟨_,_,_,_,_,_,_,H12.out⟩,G12.out⟩
  ·have hL:=aa (show s.leave F={ s with mem:=Z,st:=ys } by rw[HLV.out,if_neg (by omega)])
   have hkz:((k:Int)==0)=false:=by rw[beq_eq_false_iff_ne];omega
   go_wp2_with fail
   go_end0
   exact⟨rfl,by rw[hL.out];exact⟨_,_,_,_,_,_,_,H10.out⟩,G10.out⟩
end
end Go.Proofs.YtjbgepjdohfhkaaGreat
