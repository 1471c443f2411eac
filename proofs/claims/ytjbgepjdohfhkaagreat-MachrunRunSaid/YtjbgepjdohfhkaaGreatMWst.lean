/- The reference's machine of chapter 12: step. Conditions: those of the types; the target is right; the run goes on. -/
import Derived.Test.YtjbgepjdohfhkaaGreatMWno
set_option linter.unusedVariables false
set_option linter.unusedSimpArgs false
set_option maxRecDepth 100000
set_option maxHeartbeats 8000000
namespace Go.Proofs.YtjbgepjdohfhkaaGreat
open Go.RowKit
section
variable {g T0:Nat} {Al:Int} {vf vs v1 v2 vp vi vt:Value} {R:List Nat} {s:Tm}
theorem sL {F:Tg} {lb nF cF:Nat} {A:Option Addr} {hs:List Fd} (w:World) (hR:Hid (RightT Al F)) (him:Hid (eN F)) (hv:Hid (VT F T0 s)) (hsm:s.c.steps<=200000) (hT0:T0<=1048576) (hvf:vf=.slice A nF cF) (hPg:Hid (TgAt w lb g A nF cF hs F)) (hend:s.c.ended=false) (h:Hid (WmAt w g Al T0 vf vs v1 v2 vp vi vt R s)) :
  Calls Tryz.prog 33 #[.pointer (some ⟨g,0,none⟩)] w (jJ g Al T0 vf (s.step F T0) w):=by
 obtain⟨i0,ih,hz0,hz1,hz2⟩:=info_parts Tryz.info114w
 obtain⟨ys,z,hzs,htop,-⟩:=hv.out.split
 obtain⟨f,hf,hp,hx⟩:=hv.out.next_at
 have hsort:=aa (hv.out.sort hR.out hf hx)
 have hfm:=hR.out.f f (List.mem_of_getElem? hf)
 have hcl:=hfm.2.1
 obtain⟨hex,hxa,hxb,hxc,hxi0,-⟩:=iQ (hfm.2.2.1 _ (List.mem_of_getElem? hx))
 have hops:=nl hex
 have hnx:=aa (show 0<=s.c.more.next (s.cur F) (s.top.2:Int) by
  by_cases h23:(s.cur F).op=23
  ·unfold Co.next;rw[if_neg (by omega),if_neg (by omega)];omega
  ·by_cases h24:(s.cur F).op=24
   ·unfold Co.next;rw[if_neg (by omega),if_neg (by omega)];omega
   ·exact(nh hx (hfm.2.2.1 _ (List.mem_of_getElem? hx)) hfm.2.2.2 h23 h24).1)
 have hxi:=aa (him.out f (List.mem_of_getElem? hf) _ (List.mem_of_getElem? hx))
 have hfsz:=aa (gG hfm.1).2.2.1
 obtain⟨bF,oF,n2,c2',bC,oC,hfet,hn2⟩:=qA hPg.out hf hx
 have Hf:=aa hf
 have hkst:ys.length<=s.c.steps:=by have h1:=hv.out.stl;rw[hzs,List.length_append] at h1;simp at h1;omega
 have hnF80:nF<=80:=by have h1:=hPg.out.len;have h2:=hR.out.n80;omega
 have hn2b:n2<=1024:=by omega
 obtain⟨hRR,hStk⟩:=h.out.go hend
 have HRR:=aa hRR
 have HMX:=aa (hfm.2.2.1 _ (List.mem_of_getElem? hx))
 have hgl:=h.out.gl
 obtain⟨x,hxx⟩:∃x,s.cur F=x:=⟨_,rfl⟩
 have HXX:=aa hxx
 rw[hxx] at hfet hops hxi hxa hxb hxc hxi0
 obtain rfl:=hfet.a
 subst hvf
 have hbFg:bF<g:=hfet.bf
 rw[hxx] at HMX
 rw[htop] at hfet
 have HFET:=aa hfet
 have HTOP:=aa htop
 have HZS:=aa hzs
 have HXA:=aa hxa
 have HXB:=aa hxb
 have HXC:=aa hxc
 have HXI0:=aa hxi0
 obtain⟨S',hS'⟩:∃S',s.step F T0=S':=⟨_,rfl⟩
 have HS':=aa hS'
 rw[hS']
 obtain⟨As,ns,cs,rfl,hsl,hsc,hsn,hsf,hss⟩:=h.out.acts
 obtain⟨k,hk⟩:∃k,ys.length=k:=⟨_,rfl⟩
 have HYK:=aa hk
 obtain rfl:ns=k+1:=by rw[<-hsl,hzs,<-hk];simp
 rw[hk] at hkst
 have c0:=h.out.cell 0 rfl
 have hk0:(0:Int)<=(k:Int):=by omega
 have hk1:(k:Int)<(k:Int)+1:=by omega
 have hwk:IntKind.i64.wrap ((k:Int)+1-1)=(k:Int):=by rw[IntKind.wrap_i64];omega
 have hSL:=aa (show(aA s.st).length=(k+1)*2 by rw[dV,hsl])
 clear hf hp hx hfm hex hn2 hxx hfet htop hzs hcl hS' hRR hStk hxa hxb hxc hxi0 hk
 go_enter Tryz.func33,Tryz.ntmps33
 go_upto_region 1 with(fail)
 go_wp2_with (at_builtin;refine bE rfl (.const (.slice none 0 0)) (.tmp 15) 92 rfl w.heap.size 114 i0 (.agg #[.int .i64 0,.int .i64 0]) 2 16 Tryz.underlying92 ih hz0 hz1 hz2 rfl (by decide) (.slice none 0 0) 0 [] rfl (World.ownsRow_nil _ _ _ _) w.heap.size As (k+1) cs (aA s.st) rfl (aa hsn) hSL (aa hss) (aa hsc) (jL _) (by unfold maxLen;omega) (by omega) (Nat.le_refl _) ?_)
 intro v9 w1 ho1 hg1
 have ho1':w1.ownsRow w.heap.size 114 2 v9 (k+1) (aA s.st):=by simpa using ho1
 obtain⟨G,cG,rfl,hGb,hGl⟩:=v8 ho1'
 have hb1:Below w.heap.size w w1:=(Below.refl _ _).grown hg1 (Nat.le_refl _) (fun k hk=>by cases hk)
 have HO1:=aa ho1'
 have HB1:=aa hb1
 clear ho1 ho1' hg1 hsn hss hsc hsf hSL c0 hsl
 have F1:=aa (HFET.out.below (hb1.mono (Nat.le_of_lt hgl)))
 obtain⟨t0,t1⟩:w1.cell? ⟨G,k*2,none⟩=some (.int .i64 (z.1:Int))/\w1.cell? ⟨G,k*2+1,none⟩=some (.int .i64 (z.2:Int)):=by
  have hz:s.st[k]?=some z:=by rw[HZS.out,<-HYK.out];simp
  obtain⟨a0,a1⟩:=gR hz
  have hc:∀j u,(aA s.st)[j]?=some u->w1.cell? ⟨G,j,none⟩=some u:=fun j u hj=>by
   have:=HO1.out.cells (g:=G) rfl j u hj
   rwa[show(⟨G,0,none⟩:Addr).add j=⟨G,j,none⟩ by unfold Addr.add;split<;>simp_all] at this
  exact⟨hc _ _ a0,hc _ _ a1⟩
 have v0:=(h.out.call hb1).frames
 have y0:=F1.out.h
 have y1:=F1.out.x0
 have y2:=F1.out.x1
 have y3:=F1.out.x2
 have y4:=F1.out.x3
 have y5:=F1.out.x4
 have v0':=fun o:Obj=>aD (ag w1 o) v0
 have t0':=fun o:Obj=>aD (ag w1 o) t0
 have t1':=fun o:Obj=>aD (ag w1 o) t1
 have y0':=fun o:Obj=>aD (ag w1 o) y0
 have y1':=fun o:Obj=>aD (ag w1 o) y1
 have y2':=fun o:Obj=>aD (ag w1 o) y2
 have y3':=fun o:Obj=>aD (ag w1 o) y3
 have y4':=fun o:Obj=>aD (ag w1 o) y4
 have y5':=fun o:Obj=>aD (ag w1 o) y5
 have i0':(0:Int)<=(z.1:Int):=by omega
 have i1:(z.1:Int)<(nF:Int):=by have:=F1.out.fl;omega
 have i2:(0:Int)<=(z.2:Int):=by omega
 have i3:(z.2:Int)<(n2:Int):=by have:=F1.out.pl;omega
 have hz2b:=aa (show z.2<=1024 by have:=F1.out.pl;omega)
 clear hb1
 go_upto_region 2 with(fail)
 go_region
 go_upto_region 3 with(fail)
 obtain⟨X,hX⟩:∃X,w1.heap.size=X:=⟨_,rfl⟩
 obtain⟨W3,hW3⟩:∃W3,(w1.alloc (.cells #[.int .i64 x.op,.int .i64 x.a,.int .i64 x.b,.int .i64 x.c,.int .u64 x.imm] 50)).drew=W3:=⟨_,rfl⟩
 have S3:=aa (show WSt w W3 g Al (.slice (some ⟨bF,oF,none⟩) nF cF) R (da T0 (.slice As (k+1) cs) v1 v2 vp vi vt s) G (k+1) cG (aA s.st) X x from by
  have hb3:Below w1.heap.size w1 W3:=by rw[<-hW3];exact(ag _ _).drew
  refine⟨(h.out.row.call HB1.out).call hb3,h.out.rl,HO1.out.kept (aG hb3 none) (.inr (fun e=>by cases e)),by rw[<-hW3,<-hX];exact(Row.new w1 _ _).drew,aG (HB1.out.trans (hb3.mono HB1.out.size)) _,hgl,by rw[<-hX];exact HB1.out.size,by omega⟩)
 rw[hW3,hX]
 clear hW3 hX v0 t0 t1 y0 y1 y2 y3 y4 y5 v0' t0' t1' y0' y1' y2' y3' y4' y5' i0' i1 i2 i3 F1 HFET HO1 HB1 hGl
 have hGne:¬(G=g):=by omega
 have hgGne:¬(g=G):=by omega
 have d0:=S3.out.cellG 13 rfl
 have d1:=S3.out.freeG 31
 have hwrap:IntKind.i64.wrap ((s.c.steps:Int)+1)=(s.c.steps:Int)+1:=by rw[IntKind.wrap_i64];omega
 go_upto_region 4 with(fail)
 obtain⟨W4,hW4⟩:∃W4,W3.setCell ⟨g,31,none⟩ (.int .i64 ((s.c.steps:Int)+1))=W4:=⟨_,rfl⟩
 have S4:=aa (show WSt w W4 g Al (.slice (some ⟨bF,oF,none⟩) nF cF) R ((da T0 (.slice As (k+1) cs) v1 v2 vp vi vt s).set 13 (.int .i64 ((s.c.steps:Int)+1))) G (k+1) cG (aA s.st) X x by rw[<-hW4];exact S3.out.setG 13 _)
 rw[hW4]
 clear hW4 d0 d1 hwrap S3
 have HT1:=aa (show(aA s.st)[k*2+1]?=some (.int .i64 (z.2:Int)) from(gR (show s.st[k]?=some z by rw[HZS.out,<-HYK.out];simp)).2)
 have t1:=S4.out.cellL (k*2+1) HT1.out
 have t2:=S4.out.freeL (k*2+1)
 have hwp:IntKind.i64.wrap ((z.2:Int)+1)=(z.2:Int)+1:=by rw[IntKind.wrap_i64];have:=hz2b.out;omega
 go_upto_region 5 with(fail)
 obtain⟨W5,hW5⟩:∃W5,W4.setCell ⟨G,k*2+1,none⟩ (.int .i64 ((z.2:Int)+1))=W5:=⟨_,rfl⟩
 have S5:=aa (show WSt w W5 g Al (.slice (some ⟨bF,oF,none⟩) nF cF) R ((da T0 (.slice As (k+1) cs) v1 v2 vp vi vt s).set 13 (.int .i64 ((s.c.steps:Int)+1))) G (k+1) cG ((aA s.st).set (k*2+1) (.int .i64 ((z.2:Int)+1))) X x by rw[<-hW5];exact S4.out.setL _ _)
 rw[hW5]
 have HL5:=aa (show((aA s.st).set (k*2+1) (.int .i64 ((z.2:Int)+1)))[k*2+1]?=some (.int .i64 ((z.2:Int)+1)) from List.getElem?_set_self (List.getElem?_eq_some_iff.1 HT1.out).1)
 clear hW5 t1 t2 hwp S4 HT1
 have HPC:=aa (show∀N:Nat,(aA s.st).set (k*2+1) (.int .i64 (N:Int))=aA (ys++[(z.1,N)]) from fun N=>by rw[HZS.out,<-HYK.out];exact mA ys z N)
 obtain⟨TL,hTL⟩:∃TL,(da T0 (.slice As (k+1) cs) v1 v2 vp vi vt s).set 13 (.int .i64 ((s.c.steps:Int)+1))=TL:=⟨_,rfl⟩
 have HTL:=aa hTL
 have HTL0:=aa (show TL[0]?=some (.slice As (k+1) cs) by rw[<-hTL];rfl)
 rw[hTL] at S5
 clear hTL
 have r0:=S5.out.box.cell (k:=0) rfl
 have r1:=S5.out.box.cell (k:=1) rfl
 have r2:=S5.out.box.cell (k:=2) rfl
 by_cases h20:x.op=20
 ·have hop:=h20
  rw[h20] at r0
  obtain⟨N,hN⟩:∃N:Nat,x.a=(N:Int):=by
   have e1:=hnx.out
   rw[HXX.out] at e1
   unfold Co.next at e1
   rw[if_pos h20] at e1
   exact⟨x.a.toNat,by omega⟩
  have HN:=aa (show(s.c.more.next x (z.2:Int)).toNat=N by unfold Co.next;rw[if_pos h20,hN];rfl)
  have t1:=S5.out.cellL (k*2+1) HL5.out
  have t2:=S5.out.freeL (k*2+1)
  rw[hN] at r1
  go_upto_region 7 with(fail)
  obtain⟨W6,hW6⟩:∃W6,W5.setCell ⟨G,k*2+1,none⟩ (.int .i64 (N:Int))=W6:=⟨_,rfl⟩
  have S6:=aa (show WSt w W6 g Al (.slice (some ⟨bF,oF,none⟩) nF cF) R TL G (k+1) cG (aA (ys++[(z.1,N)])) X x by
   have h6:=S5.out.setL (k*2+1) (.int .i64 (N:Int))
   rw[List.set_set,HPC.out N,hW6] at h6
   exact h6)
  rw[hW6]
  clear hW6 t1 t2 r0 r1 r2 S5 hN
  have r0:=S6.out.box.cell (k:=0) rfl
  rw[h20] at r0
  clear h20
  go_quiet (fail)
  go_upto_region 9 with(fail)
  obtain⟨W7,hW7⟩:∃W7,W6.drewN nq=W7:=⟨_,rfl⟩
  have S7:=aa (show WSt w W7 g Al (.slice (some ⟨bF,oF,none⟩) nF cF) R TL G (k+1) cG (aA (ys++[(z.1,N)])) X x by rw[<-hW7];exact S6.out.drewN nq)
  rw[hW7]
  clear hW7 S6 r0
  have d0:=S7.out.cellG 0 HTL0.out
  have d1:=S7.out.freeG 18
  go_upto_region 10 with(fail)
  obtain⟨W8,hW8⟩:∃W8,W7.setCell ⟨g,18,none⟩ (.slice (some ⟨G,0,none⟩) (k+1) cG)=W8:=⟨_,rfl⟩
  have S8:=aa (show WSt w W8 g Al (.slice (some ⟨bF,oF,none⟩) nF cF) R (TL.set 0 (.slice (some ⟨G,0,none⟩) (k+1) cG)) G (k+1) cG (aA (ys++[(z.1,N)])) X x by rw[<-hW8];exact S7.out.setG 0 _)
  have H8:=aa (show WmAt W8 g Al T0 (.slice (some ⟨bF,oF,none⟩) nF cF) (.slice (some ⟨G,0,none⟩) (k+1) cG) v1 v2 vp vi vt R (s.fetched x) by
   have h8:=S8.out
   rw[<-HTL.out] at h8
   have e1:=HYK.out
   subst e1
   have h9:=WSt.done h.out h8
   have e2:s.fetched x={ s with c:=s.c.more,st:=ys++[(z.1,N)] }:=by
    unfold Tm.fetched Tm.setTop
    dsimp only
    rw[HTOP.out,HN.out,HZS.out,List.dropLast_concat]
   rw[e2]
   exact h9)
  have G8:=aa S8.out.gr
  rw[hW8]
  clear hW8 d0 d1 S7
  have r0:=S8.out.box.cell (k:=0) rfl
  have r1:=S8.out.box.cell (k:=1) rfl
  have r2:=S8.out.box.cell (k:=2) rfl
  have r3:=S8.out.box.cell (k:=3) rfl
  have r4:=S8.out.box.cell (k:=4) rfl
  have hst:S'=s.fetched x:=by
   rw[<-HS'.out]
   unfold Tm.step Tm.exec
   rw[HXX.out,if_neg (by omega),if_neg (by omega),if_neg (by omega)]
   unfold Co.execC
   rw[if_neg (by omega),if_neg (by omega),if_neg (by omega),if_neg (by omega),if_neg (by omega),if_neg (by omega),if_pos (by omega)]
  rw[hop] at r0
  go_wp2_with fail
  go_end0
  exact⟨rfl,by rw[hst];exact⟨_,_,_,_,_,_,_,H8.out⟩,G8.out⟩
 ·by_cases h21:x.op=21
  ·have hop:=h21
   rw[h21] at r0
   obtain⟨ra,hra,hra8⟩:∃i:Nat,x.a=(i:Int)/\i<8:=by
    have e1:=HXA.out
    rw[h21] at e1
    exact ly e1
   obtain⟨V,hV⟩:∃V,R[ra]?=some V:=⟨_,List.getElem?_eq_getElem (by rw[h.out.rl];exact hra8)⟩
   have q0:=S5.out.reg hV
   have ha0:(0:Int)<=(ra:Int):=by omega
   have ha1:(ra:Int)<8:=by omega
   have e20:(x.op==20)=false:=by simpa using h20
   rw[hra] at r1
   have HRG:=aa (show s.c.more.reg x.a=V by
    rw[hra,Co.reg_in _ hra8]
    show s.c.regs.getD ra 0=V
    rw[<-HRR.out,List.getD_eq_getElem?_getD,hV]
    rfl)
   by_cases hlo:V % 18446744073709551616=0
   ·have hq:lo V=0:=by unfold lo;omega
    rw[hq] at q0
    obtain⟨N,hN⟩:∃N:Nat,(z.2:Int)+1=(N:Int):=⟨z.2+1,by omega⟩
    have HN:=aa (show(s.c.more.next x (z.2:Int)).toNat=N by
     unfold Co.next
     rw[if_neg h20,if_neg (by rw[HRG.out];exact fun h=>h.2 hlo)]
     omega)
    have S6:=aa (show WSt w W5 g Al (.slice (some ⟨bF,oF,none⟩) nF cF) R TL G (k+1) cG (aA (ys++[(z.1,N)])) X x by
     have h6:=S5.out
     rw[hN,HPC.out N] at h6
     exact h6)
    clear S5 hN h20 h21 hlo hq hV
    go_upto_region 7 with(fail)
    go_quiet (fail)
    go_upto_region 9 with(fail)
    obtain⟨W7,hW7⟩:∃W7,W5.drewN nq=W7:=⟨_,rfl⟩
    have S7:=aa (show WSt w W7 g Al (.slice (some ⟨bF,oF,none⟩) nF cF) R TL G (k+1) cG (aA (ys++[(z.1,N)])) X x by rw[<-hW7];exact S6.out.drewN nq)
    rw[hW7]
    clear hW7 S6 r0
    have d0:=S7.out.cellG 0 HTL0.out
    have d1:=S7.out.freeG 18
    go_upto_region 10 with(fail)
    obtain⟨W8,hW8⟩:∃W8,W7.setCell ⟨g,18,none⟩ (.slice (some ⟨G,0,none⟩) (k+1) cG)=W8:=⟨_,rfl⟩
    have S8:=aa (show WSt w W8 g Al (.slice (some ⟨bF,oF,none⟩) nF cF) R (TL.set 0 (.slice (some ⟨G,0,none⟩) (k+1) cG)) G (k+1) cG (aA (ys++[(z.1,N)])) X x by rw[<-hW8];exact S7.out.setG 0 _)
    have H8:=aa (show WmAt W8 g Al T0 (.slice (some ⟨bF,oF,none⟩) nF cF) (.slice (some ⟨G,0,none⟩) (k+1) cG) v1 v2 vp vi vt R (s.fetched x) by
     have h8:=S8.out
     rw[<-HTL.out] at h8
     have e1:=HYK.out
     subst e1
     have h9:=WSt.done h.out h8
     have e2:s.fetched x={ s with c:=s.c.more,st:=ys++[(z.1,N)] }:=by
      unfold Tm.fetched Tm.setTop
      dsimp only
      rw[HTOP.out,HN.out,HZS.out,List.dropLast_concat]
     rw[e2]
     exact h9)
    have G8:=aa S8.out.gr
    rw[hW8]
    clear hW8 d0 d1 S7
    have r0:=S8.out.box.cell (k:=0) rfl
    have r1:=S8.out.box.cell (k:=1) rfl
    have r2:=S8.out.box.cell (k:=2) rfl
    have r3:=S8.out.box.cell (k:=3) rfl
    have r4:=S8.out.box.cell (k:=4) rfl
    have hst:S'=s.fetched x:=by
     rw[<-HS'.out]
     unfold Tm.step Tm.exec
     rw[HXX.out,if_neg (by omega),if_neg (by omega),if_neg (by omega)]
     unfold Co.execC
     rw[if_neg (by omega),if_neg (by omega),if_neg (by omega),if_neg (by omega),if_neg (by omega),if_neg (by omega),if_pos (by omega)]
    rw[hop] at r0
    go_wp2_with fail
    go_end0
    exact⟨rfl,by rw[hst];exact⟨_,_,_,_,_,_,_,H8.out⟩,G8.out⟩
   ·have hq:¬(lo V=0):=by unfold lo;omega
    have hqb:(lo V !=0)=true:=by simpa using hq
    obtain⟨N,hN⟩:∃N:Nat,x.b=(N:Int):=by
     have e1:=hnx.out
     rw[HXX.out] at e1
     unfold Co.next at e1
     rw[if_neg h20,if_pos ⟨h21,by rw[HRG.out];exact hlo⟩] at e1
     exact⟨x.b.toNat,by omega⟩
    have HN:=aa (show(s.c.more.next x (z.2:Int)).toNat=N by
     unfold Co.next
     rw[if_neg h20,if_pos ⟨h21,by rw[HRG.out];exact hlo⟩,hN]
     rfl)
    rw[hN] at r2
    have HNB:=aa hN
    clear h20 h21 hlo hV
    go_upto_region 7 with(fail)
    go_quiet (fail)
    obtain⟨W6,hW6⟩:∃W6,W5.drewN nq=W6:=⟨_,rfl⟩
    have S6:=aa (show WSt w W6 g Al (.slice (some ⟨bF,oF,none⟩) nF cF) R TL G (k+1) cG ((aA s.st).set (k*2+1) (.int .i64 ((z.2:Int)+1))) X x by rw[<-hW6];exact S5.out.drewN nq)
    go_upto_region 8 with(fail)
    rw[hW6]
    clear hW6 r0 r1 r2 q0 S5 hN
    have r0:=S6.out.box.cell (k:=0) rfl
    have r2:=S6.out.box.cell (k:=2) rfl
    rw[hop] at r0
    have t1:=S6.out.cellL (k*2+1) HL5.out
    have t2:=S6.out.freeL (k*2+1)
    rw[HNB.out] at r2
    go_upto_region 9 with(fail)
    obtain⟨W7,hW7⟩:∃W7,W6.setCell ⟨G,k*2+1,none⟩ (.int .i64 (N:Int))=W7:=⟨_,rfl⟩
    have S7:=aa (show WSt w W7 g Al (.slice (some ⟨bF,oF,none⟩) nF cF) R TL G (k+1) cG (aA (ys++[(z.1,N)])) X x by
     have h6:=S6.out.setL (k*2+1) (.int .i64 (N:Int))
     rw[List.set_set,HPC.out N,hW7] at h6
     exact h6)
    rw[hW7]
    clear hW7 S6 r0 r2 t1 t2
    have d0:=S7.out.cellG 0 HTL0.out
    have d1:=S7.out.freeG 18
    go_upto_region 10 with(fail)
    obtain⟨W8,hW8⟩:∃W8,W7.setCell ⟨g,18,none⟩ (.slice (some ⟨G,0,none⟩) (k+1) cG)=W8:=⟨_,rfl⟩
    have S8:=aa (show WSt w W8 g Al (.slice (some ⟨bF,oF,none⟩) nF cF) R (TL.set 0 (.slice (some ⟨G,0,none⟩) (k+1) cG)) G (k+1) cG (aA (ys++[(z.1,N)])) X x by rw[<-hW8];exact S7.out.setG 0 _)
    have H8:=aa (show WmAt W8 g Al T0 (.slice (some ⟨bF,oF,none⟩) nF cF) (.slice (some ⟨G,0,none⟩) (k+1) cG) v1 v2 vp vi vt R (s.fetched x) by
     have h8:=S8.out
     rw[<-HTL.out] at h8
     have e1:=HYK.out
     subst e1
     have h9:=WSt.done h.out h8
     have e2:s.fetched x={ s with c:=s.c.more,st:=ys++[(z.1,N)] }:=by
      unfold Tm.fetched Tm.setTop
      dsimp only
      rw[HTOP.out,HN.out,HZS.out,List.dropLast_concat]
     rw[e2]
     exact h9)
    have G8:=aa S8.out.gr
    rw[hW8]
    clear hW8 d0 d1 S7
    have r0:=S8.out.box.cell (k:=0) rfl
    have r1:=S8.out.box.cell (k:=1) rfl
    have r2:=S8.out.box.cell (k:=2) rfl
    have r3:=S8.out.box.cell (k:=3) rfl
    have r4:=S8.out.box.cell (k:=4) rfl
    have hst:S'=s.fetched x:=by
     rw[<-HS'.out]
     unfold Tm.step Tm.exec
     rw[HXX.out,if_neg (by omega),if_neg (by omega),if_neg (by omega)]
     unfold Co.execC
     rw[if_neg (by omega),if_neg (by omega),if_neg (by omega),if_neg (by omega),if_neg (by omega),if_neg (by omega),if_pos (by omega)]
    rw[hop] at r0
    go_wp2_with fail
    go_end0
    exact⟨rfl,by rw[hst];exact⟨_,_,_,_,_,_,_,H8.out⟩,G8.out⟩
  ·have e20:(x.op==20)=false:=by simpa using h20
   have e21:(x.op==21)=false:=by simpa using h21
   obtain⟨N,hN⟩:∃N:Nat,(z.2:Int)+1=(N:Int):=⟨z.2+1,by omega⟩
   have HN:=aa (show(s.c.more.next x (z.2:Int)).toNat=N by
    unfold Co.next
    rw[if_neg h20,if_neg (fun h=>h21 h.1)]
    omega)
   have S6:=aa (show WSt w W5 g Al (.slice (some ⟨bF,oF,none⟩) nF cF) R TL G (k+1) cG (aA (ys++[(z.1,N)])) X x by
    have h6:=S5.out
    rw[hN,HPC.out N] at h6
    exact h6)
   clear S5 hN
   go_upto_region 7 with(fail)
   go_quiet (fail)
   go_upto_region 9 with(fail)
   obtain⟨W7,hW7⟩:∃W7,W5.drewN nq=W7:=⟨_,rfl⟩
   have S7:=aa (show WSt w W7 g Al (.slice (some ⟨bF,oF,none⟩) nF cF) R TL G (k+1) cG (aA (ys++[(z.1,N)])) X x by rw[<-hW7];exact S6.out.drewN nq)
   rw[hW7]
   clear hW7 S6 r0
   have d0:=S7.out.cellG 0 HTL0.out
   have d1:=S7.out.freeG 18
   go_upto_region 10 with(fail)
   obtain⟨W8,hW8⟩:∃W8,W7.setCell ⟨g,18,none⟩ (.slice (some ⟨G,0,none⟩) (k+1) cG)=W8:=⟨_,rfl⟩
   have S8:=aa (show WSt w W8 g Al (.slice (some ⟨bF,oF,none⟩) nF cF) R (TL.set 0 (.slice (some ⟨G,0,none⟩) (k+1) cG)) G (k+1) cG (aA (ys++[(z.1,N)])) X x by rw[<-hW8];exact S7.out.setG 0 _)
   have H8:=aa (show WmAt W8 g Al T0 (.slice (some ⟨bF,oF,none⟩) nF cF) (.slice (some ⟨G,0,none⟩) (k+1) cG) v1 v2 vp vi vt R (s.fetched x) by
    have h8:=S8.out
    rw[<-HTL.out] at h8
    have e1:=HYK.out
    subst e1
    have h9:=WSt.done h.out h8
    have e2:s.fetched x={ s with c:=s.c.more,st:=ys++[(z.1,N)] }:=by
     unfold Tm.fetched Tm.setTop
     dsimp only
     rw[HTOP.out,HN.out,HZS.out,List.dropLast_concat]
    rw[e2]
    exact h9)
   have G8:=aa S8.out.gr
   rw[hW8]
   clear hW8 d0 d1 S7
   have r0:=S8.out.box.cell (k:=0) rfl
   have r1:=S8.out.box.cell (k:=1) rfl
   have r2:=S8.out.box.cell (k:=2) rfl
   have r3:=S8.out.box.cell (k:=3) rfl
   have r4:=S8.out.box.cell (k:=4) rfl
   have HPG8:=aa (show TgAt W8 lb g (some ⟨bF,oF,none⟩) nF cF hs F from hPg.out.keep (fun p _ h2=>World.cell?_of_block (G8.out.block p.block (by omega) (fun e=>by have:=Option.some.inj e;omega))))
   have hend8:(s.fetched x).c.ended=false:=hend
   have hstep:=HS'.out
   have HFIN:=aa (fun(W9:World) (t:Tm) (h9:pH W9 g Al T0 (.slice (some ⟨bF,oF,none⟩) nF cF) t) (g9:W8.grownBy W9 (some g)) (e9:S'=t)=>(show jJ g Al T0 (.slice (some ⟨bF,oF,none⟩) nF cF) S' w (.returned (.tuple #[])) W9 from⟨rfl,by rw[e9];exact h9,G8.out.trans g9⟩))
   have hs:=hsort.out
   rcases hs with⟨hop,v,a,e⟩|⟨hop,v,gf,hg,ha0,hc,hr,hl,e⟩|⟨hop,e⟩|⟨hop,e⟩|⟨hk',v,ht,e⟩
   ·rw[HXX.out] at hop v a e
    rw[e] at hstep
    have ca:=vm x W8 a (fun q=>by have e1:=HXA.out;rw[q] at e1;obtain⟨i,e2,e3⟩:=ly (show aB F.length f.code.length 1 x.a=0 from e1);omega) (fun q=>by have e1:=HXB.out;rw[q] at e1;obtain⟨i,e2,e3⟩:=ly (show aB F.length f.code.length 1 x.b=0 from e1);omega) v.len v.sm hend8 H8
    unfold pI at ca
    have HST:=aa hstep.symm
    clear v a e hstep hsort hv hR him hPg h
    have b22:(x.op==22)=false:=by rw[beq_eq_false_iff_ne];omega
    have b23:(x.op==23)=false:=by rw[beq_eq_false_iff_ne];omega
    have b24:(x.op==24)=false:=by rw[beq_eq_false_iff_ne];omega
    clear hop hops h20 h21
    go_wp2_with fail
    go_fit ca
    rintro e w6 ⟨rfl,h6,b6⟩
    have H6:=aa h6
    have B6:=aa b6
    clear h6 b6 ca
    go_wp2_with fail
    go_end0
    exact HFIN.out _ _ H6.out B6.out HST.out
   ·rw[HXX.out] at hop v e ha0 hg hr hl
    rw[e] at hstep
    obtain⟨n,hn⟩:∃n:Nat,x.a=(n:Int):=⟨x.a.toNat,by omega⟩
    rw[hn] at hg hstep r1
    rw[Int.toNat_natCast] at hg hstep
    have hgs:=(gG (hR.out.f gf (List.mem_of_getElem? hg)).1).2.2.1
    have hsum:=v.sum
    have hstl:=v.stl
    have hstp:(s.fetched x).c.steps=s.c.steps+1:=rfl
    have ce:=mr n W8 (aa hg) hgs.1 (by omega) hT0 (by omega) (Nat.le_trans v.dp.dl hT0) hnF80 hbFg HPG8 hend8 H8
    unfold jJ at ce
    have HST:=aa hstep.symm
    clear v e hstep hsort hv hR him hPg hg hr hl hgs hsum hstl hstp h h20 h21
    rw[hop] at r0
    go_wp2_with fail
    go_fit ce
    rintro e w6 ⟨rfl,h6,b6⟩
    have H6:=aa h6
    have B6:=aa b6
    clear h6 b6 ce
    go_wp2_with fail
    go_end0
    exact HFIN.out _ _ H6.out B6.out HST.out
   ·rw[HXX.out] at hop e
    rw[e] at hstep
    have hst4:(s.fetched x).st=ys++[(z.1,N)]:=by
     unfold Tm.fetched Tm.setTop
     dsimp only
     rw[HTOP.out,HN.out,HZS.out,List.dropLast_concat]
    have htop4:(s.fetched x).top.1=s.top.1:=by unfold Tm.top;rw[hst4,HZS.out,List.getLastD_concat,List.getLastD_concat]
    have hsum:=hv.out.sum
    have hlen:=hv.out.len
    rw[HZS.out,eC,dI] at hsum
    have ct:=qL W8 (s:=s.fetched x) (fm:=f) (by rw[hst4];simp) (by rw[hst4,List.length_append,HYK.out];simp;omega) (aa (by rw[htop4];exact Hf.out)) hfsz.out.1 (by rw[htop4,HTOP.out];show s.mem.sp+fsz F z.1<=s.mem.bs.length;omega) hnF80 hbFg HPG8 hend8 H8
    unfold jJ at ct
    have HST:=aa hstep.symm
    clear e hstep hsort hv hR him hPg hst4 htop4 hsum hlen h h20 h21
    rw[hop] at r0
    go_wp2_with fail
    go_fit ct
    rintro e w6 ⟨rfl,h6,b6⟩
    have H6:=aa h6
    have B6:=aa b6
    clear h6 b6 ct
    go_wp2_with fail
    go_end0
    exact HFIN.out _ _ H6.out B6.out HST.out
   ·rw[HXX.out] at hop
    have hst:S'={ (s.fetched x) with c:=({ (s.fetched x).c with code:=x.imm }:Co).stop 1 }:=by
     rw[<-hstep]
     unfold Tm.step Tm.exec
     rw[HXX.out,if_neg (by omega),if_neg (by omega),if_neg (by omega)]
     unfold Co.execC
     rw[if_neg (by omega),if_neg (by omega),if_neg (by omega),if_neg (by omega),if_neg (by omega),if_neg (by omega),if_neg (by omega),if_pos hop]
    have HST:=aa hst
    have ce:=gz 1 W8 H8
    rw[hop] at r0
    have HB8:=aa S8.out.box
    have hXg:X≠g:=by have:=S8.out.hX;omega
    clear hst hstep hsort hv hR him hPg h h20 h21 hop e
    go_wp2_with fail
    refine ce.mono ?_
    rintro e w9 ⟨rfl,h9,g9⟩
    have H9:=aa h9
    have G9:=aa g9
    have R9:=HB8.out.grown g9 (fun e=>hXg (Option.some.inj e))
    have y4:=R9.cell (k:=4) rfl
    have y5:=H9.out.cell 9 rfl
    have y6:=H9.out.free 27
    obtain⟨W10,hW10⟩:∃W,w9.setCell ⟨g,27,none⟩ (.int .u64 x.imm)=W:=⟨_,rfl⟩
    have HW10:=aa hW10
    have g10:w9.grownBy W10 (some g):=by rw[<-hW10];exact aS (World.grownBy.refl w9 _) 27 _
    obtain⟨ka,ki,kt,kg⟩:=H9.out.keptG g10
    have H10:=aa (show WmAt W10 g Al T0 (.slice (some ⟨bF,oF,none⟩) nF cF) (.slice (some ⟨G,0,none⟩) (k+1) cG) v1 v2 vp vi vt R { (s.fetched x) with c:=({ (s.fetched x).c with code:=x.imm }:Co).stop 1 } from⟨by
     have h1:=H9.out.row.set_ (18+9) (.int .u64 x.imm)
     rw[ms H9.out.rl] at h1
     rw[<-hW10]
     exact h1,H9.out.rl,ka,ki,kt,fun he=>by cases he⟩)
    have G10:=aa (g9.trans g10)
    clear ce h9 g9 R9 hW10 g10 ka ki kt kg
    go_wp2_with fail
    rw[HW10.out]
    go_end0
    exact HFIN.out _ _ ⟨_,_,_,_,_,_,_,H10.out⟩ G10.out HST.out
   ·rw[HXX.out] at hk' v e ht
    rw[e] at hstep
    have hop14:0<=x.op/\x.op<=14:=by omega
    have h15:x.op≠15:=by omega
    have h16:x.op≠16:=by omega
    have h17:x.op≠17:=by omega
    have b22:(x.op==22)=false:=by rw[beq_eq_false_iff_ne];omega
    have b23:(x.op==23)=false:=by rw[beq_eq_false_iff_ne];omega
    have b24:(x.op==24)=false:=by rw[beq_eq_false_iff_ne];omega
    have HPX:=aa (zR hop14 HXA.out HXB.out HXC.out HXI0.out hxi.out)
    have HST:=aa hstep.symm
    have hsm8:=v.sm
    have htl8:(s.fetched x).c.trace.length<=1000000:=by have h1:=v.tl;have h2:(s.fetched x).c.steps=s.c.steps+1:=rfl;omega
    have HB8:=aa S8.out.box
    have hXg:X≠g:=by have:=S8.out.hX;omega
    clear hk' v e ht hstep hsort hv hR him hPg h20 h21 hops hop14
    go_wp2_with fail
    refine(xL g x.op x.a x.b x.c x.imm W8 h15 h16 h17).mono ?_
    rintro e w9 ⟨rfl,hb9⟩
    have H9:=aa (H8.out.call hb9)
    have B9:=aa (HB8.out.call hb9)
    have G9:=aa (aG hb9 (some g))
    clear hb9 H8 HB8 S8 r0 r1 r2 r3 r4
    go_upto_region 13 with(fail)
    have hI9:=H9.out.inp
    obtain rfl:R=(s.fetched x).c.regs:=HRR.out
    obtain⟨W10,hW10⟩:∃W,w9.drew=W:=⟨_,rfl⟩
    have H10:=aa (show WmAt W10 g Al T0 (.slice (some ⟨bF,oF,none⟩) nF cF) (.slice (some ⟨G,0,none⟩) (k+1) cG) v1 v2 vp vi vt (s.fetched x).c.regs (s.fetched x) by rw[<-hW10];exact H9.out.drewN 1)
    have B10:=aa (show Row W10 X 50 [.int .i64 x.op,.int .i64 x.a,.int .i64 x.b,.int .i64 x.c,.int .u64 x.imm] by rw[<-hW10];exact B9.out.drew)
    have G10:=aa (show W8.grownBy W10 (some g) by rw[<-hW10];exact be G9.out 1)
    have hg10:g<W10.heap.size:=H10.out.gl
    have CP:=aa (tI x (s.fetched x).c vi vt (g+1) g W10 HPX.out hsm8 (by omega) (by omega) (aa H10.out.inp) (aa H10.out.tr) htl8)
    have hld:=H10.out.regs_load
    have hlx:=rW B10.out
    have hl24:=H10.out.cell 6 rfl
    have hl30:=H10.out.cell 12 rfl
    have hr8:((s.fetched x).c.execC x).regs.length=8:=(hsm8.execC x hxi.out).r8
    obtain⟨TT,hTT⟩:∃T,da T0 (.slice (some ⟨G,0,none⟩) (k+1) cG) v1 v2 vp vi vt (s.fetched x)=T:=⟨_,rfl⟩
    have HTT:=aa hTT
    have hrow:=H10.out.row
    rw[eO,hTT] at hrow
    have HROW:=aa hrow
    have HT6:TT.length=14:=by rw[<-hTT];rfl
    have HT7:TT[6]?=some vi:=by rw[<-hTT];rfl
    have HT8:TT[12]?=some vt:=by rw[<-hTT];rfl
    have HVI:∃A n c,vi=.slice A n c:=by obtain⟨A,n,c,e,_⟩:=H10.out.inp;exact⟨A,n,c,e⟩
    clear hI9 H9 B9 G9 hrow hTT
    refine eq (by kernel_rfl) (fun l a w=>∃vi' vt' z,RI W10 g X x (s.fetched x).c Al (.slice (some ⟨bF,oF,none⟩) nF cF) TT vi vt vi' vt' z l a w) ?_ ?_ ?_
    ·refine⟨undef,undef,false,?_⟩
     rw[hW10]
     exact⟨rfl,rfl,rfl,rfl,rfl,(fun i hi h=>by rw[eZ] at h;cases h),fun _=>rfl,(fun h=>by rw[eZ] at h;cases h),(fun i _ h=>by rw[eZ] at h;cases h),by rw[eZ,eZ,eZ];exact sX HROW.out HT7 HT8,(fun h=>by rw[eZ] at h;cases h)⟩
    ·rintro l a wr ⟨vi',vt',z,hI⟩ i hi K hK
     have hlt:i<34:=jf hi
     obtain⟨hf,o,ho,ha⟩:=je hi
     clear hi
     rcases(show i=0\/i=1\/i=2\/i=3\/i=4\/i=5\/i=6\/i=7\/i=8\/i=9\/i=10\/i=11\/i=12\/i=13\/i=14\/i=15\/i=16\/i=17\/i=18\/i=19\/i=20\/i=21\/i=22\/i=23\/i=24\/i=25\/i=26\/i=27\/i=28\/i=29\/i=30\/i=31\/i=32\/i=33 by omega) with rfl|rfl|rfl|rfl|rfl|rfl|rfl|rfl|rfl|rfl|rfl|rfl|rfl|rfl|rfl|rfl|rfl|rfl|rfl|rfl|rfl|rfl|rfl|rfl|rfl|rfl|rfl|rfl|rfl|rfl|rfl|rfl|rfl|rfl
     ·obtain rfl:=Option.some.inj ho
      exact ak rfl rfl (a7 (v:=ptr g 0) (by simp[execOp,hI.e0]) (hK _ _ ⟨vi',vt',z,hI.pure 0 (by decide) (by decide) (fun _=>by contradiction)⟩))
     ·obtain rfl:=Option.some.inj ho
      exact ak rfl rfl (a7 (v:=ptr g 0) (by simp[execOp,hI.e0]) (hK _ _ ⟨vi',vt',z,hI.pure 1 (by decide) (by decide) (fun _=>by contradiction)⟩))
     ·obtain rfl:=Option.some.inj ho
      exact ak rfl rfl (a7 (v:=ptr g 0) (by simp[execOp,hI.e0]) (hK _ _ ⟨vi',vt',z,hI.pure 2 (by decide) (by decide) (fun _=>by contradiction)⟩))
     ·obtain rfl:=Option.some.inj ho
      obtain rfl:=hI.ahead (i:=3) (by omega) hf
      exact ak rfl rfl (a7 (v:=iv x.op x.a x.b x.c x.imm) (by simp[execOp,hI.e4,hlx,Result.andThen]) (hK _ _ ⟨vi',vt',z,hI.pure 3 (by decide) (by decide) (fun _=>by contradiction)⟩))
     ·obtain rfl:=Option.some.inj ho
      exact ak rfl rfl (a7 (v:=ptr g 0) (by simp[execOp,hI.e0]) (hK _ _ ⟨vi',vt',z,hI.pure 4 (by decide) (by decide) (fun _=>by contradiction)⟩))
     ·obtain rfl:=Option.some.inj ho
      have d4:l.getD 4 false=true:=by
       simp[Region.binds] at ha⊢
       simp[ha]
      have e4:=hI.val 4 (by decide) (by decide) d4
      have q97:a.eval (.tmp 97)=ptr g 0:=e4
      exact ak rfl rfl (a7 (v:=ptr g 0) (by simp[execOp,q97]) (hK _ _ ⟨vi',vt',z,hI.pure 5 (by decide) (by decide) (fun _=>by contradiction)⟩))
     ·obtain rfl:=Option.some.inj ho
      have d5:l.getD 5 false=true:=by
       simp[Region.binds] at ha⊢
       simp[ha]
      have e5:=hI.val 5 (by decide) (by decide) d5
      have q98:a.eval (.tmp 98)=ptr g 0:=e5
      exact ak rfl rfl (a7 (v:=ptr g 2) (by simp[execOp,q98,zE,Result.andThen]) (hK _ _ ⟨vi',vt',z,hI.pure 6 (by decide) (by decide) (fun _=>by contradiction)⟩))
     ·obtain rfl:=Option.some.inj ho
      have d6:l.getD 6 false=true:=by
       simp[Region.binds] at ha⊢
       simp[ha]
      have e6:=hI.val 6 (by decide) (by decide) d6
      obtain rfl:=hI.ahead (i:=7) (by omega) hf
      have q99:a.eval (.tmp 99)=ptr g 2:=e6
      exact ak rfl rfl (a7 (v:=.agg (ah (s.fetched x).c.regs).toArray) (by simp[execOp,q99,hld,Result.andThen]) (hK _ _ ⟨vi',vt',z,hI.pure 7 (by decide) (by decide) (fun _=>by contradiction)⟩))
     ·obtain rfl:=Option.some.inj ho
      exact ak rfl rfl (a7 (v:=ptr g 0) (by simp[execOp,hI.e0]) (hK _ _ ⟨vi',vt',z,hI.pure 8 (by decide) (by decide) (fun _=>by contradiction)⟩))
     ·obtain rfl:=Option.some.inj ho
      have d8:l.getD 8 false=true:=by
       simp[Region.binds] at ha⊢
       simp[ha]
      have e8:=hI.val 8 (by decide) (by decide) d8
      have q101:a.eval (.tmp 101)=ptr g 0:=e8
      exact ak rfl rfl (a7 (v:=ptr g 0) (by simp[execOp,q101]) (hK _ _ ⟨vi',vt',z,hI.pure 9 (by decide) (by decide) (fun _=>by contradiction)⟩))
     ·obtain rfl:=Option.some.inj ho
      have d9:l.getD 9 false=true:=by
       simp[Region.binds] at ha⊢
       simp[ha]
      have e9:=hI.val 9 (by decide) (by decide) d9
      have q102:a.eval (.tmp 102)=ptr g 0:=e9
      exact ak rfl rfl (a7 (v:=ptr g 24) (by simp[execOp,q102,zC,Result.andThen]) (hK _ _ ⟨vi',vt',z,hI.pure 10 (by decide) (by decide) (fun _=>by contradiction)⟩))
     ·obtain rfl:=Option.some.inj ho
      have d10:l.getD 10 false=true:=by
       simp[Region.binds] at ha⊢
       simp[ha]
      have e10:=hI.val 10 (by decide) (by decide) d10
      obtain rfl:=hI.ahead (i:=11) (by omega) hf
      have q103:a.eval (.tmp 103)=ptr g 24:=e10
      exact ak rfl rfl (a7 (v:=vi) (by simp[execOp,q103,Bp hl24,Result.andThen]) (hK _ _ ⟨vi',vt',z,hI.pure 11 (by decide) (by decide) (fun _=>by contradiction)⟩))
     ·obtain rfl:=Option.some.inj ho
      exact ak rfl rfl (a7 (v:=ptr g 0) (by simp[execOp,hI.e0]) (hK _ _ ⟨vi',vt',z,hI.pure 12 (by decide) (by decide) (fun _=>by contradiction)⟩))
     ·obtain rfl:=Option.some.inj ho
      have d12:l.getD 12 false=true:=by
       simp[Region.binds] at ha⊢
       simp[ha]
      have e12:=hI.val 12 (by decide) (by decide) d12
      have q105:a.eval (.tmp 105)=ptr g 0:=e12
      exact ak rfl rfl (a7 (v:=ptr g 0) (by simp[execOp,q105]) (hK _ _ ⟨vi',vt',z,hI.pure 13 (by decide) (by decide) (fun _=>by contradiction)⟩))
     ·obtain rfl:=Option.some.inj ho
      have d13:l.getD 13 false=true:=by
       simp[Region.binds] at ha⊢
       simp[ha]
      have e13:=hI.val 13 (by decide) (by decide) d13
      have q106:a.eval (.tmp 106)=ptr g 0:=e13
      exact ak rfl rfl (a7 (v:=ptr g 26) (by simp[execOp,q106,zB,Result.andThen]) (hK _ _ ⟨vi',vt',z,hI.pure 14 (by decide) (by decide) (fun _=>by contradiction)⟩))
     ·obtain rfl:=Option.some.inj ho
      have d14:l.getD 14 false=true:=by
       simp[Region.binds] at ha⊢
       simp[ha]
      have e14:=hI.val 14 (by decide) (by decide) d14
      have q107:a.eval (.tmp 107)=ptr g 26:=e14
      exact ak rfl rfl (a7 (v:=ptr g 30) (by simp[execOp,q107,zD,Result.andThen]) (hK _ _ ⟨vi',vt',z,hI.pure 15 (by decide) (by decide) (fun _=>by contradiction)⟩))
     ·obtain rfl:=Option.some.inj ho
      have d15:l.getD 15 false=true:=by
       simp[Region.binds] at ha⊢
       simp[ha]
      have e15:=hI.val 15 (by decide) (by decide) d15
      obtain rfl:=hI.ahead (i:=16) (by omega) hf
      have q108:a.eval (.tmp 108)=ptr g 30:=e15
      exact ak rfl rfl (a7 (v:=vt) (by simp[execOp,q108,Bo hl30,Result.andThen]) (hK _ _ ⟨vi',vt',z,hI.pure 16 (by decide) (by decide) (fun _=>by contradiction)⟩))
     ·obtain rfl:=Option.some.inj ho
      have d3:l.getD 3 false=true:=by
       simp[Region.binds] at ha⊢
       simp[ha]
      have d7:l.getD 7 false=true:=by
       simp[Region.binds] at ha⊢
       simp[ha]
      have d11:l.getD 11 false=true:=by
       simp[Region.binds] at ha⊢
       simp[ha]
      have d16:l.getD 16 false=true:=by
       simp[Region.binds] at ha⊢
       simp[ha]
      have q96:a.eval (.tmp 96)=iv x.op x.a x.b x.c x.imm:=hI.val 3 (by decide) (by decide) d3
      have q100:a.eval (.tmp 100)=.agg (ah (s.fetched x).c.regs).toArray:=hI.val 7 (by decide) (by decide) d7
      have q104:a.eval (.tmp 104)=vi:=hI.val 11 (by decide) (by decide) d11
      have q109:a.eval (.tmp 109)=vt:=hI.val 16 (by decide) (by decide) d16
      have qf:a.eval (.func 51)=.func (.func 51) #[] #[]:=rfl
      obtain rfl:=hI.ahead (i:=17) (by omega) hf
      refine ak rfl rfl (yC (f:=51) (args:=#[iv x.op x.a x.b x.c x.imm,.agg (ah (s.fetched x).c.regs).toArray,vi,vt]) (by simp[execOp,resolve,invoke,Deferred.ofValue,qf,sA,Result.andThen,q96,q100,q104,q109]) (CP.out.mono ?_))
      rintro e w5 ⟨vi2,vt2,z2,rfl,p1,p2,p3,p4⟩
      exact⟨_,rfl,hK _ _ ⟨vi2,vt2,z2,hI.called hf ⟨d3,d7,d11,d16⟩ vi2 vt2 z2 p1 hg10 ⟨⟨w5,p1,p2,p3,World.grownBy.refl _ _⟩,p4⟩⟩⟩
     ·obtain rfl:=Option.some.inj ho
      have d17:l.getD 17 false=true:=by
       simp[Region.binds] at ha⊢
       simp[ha]
      have e17:=hI.val 17 (by decide) (by decide) d17
      have h17:l.getD 17 false=true:=d17
      have q110:a.eval (.tmp 110)=.tuple #[.agg (ah ((s.fetched x).c.execC x).regs).toArray,vi',vt',.bool z]:=e17
      exact ak rfl rfl (a7 (v:=.tuple #[.agg (ah ((s.fetched x).c.execC x).regs).toArray,vi',vt',.bool z]) (by simp[execOp,q110]) (hK _ _ ⟨vi',vt',z,hI.pure 18 (by decide) (by decide) (fun _=>h17)⟩))
     ·obtain rfl:=Option.some.inj ho
      have d18:l.getD 18 false=true:=by
       simp[Region.binds] at ha⊢
       simp[ha]
      have e18:=hI.val 18 (by decide) (by decide) d18
      have h17:l.getD 17 false=true:=hI.late 18 rfl d18
      have q92:a.eval (.tmp 92)=.tuple #[.agg (ah ((s.fetched x).c.execC x).regs).toArray,vi',vt',.bool z]:=e18
      exact ak rfl rfl (a7 (v:=.agg (ah ((s.fetched x).c.execC x).regs).toArray) (by simp[execOp,q92,Instr.extract]) (hK _ _ ⟨vi',vt',z,hI.pure 19 (by decide) (by decide) (fun _=>h17)⟩))
     ·obtain rfl:=Option.some.inj ho
      have d18:l.getD 18 false=true:=by
       simp[Region.binds] at ha⊢
       simp[ha]
      have e18:=hI.val 18 (by decide) (by decide) d18
      have h17:l.getD 17 false=true:=hI.late 18 rfl d18
      have q92:a.eval (.tmp 92)=.tuple #[.agg (ah ((s.fetched x).c.execC x).regs).toArray,vi',vt',.bool z]:=e18
      exact ak rfl rfl (a7 (v:=vi') (by simp[execOp,q92,Instr.extract]) (hK _ _ ⟨vi',vt',z,hI.pure 20 (by decide) (by decide) (fun _=>h17)⟩))
     ·obtain rfl:=Option.some.inj ho
      have d18:l.getD 18 false=true:=by
       simp[Region.binds] at ha⊢
       simp[ha]
      have e18:=hI.val 18 (by decide) (by decide) d18
      have h17:l.getD 17 false=true:=hI.late 18 rfl d18
      have q92:a.eval (.tmp 92)=.tuple #[.agg (ah ((s.fetched x).c.execC x).regs).toArray,vi',vt',.bool z]:=e18
      exact ak rfl rfl (a7 (v:=vt') (by simp[execOp,q92,Instr.extract]) (hK _ _ ⟨vi',vt',z,hI.pure 21 (by decide) (by decide) (fun _=>h17)⟩))
     ·obtain rfl:=Option.some.inj ho
      have d18:l.getD 18 false=true:=by
       simp[Region.binds] at ha⊢
       simp[ha]
      have e18:=hI.val 18 (by decide) (by decide) d18
      have h17:l.getD 17 false=true:=hI.late 18 rfl d18
      have q92:a.eval (.tmp 92)=.tuple #[.agg (ah ((s.fetched x).c.execC x).regs).toArray,vi',vt',.bool z]:=e18
      exact ak rfl rfl (a7 (v:=.bool z) (by simp[execOp,q92,Instr.extract]) (hK _ _ ⟨vi',vt',z,hI.pure 22 (by decide) (by decide) (fun _=>h17)⟩))
     ·obtain rfl:=Option.some.inj ho
      have d0:l.getD 0 false=true:=by
       simp[Region.binds] at ha⊢
       simp[ha]
      have e0:=hI.val 0 (by decide) (by decide) d0
      have q93:a.eval (.tmp 93)=ptr g 0:=e0
      exact ak rfl rfl (a7 (v:=ptr g 0) (by simp[execOp,q93]) (hK _ _ ⟨vi',vt',z,hI.pure 23 (by decide) (by decide) (fun _=>by contradiction)⟩))
     ·obtain rfl:=Option.some.inj ho
      have d23:l.getD 23 false=true:=by
       simp[Region.binds] at ha⊢
       simp[ha]
      have e23:=hI.val 23 (by decide) (by decide) d23
      have q115:a.eval (.tmp 115)=ptr g 0:=e23
      exact ak rfl rfl (a7 (v:=ptr g 2) (by simp[execOp,q115,zE,Result.andThen]) (hK _ _ ⟨vi',vt',z,hI.pure 24 (by decide) (by decide) (fun _=>by contradiction)⟩))
     ·obtain rfl:=Option.some.inj ho
      have d24:l.getD 24 false=true:=by
       simp[Region.binds] at ha⊢
       simp[ha]
      have d19:l.getD 19 false=true:=by
       simp[Region.binds] at ha⊢
       simp[ha]
      have q116:a.eval (.tmp 116)=ptr g 2:=hI.val 24 (by decide) (by decide) d24
      have q111:a.eval (.tmp 111)=.agg (ah ((s.fetched x).c.execC x).regs).toArray:=hI.val 19 (by decide) (by decide) d19
      have h17:l.getD 17 false=true:=hI.late 19 rfl d19
      have hst:=vK hI.row (hI.len8 hsm8.r8 hr8) hr8
      refine ak rfl rfl (nf (w':=wr.setRow g (bj Al (.slice (some ⟨bF,oF,none⟩) nF cF) ((s.fetched x).c.execC x).regs (tlT TT vi vt vi' vt' (l.getD 28 false) (l.getD 32 false))).toArray) (by simp[execOp,q116,q111,hst,Result.andThen]) (hK _ _ ⟨vi',vt',z,hI.stored 25 (by omega) h17 (aU _ _ _) ?_ _⟩))
      have h9:=bd (vs:=bj Al (.slice (some ⟨bF,oF,none⟩) nF cF) ((s.fetched x).c.execC x).regs (tlT TT vi vt vi' vt' (l.getD 28 false) (l.getD 32 false))) hI.row
      simpa[lO,kO] using h9
     ·obtain rfl:=Option.some.inj ho
      have d1:l.getD 1 false=true:=by
       simp[Region.binds] at ha⊢
       simp[ha]
      have e1:=hI.val 1 (by decide) (by decide) d1
      have q94:a.eval (.tmp 94)=ptr g 0:=e1
      exact ak rfl rfl (a7 (v:=ptr g 0) (by simp[execOp,q94]) (hK _ _ ⟨vi',vt',z,hI.pure 26 (by decide) (by decide) (fun _=>by contradiction)⟩))
     ·obtain rfl:=Option.some.inj ho
      have d26:l.getD 26 false=true:=by
       simp[Region.binds] at ha⊢
       simp[ha]
      have e26:=hI.val 26 (by decide) (by decide) d26
      have q117:a.eval (.tmp 117)=ptr g 0:=e26
      exact ak rfl rfl (a7 (v:=ptr g 24) (by simp[execOp,q117,zC,Result.andThen]) (hK _ _ ⟨vi',vt',z,hI.pure 27 (by decide) (by decide) (fun _=>by contradiction)⟩))
     ·obtain rfl:=Option.some.inj ho
      have d27:l.getD 27 false=true:=by
       simp[Region.binds] at ha⊢
       simp[ha]
      have d20:l.getD 20 false=true:=by
       simp[Region.binds] at ha⊢
       simp[ha]
      have q118:a.eval (.tmp 118)=ptr g 24:=hI.val 27 (by decide) (by decide) d27
      have q112:a.eval (.tmp 112)=vi':=hI.val 20 (by decide) (by decide) d20
      have h17:l.getD 17 false=true:=hI.late 20 rfl d20
      have hone:vi'.oneCell'=true/\vi'.cells=#[vi']:=by obtain⟨⟨wc,_,⟨A,n,c,e,_⟩,_⟩,_⟩:=hI.post h17;subst e;exact⟨rfl,rfl⟩
      have hst:=qr hI.row (hI.len8 hsm8.r8 hr8) 6 (by rw[qm,HT6];decide) hone xG
      refine ak rfl rfl (nf (w':=wr.setRow g (bj Al (.slice (some ⟨bF,oF,none⟩) nF cF) (if l.getD 25 false=true then((s.fetched x).c.execC x).regs else(s.fetched x).c.regs) ((tlT TT vi vt vi' vt' (l.getD 28 false) (l.getD 32 false)).set 6 vi')).toArray) (by simp[execOp,q118,q112,hst,Result.andThen]) (hK _ _ ⟨vi',vt',z,hI.stored 28 (by omega) h17 (aU _ _ _) ?_ _⟩))
      have h9:=bd (vs:=bj Al (.slice (some ⟨bF,oF,none⟩) nF cF) (if l.getD 25 false=true then((s.fetched x).c.execC x).regs else(s.fetched x).c.regs) ((tlT TT vi vt vi' vt' (l.getD 28 false) (l.getD 32 false)).set 6 vi')) hI.row
      simpa[lO,kO] using h9
     ·obtain rfl:=Option.some.inj ho
      have d2:l.getD 2 false=true:=by
       simp[Region.binds] at ha⊢
       simp[ha]
      have e2:=hI.val 2 (by decide) (by decide) d2
      have q95:a.eval (.tmp 95)=ptr g 0:=e2
      exact ak rfl rfl (a7 (v:=ptr g 0) (by simp[execOp,q95]) (hK _ _ ⟨vi',vt',z,hI.pure 29 (by decide) (by decide) (fun _=>by contradiction)⟩))
     ·obtain rfl:=Option.some.inj ho
      have d29:l.getD 29 false=true:=by
       simp[Region.binds] at ha⊢
       simp[ha]
      have e29:=hI.val 29 (by decide) (by decide) d29
      have q119:a.eval (.tmp 119)=ptr g 0:=e29
      exact ak rfl rfl (a7 (v:=ptr g 26) (by simp[execOp,q119,zB,Result.andThen]) (hK _ _ ⟨vi',vt',z,hI.pure 30 (by decide) (by decide) (fun _=>by contradiction)⟩))
     ·obtain rfl:=Option.some.inj ho
      have d30:l.getD 30 false=true:=by
       simp[Region.binds] at ha⊢
       simp[ha]
      have e30:=hI.val 30 (by decide) (by decide) d30
      have q120:a.eval (.tmp 120)=ptr g 26:=e30
      exact ak rfl rfl (a7 (v:=ptr g 30) (by simp[execOp,q120,zD,Result.andThen]) (hK _ _ ⟨vi',vt',z,hI.pure 31 (by decide) (by decide) (fun _=>by contradiction)⟩))
     ·obtain rfl:=Option.some.inj ho
      have d31:l.getD 31 false=true:=by
       simp[Region.binds] at ha⊢
       simp[ha]
      have d21:l.getD 21 false=true:=by
       simp[Region.binds] at ha⊢
       simp[ha]
      have q121:a.eval (.tmp 121)=ptr g 30:=hI.val 31 (by decide) (by decide) d31
      have q113:a.eval (.tmp 113)=vt':=hI.val 21 (by decide) (by decide) d21
      have h17:l.getD 17 false=true:=hI.late 21 rfl d21
      have hone:vt'.oneCell'=true/\vt'.cells=#[vt']:=by obtain⟨⟨wc,_,_,⟨A,n,c,e,_⟩,_⟩,_⟩:=hI.post h17;subst e;exact⟨rfl,rfl⟩
      have hst:=qr hI.row (hI.len8 hsm8.r8 hr8) 12 (by rw[qm,HT6];decide) hone xF
      refine ak rfl rfl (nf (w':=wr.setRow g (bj Al (.slice (some ⟨bF,oF,none⟩) nF cF) (if l.getD 25 false=true then((s.fetched x).c.execC x).regs else(s.fetched x).c.regs) ((tlT TT vi vt vi' vt' (l.getD 28 false) (l.getD 32 false)).set 12 vt')).toArray) (by simp[execOp,q121,q113,hst,Result.andThen]) (hK _ _ ⟨vi',vt',z,hI.stored 32 (by omega) h17 (aU _ _ _) ?_ _⟩))
      have h9:=bd (vs:=bj Al (.slice (some ⟨bF,oF,none⟩) nF cF) (if l.getD 25 false=true then((s.fetched x).c.execC x).regs else(s.fetched x).c.regs) ((tlT TT vi vt vi' vt' (l.getD 28 false) (l.getD 32 false)).set 12 vt')) hI.row
      simpa[lO,kO] using h9
     ·obtain rfl:=Option.some.inj ho
      have d22:l.getD 22 false=true:=by
       simp[Region.binds] at ha⊢
       simp[ha]
      have e22:=hI.val 22 (by decide) (by decide) d22
      have h17:l.getD 17 false=true:=hI.late 22 rfl d22
      have q114:a.eval (.tmp 114)=.bool z:=e22
      exact ak rfl rfl (a7 (v:=.bool z) (by simp[execOp,q114]) (hK _ _ ⟨vi',vt',z,hI.pure 33 (by decide) (by decide) (fun _=>h17)⟩))
    ·rintro l a wr ⟨vi',vt',z,hI⟩ hr
     have t0:=aH hr (i:=0) (by rw[hI.ls];decide) rfl (by simp[Region.binds])
     have f0:l[0]?.getD false=true:=by simpa using t0
     have t1:=aH hr (i:=1) (by rw[hI.ls];decide) rfl (by simp[Region.binds])
     have f1:l[1]?.getD false=true:=by simpa using t1
     have t2:=aH hr (i:=2) (by rw[hI.ls];decide) rfl (by simp[Region.binds])
     have f2:l[2]?.getD false=true:=by simpa using t2
     have t3:=aH hr (i:=3) (by rw[hI.ls];decide) rfl (by simp[Region.binds])
     have f3:l[3]?.getD false=true:=by simpa using t3
     have t4:=aH hr (i:=4) (by rw[hI.ls];decide) rfl (by simp[Region.binds])
     have f4:l[4]?.getD false=true:=by simpa using t4
     have t5:=aH hr (i:=5) (by rw[hI.ls];decide) rfl (by simp[Region.binds,f4])
     have f5:l[5]?.getD false=true:=by simpa using t5
     have t6:=aH hr (i:=6) (by rw[hI.ls];decide) rfl (by simp[Region.binds,f5])
     have f6:l[6]?.getD false=true:=by simpa using t6
     have t7:=aH hr (i:=7) (by rw[hI.ls];decide) rfl (by simp[Region.binds,f6])
     have f7:l[7]?.getD false=true:=by simpa using t7
     have t8:=aH hr (i:=8) (by rw[hI.ls];decide) rfl (by simp[Region.binds])
     have f8:l[8]?.getD false=true:=by simpa using t8
     have t9:=aH hr (i:=9) (by rw[hI.ls];decide) rfl (by simp[Region.binds,f8])
     have f9:l[9]?.getD false=true:=by simpa using t9
     have t10:=aH hr (i:=10) (by rw[hI.ls];decide) rfl (by simp[Region.binds,f9])
     have f10:l[10]?.getD false=true:=by simpa using t10
     have t11:=aH hr (i:=11) (by rw[hI.ls];decide) rfl (by simp[Region.binds,f10])
     have f11:l[11]?.getD false=true:=by simpa using t11
     have t12:=aH hr (i:=12) (by rw[hI.ls];decide) rfl (by simp[Region.binds])
     have f12:l[12]?.getD false=true:=by simpa using t12
     have t13:=aH hr (i:=13) (by rw[hI.ls];decide) rfl (by simp[Region.binds,f12])
     have f13:l[13]?.getD false=true:=by simpa using t13
     have t14:=aH hr (i:=14) (by rw[hI.ls];decide) rfl (by simp[Region.binds,f13])
     have f14:l[14]?.getD false=true:=by simpa using t14
     have t15:=aH hr (i:=15) (by rw[hI.ls];decide) rfl (by simp[Region.binds,f14])
     have f15:l[15]?.getD false=true:=by simpa using t15
     have t16:=aH hr (i:=16) (by rw[hI.ls];decide) rfl (by simp[Region.binds,f15])
     have f16:l[16]?.getD false=true:=by simpa using t16
     have t17:=aH hr (i:=17) (by rw[hI.ls];decide) rfl (by simp[Region.binds,f3,f7,f11,f16])
     have f17:l[17]?.getD false=true:=by simpa using t17
     have t18:=aH hr (i:=18) (by rw[hI.ls];decide) rfl (by simp[Region.binds,f17])
     have f18:l[18]?.getD false=true:=by simpa using t18
     have t19:=aH hr (i:=19) (by rw[hI.ls];decide) rfl (by simp[Region.binds,f18])
     have f19:l[19]?.getD false=true:=by simpa using t19
     have t20:=aH hr (i:=20) (by rw[hI.ls];decide) rfl (by simp[Region.binds,f18])
     have f20:l[20]?.getD false=true:=by simpa using t20
     have t21:=aH hr (i:=21) (by rw[hI.ls];decide) rfl (by simp[Region.binds,f18])
     have f21:l[21]?.getD false=true:=by simpa using t21
     have t22:=aH hr (i:=22) (by rw[hI.ls];decide) rfl (by simp[Region.binds,f18])
     have f22:l[22]?.getD false=true:=by simpa using t22
     have t23:=aH hr (i:=23) (by rw[hI.ls];decide) rfl (by simp[Region.binds,f0,f1,f2,f3,f4,f5,f6,f7,f8,f9,f10,f11,f12,f13,f14,f15,f16,f17,f18,f19,f20,f21,f22])
     have f23:l[23]?.getD false=true:=by simpa using t23
     have t24:=aH hr (i:=24) (by rw[hI.ls];decide) rfl (by simp[Region.binds,f0,f1,f2,f3,f4,f5,f6,f7,f8,f9,f10,f11,f12,f13,f14,f15,f16,f17,f18,f19,f20,f21,f22,f23])
     have f24:l[24]?.getD false=true:=by simpa using t24
     have t25:=aH hr (i:=25) (by rw[hI.ls];decide) rfl (by simp[Region.binds,f0,f1,f2,f3,f4,f5,f6,f7,f8,f9,f10,f11,f12,f13,f14,f15,f16,f17,f18,f19,f20,f21,f22,f23,f24])
     have f25:l[25]?.getD false=true:=by simpa using t25
     have t26:=aH hr (i:=26) (by rw[hI.ls];decide) rfl (by simp[Region.binds,f0,f1,f2,f3,f4,f5,f6,f7,f8,f9,f10,f11,f12,f13,f14,f15,f16,f17,f18,f19,f20,f21,f22,f23,f24,f25])
     have f26:l[26]?.getD false=true:=by simpa using t26
     have t27:=aH hr (i:=27) (by rw[hI.ls];decide) rfl (by simp[Region.binds,f0,f1,f2,f3,f4,f5,f6,f7,f8,f9,f10,f11,f12,f13,f14,f15,f16,f17,f18,f19,f20,f21,f22,f23,f24,f25,f26])
     have f27:l[27]?.getD false=true:=by simpa using t27
     have t28:=aH hr (i:=28) (by rw[hI.ls];decide) rfl (by simp[Region.binds,f0,f1,f2,f3,f4,f5,f6,f7,f8,f9,f10,f11,f12,f13,f14,f15,f16,f17,f18,f19,f20,f21,f22,f23,f24,f25,f26,f27])
     have f28:l[28]?.getD false=true:=by simpa using t28
     have t29:=aH hr (i:=29) (by rw[hI.ls];decide) rfl (by simp[Region.binds,f0,f1,f2,f3,f4,f5,f6,f7,f8,f9,f10,f11,f12,f13,f14,f15,f16,f17,f18,f19,f20,f21,f22,f23,f24,f25,f26,f27,f28])
     have f29:l[29]?.getD false=true:=by simpa using t29
     have t30:=aH hr (i:=30) (by rw[hI.ls];decide) rfl (by simp[Region.binds,f0,f1,f2,f3,f4,f5,f6,f7,f8,f9,f10,f11,f12,f13,f14,f15,f16,f17,f18,f19,f20,f21,f22,f23,f24,f25,f26,f27,f28,f29])
     have f30:l[30]?.getD false=true:=by simpa using t30
     have t31:=aH hr (i:=31) (by rw[hI.ls];decide) rfl (by simp[Region.binds,f0,f1,f2,f3,f4,f5,f6,f7,f8,f9,f10,f11,f12,f13,f14,f15,f16,f17,f18,f19,f20,f21,f22,f23,f24,f25,f26,f27,f28,f29,f30])
     have f31:l[31]?.getD false=true:=by simpa using t31
     have t32:=aH hr (i:=32) (by rw[hI.ls];decide) rfl (by simp[Region.binds,f0,f1,f2,f3,f4,f5,f6,f7,f8,f9,f10,f11,f12,f13,f14,f15,f16,f17,f18,f19,f20,f21,f22,f23,f24,f25,f26,f27,f28,f29,f30,f31])
     have f32:l[32]?.getD false=true:=by simpa using t32
     have t33:=aH hr (i:=33) (by rw[hI.ls];decide) rfl (by simp[Region.binds,f0,f1,f2,f3,f4,f5,f6,f7,f8,f9,f10,f11,f12,f13,f14,f15,f16,f17,f18,f19,f20,f21,f22,f23,f24,f25,f26,f27,f28,f29,f30,f31,f32])
     have f33:l[33]?.getD false=true:=by simpa using t33
     have q5:a.eval (.tmp 5)=.bool z:=hI.val 33 (by decide) (by decide) t33
     have q0:=hI.e0
     have hrow9:=hI.row
     rw[t25,t28,t32,if_pos rfl] at hrow9
     obtain⟨⟨wc,pb,pi,pt,pg⟩,pe⟩:=hI.post t17
     have HA:=zr hI.ts hI.ad
     clear hr t0 t1 t2 t3 t4 t5 t6 t7 t8 t9 t10 t11 t12 t13 t14 t15 t16 t17 t18 t19 t20 t21 t22 t23 t24 t25 t26 t27 t28 t29 t30 t31 t32 t33 f0 f1 f2 f3 f4 f5 f6 f7 f8 f9 f10 f11 f12 f13 f14 f15 f16 f17 f18 f19 f20 f21 f22 f23 f24 f25 f26 f27 f28 f29 f30 f31 f32 f33 hI
     obtain⟨Gf,hGf⟩:∃Gf:Nat->Value,(fun j=>a.eval (.tmp j))=Gf:=⟨_,rfl⟩
     have g0:Gf 0=ptr g 0:=by rw[<-hGf];exact q0
     have g5:Gf 5=.bool z:=by rw[<-hGf];exact q5
     rw[hGf] at HA
     have HL:(List.range 148).map Gf=[Gf 0,Gf 1,Gf 2,Gf 3,Gf 4,Gf 5,Gf 6,Gf 7,Gf 8,Gf 9,Gf 10,Gf 11,Gf 12,Gf 13,Gf 14,Gf 15,Gf 16,Gf 17,Gf 18,Gf 19,Gf 20,Gf 21,Gf 22,Gf 23,Gf 24,Gf 25,Gf 26,Gf 27,Gf 28,Gf 29,Gf 30,Gf 31,Gf 32,Gf 33,Gf 34,Gf 35,Gf 36,Gf 37,Gf 38,Gf 39,Gf 40,Gf 41,Gf 42,Gf 43,Gf 44,Gf 45,Gf 46,Gf 47,Gf 48,Gf 49,Gf 50,Gf 51,Gf 52,Gf 53,Gf 54,Gf 55,Gf 56,Gf 57,Gf 58,Gf 59,Gf 60,Gf 61,Gf 62,Gf 63,Gf 64,Gf 65,Gf 66,Gf 67,Gf 68,Gf 69,Gf 70,Gf 71,Gf 72,Gf 73,Gf 74,Gf 75,Gf 76,Gf 77,Gf 78,Gf 79,Gf 80,Gf 81,Gf 82,Gf 83,Gf 84,Gf 85,Gf 86,Gf 87,Gf 88,Gf 89,Gf 90,Gf 91,Gf 92,Gf 93,Gf 94,Gf 95,Gf 96,Gf 97,Gf 98,Gf 99,Gf 100,Gf 101,Gf 102,Gf 103,Gf 104,Gf 105,Gf 106,Gf 107,Gf 108,Gf 109,Gf 110,Gf 111,Gf 112,Gf 113,Gf 114,Gf 115,Gf 116,Gf 117,Gf 118,Gf 119,Gf 120,Gf 121,Gf 122,Gf 123,Gf 124,Gf 125,Gf 126,Gf 127,Gf 128,Gf 129,Gf 130,Gf 131,Gf 132,Gf 133,Gf 134,Gf 135,Gf 136,Gf 137,Gf 138,Gf 139,Gf 140,Gf 141,Gf 142,Gf 143,Gf 144,Gf 145,Gf 146,Gf 147]:=rfl
     rw[HL] at HA
     clear HL hGf q0 q5
     subst HA
     rw[g0,g5]
     clear g0 g5
     rw[<-HTT.out] at hrow9
     have hpbs:=pb.size
     have HE:=aa pe
     clear pe
     cases z with
     | false=>
      have H11:=aa (oy H10.out pb pg (show(s.fetched x).c.execC x=_ from(by have e:=HE.out;rw[if_neg (by decide)] at e;exact e)) hr8 pi pt hrow9)
      have G11:=aa (G10.out.trans ((aG pb (some g)).trans pg))
      clear hrow9 pi pt pb pg hpbs H10
      go_wp2_with fail
      go_end0
      exact HFIN.out _ _ ⟨_,_,_,_,_,_,_,H11.out⟩ G11.out HST.out
     | true=>
      have e0:(s.fetched x).c.execC x=(s.fetched x).c.stop 2:=by have e:=HE.out;rw[if_pos rfl] at e;exact e
      have HST2:=aa (show S'=(s.fetched x).stop 2 by rw[HST.out,e0];rfl)
      rw[e0] at hrow9 pi pt
      have H11:=aa (oy (c':=(s.fetched x).c) H10.out pb pg rfl hsm8.r8 pi pt hrow9)
      have G11:=aa (G10.out.trans ((aG pb (some g)).trans pg))
      clear hrow9 pi pt pb pg hpbs H10 e0
      go_wp2_with fail
      refine(gz 2 _ H11).mono ?_
      rintro e w12 ⟨rfl,h12,g12⟩
      have H12:=aa h12
      have G12:=aa (G11.out.trans g12)
      clear h12 g12
      go_wp2_with fail
      go_end0
      exact HFIN.out _ _ ⟨_,_,_,_,_,_,_,H12.out⟩ G12.out HST2.out
end
end Go.Proofs.YtjbgepjdohfhkaaGreat
