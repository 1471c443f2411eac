/- The contract of the reference's run (chapter 12) at a right target. Conditions: those of the types. -/
import Derived.Test.YtjbgepjdohfhkaaGreatMWrn
import Derived.Test.YtjbgepjdohfhkaaGreatMWst
set_option linter.unusedVariables false
set_option linter.unusedSimpArgs false
set_option maxRecDepth 100000
set_option maxHeartbeats 8000000
namespace Go.Proofs.YtjbgepjdohfhkaaGreat
open Go.RowKit
def rS (inp:List Nat):Tm:=⟨jG inp,[],bg 0 0,0⟩
theorem rR (Al:Int) (inp:List Nat) (A Ai:Option Addr) (n c ni ci:Nat):bR Al 0 (.slice A n c) (.slice none 0 0) (.slice none 0 0) (.slice none 0 0) (.int .i64 0) (.slice Ai ni ci) (.slice none 0 0) (List.replicate 8 0) (rS inp)=[.int .i64 Al,.slice A n c,.int .u64 0,.int .u64 0,.int .u64 0,.int .u64 0,.int .u64 0,.int .u64 0,.int .u64 0,.int .u64 0,.int .u64 0,.int .u64 0,.int .u64 0,.int .u64 0,.int .u64 0,.int .u64 0,.int .u64 0,.int .u64 0,.slice none 0 0,.slice none 0 0,.slice none 0 0,.int .i64 0,.int .i64 0,.int .i64 0,.slice Ai ni ci,.bool false,.int .i64 0,.int .u64 0,.int .u64 0,.int .u64 0,.slice none 0 0,.int .i64 0]:=by
 simp[bR,rS,ah,iE,jG,Ak,Au,List.replicate]
def xq (w:World) (F:Tg) (A:Nat) (inp:List Nat) (fu size g:Nat) (Al:Int) (vf:Value) (wr:World):Prop:=∃S:Tm,pH wr g Al (aK A size) vf S/\LoopT F A inp fu size S/\w.grownBy wr (some g)
theorem sM {lb n c:Nat} {A:Option Addr} {hs:List Fd} (Al:Int) (F:Tg) (inp:List Nat) (fu sz:Nat) (Ai:Option Addr) (ni ci:Nat) (w:World) (hE:tgE Al F=0) (hfu:fu<=100000) (hsz:sz<=1048576) (him:Hid (eN F)) (hI:Hid (cD w w.heap.size (.slice Ai ni ci) inp)) (hIv:Hid (∀v∈inp,v<18446744073709551616)) (hPg:Hid (TgAt w lb w.heap.size A n c hs F)) :
  Calls Tryz.prog 20 #[tv Al A n c,.slice Ai ni ci,.int .i64 (fu:Int),.int .i64 (sz:Int)] w (iC Al F inp (fu:Int) (sz:Int) w):=by
 obtain⟨W1,hW1,hb0,hs1,hrb,hro⟩:=jc w Al A n c
 have HW1:=aa hW1
 have HB0:=aa hb0
 have HSZ:=aa hs1
 have RB:=aa hrb
 have RO:=aa hro
 have cc:=fQ Al A n c hs F lb w.heap.size W1 (aa (hPg.out.below hb0)) hb0.size
 have x0:=hrb.cell (k:=0) rfl
 have x1:=hrb.cell (k:=1) rfl
 rw[hE] at cc
 have hR:=aa (kT hE)
 have HE:=aa (show bL Al F (fu:Int) (sz:Int)=0 by unfold bL;rw[if_neg (by rw[hE];decide),if_pos (by omega)])
 have HS:=aa (show aY Al F inp (fu:Int) (sz:Int)=gU Al.toNat F inp fu sz by unfold aY;rw[if_pos HE.out,Int.toNat_natCast,Int.toNat_natCast])
 obtain⟨hn1,hn2⟩:=lr (sz:Int) Al ⟨by omega,by omega,hR.out.al.1⟩
 rw[Int.toNat_natCast] at hn2
 have HNE:=aa hn1
 have HNR:=aa (show jQ (sz:Int) Al=bg sz (aK Al.toNat sz) from hn2)
 obtain⟨rm,hrm⟩:∃rm,aK Al.toNat sz=rm:=⟨_,rfl⟩
 have HRM:=aa hrm
 have hrm2:rm<=sz:=by rw[<-hrm];exact Nat.sub_le _ _
 rw[hrm] at HNR
 have d0:decide ((fu:Int)<0)=false:=decide_eq_false (by omega)
 have d1:decide (100000<(fu:Int))=false:=decide_eq_false (by omega)
 have d2:decide ((sz:Int)<0)=false:=decide_eq_false (by omega)
 have d3:decide (1048576<(sz:Int))=false:=decide_eq_false (by omega)
 clear hE hn1 hn2 hrm hW1 hb0 hs1 hrb hro
 go_enter Tryz.func20,Tryz.ntmps20
 go_upto_region 1 with(fail)
 rw[HW1.out]
 clear HW1
 go_wp2_with fail
 refine cc.mono ?_
 rintro e w2 ⟨rfl,hb2⟩
 have B2:=aa (ac HB0.out hb2)
 have hs12:=hb2.size
 replace RO:=aa (RO.out.call hb2)
 replace RB:=aa (RB.out.call hb2)
 clear cc hb2 x0 x1
 have x0:=RB.out.cell (k:=0) rfl
 have x1:=RB.out.cell (k:=1) rfl
 go_upto_region 7 with(fail)
 obtain⟨W3,hW3⟩:∃V,w2.alloc (.cells #[.int .i64 Al,.slice A n c,.int .u64 0,.int .u64 0,.int .u64 0,.int .u64 0,.int .u64 0,.int .u64 0,.int .u64 0,.int .u64 0,.int .u64 0,.int .u64 0,.int .u64 0,.int .u64 0,.int .u64 0,.int .u64 0,.int .u64 0,.int .u64 0,.slice none 0 0,.slice none 0 0,.slice none 0 0,.int .i64 0,.int .i64 0,.int .i64 0,.slice Ai ni ci,.bool false,.int .i64 0,.int .u64 0,.int .u64 0,.int .u64 0,.slice none 0 0,.int .i64 0] 94)=V:=⟨_,rfl⟩
 have hb3:Below w2.heap.size w2 W3:=by rw[<-hW3];exact ag _ _
 have RM:=aa (show Row W3 w2.heap.size 94 (bR Al 0 (.slice A n c) (.slice none 0 0) (.slice none 0 0) (.slice none 0 0) (.int .i64 0) (.slice Ai ni ci) (.slice none 0 0) (List.replicate 8 0) (rS inp)) by rw[rR,<-hW3];exact Row.new w2 _ _)
 have B3:=aa (ac B2.out hb3)
 replace RO:=aa (RO.out.call hb3)
 replace RB:=aa (RB.out.call hb3)
 have hgB:w.heap.size+2<=w2.heap.size:=by have h3:=HSZ.out;omega
 obtain⟨g,hg⟩:∃q,w2.heap.size=q:=⟨_,rfl⟩
 rw[hW3]
 rw[hg] at RM hgB⊢
 have hgs:W3.heap.size=g+1:=by rw[<-hW3,<-hg];simp
 obtain⟨gO,hgO⟩:∃q,w.heap.size+1=q:=⟨_,rfl⟩
 rw[hgO] at RO⊢
 have hgOg:gO<g:=by omega
 clear hW3 hg B2 hs12 x0 x1
 have cn:=pW (sz:Int) Al W3
 rw[HNE.out,HNR.out] at cn
 unfold jr at cn
 have x0:=RB.out.cell (k:=0) rfl
 go_wp2_with fail
 refine cn.mono ?_
 rintro e w4 ⟨A1,c1,A2,c2,rfl,hst,hb4,hfar⟩
 obtain⟨hf1,hf2⟩:=hfar (by trivial)
 have HL1:=aa (show(bg sz rm).bs.length=sz by simp[bg])
 have R4:=aa (RM.out.call hb4)
 have B4:=aa (ac B3.out hb4)
 have RO4:=aa (RO.out.call hb4)
 have HST:=aa hst
 have hS43:=hb4.size
 have z0:=R4.out.cell (k:=19) rfl
 have z1:=R4.out.cell (k:=20) rfl
 have z2:=R4.out.cell (k:=21) rfl
 have e0:=R4.out.free 19
 have e1:=R4.out.free 20
 have e2:=R4.out.free 21
 obtain⟨W5,hW5⟩:∃V,((w4.setCell ⟨g,19,none⟩ (.slice A1 (bg sz rm).bs.length c1)).setCell ⟨g,20,none⟩ (.slice A2 (bg sz rm).bs.length c2)).setCell ⟨g,21,none⟩ (.int .i64 ((bg sz rm).sp:Int))=V:=⟨_,rfl⟩
 have R5:=aa (show Row W5 g 94 ((((bR Al 0 (.slice A n c) (.slice none 0 0) (.slice none 0 0) (.slice none 0 0) (.int .i64 0) (.slice Ai ni ci) (.slice none 0 0) (List.replicate 8 0) (rS inp)).set 19 (.slice A1 (bg sz rm).bs.length c1)).set 20 (.slice A2 (bg sz rm).bs.length c2)).set 21 (.int .i64 ((bg sz rm).sp:Int))) by rw[<-hW5];exact((R4.out.set_ 19 _).set_ 20 _).set_ 21 _)
 have g5:w4.grownBy W5 (some g):=by rw[<-hW5];exact aS (aS (aS (World.grownBy.refl w4 _) 19 _) 20 _) 21 _
 have HW5:=aa hW5
 clear hW5 cn hst hb4 hfar RM B3 RO x0
 go_upto_region 8 with(fail)
 rw[HW5.out]
 clear HW5 z0 z1 z2 e0 e1 e2
 have y2:=R5.out.cell (k:=21) rfl
 have y3:=R5.out.cell (k:=22) rfl
 have e3:=R5.out.free 22
 obtain⟨W6,hW6⟩:∃V,W5.setCell ⟨g,22,none⟩ (.int .i64 ((bg sz rm).sp:Int))=V:=⟨_,rfl⟩
 have g6:w4.grownBy W6 (some g):=by rw[<-hW6];exact aS g5 22 _
 have HB6:=aa (show Below w.heap.size w W6 from cW B4.out g6 (by omega) B4.out.size)
 have H6:=aa (show WmAt W6 g Al (aK Al.toNat sz:Nat) (.slice A n c) (.slice none 0 0) (.slice A1 sz c1) (.slice A2 sz c2) (.int .i64 (rm:Int)) (.slice Ai ni ci) (.slice none 0 0) (List.replicate 8 0) (de Al.toNat inp sz) from⟨by
   have h1:=R5.out.set_ 22 (.int .i64 ((bg sz rm).sp:Int))
   rw[hW6,HL1.out] at h1
   rw[HRM.out]
   exact h1,rfl,⟨none,0,0,rfl,rfl,Nat.le_refl _,fun _=>rfl,fun a h=>(by cases h),an.nil_ _ _ _⟩,(hI.out.below HB6.out).more (by omega),⟨none,0,0,rfl,rfl,Nat.le_refl _,fun _=>rfl,fun a h=>(by cases h),an.nil_ _ _ _⟩,fun _=>⟨rfl,by
   have h2:fy w4 (g+1) w4.heap.size (.slice A1 sz c1) (.slice A2 sz c2) (.int .i64 (rm:Int)) (bg sz rm):=⟨A1,c1,A2,c2,by rw[HL1.out],by rw[HL1.out],rfl,HST.out,hf1.more (by omega),hf2.more (by omega)⟩
   have h3:=h2.keep (w':=W6) (B':=W6.heap.size) (fun p h1 h2=>World.cell?_of_block (g6.block p.block h2 (fun e=>by have:=Option.some.inj e;omega))) g6.size
   show fy W6 (g+1) W6.heap.size _ _ _ (bg sz (aK Al.toNat sz))
   rw[HRM.out]
   exact h3⟩⟩)
 have RO:=aa (RO4.out.grown g6 (fun e=>by have:=Option.some.inj e;omega))
 have HW6:=aa hW6
 clear hW6 g5 g6 HST R4 R5 B4 RO4 hf1 hf2
 go_upto_region 9 with(fail)
 rw[HW6.out]
 clear HW6 y2 y3 e3
 have hroom:aK Al.toNat sz<=1048576:=Nat.le_trans (Nat.sub_le _ _) hsz
 have hwW:w.heap.size<=W6.heap.size:=HB6.out.size
 have hgW:g<W6.heap.size:=H6.out.gl
 by_cases h0:fu=0
 ·subst h0
  have HRES0:=aa (show gU Al.toNat F inp 0 sz=(de Al.toNat inp sz).stop 4 from rfl)
  go_wp2_with fail
  go_loopw [] (fun wr=>Hid (pH wr g Al (aK Al.toNat sz:Nat) (.slice A n c) (de Al.toNat inp sz))/\Hid (W6.grownBy wr (some g))) (fun _=>0)
  case atStart=>exact⟨aa ⟨_,_,_,_,_,_,_,H6.out⟩,aa (World.grownBy.refl _ _)⟩
  case round=>
   obtain⟨h7,hG7⟩:=hrel
   obtain⟨vs,v1,v2,vp,vi,vt,R,H7⟩:=h7.out
   have H7:=aa H7
   have c7:=H7.out.cell 7 rfl
   have c13:=H7.out.cell 13 rfl
   rw[show(de Al.toNat inp sz).c.ended=false from rfl] at c7
   rw[show(((de Al.toNat inp sz).c.steps:Nat):Int)=0 from rfl] at c13
   go_wp2_with fail
   refine(gz 4 wr H7).mono ?_
   rintro e w8 ⟨rfl,h8,g8⟩
   obtain⟨S8,hS8⟩:∃S,(de Al.toNat inp sz).stop 4=S:=⟨_,rfl⟩
   rw[hS8] at h8 HRES0
   have HRES:=HRES0
   have H8:=aa h8
   have HG8:=aa (hG7.out.trans g8)
   clear h8 g8 hS8 HRES0 H7 hG7 c7 c13 H6
   go_upto_region 15 with(fail)
   have RO8:=aa (RO.out.grown (HG8.out) (fun e=>by have:=Option.some.inj e;omega))
   have u0:=H8.out.cell 8 rfl
   have u1:=H8.out.cell 9 rfl
   have u2:=H8.out.cell 10 rfl
   have u3:=H8.out.cell 11 rfl
   have u4:=H8.out.cell 12 rfl
   have u5:=H8.out.cell 13 rfl
   have u6:=H8.out.cell 5 rfl
   have z0:=RO8.out.cell (k:=0) rfl
   have z1:=RO8.out.cell (k:=1) rfl
   have z2:=RO8.out.cell (k:=2) rfl
   have z3:=RO8.out.cell (k:=3) rfl
   have z4:=RO8.out.cell (k:=4) rfl
   have z5:=RO8.out.cell (k:=5) rfl
   have f0:=RO8.out.free 0
   have f1:=RO8.out.free 1
   have f2:=RO8.out.free 2
   have f3:=RO8.out.free 3
   have f4:=RO8.out.free 4
   have f5:=RO8.out.free 5
   obtain⟨At,nt,ct,rfl,htl,hnc,hcn,hfar,hsee⟩:=H8.out.tr
   obtain⟨W9,hW9⟩:∃V,(((((w8.setCell ⟨gO,0,none⟩ (.int .i64 S8.c.kind)).setCell ⟨gO,1,none⟩ (.int .u64 S8.c.code)).setCell ⟨gO,2,none⟩ (.int .u64 (lo S8.c.res))).setCell ⟨gO,3,none⟩ (.int .u64 (hi S8.c.res))).setCell ⟨gO,4,none⟩ (.slice At nt ct)).setCell ⟨gO,5,none⟩ (.int .i64 (S8.c.steps:Int))=V:=⟨_,rfl⟩
   have R9:=aa (show Row W9 gO 41 (cK S8.c (.slice At nt ct)) by rw[<-hW9];exact(((((RO8.out.set_ 0 _).set_ 1 _).set_ 2 _).set_ 3 _).set_ 4 _).set_ 5 _)
   have hle:w.heap.size<=gO:=by omega
   have B8:=aa (show Below w.heap.size w w8 from(cW HB6.out (HG8.out) (by omega) (by omega)))
   have B9:=aa (show Below w.heap.size w W9 by rw[<-hW9];exact(((((B8.out.setCell (p:=⟨gO,0,none⟩) hle _).setCell (p:=⟨gO,1,none⟩) hle _).setCell (p:=⟨gO,2,none⟩) hle _).setCell (p:=⟨gO,3,none⟩) hle _).setCell (p:=⟨gO,4,none⟩) hle _).setCell (p:=⟨gO,5,none⟩) hle _)
   have hT9:TrS W9 w.heap.size W9.heap.size (.slice At nt ct) S8.c.trace:=by
    refine⟨At,nt,ct,rfl,htl,hnc,hcn,hfar.more (by omega),?_⟩
    have hsz:w8.heap.size=W9.heap.size:=by rw[<-hW9];simp only[World.size_setCell]
    rw[<-hsz]
    refine hsee.keepF hfar (fun p h1 _=>?_)
    have hne:∀k,(⟨gO,k,none⟩:Addr)≠p:=fun k e=>by subst e;simp at h1;omega
    rw[<-hW9,World.cell?_setCell_other _ _ _ _ (hne _),World.cell?_setCell_other _ _ _ _ (hne _),World.cell?_setCell_other _ _ _ _ (hne _),World.cell?_setCell_other _ _ _ _ (hne _),World.cell?_setCell_other _ _ _ _ (hne _),World.cell?_setCell_other _ _ _ _ (hne _)]
   have FIN:=aa (show iC Al F inp ((0:Nat):Int) (sz:Int) w (.returned (.tuple #[.agg #[.int .i64 S8.c.kind,.int .u64 S8.c.code,.int .u64 (lo S8.c.res),.int .u64 (hi S8.c.res),.slice At nt ct,.int .i64 (S8.c.steps:Int)],.int .i64 (S8.deep:Int),.int .i64 0])) W9.drew from⟨.slice At nt ct,by rw[HS.out,HRES.out,HE.out];rfl,by rw[HS.out,HRES.out];exact hT9,B9.out.drew⟩)
   have HW9:=aa hW9
   have y0:=R9.out.cell (k:=0) rfl
   have y1:=R9.out.cell (k:=1) rfl
   have y2:=R9.out.cell (k:=2) rfl
   have y3:=R9.out.cell (k:=3) rfl
   have y4:=R9.out.cell (k:=4) rfl
   have y5:=R9.out.cell (k:=5) rfl
   have Y0:=aa y0
   have Y1:=aa y1
   have Y2:=aa y2
   have Y3:=aa y3
   have Y4:=aa y4
   have Y5:=aa y5
   clear hW9 htl hnc hcn hfar hsee hT9 y0 y1 y2 y3 y4 y5
   go_region
   all_goals
    try go_wp2_with fail
    rw[HW9.out]
    have y0:=Y0.out
    have y1:=Y1.out
    have y2:=Y2.out
    have y3:=Y3.out
    have y4:=Y4.out
    have y5:=Y5.out
    exact bodyPost_ret (v:=.tuple #[.agg #[.int .i64 S8.c.kind,.int .u64 S8.c.code,.int .u64 (lo S8.c.res),.int .u64 (hi S8.c.res),.slice At nt ct,.int .i64 (S8.c.steps:Int)],.int .i64 (S8.deep:Int),.int .i64 0]) (by simp[results,Tryz.results20,go_sem,y0,y1,y2,y3,y4,y5]) rfl FIN.out
 ·obtain⟨f0,hf0,hp0⟩:=hR.out.z
  have hf0s:=(gG (hR.out.f f0 (List.mem_of_getElem? hf0)).1).2.2.1
  have hnF80:n<=80:=by have h1:=hPg.out.len;have h2:=hR.out.n80;omega
  have hfu1:(0:Int)<(fu:Int):=by omega
  have HPG6:=aa (show TgAt W6 lb g A n c hs F from(hPg.out.below HB6.out).more (by omega) (Nat.le_refl _))
  obtain⟨bF,oF,-,-,-,-,-,-,rfl,hbF,-⟩:=dk HPG6.out (k:=0) (by have h1:=(List.getElem?_eq_some_iff.1 hf0).1;have h2:=hPg.out.len;omega)
  have ce:=mr (s:=de Al.toNat inp sz) (T0:=aK Al.toNat sz) 0 W6 (aa hf0) hf0s.1 (show(0:Nat)<=1000000 by omega) hroom (show aK Al.toNat sz<=aK Al.toNat sz from Nat.le_refl _) (show(0:Nat)<=1048576 by omega) hnF80 hbF HPG6 rfl H6
  rw[show((0:Nat):Int)=0 from rfl] at ce
  unfold jJ at ce
  clear hf0 hp0 hf0s
  go_wp2_with fail
  go_fit ce
  rintro e w7 ⟨rfl,h7,g7⟩
  have HR:=aa (show xq W6 F Al.toNat inp fu sz g Al (.slice (some ⟨bF,oF,none⟩) n c) w7 from⟨_,h7,LoopT.start hR.out hIv.out hsz h0,g7⟩)
  clear h7 g7 ce
  go_wp2_with fail
  go_loopw [] (fun wr=>Hid (xq W6 F Al.toNat inp fu sz g Al (.slice (some ⟨bF,oF,none⟩) n c) wr)) (fun wr=>lz fu (wr.cell? ⟨g,31,none⟩) (wr.cell? ⟨g,25,none⟩))
  case atStart=>exact HR
  case round=>
   clear HR
   obtain⟨S,⟨vs,v1,v2,vp,vi,vt,R,H⟩,hL,hG⟩:=hrel.out
   clear hrel
   have H:=aa H
   have hL:=aa hL
   have hG:=aa hG
   have c13:=H.out.cell 13 rfl
   have c7:=H.out.cell 7 rfl
   cases hen:S.c.ended with
   | true=>
    have HRES:=aa (show gU Al.toNat F inp fu sz=S by
     rcases hL.out with⟨j,hj,e,hh,hs,v⟩|⟨hh,e⟩
     ·rw[hen] at hh;cases hh
     ·exact e.symm)
    rw[hen] at c7
    have H8:=H
    have HG8:=hG
    clear H hG hL c13 hen
    go_upto_region 15 with(fail)
    have RO8:=aa (RO.out.grown (HG8.out) (fun e=>by have:=Option.some.inj e;omega))
    have u0:=H8.out.cell 8 rfl
    have u1:=H8.out.cell 9 rfl
    have u2:=H8.out.cell 10 rfl
    have u3:=H8.out.cell 11 rfl
    have u4:=H8.out.cell 12 rfl
    have u5:=H8.out.cell 13 rfl
    have u6:=H8.out.cell 5 rfl
    have z0:=RO8.out.cell (k:=0) rfl
    have z1:=RO8.out.cell (k:=1) rfl
    have z2:=RO8.out.cell (k:=2) rfl
    have z3:=RO8.out.cell (k:=3) rfl
    have z4:=RO8.out.cell (k:=4) rfl
    have z5:=RO8.out.cell (k:=5) rfl
    have f0:=RO8.out.free 0
    have f1:=RO8.out.free 1
    have f2:=RO8.out.free 2
    have f3:=RO8.out.free 3
    have f4:=RO8.out.free 4
    have f5:=RO8.out.free 5
    obtain⟨At,nt,ct,rfl,htl,hnc,hcn,hfar,hsee⟩:=H8.out.tr
    obtain⟨W9,hW9⟩:∃V,(((((wr.setCell ⟨gO,0,none⟩ (.int .i64 S.c.kind)).setCell ⟨gO,1,none⟩ (.int .u64 S.c.code)).setCell ⟨gO,2,none⟩ (.int .u64 (lo S.c.res))).setCell ⟨gO,3,none⟩ (.int .u64 (hi S.c.res))).setCell ⟨gO,4,none⟩ (.slice At nt ct)).setCell ⟨gO,5,none⟩ (.int .i64 (S.c.steps:Int))=V:=⟨_,rfl⟩
    have R9:=aa (show Row W9 gO 41 (cK S.c (.slice At nt ct)) by rw[<-hW9];exact(((((RO8.out.set_ 0 _).set_ 1 _).set_ 2 _).set_ 3 _).set_ 4 _).set_ 5 _)
    have hle:w.heap.size<=gO:=by omega
    have B8:=aa (show Below w.heap.size w wr from(cW HB6.out (HG8.out) (by omega) (by omega)))
    have B9:=aa (show Below w.heap.size w W9 by rw[<-hW9];exact(((((B8.out.setCell (p:=⟨gO,0,none⟩) hle _).setCell (p:=⟨gO,1,none⟩) hle _).setCell (p:=⟨gO,2,none⟩) hle _).setCell (p:=⟨gO,3,none⟩) hle _).setCell (p:=⟨gO,4,none⟩) hle _).setCell (p:=⟨gO,5,none⟩) hle _)
    have hT9:TrS W9 w.heap.size W9.heap.size (.slice At nt ct) S.c.trace:=by
     refine⟨At,nt,ct,rfl,htl,hnc,hcn,hfar.more (by omega),?_⟩
     have hsz:wr.heap.size=W9.heap.size:=by rw[<-hW9];simp only[World.size_setCell]
     rw[<-hsz]
     refine hsee.keepF hfar (fun p h1 _=>?_)
     have hne:∀k,(⟨gO,k,none⟩:Addr)≠p:=fun k e=>by subst e;simp at h1;omega
     rw[<-hW9,World.cell?_setCell_other _ _ _ _ (hne _),World.cell?_setCell_other _ _ _ _ (hne _),World.cell?_setCell_other _ _ _ _ (hne _),World.cell?_setCell_other _ _ _ _ (hne _),World.cell?_setCell_other _ _ _ _ (hne _),World.cell?_setCell_other _ _ _ _ (hne _)]
    have FIN:=aa (show iC Al F inp (fu:Int) (sz:Int) w (.returned (.tuple #[.agg #[.int .i64 S.c.kind,.int .u64 S.c.code,.int .u64 (lo S.c.res),.int .u64 (hi S.c.res),.slice At nt ct,.int .i64 (S.c.steps:Int)],.int .i64 (S.deep:Int),.int .i64 0])) W9.drew from⟨.slice At nt ct,by rw[HS.out,HRES.out,HE.out];rfl,by rw[HS.out,HRES.out];exact hT9,B9.out.drew⟩)
    have HW9:=aa hW9
    have y0:=R9.out.cell (k:=0) rfl
    have y1:=R9.out.cell (k:=1) rfl
    have y2:=R9.out.cell (k:=2) rfl
    have y3:=R9.out.cell (k:=3) rfl
    have y4:=R9.out.cell (k:=4) rfl
    have y5:=R9.out.cell (k:=5) rfl
    have Y0:=aa y0
    have Y1:=aa y1
    have Y2:=aa y2
    have Y3:=aa y3
    have Y4:=aa y4
    have Y5:=aa y5
    clear hW9 htl hnc hcn hfar hsee hT9 y0 y1 y2 y3 y4 y5
    go_region
    all_goals
     try go_wp2_with fail
     rw[HW9.out]
     have y0:=Y0.out
     have y1:=Y1.out
     have y2:=Y2.out
     have y3:=Y3.out
     have y4:=Y4.out
     have y5:=Y5.out
     exact bodyPost_ret (v:=.tuple #[.agg #[.int .i64 S.c.kind,.int .u64 S.c.code,.int .u64 (lo S.c.res),.int .u64 (hi S.c.res),.slice At nt ct,.int .i64 (S.c.steps:Int)],.int .i64 (S.deep:Int),.int .i64 0]) (by simp[results,Tryz.results20,go_sem,y0,y1,y2,y3,y4,y5]) rfl FIN.out
   | false=>
    rw[hen] at c7
    obtain⟨hv,hmost⟩:=hL.out.vt hen
    by_cases hge:fu<=S.c.steps
    ·have HRES:=aa (show gU Al.toNat F inp fu sz=S.stop 4 from(hL.out.fuel h0 hen hge).symm)
     have hgez:(fu:Int)<=(S.c.steps:Int):=by omega
     clear hv hmost hL hge
     go_wp2_with fail
     refine(gz 4 wr H).mono ?_
     rintro e w8 ⟨rfl,h8,g8⟩
     obtain⟨S8,hS8⟩:∃S8,S.stop 4=S8:=⟨_,rfl⟩
     rw[hS8] at h8 HRES
     have H8:=aa h8
     have HG8:=aa (hG.out.trans g8)
     clear h8 g8 hS8 H hG c7 c13 hgez
     go_upto_region 15 with(fail)
     have RO8:=aa (RO.out.grown (HG8.out) (fun e=>by have:=Option.some.inj e;omega))
     have u0:=H8.out.cell 8 rfl
     have u1:=H8.out.cell 9 rfl
     have u2:=H8.out.cell 10 rfl
     have u3:=H8.out.cell 11 rfl
     have u4:=H8.out.cell 12 rfl
     have u5:=H8.out.cell 13 rfl
     have u6:=H8.out.cell 5 rfl
     have z0:=RO8.out.cell (k:=0) rfl
     have z1:=RO8.out.cell (k:=1) rfl
     have z2:=RO8.out.cell (k:=2) rfl
     have z3:=RO8.out.cell (k:=3) rfl
     have z4:=RO8.out.cell (k:=4) rfl
     have z5:=RO8.out.cell (k:=5) rfl
     have f0:=RO8.out.free 0
     have f1:=RO8.out.free 1
     have f2:=RO8.out.free 2
     have f3:=RO8.out.free 3
     have f4:=RO8.out.free 4
     have f5:=RO8.out.free 5
     obtain⟨At,nt,ct,rfl,htl,hnc,hcn,hfar,hsee⟩:=H8.out.tr
     obtain⟨W9,hW9⟩:∃V,(((((w8.setCell ⟨gO,0,none⟩ (.int .i64 S8.c.kind)).setCell ⟨gO,1,none⟩ (.int .u64 S8.c.code)).setCell ⟨gO,2,none⟩ (.int .u64 (lo S8.c.res))).setCell ⟨gO,3,none⟩ (.int .u64 (hi S8.c.res))).setCell ⟨gO,4,none⟩ (.slice At nt ct)).setCell ⟨gO,5,none⟩ (.int .i64 (S8.c.steps:Int))=V:=⟨_,rfl⟩
     have R9:=aa (show Row W9 gO 41 (cK S8.c (.slice At nt ct)) by rw[<-hW9];exact(((((RO8.out.set_ 0 _).set_ 1 _).set_ 2 _).set_ 3 _).set_ 4 _).set_ 5 _)
     have hle:w.heap.size<=gO:=by omega
     have B8:=aa (show Below w.heap.size w w8 from(cW HB6.out (HG8.out) (by omega) (by omega)))
     have B9:=aa (show Below w.heap.size w W9 by rw[<-hW9];exact(((((B8.out.setCell (p:=⟨gO,0,none⟩) hle _).setCell (p:=⟨gO,1,none⟩) hle _).setCell (p:=⟨gO,2,none⟩) hle _).setCell (p:=⟨gO,3,none⟩) hle _).setCell (p:=⟨gO,4,none⟩) hle _).setCell (p:=⟨gO,5,none⟩) hle _)
     have hT9:TrS W9 w.heap.size W9.heap.size (.slice At nt ct) S8.c.trace:=by
      refine⟨At,nt,ct,rfl,htl,hnc,hcn,hfar.more (by omega),?_⟩
      have hsz:w8.heap.size=W9.heap.size:=by rw[<-hW9];simp only[World.size_setCell]
      rw[<-hsz]
      refine hsee.keepF hfar (fun p h1 _=>?_)
      have hne:∀k,(⟨gO,k,none⟩:Addr)≠p:=fun k e=>by subst e;simp at h1;omega
      rw[<-hW9,World.cell?_setCell_other _ _ _ _ (hne _),World.cell?_setCell_other _ _ _ _ (hne _),World.cell?_setCell_other _ _ _ _ (hne _),World.cell?_setCell_other _ _ _ _ (hne _),World.cell?_setCell_other _ _ _ _ (hne _),World.cell?_setCell_other _ _ _ _ (hne _)]
     have FIN:=aa (show iC Al F inp (fu:Int) (sz:Int) w (.returned (.tuple #[.agg #[.int .i64 S8.c.kind,.int .u64 S8.c.code,.int .u64 (lo S8.c.res),.int .u64 (hi S8.c.res),.slice At nt ct,.int .i64 (S8.c.steps:Int)],.int .i64 (S8.deep:Int),.int .i64 0])) W9.drew from⟨.slice At nt ct,by rw[HS.out,HRES.out,HE.out];rfl,by rw[HS.out,HRES.out];exact hT9,B9.out.drew⟩)
     have HW9:=aa hW9
     have y0:=R9.out.cell (k:=0) rfl
     have y1:=R9.out.cell (k:=1) rfl
     have y2:=R9.out.cell (k:=2) rfl
     have y3:=R9.out.cell (k:=3) rfl
     have y4:=R9.out.cell (k:=4) rfl
     have y5:=R9.out.cell (k:=5) rfl
     have Y0:=aa y0
     have Y1:=aa y1
     have Y2:=aa y2
     have Y3:=aa y3
     have Y4:=aa y4
     have Y5:=aa y5
     clear hW9 htl hnc hcn hfar hsee hT9 y0 y1 y2 y3 y4 y5
     go_region
     all_goals
      try go_wp2_with fail
      rw[HW9.out]
      have y0:=Y0.out
      have y1:=Y1.out
      have y2:=Y2.out
      have y3:=Y3.out
      have y4:=Y4.out
      have y5:=Y5.out
      exact bodyPost_ret (v:=.tuple #[.agg #[.int .i64 S8.c.kind,.int .u64 S8.c.code,.int .u64 (lo S8.c.res),.int .u64 (hi S8.c.res),.slice At nt ct,.int .i64 (S8.c.steps:Int)],.int .i64 (S8.deep:Int),.int .i64 0]) (by simp[results,Tryz.results20,go_sem,y0,y1,y2,y3,y4,y5]) rfl FIN.out
    ·have HL2:=aa (hL.out.step hR.out him.out h0 hen (by omega))
     have hmf:S.c.steps<=fu:=by omega
     have hV:=aa hv
     have hst2:S.c.steps<=200000:=by omega
     have hgez:¬(fu:Int)<=(S.c.steps:Int):=by omega
     have cs:=sL wr hR him hV hst2 hroom rfl (aa (HPG6.out.keep (fun p _ h2=>World.cell?_of_block (hG.out.block p.block (by omega) (fun e=>by have:=Option.some.inj e;omega))))) hen H
     unfold jJ at cs
     clear hge hv hmost
     go_wp2_with fail
     go_fit cs
     rintro e w6 ⟨rfl,h6,g6⟩
     have HR:=aa (show xq W6 F Al.toNat inp fu sz g Al (.slice (some ⟨bF,oF,none⟩) n c) w6 from⟨_,h6,HL2.out.1,hG.out.trans g6⟩)
     obtain⟨vs6,v16,v26,vp6,vi6,vt6,R6,h6⟩:=h6
     have d13:=aa (h6.cell 13 rfl)
     have d7:=aa (h6.cell 7 rfl)
     have h2:=HL2.out.2
     clear cs h6 g6 H hG hL HL2 hV
     go_wp2_with fail
     go_roundw
     case rel=>exact HR
     case measure=>
      rw[d13.out,d7.out]
      try rw[c13,c7]
      exact mQ hmf (Or.inl h2)
theorem ow {lb n c:Nat} {A:Option Addr} {hs:List Fd} (Al:Int) (F:Tg) (inp:List Nat) (fuel size:Int) (Ai:Option Addr) (ni ci:Nat) (w:World) (him:Hid (eN F)) (hI:Hid (cD w w.heap.size (.slice Ai ni ci) inp)) (hIv:Hid (∀v∈inp,v<18446744073709551616)) (hPg:Hid (TgAt w lb w.heap.size A n c hs F)) :
  Calls Tryz.prog 20 #[tv Al A n c,.slice Ai ni ci,.int .i64 fuel,.int .i64 size] w (iC Al F inp fuel size w):=by
 by_cases hE:tgE Al F=0
 ·by_cases h1:fuel<0
  ·exact xK Al F inp fuel size Ai ni ci w hE h1 hPg
  ·by_cases h2:100000<fuel
   ·exact xJ Al F inp fuel size Ai ni ci w hE h2 hPg
   ·by_cases h3:size<0
    ·exact xI Al F inp fuel size Ai ni ci w hE ⟨by omega,by omega⟩ h3 hPg
    ·by_cases h4:1048576<size
     ·exact xH Al F inp fuel size Ai ni ci w hE ⟨by omega,by omega⟩ h4 hPg
     ·have e1:fuel=((fuel.toNat:Nat):Int):=by omega
      have e2:size=((size.toNat:Nat):Int):=by omega
      rw[e1,e2]
      exact sM Al F inp fuel.toNat size.toNat Ai ni ci w hE (by omega) (by omega) him hI hIv hPg
 ·exact vh Al F inp fuel size Ai ni ci w hE hPg
def xr (Al:Int) (F:Tg) (inp:List Nat) (fuel size:Int) (w:World) (e:Ending) (w':World):Prop:=
 ∃vt,e=.returned (.tuple #[.agg (cK (aY Al F inp fuel size).c vt).toArray,.int .i64 (bL Al F fuel size)])/\TrS w' w.heap.size w'.heap.size vt (aY Al F inp fuel size).c.trace/\Below w.heap.size w w'
theorem vl {lb n c:Nat} {A:Option Addr} {hs:List Fd} (Al:Int) (F:Tg) (inp:List Nat) (fuel size:Int) (Ai:Option Addr) (ni ci:Nat) (w:World) (him:Hid (eN F)) (hI:Hid (cD w w.heap.size (.slice Ai ni ci) inp)) (hIv:Hid (∀v∈inp,v<18446744073709551616)) (hPg:Hid (TgAt w lb w.heap.size A n c hs F)) :
  Calls Tryz.prog 9 #[tv Al A n c,.slice Ai ni ci,.int .i64 fuel,.int .i64 size] w (xr Al F inp fuel size w):=by
 obtain⟨W1,hW1,hb0,hsz,hrb,hro⟩:=jc w Al A n c
 have HW1:=aa hW1
 have HB0:=aa hb0
 have RO:=aa hro
 have cr:=ow Al F inp fuel size Ai ni ci W1 him (aa ((hI.out.below hb0).more hb0.size)) hIv (aa ((hPg.out.below hb0).more hb0.size (Nat.le_refl _)))
 have x0:=hrb.cell (k:=0) rfl
 have x1:=hrb.cell (k:=1) rfl
 have hgO:w.heap.size+1<W1.heap.size:=hro.lt
 unfold iC cK at cr
 unfold xr cK
 obtain⟨S,hS⟩:∃S,aY Al F inp fuel size=S:=⟨_,rfl⟩
 obtain⟨E,hE⟩:∃E,bL Al F fuel size=E:=⟨_,rfl⟩
 rw[hS,hE] at cr⊢
 clear hW1 hb0 hsz hrb hro hS hE
 go_enter Tryz.func9,Tryz.ntmps9
 go_upto_region 1 with(fail)
 rw[HW1.out]
 clear HW1
 go_wp2_with fail
 refine cr.mono ?_
 rintro e w2 ⟨vt,rfl,hT,hb2⟩
 obtain⟨At,nt,ct,rfl,htl,hnc,hcn,hfar,hsee⟩:=hT
 have HB2:=aa (ac HB0.out hb2)
 have RO2:=aa (RO.out.call hb2)
 obtain⟨W3,hW3⟩:∃V,w2.alloc (.cells #[.int .i64 S.c.kind,.int .u64 S.c.code,.int .u64 (lo S.c.res),.int .u64 (hi S.c.res),.slice At nt ct,.int .i64 (S.c.steps:Int)] 41)=V:=⟨_,rfl⟩
 have hb3:Below w2.heap.size w2 W3:=by rw[<-hW3];exact ag _ _
 have R3:=aa (show Row W3 w2.heap.size 41 [.int .i64 S.c.kind,.int .u64 S.c.code,.int .u64 (lo S.c.res),.int .u64 (hi S.c.res),.slice At nt ct,.int .i64 (S.c.steps:Int)] by rw[<-hW3];exact Row.new w2 _ _)
 have RO3:=aa (RO2.out.call hb3)
 have HB3:=aa (ac HB2.out hb3)
 have hT3:TrS W3 W1.heap.size W3.heap.size (.slice At nt ct) S.c.trace:=TrS.call ⟨At,nt,ct,rfl,htl,hnc,hcn,hfar,hsee⟩ hb3
 have HT3:=aa hT3
 obtain⟨g3,hg3⟩:∃q,w2.heap.size=q:=⟨_,rfl⟩
 have hgg:w.heap.size+1<g3:=by rw[<-hg3];exact RO2.out.lt
 have HW3:=aa hW3
 have HG3:=aa hg3
 clear hW3 hb3 hT3 htl hnc hcn hfar hsee hb2 cr x0 x1 RO RO2 HB2 hg3
 go_upto_region 2 with(fail)
 try rw[HW3.out]
 rw[HG3.out] at R3
 try rw[HG3.out]
 clear HW3 HG3
 have x0:=R3.out.cell (k:=0) rfl
 have x1:=R3.out.cell (k:=1) rfl
 have x2:=R3.out.cell (k:=2) rfl
 have x3:=R3.out.cell (k:=3) rfl
 have x4:=R3.out.cell (k:=4) rfl
 have x5:=R3.out.cell (k:=5) rfl
 have z0:=RO3.out.cell (k:=0) rfl
 have z1:=RO3.out.cell (k:=1) rfl
 have z2:=RO3.out.cell (k:=2) rfl
 have z3:=RO3.out.cell (k:=3) rfl
 have z4:=RO3.out.cell (k:=4) rfl
 have z5:=RO3.out.cell (k:=5) rfl
 have f0:=RO3.out.free 0
 have f1:=RO3.out.free 1
 have f2:=RO3.out.free 2
 have f3:=RO3.out.free 3
 have f4:=RO3.out.free 4
 have f5:=RO3.out.free 5
 obtain⟨gO,hO⟩:∃q,w.heap.size+1=q:=⟨_,rfl⟩
 rw[hO] at z0 z1 z2 z3 z4 z5 f0 f1 f2 f3 f4 f5 RO3 hgg hgO⊢
 obtain⟨W4,hW4⟩:∃V,(((((W3.setCell ⟨gO,0,none⟩ (.int .i64 S.c.kind)).setCell ⟨gO,1,none⟩ (.int .u64 S.c.code)).setCell ⟨gO,2,none⟩ (.int .u64 (lo S.c.res))).setCell ⟨gO,3,none⟩ (.int .u64 (hi S.c.res))).setCell ⟨gO,4,none⟩ (.slice At nt ct)).setCell ⟨gO,5,none⟩ (.int .i64 (S.c.steps:Int))=V:=⟨_,rfl⟩
 have R4:=aa (show Row W4 gO 41 [.int .i64 S.c.kind,.int .u64 S.c.code,.int .u64 (lo S.c.res),.int .u64 (hi S.c.res),.slice At nt ct,.int .i64 (S.c.steps:Int)] by rw[<-hW4];exact(((((RO3.out.set_ 0 _).set_ 1 _).set_ 2 _).set_ 3 _).set_ 4 _).set_ 5 _)
 have hle:w.heap.size<=gO:=by omega
 have B4:=aa (show Below w.heap.size w W4 by rw[<-hW4];exact(((((HB3.out.setCell (p:=⟨gO,0,none⟩) hle _).setCell (p:=⟨gO,1,none⟩) hle _).setCell (p:=⟨gO,2,none⟩) hle _).setCell (p:=⟨gO,3,none⟩) hle _).setCell (p:=⟨gO,4,none⟩) hle _).setCell (p:=⟨gO,5,none⟩) hle _)
 have T4:=aa (show TrS W4 w.heap.size W4.heap.size (.slice At nt ct) S.c.trace by
  obtain⟨A',n',c',e,h1,h2,h3,h4,h5⟩:=HT3.out
  refine⟨A',n',c',e,h1,h2,h3,h4.more (by omega),?_⟩
  have hsz:W3.heap.size=W4.heap.size:=by rw[<-hW4];simp only[World.size_setCell]
  rw[<-hsz]
  refine h5.keepF h4 (fun p h1 _=>?_)
  have hne:∀k,(⟨gO,k,none⟩:Addr)≠p:=fun k e=>by subst e;simp at h1;omega
  rw[<-hW4,World.cell?_setCell_other _ _ _ _ (hne _),World.cell?_setCell_other _ _ _ _ (hne _),World.cell?_setCell_other _ _ _ _ (hne _),World.cell?_setCell_other _ _ _ _ (hne _),World.cell?_setCell_other _ _ _ _ (hne _),World.cell?_setCell_other _ _ _ _ (hne _)])
 have HW4:=aa hW4
 clear hW4 HT3
 go_wp2_with fail
 rw[HW4.out]
 have y0:=R4.out.cell (k:=0) rfl
 have y1:=R4.out.cell (k:=1) rfl
 have y2:=R4.out.cell (k:=2) rfl
 have y3:=R4.out.cell (k:=3) rfl
 have y4:=R4.out.cell (k:=4) rfl
 have y5:=R4.out.cell (k:=5) rfl
 exact bodyPost_ret (v:=.tuple #[.agg #[.int .i64 S.c.kind,.int .u64 S.c.code,.int .u64 (lo S.c.res),.int .u64 (hi S.c.res),.slice At nt ct,.int .i64 (S.c.steps:Int)],.int .i64 E]) (by simp[results,Tryz.results9,go_sem,y0,y1,y2,y3,y4,y5]) rfl ⟨.slice At nt ct,rfl,T4.out,B4.out⟩
theorem sQ {lb n c:Nat} {A:Option Addr} {hs:List Fd} (Al:Int) (F:Tg) (inp:List Nat) (fuel size:Int) (Ai:Option Addr) (ni ci:Nat) (w:World) (him:Hid (eN F)) (hI:Hid (cD w w.heap.size (.slice Ai ni ci) inp)) (hIv:Hid (∀v∈inp,v<18446744073709551616)) (hPg:Hid (TgAt w lb w.heap.size A n c hs F)) :
  Calls Tryz.prog 11 #[tv Al A n c,.slice Ai ni ci,.int .i64 fuel,.int .i64 size] w fun e w'=>e=.returned (.tuple #[.int .i64 ((aY Al F inp fuel size).deep:Int),.int .i64 (bL Al F fuel size)])/\Below w.heap.size w w':=by
 obtain⟨W1,hW1⟩:∃W1,w.alloc (.cells #[.int .i64 Al,.slice A n c] 26)=W1:=⟨_,rfl⟩
 have HW1:=aa hW1
 have hb0:Below w.heap.size w W1:=by rw[<-hW1];exact ag w _
 have hrb:Row W1 w.heap.size 26 [.int .i64 Al,.slice A n c]:=by rw[<-hW1];exact Row.new w _ _
 have HB0:=aa hb0
 have cr:=ow Al F inp fuel size Ai ni ci W1 him (aa ((hI.out.below hb0).more hb0.size)) hIv (aa ((hPg.out.below hb0).more hb0.size (Nat.le_refl _)))
 have x0:=hrb.cell (k:=0) rfl
 have x1:=hrb.cell (k:=1) rfl
 unfold iC cK at cr
 obtain⟨S,hS⟩:∃S,aY Al F inp fuel size=S:=⟨_,rfl⟩
 obtain⟨E,hE⟩:∃E,bL Al F fuel size=E:=⟨_,rfl⟩
 rw[hS,hE] at cr⊢
 clear hW1 hb0 hrb hS hE
 go_enter Tryz.func11,Tryz.ntmps11
 go_upto_region 1 with(fail)
 rw[HW1.out]
 clear HW1
 go_wp2_with fail
 refine cr.mono ?_
 rintro e w2 ⟨vt,rfl,⟨At,nt,ct,rfl,-⟩,hb2⟩
 have HB2:=aa (ac HB0.out hb2)
 have HB3:=aa (show∀o:Obj,Below w.heap.size w (w2.alloc o) from fun o=>HB2.out.alloc HB2.out.size o)
 clear hb2 cr x0 x1
 go_wp2_with fail
 go_ret2
 exact⟨rfl,HB3.out _⟩
end Go.Proofs.YtjbgepjdohfhkaaGreat
