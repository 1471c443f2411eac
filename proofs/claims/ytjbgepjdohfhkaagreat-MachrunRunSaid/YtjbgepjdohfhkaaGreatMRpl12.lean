/- The reference's Plain at High (chapter 8). Conditions: those of the types; the registers named are registers. -/
import Derived.Test.YtjbgepjdohfhkaaGreatMNcd
set_option linter.unusedVariables false
set_option linter.unusedSimpArgs false
set_option maxRecDepth 100000
set_option maxHeartbeats 4000000
namespace Go.Proofs.YtjbgepjdohfhkaaGreat
open Go.RowKit
theorem vY (a b:Nat) (R:List Nat) (Ai At:Option Addr) (ni ci nt ct:Nat) (w:World) (ha:a<8) (hb:b<8) (hR:R.length=8) :
  Calls Tryz.prog 51 #[iv 12 (a:Int) (b:Int) 0 0,.agg (ah R).toArray,.slice Ai ni ci,.slice At nt ct] w (il (R.set a (eU (R.getD b 0))) (.slice Ai ni ci) (.slice At nt ct) false w):=by
 obtain⟨W1,hW1,hB⟩:=PlB.new w ⟨12,(a:Int),(b:Int),0,0⟩ R
 have HB:=aa hB
 have HW1:=aa (show((w.alloc (.cells #[.int .i64 12,.int .i64 (a:Int),.int .i64 (b:Int),.int .i64 0,.int .u64 0] 50)).alloc (.cells (ah R).toArray 61)).alloc (.cells #[.int .u64 0,.int .u64 0,.int .u64 0,.int .u64 0,.int .u64 0,.int .u64 0,.int .u64 0,.int .u64 0,.int .u64 0,.int .u64 0,.int .u64 0,.int .u64 0,.int .u64 0,.int .u64 0,.int .u64 0,.int .u64 0] 61)=W1 from hW1)
 have x0:=hB.i.cell (k:=0) rfl
 have x1:=hB.i.cell (k:=1) rfl
 have x2:=hB.i.cell (k:=2) rfl
 obtain⟨V0,hV0⟩:∃V,R[a]?=some V:=⟨_,List.getElem?_eq_getElem (by omega)⟩
 obtain⟨X,hX⟩:∃V,R[b]?=some V:=⟨_,List.getElem?_eq_getElem (by omega)⟩
 have gX:R.getD b 0=X:=by rw[List.getD_eq_getElem?_getD,hX];rfl
 rw[gX]
 obtain⟨k0,k1⟩:=cE hV0
 obtain⟨k2,k3⟩:=cE hX
 have y0:=hB.r.cell k0
 have y1:=hB.r.cell k1
 have y2:=hB.r.cell k2
 have y3:=hB.r.cell k3
 have f0:=hB.r.free (a*2)
 have f1:=hB.r.free (a*2+1)
 have ha0:(0:Int)<=(a:Int):=by omega
 have ha1:(a:Int)<8:=by omega
 have hb0:(0:Int)<=(b:Int):=by omega
 have hb1:(b:Int)<8:=by omega
 obtain⟨Z,hZ⟩:∃Z,eU X=Z:=⟨_,rfl⟩
 have cr:=fun W=>tz X W
 rw[hZ] at cr⊢
 have K0:=aa k0
 have K1:=aa k1
 have hR2:(R.set a Z).length=8:=by rw[List.length_set,hR]
 have haR:a<R.length:=by omega
 clear hB hW1 hV0 hX gX k0 k1 k2 k3 hZ
 go_enter Tryz.func51,Tryz.ntmps51
 go_upto_region 1 with(fail)
 rw[HW1.out]
 clear HW1
 go_upto_region 13 with(fail)
 go_region_law (go_simp;go_at_call 78;refine(cr _).mono ?_;rintro e w5 ⟨rfl,hb5⟩;have HB5:=aa (HB.out.drew.call hb5);have u1:=HB5.out.i.cell (k:=1) rfl;have g0:=HB5.out.r.free (a*2);have g1:=HB5.out.r.free (a*2+1);have v0:=HB5.out.r.cell K0.out;have v1:=HB5.out.r.cell K1.out;clear hb5)
 all_goals
  obtain⟨W4,hW4⟩:∃W2,(w5.setCell ⟨w.heap.size+1,a*2,none⟩ (.int .u64 (lo Z))).setCell ⟨w.heap.size+1,a*2+1,none⟩ (.int .u64 (hi Z))=W2:=⟨_,rfl⟩
  have HB4:=aa (show PlB w W4 ⟨12,(a:Int),(b:Int),0,0⟩ (R.set a Z) by rw[<-hW4];exact HB5.out.set (i:=a) haR Z)
  rw[hW4]
  clear hW4 g0 g1 u1 v0 v1 x0 x1 x2 y0 y1 y2 y3 f0 f1 cr
  have hld:=bG (cN (w:=W4)) (aX (w:=W4)) (ba hR2) HB4.out.r
  have hst:=cL (vs:=ah (R.set a Z)) (aX (w:=W4)) (ba hR2) dt (bk _) HB4.out.o
  have R5:=aa (bd (vs:=ah (R.set a Z)) HB4.out.o)
  have B5:=aa (show Below w.heap.size w (W4.setRow (w.heap.size+1+1) (ah (R.set a Z)).toArray) from HB4.out.b.grown (aU W4 _ _) HB4.out.b.size (fun k hk=>by injection hk with hk;omega))
  generalize W4.setRow (w.heap.size+1+1) (ah (R.set a Z)).toArray=W5 at hst R5 B5
  have hld2:=bG (cN (w:=W5)) (aX (w:=W5)) (ba hR2) R5.out
  generalize hX:(ah (R.set a Z)).toArray=X at hld hst hld2
  have HX:=aa hX
  clear hX
  go_wp2_with (first|(refine bu 61 (.tmp 5) rfl rfl _ _ rfl hld ?_)|(refine aI 61 (.tmp 8) (.tmp 108) rfl rfl _ _ rfl rfl hst ?_)|fail)
  exact bodyPost_ret (bT (fn:=Tryz.f51) (t:=8) (u1:=9) (u2:=10) (u3:=11) (T:=61) rfl _ W5 _ _ _ rfl hld2) rfl ⟨by rw[HX.out];rfl,B5.out⟩
theorem tJ (a:Nat) (R:List Nat) (Ai At:Option Addr) (ci nt ct:Nat) (w:World) (ha:a<8) (hR:R.length=8) :
  Calls Tryz.prog 51 #[iv 13 (a:Int) 0 0 0,.agg (ah R).toArray,.slice Ai 0 ci,.slice At nt ct] w (il (R.set a 0) (.slice Ai 0 ci) (.slice At nt ct) false w):=by
 obtain⟨W1,hW1,hB⟩:=PlB.new w ⟨13,(a:Int),0,0,0⟩ R
 have HB:=aa hB
 have HW1:=aa (show((w.alloc (.cells #[.int .i64 13,.int .i64 (a:Int),.int .i64 0,.int .i64 0,.int .u64 0] 50)).alloc (.cells (ah R).toArray 61)).alloc (.cells #[.int .u64 0,.int .u64 0,.int .u64 0,.int .u64 0,.int .u64 0,.int .u64 0,.int .u64 0,.int .u64 0,.int .u64 0,.int .u64 0,.int .u64 0,.int .u64 0,.int .u64 0,.int .u64 0,.int .u64 0,.int .u64 0] 61)=W1 from hW1)
 have x0:=hB.i.cell (k:=0) rfl
 have x1:=hB.i.cell (k:=1) rfl
 obtain⟨V0,hV0⟩:∃V,R[a]?=some V:=⟨_,List.getElem?_eq_getElem (by omega)⟩
 obtain⟨k0,k1⟩:=cE hV0
 have y0:=hB.r.cell k0
 have y1:=hB.r.cell k1
 have f0:=hB.r.free (a*2)
 have f1:=hB.r.free (a*2+1)
 have ha0:(0:Int)<=(a:Int):=by omega
 have ha1:(a:Int)<8:=by omega
 obtain⟨W2,hW2⟩:∃W2,(W1.setCell ⟨w.heap.size+1,a*2,none⟩ (.int .u64 0)).setCell ⟨w.heap.size+1,a*2+1,none⟩ (.int .u64 0)=W2:=⟨_,rfl⟩
 have HB2:=aa (show PlB w W2 ⟨13,(a:Int),0,0,0⟩ (R.set a 0) by
  rw[<-hW2]
  exact HB.out.set (i:=a) (by omega) 0)
 have HW2:=aa hW2
 have hR2:(R.set a 0).length=8:=by rw[List.length_set,hR]
 clear hB hW1 hV0 k0 k1 hW2
 go_enter Tryz.func51,Tryz.ntmps51
 go_upto_region 1 with(fail)
 rw[HW1.out]
 clear HW1
 go_upto_region 21 with(first|go_region)
 rw[HW2.out]
 clear x0 x1 y0 y1 f0 f1 HW2
 have hld:=bG (cN (w:=W2)) (aX (w:=W2)) (ba hR2) HB2.out.r
 have hst:=cL (vs:=ah (R.set a 0)) (aX (w:=W2)) (ba hR2) dt (bk _) HB2.out.o
 have R3:=aa (bd (vs:=ah (R.set a 0)) HB2.out.o)
 have B3:=aa (show Below w.heap.size w (W2.setRow (w.heap.size+1+1) (ah (R.set a 0)).toArray) from HB2.out.b.grown (aU W2 _ _) HB2.out.b.size (fun k hk=>by injection hk with hk;omega))
 generalize W2.setRow (w.heap.size+1+1) (ah (R.set a 0)).toArray=W3 at hst R3 B3
 have hld2:=bG (cN (w:=W3)) (aX (w:=W3)) (ba hR2) R3.out
 generalize hX:(ah (R.set a 0)).toArray=X at hld hst hld2
 have HX:=aa hX
 clear hX
 go_wp2_with (first|(refine bu 61 (.tmp 5) rfl rfl _ _ rfl hld ?_)|(refine aI 61 (.tmp 8) (.tmp 108) rfl rfl _ _ rfl rfl hst ?_)|fail)
 exact bodyPost_ret (bT (fn:=Tryz.f51) (t:=8) (u1:=9) (u2:=10) (u3:=11) (T:=61) rfl _ W3 _ _ _ rfl hld2) rfl ⟨by rw[HX.out];rfl,B3.out⟩
theorem tK (a v j k:Nat) (r:List Nat) (bI oI:Nat) (R:List Nat) (At:Option Addr) (nt ct B:Nat) (w:World) (ha:a<8) (hR:R.length=8) (hBw:B<=w.heap.size) (hI:Hid (cD w B (.slice (some ⟨bI,oI,none⟩) (j+1) k) (v::r))) (hv:v<18446744073709551616) :
  Calls Tryz.prog 51 #[iv 13 (a:Int) 0 0 0,.agg (ah R).toArray,.slice (some ⟨bI,oI,none⟩) (j+1) k,.slice At nt ct] w (fun e w'=>∃vi',il (R.set a v) vi' (.slice At nt ct) false w e w'/\cD w' B vi' r):=by
 obtain⟨A',n',c',he,hl,hnc,hcm,hA,hs⟩:=hI.out
 injection he with he1 he2 he3
 subst he1 he2 he3
 obtain⟨b,off,he,hbB,hc⟩:=hs 0 (.int .u64 (v:Int)) rfl
 injection he with he
 injection he with he1 he2
 subst he1 he2
 rw[Nat.add_zero] at hc
 have hrk:r.length=j:=by simpa using hl
 obtain⟨W1,hW1,hB⟩:=PlB.new w ⟨13,(a:Int),0,0,0⟩ R
 have HB:=aa hB
 have HW1:=aa (show((w.alloc (.cells #[.int .i64 13,.int .i64 (a:Int),.int .i64 0,.int .i64 0,.int .u64 0] 50)).alloc (.cells (ah R).toArray 61)).alloc (.cells #[.int .u64 0,.int .u64 0,.int .u64 0,.int .u64 0,.int .u64 0,.int .u64 0,.int .u64 0,.int .u64 0,.int .u64 0,.int .u64 0,.int .u64 0,.int .u64 0,.int .u64 0,.int .u64 0,.int .u64 0,.int .u64 0] 61)=W1 from hW1)
 have x0:=hB.i.cell (k:=0) rfl
 have x1:=hB.i.cell (k:=1) rfl
 obtain⟨V0,hV0⟩:∃V,R[a]?=some V:=⟨_,List.getElem?_eq_getElem (by omega)⟩
 obtain⟨k0,k1⟩:=cE hV0
 have y0:=hB.r.cell k0
 have y1:=hB.r.cell k1
 have f0:=hB.r.free (a*2)
 have f1:=hB.r.free (a*2+1)
 have ha0:(0:Int)<=(a:Int):=by omega
 have ha1:(a:Int)<8:=by omega
 obtain⟨W2,hW2⟩:∃W2,(W1.setCell ⟨w.heap.size+1,a*2,none⟩ (.int .u64 0)).setCell ⟨w.heap.size+1,a*2+1,none⟩ (.int .u64 0)=W2:=⟨_,rfl⟩
 have HB2:=aa (show PlB w W2 ⟨13,(a:Int),0,0,0⟩ (R.set a 0) by rw[<-hW2];exact HB.out.set (i:=a) (by omega) 0)
 have HW2:=aa hW2
 obtain⟨e1,e2⟩:=ma (v:=(v:Int)) ⟨by omega,by omega⟩
 rw[Int.toNat_natCast] at e1 e2
 obtain⟨W4,hW4⟩:∃W4,((W2.setCell ⟨w.heap.size+1,a*2,none⟩ (.int .u64 (v:Int))).setCell ⟨w.heap.size+1,a*2+1,none⟩ (.int .u64 0)).drew=W4:=⟨_,rfl⟩
 have HB4:=aa (show PlB w W4 ⟨13,(a:Int),0,0,0⟩ (R.set a v) by
  rw[<-hW4]
  have h2:=(HB2.out.set (i:=a) (by rw[List.length_set];omega) v).drew
  rw[<-e1,<-e2,List.set_set] at h2
  exact h2)
 have HW4:=aa hW4
 have hR2:(R.set a v).length=8:=by rw[List.length_set,hR]
 have HI0:=aa hc
 have hk0:(0:Int)<(j:Int)+1:=by omega
 have kk:=aa (And.intro k0 k1)
 clear hB hW1 hV0 k0 k1 hW2 hW4 e1 e2 hc hA
 go_enter Tryz.func51,Tryz.ntmps51
 go_upto_region 1 with(fail)
 rw[HW1.out]
 clear HW1
 go_upto_region 16 with(first|go_region)
 rw[HW2.out]
 clear x0 x1 y0 y1 f0 f1 HW2
 have x1:=HB2.out.i.cell (k:=1) rfl
 have hV2:(R.set a 0)[a]?=some 0:=by rw[List.getElem?_set_self (by omega)]
 obtain⟨k0,k1⟩:=cE hV2
 have y0:=HB2.out.r.cell k0
 have y1:=HB2.out.r.cell k1
 have f0:=HB2.out.r.free (a*2)
 have f1:=HB2.out.r.free (a*2+1)
 have z0:=aD HB2.out.b HI0.out
 clear k0 k1 hV2 kk
 go_upto_region 18 with(first|go_region)
 rw[HW4.out]
 clear x1 y0 y1 f0 f1 z0 HW4
 have hld:=bG (cN (w:=W4)) (aX (w:=W4)) (ba hR2) HB4.out.r
 have hst:=cL (vs:=ah (R.set a v)) (aX (w:=W4)) (ba hR2) dt (bk _) HB4.out.o
 have R5:=aa (bd (vs:=ah (R.set a v)) HB4.out.o)
 have B5:=aa (show Below w.heap.size w (W4.setRow (w.heap.size+1+1) (ah (R.set a v)).toArray) from HB4.out.b.grown (aU W4 _ _) HB4.out.b.size (fun k hk=>by injection hk with hk;omega))
 generalize W4.setRow (w.heap.size+1+1) (ah (R.set a v)).toArray=W5 at hst R5 B5
 have hld2:=bG (cN (w:=W5)) (aX (w:=W5)) (ba hR2) R5.out
 generalize hX:(ah (R.set a v)).toArray=X at hld hst hld2
 have HX:=aa hX
 clear hX
 have HS:=aa hs
 clear hs hl
 by_cases hc1:k=1
 ·subst hc1
  have hj:j=0:=by omega
  subst hj
  have hr:r=[]:=List.eq_nil_of_length_eq_zero hrk
  subst hr
  have IN:=aa (show cD w B (.slice (some ⟨bI,oI,none⟩) 0 0) ([]:List Nat) from⟨_,_,_,rfl,rfl,Nat.le_refl _,by omega,fun _=>rfl,an.nil_ _ _ _⟩)
  go_wp2_with (first|(refine bu 61 (.tmp 5) rfl rfl _ _ rfl hld ?_)|(refine aI 61 (.tmp 8) (.tmp 108) rfl rfl _ _ rfl rfl hst ?_)|fail)
  exact bodyPost_ret (bT (fn:=Tryz.f51) (t:=8) (u1:=9) (u2:=10) (u3:=11) (T:=61) rfl _ W5 _ _ _ rfl hld2) rfl ⟨_,⟨by rw[HX.out];rfl,B5.out⟩,IN.out.below (B5.out.mono hBw)⟩
 ·have IN:=aa (show cD w B (.slice (some ⟨bI,oI+1,none⟩) j (k-1)) r from⟨_,_,_,rfl,hrk,by omega,by omega,(fun e=>by cases e),fun i u hu=>by
   obtain⟨b',off',e,hb',hc'⟩:=HS.out (i+1) u (by unfold dM at hu⊢;simpa using hu)
   injection e with e
   injection e with e1 e2
   subst e1 e2
   exact⟨bI,oI+1,rfl,hb',by rw[show oI+1+i=oI+(i+1) by omega];exact hc'⟩⟩)
  go_wp2_with (first|(refine bu 61 (.tmp 5) rfl rfl _ _ rfl hld ?_)|(refine aI 61 (.tmp 8) (.tmp 108) rfl rfl _ _ rfl rfl hst ?_)|fail)
  exact bodyPost_ret (bT (fn:=Tryz.f51) (t:=8) (u1:=9) (u2:=10) (u3:=11) (T:=61) rfl _ W5 _ _ _ rfl hld2) rfl ⟨_,⟨by rw[HX.out];rfl,B5.out⟩,IN.out.below (B5.out.mono hBw)⟩
end Go.Proofs.YtjbgepjdohfhkaaGreat
