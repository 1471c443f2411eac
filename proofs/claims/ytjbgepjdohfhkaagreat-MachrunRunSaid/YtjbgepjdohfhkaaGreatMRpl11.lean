/- The reference's Plain at Pair (chapter 8). Conditions: those of the types; the registers named are registers. -/
import Derived.Test.YtjbgepjdohfhkaaGreatMNcd
set_option linter.unusedVariables false
set_option linter.unusedSimpArgs false
set_option maxRecDepth 100000
set_option maxHeartbeats 4000000
namespace Go.Proofs.YtjbgepjdohfhkaaGreat
open Go.RowKit
theorem vZ (a b c:Nat) (R:List Nat) (Ai At:Option Addr) (ni ci nt ct:Nat) (w:World) (ha:a<8) (hb:b<8) (hc:c<8) (hR:R.length=8) :
  Calls Tryz.prog 51 #[iv 11 (a:Int) (b:Int) (c:Int) 0,.agg (ah R).toArray,.slice Ai ni ci,.slice At nt ct] w (il (R.set a (eS (R.getD b 0) (R.getD c 0))) (.slice Ai ni ci) (.slice At nt ct) false w):=by
 obtain⟨W1,hW1,hB⟩:=PlB.new w ⟨11,(a:Int),(b:Int),(c:Int),0⟩ R
 have HB:=aa hB
 have HW1:=aa (show((w.alloc (.cells #[.int .i64 11,.int .i64 (a:Int),.int .i64 (b:Int),.int .i64 (c:Int),.int .u64 0] 50)).alloc (.cells (ah R).toArray 61)).alloc (.cells #[.int .u64 0,.int .u64 0,.int .u64 0,.int .u64 0,.int .u64 0,.int .u64 0,.int .u64 0,.int .u64 0,.int .u64 0,.int .u64 0,.int .u64 0,.int .u64 0,.int .u64 0,.int .u64 0,.int .u64 0,.int .u64 0] 61)=W1 from hW1)
 have x0:=hB.i.cell (k:=0) rfl
 have x1:=hB.i.cell (k:=1) rfl
 have x2:=hB.i.cell (k:=2) rfl
 have x3:=hB.i.cell (k:=3) rfl
 obtain⟨V0,hV0⟩:∃V,R[a]?=some V:=⟨_,List.getElem?_eq_getElem (by omega)⟩
 obtain⟨X,hX⟩:∃V,R[b]?=some V:=⟨_,List.getElem?_eq_getElem (by omega)⟩
 have gX:R.getD b 0=X:=by rw[List.getD_eq_getElem?_getD,hX];rfl
 obtain⟨Y,hY⟩:∃V,R[c]?=some V:=⟨_,List.getElem?_eq_getElem (by omega)⟩
 have gY:R.getD c 0=Y:=by rw[List.getD_eq_getElem?_getD,hY];rfl
 rw[gX,gY]
 obtain⟨k0,k1⟩:=cE hV0
 obtain⟨k2,k3⟩:=cE hX
 obtain⟨k4,k5⟩:=cE hY
 have y0:=hB.r.cell k0
 have y1:=hB.r.cell k1
 have y2:=hB.r.cell k2
 have y3:=hB.r.cell k3
 have y4:=hB.r.cell k4
 have y5:=hB.r.cell k5
 have hc0:(0:Int)<=(c:Int):=by omega
 have hc1:(c:Int)<8:=by omega
 have f0:=hB.r.free (a*2)
 have f1:=hB.r.free (a*2+1)
 have ha0:(0:Int)<=(a:Int):=by omega
 have ha1:(a:Int)<8:=by omega
 have hb0:(0:Int)<=(b:Int):=by omega
 have hb1:(b:Int)<8:=by omega
 obtain⟨Z,hZ⟩:∃Z,eS X Y=Z:=⟨_,rfl⟩
 have cr:=fun W=>tj X Y W
 rw[hZ] at cr⊢
 have K0:=aa k0
 have K1:=aa k1
 have hR2:(R.set a Z).length=8:=by rw[List.length_set,hR]
 have haR:a<R.length:=by omega
 clear hB hW1 hV0 hX gX hY gY k0 k1 k2 k3 k4 k5 hZ
 go_enter Tryz.func51,Tryz.ntmps51
 go_upto_region 1 with(fail)
 rw[HW1.out]
 clear HW1
 go_upto_region 11 with(fail)
 go_region_law (go_simp;go_at_call 77;refine(cr _).mono ?_;rintro e w5 ⟨rfl,hb5⟩;have HB5:=aa (HB.out.drew.call hb5);have u1:=HB5.out.i.cell (k:=1) rfl;have g0:=HB5.out.r.free (a*2);have g1:=HB5.out.r.free (a*2+1);have v0:=HB5.out.r.cell K0.out;have v1:=HB5.out.r.cell K1.out;clear hb5)
 all_goals
  obtain⟨W4,hW4⟩:∃W2,(w5.setCell ⟨w.heap.size+1,a*2,none⟩ (.int .u64 (lo Z))).setCell ⟨w.heap.size+1,a*2+1,none⟩ (.int .u64 (hi Z))=W2:=⟨_,rfl⟩
  have HB4:=aa (show PlB w W4 ⟨11,(a:Int),(b:Int),(c:Int),0⟩ (R.set a Z) by rw[<-hW4];exact HB5.out.set (i:=a) haR Z)
  rw[hW4]
  clear hW4 g0 g1 u1 v0 v1 x0 x1 x2 x3 y0 y1 y2 y3 y4 y5 f0 f1 cr
  have hld:=bG (cN (w:=W4)) (aX (w:=W4)) (ba hR2) HB4.out.r
  have hst:=cL (vs:=ah (R.set a Z)) (aX (w:=W4)) (ba hR2) dt (bk _) HB4.out.o
  have R5:=aa (bd (vs:=ah (R.set a Z)) HB4.out.o)
  have B5:=aa (show Below w.heap.size w (W4.setRow (w.heap.size+1+1) (ah (R.set a Z)).toArray) from HB4.out.b.grown (aU W4 _ _) HB4.out.b.size (fun k hk=>by injection hk with hk;omega))
  generalize W4.setRow (w.heap.size+1+1) (ah (R.set a Z)).toArray=W5 at hst R5 B5
  have hld2:=bG (cN (w:=W5)) (aX (w:=W5)) (ba hR2) R5.out
  generalize hX:(ah (R.set a Z)).toArray=X at hld hst hld2
  have HX:=aa hX
  clear hX
  go_wp2_with (first|(refine bu 61 (.tmp 5) rfl rfl _ _ rfl hld ?_)|(refine aI 61 (.tmp 8) (.tmp 108) rfl rfl _ _ rfl rfl hst ?_)|fail)
  exact bodyPost_ret (bT (fn:=Tryz.f51) (t:=8) (u1:=9) (u2:=10) (u3:=11) (T:=61) rfl _ W5 _ _ _ rfl hld2) rfl ⟨by rw[HX.out];rfl,B5.out⟩
end Go.Proofs.YtjbgepjdohfhkaaGreat
