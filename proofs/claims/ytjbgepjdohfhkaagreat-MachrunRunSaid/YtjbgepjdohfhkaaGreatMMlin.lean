/- The contract of the reference's Instr (chapter 26): an instruction lowered. Conditions: the slots, arguments and parameters that it names are there. -/
import Derived.Test.YtjbgepjdohfhkaaGreatMEpow
import Derived.StillTailTactics
set_option linter.unusedVariables false
set_option linter.unusedSimpArgs false
set_option maxRecDepth 100000
set_option maxHeartbeats 4000000
namespace Go.Proofs.YtjbgepjdohfhkaaGreat
open Go.RowKit
def cU (os:List Int) (sl:List (Int×Int)) (S:Int) (x:Ins):Ins:=
 if x.op=15 then⟨15,x.a,os.getD x.b.toNat 0,bU sl x.b,0⟩
 else if x.op=16 then⟨16,os.getD x.a.toNat 0,x.b,bU sl x.a,0⟩
 else if x.op=17 then⟨17,os.getD x.a.toNat 0,os.getD x.b.toNat 0,bU sl x.a,0⟩
 else if x.op=18 then⟨16,16*x.a,x.b,16,0⟩
 else if x.op=19 then⟨15,x.a,S+16*x.b,16,0⟩
 else x
def iN (k:Nat) (x:Ins):Prop:=(x.op=15->0<=x.b/\x.b<k)/\(x.op=16->0<=x.a/\x.a<k)/\(x.op=17->(0<=x.a/\x.a<k)/\0<=x.b/\x.b<k)/\(x.op=18->0<=x.a/\x.a<=7)/\(x.op=19->0<=x.b/\x.b<=8)
theorem om {os:List Int} {k:Nat} (h:k<os.length):os.getD ((k:Int)).toNat 0=os[k]:=by rw[Int.toNat_natCast,List.getD_eq_getElem?_getD,List.getElem?_eq_getElem h];rfl
theorem lj {sl:List (Int×Int)} {k:Nat} (h:k<sl.length):bU sl (k:Int)=(sl[k]).1:=by unfold bU;rw[Int.toNat_natCast,List.getD_eq_getElem?_getD,List.getElem?_eq_getElem h];rfl
theorem Ae (P:Int) (A1:Option Addr) (n1 c1:Nat) (A2:Option Addr) (n2 c2:Nat) (Ar S:Int) (Ao:Option Addr) (co:Nat) (a b d m:Int) (sl:List (Int×Int)) (os:List Int) (B:Nat) (w:World) (hB:B<=w.heap.size)
    (hsl:Hid (sl.length=n1/\an w B A1 (bm sl))) (hos:Hid (os.length=n1/\an w B Ao (bQ os))) (hS:0<=S/\S<=268435456) (hx:Hid (iN n1 ⟨15,a,b,d,m⟩)) :
    Calls Tryz.prog 58 #[fv P A1 n1 c1 A2 n2 c2,mv Ar S Ao n1 co,iv 15 a b d m] w fun e w'=>(∀y,cU os sl S ⟨15,a,b,d,m⟩=y->e=.returned (iv y.op y.a y.b y.c y.imm))/\Below w.heap.size w w':=by
  obtain⟨b0,b1⟩:=hx.out.1 rfl
  simp only at b0 b1
  obtain⟨b,rfl⟩:=Int.eq_ofNat_of_zero_le b0
  obtain⟨W,hW,hbW,hsW,r0,r1,r2,r3⟩:=kc w [.int .i64 P,.slice A1 n1 c1,.slice A2 n2 c2] [.int .i64 Ar,.int .i64 S,.slice Ao n1 co] [.int .i64 15,.int .i64 a,.int .i64 (b:Int),.int .i64 d,.int .u64 m] [.int .i64 0,.int .i64 0,.int .i64 0,.int .i64 0,.int .u64 0] 98 102 50 50
  have HW:=aa hW
  have HB:=aa hbW
  have R3:=aa r3
  have f1:=r0.cell (k:=1) rfl
  have l1:=r1.cell (k:=1) rfl
  have l2:=r1.cell (k:=2) rfl
  have x0:=r2.cell (k:=0) rfl
  have x1:=r2.cell (k:=1) rfl
  have x2:=r2.cell (k:=2) rfl
  have x3:=r2.cell (k:=3) rfl
  have x4:=r2.cell (k:=4) rfl
  have z0:=r3.cell (k:=0) rfl
  have y0:=r3.free 0
  have z1:=r3.cell (k:=1) rfl
  have y1:=r3.free 1
  have z2:=r3.cell (k:=2) rfl
  have y2:=r3.free 2
  have z3:=r3.cell (k:=3) rfl
  have y3:=r3.free 3
  have z4:=r3.cell (k:=4) rfl
  have y4:=r3.free 4
  clear hW r0 r1 r2 r3
  have hlb:b<sl.length:=by have:=hsl.out.1;omega
  have hob:b<os.length:=by have:=hos.out.1;omega
  obtain⟨gb,qb,hAb,hgb,sb,-⟩:=fo hsl.out.2 hlb
  obtain⟨hb,pb,hOb,hhb,vb⟩:=j9 hos.out.2 hob
  have OSb:=aa (om hob)
  have SZb:=aa (lj hlb)
  obtain⟨szb,hszb⟩:∃z,(sl[b]'hlb).1=z:=⟨_,rfl⟩
  obtain⟨ofb,hofb⟩:∃z,os[b]'hob=z:=⟨_,rfl⟩
  rw[hszb] at sb SZb
  rw[hofb] at vb OSb
  have kb0:(0:Int)<=(b:Int):=by omega
  have kb1:(b:Int)<(n1:Int):=by omega
  clear hszb hofb
  subst hAb hOb
  have sb:=(hbW.cell (p:=⟨gb,qb+b*2,none⟩) (show gb<w.heap.size by omega)).trans sb
  have vb:=(hbW.cell (p:=⟨hb,pb+b,none⟩) (show hb<w.heap.size by omega)).trans vb
  clear hbW hsW
  go_enter Tryz.func58,Tryz.ntmps58
  go_upto_region 1 with(fail)
  rw[HW.out]
  clear HW
  go_upto_region 3 with(fail)
  go_still_tail 16,(by kernel_rfl)
  change wpList _ _ _ _ _ W.drew
  go_wp2_with fail
  obtain⟨W9,hW9⟩:∃V,(((((W.setCell ⟨w.heap.size+1+1+1,0,none⟩ (.int .i64 15)).setCell ⟨w.heap.size+1+1+1,1,none⟩ (.int .i64 (a))).setCell ⟨w.heap.size+1+1+1,2,none⟩ (.int .i64 (ofb))).setCell ⟨w.heap.size+1+1+1,3,none⟩ (.int .i64 (szb))).setCell ⟨w.heap.size+1+1+1,4,none⟩ (.int .u64 (0))).drew=V:=⟨_,rfl⟩
  have R9:Row W9 (w.heap.size+1+1+1) 50 [.int .i64 15,.int .i64 (a),.int .i64 (ofb),.int .i64 (szb),.int .u64 (0)]:=by rw[<-hW9];exact Row.drew ((((((R3.out).set_ 0 _).set_ 1 _).set_ 2 _).set_ 3 _).set_ 4 _)
  have B9:Below w.heap.size w W9:=by
    rw[<-hW9]
    exact Below.drew ((((((HB.out).setCell (p:=⟨w.heap.size+1+1+1,0,none⟩) (by simp;omega) _).setCell (p:=⟨w.heap.size+1+1+1,1,none⟩) (by simp;omega) _).setCell (p:=⟨w.heap.size+1+1+1,2,none⟩) (by simp;omega) _).setCell (p:=⟨w.heap.size+1+1+1,3,none⟩) (by simp;omega) _).setCell (p:=⟨w.heap.size+1+1+1,4,none⟩) (by simp;omega) _)
  rw[hW9]
  have k0:=R9.cell (k:=0) rfl
  have k1:=R9.cell (k:=1) rfl
  have k2:=R9.cell (k:=2) rfl
  have k3:=R9.cell (k:=3) rfl
  have k4:=R9.cell (k:=4) rfl
  refine bodyPost_ret (v:=iv 15 (a) (ofb) (szb) (0)) (by simp[results,Tryz.results58,go_sem,k0,k1,k2,k3,k4]) rfl ?_
  first
    | (refine⟨fun y hy=>?_,B9⟩
       subst hy
       unfold cU
       simp only[if_true]
       rw[OSb.out,SZb.out])
    | (refine⟨?_,B9⟩
       unfold cU
       simp only[if_true]
       rw[OSb.out,SZb.out])
theorem z8 (P:Int) (A1:Option Addr) (n1 c1:Nat) (A2:Option Addr) (n2 c2:Nat) (Ar S:Int) (Ao:Option Addr) (co:Nat) (a b d m:Int) (sl:List (Int×Int)) (os:List Int) (B:Nat) (w:World) (hB:B<=w.heap.size)
    (hsl:Hid (sl.length=n1/\an w B A1 (bm sl))) (hos:Hid (os.length=n1/\an w B Ao (bQ os))) (hS:0<=S/\S<=268435456) (hx:Hid (iN n1 ⟨16,a,b,d,m⟩)) :
    Calls Tryz.prog 58 #[fv P A1 n1 c1 A2 n2 c2,mv Ar S Ao n1 co,iv 16 a b d m] w fun e w'=>(∀y,cU os sl S ⟨16,a,b,d,m⟩=y->e=.returned (iv y.op y.a y.b y.c y.imm))/\Below w.heap.size w w':=by
  obtain⟨a0,a1⟩:=hx.out.2.1 rfl
  simp only at a0 a1
  obtain⟨a,rfl⟩:=Int.eq_ofNat_of_zero_le a0
  obtain⟨W,hW,hbW,hsW,r0,r1,r2,r3⟩:=kc w [.int .i64 P,.slice A1 n1 c1,.slice A2 n2 c2] [.int .i64 Ar,.int .i64 S,.slice Ao n1 co] [.int .i64 16,.int .i64 (a:Int),.int .i64 b,.int .i64 d,.int .u64 m] [.int .i64 0,.int .i64 0,.int .i64 0,.int .i64 0,.int .u64 0] 98 102 50 50
  have HW:=aa hW
  have HB:=aa hbW
  have R3:=aa r3
  have f1:=r0.cell (k:=1) rfl
  have l1:=r1.cell (k:=1) rfl
  have l2:=r1.cell (k:=2) rfl
  have x0:=r2.cell (k:=0) rfl
  have x1:=r2.cell (k:=1) rfl
  have x2:=r2.cell (k:=2) rfl
  have x3:=r2.cell (k:=3) rfl
  have x4:=r2.cell (k:=4) rfl
  have z0:=r3.cell (k:=0) rfl
  have y0:=r3.free 0
  have z1:=r3.cell (k:=1) rfl
  have y1:=r3.free 1
  have z2:=r3.cell (k:=2) rfl
  have y2:=r3.free 2
  have z3:=r3.cell (k:=3) rfl
  have y3:=r3.free 3
  have z4:=r3.cell (k:=4) rfl
  have y4:=r3.free 4
  clear hW r0 r1 r2 r3
  have hla:a<sl.length:=by have:=hsl.out.1;omega
  have hoa:a<os.length:=by have:=hos.out.1;omega
  obtain⟨ga,qa,hAa,hga,sa,-⟩:=fo hsl.out.2 hla
  obtain⟨ha,pa,hOa,hha,va⟩:=j9 hos.out.2 hoa
  have OSa:=aa (om hoa)
  have SZa:=aa (lj hla)
  obtain⟨sza,hsza⟩:∃z,(sl[a]'hla).1=z:=⟨_,rfl⟩
  obtain⟨ofa,hofa⟩:∃z,os[a]'hoa=z:=⟨_,rfl⟩
  rw[hsza] at sa SZa
  rw[hofa] at va OSa
  have ka0:(0:Int)<=(a:Int):=by omega
  have ka1:(a:Int)<(n1:Int):=by omega
  clear hsza hofa
  subst hAa hOa
  have sa:=(hbW.cell (p:=⟨ga,qa+a*2,none⟩) (show ga<w.heap.size by omega)).trans sa
  have va:=(hbW.cell (p:=⟨ha,pa+a,none⟩) (show ha<w.heap.size by omega)).trans va
  clear hbW hsW
  go_enter Tryz.func58,Tryz.ntmps58
  go_upto_region 1 with(fail)
  rw[HW.out]
  clear HW
  go_upto_region 5 with(fail)
  go_still_tail 16,(by kernel_rfl)
  change wpList _ _ _ _ _ W.drew
  go_wp2_with fail
  obtain⟨W9,hW9⟩:∃V,(((((W.setCell ⟨w.heap.size+1+1+1,0,none⟩ (.int .i64 16)).setCell ⟨w.heap.size+1+1+1,1,none⟩ (.int .i64 (ofa))).setCell ⟨w.heap.size+1+1+1,2,none⟩ (.int .i64 (b))).setCell ⟨w.heap.size+1+1+1,3,none⟩ (.int .i64 (sza))).setCell ⟨w.heap.size+1+1+1,4,none⟩ (.int .u64 (0))).drew=V:=⟨_,rfl⟩
  have R9:Row W9 (w.heap.size+1+1+1) 50 [.int .i64 16,.int .i64 (ofa),.int .i64 (b),.int .i64 (sza),.int .u64 (0)]:=by rw[<-hW9];exact Row.drew ((((((R3.out).set_ 0 _).set_ 1 _).set_ 2 _).set_ 3 _).set_ 4 _)
  have B9:Below w.heap.size w W9:=by
    rw[<-hW9]
    exact Below.drew ((((((HB.out).setCell (p:=⟨w.heap.size+1+1+1,0,none⟩) (by simp;omega) _).setCell (p:=⟨w.heap.size+1+1+1,1,none⟩) (by simp;omega) _).setCell (p:=⟨w.heap.size+1+1+1,2,none⟩) (by simp;omega) _).setCell (p:=⟨w.heap.size+1+1+1,3,none⟩) (by simp;omega) _).setCell (p:=⟨w.heap.size+1+1+1,4,none⟩) (by simp;omega) _)
  rw[hW9]
  have k0:=R9.cell (k:=0) rfl
  have k1:=R9.cell (k:=1) rfl
  have k2:=R9.cell (k:=2) rfl
  have k3:=R9.cell (k:=3) rfl
  have k4:=R9.cell (k:=4) rfl
  refine bodyPost_ret (v:=iv 16 (ofa) (b) (sza) (0)) (by simp[results,Tryz.results58,go_sem,k0,k1,k2,k3,k4]) rfl ?_
  first
    | (refine⟨fun y hy=>?_,B9⟩
       subst hy
       unfold cU
       simp only[show¬(16:Int)=15 by decide,if_true,if_false]
       rw[OSa.out,SZa.out])
    | (refine⟨?_,B9⟩
       unfold cU
       simp only[show¬(16:Int)=15 by decide,if_true,if_false]
       rw[OSa.out,SZa.out])
theorem Ad (P:Int) (A1:Option Addr) (n1 c1:Nat) (A2:Option Addr) (n2 c2:Nat) (Ar S:Int) (Ao:Option Addr) (co:Nat) (a b d m:Int) (sl:List (Int×Int)) (os:List Int) (B:Nat) (w:World) (hB:B<=w.heap.size)
    (hsl:Hid (sl.length=n1/\an w B A1 (bm sl))) (hos:Hid (os.length=n1/\an w B Ao (bQ os))) (hS:0<=S/\S<=268435456) (hx:Hid (iN n1 ⟨17,a,b,d,m⟩)) :
    Calls Tryz.prog 58 #[fv P A1 n1 c1 A2 n2 c2,mv Ar S Ao n1 co,iv 17 a b d m] w fun e w'=>(∀y,cU os sl S ⟨17,a,b,d,m⟩=y->e=.returned (iv y.op y.a y.b y.c y.imm))/\Below w.heap.size w w':=by
  obtain⟨⟨a0,a1⟩,b0,b1⟩:=hx.out.2.2.1 rfl
  simp only at a0 a1 b0 b1
  obtain⟨a,rfl⟩:=Int.eq_ofNat_of_zero_le a0
  obtain⟨b,rfl⟩:=Int.eq_ofNat_of_zero_le b0
  obtain⟨W,hW,hbW,hsW,r0,r1,r2,r3⟩:=kc w [.int .i64 P,.slice A1 n1 c1,.slice A2 n2 c2] [.int .i64 Ar,.int .i64 S,.slice Ao n1 co] [.int .i64 17,.int .i64 (a:Int),.int .i64 (b:Int),.int .i64 d,.int .u64 m] [.int .i64 0,.int .i64 0,.int .i64 0,.int .i64 0,.int .u64 0] 98 102 50 50
  have HW:=aa hW
  have HB:=aa hbW
  have R3:=aa r3
  have f1:=r0.cell (k:=1) rfl
  have l1:=r1.cell (k:=1) rfl
  have l2:=r1.cell (k:=2) rfl
  have x0:=r2.cell (k:=0) rfl
  have x1:=r2.cell (k:=1) rfl
  have x2:=r2.cell (k:=2) rfl
  have x3:=r2.cell (k:=3) rfl
  have x4:=r2.cell (k:=4) rfl
  have z0:=r3.cell (k:=0) rfl
  have y0:=r3.free 0
  have z1:=r3.cell (k:=1) rfl
  have y1:=r3.free 1
  have z2:=r3.cell (k:=2) rfl
  have y2:=r3.free 2
  have z3:=r3.cell (k:=3) rfl
  have y3:=r3.free 3
  have z4:=r3.cell (k:=4) rfl
  have y4:=r3.free 4
  clear hW r0 r1 r2 r3
  have hla:a<sl.length:=by have:=hsl.out.1;omega
  have hoa:a<os.length:=by have:=hos.out.1;omega
  obtain⟨ga,qa,hAa,hga,sa,-⟩:=fo hsl.out.2 hla
  obtain⟨ha,pa,hOa,hha,va⟩:=j9 hos.out.2 hoa
  have OSa:=aa (om hoa)
  have SZa:=aa (lj hla)
  obtain⟨sza,hsza⟩:∃z,(sl[a]'hla).1=z:=⟨_,rfl⟩
  obtain⟨ofa,hofa⟩:∃z,os[a]'hoa=z:=⟨_,rfl⟩
  rw[hsza] at sa SZa
  rw[hofa] at va OSa
  have ka0:(0:Int)<=(a:Int):=by omega
  have ka1:(a:Int)<(n1:Int):=by omega
  clear hsza hofa
  have hlb:b<sl.length:=by have:=hsl.out.1;omega
  have hob:b<os.length:=by have:=hos.out.1;omega
  obtain⟨gb,qb,hAb,hgb,sb,-⟩:=fo hsl.out.2 hlb
  obtain⟨hb,pb,hOb,hhb,vb⟩:=j9 hos.out.2 hob
  have OSb:=aa (om hob)
  have SZb:=aa (lj hlb)
  obtain⟨szb,hszb⟩:∃z,(sl[b]'hlb).1=z:=⟨_,rfl⟩
  obtain⟨ofb,hofb⟩:∃z,os[b]'hob=z:=⟨_,rfl⟩
  rw[hszb] at sb SZb
  rw[hofb] at vb OSb
  have kb0:(0:Int)<=(b:Int):=by omega
  have kb1:(b:Int)<(n1:Int):=by omega
  clear hszb hofb
  subst hAa hOa
  injection hAb with hAb
  injection hAb with e1 e2
  subst e1 e2
  injection hOb with hOb
  injection hOb with e1 e2
  subst e1 e2
  have sa:=(hbW.cell (p:=⟨ga,qa+a*2,none⟩) (show ga<w.heap.size by omega)).trans sa
  have va:=(hbW.cell (p:=⟨ha,pa+a,none⟩) (show ha<w.heap.size by omega)).trans va
  have sb:=(hbW.cell (p:=⟨ga,qa+b*2,none⟩) (show ga<w.heap.size by omega)).trans sb
  have vb:=(hbW.cell (p:=⟨ha,pa+b,none⟩) (show ha<w.heap.size by omega)).trans vb
  clear hbW hsW
  go_enter Tryz.func58,Tryz.ntmps58
  go_upto_region 1 with(fail)
  rw[HW.out]
  clear HW
  go_upto_region 7 with(fail)
  go_still_tail 20,(by kernel_rfl)
  change wpList _ _ _ _ _ W.drew
  go_wp2_with fail
  obtain⟨W9,hW9⟩:∃V,(((((W.setCell ⟨w.heap.size+1+1+1,0,none⟩ (.int .i64 17)).setCell ⟨w.heap.size+1+1+1,1,none⟩ (.int .i64 (ofa))).setCell ⟨w.heap.size+1+1+1,2,none⟩ (.int .i64 (ofb))).setCell ⟨w.heap.size+1+1+1,3,none⟩ (.int .i64 (sza))).setCell ⟨w.heap.size+1+1+1,4,none⟩ (.int .u64 (0))).drew=V:=⟨_,rfl⟩
  have R9:Row W9 (w.heap.size+1+1+1) 50 [.int .i64 17,.int .i64 (ofa),.int .i64 (ofb),.int .i64 (sza),.int .u64 (0)]:=by rw[<-hW9];exact Row.drew ((((((R3.out).set_ 0 _).set_ 1 _).set_ 2 _).set_ 3 _).set_ 4 _)
  have B9:Below w.heap.size w W9:=by
    rw[<-hW9]
    exact Below.drew ((((((HB.out).setCell (p:=⟨w.heap.size+1+1+1,0,none⟩) (by simp;omega) _).setCell (p:=⟨w.heap.size+1+1+1,1,none⟩) (by simp;omega) _).setCell (p:=⟨w.heap.size+1+1+1,2,none⟩) (by simp;omega) _).setCell (p:=⟨w.heap.size+1+1+1,3,none⟩) (by simp;omega) _).setCell (p:=⟨w.heap.size+1+1+1,4,none⟩) (by simp;omega) _)
  rw[hW9]
  have k0:=R9.cell (k:=0) rfl
  have k1:=R9.cell (k:=1) rfl
  have k2:=R9.cell (k:=2) rfl
  have k3:=R9.cell (k:=3) rfl
  have k4:=R9.cell (k:=4) rfl
  refine bodyPost_ret (v:=iv 17 (ofa) (ofb) (sza) (0)) (by simp[results,Tryz.results58,go_sem,k0,k1,k2,k3,k4]) rfl ?_
  first
    | (refine⟨fun y hy=>?_,B9⟩
       subst hy
       unfold cU
       simp only[show¬(17:Int)=15 by decide,show¬(17:Int)=16 by decide,if_true,if_false]
       rw[OSa.out,OSb.out,SZa.out])
    | (refine⟨?_,B9⟩
       unfold cU
       simp only[show¬(17:Int)=15 by decide,show¬(17:Int)=16 by decide,if_true,if_false]
       rw[OSa.out,OSb.out,SZa.out])
theorem Aj (P:Int) (A1:Option Addr) (n1 c1:Nat) (A2:Option Addr) (n2 c2:Nat) (Ar S:Int) (Ao:Option Addr) (co:Nat) (a b d m:Int) (sl:List (Int×Int)) (os:List Int) (B:Nat) (w:World) (hB:B<=w.heap.size)
    (hsl:Hid (sl.length=n1/\an w B A1 (bm sl))) (hos:Hid (os.length=n1/\an w B Ao (bQ os))) (hS:0<=S/\S<=268435456) (hx:Hid (iN n1 ⟨18,a,b,d,m⟩)) :
    Calls Tryz.prog 58 #[fv P A1 n1 c1 A2 n2 c2,mv Ar S Ao n1 co,iv 18 a b d m] w fun e w'=>(∀y,cU os sl S ⟨18,a,b,d,m⟩=y->e=.returned (iv y.op y.a y.b y.c y.imm))/\Below w.heap.size w w':=by
  obtain⟨a0,a1⟩:=hx.out.2.2.2.1 rfl
  simp only at a0 a1
  have e16:IntKind.i64.wrap (16*a)=16*a:=wrap_i64 _ (by omega) (by omega)
  obtain⟨W,hW,hbW,hsW,r0,r1,r2,r3⟩:=kc w [.int .i64 P,.slice A1 n1 c1,.slice A2 n2 c2] [.int .i64 Ar,.int .i64 S,.slice Ao n1 co] [.int .i64 18,.int .i64 a,.int .i64 b,.int .i64 d,.int .u64 m] [.int .i64 0,.int .i64 0,.int .i64 0,.int .i64 0,.int .u64 0] 98 102 50 50
  have HW:=aa hW
  have HB:=aa hbW
  have R3:=aa r3
  have f1:=r0.cell (k:=1) rfl
  have l1:=r1.cell (k:=1) rfl
  have l2:=r1.cell (k:=2) rfl
  have x0:=r2.cell (k:=0) rfl
  have x1:=r2.cell (k:=1) rfl
  have x2:=r2.cell (k:=2) rfl
  have x3:=r2.cell (k:=3) rfl
  have x4:=r2.cell (k:=4) rfl
  have z0:=r3.cell (k:=0) rfl
  have y0:=r3.free 0
  have z1:=r3.cell (k:=1) rfl
  have y1:=r3.free 1
  have z2:=r3.cell (k:=2) rfl
  have y2:=r3.free 2
  have z3:=r3.cell (k:=3) rfl
  have y3:=r3.free 3
  have z4:=r3.cell (k:=4) rfl
  have y4:=r3.free 4
  clear hW r0 r1 r2 r3
  clear hbW hsW
  go_enter Tryz.func58,Tryz.ntmps58
  go_upto_region 1 with(fail)
  rw[HW.out]
  clear HW
  go_wp2_with fail
  obtain⟨W9,hW9⟩:∃V,((((W.setCell ⟨w.heap.size+1+1+1,0,none⟩ (.int .i64 16)).setCell ⟨w.heap.size+1+1+1,1,none⟩ (.int .i64 (16*a))).setCell ⟨w.heap.size+1+1+1,2,none⟩ (.int .i64 (b))).setCell ⟨w.heap.size+1+1+1,3,none⟩ (.int .i64 (16))).setCell ⟨w.heap.size+1+1+1,4,none⟩ (.int .u64 (0))=V:=⟨_,rfl⟩
  have R9:Row W9 (w.heap.size+1+1+1) 50 [.int .i64 16,.int .i64 (16*a),.int .i64 (b),.int .i64 (16),.int .u64 (0)]:=by rw[<-hW9];exact((((((R3.out).set_ 0 _).set_ 1 _).set_ 2 _).set_ 3 _).set_ 4 _)
  have B9:Below w.heap.size w W9:=by
    rw[<-hW9]
    exact((((((HB.out).setCell (p:=⟨w.heap.size+1+1+1,0,none⟩) (by simp;omega) _).setCell (p:=⟨w.heap.size+1+1+1,1,none⟩) (by simp;omega) _).setCell (p:=⟨w.heap.size+1+1+1,2,none⟩) (by simp;omega) _).setCell (p:=⟨w.heap.size+1+1+1,3,none⟩) (by simp;omega) _).setCell (p:=⟨w.heap.size+1+1+1,4,none⟩) (by simp;omega) _)
  rw[hW9]
  have k0:=R9.cell (k:=0) rfl
  have k1:=R9.cell (k:=1) rfl
  have k2:=R9.cell (k:=2) rfl
  have k3:=R9.cell (k:=3) rfl
  have k4:=R9.cell (k:=4) rfl
  refine bodyPost_ret (v:=iv 16 (16*a) (b) (16) (0)) (by simp[results,Tryz.results58,go_sem,k0,k1,k2,k3,k4]) rfl ?_
  first
    | (refine⟨fun y hy=>?_,B9⟩
       subst hy
       rfl)
    | (refine⟨?_,B9⟩
       rfl)
theorem z9 (P:Int) (A1:Option Addr) (n1 c1:Nat) (A2:Option Addr) (n2 c2:Nat) (Ar S:Int) (Ao:Option Addr) (co:Nat) (a b d m:Int) (sl:List (Int×Int)) (os:List Int) (B:Nat) (w:World) (hB:B<=w.heap.size)
    (hsl:Hid (sl.length=n1/\an w B A1 (bm sl))) (hos:Hid (os.length=n1/\an w B Ao (bQ os))) (hS:0<=S/\S<=268435456) (hx:Hid (iN n1 ⟨19,a,b,d,m⟩)) :
    Calls Tryz.prog 58 #[fv P A1 n1 c1 A2 n2 c2,mv Ar S Ao n1 co,iv 19 a b d m] w fun e w'=>(∀y,cU os sl S ⟨19,a,b,d,m⟩=y->e=.returned (iv y.op y.a y.b y.c y.imm))/\Below w.heap.size w w':=by
  obtain⟨b0,b1⟩:=hx.out.2.2.2.2 rfl
  simp only at b0 b1
  obtain⟨S0,S1⟩:=hS
  have e16:IntKind.i64.wrap (16*b)=16*b:=wrap_i64 _ (by omega) (by omega)
  have e17:IntKind.i64.wrap (S+16*b)=S+16*b:=wrap_i64 _ (by omega) (by omega)
  obtain⟨W,hW,hbW,hsW,r0,r1,r2,r3⟩:=kc w [.int .i64 P,.slice A1 n1 c1,.slice A2 n2 c2] [.int .i64 Ar,.int .i64 S,.slice Ao n1 co] [.int .i64 19,.int .i64 a,.int .i64 b,.int .i64 d,.int .u64 m] [.int .i64 0,.int .i64 0,.int .i64 0,.int .i64 0,.int .u64 0] 98 102 50 50
  have HW:=aa hW
  have HB:=aa hbW
  have R3:=aa r3
  have f1:=r0.cell (k:=1) rfl
  have l1:=r1.cell (k:=1) rfl
  have l2:=r1.cell (k:=2) rfl
  have x0:=r2.cell (k:=0) rfl
  have x1:=r2.cell (k:=1) rfl
  have x2:=r2.cell (k:=2) rfl
  have x3:=r2.cell (k:=3) rfl
  have x4:=r2.cell (k:=4) rfl
  have z0:=r3.cell (k:=0) rfl
  have y0:=r3.free 0
  have z1:=r3.cell (k:=1) rfl
  have y1:=r3.free 1
  have z2:=r3.cell (k:=2) rfl
  have y2:=r3.free 2
  have z3:=r3.cell (k:=3) rfl
  have y3:=r3.free 3
  have z4:=r3.cell (k:=4) rfl
  have y4:=r3.free 4
  clear hW r0 r1 r2 r3
  clear hbW hsW
  go_enter Tryz.func58,Tryz.ntmps58
  go_upto_region 1 with(fail)
  rw[HW.out]
  clear HW
  go_wp2_with fail
  obtain⟨W9,hW9⟩:∃V,((((W.setCell ⟨w.heap.size+1+1+1,0,none⟩ (.int .i64 15)).setCell ⟨w.heap.size+1+1+1,1,none⟩ (.int .i64 (a))).setCell ⟨w.heap.size+1+1+1,2,none⟩ (.int .i64 (S+16*b))).setCell ⟨w.heap.size+1+1+1,3,none⟩ (.int .i64 (16))).setCell ⟨w.heap.size+1+1+1,4,none⟩ (.int .u64 (0))=V:=⟨_,rfl⟩
  have R9:Row W9 (w.heap.size+1+1+1) 50 [.int .i64 15,.int .i64 (a),.int .i64 (S+16*b),.int .i64 (16),.int .u64 (0)]:=by rw[<-hW9];exact((((((R3.out).set_ 0 _).set_ 1 _).set_ 2 _).set_ 3 _).set_ 4 _)
  have B9:Below w.heap.size w W9:=by
    rw[<-hW9]
    exact((((((HB.out).setCell (p:=⟨w.heap.size+1+1+1,0,none⟩) (by simp;omega) _).setCell (p:=⟨w.heap.size+1+1+1,1,none⟩) (by simp;omega) _).setCell (p:=⟨w.heap.size+1+1+1,2,none⟩) (by simp;omega) _).setCell (p:=⟨w.heap.size+1+1+1,3,none⟩) (by simp;omega) _).setCell (p:=⟨w.heap.size+1+1+1,4,none⟩) (by simp;omega) _)
  rw[hW9]
  have k0:=R9.cell (k:=0) rfl
  have k1:=R9.cell (k:=1) rfl
  have k2:=R9.cell (k:=2) rfl
  have k3:=R9.cell (k:=3) rfl
  have k4:=R9.cell (k:=4) rfl
  refine bodyPost_ret (v:=iv 15 (a) (S+16*b) (16) (0)) (by simp[results,Tryz.results58,go_sem,k0,k1,k2,k3,k4]) rfl ?_
  first
    | (refine⟨fun y hy=>?_,B9⟩
       subst hy
       rfl)
    | (refine⟨?_,B9⟩
       rfl)
theorem Ab (P:Int) (A1:Option Addr) (n1 c1:Nat) (A2:Option Addr) (n2 c2:Nat) (Ar S:Int) (Ao:Option Addr) (co:Nat) (o a b d m:Int) (sl:List (Int×Int)) (os:List Int) (B:Nat) (w:World) (hB:B<=w.heap.size)
    (hsl:Hid (sl.length=n1/\an w B A1 (bm sl))) (hos:Hid (os.length=n1/\an w B Ao (bQ os))) (hS:0<=S/\S<=268435456) (hx:Hid (iN n1 ⟨o,a,b,d,m⟩)) (hno:o≠15/\o≠16/\o≠17/\o≠18/\o≠19) :
    Calls Tryz.prog 58 #[fv P A1 n1 c1 A2 n2 c2,mv Ar S Ao n1 co,iv o a b d m] w fun e w'=>(∀y,cU os sl S ⟨o,a,b,d,m⟩=y->e=.returned (iv y.op y.a y.b y.c y.imm))/\Below w.heap.size w w':=by
  obtain⟨n15,n16,n17,n18,n19⟩:=hno
  have HLX:=aa (show cU os sl S ⟨o,a,b,d,m⟩=⟨o,a,b,d,m⟩ by unfold cU;rw[if_neg n15,if_neg n16,if_neg n17,if_neg n18,if_neg n19])
  have b15:(o==15)=false:=by simpa using n15
  have b16:(o==16)=false:=by simpa using n16
  have b17:(o==17)=false:=by simpa using n17
  have b18:(o==18)=false:=by simpa using n18
  have b19:(o==19)=false:=by simpa using n19
  clear n15 n16 n17 n18 n19
  obtain⟨W,hW,hbW,hsW,r0,r1,r2,r3⟩:=kc w [.int .i64 P,.slice A1 n1 c1,.slice A2 n2 c2] [.int .i64 Ar,.int .i64 S,.slice Ao n1 co] [.int .i64 o,.int .i64 a,.int .i64 b,.int .i64 d,.int .u64 m] [.int .i64 0,.int .i64 0,.int .i64 0,.int .i64 0,.int .u64 0] 98 102 50 50
  have HW:=aa hW
  have HB:=aa hbW
  have R3:=aa r3
  have f1:=r0.cell (k:=1) rfl
  have l1:=r1.cell (k:=1) rfl
  have l2:=r1.cell (k:=2) rfl
  have x0:=r2.cell (k:=0) rfl
  have x1:=r2.cell (k:=1) rfl
  have x2:=r2.cell (k:=2) rfl
  have x3:=r2.cell (k:=3) rfl
  have x4:=r2.cell (k:=4) rfl
  have z0:=r3.cell (k:=0) rfl
  have y0:=r3.free 0
  have z1:=r3.cell (k:=1) rfl
  have y1:=r3.free 1
  have z2:=r3.cell (k:=2) rfl
  have y2:=r3.free 2
  have z3:=r3.cell (k:=3) rfl
  have y3:=r3.free 3
  have z4:=r3.cell (k:=4) rfl
  have y4:=r3.free 4
  clear hW r0 r1 r2 r3
  clear hbW hsW
  go_enter Tryz.func58,Tryz.ntmps58
  go_upto_region 1 with(fail)
  rw[HW.out]
  clear HW
  go_wp2_with fail
  obtain⟨W9,hW9⟩:∃V,((((W.setCell ⟨w.heap.size+1+1+1,0,none⟩ (.int .i64 o)).setCell ⟨w.heap.size+1+1+1,1,none⟩ (.int .i64 (a))).setCell ⟨w.heap.size+1+1+1,2,none⟩ (.int .i64 (b))).setCell ⟨w.heap.size+1+1+1,3,none⟩ (.int .i64 (d))).setCell ⟨w.heap.size+1+1+1,4,none⟩ (.int .u64 (m))=V:=⟨_,rfl⟩
  have R9:Row W9 (w.heap.size+1+1+1) 50 [.int .i64 o,.int .i64 (a),.int .i64 (b),.int .i64 (d),.int .u64 (m)]:=by rw[<-hW9];exact((((((R3.out).set_ 0 _).set_ 1 _).set_ 2 _).set_ 3 _).set_ 4 _)
  have B9:Below w.heap.size w W9:=by
    rw[<-hW9]
    exact((((((HB.out).setCell (p:=⟨w.heap.size+1+1+1,0,none⟩) (by simp;omega) _).setCell (p:=⟨w.heap.size+1+1+1,1,none⟩) (by simp;omega) _).setCell (p:=⟨w.heap.size+1+1+1,2,none⟩) (by simp;omega) _).setCell (p:=⟨w.heap.size+1+1+1,3,none⟩) (by simp;omega) _).setCell (p:=⟨w.heap.size+1+1+1,4,none⟩) (by simp;omega) _)
  rw[hW9]
  have k0:=R9.cell (k:=0) rfl
  have k1:=R9.cell (k:=1) rfl
  have k2:=R9.cell (k:=2) rfl
  have k3:=R9.cell (k:=3) rfl
  have k4:=R9.cell (k:=4) rfl
  refine bodyPost_ret (v:=iv o (a) (b) (d) (m)) (by simp[results,Tryz.results58,go_sem,k0,k1,k2,k3,k4]) rfl ?_
  first
    | (refine⟨fun y hy=>?_,B9⟩
       rw[HLX.out] at hy
       subst hy
       rfl)
    | (refine⟨?_,B9⟩
       rfl)
theorem yI (P:Int) (A1:Option Addr) (n1 c1:Nat) (A2:Option Addr) (n2 c2:Nat) (Ar S:Int) (Ao:Option Addr) (co:Nat) (o a b d m:Int) (sl:List (Int×Int)) (os:List Int) (B:Nat) (w:World) (hB:B<=w.heap.size)
  (hsl:Hid (sl.length=n1/\an w B A1 (bm sl))) (hos:Hid (os.length=n1/\an w B Ao (bQ os))) (hS:0<=S/\S<=268435456) (hx:Hid (iN n1 ⟨o,a,b,d,m⟩)) :
  Calls Tryz.prog 58 #[fv P A1 n1 c1 A2 n2 c2,mv Ar S Ao n1 co,iv o a b d m] w fun e w'=>(∀y,cU os sl S ⟨o,a,b,d,m⟩=y->e=.returned (iv y.op y.a y.b y.c y.imm))/\Below w.heap.size w w':=by
 by_cases h15:o=15
 ·subst h15;exact Ae P A1 n1 c1 A2 n2 c2 Ar S Ao co a b d m sl os B w hB hsl hos hS hx
 ·by_cases h16:o=16
  ·subst h16;exact z8 P A1 n1 c1 A2 n2 c2 Ar S Ao co a b d m sl os B w hB hsl hos hS hx
  ·by_cases h17:o=17
   ·subst h17;exact Ad P A1 n1 c1 A2 n2 c2 Ar S Ao co a b d m sl os B w hB hsl hos hS hx
   ·by_cases h18:o=18
    ·subst h18;exact Aj P A1 n1 c1 A2 n2 c2 Ar S Ao co a b d m sl os B w hB hsl hos hS hx
    ·by_cases h19:o=19
     ·subst h19;exact z9 P A1 n1 c1 A2 n2 c2 Ar S Ao co a b d m sl os B w hB hsl hos hS hx
     ·exact Ab P A1 n1 c1 A2 n2 c2 Ar S Ao co o a b d m sl os B w hB hsl hos hS hx ⟨h15,h16,h17,h18,h19⟩
end Go.Proofs.YtjbgepjdohfhkaaGreat
