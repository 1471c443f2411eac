/- The contracts of the reference's Reads and Writes: what an instruction reads and writes. Conditions: those of the types. -/
import Derived.Test.YtjbgepjdohfhkaaGreatMEpow
set_option linter.unusedVariables false
set_option linter.unusedSimpArgs false
set_option maxHeartbeats 2000000
namespace Go.Proofs.YtjbgepjdohfhkaaGreat
open Go.RowKit
theorem fN (P S:Int) (A:Option Addr) (n cp:Nat) (o a b c m:Int) (w:World) :
  Calls Tryz.prog 108 #[mv P S A n cp,iv o a b c m] w fun e w'=>e=.returned (.tuple #[pv (rdI ⟨o,a,b,c,m⟩).1 (rdI ⟨o,a,b,c,m⟩).2,.bool (rdB o)])/\Below w.heap.size w w':=by
 by_cases h1:o=15
 ·subst h1
  obtain⟨W,hW,hbW,hsW,r0,r1,r2⟩:=eM w [.int .i64 P,.int .i64 S,.slice A n cp] [.int .i64 15,.int .i64 a,.int .i64 b,.int .i64 c,.int .u64 m] [.int .i64 0,.int .i64 0] 53 50 127
  have HW:=aa hW
  have HB:=aa hbW
  have HS:=aa hsW
  have R:=aa r2
  have x0:=r1.cell (k:=0) rfl
  have x1:=r1.cell (k:=1) rfl
  have x2:=r1.cell (k:=2) rfl
  have x3:=r1.cell (k:=3) rfl
  have y0:=r2.free 0
  have y1:=r2.free 1
  have z0:=r2.cell (k:=0) rfl
  have z1:=r2.cell (k:=1) rfl
  clear hW hbW hsW r0 r1 r2
  go_enter Tryz.func108,Tryz.ntmps108
  go_upto_region 1 with(fail)
  rw[HW.out]
  clear HW
  go_wp2_with fail
  obtain⟨W7,hW7⟩:∃V,(W.setCell ⟨w.heap.size+1+1,0,none⟩ (.int .i64 b)).setCell ⟨w.heap.size+1+1,1,none⟩ (.int .i64 c)=V:=⟨_,rfl⟩
  have R7:Row W7 (w.heap.size+1+1) 127 [.int .i64 b,.int .i64 c]:=by rw[<-hW7];exact(R.out.set_ 0 _).set_ 1 _
  have B7:Below w.heap.size w W7:=by rw[<-hW7];exact(HB.out.setCell (p:=⟨w.heap.size+1+1,0,none⟩) (by simp;omega) _).setCell (p:=⟨w.heap.size+1+1,1,none⟩) (by simp;omega) _
  rw[hW7]
  have u0:=R7.cell (k:=0) rfl
  have u1:=R7.cell (k:=1) rfl
  refine bodyPost_ret (v:=.tuple #[pv b c,.bool true]) (by simp[results,Tryz.results108,go_sem,u0,u1]) rfl ?_
  exact⟨rfl,B7⟩
 ·by_cases h2:o=17
  ·subst h2
   obtain⟨W,hW,hbW,hsW,r0,r1,r2⟩:=eM w [.int .i64 P,.int .i64 S,.slice A n cp] [.int .i64 17,.int .i64 a,.int .i64 b,.int .i64 c,.int .u64 m] [.int .i64 0,.int .i64 0] 53 50 127
   have HW:=aa hW
   have HB:=aa hbW
   have HS:=aa hsW
   have R:=aa r2
   have x0:=r1.cell (k:=0) rfl
   have x1:=r1.cell (k:=1) rfl
   have x2:=r1.cell (k:=2) rfl
   have x3:=r1.cell (k:=3) rfl
   have y0:=r2.free 0
   have y1:=r2.free 1
   have z0:=r2.cell (k:=0) rfl
   have z1:=r2.cell (k:=1) rfl
   clear hW hbW hsW r0 r1 r2
   go_enter Tryz.func108,Tryz.ntmps108
   go_upto_region 1 with(fail)
   rw[HW.out]
   clear HW
   go_wp2_with fail
   obtain⟨W7,hW7⟩:∃V,(W.setCell ⟨w.heap.size+1+1,0,none⟩ (.int .i64 b)).setCell ⟨w.heap.size+1+1,1,none⟩ (.int .i64 c)=V:=⟨_,rfl⟩
   have R7:Row W7 (w.heap.size+1+1) 127 [.int .i64 b,.int .i64 c]:=by rw[<-hW7];exact(R.out.set_ 0 _).set_ 1 _
   have B7:Below w.heap.size w W7:=by rw[<-hW7];exact(HB.out.setCell (p:=⟨w.heap.size+1+1,0,none⟩) (by simp;omega) _).setCell (p:=⟨w.heap.size+1+1,1,none⟩) (by simp;omega) _
   rw[hW7]
   have u0:=R7.cell (k:=0) rfl
   have u1:=R7.cell (k:=1) rfl
   refine bodyPost_ret (v:=.tuple #[pv b c,.bool true]) (by simp[results,Tryz.results108,go_sem,u0,u1]) rfl ?_
   exact⟨rfl,B7⟩
  ·have b1:(o==15)=false:=by simpa using h1
   have b2:(o==17)=false:=by simpa using h2
   have d1:(o !=15)=true:=by simpa using h1
   have d2:(o !=17)=true:=by simpa using h2
   have e:=aa (show rdB o=false by simp[rdB,h1,h2])
   have e2:=aa (show rdI ⟨o,a,b,c,m⟩=(0,0) by unfold rdI;rw[show rdB (Ins.op ⟨o,a,b,c,m⟩)=false from e.out];rfl)
   clear h1 h2
   obtain⟨W,hW,hbW,hsW,r0,r1,r2⟩:=eM w [.int .i64 P,.int .i64 S,.slice A n cp] [.int .i64 o,.int .i64 a,.int .i64 b,.int .i64 c,.int .u64 m] [.int .i64 0,.int .i64 0] 53 50 127
   have HW:=aa hW
   have HB:=aa hbW
   have HS:=aa hsW
   have R:=aa r2
   have x0:=r1.cell (k:=0) rfl
   have x1:=r1.cell (k:=1) rfl
   have x2:=r1.cell (k:=2) rfl
   have x3:=r1.cell (k:=3) rfl
   have y0:=r2.free 0
   have y1:=r2.free 1
   have z0:=r2.cell (k:=0) rfl
   have z1:=r2.cell (k:=1) rfl
   clear hW hbW hsW r0 r1 r2
   go_enter Tryz.func108,Tryz.ntmps108
   go_upto_region 1 with(fail)
   rw[HW.out]
   clear HW
   go_wp2_with fail
   obtain⟨W7,hW7⟩:∃V,(W.setCell ⟨w.heap.size+1+1,0,none⟩ (.int .i64 0)).setCell ⟨w.heap.size+1+1,1,none⟩ (.int .i64 0)=V:=⟨_,rfl⟩
   have R7:Row W7 (w.heap.size+1+1) 127 [.int .i64 0,.int .i64 0]:=by rw[<-hW7];exact(R.out.set_ 0 _).set_ 1 _
   have B7:Below w.heap.size w W7:=by rw[<-hW7];exact(HB.out.setCell (p:=⟨w.heap.size+1+1,0,none⟩) (by simp;omega) _).setCell (p:=⟨w.heap.size+1+1,1,none⟩) (by simp;omega) _
   rw[hW7]
   have u0:=R7.cell (k:=0) rfl
   have u1:=R7.cell (k:=1) rfl
   refine bodyPost_ret (v:=.tuple #[pv 0 0,.bool false]) (by simp[results,Tryz.results108,go_sem,u0,u1]) rfl ?_
   exact⟨by rw[e.out,e2.out],B7⟩
theorem fk (P S:Int) (A:Option Addr) (n cp:Nat) (o a b c m:Int) (w:World) :
  Calls Tryz.prog 109 #[mv P S A n cp,iv o a b c m] w fun e w'=>e=.returned (.tuple #[pv (wrI ⟨o,a,b,c,m⟩).1 (wrI ⟨o,a,b,c,m⟩).2,.bool (wrB o)])/\Below w.heap.size w w':=by
 by_cases h1:o=16
 ·subst h1
  obtain⟨W,hW,hbW,hsW,r0,r1,r2⟩:=eM w [.int .i64 P,.int .i64 S,.slice A n cp] [.int .i64 16,.int .i64 a,.int .i64 b,.int .i64 c,.int .u64 m] [.int .i64 0,.int .i64 0] 53 50 127
  have HW:=aa hW
  have HB:=aa hbW
  have HS:=aa hsW
  have R:=aa r2
  have x0:=r1.cell (k:=0) rfl
  have x1:=r1.cell (k:=1) rfl
  have x2:=r1.cell (k:=2) rfl
  have x3:=r1.cell (k:=3) rfl
  have y0:=r2.free 0
  have y1:=r2.free 1
  have z0:=r2.cell (k:=0) rfl
  have z1:=r2.cell (k:=1) rfl
  clear hW hbW hsW r0 r1 r2
  go_enter Tryz.func109,Tryz.ntmps109
  go_upto_region 1 with(fail)
  rw[HW.out]
  clear HW
  go_wp2_with fail
  obtain⟨W7,hW7⟩:∃V,(W.setCell ⟨w.heap.size+1+1,0,none⟩ (.int .i64 a)).setCell ⟨w.heap.size+1+1,1,none⟩ (.int .i64 c)=V:=⟨_,rfl⟩
  have R7:Row W7 (w.heap.size+1+1) 127 [.int .i64 a,.int .i64 c]:=by rw[<-hW7];exact(R.out.set_ 0 _).set_ 1 _
  have B7:Below w.heap.size w W7:=by rw[<-hW7];exact(HB.out.setCell (p:=⟨w.heap.size+1+1,0,none⟩) (by simp;omega) _).setCell (p:=⟨w.heap.size+1+1,1,none⟩) (by simp;omega) _
  rw[hW7]
  have u0:=R7.cell (k:=0) rfl
  have u1:=R7.cell (k:=1) rfl
  refine bodyPost_ret (v:=.tuple #[pv a c,.bool true]) (by simp[results,Tryz.results109,go_sem,u0,u1]) rfl ?_
  exact⟨rfl,B7⟩
 ·by_cases h2:o=17
  ·subst h2
   obtain⟨W,hW,hbW,hsW,r0,r1,r2⟩:=eM w [.int .i64 P,.int .i64 S,.slice A n cp] [.int .i64 17,.int .i64 a,.int .i64 b,.int .i64 c,.int .u64 m] [.int .i64 0,.int .i64 0] 53 50 127
   have HW:=aa hW
   have HB:=aa hbW
   have HS:=aa hsW
   have R:=aa r2
   have x0:=r1.cell (k:=0) rfl
   have x1:=r1.cell (k:=1) rfl
   have x2:=r1.cell (k:=2) rfl
   have x3:=r1.cell (k:=3) rfl
   have y0:=r2.free 0
   have y1:=r2.free 1
   have z0:=r2.cell (k:=0) rfl
   have z1:=r2.cell (k:=1) rfl
   clear hW hbW hsW r0 r1 r2
   go_enter Tryz.func109,Tryz.ntmps109
   go_upto_region 1 with(fail)
   rw[HW.out]
   clear HW
   go_wp2_with fail
   obtain⟨W7,hW7⟩:∃V,(W.setCell ⟨w.heap.size+1+1,0,none⟩ (.int .i64 a)).setCell ⟨w.heap.size+1+1,1,none⟩ (.int .i64 c)=V:=⟨_,rfl⟩
   have R7:Row W7 (w.heap.size+1+1) 127 [.int .i64 a,.int .i64 c]:=by rw[<-hW7];exact(R.out.set_ 0 _).set_ 1 _
   have B7:Below w.heap.size w W7:=by rw[<-hW7];exact(HB.out.setCell (p:=⟨w.heap.size+1+1,0,none⟩) (by simp;omega) _).setCell (p:=⟨w.heap.size+1+1,1,none⟩) (by simp;omega) _
   rw[hW7]
   have u0:=R7.cell (k:=0) rfl
   have u1:=R7.cell (k:=1) rfl
   refine bodyPost_ret (v:=.tuple #[pv a c,.bool true]) (by simp[results,Tryz.results109,go_sem,u0,u1]) rfl ?_
   exact⟨rfl,B7⟩
  ·have b1:(o==16)=false:=by simpa using h1
   have b2:(o==17)=false:=by simpa using h2
   have d1:(o !=16)=true:=by simpa using h1
   have d2:(o !=17)=true:=by simpa using h2
   have e:=aa (show wrB o=false by simp[wrB,h1,h2])
   have e2:=aa (show wrI ⟨o,a,b,c,m⟩=(0,0) by unfold wrI;rw[show wrB (Ins.op ⟨o,a,b,c,m⟩)=false from e.out];rfl)
   clear h1 h2
   obtain⟨W,hW,hbW,hsW,r0,r1,r2⟩:=eM w [.int .i64 P,.int .i64 S,.slice A n cp] [.int .i64 o,.int .i64 a,.int .i64 b,.int .i64 c,.int .u64 m] [.int .i64 0,.int .i64 0] 53 50 127
   have HW:=aa hW
   have HB:=aa hbW
   have HS:=aa hsW
   have R:=aa r2
   have x0:=r1.cell (k:=0) rfl
   have x1:=r1.cell (k:=1) rfl
   have x2:=r1.cell (k:=2) rfl
   have x3:=r1.cell (k:=3) rfl
   have y0:=r2.free 0
   have y1:=r2.free 1
   have z0:=r2.cell (k:=0) rfl
   have z1:=r2.cell (k:=1) rfl
   clear hW hbW hsW r0 r1 r2
   go_enter Tryz.func109,Tryz.ntmps109
   go_upto_region 1 with(fail)
   rw[HW.out]
   clear HW
   go_wp2_with fail
   obtain⟨W7,hW7⟩:∃V,(W.setCell ⟨w.heap.size+1+1,0,none⟩ (.int .i64 0)).setCell ⟨w.heap.size+1+1,1,none⟩ (.int .i64 0)=V:=⟨_,rfl⟩
   have R7:Row W7 (w.heap.size+1+1) 127 [.int .i64 0,.int .i64 0]:=by rw[<-hW7];exact(R.out.set_ 0 _).set_ 1 _
   have B7:Below w.heap.size w W7:=by rw[<-hW7];exact(HB.out.setCell (p:=⟨w.heap.size+1+1,0,none⟩) (by simp;omega) _).setCell (p:=⟨w.heap.size+1+1,1,none⟩) (by simp;omega) _
   rw[hW7]
   have u0:=R7.cell (k:=0) rfl
   have u1:=R7.cell (k:=1) rfl
   refine bodyPost_ret (v:=.tuple #[pv 0 0,.bool false]) (by simp[results,Tryz.results109,go_sem,u0,u1]) rfl ?_
   exact⟨by rw[e.out,e2.out],B7⟩
theorem oO {F:Tg} {f:Fm} {k:Nat} (hk:k<f.code.length) (h:dS F f f.code[k]=false):dD F f=false:=by
 unfold dD
 rw[List.all_eq_false]
 exact⟨_,List.getElem_mem hk,by simp[h]⟩
theorem nC {F:Tg} {f:Fm} (h:∀j (hj:j<f.code.length),dS F f f.code[j]=true):dD F f=true:=by
 unfold dD
 rw[List.all_eq_true]
 intro x hx
 obtain⟨j,hj,rfl⟩:=List.mem_iff_getElem.1 hx
 exact h j hj
theorem jU {F:Tg} {f:Fm} {x:Ins} (h:x.op≠22):dS F f x=true:=by unfold dS;rw[decide_eq_false h];rfl
theorem pz {F:Tg} {f g:Fm} {x:Ins} {j:Nat} (h:x.op=22) (ha:x.a=(j:Int)) (hg:F[j]?=some g):dS F f x=decide (16*g.params<=f.size):=by
 unfold dS
 rw[decide_eq_true h,ha,Int.toNat_natCast,hg]
 simp only[Option.map_some,Option.getD_some,Bool.true_and]
 rw[<-decide_not]
 exact decide_eq_decide.2 (by omega)
theorem rD (Al:Int) (A:Option Addr) (n c:Nat) (hs:List Fd) (F:Tg) (lo B i:Nat) (f:Fm) (w:World) (H:Hid (TgAt w lo B A n c hs F)) (hB:B<=w.heap.size) (hf:Hid (F[i]?=some f))
  (hcall:Hid (∀x∈f.code,x.op=22->0<=x.a/\x.a<n)) (hpar:Hid (∀g∈F,0<=g.params/\g.params<=8)) :
  Calls Tryz.prog 41 #[tv Al A n c,.int .i64 (i:Int)] w fun e w'=>e=.returned (.bool (dD F f))/\Below w.heap.size w w':=by
 have hin:i<n:=by rw[<-H.out.len];exact(List.getElem?_eq_some_iff.1 hf.out).1
 obtain⟨b,off,P,S,A1,n1,c1,f',rfl,hb,e1,hh,h,p0,p1,p2⟩:=dk H.out hin
 obtain rfl:f'=f:=by rw[hf.out] at e1;injection e1 with e1;exact e1.symm
 clear e1
 have hn:=H.out.cap.2.2
 have HL:=aa (show f'.code.length=n1 from h.l)
 have HS:=aa (show S=f'.size from h.s)
 have HC:=aa h.c
 have hn1:n1<=8796093022208:=h.k.2.2
 have R0:=Row.new w 26 [.int .i64 Al,.slice (some ⟨b,off,none⟩) n c]
 have hb1:=ag w (.cells #[.int .i64 Al,.slice (some ⟨b,off,none⟩) n c] 26)
 obtain⟨W1,hW1⟩:∃V,w.alloc (.cells #[.int .i64 Al,.slice (some ⟨b,off,none⟩) n c] 26)=V:=⟨_,rfl⟩
 rw[show([.int .i64 Al,.slice (some ⟨b,off,none⟩) n c]:List Value).toArray=#[.int .i64 Al,.slice (some ⟨b,off,none⟩) n c] from rfl,hW1] at R0
 rw[hW1] at hb1
 have hbw:b<w.heap.size:=by omega
 have q0:=(hb1.cell (p:=⟨b,off+i*3,none⟩) hbw).trans p0
 have q1:=(hb1.cell (p:=⟨b,off+i*3+1,none⟩) hbw).trans p1
 have q2:=(hb1.cell (p:=⟨b,off+i*3+2,none⟩) hbw).trans p2
 have hs1:w.heap.size+1=W1.heap.size:=by rw[<-hW1];simp
 have HW1:=aa hW1
 have HB1:=aa hb1
 have HR0:=aa R0
 have t1:=R0.cell (k:=1) rfl
 have hiz:(0:Int)<=(i:Int):=by omega
 have hiz':(i:Int)<(n:Int):=by omega
 clear h hh hW1 hb1 R0 p0 p1 p2
 go_enter Tryz.func41,Tryz.ntmps41
 go_upto_region 1 with(fail)
 rw[HW1.out]
 clear HW1
 go_upto_region 2 with(fail)
 obtain⟨W3,hW3⟩:∃V,W1.alloc (.cells #[.int .i64 P,.int .i64 S,.slice A1 n1 c1] 53)=V:=⟨_,rfl⟩
 have R3:=aa (show Row W3 W1.heap.size 53 [.int .i64 P,.int .i64 S,.slice A1 n1 c1] by rw[<-hW3];exact Row.new W1 _ _)
 have T3:=aa (show Row W3 w.heap.size 26 [.int .i64 Al,.slice (some ⟨b,off,none⟩) n c] by rw[<-hW3];exact HR0.out.alloc _)
 have HB3:=aa (show Below w.heap.size w W3 by rw[<-hW3];exact HB1.out.alloc HB1.out.size _)
 rw[hW3]
 obtain⟨g,hg⟩:∃g,W1.heap.size=g:=⟨_,rfl⟩
 rw[hg] at R3⊢
 clear hW3 hg t1 q0 q1 q2 HB1 HR0 hs1
 have x2:=R3.out.cell (k:=2) rfl
 go_wp2_with fail
 clear x2
 go_loopw [16] (fun s wr=>∃k:Nat,k<=n1/\s=.int .i64 k/\Hid (∀j (hj:j<f'.code.length),j<k->dS F f' f'.code[j]=true)/\Hid (Below W3.heap.size W3 wr)) (fun s _=>n1-(intOf s).toNat)
 case atStart=>exact⟨0,by omega,rfl,aa (fun j hj h=>by omega),aa (Below.refl _ _)⟩
 case round=>
  obtain⟨k,hk,rfl,hno,hbr⟩:=hrel
  by_cases hlt:k<n1
  ·have HB4:=aa (HB3.out.trans (hbr.out.mono HB3.out.size))
   have R4:=aa (R3.out.call hbr.out)
   have T4:=aa (T3.out.call hbr.out)
   have hkl:k<f'.code.length:=by have:=HL.out;omega
   obtain⟨bb,oo,rfl,hbb,x0,x1,x2,x3,x4⟩:=ee (HC.out.below (HB4.out.mono hB)) hkl
   have HNO:=aa (fun(h:dS F f' f'.code[k]=false)=>oO hkl h)
   have HCA:=aa (hcall.out _ (List.getElem_mem hkl))
   obtain⟨x,hx⟩:∃x,f'.code[k]=x:=⟨_,rfl⟩
   have HX:=aa hx
   rw[hx] at HNO HCA x0 x1 x2 x3 x4
   obtain⟨o,a,b',d,m⟩:=x
   simp only at x0 x1 x2 x3 x4
   have hkz:(0:Int)<=(k:Int):=by omega
   have hkz':(k:Int)<(n1:Int):=by omega
   clear hx
   go_upto_region 5 with(fail)
   obtain⟨W5,hW5⟩:∃V,wr.alloc (.cells #[.int .i64 o,.int .i64 a,.int .i64 b',.int .i64 d,.int .u64 m] 50)=V:=⟨_,rfl⟩
   have R5:=aa (show Row W5 g 53 [.int .i64 P,.int .i64 S,.slice (some ⟨bb,oo,none⟩) n1 c1] by rw[<-hW5];exact R4.out.alloc _)
   have T5:=aa (show Row W5 w.heap.size 26 [.int .i64 Al,.slice (some ⟨b,off,none⟩) n c] by rw[<-hW5];exact T4.out.alloc _)
   have Z5:=aa (show Row W5 wr.heap.size 50 [.int .i64 o,.int .i64 a,.int .i64 b',.int .i64 d,.int .u64 m] by rw[<-hW5];exact Row.new wr _ _)
   have HB5:=aa (show Below W3.heap.size W3 W5 by rw[<-hW5];exact hbr.out.alloc hbr.out.size _)
   rw[hW5]
   obtain⟨g2,hg2⟩:∃g,wr.heap.size=g:=⟨_,rfl⟩
   rw[hg2] at Z5⊢
   clear hW5 hg2 x0 x1 x2 x3 x4 R4 T4
   have HBW:=aa (HB3.out.trans (HB5.out.mono HB3.out.size))
   have f1:=R5.out.cell (k:=1) rfl
   have t1:=T5.out.cell (k:=1) rfl
   have z0:=Z5.out.cell (k:=0) rfl
   have z1:=Z5.out.cell (k:=1) rfl
   by_cases h22:o=22
   ·subst h22
    obtain⟨a0,a1⟩:=HCA.out rfl
    simp only at a0 a1
    obtain⟨j,rfl⟩:=Int.eq_ofNat_of_zero_le a0
    obtain⟨b2,o2,P2,S2,A2,n2,c2,f2,e,-,hf2,-,hd2,y0,-,-⟩:=dk (H.out.below (HBW.out.mono hB)) (k:=j) (by omega)
    injection e with e
    injection e with e1 e2
    subst e1 e2
    have hP2:P2=f2.params:=hd2.p
    obtain⟨P20,P21⟩:=hpar.out f2 (List.mem_of_getElem? hf2)
    rw[<-hP2] at P20 P21
    have HCB:=aa (show dS F f' ⟨22,(j:Int),b',d,m⟩=decide (16*P2<=S) by rw[pz rfl rfl hf2,<-hP2,HS.out])
    have e16:IntKind.i64.wrap (16*P2)=16*P2:=wrap_i64 _ (by omega) (by omega)
    clear hf2 hd2 hP2
    by_cases hgt:S<16*P2
    ·have hd:decide (S<16*P2)=true:=decide_eq_true hgt
     have HR:=aa (HNO.out (by rw[HCB.out];exact decide_eq_false (by omega)))
     go_quiet (fail)
     go_wp2_with fail
     go_ret
     exact⟨aw HR.out.symm,fw HBW.out _⟩
    ·have hd:decide (S<16*P2)=false:=decide_eq_false hgt
     have HT:=aa (show dS F f' ⟨22,(j:Int),b',d,m⟩=true by rw[HCB.out];exact decide_eq_true (by omega))
     go_quiet (fail)
     go_wp2_with fail
     go_roundw
     case rel=>
      refine⟨k+1,by omega,by go_num,aa fun q hq hqk=>?_,aa (fw HB5.out _)⟩
      by_cases e:q=k
      ·subst e;rw[HX.out];exact HT.out
      ·exact hno.out q hq (by omega)
     case measure=>simp[intOf];omega
   ·have hne:(o==22)=false:=by simpa using h22
    have HT:=aa (jU (F:=F) (f:=f') (x:=⟨o,a,b',d,m⟩) h22)
    clear h22
    go_quiet (fail)
    go_wp2_with fail
    go_roundw
    case rel=>
     refine⟨k+1,by omega,by go_num,aa fun q hq hqk=>?_,aa (fw HB5.out _)⟩
     by_cases e:q=k
     ·subst e;rw[HX.out];exact HT.out
     ·exact hno.out q hq (by omega)
    case measure=>simp[intOf];omega
  ·obtain rfl:k=n1:=by omega
   have HE:=aa (nC (F:=F) (f:=f') (fun j hj=>hno.out j hj (by have:=HL.out;omega)))
   go_wp2_with fail
   go_ret
   exact⟨aw HE.out.symm,HB3.out.trans (hbr.out.mono HB3.out.size)⟩
structure InsOk (F:Tg) (f:Fm) (x:Ins):Prop where
 r:rdB x.op=true->0<=x.b/\0<=x.c/\x.b+x.c<=2147483647/\x.b+x.c<=f.size+16*f.params
 w:wrB x.op=true->0<=x.a/\0<=x.c/\x.a+x.c<=2147483647/\x.a+x.c<=f.size
 c:x.op=22->0<=x.a/\x.a<(F.length:Int)/\dS F f x=true
theorem rj (Al:Int) (A:Option Addr) (n c:Nat) (hs:List Fd) (F:Tg) (lo B i:Nat) (P S:Int) (A1:Option Addr) (n1 c1:Nat) (f':Fm) (w:World) (H:Hid (TgAt w lo B A n c hs F)) (hB:B<=w.heap.size) (hf:Hid (F[i]?=some f')) (hh:Hid (hs[i]?=some ⟨P,S,A1,n1,c1⟩))
  (hcall:Hid (∀x∈f'.code,x.op=22->0<=x.a/\x.a<n)) (hpar:Hid (∀g∈F,0<=g.params/\g.params<=8)) :
  Calls Tryz.prog 47 #[tv Al A n c,mv P S A1 n1 c1] w fun e w'=>e=.returned (.bool (dD F f'))/\Below w.heap.size w w':=by
 have hin:i<n:=by rw[<-H.out.len];exact(List.getElem?_eq_some_iff.1 hf.out).1
 obtain⟨b,off,rfl,hb,h,-,-,-⟩:=uE H.out hf.out hh.out
 have hn:=H.out.cap.2.2
 have HL:=aa (show f'.code.length=n1 from h.l)
 have HS:=aa (show S=f'.size from h.s)
 have HC:=aa h.c
 have hn1:n1<=8796093022208:=h.k.2.2
 obtain⟨W3,hW3,hb3,hs3,r0,r1⟩:=fx w [.int .i64 Al,.slice (some ⟨b,off,none⟩) n c] [.int .i64 P,.int .i64 S,.slice A1 n1 c1] 26 53
 have HW3:=aa hW3
 have HB3:=aa hb3
 have T3:=aa r0
 have R3:=aa r1
 have x2:=r1.cell (k:=2) rfl
 clear h hh hW3 hb3 hs3 r0 r1
 go_enter Tryz.func47,Tryz.ntmps47
 go_upto_region 1 with(fail)
 rw[HW3.out]
 clear HW3
 obtain⟨g,hg⟩:∃g,w.heap.size+1=g:=⟨_,rfl⟩
 rw[hg] at R3 x2⊢
 clear hg
 go_wp2_with fail
 clear x2
 go_loopw [5] (fun s wr=>∃k:Nat,k<=n1/\s=.int .i64 k/\Hid (∀j (hj:j<f'.code.length),j<k->dS F f' f'.code[j]=true)/\Hid (Below W3.heap.size W3 wr)) (fun s _=>n1-(intOf s).toNat)
 case atStart=>exact⟨0,by omega,rfl,aa (fun j hj h=>by omega),aa (Below.refl _ _)⟩
 case round=>
  obtain⟨k,hk,rfl,hno,hbr⟩:=hrel
  have HB4:=aa (HB3.out.trans (hbr.out.mono HB3.out.size))
  have R4:=aa (R3.out.call hbr.out)
  have T4:=aa (T3.out.call hbr.out)
  have f1:=R4.out.cell (k:=1) rfl
  have f2:=R4.out.cell (k:=2) rfl
  have t1:=T4.out.cell (k:=1) rfl
  by_cases hlt:k<n1
  ·have hkl:k<f'.code.length:=by have:=HL.out;omega
   obtain⟨bb,oo,rfl,hbb,x0,x1,-,-,-⟩:=ee (HC.out.below (HB4.out.mono hB)) hkl
   have HNO:=aa (fun(h:dS F f' f'.code[k]=false)=>oO hkl h)
   have HCA:=aa (hcall.out _ (List.getElem_mem hkl))
   obtain⟨x,hx⟩:∃x,f'.code[k]=x:=⟨_,rfl⟩
   have HX:=aa hx
   rw[hx] at HNO HCA x0 x1
   obtain⟨o,a,b',d,m⟩:=x
   simp only at x0 x1
   have hkz:(0:Int)<=(k:Int):=by omega
   have hkz':(k:Int)<(n1:Int):=by omega
   clear hx
   by_cases h22:o=22
   ·subst h22
    obtain⟨a0,a1⟩:=HCA.out rfl
    simp only at a0 a1
    obtain⟨j,rfl⟩:=Int.eq_ofNat_of_zero_le a0
    obtain⟨b2,o2,P2,S2,A2,n2,c2,f2',e,-,hf2,-,hd2,y0,-,-⟩:=dk (H.out.below (HB4.out.mono hB)) (k:=j) (by omega)
    injection e with e
    injection e with e1 e2
    subst e1 e2
    have hP2:P2=f2'.params:=hd2.p
    obtain⟨P20,P21⟩:=hpar.out f2' (List.mem_of_getElem? hf2)
    rw[<-hP2] at P20 P21
    have HCB:=aa (show dS F f' ⟨22,(j:Int),b',d,m⟩=decide (16*P2<=S) by rw[pz rfl rfl hf2,<-hP2,HS.out])
    have e16:IntKind.i64.wrap (16*P2)=16*P2:=wrap_i64 _ (by omega) (by omega)
    clear hf2 hd2 hP2
    by_cases hgt:S<16*P2
    ·have hd:decide (S<16*P2)=true:=decide_eq_true hgt
     have HR:=aa (HNO.out (by rw[HCB.out];exact decide_eq_false (by omega)))
     go_upto_region 4 with(fail)
     go_quiet (fail)
     go_wp2_with fail
     go_ret
     exact⟨aw HR.out.symm,fw HB4.out _⟩
    ·have hd:decide (S<16*P2)=false:=decide_eq_false hgt
     have HT:=aa (show dS F f' ⟨22,(j:Int),b',d,m⟩=true by rw[HCB.out];exact decide_eq_true (by omega))
     go_upto_region 4 with(fail)
     go_quiet (fail)
     go_wp2_with fail
     go_roundw
     case rel=>
      refine⟨k+1,by omega,by go_num,aa fun q hq hqk=>?_,aa (fw hbr.out _)⟩
      by_cases e:q=k
      ·subst e;rw[HX.out];exact HT.out
      ·exact hno.out q hq (by omega)
     case measure=>simp[intOf];omega
   ·have hne:(o==22)=false:=by simpa using h22
    have HT:=aa (jU (F:=F) (f:=f') (x:=⟨o,a,b',d,m⟩) h22)
    clear h22
    go_upto_region 4 with(fail)
    go_quiet (fail)
    go_wp2_with fail
    go_roundw
    case rel=>
     refine⟨k+1,by omega,by go_num,aa fun q hq hqk=>?_,aa (fw hbr.out _)⟩
     by_cases e:q=k
     ·subst e;rw[HX.out];exact HT.out
     ·exact hno.out q hq (by omega)
    case measure=>simp[intOf];omega
  ·obtain rfl:k=n1:=by omega
   have HE:=aa (nC (F:=F) (f:=f') (fun j hj=>hno.out j hj (by have:=HL.out;omega)))
   go_wp2_with fail
   go_ret
   exact⟨aw HE.out.symm,HB3.out.trans (hbr.out.mono HB3.out.size)⟩
theorem qn (n a:Int) (w:World):Calls Tryz.prog 56 #[.int .i64 n,.int .i64 a] w fun e w'=>e=.returned (.tuple #[.int .i64 (upV n a),.int .i64 (upE n a)])/\w=w':=by
 have cx:=km n
 have cy:=gZ a
 cases hx:cR n with
 | false=>
  obtain⟨hv,he⟩:=sT (n:=n) (a:=a) (by rw[hx];rfl)
  rw[hx] at cx
  have Hv:=aa hv
  have He:=aa he
  clear hx hv he
  go_enter Tryz.func56,Tryz.ntmps56
  go_wp2_with fail
  refine(cx _).mono ?_
  rintro e w' ⟨rfl,rfl⟩
  go_wp2_with fail
  go_ret2
  exact⟨fP Hv.out.symm He.out.symm,rfl⟩
 | true=>
  cases hy:aR a with
  | false=>
   obtain⟨hv,he⟩:=sT (n:=n) (a:=a) (by rw[hx,hy];rfl)
   rw[hx] at cx
   rw[hy] at cy
   have Hv:=aa hv
   have He:=aa he
   clear hx hy hv he
   go_enter Tryz.func56,Tryz.ntmps56
   go_wp2_with fail
   refine(cx _).mono ?_
   rintro e w' ⟨rfl,rfl⟩
   go_wp2_with fail
   refine(cy _).mono ?_
   rintro e w' ⟨rfl,rfl⟩
   go_wp2_with fail
   go_ret2
   exact⟨fP Hv.out.symm He.out.symm,rfl⟩
  | true=>
   obtain⟨x0,x1⟩:=gD.1 hx
   obtain⟨y0,y1⟩:=ed hy
   have m0:=Int.emod_nonneg n (show a≠0 by omega)
   have m1:=Int.emod_lt_of_pos n (show 0<a by omega)
   rw[hx] at cx
   rw[hy] at cy
   have Hx:=aa hx
   have Hy:=aa hy
   have hane:(a==0)=false:=by simp;omega
   clear hx hy
   by_cases hz:n % a=0
   ·have hm:=aa (vr (show 0<a by omega) hz)
    have hzb:(n % a !=0)=false:=by simp[hz]
    clear hz
    by_cases hs:n<=2147483647
    ·have hr:=aa (oh Hx.out Hy.out (by have:=hm.out;omega))
     go_enter Tryz.func56,Tryz.ntmps56
     go_wp2_with fail
     refine(cx _).mono ?_
     rintro e w' ⟨rfl,rfl⟩
     go_wp2_with fail
     refine(cy _).mono ?_
     rintro e w' ⟨rfl,rfl⟩
     go_wp2_with fail
     go_ret2
     exact⟨fP (by rw[hr.out.1];exact hm.out) hr.out.2.symm,rfl⟩
    ·omega
   ·have hm:=aa (xQ (show 0<a by omega) hz)
    have hzb:(n % a !=0)=true:=by simp[hz]
    clear hz
    by_cases hs:n-n % a+a<=2147483647
    ·have hr:=aa (oh Hx.out Hy.out (by have:=hm.out;omega))
     go_enter Tryz.func56,Tryz.ntmps56
     go_wp2_with fail
     refine(cx _).mono ?_
     rintro e w' ⟨rfl,rfl⟩
     go_wp2_with fail
     refine(cy _).mono ?_
     rintro e w' ⟨rfl,rfl⟩
     go_wp2_with fail
     go_ret2
     exact⟨fP (by rw[hr.out.1];exact hm.out) hr.out.2.symm,rfl⟩
    ·have hr:=aa (vq Hx.out Hy.out (by have:=hm.out;omega))
     have hg:2147483647<n-n % a+a:=by omega
     go_enter Tryz.func56,Tryz.ntmps56
     go_wp2_with fail
     refine(cx _).mono ?_
     rintro e w' ⟨rfl,rfl⟩
     go_wp2_with fail
     refine(cy _).mono ?_
     rintro e w' ⟨rfl,rfl⟩
     go_wp2_with fail
     go_ret2
     exact⟨fP hr.out.1.symm hr.out.2.symm,rfl⟩
theorem nI (A:Option Addr) (n c:Nat) (hs:List Hd) (F:Pg) (lo B i:Nat) (f:Fn) (w:World) (H:Hid (PgAt w lo B A n c hs F)) (hB:B<=w.heap.size) (hf:Hid (F[i]?=some f)) (hok:Hid (lD F f.code)) :
  Calls Tryz.prog 55 #[gv A n c,.int .i64 (i:Int)] w fun e w'=>e=.returned (.int .i64 (bB F f.code*16))/\Below w.heap.size w w':=by
 have hin:i<n:=by rw[<-H.out.len];exact(List.getElem?_eq_some_iff.1 hf.out).1
 obtain⟨b,off,P,A1,n1,c1,A2,n2,c2,f',rfl,hb,e1,-,h,p0,p1,p2⟩:=lC H.out hin
 obtain rfl:f'=f:=by rw[hf.out] at e1;injection e1 with e1;exact e1.symm
 clear e1
 have hn:=H.out.cap.2.2
 have HL:=aa (show f'.code.length=n2 from h.l2)
 have HC:=aa h.s2
 have hn2:n2<=8796093022208:=h.k2.2.2
 have hbw:b<w.heap.size:=by omega
 have hb1:=ag w (.cells #[.slice (some ⟨b,off,none⟩) n c] 79)
 have R0:=Row.new w 79 [.slice (some ⟨b,off,none⟩) n c]
 obtain⟨W1,hW1⟩:∃V,w.alloc (.cells #[.slice (some ⟨b,off,none⟩) n c] 79)=V:=⟨_,rfl⟩
 rw[show([.slice (some ⟨b,off,none⟩) n c]:List Value).toArray=#[.slice (some ⟨b,off,none⟩) n c] from rfl,hW1] at R0
 rw[hW1] at hb1
 have q2:=(hb1.cell (p:=⟨b,off+i*3+2,none⟩) hbw).trans p2
 have t0:=R0.cell (k:=0) rfl
 have HW1:=aa hW1
 have HB1:=aa hb1
 have HR0:=aa R0
 have hiz:(0:Int)<=(i:Int):=by omega
 have hiz':(i:Int)<(n:Int):=by omega
 clear hW1 hb1 R0 p0 p1 p2 h
 go_enter Tryz.func55,Tryz.ntmps55
 go_upto_region 1 with(fail)
 rw[HW1.out]
 clear HW1
 go_wp2_with fail
 clear q2 t0
 go_loopw [5,7] (fun m s wr=>∃(k:Nat) (x:Int),k<=n2/\s=.int .i64 k/\m=.int .i64 x/\Hid (x=bB F (f'.code.take k))/\0<=x/\x<=8/\Hid (Below W1.heap.size W1 wr)) (fun _ s _=>n2-(intOf s).toNat)
 case atStart=>exact⟨0,0,by omega,rfl,rfl,aa rfl,by omega,by omega,aa (Below.refl _ _)⟩
 case round=>
  obtain⟨k,x,hk,rfl,rfl,hx,x0,x1,hbr⟩:=hrel
  have HB4:=aa (HB1.out.trans (hbr.out.mono HB1.out.size))
  by_cases hlt:k<n2
  ·have hkl:k<f'.code.length:=by have:=HL.out;omega
   have HN:=aa (show bB F (f'.code.take (k+1))=ij F x f'.code[k] by rw[hx.out];exact lc F f'.code k hkl)
   have hxb:=uV hok.out (List.getElem_mem hkl) ⟨x0,x1⟩
   have HO1:=aa (hok.out.1 _ (List.getElem_mem hkl))
   have HO2:=aa (hok.out.2.1 _ (List.getElem_mem hkl))
   obtain⟨bb,oo,rfl,hbb,y0,y1,-,-,-⟩:=ee (HC.out.below (HB4.out.mono hB)) hkl
   obtain⟨z,hz⟩:∃z,f'.code[k]=z:=⟨_,rfl⟩
   rw[hz] at HN HO1 HO2 y0 y1 hxb
   obtain⟨o,a,b',d,m⟩:=z
   simp only at y0 y1
   have hkz:(0:Int)<=(k:Int):=by omega
   have hkz':(k:Int)<(n2:Int):=by omega
   clear hz
   by_cases h18:o=18
   ·subst h18
    obtain⟨a0,a1⟩:=HO1.out rfl
    simp only at a0 a1
    have HM:=aa (show bB F (f'.code.take (k+1))=max x (a+1) by rw[HN.out,kG rfl])
    rw[kG rfl] at hxb
    simp only at hxb
    go_wp2_with fail
    all_goals
     go_roundw
     case rel=>exact⟨k+1,_,by omega,by go_num,rfl,aa (by rw[HM.out]<;>omega),by omega,by omega,hbr⟩
     case measure=>simp[intOf];omega
   ·have b18:(o==18)=false:=by simpa using h18
    by_cases h22:o=22
    ·subst h22
     obtain⟨a0,a1⟩:=HO2.out rfl
     simp only at a0 a1
     obtain⟨j,rfl⟩:=Int.eq_ofNat_of_zero_le a0
     obtain⟨b2,o2,P2,A12,n12,c12,A22,n22,c22,g2,e,-,hf2,-,hd2,r0,-,-⟩:=lC (H.out.below (HB4.out.mono hB)) (k:=j) (by have:=H.out.len;omega)
     injection e with e
     injection e with e1 e2
     subst e1 e2
     have hP2:P2=g2.params:=hd2.p
     obtain⟨P20,P21⟩:=hok.out.2.2 g2 (List.mem_of_getElem? hf2)
     rw[<-hP2] at P20 P21
     have HM:=aa (show bB F (f'.code.take (k+1))=max x P2 by rw[HN.out,nZ rfl rfl hf2,hP2])
     have t0:=(HR0.out.call hbr.out).cell (k:=0) rfl
     have hjn:(j:Int)<(n:Int):=by have:=H.out.len;omega
     clear hf2 hd2 hP2
     have t0':=af t0
     have r0':=af r0
     have y1':=af y1
     go_upto_region 10 with(fail)
     by_cases hmx:x<=P2
     ·have hmm:max x P2=P2:=by omega
      refine aJ (by kernel_rfl) (by kernel_rfl) ?_
      repeat(go_big_quiet_step (fail))
      refine wpQuiet_nil ?_
      intro _ hw'
      obtain⟨p1,hw''⟩:=hw'
      subst hw''
      have HBE:=aa (ac hbr.out p1.b)
      clear t0' r0' y1'
      go_wp2_with fail
      go_roundw
      case rel=>exact⟨k+1,_,by omega,by go_num,rfl,aa (by rw[HM.out]<;>omega),by omega,by omega,HBE⟩
      case measure=>simp[intOf];omega
     ·have hmm:max x P2=x:=by omega
      refine aJ (by kernel_rfl) (by kernel_rfl) ?_
      repeat(go_big_quiet_step (fail))
      refine wpQuiet_nil ?_
      intro _ hw'
      obtain⟨p1,hw''⟩:=hw'
      subst hw''
      have HBE:=aa (ac hbr.out p1.b)
      clear t0' r0' y1'
      go_wp2_with fail
      go_roundw
      case rel=>exact⟨k+1,_,by omega,by go_num,rfl,aa (by rw[HM.out]<;>omega),by omega,by omega,HBE⟩
      case measure=>simp[intOf];omega
    ·have b22:(o==22)=false:=by simpa using h22
     have HM:=aa (show bB F (f'.code.take (k+1))=x by rw[HN.out,na h18 h22])
     clear h18 h22
     go_wp2_with fail
     go_roundw
     case rel=>exact⟨k+1,x,by omega,by go_num,rfl,aa HM.out.symm,by omega,by omega,hbr⟩
     case measure=>simp[intOf];omega
  ·obtain rfl:k=n2:=by omega
   have HX:=aa (show x=bB F f'.code by rw[hx.out,List.take_of_length_le (by have:=HL.out;omega)])
   go_wp2_with fail
   go_ret
   exact⟨aj (by rw[HX.out]),HB4.out⟩
end Go.Proofs.YtjbgepjdohfhkaaGreat
