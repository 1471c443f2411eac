/- The contracts of the reference's Store and Move: the stack behind each, or the stack as it was with the error. Conditions: those of the types; the stack is one for which -/
import Derived.Test.YtjbgepjdohfhkaaGreatMKcopy
import Derived.Test.YtjbgepjdohfhkaaGreatMKruse
set_option linter.unusedVariables false
set_option linter.unusedSimpArgs false
set_option maxRecDepth 100000
set_option maxHeartbeats 4000000
namespace Go.Proofs.YtjbgepjdohfhkaaGreat
open Go.RowKit
section
attribute [local go_sem ↓] Go.wp_at_zero Go.wp_at_succ
def pJ (S:Sk) (E:Int) (w:World) (e:Ending) (w':World):Prop:=
 ∃(A1:Option Addr) (c1:Nat) (A2:Option Addr) (c2:Nat),e=.returned (.tuple #[sv A1 c1 A2 c2 S,.int .i64 E])/\StkAt w' w'.heap.size A1 c1 A2 c2 S/\Below w.heap.size w w'/\(E=0->StkOwn w' w.heap.size A1 c1 A2 c2 S 5 4)
def Bk (S:Sk) (A1:Option Addr) (c1:Nat) (A2:Option Addr) (c2:Nat) (b1 k1 b2 k2 b3 k3 B3:Nat) (zs:List Int) (w:World) (g a m:Nat) (i:Value) (wr:World):Prop:=
 ∃k:Nat,k<=m/\i=.int .i64 (k:Int)/\Hid (Row wr w.heap.size 66 [.slice A1 S.bs.length c1,.slice A2 S.bs.length c2,.int .i64 (S.sp:Int)])/\Hid (Row wr (w.heap.size+2) 66 [.slice none 0 0,.slice none 0 0,.int .i64 0])/\Hid (Row wr g 66 [.slice (some ⟨b1,0,none⟩) S.bs.length k1,.slice (some ⟨b2,0,none⟩) S.bs.length k2,.int .i64 (S.sp:Int)]) /\
  Hid (wr.ownsRow (w.heap.size+3) 5 1 (.slice (some ⟨b1,0,none⟩) S.bs.length k1) S.bs.length (splice (aq S.bs) a ((aq zs).take k)))/\Hid (wr.ownsRow (w.heap.size+3) 4 1 (.slice (some ⟨b2,0,none⟩) S.bs.length k2) S.bs.length (splice (bh S.us) a ((List.replicate m (Value.bool true)).take k))) /\
  Hid (wr.ownsRow B3 5 1 (.slice (some ⟨b3,0,none⟩) m k3) m (aq zs))/\Hid (Below w.heap.size w wr)
theorem mG {A1 A2:Option Addr} {c1 c2:Nat} {S:Sk} (off n:Int) (X:Nat) (hX:X<ae) (ho:isI off) (w:World) (hS:Hid (StkAt w w.heap.size A1 c1 A2 c2 S)) :
  Calls Tryz.prog 75 #[sv A1 c1 A2 c2 S,.int .i64 off,.int .i64 n,vv X] w (pJ (j2 S off n X) (fI S off n) w):=by
 have hok:=aa hS.out.ok
 have hmost:=hS.out.ok.most
 have hsp:=hS.out.ok.sp
 have hm1:=hS.out.m1
 have hm2:=hS.out.m2
 obtain⟨W0,hW0⟩:∃W,((w.alloc (.cells #[.slice A1 S.bs.length c1,.slice A2 S.bs.length c2,.int .i64 (S.sp:Int)] 66)).alloc (.cells #[.int .u64 (lo X),.int .u64 (hi X)] 38)).alloc (.cells #[.slice none 0 0,.slice none 0 0,.int .i64 0] 66)=W:=⟨_,rfl⟩
 have HW0:=aa hW0
 have RX0:=aa (show Row W0 (w.heap.size) 66 [.slice A1 S.bs.length c1,.slice A2 S.bs.length c2,.int .i64 (S.sp:Int)] by rw[<-hW0];exact(((Row.new w 66 [.slice A1 S.bs.length c1,.slice A2 S.bs.length c2,.int .i64 (S.sp:Int)]).alloc _).alloc _))
 have RV0:=aa (show Row W0 (w.heap.size+1) 38 [.int .u64 (lo X),.int .u64 (hi X)] by rw[<-hW0];exact((Row.new (w.alloc (.cells #[.slice A1 S.bs.length c1,.slice A2 S.bs.length c2,.int .i64 (S.sp:Int)] 66)) 38 [.int .u64 (lo X),.int .u64 (hi X)]).alloc _).at_ (by simp))
 have RZ0:=aa (show Row W0 (w.heap.size+2) 66 [.slice none 0 0,.slice none 0 0,.int .i64 0] by rw[<-hW0];exact(Row.new ((w.alloc (.cells #[.slice A1 S.bs.length c1,.slice A2 S.bs.length c2,.int .i64 (S.sp:Int)] 66)).alloc (.cells #[.int .u64 (lo X),.int .u64 (hi X)] 38)) 66 [.slice none 0 0,.slice none 0 0,.int .i64 0]).at_ (by simp))
 have B0:=aa (show Below w.heap.size w W0 by rw[<-hW0];exact bi w _ _ _)
 have Z0:=aa (show W0.heap.size=w.heap.size+3 by rw[<-hW0];simp)
 clear hW0
 have cf:=fun(W:World)=>gW (A1:=A1) (A2:=A2) (c1:=c1) (c2:=c2) off n W hok ho
 cases hf:bN S off n with
 | false=>
  obtain⟨hE,hR⟩:=oL (X:=X) hf
  have HE:=aa hE
  have HR:=aa hR
  rw[hf] at cf
  clear hf hE hR
  go_enter Tryz.func75,Tryz.ntmps75
  go_upto_region 1 with(fail)
  rw[HW0.out]
  have fX0:=RX0.out.cell (k:=0) rfl
  have fX1:=RX0.out.cell (k:=1) rfl
  have fX2:=RX0.out.cell (k:=2) rfl
  go_wp2_with fail
  refine(cf _).mono ?_
  rintro e w1 ⟨rfl,hb1⟩
  have RX2:=aa (RX0.out.call hb1)
  clear RX0
  have RV2:=aa (RV0.out.call hb1)
  clear RV0
  have RZ2:=aa (RZ0.out.call hb1)
  clear RZ0
  have B2:=aa (ac B0.out hb1)
  clear B0
  clear hb1
  clear fX0 fX1 fX2
  have fX0:=RX2.out.cell (k:=0) rfl
  have fX1:=RX2.out.cell (k:=1) rfl
  have fX2:=RX2.out.cell (k:=2) rfl
  have fZ0:=RZ2.out.cell (k:=0) rfl
  have fZ1:=RZ2.out.cell (k:=1) rfl
  have fZ2:=RZ2.out.cell (k:=2) rfl
  have yZ0:=RZ2.out.free 0
  have yZ1:=RZ2.out.free 1
  have yZ2:=RZ2.out.free 2
  go_wp2_with fail
  obtain⟨W3,hW3⟩:∃W,((w1.setCell ⟨w.heap.size+2,0,none⟩ (.slice A1 S.bs.length c1)).setCell ⟨w.heap.size+2,1,none⟩ (.slice A2 S.bs.length c2)).setCell ⟨w.heap.size+2,2,none⟩ (.int .i64 (S.sp:Int))=W:=⟨_,rfl⟩
  have HW3:=aa hW3
  have RZ3:=aa (show Row W3 (w.heap.size+2) 66 [.slice A1 S.bs.length c1,.slice A2 S.bs.length c2,.int .i64 (S.sp:Int)] by rw[<-hW3];exact(((RZ2.out).set_ 0 _).set_ 1 _).set_ 2 _)
  have RX3:=aa (show Row W3 (w.heap.size) 66 [.slice A1 S.bs.length c1,.slice A2 S.bs.length c2,.int .i64 (S.sp:Int)] by rw[<-hW3];exact(((RX2.out).far (p:=⟨w.heap.size+2,0,none⟩) (by simp) _).far (p:=⟨w.heap.size+2,1,none⟩) (by simp) _).far (p:=⟨w.heap.size+2,2,none⟩) (by simp) _)
  clear RX2
  have RV3:=aa (show Row W3 (w.heap.size+1) 38 [.int .u64 (lo X),.int .u64 (hi X)] by rw[<-hW3];exact(((RV2.out).far (p:=⟨w.heap.size+2,0,none⟩) (by simp) _).far (p:=⟨w.heap.size+2,1,none⟩) (by simp) _).far (p:=⟨w.heap.size+2,2,none⟩) (by simp) _)
  clear RV2
  have B3:=aa (show Below w.heap.size w W3 by rw[<-hW3];exact ay (ay (ay (B2.out) (by omega)) (by omega)) (by omega))
  clear hW3 RZ2
  clear fX0 fX1 fX2 fZ0 fZ1 fZ2 yZ0 yZ1 yZ2
  have fZ0:=RZ3.out.cell (k:=0) rfl
  have fZ1:=RZ3.out.cell (k:=1) rfl
  have fZ2:=RZ3.out.cell (k:=2) rfl
  rw[HW3.out]
  refine bodyPost_ret (v:=.tuple #[.agg #[.slice A1 S.bs.length c1,.slice A2 S.bs.length c2,.int .i64 (S.sp:Int)],.int .i64 4]) (by simp[results,Tryz.results75,go_sem,fZ0,fZ1,fZ2]) rfl ?_
  exact⟨A1,c1,A2,c2,by rw[HE.out,HR.out],by rw[HR.out];exact hS.out.up B3.out,B3.out,fun h=>by rw[HE.out] at h;exact absurd h (by decide)⟩
 | true=>
  obtain⟨o,m,rfl,rfl,hm0,hm16,hfit⟩:=gM hf
  obtain⟨hE,hR⟩:=gF (X:=X) hf
  have HE:=aa hE
  have HR:=aa hR
  rw[hf] at cf
  have cb:=ro X (m:Int)
  rw[show szN (m:Int)=m from by have:=lk (ix.1 hf).1;omega] at cb
  clear hf hE hR
  have cc:=fun(W:World) (hS0:StkAt W W.heap.size A1 c1 A2 c2 S)=>nG A1 S.bs.length c1 A2 c2 (S.sp:Int) S.bs S.us W (aa hS0.k1) (aa hS0.k2) hm1 hm2 hmost (aa rfl) (aa hS0.ok.len) (aa hS0.s1) (aa hS0.s2)
  go_enter Tryz.func75,Tryz.ntmps75
  go_upto_region 1 with(fail)
  rw[HW0.out]
  have fX0:=RX0.out.cell (k:=0) rfl
  have fX1:=RX0.out.cell (k:=1) rfl
  have fX2:=RX0.out.cell (k:=2) rfl
  go_wp2_with fail
  refine(cf _).mono ?_
  rintro e w1 ⟨rfl,hb1⟩
  have RX2:=aa (RX0.out.call hb1)
  clear RX0
  have RV2:=aa (RV0.out.call hb1)
  clear RV0
  have RZ2:=aa (RZ0.out.call hb1)
  clear RZ0
  have B2:=aa (ac B0.out hb1)
  clear B0
  clear hb1
  clear fX0 fX1 fX2
  have fX0:=RX2.out.cell (k:=0) rfl
  have fX1:=RX2.out.cell (k:=1) rfl
  have fX2:=RX2.out.cell (k:=2) rfl
  go_wp2_with fail
  have hbs:=aa (show w.heap.size+3<=w1.heap.size by have:=RZ2.out.lt;omega)
  refine(cc _ (hS.out.up B2.out)).mono ?_
  rintro e w3 ⟨a1,k1,a2,k2,rfl,o1,o2,hb3⟩
  have RX4:=aa (RX2.out.call hb3)
  clear RX2
  have RV4:=aa (RV2.out.call hb3)
  clear RV2
  have RZ4:=aa (RZ2.out.call hb3)
  clear RZ2
  have B4:=aa (ac B2.out hb3)
  clear B2
  clear hb3
  have O13:=aa (dW o1 (show w.heap.size+3<=w1.heap.size+2 by have:=hbs.out;omega))
  have O23:=aa (dW o2 (show w.heap.size+3<=w1.heap.size+2 by have:=hbs.out;omega))
  clear o1 o2
  obtain⟨b1,q1,hv,hbb1,hblt1,hnk1,_⟩:=eu O13.out (show 0<S.bs.length by omega)
  injection hv with hv1 hv2 hv3
  subst hv1 hv3
  clear hv2
  obtain⟨b2,q2,hv,hbb2,hblt2,hnk2,_⟩:=eu O23.out (show 0<S.bs.length by omega)
  injection hv with hv1 hv2 hv3
  subst hv1 hv3
  clear hv2
  have DZ:=aa (show w.heap.size+2<w3.heap.size from RZ4.out.lt)
  clear fX0 fX1 fX2
  go_upto_region 4 with(fail)
  obtain⟨W5,hW5⟩:∃W,w3.alloc (.cells #[.slice (some ⟨b1,0,none⟩) S.bs.length k1,.slice (some ⟨b2,0,none⟩) S.bs.length k2,.int .i64 (S.sp:Int)] 66)=W:=⟨_,rfl⟩
  have HW5:=aa hW5
  have RX5:=aa (show Row W5 (w.heap.size) 66 [.slice A1 S.bs.length c1,.slice A2 S.bs.length c2,.int .i64 (S.sp:Int)] by rw[<-hW5];exact RX4.out.alloc _)
  clear RX4
  have RV5:=aa (show Row W5 (w.heap.size+1) 38 [.int .u64 (lo X),.int .u64 (hi X)] by rw[<-hW5];exact RV4.out.alloc _)
  clear RV4
  have RZ5:=aa (show Row W5 (w.heap.size+2) 66 [.slice none 0 0,.slice none 0 0,.int .i64 0] by rw[<-hW5];exact RZ4.out.alloc _)
  clear RZ4
  have RY5:=aa (show Row W5 (w3.heap.size) 66 [.slice (some ⟨b1,0,none⟩) S.bs.length k1,.slice (some ⟨b2,0,none⟩) S.bs.length k2,.int .i64 (S.sp:Int)] by rw[<-hW5];exact Row.new w3 _ _)
  have O15:=aa (show W5.ownsRow (w.heap.size+3) 5 1 (.slice (some ⟨b1,0,none⟩) S.bs.length k1) S.bs.length (aq S.bs) by rw[<-hW5];exact bZ O13.out (ag _ _))
  clear O13
  have O25:=aa (show W5.ownsRow (w.heap.size+3) 4 1 (.slice (some ⟨b2,0,none⟩) S.bs.length k2) S.bs.length (bh S.us) by rw[<-hW5];exact bZ O23.out (ag _ _))
  clear O23
  have L5:=aa (show w3.heap.size<W5.heap.size by rw[<-hW5];simp)
  have G5:=aa B4.out.size
  have B5:=aa (show Below w.heap.size w W5 by rw[<-hW5];exact B4.out.alloc B4.out.size _)
  clear hW5
  rw[HW5.out]
  have fX0:=RX5.out.cell (k:=0) rfl
  have fX1:=RX5.out.cell (k:=1) rfl
  have fX2:=RX5.out.cell (k:=2) rfl
  have fY0:=RY5.out.cell (k:=0) rfl
  have fY1:=RY5.out.cell (k:=1) rfl
  have fY2:=RY5.out.cell (k:=2) rfl
  have fV0:=RV5.out.cell (k:=0) rfl
  have fV1:=RV5.out.cell (k:=1) rfl
  go_wp2_with fail
  go_fit (cb _ hX)
  rintro e w6 ⟨r5,rfl,ho5,hb6⟩
  have RX7:=aa (RX5.out.call hb6)
  clear RX5
  have RV7:=aa (RV5.out.call hb6)
  clear RV5
  have RZ7:=aa (RZ5.out.call hb6)
  clear RZ5
  have RY7:=aa (RY5.out.call hb6)
  clear RY5
  have O17:=aa (bZ O15.out hb6)
  clear O15
  have O27:=aa (bZ O25.out hb6)
  clear O25
  have B7:=aa (ac B5.out hb6)
  clear B5
  clear hb6
  obtain⟨b3,k3,hr5,hbb3,hblt3,hnk3,_⟩:=eu ho5 (by omega)
  subst hr5
  have O3:=aa ho5
  clear ho5
  clear fX0 fX1 fX2 fY0 fY1 fY2 fV0 fV1
  have fX0:=RX7.out.cell (k:=0) rfl
  have fX1:=RX7.out.cell (k:=1) rfl
  have fX2:=RX7.out.cell (k:=2) rfl
  have fY0:=RY7.out.cell (k:=0) rfl
  have fY1:=RY7.out.cell (k:=1) rfl
  have fY2:=RY7.out.cell (k:=2) rfl
  go_wp2_with fail
  go_loopw [12] (fun i wr=>Bk S A1 c1 A2 c2 b1 k1 b2 k2 b3 k3 W5.heap.size (bS X m) w w3.heap.size (S.sp+o) m i wr) (fun i _=>m-(intOf i).toNat)
  case atStart=>
   refine⟨0,by omega,rfl,RX7,RZ7,RY7,aa ?_,aa ?_,O3,B7⟩
   ·rw[List.take_zero,gg _ _ (by rw[dq];omega)];exact O17.out
   ·rw[List.take_zero,gg _ _ (by rw[dn,hok.out.len];omega)];exact O27.out
  case round=>
   obtain⟨k,hk,rfl,RX,RZ,RY,P1,P2,P3,BB⟩:=hrel
   clear fX0 fX1 fX2 fY0 fY1 fY2 RX7 RZ7 RY7 RV7 O17 O27 B7 O3
   by_cases hlt:k<m
   ·have fX0:=RX.out.cell (k:=0) rfl
    have fX1:=RX.out.cell (k:=1) rfl
    have fX2:=RX.out.cell (k:=2) rfl
    have fY0:=RY.out.cell (k:=0) rfl
    have fY1:=RY.out.cell (k:=1) rfl
    have fY2:=RY.out.cell (k:=2) rfl
    have hlen1:=aa P1.out.1
    have hlen2:=aa P2.out.1
    have hw1:(wr.cell? ⟨b1,S.sp+o+k,none⟩).isSome=true:=by rw[P1.out.cellAt (S.sp+o+k) (by omega),List.getElem?_eq_getElem (by rw[hlen1.out];omega)];rfl
    obtain⟨u1,hw1⟩:=Option.isSome_iff_exists.1 hw1
    have hw2:(wr.cell? ⟨b2,S.sp+o+k,none⟩).isSome=true:=by rw[P2.out.cellAt (S.sp+o+k) (by omega),List.getElem?_eq_getElem (by rw[hlen2.out];omega)];rfl
    obtain⟨u2,hw2⟩:=Option.isSome_iff_exists.1 hw2
    have hf1:wr.frozen? ⟨b1,S.sp+o+k,none⟩=false:=P1.out.frozenAt (S.sp+o+k)
    have hf2:wr.frozen? ⟨b2,S.sp+o+k,none⟩=false:=P2.out.frozenAt (S.sp+o+k)
    obtain⟨z,hz⟩:∃z,(bS X m)[k]?=some z:=⟨_,List.getElem?_eq_getElem (by rw[bH];exact hlt)⟩
    have hzc:(aq (bS X m))[k]?=some (.int .u8 z):=by simp[aq,List.getElem?_map,hz]
    have HZC:=aa hzc
    have h3:wr.cell? ⟨b3,k,none⟩=some (.int .u8 z):=by rw[P3.out.cellAt k (by omega)];exact hzc
    have hzb:=kF X m z (List.mem_of_getElem? hz)
    clear hz hzc
    have h12:=aa (show b1≠b2 from fun h=>by exact(i4 P1.out P2.out (by decide)).elim (fun h1=>by simp[Value.ownBlock] at h1) (fun h1=>h1 (by simp[Value.ownBlock,h])))
    have g12:¬(b1=b2):=h12.out
    have hwr:IntKind.i64.wrap ((S.sp:Int)+(o:Int))=(S.sp:Int)+(o:Int):=by rw[IntKind.wrap_i64];omega
    have hwm:IntKind.i64.wrap ((S.sp:Int)+(o:Int)+(k:Int))=(S.sp:Int)+(o:Int)+(k:Int):=by rw[IntKind.wrap_i64];omega
    have hb0:(0:Int)<=(S.sp:Int)+(o:Int)+(k:Int):=by omega
    have hb1:(S.sp:Int)+(o:Int)+(k:Int)<(S.bs.length:Int):=by omega
    have ht1:((S.sp:Int)+(o:Int)+(k:Int)).toNat=S.sp+o+k:=by omega
    go_upto_region 8 with(fail)
    go_region
    clear hw1 hw2 hf1 hf2 h3
    go_wp2_with fail
    have s1:=P1.out.stored (S.sp+o+k) (.int .u8 z)
    rw[iG _ _ _ _ (Value.int .u8 z) (by rw[dq,dq,bH];omega) HZC.out] at s1
    have s2:=(P2.out.kept s1.2 (.inr (by simp[Value.ownBlock];exact fun h=>g12 h.symm))).stored (S.sp+o+k) (.bool true)
    rw[iG _ _ _ _ (Value.bool true) (by rw[dn,hok.out.len];simp;omega) (by rw[List.getElem?_replicate];simp[hlt])] at s2
    have n1:=kV P1.out RY.out (by decide)
    have n2:=kV P2.out RY.out (by decide)
    have n3:(Value.slice (some ⟨b3,0,none⟩) m k3).ownBlock=none\/(Value.slice (some ⟨b3,0,none⟩) m k3).ownBlock≠some b1:=by right;have:=L5.out;simp[Value.ownBlock];omega
    have n4:(Value.slice (some ⟨b3,0,none⟩) m k3).ownBlock=none\/(Value.slice (some ⟨b3,0,none⟩) m k3).ownBlock≠some b2:=by right;have:=L5.out;simp[Value.ownBlock];omega
    refine⟨⟨k+1,by omega,by go_num,?_,?_,?_,?_,?_,?_,?_⟩,by simp[intOf];omega⟩
    ·exact aa (((RX.out.far (p:=⟨b1,S.sp+o+k,none⟩) (by simp;omega) _).far (p:=⟨b2,S.sp+o+k,none⟩) (by simp;omega) _).drew)
    ·exact aa (((RZ.out.far (p:=⟨b1,S.sp+o+k,none⟩) (by simp;omega) _).far (p:=⟨b2,S.sp+o+k,none⟩) (by simp;omega) _).drew)
    ·exact aa (((RY.out.far (p:=⟨b1,S.sp+o+k,none⟩) (fun h=>n1 (by rw[h];rfl)) _).far (p:=⟨b2,S.sp+o+k,none⟩) (fun h=>n2 (by rw[h];rfl)) _).drew)
    ·exact aa (gI (s1.1.kept s2.2 (.inr (by simp[Value.ownBlock];exact g12))) 1)
    ·exact aa (gI s2.1 1)
    ·exact aa (gI ((P3.out.kept s1.2 n3).kept s2.2 n4) 1)
    ·exact aa (am ((BB.out.setCell (p:=⟨b1,S.sp+o+k,none⟩) (by simp;omega) _).setCell (p:=⟨b2,S.sp+o+k,none⟩) (by simp;omega) _) 1)
   ·obtain rfl:k=m:=by omega
    rw[List.take_of_length_le (by rw[dq,bH];omega)] at P1
    rw[List.take_of_length_le (by simp)] at P2
    have fX0:=RX.out.cell (k:=0) rfl
    have fX1:=RX.out.cell (k:=1) rfl
    have fX2:=RX.out.cell (k:=2) rfl
    have fY0:=RY.out.cell (k:=0) rfl
    have fY1:=RY.out.cell (k:=1) rfl
    have fY2:=RY.out.cell (k:=2) rfl
    have PL:=aa (iq (S:=S) (a:=S.sp+o) (zs:=bS X k) (by rw[bH];exact hfit))
    have PS:=aa (show(aQ S (S.sp+o) k X).bs.length=S.bs.length from PL.out)
    have OK:=aa (hok.out.store (X:=X) (a:=S.sp+o) (n:=k) hfit)
    clear fX0 fX1 fX2 fY0 fY1 fY2
    have fX0:=RX.out.cell (k:=0) rfl
    have fX1:=RX.out.cell (k:=1) rfl
    have fX2:=RX.out.cell (k:=2) rfl
    have fY0:=RY.out.cell (k:=0) rfl
    have fY1:=RY.out.cell (k:=1) rfl
    have fY2:=RY.out.cell (k:=2) rfl
    have fZ0:=RZ.out.cell (k:=0) rfl
    have fZ1:=RZ.out.cell (k:=1) rfl
    have fZ2:=RZ.out.cell (k:=2) rfl
    have yZ0:=RZ.out.free 0
    have yZ1:=RZ.out.free 1
    have yZ2:=RZ.out.free 2
    go_wp2_with fail
    obtain⟨W8,hW8⟩:∃W,((wr.setCell ⟨w.heap.size+2,0,none⟩ (.slice (some ⟨b1,0,none⟩) S.bs.length k1)).setCell ⟨w.heap.size+2,1,none⟩ (.slice (some ⟨b2,0,none⟩) S.bs.length k2)).setCell ⟨w.heap.size+2,2,none⟩ (.int .i64 (S.sp:Int))=W:=⟨_,rfl⟩
    have HW8:=aa hW8
    have RZ8:=aa (show Row W8 (w.heap.size+2) 66 [.slice (some ⟨b1,0,none⟩) S.bs.length k1,.slice (some ⟨b2,0,none⟩) S.bs.length k2,.int .i64 (S.sp:Int)] by rw[<-hW8];exact(((RZ.out).set_ 0 _).set_ 1 _).set_ 2 _)
    have RX8:=aa (show Row W8 (w.heap.size) 66 [.slice A1 S.bs.length c1,.slice A2 S.bs.length c2,.int .i64 (S.sp:Int)] by rw[<-hW8];exact(((RX.out).far (p:=⟨w.heap.size+2,0,none⟩) (by have:=DZ.out;simp<;>omega) _).far (p:=⟨w.heap.size+2,1,none⟩) (by have:=DZ.out;simp<;>omega) _).far (p:=⟨w.heap.size+2,2,none⟩) (by have:=DZ.out;simp<;>omega) _)
    clear RX
    have RY8:=aa (show Row W8 (w3.heap.size) 66 [.slice (some ⟨b1,0,none⟩) S.bs.length k1,.slice (some ⟨b2,0,none⟩) S.bs.length k2,.int .i64 (S.sp:Int)] by rw[<-hW8];exact(((RY.out).far (p:=⟨w.heap.size+2,0,none⟩) (by have:=DZ.out;simp<;>omega) _).far (p:=⟨w.heap.size+2,1,none⟩) (by have:=DZ.out;simp<;>omega) _).far (p:=⟨w.heap.size+2,2,none⟩) (by have:=DZ.out;simp<;>omega) _)
    clear RY
    have O18:=aa (show W8.ownsRow (w.heap.size+3) 5 1 (.slice (some ⟨b1,0,none⟩) S.bs.length k1) S.bs.length (splice (aq S.bs) (S.sp+o) (aq (bS X k))) by rw[<-hW8];exact bY (bY (bY (P1.out) (by omega)) (by omega)) (by omega))
    clear P1
    have O28:=aa (show W8.ownsRow (w.heap.size+3) 4 1 (.slice (some ⟨b2,0,none⟩) S.bs.length k2) S.bs.length (splice (bh S.us) (S.sp+o) (List.replicate k (Value.bool true))) by rw[<-hW8];exact bY (bY (bY (P2.out) (by omega)) (by omega)) (by omega))
    clear P2
    have B8:=aa (show Below w.heap.size w W8 by rw[<-hW8];exact ay (ay (ay (BB.out) (by omega)) (by omega)) (by omega))
    clear hW8 RZ
    clear fX0 fX1 fX2 fY0 fY1 fY2 fZ0 fZ1 fZ2 yZ0 yZ1 yZ2
    have fZ0:=RZ8.out.cell (k:=0) rfl
    have fZ1:=RZ8.out.cell (k:=1) rfl
    have fZ2:=RZ8.out.cell (k:=2) rfl
    rw[HW8.out]
    refine bodyPost_ret (v:=.tuple #[.agg #[.slice (some ⟨b1,0,none⟩) S.bs.length k1,.slice (some ⟨b2,0,none⟩) S.bs.length k2,.int .i64 (S.sp:Int)],.int .i64 0]) (by simp[results,Tryz.results75,go_sem,fZ0,fZ1,fZ2]) rfl ?_
    exact⟨some ⟨b1,0,none⟩,k1,some ⟨b2,0,none⟩,k2,by rw[HE.out,HR.out];show _=Ending.returned (.tuple #[kv (some ⟨b1,0,none⟩) (aQ S (S.sp+o) k X).bs.length k1 (some ⟨b2,0,none⟩) (aQ S (S.sp+o) k X).bs.length k2 (S.sp:Int),_]);rw[PS.out],by rw[HR.out];exact StkOwn.at_ ⟨OK.out,(by rw[PS.out,show(aQ S (S.sp+o) k X).bs=splice S.bs (S.sp+o) (bS X k) from rfl,iA];exact O18.out),(by rw[PS.out,show(aQ S (S.sp+o) k X).us=splice S.us (S.sp+o) (List.replicate (bS X k).length true) from rfl,fj,ic,bH];exact O28.out)⟩,B8.out,fun _=>by rw[HR.out];exact⟨OK.out,dW (base:=w.heap.size+3) (by rw[PS.out,show(aQ S (S.sp+o) k X).bs=splice S.bs (S.sp+o) (bS X k) from rfl,iA];exact O18.out) (by omega),dW (base:=w.heap.size+3) (by rw[PS.out,show(aQ S (S.sp+o) k X).us=splice S.us (S.sp+o) (List.replicate (bS X k).length true) from rfl,fj,ic,bH];exact O28.out) (by omega)⟩⟩
end
section
attribute [local go_sem ↓] Go.wp_at_zero Go.wp_at_succ
theorem tk {A1 A2:Option Addr} {c1 c2:Nat} {S:Sk} (dst src n:Int) (hd:isI dst) (hsr:isI src) (w:World) (hS:Hid (StkAt w w.heap.size A1 c1 A2 c2 S)) :
  Calls Tryz.prog 76 #[sv A1 c1 A2 c2 S,.int .i64 dst,.int .i64 src,.int .i64 n] w (n6 (iK S dst src n) (eF S dst src n) (iL S dst src n) w):=by
 have hok:=aa hS.out.ok
 have hmost:=hS.out.ok.most
 have hsp:=hS.out.ok.sp
 have hm1:=hS.out.m1
 have hm2:=hS.out.m2
 obtain⟨W0,hW0⟩:∃W,(w.alloc (.cells #[.slice A1 S.bs.length c1,.slice A2 S.bs.length c2,.int .i64 (S.sp:Int)] 66)).alloc (.cells #[.slice none 0 0,.slice none 0 0,.int .i64 0] 66)=W:=⟨_,rfl⟩
 have HW0:=aa hW0
 have RX0:=aa (show Row W0 (w.heap.size) 66 [.slice A1 S.bs.length c1,.slice A2 S.bs.length c2,.int .i64 (S.sp:Int)] by rw[<-hW0];exact((Row.new w 66 [.slice A1 S.bs.length c1,.slice A2 S.bs.length c2,.int .i64 (S.sp:Int)]).alloc _))
 have RZ0:=aa (show Row W0 (w.heap.size+1) 66 [.slice none 0 0,.slice none 0 0,.int .i64 0] by rw[<-hW0];exact(Row.new (w.alloc (.cells #[.slice A1 S.bs.length c1,.slice A2 S.bs.length c2,.int .i64 (S.sp:Int)] 66)) 66 [.slice none 0 0,.slice none 0 0,.int .i64 0]).at_ (by simp))
 have B0:=aa (show Below w.heap.size w W0 by rw[<-hW0];exact aP w _ _)
 have Z0:=aa (show W0.heap.size=w.heap.size+2 by rw[<-hW0];simp)
 clear hW0
 have cf:=fun(W:World)=>gW (A1:=A1) (A2:=A2) (c1:=c1) (c2:=c2) dst n W hok hd
 have cg:=fun(W:World)=>gW (A1:=A1) (A2:=A2) (c1:=c1) (c2:=c2) src n W hok hsr
 cases hf:bN S dst n with
 | false=>
  obtain⟨hE,hB,hR⟩:=lu (dst:=dst) (src:=src) (n:=n) (S:=S) (.inl hf)
  have HE:=aa hE
  have HB:=aa hB
  have HR:=aa hR
  rw[hf] at cf
  clear hf hE hB hR
  go_enter Tryz.func76,Tryz.ntmps76
  go_upto_region 1 with(fail)
  rw[HW0.out]
  have fX0:=RX0.out.cell (k:=0) rfl
  have fX1:=RX0.out.cell (k:=1) rfl
  have fX2:=RX0.out.cell (k:=2) rfl
  go_wp2_with fail
  refine(cf _).mono ?_
  rintro e w1 ⟨rfl,hb1⟩
  have RX2:=aa (RX0.out.call hb1)
  clear RX0
  have RZ2:=aa (RZ0.out.call hb1)
  clear RZ0
  have B2:=aa (ac B0.out hb1)
  clear B0
  clear hb1
  clear fX0 fX1 fX2
  have fX0:=RX2.out.cell (k:=0) rfl
  have fX1:=RX2.out.cell (k:=1) rfl
  have fX2:=RX2.out.cell (k:=2) rfl
  have fZ0:=RZ2.out.cell (k:=0) rfl
  have fZ1:=RZ2.out.cell (k:=1) rfl
  have fZ2:=RZ2.out.cell (k:=2) rfl
  have yZ0:=RZ2.out.free 0
  have yZ1:=RZ2.out.free 1
  have yZ2:=RZ2.out.free 2
  go_wp2_with fail
  obtain⟨W3,hW3⟩:∃W,((w1.setCell ⟨w.heap.size+1,0,none⟩ (.slice A1 S.bs.length c1)).setCell ⟨w.heap.size+1,1,none⟩ (.slice A2 S.bs.length c2)).setCell ⟨w.heap.size+1,2,none⟩ (.int .i64 (S.sp:Int))=W:=⟨_,rfl⟩
  have HW3:=aa hW3
  have RZ3:=aa (show Row W3 (w.heap.size+1) 66 [.slice A1 S.bs.length c1,.slice A2 S.bs.length c2,.int .i64 (S.sp:Int)] by rw[<-hW3];exact(((RZ2.out).set_ 0 _).set_ 1 _).set_ 2 _)
  have RX3:=aa (show Row W3 (w.heap.size) 66 [.slice A1 S.bs.length c1,.slice A2 S.bs.length c2,.int .i64 (S.sp:Int)] by rw[<-hW3];exact(((RX2.out).far (p:=⟨w.heap.size+1,0,none⟩) (by simp) _).far (p:=⟨w.heap.size+1,1,none⟩) (by simp) _).far (p:=⟨w.heap.size+1,2,none⟩) (by simp) _)
  clear RX2
  have B3:=aa (show Below w.heap.size w W3 by rw[<-hW3];exact ay (ay (ay (B2.out) (by omega)) (by omega)) (by omega))
  clear hW3 RZ2
  clear fX0 fX1 fX2 fZ0 fZ1 fZ2 yZ0 yZ1 yZ2
  have fZ0:=RZ3.out.cell (k:=0) rfl
  have fZ1:=RZ3.out.cell (k:=1) rfl
  have fZ2:=RZ3.out.cell (k:=2) rfl
  rw[HW3.out]
  refine bodyPost_ret (v:=.tuple #[.agg #[.slice A1 S.bs.length c1,.slice A2 S.bs.length c2,.int .i64 (S.sp:Int)],.bool false,.int .i64 4]) (by simp[results,Tryz.results76,go_sem,fZ0,fZ1,fZ2]) rfl ?_
  exact⟨A1,c1,A2,c2,by rw[HE.out,HB.out,HR.out],by rw[HR.out];exact hS.out.up B3.out,B3.out,fun h0=>by rw[HB.out] at h0;cases h0⟩
 | true=>
  cases hg:bN S src n with
  | false=>
   obtain⟨hE,hB,hR⟩:=lu (dst:=dst) (src:=src) (n:=n) (S:=S) (.inr hg)
   have HE:=aa hE
   have HB:=aa hB
   have HR:=aa hR
   rw[hg] at cg
   rw[hf] at cf
   clear hf hg hE hB hR
   go_enter Tryz.func76,Tryz.ntmps76
   go_upto_region 1 with(fail)
   rw[HW0.out]
   have fX0:=RX0.out.cell (k:=0) rfl
   have fX1:=RX0.out.cell (k:=1) rfl
   have fX2:=RX0.out.cell (k:=2) rfl
   go_wp2_with fail
   refine(cf _).mono ?_
   rintro e w1 ⟨rfl,hb1⟩
   have RX2:=aa (RX0.out.call hb1)
   clear RX0
   have RZ2:=aa (RZ0.out.call hb1)
   clear RZ0
   have B2:=aa (ac B0.out hb1)
   clear B0
   clear hb1
   clear fX0 fX1 fX2
   have fX0:=RX2.out.cell (k:=0) rfl
   have fX1:=RX2.out.cell (k:=1) rfl
   have fX2:=RX2.out.cell (k:=2) rfl
   go_wp2_with fail
   refine(cg _).mono ?_
   rintro e w3 ⟨rfl,hb3⟩
   have RX4:=aa (RX2.out.call hb3)
   clear RX2
   have RZ4:=aa (RZ2.out.call hb3)
   clear RZ2
   have B4:=aa (ac B2.out hb3)
   clear B2
   clear hb3
   clear fX0 fX1 fX2
   have fX0:=RX4.out.cell (k:=0) rfl
   have fX1:=RX4.out.cell (k:=1) rfl
   have fX2:=RX4.out.cell (k:=2) rfl
   have fZ0:=RZ4.out.cell (k:=0) rfl
   have fZ1:=RZ4.out.cell (k:=1) rfl
   have fZ2:=RZ4.out.cell (k:=2) rfl
   have yZ0:=RZ4.out.free 0
   have yZ1:=RZ4.out.free 1
   have yZ2:=RZ4.out.free 2
   go_wp2_with fail
   obtain⟨W5,hW5⟩:∃W,((w3.setCell ⟨w.heap.size+1,0,none⟩ (.slice A1 S.bs.length c1)).setCell ⟨w.heap.size+1,1,none⟩ (.slice A2 S.bs.length c2)).setCell ⟨w.heap.size+1,2,none⟩ (.int .i64 (S.sp:Int))=W:=⟨_,rfl⟩
   have HW5:=aa hW5
   have RZ5:=aa (show Row W5 (w.heap.size+1) 66 [.slice A1 S.bs.length c1,.slice A2 S.bs.length c2,.int .i64 (S.sp:Int)] by rw[<-hW5];exact(((RZ4.out).set_ 0 _).set_ 1 _).set_ 2 _)
   have RX5:=aa (show Row W5 (w.heap.size) 66 [.slice A1 S.bs.length c1,.slice A2 S.bs.length c2,.int .i64 (S.sp:Int)] by rw[<-hW5];exact(((RX4.out).far (p:=⟨w.heap.size+1,0,none⟩) (by simp) _).far (p:=⟨w.heap.size+1,1,none⟩) (by simp) _).far (p:=⟨w.heap.size+1,2,none⟩) (by simp) _)
   clear RX4
   have B5:=aa (show Below w.heap.size w W5 by rw[<-hW5];exact ay (ay (ay (B4.out) (by omega)) (by omega)) (by omega))
   clear hW5 RZ4
   clear fX0 fX1 fX2 fZ0 fZ1 fZ2 yZ0 yZ1 yZ2
   have fZ0:=RZ5.out.cell (k:=0) rfl
   have fZ1:=RZ5.out.cell (k:=1) rfl
   have fZ2:=RZ5.out.cell (k:=2) rfl
   rw[HW5.out]
   refine bodyPost_ret (v:=.tuple #[.agg #[.slice A1 S.bs.length c1,.slice A2 S.bs.length c2,.int .i64 (S.sp:Int)],.bool false,.int .i64 4]) (by simp[results,Tryz.results76,go_sem,fZ0,fZ1,fZ2]) rfl ?_
   exact⟨A1,c1,A2,c2,by rw[HE.out,HB.out,HR.out],by rw[HR.out];exact hS.out.up B5.out,B5.out,fun h0=>by rw[HB.out] at h0;cases h0⟩
  | true=>
   obtain⟨o,m,rfl,rfl,hm0,hm16,hfit⟩:=gM hg
   obtain⟨d,m',rfl,hmm,_,_,hfit2⟩:=gM hf
   obtain rfl:m=m':=by omega
   clear hmm
   cases hu:dg S (S.sp+o) m with
   | false=>
    obtain⟨hE,hB,hR⟩:=kr hf hg hu
    obtain⟨lE,lB,lV⟩:=eT hg hu
    have HE:=aa hE
    have HB:=aa hB
    have HR:=aa hR
    have cl:=fun(W:World) (HS:Hid (StkAt W W.heap.size A1 c1 A2 c2 S))=>kR (o:Int) (m:Int) hsr W HS
    unfold cS at cl
    rw[lE,lB,lV] at cl
    rw[hg] at cg
    rw[hf] at cf
    clear hf hg hu hE hB hR lE lB lV
    go_enter Tryz.func76,Tryz.ntmps76
    go_upto_region 1 with(fail)
    rw[HW0.out]
    have fX0:=RX0.out.cell (k:=0) rfl
    have fX1:=RX0.out.cell (k:=1) rfl
    have fX2:=RX0.out.cell (k:=2) rfl
    go_wp2_with fail
    refine(cf _).mono ?_
    rintro e w1 ⟨rfl,hb1⟩
    have RX2:=aa (RX0.out.call hb1)
    clear RX0
    have RZ2:=aa (RZ0.out.call hb1)
    clear RZ0
    have B2:=aa (ac B0.out hb1)
    clear B0
    clear hb1
    clear fX0 fX1 fX2
    have fX0:=RX2.out.cell (k:=0) rfl
    have fX1:=RX2.out.cell (k:=1) rfl
    have fX2:=RX2.out.cell (k:=2) rfl
    go_wp2_with fail
    refine(cg _).mono ?_
    rintro e w3 ⟨rfl,hb3⟩
    have RX4:=aa (RX2.out.call hb3)
    clear RX2
    have RZ4:=aa (RZ2.out.call hb3)
    clear RZ2
    have B4:=aa (ac B2.out hb3)
    clear B2
    clear hb3
    clear fX0 fX1 fX2
    have fX0:=RX4.out.cell (k:=0) rfl
    have fX1:=RX4.out.cell (k:=1) rfl
    have fX2:=RX4.out.cell (k:=2) rfl
    go_wp2_with fail
    refine(cl _ (aa (hS.out.up B4.out))).mono ?_
    rintro e w5 ⟨rfl,hb5⟩
    have RX6:=aa (RX4.out.call hb5)
    clear RX4
    have RZ6:=aa (RZ4.out.call hb5)
    clear RZ4
    have B6:=aa (ac B4.out hb5)
    clear B4
    clear hb5
    go_upto_region 4 with(fail)
    obtain⟨W7,hW7⟩:∃W,w5.alloc (.cells #[.int .u64 (lo 0),.int .u64 (hi 0)] 38)=W:=⟨_,rfl⟩
    have HW7:=aa hW7
    have RX7:=aa (show Row W7 (w.heap.size) 66 [.slice A1 S.bs.length c1,.slice A2 S.bs.length c2,.int .i64 (S.sp:Int)] by rw[<-hW7];exact RX6.out.alloc _)
    clear RX6
    have RZ7:=aa (show Row W7 (w.heap.size+1) 66 [.slice none 0 0,.slice none 0 0,.int .i64 0] by rw[<-hW7];exact RZ6.out.alloc _)
    clear RZ6
    have RY7:=aa (show Row W7 (w5.heap.size) 38 [.int .u64 (lo 0),.int .u64 (hi 0)] by rw[<-hW7];exact Row.new w5 _ _)
    have L7:=aa (show w5.heap.size<W7.heap.size by rw[<-hW7];simp)
    have G7:=aa B6.out.size
    have B7:=aa (show Below w.heap.size w W7 by rw[<-hW7];exact B6.out.alloc B6.out.size _)
    clear hW7
    rw[HW7.out]
    clear fX0 fX1 fX2
    have fX0:=RX7.out.cell (k:=0) rfl
    have fX1:=RX7.out.cell (k:=1) rfl
    have fX2:=RX7.out.cell (k:=2) rfl
    have fZ0:=RZ7.out.cell (k:=0) rfl
    have fZ1:=RZ7.out.cell (k:=1) rfl
    have fZ2:=RZ7.out.cell (k:=2) rfl
    have yZ0:=RZ7.out.free 0
    have yZ1:=RZ7.out.free 1
    have yZ2:=RZ7.out.free 2
    go_wp2_with fail
    obtain⟨W8,hW8⟩:∃W,((W7.setCell ⟨w.heap.size+1,0,none⟩ (.slice A1 S.bs.length c1)).setCell ⟨w.heap.size+1,1,none⟩ (.slice A2 S.bs.length c2)).setCell ⟨w.heap.size+1,2,none⟩ (.int .i64 (S.sp:Int))=W:=⟨_,rfl⟩
    have HW8:=aa hW8
    have RZ8:=aa (show Row W8 (w.heap.size+1) 66 [.slice A1 S.bs.length c1,.slice A2 S.bs.length c2,.int .i64 (S.sp:Int)] by rw[<-hW8];exact(((RZ7.out).set_ 0 _).set_ 1 _).set_ 2 _)
    have RX8:=aa (show Row W8 (w.heap.size) 66 [.slice A1 S.bs.length c1,.slice A2 S.bs.length c2,.int .i64 (S.sp:Int)] by rw[<-hW8];exact(((RX7.out).far (p:=⟨w.heap.size+1,0,none⟩) (by simp) _).far (p:=⟨w.heap.size+1,1,none⟩) (by simp) _).far (p:=⟨w.heap.size+1,2,none⟩) (by simp) _)
    clear RX7
    have B8:=aa (show Below w.heap.size w W8 by rw[<-hW8];exact ay (ay (ay (B7.out) (by omega)) (by omega)) (by omega))
    clear hW8 RZ7
    clear fX0 fX1 fX2 fZ0 fZ1 fZ2 yZ0 yZ1 yZ2
    have fZ0:=RZ8.out.cell (k:=0) rfl
    have fZ1:=RZ8.out.cell (k:=1) rfl
    have fZ2:=RZ8.out.cell (k:=2) rfl
    rw[HW8.out]
    refine bodyPost_ret (v:=.tuple #[.agg #[.slice A1 S.bs.length c1,.slice A2 S.bs.length c2,.int .i64 (S.sp:Int)],.bool false,.int .i64 0]) (by simp[results,Tryz.results76,go_sem,fZ0,fZ1,fZ2]) rfl ?_
    exact⟨A1,c1,A2,c2,by rw[HE.out,HB.out,HR.out],by rw[HR.out];exact hS.out.up B8.out,B8.out,fun h0=>by rw[HB.out] at h0;cases h0⟩
   | true=>
    obtain⟨hE,hB,hR⟩:=lZ hf hg hu
    obtain⟨lE,lB,lV⟩:=gC hg hu
    obtain⟨V,hV⟩:∃V,aO ((dz S (S.sp+o) m).take 16)=V:=⟨_,rfl⟩
    rw[hV] at lV
    have hVl:=aa (show V<ae by rw[<-hV];exact nw _ (fun z hz=>iy hok.out _ _ z (List.mem_of_mem_take hz)) (by rw[List.length_take];omega))
    have hmv:=aa (show iU S (S.sp+d) (dz S (S.sp+o) m)=aQ S (S.sp+d) m V from(yH hok.out (dst:=S.sp+d) hfit).elim (fun h=>by rw[<-h,hV]) (fun h=>by omega))
    have cs:=fun(W:World) (HS:Hid (StkAt W W.heap.size A1 c1 A2 c2 S))=>mG (d:Int) (m:Int) V hVl.out hd W HS
    rw[(gF (X:=V) hf).1,(gF (X:=V) hf).2] at cs
    rw[hmv.out] at hR
    clear hV
    have HE:=aa hE
    have HB:=aa hB
    have HR:=aa hR
    have cl:=fun(W:World) (HS:Hid (StkAt W W.heap.size A1 c1 A2 c2 S))=>kR (o:Int) (m:Int) hsr W HS
    unfold cS at cl
    rw[lE,lB,lV] at cl
    rw[hg] at cg
    rw[hf] at cf
    clear hf hg hu hE hB hR lE lB lV
    go_enter Tryz.func76,Tryz.ntmps76
    go_upto_region 1 with(fail)
    rw[HW0.out]
    have fX0:=RX0.out.cell (k:=0) rfl
    have fX1:=RX0.out.cell (k:=1) rfl
    have fX2:=RX0.out.cell (k:=2) rfl
    go_wp2_with fail
    refine(cf _).mono ?_
    rintro e w1 ⟨rfl,hb1⟩
    have RX2:=aa (RX0.out.call hb1)
    clear RX0
    have RZ2:=aa (RZ0.out.call hb1)
    clear RZ0
    have B2:=aa (ac B0.out hb1)
    clear B0
    clear hb1
    clear fX0 fX1 fX2
    have fX0:=RX2.out.cell (k:=0) rfl
    have fX1:=RX2.out.cell (k:=1) rfl
    have fX2:=RX2.out.cell (k:=2) rfl
    go_wp2_with fail
    refine(cg _).mono ?_
    rintro e w3 ⟨rfl,hb3⟩
    have RX4:=aa (RX2.out.call hb3)
    clear RX2
    have RZ4:=aa (RZ2.out.call hb3)
    clear RZ2
    have B4:=aa (ac B2.out hb3)
    clear B2
    clear hb3
    clear fX0 fX1 fX2
    have fX0:=RX4.out.cell (k:=0) rfl
    have fX1:=RX4.out.cell (k:=1) rfl
    have fX2:=RX4.out.cell (k:=2) rfl
    go_wp2_with fail
    refine(cl _ (aa (hS.out.up B4.out))).mono ?_
    rintro e w5 ⟨rfl,hb5⟩
    have RX6:=aa (RX4.out.call hb5)
    clear RX4
    have RZ6:=aa (RZ4.out.call hb5)
    clear RZ4
    have B6:=aa (ac B4.out hb5)
    clear B4
    clear hb5
    go_upto_region 4 with(fail)
    obtain⟨W7,hW7⟩:∃W,w5.alloc (.cells #[.int .u64 (lo V),.int .u64 (hi V)] 38)=W:=⟨_,rfl⟩
    have HW7:=aa hW7
    have RX7:=aa (show Row W7 (w.heap.size) 66 [.slice A1 S.bs.length c1,.slice A2 S.bs.length c2,.int .i64 (S.sp:Int)] by rw[<-hW7];exact RX6.out.alloc _)
    clear RX6
    have RZ7:=aa (show Row W7 (w.heap.size+1) 66 [.slice none 0 0,.slice none 0 0,.int .i64 0] by rw[<-hW7];exact RZ6.out.alloc _)
    clear RZ6
    have RY7:=aa (show Row W7 (w5.heap.size) 38 [.int .u64 (lo V),.int .u64 (hi V)] by rw[<-hW7];exact Row.new w5 _ _)
    have L7:=aa (show w5.heap.size<W7.heap.size by rw[<-hW7];simp)
    have G7:=aa B6.out.size
    have B7:=aa (show Below w.heap.size w W7 by rw[<-hW7];exact B6.out.alloc B6.out.size _)
    have HS7:=aa B7.out.size
    clear hW7
    rw[HW7.out]
    clear fX0 fX1 fX2
    have fX0:=RX7.out.cell (k:=0) rfl
    have fX1:=RX7.out.cell (k:=1) rfl
    have fX2:=RX7.out.cell (k:=2) rfl
    have fY0:=RY7.out.cell (k:=0) rfl
    have fY1:=RY7.out.cell (k:=1) rfl
    go_wp2_with fail
    go_fit (cs _ (aa (hS.out.up B7.out)))
    rintro e w8 ⟨a1,k1,a2,k2,rfl,-,hb8,hat⟩
    have hzl:=aa (show w.heap.size+1<W7.heap.size from RZ7.out.lt)
    have RX9:=aa (RX7.out.call hb8)
    clear RX7
    have RZ9:=aa (RZ7.out.call hb8)
    clear RZ7
    have RY9:=aa (RY7.out.call hb8)
    clear RY7
    have B9:=aa (ac B7.out hb8)
    clear B7
    clear hb8
    have PL:=aa (show(aQ S (S.sp+d) m V).bs.length=S.bs.length from iq (S:=S) (a:=S.sp+d) (zs:=bS V m) (by rw[bH];exact hfit2))
    have SA:=aa (hat rfl)
    clear hat
    have O1a:=aa SA.out.o1
    have O2a:=aa SA.out.o2
    have DY:=aa (show w.heap.size+1<w8.heap.size from RZ9.out.lt)
    go_upto_region 7 with(fail)
    obtain⟨W10,hW10⟩:∃W,w8.alloc (.cells #[.slice a1 (aQ S (S.sp+d) m V).bs.length k1,.slice a2 (aQ S (S.sp+d) m V).bs.length k2,.int .i64 ((aQ S (S.sp+d) m V).sp:Int)] 66)=W:=⟨_,rfl⟩
    have HW10:=aa hW10
    have RX10:=aa (show Row W10 (w.heap.size) 66 [.slice A1 S.bs.length c1,.slice A2 S.bs.length c2,.int .i64 (S.sp:Int)] by rw[<-hW10];exact RX9.out.alloc _)
    clear RX9
    have RZ10:=aa (show Row W10 (w.heap.size+1) 66 [.slice none 0 0,.slice none 0 0,.int .i64 0] by rw[<-hW10];exact RZ9.out.alloc _)
    clear RZ9
    have RY10:=aa (show Row W10 (w5.heap.size) 38 [.int .u64 (lo V),.int .u64 (hi V)] by rw[<-hW10];exact RY9.out.alloc _)
    clear RY9
    have RQ10:=aa (show Row W10 (w8.heap.size) 66 [.slice a1 (aQ S (S.sp+d) m V).bs.length k1,.slice a2 (aQ S (S.sp+d) m V).bs.length k2,.int .i64 ((aQ S (S.sp+d) m V).sp:Int)] by rw[<-hW10];exact Row.new w8 _ _)
    have O110:=aa (show W10.ownsRow W7.heap.size 5 1 (.slice a1 (aQ S (S.sp+d) m V).bs.length k1) (aQ S (S.sp+d) m V).bs.length (aq (aQ S (S.sp+d) m V).bs) by rw[<-hW10];exact bZ O1a.out (ag _ _))
    clear O1a
    have O210:=aa (show W10.ownsRow W7.heap.size 4 1 (.slice a2 (aQ S (S.sp+d) m V).bs.length k2) (aQ S (S.sp+d) m V).bs.length (bh (aQ S (S.sp+d) m V).us) by rw[<-hW10];exact bZ O2a.out (ag _ _))
    clear O2a
    have L10:=aa (show w8.heap.size<W10.heap.size by rw[<-hW10];simp)
    have G10:=aa B9.out.size
    have B10:=aa (show Below w.heap.size w W10 by rw[<-hW10];exact B9.out.alloc B9.out.size _)
    clear hW10
    rw[HW10.out]
    clear fX0 fX1 fX2 fY0 fY1
    have fQ0:=RQ10.out.cell (k:=0) rfl
    have fQ1:=RQ10.out.cell (k:=1) rfl
    have fQ2:=RQ10.out.cell (k:=2) rfl
    have fZ0:=RZ10.out.cell (k:=0) rfl
    have fZ1:=RZ10.out.cell (k:=1) rfl
    have fZ2:=RZ10.out.cell (k:=2) rfl
    have yZ0:=RZ10.out.free 0
    have yZ1:=RZ10.out.free 1
    have yZ2:=RZ10.out.free 2
    go_wp2_with fail
    obtain⟨W11,hW11⟩:∃W,((W10.setCell ⟨w.heap.size+1,0,none⟩ (.slice a1 (aQ S (S.sp+d) m V).bs.length k1)).setCell ⟨w.heap.size+1,1,none⟩ (.slice a2 (aQ S (S.sp+d) m V).bs.length k2)).setCell ⟨w.heap.size+1,2,none⟩ (.int .i64 ((aQ S (S.sp+d) m V).sp:Int))=W:=⟨_,rfl⟩
    have HW11:=aa hW11
    have RZ11:=aa (show Row W11 (w.heap.size+1) 66 [.slice a1 (aQ S (S.sp+d) m V).bs.length k1,.slice a2 (aQ S (S.sp+d) m V).bs.length k2,.int .i64 ((aQ S (S.sp+d) m V).sp:Int)] by rw[<-hW11];exact(((RZ10.out).set_ 0 _).set_ 1 _).set_ 2 _)
    have RQ11:=aa (show Row W11 (w8.heap.size) 66 [.slice a1 (aQ S (S.sp+d) m V).bs.length k1,.slice a2 (aQ S (S.sp+d) m V).bs.length k2,.int .i64 ((aQ S (S.sp+d) m V).sp:Int)] by rw[<-hW11];exact(((RQ10.out).far (p:=⟨w.heap.size+1,0,none⟩) (by have:=DY.out;simp<;>omega) _).far (p:=⟨w.heap.size+1,1,none⟩) (by have:=DY.out;simp<;>omega) _).far (p:=⟨w.heap.size+1,2,none⟩) (by have:=DY.out;simp<;>omega) _)
    clear RQ10
    have O111:=aa (show W11.ownsRow W7.heap.size 5 1 (.slice a1 (aQ S (S.sp+d) m V).bs.length k1) (aQ S (S.sp+d) m V).bs.length (aq (aQ S (S.sp+d) m V).bs) by rw[<-hW11];exact bY (bY (bY (O110.out) hzl.out) hzl.out) hzl.out)
    clear O110
    have O211:=aa (show W11.ownsRow W7.heap.size 4 1 (.slice a2 (aQ S (S.sp+d) m V).bs.length k2) (aQ S (S.sp+d) m V).bs.length (bh (aQ S (S.sp+d) m V).us) by rw[<-hW11];exact bY (bY (bY (O210.out) hzl.out) hzl.out) hzl.out)
    clear O210
    have B11:=aa (show Below w.heap.size w W11 by rw[<-hW11];exact ay (ay (ay (B10.out) (by omega)) (by omega)) (by omega))
    clear hW11 RZ10
    clear fQ0 fQ1 fQ2 fZ0 fZ1 fZ2 yZ0 yZ1 yZ2
    have fZ0:=RZ11.out.cell (k:=0) rfl
    have fZ1:=RZ11.out.cell (k:=1) rfl
    have fZ2:=RZ11.out.cell (k:=2) rfl
    rw[HW11.out]
    refine bodyPost_ret (v:=.tuple #[.agg #[.slice a1 (aQ S (S.sp+d) m V).bs.length k1,.slice a2 (aQ S (S.sp+d) m V).bs.length k2,.int .i64 ((aQ S (S.sp+d) m V).sp:Int)],.bool true,.int .i64 0]) (by simp[results,Tryz.results76,go_sem,fZ0,fZ1,fZ2]) rfl ?_
    exact⟨a1,k1,a2,k2,by rw[HE.out,HB.out,HR.out],by rw[HR.out];exact StkOwn.at_ ⟨SA.out.ok,O111.out,O211.out⟩,B11.out,fun _=>⟨fG O111.out HS7.out,fG O211.out HS7.out⟩⟩
end
end Go.Proofs.YtjbgepjdohfhkaaGreat
