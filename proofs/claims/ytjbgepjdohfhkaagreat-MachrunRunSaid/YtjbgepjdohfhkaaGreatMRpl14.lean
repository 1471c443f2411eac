/- The reference's Plain at Out (chapter 8): the trace in a row of the call's own. Conditions: those of the types; the register named is one. -/
import Derived.Test.YtjbgepjdohfhkaaGreatMNcd
import Derived.ChangeAlike
set_option linter.unusedVariables false
set_option linter.unusedSimpArgs false
set_option maxRecDepth 100000
set_option maxHeartbeats 4000000
namespace Go.Proofs.YtjbgepjdohfhkaaGreat
open Go.RowKit
theorem Tryz.info38w:(Tryz.prog.info? 38).map (fun i=>(i.zero,i.size,i.bytes))=some (some (.agg #[.int .u64 0,.int .u64 0]),2,16):=by kernel_rfl
theorem tP {w:World} {base base':Nat} {e:TypeId} {size n:Nat} {v:Value} {xs:List Value} (h:w.ownsRow base e size v n xs) (hb:base'<=base):w.ownsRow base' e size v n xs:=by
 refine⟨h.1,?_⟩
 rcases h.2 with h2|⟨g,cap,cur,hv,hg,r⟩
 ·exact .inl h2
 ·exact .inr ⟨g,cap,cur,hv,by omega,r⟩
theorem PlB.kept {w W W':World} {x:Ins} {R:List Nat} (h:PlB w W x R) (hG:W.grownBy W' none):PlB w W' x R:=⟨h.i.grown hG (fun e=>by cases e),h.r.grown hG (fun e=>by cases e),h.o.grown hG (fun e=>by cases e),h.b.grown hG h.b.size (fun k hk=>by cases hk)⟩
theorem vX (a:Nat) (R T:List Nat) (Ai At:Option Addr) (ni ci nt ct:Nat) (w:World) (ha:a<8) (hR:R.length=8) (hT:Hid (T.length=nt)) (hAt:Hid (At=none->ct=0)) (hnt:Hid (nt<=ct)) (ht:nt<=1000000) (hs:Hid (an w w.heap.size At (ah T))) :
  Calls Tryz.prog 51 #[iv 14 (a:Int) 0 0 0,.agg (ah R).toArray,.slice Ai ni ci,.slice At nt ct] w (fun e w'=>∃vt',il R (.slice Ai ni ci) vt' false w e w'/\w'.ownsRow w.heap.size 38 2 vt' (nt+1) (ah (T++[R.getD a 0]))):=by
 obtain⟨i0,hi0,hz0,hz1,hz2⟩:=info_parts Tryz.info38w
 obtain⟨W1,hW1,hB⟩:=PlB.new w ⟨14,(a:Int),0,0,0⟩ R
 have HB:=aa hB
 have HW1:=aa (show((w.alloc (.cells #[.int .i64 14,.int .i64 (a:Int),.int .i64 0,.int .i64 0,.int .u64 0] 50)).alloc (.cells (ah R).toArray 61)).alloc (.cells #[.int .u64 0,.int .u64 0,.int .u64 0,.int .u64 0,.int .u64 0,.int .u64 0,.int .u64 0,.int .u64 0,.int .u64 0,.int .u64 0,.int .u64 0,.int .u64 0,.int .u64 0,.int .u64 0,.int .u64 0,.int .u64 0] 61)=W1 from hW1)
 have x0:=hB.i.cell (k:=0) rfl
 have x1:=hB.i.cell (k:=1) rfl
 obtain⟨V0,hV0⟩:∃V,R[a]?=some V:=⟨_,List.getElem?_eq_getElem (by omega)⟩
 have gV:R.getD a 0=V0:=by rw[List.getD_eq_getElem?_getD,hV0];rfl
 obtain⟨k0,k1⟩:=cE hV0
 have y0:=hB.r.cell k0
 have y1:=hB.r.cell k1
 have ha0:(0:Int)<=(a:Int):=by omega
 have ha1:(a:Int)<8:=by omega
 have HCS:=aa (show an W1 W1.heap.size At (ah T) from(hs.out.below hB.b).more hB.b.size)
 have HCL:=aa (show(ah T).length=nt*2 by rw[aT,hT.out])
 have K0:=aa k0
 have K1:=aa k1
 have hw1:=hB.b.size
 rw[gV]
 clear hB hW1 hV0 k0 k1 gV
 go_enter Tryz.func51,Tryz.ntmps51
 go_upto_region 1 with(fail)
 rw[HW1.out]
 clear HW1
 go_upto_region 20 with(fail)
 go_region_law
  (first
   | (refine jx (.const (.slice none 0 0)) (.tmp 100) 39 rfl W1.heap.size 38 i0 (.agg #[.int .u64 0,.int .u64 0]) 2 16 Tryz.underlying39 hi0 hz0 hz1 hz2 rfl (by decide) (.slice none 0 0) 0 [] rfl (World.ownsRow_nil _ _ _ _) W1.heap.size At nt ct (ah T) rfl hAt HCL (aa (HCS.out.draws 1)) hnt (bk _) (by unfold maxLen;omega) (by omega) (Nat.le_refl _) ?_;intro v1 w5 ho1 hg1;have hG1:W1.grownBy w5 none:=(be (World.grownBy.refl W1 none) 1).trans hg1;have HB5:=HB.out.kept hG1;have u1:=HB5.i.cell (k:=1) rfl;have u2:=HB5.r.cell K0.out;have u3:=HB5.r.cell K1.out)
   | (refine jx (.const (.slice none 0 0)) (.tmp 100) 39 rfl W1.heap.size 38 i0 (.agg #[.int .u64 0,.int .u64 0]) 2 16 Tryz.underlying39 hi0 hz0 hz1 hz2 rfl (by decide) (.slice none 0 0) 0 [] rfl (World.ownsRow_nil _ _ _ _) W1.heap.size At nt ct (ah T) rfl hAt HCL (aa ((HCS.out.draws 1).alloc (Nat.le_refl _) _)) hnt (bk _) (by unfold maxLen;omega) (by omega) (by simp) ?_;intro v1 w5 ho1 hg1;have hG1:W1.grownBy w5 none:=((be (World.grownBy.refl W1 none) 1).trans (World.grownBy_alloc _ _ _)).trans hg1;have hN1:=((Row.new (W1.drewN 1) 38 [.int .u64 (lo V0),.int .u64 (hi V0)]).at_ (g':=W1.heap.size) rfl).grown hg1 (fun e=>by cases e))
   | (refine wp_append_own _ (.tmp 101) (.tmp 106) 39 rfl W1.heap.size 38 i0 (.agg #[.int .u64 0,.int .u64 0]) 2 16 Tryz.underlying39 hi0 hz0 hz1 hz2 rfl (by decide) v1 (0+nt) ([]++ah T) rfl (ho1.alloc _) ⟨w5.heap.size,0,none⟩ 1 1 [.int .u64 (lo V0),.int .u64 (hi V0)] rfl rfl (fun j u hu=>by rw[WideShapes.add_plain,Nat.zero_add];exact(Row.new w5 38 [.int .u64 (lo V0),.int .u64 (hi V0)]).cell hu) (bk [V0]) (by unfold maxLen;omega) (by omega) (by have:=hG1.size;simp;omega) ?_;intro v2 w6 ho2 hg2 _;have HG6:Hid (W1.grownBy w6 none):=aa ((hG1.trans (World.grownBy_alloc _ _ _)).andThen hg2 (fun k hk=>.inl (ho1.lt k hk).1));obtain⟨A6,c6,rfl,hA6,hc6,hf6,-⟩:=aW ho2)
   | (refine wp_append_own _ (.tmp 101) (.tmp 106) 39 rfl W1.heap.size 38 i0 (.agg #[.int .u64 0,.int .u64 0]) 2 16 Tryz.underlying39 hi0 hz0 hz1 hz2 rfl (by decide) v1 (0+nt) ([]++ah T) rfl ho1 ⟨W1.heap.size,0,none⟩ 1 1 [.int .u64 (lo V0),.int .u64 (hi V0)] rfl rfl (fun j u hu=>by rw[WideShapes.add_plain,Nat.zero_add];exact hN1.cell hu) (bk [V0]) (by unfold maxLen;omega) (by omega) hG1.size ?_;intro v2 w6 ho2 hg2 _;have HG6:Hid (W1.grownBy w6 none):=aa (hG1.andThen hg2 (fun k hk=>.inl (ho1.lt k hk).1));obtain⟨A6,c6,rfl,hA6,hc6,hf6,-⟩:=aW ho2))
 all_goals
  simp only[Nat.zero_add,List.nil_append] at ho2
  have HO:=aa (show w6.ownsRow w.heap.size 38 2 (.slice A6 (nt+1) c6) (nt+1) (ah (T++[V0])) from tP (by rw[mu];exact ho2) hw1)
  have HOL:=aa (show∀k,(Value.slice A6 (nt+1) c6).ownBlock=some k->w.heap.size+1+1<k from fun k hk=>by have h1:=(ho2.lt k hk).1;have h2:=HB.out.o.lt;omega)
  have HB4:=aa (HB.out.kept HG6.out)
  clear ho2 hg2 ho1 hg1 hG1 hA6 hc6 hf6 x0 x1 y0 y1
  have hld:=bG (cN (w:=w6)) (aX (w:=w6)) (ba hR) HB4.out.r
  have hst:=cL (vs:=ah R) (aX (w:=w6)) (ba hR) dt (bk _) HB4.out.o
  have R5:=aa (bd (vs:=ah R) HB4.out.o)
  have G5:=aU w6 (w.heap.size+1+1) (ah R).toArray
  have B5:=aa (show Below w.heap.size w (w6.setRow (w.heap.size+1+1) (ah R).toArray) from HB4.out.b.grown G5 HB4.out.b.size (fun k hk=>by injection hk with hk;omega))
  have HO5:=aa (HO.out.kept G5 (by
   cases e:(Value.slice A6 (nt+1) c6).ownBlock with
   | none=>exact .inl rfl
   | some k=>exact .inr fun h=>by have:=HOL.out k e;injection h with h;omega))
  generalize w6.setRow (w.heap.size+1+1) (ah R).toArray=W5 at hst R5 B5 HO5
  have hld2:=bG (cN (w:=W5)) (aX (w:=W5)) (ba hR) R5.out
  generalize hX:(ah R).toArray=X at hld hst hld2
  have HX:=aa hX
  clear hX G5
  go_wp2_with (first|(refine bu 61 (.tmp 5) rfl rfl _ _ rfl hld ?_)|(refine aI 61 (.tmp 8) (.tmp 108) rfl rfl _ _ rfl rfl hst ?_)|fail)
  exact bodyPost_ret (bT (fn:=Tryz.f51) (t:=8) (u1:=9) (u2:=10) (u3:=11) (T:=61) rfl _ W5 _ _ _ rfl hld2) rfl ⟨_,⟨by rw[HX.out];rfl,B5.out⟩,HO5.out⟩
theorem lW (X k:Nat) (w:World) (hX:X<ae) (hk:k<128) :
  Calls Tryz.prog 133 #[vv X,.int .i64 k] w fun e w'=>e=.returned (.int .u64 ((bt X k:Nat):Int))/\Below w.heap.size w w':=by
 obtain⟨l0,l1⟩:=cM X
 obtain⟨h0,h1⟩:=cQ X
 by_cases h:k<64
 ·go_enter Tryz.func133,Tryz.ntmps133
  go_wp2
  rw[AD X k h]
  go_ret
  exact⟨rfl,(Below.refl _ _).alloc (Nat.le_refl _) _⟩
 ·go_enter Tryz.func133,Tryz.ntmps133
  go_wp2
  rw[AE X k hX (by omega)]
  go_ret
  exact⟨rfl,(Below.refl _ _).alloc (Nat.le_refl _) _⟩
theorem qE (w:World) (o p:Obj):Below w.heap.size w ((w.alloc o).alloc p).drew:=((aP w o p).drew)
theorem lU (X k:Nat) (w:World) (hX:X<ae) (hk:k<128) (hz:bt X k=0) :
  Calls Tryz.prog 134 #[vv X,.int .i64 k] w fun e w'=>e=.returned (vv (X+2 ^ k))/\Below w.heap.size w w':=by
 obtain⟨l0,l1⟩:=cM X
 obtain⟨h0,h1⟩:=cQ X
 have HZ:=aa hz
 clear hz
 by_cases h:k<64
 ·go_enter Tryz.func134,Tryz.ntmps134
  go_wp2
  go_region
  obtain⟨e1,e2⟩:=zM X k h HZ.out
  rw[e1,e2]
  obtain⟨V,hV⟩:∃V,V=X+2 ^ k:=⟨_,rfl⟩
  rw[<-hV]
  have HV:=aa hV
  clear e1 e2 HZ hV
  go_wp2
  exact bodyPost_ret (v:=vv V) (by simp[results,Tryz.results134,go_sem]) rfl ⟨by rw[<-HV.out],qE _ _ _⟩
 ·go_enter Tryz.func134,Tryz.ntmps134
  go_wp2
  go_region
  obtain⟨e1,e2⟩:=zN X k hX (by omega) hk HZ.out
  rw[e1,e2]
  obtain⟨V,hV⟩:∃V,V=X+2 ^ k:=⟨_,rfl⟩
  rw[<-hV]
  have HV:=aa hV
  clear e1 e2 HZ hV
  go_wp2
  exact bodyPost_ret (v:=vv V) (by simp[results,Tryz.results134,go_sem]) rfl ⟨by rw[<-HV.out],qE _ _ _⟩
theorem mE (X:Nat) (w:World) :
  Calls Tryz.prog 135 #[vv X] w fun e w'=>e=.returned (vv (2*X))/\Below w.heap.size w w':=by
 obtain⟨l0,l1⟩:=cM X
 obtain⟨h0,h1⟩:=cQ X
 go_enter Tryz.func135,Tryz.ntmps135
 go_wp2
 rw[vu X,vw X]
 exact bodyPost_ret (v:=vv (2*X)) (by simp[results,Tryz.results135,go_sem]) rfl ⟨rfl,aP _ _ _⟩
theorem kS (X Y:Nat) (w:World) (hX:X<ae) (hY:Y<ae) :
  Calls Tryz.prog 119 #[vv X,vv Y] w fun e w'=>e=.returned (.bool (decide (X<Y)))/\Below w.heap.size w w':=by
 obtain⟨l0,l1⟩:=cM X
 obtain⟨h0,h1⟩:=cQ X
 obtain⟨m0,m1⟩:=cM Y
 obtain⟨k0,k1⟩:=cQ Y
 have hl:=aa (pd hX hY)
 by_cases a:hi X<hi Y
 ·go_enter Tryz.func119,Tryz.ntmps119
  go_wp2
  go_ret
  exact⟨aw (by symm;rw[decide_eq_true_eq,hl.out];omega),aP _ _ _⟩
 ·have a':decide (hi X<hi Y)=false:=by simpa using a
  by_cases b:hi X=hi Y
  ·have b':(hi X==hi Y)=true:=by simpa using b
   have B:=aa b
   clear b
   go_enter Tryz.func119,Tryz.ntmps119
   go_wp2
   go_ret
   exact⟨aw (decide_eq_decide.2 (by have:=B.out;rw[hl.out];omega)),aP _ _ _⟩
  ·have b':(hi X==hi Y)=false:=by simpa using b
   go_enter Tryz.func119,Tryz.ntmps119
   go_wp2
   go_ret
   exact⟨aw (by symm;rw[decide_eq_false_iff_not,hl.out];omega),aP _ _ _⟩
theorem tw (X Y:Nat) (w:World) (hX:X<ae) (hY:Y<ae) (h:X<Y):Calls Tryz.prog 119 #[vv X,vv Y] w fun e w'=>e=.returned (.bool true)/\Below w.heap.size w w':=
 (kS X Y w hX hY).mono fun _ _ hh=>by rw[decide_eq_true h] at hh;exact hh
theorem vJ (X Y:Nat) (w:World) (hX:X<ae) (hY:Y<ae) (h:Y<=X):Calls Tryz.prog 119 #[vv X,vv Y] w fun e w'=>e=.returned (.bool false)/\Below w.heap.size w w':=
 (kS X Y w hX hY).mono fun _ _ hh=>by rw[decide_eq_false (by omega)] at hh;exact hh
theorem mF (b:Bool) (w:World) :
  Calls Tryz.prog 118 #[.bool b] w fun e w'=>e=.returned (vv (bn b))/\Below w.heap.size w w':=by
 cases b
 ·go_enter Tryz.func118,Tryz.ntmps118
  go_wp2
  exact bodyPost_ret (v:=vv 0) (by simp[results,Tryz.results118,go_sem,i9]) rfl ⟨rfl,(Below.refl _ _).alloc (Nat.le_refl _) _⟩
 ·go_enter Tryz.func118,Tryz.ntmps118
  go_wp2
  exact bodyPost_ret (v:=vv 1) (by simp[results,Tryz.results118,go_sem,sR]) rfl ⟨rfl,(Below.refl _ _).alloc (Nat.le_refl _) _⟩
theorem jD {W w1:World} {p:Addr} {v:Value} (hb:Below W.heap.size W w1) (h:W.cell? p=some v):w1.cell? p=some v:=(hb.cell (World.block_lt_of_cell? _ _ h)).trans h
def AM (w0:World) (gx gy gr go X Y:Nat) (c i:Value) (wr:World):Prop:=
 ∃k:Nat,k<=128/\c=.int .u64 (dd X Y k)/\i=.int .i64 k/\Box wr gx X/\Box wr gy Y/\Box wr gr 0/\Box wr go (dA X Y k)/\Below w0.heap.size w0 wr
theorem kn (X Y:Nat) (w:World) (hX:X<ae) (hY:Y<ae) :
  Calls Tryz.prog 114 #[vv X,vv Y] w fun e w'=>e=.returned (vv ((X+Y) % ae))/\Below w.heap.size w w':=by
 go_enter Tryz.func114,Tryz.ntmps114
 go_wp2
 go_loopw [6,7] (fun c i wr=>AM w w.heap.size (w.heap.size+1) (w.heap.size+1+1) (w.heap.size+1+1+1) X Y c i wr) (fun _ i _=>128-(intOf i).toNat)
 case atStart=>exact⟨0,by omega,by rw[(add_zero X Y).2];rfl,rfl,(((Box.new w X).alloc _).alloc _).alloc _,(((Box.new _ Y).alloc _).alloc _).at_ (by simp),((Box.new _ 0).alloc _).at_ (by simp),((Box.new _ 0).at_ (by simp)).same (add_zero X Y).1.symm,(bi w _ _ _).alloc (by simp;omega) _⟩
 case round=>
  obtain⟨k,hk,rfl,rfl,bx,by_,br,bo,hb⟩:=hrel
  by_cases hlt:k<128
  ·have hc1:=uZ X Y k
   have ha1:=jI X k
   have hb1':=jI Y k
   obtain⟨x0,x1,xz0,xz1⟩:=bx.facts
   obtain⟨y0,y1,yz0,yz1⟩:=by_.facts
   go_wp2_with fail
   go_region_held3 (fun w'=>w'.cell? ⟨w.heap.size,0,none⟩=some (.int .u64 (lo X))/\w'.cell? ⟨w.heap.size,1,none⟩=some (.int .u64 (hi X))/\w'.cell? ⟨w.heap.size+1,0,none⟩=some (.int .u64 (lo Y))/\w'.cell? ⟨w.heap.size+1,1,none⟩=some (.int .u64 (hi Y)))
    (first|go_keep|(refine⟨jD hb1 ?_,jD hb1 ?_,jD hb1 ?_,jD hb1 ?_⟩<;>go_keep))
    (first|(go_at_call 133;refine(lW _ k _ (by assumption) hlt).mono ?_;rintro e w1 ⟨rfl,hb1⟩))
   have hb2:Below wr.heap.size wr w1:=(Below.refl wr.heap.size wr).drew.trans (ac (‹Below wr.drew.heap.size wr.drew _›) hb1)
   have bx:=bx.call hb2
   have by_:=by_.call hb2
   have br:=br.call hb2
   have bo:=bo.call hb2
   have hb:=ac hb hb2
   clear hb1 hb2 x0 x1 xz0 xz1 y0 y1 yz0 yz1
   obtain⟨s,hs⟩:∃s,s=bt X k+bt Y k+dd X Y k:=⟨_,rfl⟩
   have es:IntKind.u64.wrap (IntKind.u64.wrap ((bt X k:Int)+(bt Y k:Int))+(dd X Y k:Int))=(s:Int):=by
    simp only[IntKind.wrap_u64];omega
   rw[es]
   have hs3:s<=3:=by omega
   have HS:=aa hs
   have has:=xn X Y k
   rw[<-hs] at has
   have HA:=aa has
   clear es hs ha1 hb1' has
   by_cases hs1:s % 2=1
   ·have hbit:(bits .and .u64 (s:Int) 1==1)=true:=by rw[iM _ (by omega) (by omega),beq_iff_eq];omega
    have HS1:=aa hs1
    clear hs1
    obtain⟨o0,o1,oz0,oz1⟩:=bo.facts
    go_wp2_with fail
    refine(lU (dA X Y k) k _ (sE X Y k hlt) hlt (sD X Y k)).mono ?_
    rintro e w2 ⟨rfl,hb1⟩
    clear o0 o1 oz0 oz1
    have bx:=bx.call hb1
    have by_:=by_.call hb1
    have br:=br.call hb1
    have bo:=bo.call hb1
    have hb:=ac hb hb1
    clear hb1
    obtain⟨o0,o1,oz0,oz1⟩:=bo.facts
    obtain⟨V,hV⟩:∃V,V=dA X Y k+2 ^ k:=⟨_,rfl⟩
    rw[<-hV]
    have HV:=aa hV
    clear hV
    go_wp2_with fail
    clear o0 o1 oz0 oz1
    have bx:=bx.far2 (g':=w.heap.size+1+1+1) (by omega) (.int .u64 (lo (V))) (.int .u64 (hi (V)))
    have by_:=by_.far2 (g':=w.heap.size+1+1+1) (by omega) (.int .u64 (lo (V))) (.int .u64 (hi (V)))
    have br:=br.far2 (g':=w.heap.size+1+1+1) (by omega) (.int .u64 (lo (V))) (.int .u64 (hi (V)))
    have bo:=bo.set_ (V)
    have hb:=aL (g:=w.heap.size+1+1+1) hb (by omega) (.int .u64 (lo (V))) (.int .u64 (hi (V)))
    go_roundw
    case rel=>exact⟨k+1,by omega,by rw[HA.out.2];go_num,by go_num,bx,by_,br,bo.same (by rw[HV.out,HA.out.1,HS1.out,Nat.mul_one]),hb⟩
    case measure=>simp[intOf];omega
   ·have hbit:(bits .and .u64 (s:Int) 1==1)=false:=by rw[iM _ (by omega) (by omega),beq_eq_false_iff_ne];omega
    have HS1:=aa (show s % 2=0 by omega)
    clear hs1
    go_wp2_with fail
    go_roundw
    case rel=>exact⟨k+1,by omega,by rw[HA.out.2];go_num,by go_num,bx,by_,br,bo.same (by rw[HA.out.1,HS1.out,Nat.mul_zero,Nat.add_zero]),hb⟩
    case measure=>simp[intOf];omega
  ·obtain rfl:k=128:=by omega
   have bo:=bo.congr (V':=(X+Y) % ae) (by rw[zq,Nat.mod_mod])
   obtain⟨V,hV⟩:∃V,V=(X+Y) % ae:=⟨_,rfl⟩
   rw[<-hV] at bo
   have HV:=aa hV
   clear hV
   obtain⟨o0,o1,oz0,oz1⟩:=bo.facts
   obtain⟨r0,r1,rz0,rz1⟩:=br.facts
   go_wp2_with fail
   clear o0 o1 oz0 oz1 r0 r1 rz0 rz1
   have bx:=bx.far2 (g':=w.heap.size+1+1) (by omega) (.int .u64 (lo (V))) (.int .u64 (hi (V)))
   have by_:=by_.far2 (g':=w.heap.size+1+1) (by omega) (.int .u64 (lo (V))) (.int .u64 (hi (V)))
   have br:=br.set_ (V)
   have bo:=bo.far2 (g':=w.heap.size+1+1) (by omega) (.int .u64 (lo (V))) (.int .u64 (hi (V)))
   have hb:=aL (g:=w.heap.size+1+1) hb (by omega) (.int .u64 (lo (V))) (.int .u64 (hi (V)))
   obtain⟨W9,hW9⟩:∃W,W=(wr.setCell ⟨w.heap.size+1+1,0,none⟩ (.int .u64 (lo (V)))).setCell ⟨w.heap.size+1+1,1,none⟩ (.int .u64 (hi (V))):=⟨_,rfl⟩
   rw[<-hW9] at bx by_ br bo hb⊢
   clear hW9
   obtain⟨r0,r1,rz0,rz1⟩:=br.facts
   exact bodyPost_ret (v:=vv V) (by simp[results,Tryz.results114,go_sem,r0,r1]) rfl ⟨by rw[HV.out],hb⟩
def lh (w0:World) (gx gy gr go X Y:Nat) (i:Value) (wr:World):Prop:=
 ∃k:Nat,k<=128/\((∃j:Nat,k=j+1/\i=.int .i64 j)\/(k=0/\i=.int .i64 (-1)))/\Box wr gx X/\Box wr gy Y/\Box wr gr 0/\Box wr go (ew X Y k)/\Below w0.heap.size w0 wr
theorem lh.next {w0:World} {gx gy gr go X Y:Nat} {wr:World} {j:Nat} (hj:j<128) (bx:Box wr gx X) (by_:Box wr gy Y) (br:Box wr gr 0) (bo:Box wr go (ew X Y j)) (hb:Below w0.heap.size w0 wr) :
  lh w0 gx gy gr go X Y (.int .i64 ((j:Int)-1)) wr:=by
 refine⟨j,by omega,?_,bx,by_,br,bo,hb⟩
 cases j with
 | zero=>exact .inr ⟨rfl,rfl⟩
 | succ n=>exact .inl ⟨n,rfl,by congr 1;omega⟩
theorem vI (X Y:Nat) (w:World) (hX:X<ae) (hY:Y<ae) :
  Calls Tryz.prog 116 #[vv X,vv Y] w fun e w'=>e=.returned (vv (X*Y % ae))/\Below w.heap.size w w':=by
 go_enter Tryz.func116,Tryz.ntmps116
 go_wp2
 go_loopw [6] (fun i wr=>lh w w.heap.size (w.heap.size+1) (w.heap.size+1+1) (w.heap.size+1+1+1) X Y i wr) (fun i _=>(intOf i+1).toNat)
 case atStart=>exact⟨128,by omega,.inl ⟨127,rfl,rfl⟩,(((Box.new w X).alloc _).alloc _).alloc _,(((Box.new _ Y).alloc _).alloc _).at_ (by simp),((Box.new _ 0).alloc _).at_ (by simp),((Box.new _ 0).at_ (by simp)).same (tV X Y hY).symm,(bi w _ _ _).alloc (by simp;omega) _⟩
 case round=>
  obtain⟨k,hk,hi,bx,by_,br,bo,hb⟩:=hrel
  rcases hi with⟨j,rfl,rfl⟩|⟨rfl,rfl⟩
  ·have hj:j<128:=by omega
   have hm:=tZ X Y (j+1)
   have h0:=aa (tX X Y j)
   have h1:=aa (tW X Y j)
   obtain⟨O,hO⟩:∃O,O=ew X Y (j+1):=⟨_,rfl⟩
   rw[<-hO] at bo hm h0 h1
   clear hO
   obtain⟨o0,o1,oz0,oz1⟩:=bo.facts
   go_wp2_with fail
   refine(mE O _).mono ?_
   rintro e w1 ⟨rfl,hb1⟩
   clear o0 o1 oz0 oz1
   have bx:=bx.call hb1
   have by_:=by_.call hb1
   have br:=br.call hb1
   have bo:=bo.call hb1
   have hb:=ac hb hb1
   clear hb1
   obtain⟨o0,o1,oz0,oz1⟩:=bo.facts
   obtain⟨y0,y1,yz0,yz1⟩:=by_.facts
   go_wp2_with fail
   clear o0 o1 oz0 oz1 y0 y1 yz0 yz1
   have bx:=bx.far2 (g':=w.heap.size+1+1+1) (by omega) (.int .u64 (lo (2*O))) (.int .u64 (hi (2*O)))
   have by_:=by_.far2 (g':=w.heap.size+1+1+1) (by omega) (.int .u64 (lo (2*O))) (.int .u64 (hi (2*O)))
   have br:=br.far2 (g':=w.heap.size+1+1+1) (by omega) (.int .u64 (lo (2*O))) (.int .u64 (hi (2*O)))
   have bo:=bo.set_ (2*O)
   have hb:=aL (g:=w.heap.size+1+1+1) hb (by omega) (.int .u64 (lo (2*O))) (.int .u64 (hi (2*O)))
   obtain⟨W1,hW1⟩:∃W,W=(w1.setCell ⟨w.heap.size+1+1+1,0,none⟩ (.int .u64 (lo (2*O)))).setCell ⟨w.heap.size+1+1+1,1,none⟩ (.int .u64 (hi (2*O))):=⟨_,rfl⟩
   rw[<-hW1] at bx by_ br bo hb⊢
   clear hW1
   refine(lW Y j _ hY hj).mono ?_
   rintro e w2 ⟨rfl,hb1⟩
   have bx:=bx.call hb1
   have by_:=by_.call hb1
   have br:=br.call hb1
   have bo:=bo.call hb1
   have hb:=ac hb hb1
   clear hb1
   have ht:=jI Y j
   by_cases hbit:bt Y j=1
   ·have hq:(((bt Y j:Nat):Int)==1)=true:=by rw[hbit];rfl
    have h1':=aa (h1.out hbit)
    clear hbit h0 h1
    have bo:=bo.congr (V':=2*O % ae) (by rw[Nat.mod_mod])
    obtain⟨O2,hO2⟩:∃O2,O2=2*O % ae:=⟨_,rfl⟩
    have hO2l:O2<ae:=by rw[hO2];exact Nat.mod_lt _ dO
    rw[<-hO2] at bo
    have HO2:=aa hO2
    clear hO2
    obtain⟨o0,o1,oz0,oz1⟩:=bo.facts
    obtain⟨x0,x1,xz0,xz1⟩:=bx.facts
    go_wp2_with fail
    refine(kn O2 X _ hO2l hX).mono ?_
    rintro e w3 ⟨rfl,hb1⟩
    clear o0 o1 oz0 oz1 x0 x1 xz0 xz1
    have bx:=bx.call hb1
    have by_:=by_.call hb1
    have br:=br.call hb1
    have bo:=bo.call hb1
    have hb:=ac hb hb1
    clear hb1
    obtain⟨S,hS⟩:∃S,S=(O2+X) % ae:=⟨_,rfl⟩
    rw[<-hS]
    have HS:=aa hS
    clear hS
    obtain⟨o0,o1,oz0,oz1⟩:=bo.facts
    go_wp2_with fail
    clear o0 o1 oz0 oz1
    have bx:=bx.far2 (g':=w.heap.size+1+1+1) (by omega) (.int .u64 (lo (S))) (.int .u64 (hi (S)))
    have by_:=by_.far2 (g':=w.heap.size+1+1+1) (by omega) (.int .u64 (lo (S))) (.int .u64 (hi (S)))
    have br:=br.far2 (g':=w.heap.size+1+1+1) (by omega) (.int .u64 (lo (S))) (.int .u64 (hi (S)))
    have bo:=bo.set_ (S)
    have hb:=aL (g:=w.heap.size+1+1+1) hb (by omega) (.int .u64 (lo (S))) (.int .u64 (hi (S)))
    go_roundw
    case rel=>exact lh.next hj bx by_ br (bo.congr (by rw[<-h1'.out,HS.out,HO2.out,Nat.mod_add_mod,Nat.mod_mod])) hb
    case measure=>simp[intOf]
   ·have hq:(((bt Y j:Nat):Int)==1)=false:=by rw[beq_eq_false_iff_ne];omega
    have h0':=aa (h0.out (by omega))
    clear hbit h0 h1
    go_wp2_with fail
    go_roundw
    case rel=>exact lh.next hj bx by_ br (bo.congr h0'.out) hb
    case measure=>simp[intOf]
  ·have bo:=bo.same (yF X Y)
   obtain⟨V,hV⟩:∃V,V=X*Y % ae:=⟨_,rfl⟩
   rw[<-hV] at bo
   have HV:=aa hV
   clear hV
   obtain⟨o0,o1,oz0,oz1⟩:=bo.facts
   obtain⟨r0,r1,rz0,rz1⟩:=br.facts
   go_wp2_with fail
   clear o0 o1 oz0 oz1 r0 r1 rz0 rz1
   have bx:=bx.far2 (g':=w.heap.size+1+1) (by omega) (.int .u64 (lo (V))) (.int .u64 (hi (V)))
   have by_:=by_.far2 (g':=w.heap.size+1+1) (by omega) (.int .u64 (lo (V))) (.int .u64 (hi (V)))
   have br:=br.set_ (V)
   have bo:=bo.far2 (g':=w.heap.size+1+1) (by omega) (.int .u64 (lo (V))) (.int .u64 (hi (V)))
   have hb:=aL (g:=w.heap.size+1+1) hb (by omega) (.int .u64 (lo (V))) (.int .u64 (hi (V)))
   obtain⟨W9,hW9⟩:∃W,W=(wr.setCell ⟨w.heap.size+1+1,0,none⟩ (.int .u64 (lo (V)))).setCell ⟨w.heap.size+1+1,1,none⟩ (.int .u64 (hi (V))):=⟨_,rfl⟩
   rw[<-hW9] at bx by_ br bo hb⊢
   clear hW9
   obtain⟨r0,r1,rz0,rz1⟩:=br.facts
   exact bodyPost_ret (v:=vv V) (by simp[results,Tryz.results116,go_sem,r0,r1]) rfl ⟨by rw[HV.out],hb⟩
theorem qs (a:Int) (h0:0<=a) (h1:a<=18446744073709551615):bits .xor .u64 18446744073709551615 a=18446744073709551615-a:=by
 obtain⟨n,rfl⟩:=Int.eq_ofNat_of_zero_le h0
 show IntKind.u64.wrap ((BitVec.ofInt 64 18446744073709551615 ^^^ BitVec.ofInt 64 (n:Int)).toNat:Int)=_
 have e:BitVec.ofInt 64 18446744073709551615=BitVec.allOnes 64:=by decide
 rw[e,BitVec.allOnes_xor,BitVec.toNat_not,ofInt_u64 n (by omega),IntKind.wrap_u64]
 omega
theorem zV (Y:Nat) (hY:Y<ae):bits .xor .u64 18446744073709551615 (lo Y)=lo (ae-1-Y):=by
 have h:=cM Y
 have key:18446744073709551615-lo Y=lo (ae-1-Y):=by
  unfold lo
  unfold ae at *
  omega
 rw[qs _ h.1 h.2,key]
theorem zW (Y:Nat) (hY:Y<ae):bits .xor .u64 18446744073709551615 (hi Y)=hi (ae-1-Y):=by
 have h:=cQ Y
 have key:18446744073709551615-hi Y=hi (ae-1-Y):=by
  unfold hi
  unfold ae at *
  omega
 rw[qs _ h.1 h.2,key]
theorem yb (X Y:Nat) (hX:X<ae) (hY:Y<ae):((X+(ae-1-Y)) % ae+1) % ae=(X+ae-Y) % ae:=by
 unfold ae at *;omega
theorem lT (X Y:Nat) (w:World) (hX:X<ae) (hY:Y<ae) :
  Calls Tryz.prog 115 #[vv X,vv Y] w fun e w'=>e=.returned (vv ((X+ae-Y) % ae))/\Below w.heap.size w w':=by
 obtain⟨l0,l1⟩:=cM Y
 obtain⟨h0,h1⟩:=cQ Y
 have HL:=aa (zV Y hY)
 have HH:=aa (zW Y hY)
 obtain⟨N,hN⟩:∃N,N=ae-1-Y:=⟨_,rfl⟩
 rw[<-hN] at HL HH
 have hN1:N<ae:=by unfold ae at *;omega
 have HS:=aa (yb X Y hX hY)
 rw[<-hN] at HS
 clear hN
 obtain⟨V,hV⟩:∃V,V=(X+ae-Y) % ae:=⟨_,rfl⟩
 rw[<-hV] at HS⊢
 clear hV
 have mx:IntKind.u64.max=18446744073709551615:=by decide
 go_enter Tryz.func115,Tryz.ntmps115
 go_wp2_with fail
 all_goals first
  | (exfalso;revert ‹IntKind.u64.signed=true›;decide)
  | skip
 have HL':=HL.out
 have HH':=HH.out
 rw[HL',HH']
 clear HL HH HL' HH' mx
 refine(kn X N _ hX hN1).mono ?_
 rintro e w1 ⟨rfl,hb1⟩
 have bx:=((Box.new w X).alloc _).alloc _ |>.call hb1
 have by_:=((Box.new _ Y).at_ (show _=w.heap.size+1 by simp)).alloc _ |>.call hb1
 have br:=((Box.new _ 0).at_ (show _=w.heap.size+1+1 by simp)).call hb1
 have hb:=ac (bi w _ _ _) hb1
 clear hb1
 obtain⟨S,hS⟩:∃S,S=(X+N) % ae:=⟨_,rfl⟩
 have hS1:S<ae:=by rw[hS];exact Nat.mod_lt _ dO
 rw[<-hS] at HS⊢
 clear hS
 go_wp2_with fail
 refine(kn S 1 _ hS1 (by decide)).mono ?_
 rw[HS.out]
 rintro e w2 ⟨rfl,hb1⟩
 have bx:=bx.call hb1
 have by_:=by_.call hb1
 have br:=br.call hb1
 have hb:=ac hb hb1
 clear hb1
 obtain⟨r0,r1,rz0,rz1⟩:=br.facts
 go_wp2_with fail
 clear r0 r1 rz0 rz1
 have bx:=bx.far2 (g':=w.heap.size+1+1) (by omega) (.int .u64 (lo (V))) (.int .u64 (hi (V)))
 have by_:=by_.far2 (g':=w.heap.size+1+1) (by omega) (.int .u64 (lo (V))) (.int .u64 (hi (V)))
 have br:=br.set_ (V)
 have hb:=aL (g:=w.heap.size+1+1) hb (by omega) (.int .u64 (lo (V))) (.int .u64 (hi (V)))
 obtain⟨W1,hW1⟩:∃W,W=(w2.setCell ⟨w.heap.size+1+1,0,none⟩ (.int .u64 (lo (V)))).setCell ⟨w.heap.size+1+1,1,none⟩ (.int .u64 (hi (V))):=⟨_,rfl⟩
 rw[<-hW1] at bx by_ br hb⊢
 clear hW1
 obtain⟨r0,r1,rz0,rz1⟩:=br.facts
 exact bodyPost_ret (v:=vv V) (by simp[results,Tryz.results115,go_sem,r0,r1]) rfl ⟨rfl,hb⟩
end Go.Proofs.YtjbgepjdohfhkaaGreat
