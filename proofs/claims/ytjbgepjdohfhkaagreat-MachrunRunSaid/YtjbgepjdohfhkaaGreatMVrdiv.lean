/- The contract of the reference's Div: the quotient, bit by bit. Conditions: those of the types, and that the divisor is not 0. -/
import Derived.Test.YtjbgepjdohfhkaaGreatMRpl14
set_option linter.unusedVariables false
set_option linter.unusedSimpArgs false
set_option maxRecDepth 100000
set_option maxHeartbeats 4000000
namespace Go.Proofs.YtjbgepjdohfhkaaGreat
open Go.RowKit
def kd (w0:World) (gx gy gr go gt X Y:Nat) (i:Value) (wr:World):Prop:=
 ∃k:Nat,k<=128/\((∃j:Nat,k=j+1/\i=.int .i64 j)\/(k=0/\i=.int .i64 (-1)))/\Box wr gx X/\Box wr gy Y/\Box wr gr 0/\Box wr go (dy X Y k)/\Box wr gt (dG X Y k)/\Below w0.heap.size w0 wr
theorem kd.next {w0:World} {gx gy gr go gt X Y:Nat} {wr:World} {j:Nat} (hj:j<128) (bx:Box wr gx X) (by_:Box wr gy Y) (br:Box wr gr 0) (bo:Box wr go (dy X Y j)) (bt_:Box wr gt (dG X Y j)) (hb:Below w0.heap.size w0 wr) :
  kd w0 gx gy gr go gt X Y (.int .i64 ((j:Int)-1)) wr:=by
 refine⟨j,by omega,?_,bx,by_,br,bo,bt_,hb⟩
 cases j with
 | zero=>exact .inr ⟨rfl,rfl⟩
 | succ n=>exact .inl ⟨n,rfl,by congr 1;omega⟩
theorem oP (X Y:Nat) (w:World) (hX:X<ae) (hY:Y<ae) (h0:0<Y) :
  Calls Tryz.prog 117 #[vv X,vv Y] w fun e w'=>e=.returned (vv (X / Y))/\Below w.heap.size w w':=by
 go_enter Tryz.func117,Tryz.ntmps117
 go_wp2
 go_loopw [7] (fun i wr=>kd w w.heap.size (w.heap.size+1) (w.heap.size+1+1) (w.heap.size+1+1+1) (w.heap.size+1+1+1+1) X Y i wr) (fun i _=>(intOf i+1).toNat)
 case atStart=>exact⟨128,by omega,.inl ⟨127,rfl,rfl⟩,((((Box.new w X).alloc _).alloc _).alloc _).alloc _,((((Box.new _ Y).alloc _).alloc _).alloc _).at_ (by simp),(((Box.new _ 0).alloc _).alloc _).at_ (by simp),(((Box.new _ 0).alloc _).at_ (by simp)).same (nW X Y hX).1.symm,((Box.new _ 0).at_ (by simp)).same (nW X Y hX).2.symm,((bi w _ _ _).alloc (by simp;omega) _).alloc (by simp;omega) _⟩
 case round=>
  obtain⟨k,hk,hi,bx,by_,br,bo,bt_,hb⟩:=hrel
  rcases hi with⟨j,rfl,rfl⟩|⟨rfl,rfl⟩
  ·have hj:j<128:=by omega
   have HS:=aa (tC X Y j h0)
   have hrl:=so X Y (j+1) h0
   have hol:=Nat.lt_of_le_of_lt (uJ X Y (j+1)) hX
   have HB:=aa (sq X Y j)
   obtain⟨O,hO⟩:∃O,O=dy X Y (j+1):=⟨_,rfl⟩
   obtain⟨R,hR⟩:∃R,R=dG X Y (j+1):=⟨_,rfl⟩
   rw[<-hO] at bo hol HB HS
   rw[<-hR] at bt_ hrl HS
   clear hO hR
   have hR128:R<ae:=by omega
   have HT:=aa (zI R hR128)
   obtain⟨t0,t1,tz0,tz1⟩:=bt_.facts
   obtain⟨ov,hov⟩:∃b,b=(hi R / 9223372036854775808==1):=⟨_,rfl⟩
   rw[<-hov] at HT
   have Hov:=aa hov.symm
   have hov':=hov.symm
   clear hov
   go_wp2_with fail
   clear hov'
   refine(mE R _).mono ?_
   rintro e w1 ⟨rfl,hb1⟩
   clear t0 t1 tz0 tz1
   have bx:=bx.call hb1
   have by_:=by_.call hb1
   have br:=br.call hb1
   have bo:=bo.call hb1
   have bt_:=bt_.call hb1
   have hb:=ac hb hb1
   clear hb1
   obtain⟨t0,t1,tz0,tz1⟩:=bt_.facts
   obtain⟨x0,x1,xz0,xz1⟩:=bx.facts
   go_wp2_with fail
   clear t0 t1 tz0 tz1 x0 x1 xz0 xz1
   have bx:=bx.far2 (g':=w.heap.size+1+1+1+1) (by omega) (.int .u64 (lo (2*R))) (.int .u64 (hi (2*R)))
   have by_:=by_.far2 (g':=w.heap.size+1+1+1+1) (by omega) (.int .u64 (lo (2*R))) (.int .u64 (hi (2*R)))
   have br:=br.far2 (g':=w.heap.size+1+1+1+1) (by omega) (.int .u64 (lo (2*R))) (.int .u64 (hi (2*R)))
   have bo:=bo.far2 (g':=w.heap.size+1+1+1+1) (by omega) (.int .u64 (lo (2*R))) (.int .u64 (hi (2*R)))
   have bt_:=bt_.set_ (2*R)
   have hb:=aL (g:=w.heap.size+1+1+1+1) hb (by omega) (.int .u64 (lo (2*R))) (.int .u64 (hi (2*R)))
   obtain⟨W1,hW1⟩:∃W,W=(w1.setCell ⟨w.heap.size+1+1+1+1,0,none⟩ (.int .u64 (lo (2*R)))).setCell ⟨w.heap.size+1+1+1+1,1,none⟩ (.int .u64 (hi (2*R))):=⟨_,rfl⟩
   rw[<-hW1] at bx by_ br bo bt_ hb⊢
   clear hW1
   obtain⟨t0,t1,tz0,tz1⟩:=bt_.facts
   obtain⟨x0,x1,xz0,xz1⟩:=bx.facts
   go_cut [] (fun wx=>Box wx (w.heap.size) X/\Box wx (w.heap.size+1) Y/\Box wx (w.heap.size+1+1) 0/\Box wx (w.heap.size+1+1+1) O/\Box wx (w.heap.size+1+1+1+1) (2*R+bt X j)/\Below w.heap.size w wx)
   case first=>
    go_region_with (first|(go_at_call 133;refine(lW _ j _ (by assumption) hj).mono ?_;rintro e w2 ⟨rfl,hb1⟩;have bt2:=bt_.drew.call hb1;obtain⟨t0',t1',tz0',tz1'⟩:=bt2.facts))
    all_goals
     skip
     have e1:bits .or .u64 (lo (2*R)) (bt X j:Int)=lo (2*R+bt X j):=yB R (bt X j) (jI X j)
     rw[e1]
     clear e1 t0 t1 tz0 tz1 x0 x1 xz0 xz1 t0' t1' tz0' tz1' bt2
     have hb2:Below W1.heap.size W1 w2:=(Below.refl W1.heap.size W1).drew.trans hb1
     clear hb1
     have bx:=(bx.call hb2).far (p:=⟨w.heap.size+1+1+1+1,0,none⟩) (by simp;omega) (.int .u64 (lo (2*R+bt X j)))
     have by_:=(by_.call hb2).far (p:=⟨w.heap.size+1+1+1+1,0,none⟩) (by simp) (.int .u64 (lo (2*R+bt X j)))
     have br:=(br.call hb2).far (p:=⟨w.heap.size+1+1+1+1,0,none⟩) (by simp) (.int .u64 (lo (2*R+bt X j)))
     have bo:=(bo.call hb2).far (p:=⟨w.heap.size+1+1+1+1,0,none⟩) (by simp) (.int .u64 (lo (2*R+bt X j)))
     have bt_:=(bt_.call hb2).set0 (2*R+bt X j) (yN R (bt X j) (jI X j))
     have hb:=(ac hb hb2).setCell (p:=⟨w.heap.size+1+1+1+1,0,none⟩) (by simp;omega) (.int .u64 (lo (2*R+bt X j)))
     clear hb2
     go_wp2_with fail
     go_meet
     exact⟨bx,by_,br,bo,bt_,hb⟩
   case rest=>
    obtain⟨bx,by_,br,bo,bt_,hb⟩:=hcut
    have hb1:=jI X j
    obtain⟨N,hN⟩:∃N,N=2*R+bt X j:=⟨_,rfl⟩
    rw[<-hN] at bt_ HS
    have HN:=aa hN
    have hN2:N<2*ae:=by omega
    clear hb1 hN
    obtain⟨M,hM⟩:∃M,M=N % ae:=⟨_,rfl⟩
    have bt_:=bt_.congr (V':=M) (by rw[hM,Nat.mod_mod])
    have hMl:M<ae:=by rw[hM];exact Nat.mod_lt _ dO
    have HM:=aa hM
    clear hM
    cases ov
    ·have hlow:R<170141183460469231731687303715884105728:=by
      rcases Nat.lt_or_ge R 170141183460469231731687303715884105728 with h|h
      ·exact h
      ·have:=HT.out.2 h;cases this
     have hMN:M=N:=by rw[HM.out,Nat.mod_eq_of_lt];have:=HN.out;have:=jI X j;unfold ae;omega
     have HMN:=aa hMN
     clear hMN
     obtain⟨y0,y1,yz0,yz1⟩:=by_.facts
     obtain⟨t0,t1,tz0,tz1⟩:=bt_.facts
     go_wp2_with fail
     by_cases hl:M<Y
     ·refine(tw M Y _ hMl hY hl).mono ?_
      rintro e w3 ⟨rfl,hb1⟩
      clear y0 y1 yz0 yz1 t0 t1 tz0 tz1
      have bx:=bx.call hb1
      have by_:=by_.call hb1
      have br:=br.call hb1
      have bo:=bo.call hb1
      have bt_:=bt_.call hb1
      have hb:=ac hb hb1
      clear hb1
      have hS:=HS.out.1 (by have:=HMN.out;omega)
      have HS1:=aa hS.1
      have HS2:=aa hS.2
      clear HS hS HB
      go_wp2_with fail
      go_roundw
      case rel=>exact kd.next hj bx by_ br (bo.same HS1.out) (bt_.same (by rw[<-HS2.out,HMN.out])) hb
      case measure=>simp[intOf]
     ·refine(vJ M Y _ hMl hY (by omega)).mono ?_
      rintro e w3 ⟨rfl,hb1⟩
      clear y0 y1 yz0 yz1 t0 t1 tz0 tz1
      have bx:=bx.call hb1
      have by_:=by_.call hb1
      have br:=br.call hb1
      have bo:=bo.call hb1
      have bt_:=bt_.call hb1
      have hb:=ac hb hb1
      clear hb1
      have hYN:Y<=N:=by have:=HMN.out;omega
      have hS:=HS.out.2 hYN
      have HS1:=aa hS.1
      have HS2:=aa hS.2
      clear HS hS
      obtain⟨y0,y1,yz0,yz1⟩:=by_.facts
      obtain⟨t0,t1,tz0,tz1⟩:=bt_.facts
      go_wp2_with fail
      refine(lT M Y _ hMl hY).mono ?_
      rintro e w4 ⟨rfl,hb1⟩
      clear y0 y1 yz0 yz1 t0 t1 tz0 tz1
      have bx:=bx.call hb1
      have by_:=by_.call hb1
      have br:=br.call hb1
      have bo:=bo.call hb1
      have bt_:=bt_.call hb1
      have hb:=ac hb hb1
      clear hb1
      obtain⟨D,hD⟩:∃D,D=(M+ae-Y) % ae:=⟨_,rfl⟩
      rw[<-hD]
      have HD:=aa hD
      clear hD
      obtain⟨t0,t1,tz0,tz1⟩:=bt_.facts
      obtain⟨o0,o1,oz0,oz1⟩:=bo.facts
      go_wp2_with fail
      clear t0 t1 tz0 tz1 o0 o1 oz0 oz1
      have bx:=bx.far2 (g':=w.heap.size+1+1+1+1) (by omega) (.int .u64 (lo (D))) (.int .u64 (hi (D)))
      have by_:=by_.far2 (g':=w.heap.size+1+1+1+1) (by omega) (.int .u64 (lo (D))) (.int .u64 (hi (D)))
      have br:=br.far2 (g':=w.heap.size+1+1+1+1) (by omega) (.int .u64 (lo (D))) (.int .u64 (hi (D)))
      have bo:=bo.far2 (g':=w.heap.size+1+1+1+1) (by omega) (.int .u64 (lo (D))) (.int .u64 (hi (D)))
      have bt_:=bt_.set_ (D)
      have hb:=aL (g:=w.heap.size+1+1+1+1) hb (by omega) (.int .u64 (lo (D))) (.int .u64 (hi (D)))
      obtain⟨W4,hW4⟩:∃W,W=(w4.setCell ⟨w.heap.size+1+1+1+1,0,none⟩ (.int .u64 (lo (D)))).setCell ⟨w.heap.size+1+1+1+1,1,none⟩ (.int .u64 (hi (D))):=⟨_,rfl⟩
      rw[<-hW4] at bx by_ br bo bt_ hb⊢
      clear hW4
      refine(lU O j _ hol hj HB.out).mono ?_
      rintro e w5 ⟨rfl,hb1⟩
      have bx:=bx.call hb1
      have by_:=by_.call hb1
      have br:=br.call hb1
      have bo:=bo.call hb1
      have bt_:=bt_.call hb1
      have hb:=ac hb hb1
      clear hb1
      obtain⟨S,hS⟩:∃S,S=O+2 ^ j:=⟨_,rfl⟩
      rw[<-hS]
      have HSS:=aa hS
      clear hS
      obtain⟨o0,o1,oz0,oz1⟩:=bo.facts
      go_wp2_with fail
      clear o0 o1 oz0 oz1
      have bx:=bx.far2 (g':=w.heap.size+1+1+1) (by omega) (.int .u64 (lo (S))) (.int .u64 (hi (S)))
      have by_:=by_.far2 (g':=w.heap.size+1+1+1) (by omega) (.int .u64 (lo (S))) (.int .u64 (hi (S)))
      have br:=br.far2 (g':=w.heap.size+1+1+1) (by omega) (.int .u64 (lo (S))) (.int .u64 (hi (S)))
      have bo:=bo.set_ (S)
      have bt_:=bt_.far2 (g':=w.heap.size+1+1+1) (by omega) (.int .u64 (lo (S))) (.int .u64 (hi (S)))
      have hb:=aL (g:=w.heap.size+1+1+1) hb (by omega) (.int .u64 (lo (S))) (.int .u64 (hi (S)))
      go_roundw
      case rel=>exact kd.next hj bx by_ br (bo.same (by rw[HSS.out,HS1.out])) (bt_.congr (by rw[<-HS2.out,HD.out,HM.out];exact oK N Y hYN hY)) hb
      case measure=>simp[intOf]
    ·have hYN:Y<=N:=by
      have h:170141183460469231731687303715884105728<=R:=by
       rcases Nat.lt_or_ge R 170141183460469231731687303715884105728 with h|h
       ·have:=HT.out.1 h;cases this
       ·exact h
      have:=HN.out;unfold ae at hY;omega
     have hS:=HS.out.2 hYN
     have HS1:=aa hS.1
     have HS2:=aa hS.2
     clear HS hS
     obtain⟨y0,y1,yz0,yz1⟩:=by_.facts
     obtain⟨t0,t1,tz0,tz1⟩:=bt_.facts
     go_wp2_with fail
     refine(lT M Y _ hMl hY).mono ?_
     rintro e w4 ⟨rfl,hb1⟩
     clear y0 y1 yz0 yz1 t0 t1 tz0 tz1
     have bx:=bx.call hb1
     have by_:=by_.call hb1
     have br:=br.call hb1
     have bo:=bo.call hb1
     have bt_:=bt_.call hb1
     have hb:=ac hb hb1
     clear hb1
     obtain⟨D,hD⟩:∃D,D=(M+ae-Y) % ae:=⟨_,rfl⟩
     rw[<-hD]
     have HD:=aa hD
     clear hD
     obtain⟨t0,t1,tz0,tz1⟩:=bt_.facts
     obtain⟨o0,o1,oz0,oz1⟩:=bo.facts
     go_wp2_with fail
     clear t0 t1 tz0 tz1 o0 o1 oz0 oz1
     have bx:=bx.far2 (g':=w.heap.size+1+1+1+1) (by omega) (.int .u64 (lo (D))) (.int .u64 (hi (D)))
     have by_:=by_.far2 (g':=w.heap.size+1+1+1+1) (by omega) (.int .u64 (lo (D))) (.int .u64 (hi (D)))
     have br:=br.far2 (g':=w.heap.size+1+1+1+1) (by omega) (.int .u64 (lo (D))) (.int .u64 (hi (D)))
     have bo:=bo.far2 (g':=w.heap.size+1+1+1+1) (by omega) (.int .u64 (lo (D))) (.int .u64 (hi (D)))
     have bt_:=bt_.set_ (D)
     have hb:=aL (g:=w.heap.size+1+1+1+1) hb (by omega) (.int .u64 (lo (D))) (.int .u64 (hi (D)))
     obtain⟨W4,hW4⟩:∃W,W=(w4.setCell ⟨w.heap.size+1+1+1+1,0,none⟩ (.int .u64 (lo (D)))).setCell ⟨w.heap.size+1+1+1+1,1,none⟩ (.int .u64 (hi (D))):=⟨_,rfl⟩
     rw[<-hW4] at bx by_ br bo bt_ hb⊢
     clear hW4
     refine(lU O j _ hol hj HB.out).mono ?_
     rintro e w5 ⟨rfl,hb1⟩
     have bx:=bx.call hb1
     have by_:=by_.call hb1
     have br:=br.call hb1
     have bo:=bo.call hb1
     have bt_:=bt_.call hb1
     have hb:=ac hb hb1
     clear hb1
     obtain⟨S,hS⟩:∃S,S=O+2 ^ j:=⟨_,rfl⟩
     rw[<-hS]
     have HSS:=aa hS
     clear hS
     obtain⟨o0,o1,oz0,oz1⟩:=bo.facts
     go_wp2_with fail
     clear o0 o1 oz0 oz1
     have bx:=bx.far2 (g':=w.heap.size+1+1+1) (by omega) (.int .u64 (lo (S))) (.int .u64 (hi (S)))
     have by_:=by_.far2 (g':=w.heap.size+1+1+1) (by omega) (.int .u64 (lo (S))) (.int .u64 (hi (S)))
     have br:=br.far2 (g':=w.heap.size+1+1+1) (by omega) (.int .u64 (lo (S))) (.int .u64 (hi (S)))
     have bo:=bo.set_ (S)
     have bt_:=bt_.far2 (g':=w.heap.size+1+1+1) (by omega) (.int .u64 (lo (S))) (.int .u64 (hi (S)))
     have hb:=aL (g:=w.heap.size+1+1+1) hb (by omega) (.int .u64 (lo (S))) (.int .u64 (hi (S)))
     go_roundw
     case rel=>exact kd.next hj bx by_ br (bo.same (by rw[HSS.out,HS1.out])) (bt_.congr (by rw[<-HS2.out,HD.out,HM.out];exact oK N Y hYN hY)) hb
     case measure=>simp[intOf]
  ·have bo:=bo.same (yZ X Y)
   obtain⟨V,hV⟩:∃V,V=X / Y:=⟨_,rfl⟩
   rw[<-hV] at bo
   have HV:=aa hV
   clear hV
   obtain⟨o0,o1,oz0,oz1⟩:=bo.facts
   obtain⟨r0,r1,rz0,rz1⟩:=br.facts
   go_wp2_with fail
   clear o0 o1 oz0 oz1 r0 r1 rz0 rz1
   have bx:=bx.far2 (g':=w.heap.size+1+1) (by omega) (.int .u64 (lo (V))) (.int .u64 (hi (V)))
   have by_:=by_.far2 (g':=w.heap.size+1+1) (by omega) (.int .u64 (lo (V))) (.int .u64 (hi (V)))
   have br:=br.set_ (V)
   have bo:=bo.far2 (g':=w.heap.size+1+1) (by omega) (.int .u64 (lo (V))) (.int .u64 (hi (V)))
   have bt_:=bt_.far2 (g':=w.heap.size+1+1) (by omega) (.int .u64 (lo (V))) (.int .u64 (hi (V)))
   have hb:=aL (g:=w.heap.size+1+1) hb (by omega) (.int .u64 (lo (V))) (.int .u64 (hi (V)))
   obtain⟨W9,hW9⟩:∃W,W=(wr.setCell ⟨w.heap.size+1+1,0,none⟩ (.int .u64 (lo (V)))).setCell ⟨w.heap.size+1+1,1,none⟩ (.int .u64 (hi (V))):=⟨_,rfl⟩
   rw[<-hW9] at bx by_ br bo bt_ hb⊢
   clear hW9
   obtain⟨r0,r1,rz0,rz1⟩:=br.facts
   exact bodyPost_ret (v:=vv V) (by simp[results,Tryz.results117,go_sem,r0,r1]) rfl ⟨by rw[HV.out],hb⟩
theorem vU (X Y:Nat) (w:World) (hX:X<ae) (hY:Y<ae):Calls Tryz.prog 79 #[.int .i64 2,vv X,vv Y] w fun e w'=>e=.returned (.tuple #[vv ((X+Y) % ae),.bool true])/\Below w.heap.size w w':=by
 go_enter Tryz.func79,Tryz.ntmps79
 go_wp2_with fail
 refine(kn X Y _ hX hY).mono ?_
 rintro e w1 ⟨rfl,hb1⟩
 have bx:=((Box.new w X).alloc _).alloc _ |>.call hb1
 have by_:=((Box.new _ Y).at_ (show _=w.heap.size+1 by simp)).alloc _ |>.call hb1
 have br:=((Box.new _ 0).at_ (show _=w.heap.size+1+1 by simp)).call hb1
 have hb:=ac (bi w _ _ _) hb1
 clear hb1
 obtain⟨r0,r1,rz0,rz1⟩:=br.facts
 go_wp2_with fail
 clear r0 r1 rz0 rz1
 have bx:=bx.far2 (g':=w.heap.size+1+1) (by omega) (.int .u64 (lo (((X+Y) % ae)))) (.int .u64 (hi (((X+Y) % ae))))
 have by_:=by_.far2 (g':=w.heap.size+1+1) (by omega) (.int .u64 (lo (((X+Y) % ae)))) (.int .u64 (hi (((X+Y) % ae))))
 have br:=br.set_ (((X+Y) % ae))
 have hb:=aL (g:=w.heap.size+1+1) hb (by omega) (.int .u64 (lo (((X+Y) % ae)))) (.int .u64 (hi (((X+Y) % ae))))
 obtain⟨W1,hW1⟩:∃W,W=(w1.setCell ⟨w.heap.size+1+1,0,none⟩ (.int .u64 (lo (((X+Y) % ae))))).setCell ⟨w.heap.size+1+1,1,none⟩ (.int .u64 (hi (((X+Y) % ae)))):=⟨_,rfl⟩
 rw[<-hW1] at bx by_ br hb⊢
 clear hW1
 obtain⟨r0,r1,rz0,rz1⟩:=br.facts
 exact bodyPost_ret (v:=.tuple #[vv ((X+Y) % ae),.bool true]) (by simp[results,Tryz.results79,go_sem,r0,r1]) rfl ⟨rfl,hb⟩
theorem vS (X Y:Nat) (w:World) (hX:X<ae) (hY:Y<ae):Calls Tryz.prog 79 #[.int .i64 3,vv X,vv Y] w fun e w'=>e=.returned (.tuple #[vv ((X+ae-Y) % ae),.bool true])/\Below w.heap.size w w':=by
 go_enter Tryz.func79,Tryz.ntmps79
 go_wp2_with fail
 refine(lT X Y _ hX hY).mono ?_
 rintro e w1 ⟨rfl,hb1⟩
 have bx:=((Box.new w X).alloc _).alloc _ |>.call hb1
 have by_:=((Box.new _ Y).at_ (show _=w.heap.size+1 by simp)).alloc _ |>.call hb1
 have br:=((Box.new _ 0).at_ (show _=w.heap.size+1+1 by simp)).call hb1
 have hb:=ac (bi w _ _ _) hb1
 clear hb1
 obtain⟨r0,r1,rz0,rz1⟩:=br.facts
 go_wp2_with fail
 clear r0 r1 rz0 rz1
 have bx:=bx.far2 (g':=w.heap.size+1+1) (by omega) (.int .u64 (lo (((X+ae-Y) % ae)))) (.int .u64 (hi (((X+ae-Y) % ae))))
 have by_:=by_.far2 (g':=w.heap.size+1+1) (by omega) (.int .u64 (lo (((X+ae-Y) % ae)))) (.int .u64 (hi (((X+ae-Y) % ae))))
 have br:=br.set_ (((X+ae-Y) % ae))
 have hb:=aL (g:=w.heap.size+1+1) hb (by omega) (.int .u64 (lo (((X+ae-Y) % ae)))) (.int .u64 (hi (((X+ae-Y) % ae))))
 obtain⟨W1,hW1⟩:∃W,W=(w1.setCell ⟨w.heap.size+1+1,0,none⟩ (.int .u64 (lo (((X+ae-Y) % ae))))).setCell ⟨w.heap.size+1+1,1,none⟩ (.int .u64 (hi (((X+ae-Y) % ae)))):=⟨_,rfl⟩
 rw[<-hW1] at bx by_ br hb⊢
 clear hW1
 obtain⟨r0,r1,rz0,rz1⟩:=br.facts
 exact bodyPost_ret (v:=.tuple #[vv ((X+ae-Y) % ae),.bool true]) (by simp[results,Tryz.results79,go_sem,r0,r1]) rfl ⟨rfl,hb⟩
theorem vR (X Y:Nat) (w:World) (hX:X<ae) (hY:Y<ae):Calls Tryz.prog 79 #[.int .i64 4,vv X,vv Y] w fun e w'=>e=.returned (.tuple #[vv (X*Y % ae),.bool true])/\Below w.heap.size w w':=by
 go_enter Tryz.func79,Tryz.ntmps79
 go_wp2_with fail
 refine(vI X Y _ hX hY).mono ?_
 rintro e w1 ⟨rfl,hb1⟩
 have bx:=((Box.new w X).alloc _).alloc _ |>.call hb1
 have by_:=((Box.new _ Y).at_ (show _=w.heap.size+1 by simp)).alloc _ |>.call hb1
 have br:=((Box.new _ 0).at_ (show _=w.heap.size+1+1 by simp)).call hb1
 have hb:=ac (bi w _ _ _) hb1
 clear hb1
 obtain⟨r0,r1,rz0,rz1⟩:=br.facts
 go_wp2_with fail
 clear r0 r1 rz0 rz1
 have bx:=bx.far2 (g':=w.heap.size+1+1) (by omega) (.int .u64 (lo ((X*Y % ae)))) (.int .u64 (hi ((X*Y % ae))))
 have by_:=by_.far2 (g':=w.heap.size+1+1) (by omega) (.int .u64 (lo ((X*Y % ae)))) (.int .u64 (hi ((X*Y % ae))))
 have br:=br.set_ ((X*Y % ae))
 have hb:=aL (g:=w.heap.size+1+1) hb (by omega) (.int .u64 (lo ((X*Y % ae)))) (.int .u64 (hi ((X*Y % ae))))
 obtain⟨W1,hW1⟩:∃W,W=(w1.setCell ⟨w.heap.size+1+1,0,none⟩ (.int .u64 (lo ((X*Y % ae))))).setCell ⟨w.heap.size+1+1,1,none⟩ (.int .u64 (hi ((X*Y % ae)))):=⟨_,rfl⟩
 rw[<-hW1] at bx by_ br hb⊢
 clear hW1
 obtain⟨r0,r1,rz0,rz1⟩:=br.facts
 exact bodyPost_ret (v:=.tuple #[vv (X*Y % ae),.bool true]) (by simp[results,Tryz.results79,go_sem,r0,r1]) rfl ⟨rfl,hb⟩
theorem vQ (X Y:Nat) (w:World) (hX:X<ae) (hY:Y<ae) (h0:0<Y):Calls Tryz.prog 79 #[.int .i64 5,vv X,vv Y] w fun e w'=>e=.returned (.tuple #[vv (X / Y),.bool true])/\Below w.heap.size w w':=by
 have hz:=mp hY
 by_cases g0:lo Y=0
 ·have q0:(lo Y==0)=true:=by simpa using g0
  have q1:(hi Y==0)=false:=by rw[beq_eq_false_iff_ne];intro h;have:=hz.1 ⟨g0,h⟩;omega
  clear g0 hz
  go_enter Tryz.func79,Tryz.ntmps79
  go_wp2_with fail
  refine(oP X Y _ hX hY h0).mono ?_
  rintro e w1 ⟨rfl,hb1⟩
  have bx:=((Box.new w X).alloc _).alloc _ |>.call hb1
  have by_:=((Box.new _ Y).at_ (show _=w.heap.size+1 by simp)).alloc _ |>.call hb1
  have br:=((Box.new _ 0).at_ (show _=w.heap.size+1+1 by simp)).call hb1
  have hb:=ac (bi w _ _ _) hb1
  clear hb1
  obtain⟨r0,r1,rz0,rz1⟩:=br.facts
  go_wp2_with fail
  clear r0 r1 rz0 rz1
  have bx:=bx.far2 (g':=w.heap.size+1+1) (by omega) (.int .u64 (lo ((X / Y)))) (.int .u64 (hi ((X / Y))))
  have by_:=by_.far2 (g':=w.heap.size+1+1) (by omega) (.int .u64 (lo ((X / Y)))) (.int .u64 (hi ((X / Y))))
  have br:=br.set_ ((X / Y))
  have hb:=aL (g:=w.heap.size+1+1) hb (by omega) (.int .u64 (lo ((X / Y)))) (.int .u64 (hi ((X / Y))))
  obtain⟨W1,hW1⟩:∃W,W=(w1.setCell ⟨w.heap.size+1+1,0,none⟩ (.int .u64 (lo ((X / Y))))).setCell ⟨w.heap.size+1+1,1,none⟩ (.int .u64 (hi ((X / Y)))):=⟨_,rfl⟩
  rw[<-hW1] at bx by_ br hb⊢
  clear hW1
  obtain⟨r0,r1,rz0,rz1⟩:=br.facts
  exact bodyPost_ret (v:=.tuple #[vv (X / Y),.bool true]) (by simp[results,Tryz.results79,go_sem,r0,r1]) rfl ⟨rfl,hb⟩
 ·have q0:(lo Y==0)=false:=by simpa using g0
  clear g0 hz
  go_enter Tryz.func79,Tryz.ntmps79
  go_wp2_with fail
  refine(oP X Y _ hX hY h0).mono ?_
  rintro e w1 ⟨rfl,hb1⟩
  have bx:=((Box.new w X).alloc _).alloc _ |>.call hb1
  have by_:=((Box.new _ Y).at_ (show _=w.heap.size+1 by simp)).alloc _ |>.call hb1
  have br:=((Box.new _ 0).at_ (show _=w.heap.size+1+1 by simp)).call hb1
  have hb:=ac (bi w _ _ _) hb1
  clear hb1
  obtain⟨r0,r1,rz0,rz1⟩:=br.facts
  go_wp2_with fail
  clear r0 r1 rz0 rz1
  have bx:=bx.far2 (g':=w.heap.size+1+1) (by omega) (.int .u64 (lo ((X / Y)))) (.int .u64 (hi ((X / Y))))
  have by_:=by_.far2 (g':=w.heap.size+1+1) (by omega) (.int .u64 (lo ((X / Y)))) (.int .u64 (hi ((X / Y))))
  have br:=br.set_ ((X / Y))
  have hb:=aL (g:=w.heap.size+1+1) hb (by omega) (.int .u64 (lo ((X / Y)))) (.int .u64 (hi ((X / Y))))
  obtain⟨W1,hW1⟩:∃W,W=(w1.setCell ⟨w.heap.size+1+1,0,none⟩ (.int .u64 (lo ((X / Y))))).setCell ⟨w.heap.size+1+1,1,none⟩ (.int .u64 (hi ((X / Y)))):=⟨_,rfl⟩
  rw[<-hW1] at bx by_ br hb⊢
  clear hW1
  obtain⟨r0,r1,rz0,rz1⟩:=br.facts
  exact bodyPost_ret (v:=.tuple #[vv (X / Y),.bool true]) (by simp[results,Tryz.results79,go_sem,r0,r1]) rfl ⟨rfl,hb⟩
theorem tE (X Y:Nat) (w:World) (hX:X<ae) (hY:Y<ae) (h0:Y=0):Calls Tryz.prog 79 #[.int .i64 5,vv X,vv Y] w fun e w'=>e=.returned (.tuple #[vv 0,.bool false])/\Below w.heap.size w w':=by
 have g:=(mp hY).2 h0
 have q0:(lo Y==0)=true:=by simpa using g.1
 have q1:(hi Y==0)=true:=by simpa using g.2
 clear g
 go_enter Tryz.func79,Tryz.ntmps79
 go_wp2_with fail
 exact bodyPost_ret (v:=.tuple #[vv 0,.bool false]) (by simp[results,Tryz.results79,go_sem,i9]) rfl ⟨rfl,bi _ _ _ _⟩
theorem vP (X Y:Nat) (w:World) (hX:X<ae) (hY:Y<ae):Calls Tryz.prog 79 #[.int .i64 6,vv X,vv Y] w fun e w'=>e=.returned (.tuple #[vv (X &&& Y),.bool true])/\Below w.heap.size w w':=by
 obtain⟨l0,l1⟩:=cM X
 obtain⟨h0,h1⟩:=cQ X
 obtain⟨m0,m1⟩:=cM Y
 obtain⟨k0,k1⟩:=cQ Y
 go_enter Tryz.func79,Tryz.ntmps79
 go_wp2_with fail
 rw[pC,uX]
 exact bodyPost_ret (v:=.tuple #[vv (X &&& Y),.bool true]) (by simp[results,Tryz.results79,go_sem]) rfl ⟨rfl,bi _ _ _ _⟩
theorem vO (X Y:Nat) (w:World) (hX:X<ae) (hY:Y<ae):Calls Tryz.prog 79 #[.int .i64 7,vv X,vv Y] w fun e w'=>e=.returned (.tuple #[vv (X ||| Y),.bool true])/\Below w.heap.size w w':=by
 obtain⟨l0,l1⟩:=cM X
 obtain⟨h0,h1⟩:=cQ X
 obtain⟨m0,m1⟩:=cM Y
 obtain⟨k0,k1⟩:=cQ Y
 go_enter Tryz.func79,Tryz.ntmps79
 go_wp2_with fail
 rw[rI,xy]
 exact bodyPost_ret (v:=.tuple #[vv (X ||| Y),.bool true]) (by simp[results,Tryz.results79,go_sem]) rfl ⟨rfl,bi _ _ _ _⟩
theorem vN (X Y:Nat) (w:World) (hX:X<ae) (hY:Y<ae):Calls Tryz.prog 79 #[.int .i64 8,vv X,vv Y] w fun e w'=>e=.returned (.tuple #[vv (X ^^^ Y),.bool true])/\Below w.heap.size w w':=by
 obtain⟨l0,l1⟩:=cM X
 obtain⟨h0,h1⟩:=cQ X
 obtain⟨m0,m1⟩:=cM Y
 obtain⟨k0,k1⟩:=cQ Y
 go_enter Tryz.func79,Tryz.ntmps79
 go_wp2_with fail
 rw[ou,sK]
 exact bodyPost_ret (v:=.tuple #[vv (X ^^^ Y),.bool true]) (by simp[results,Tryz.results79,go_sem]) rfl ⟨rfl,bi _ _ _ _⟩
theorem vM (X Y:Nat) (w:World) (hX:X<ae) (hY:Y<ae):Calls Tryz.prog 79 #[.int .i64 9,vv X,vv Y] w fun e w'=>e=.returned (.tuple #[vv (bn (decide (X<Y))),.bool true])/\Below w.heap.size w w':=by
 go_enter Tryz.func79,Tryz.ntmps79
 go_wp2_with fail
 refine(kS X Y _ hX hY).mono ?_
 rintro e w1 ⟨rfl,hb1⟩
 have bx:=((Box.new w X).alloc _).alloc _ |>.call hb1
 have by_:=((Box.new _ Y).at_ (show _=w.heap.size+1 by simp)).alloc _ |>.call hb1
 have br:=((Box.new _ 0).at_ (show _=w.heap.size+1+1 by simp)).call hb1
 have hb:=ac (bi w _ _ _) hb1
 clear hb1
 obtain⟨b,eb⟩:∃b,b=decide (X<Y):=⟨_,rfl⟩
 rw[<-eb]
 have Eb:=aa eb
 clear eb
 go_wp2_with fail
 refine(mF b _).mono ?_
 rintro e w2 ⟨rfl,hb1⟩
 have bx:=bx.call hb1
 have by_:=by_.call hb1
 have br:=br.call hb1
 have hb:=ac hb hb1
 clear hb1
 obtain⟨r0,r1,rz0,rz1⟩:=br.facts
 go_wp2_with fail
 clear r0 r1 rz0 rz1
 have bx:=bx.far2 (g':=w.heap.size+1+1) (by omega) (.int .u64 (lo ((bn b)))) (.int .u64 (hi ((bn b))))
 have by_:=by_.far2 (g':=w.heap.size+1+1) (by omega) (.int .u64 (lo ((bn b)))) (.int .u64 (hi ((bn b))))
 have br:=br.set_ ((bn b))
 have hb:=aL (g:=w.heap.size+1+1) hb (by omega) (.int .u64 (lo ((bn b)))) (.int .u64 (hi ((bn b))))
 obtain⟨W1,hW1⟩:∃W,W=(w2.setCell ⟨w.heap.size+1+1,0,none⟩ (.int .u64 (lo ((bn b))))).setCell ⟨w.heap.size+1+1,1,none⟩ (.int .u64 (hi ((bn b)))):=⟨_,rfl⟩
 rw[<-hW1] at bx by_ br hb⊢
 clear hW1
 obtain⟨r0,r1,rz0,rz1⟩:=br.facts
 exact bodyPost_ret (v:=.tuple #[vv (bn b),.bool true]) (by simp[results,Tryz.results79,go_sem,r0,r1]) rfl ⟨by rw[<-Eb.out],hb⟩
theorem tF (X Y:Nat) (w:World) (hX:X<ae) (hY:Y<ae):Calls Tryz.prog 79 #[.int .i64 10,vv X,vv Y] w fun e w'=>e=.returned (.tuple #[vv (bn (decide (X=Y))),.bool true])/\Below w.heap.size w w':=by
 have hz:=fun w=>jA X Y w hX hY
 go_enter Tryz.func79,Tryz.ntmps79
 go_wp2_with fail
 clear hz
 obtain⟨b,eb⟩:∃b,b=decide (X=Y):=⟨_,rfl⟩
 rw[<-eb]
 have Eb:=aa eb
 clear eb
 refine(mF b _).mono ?_
 rintro e w1 ⟨rfl,hb1⟩
 have bx:=((Box.new w X).alloc _).alloc _ |>.call hb1
 have by_:=((Box.new _ Y).at_ (show _=w.heap.size+1 by simp)).alloc _ |>.call hb1
 have br:=((Box.new _ 0).at_ (show _=w.heap.size+1+1 by simp)).call hb1
 have hb:=ac (bi w _ _ _) hb1
 clear hb1
 obtain⟨r0,r1,rz0,rz1⟩:=br.facts
 go_wp2_with fail
 clear r0 r1 rz0 rz1
 have bx:=bx.far2 (g':=w.heap.size+1+1) (by omega) (.int .u64 (lo ((bn b)))) (.int .u64 (hi ((bn b))))
 have by_:=by_.far2 (g':=w.heap.size+1+1) (by omega) (.int .u64 (lo ((bn b)))) (.int .u64 (hi ((bn b))))
 have br:=br.set_ ((bn b))
 have hb:=aL (g:=w.heap.size+1+1) hb (by omega) (.int .u64 (lo ((bn b)))) (.int .u64 (hi ((bn b))))
 obtain⟨W1,hW1⟩:∃W,W=(w1.setCell ⟨w.heap.size+1+1,0,none⟩ (.int .u64 (lo ((bn b))))).setCell ⟨w.heap.size+1+1,1,none⟩ (.int .u64 (hi ((bn b)))):=⟨_,rfl⟩
 rw[<-hW1] at bx by_ br hb⊢
 clear hW1
 obtain⟨r0,r1,rz0,rz1⟩:=br.facts
 exact bodyPost_ret (v:=.tuple #[vv (bn b),.bool true]) (by simp[results,Tryz.results79,go_sem,r0,r1]) rfl ⟨by rw[<-Eb.out],hb⟩
theorem p5 (X Y:Nat) (w:World) (hX:X<ae) (hY:Y<ae) (op:Int) (h2:¬(2<=op/\op<=10)):Calls Tryz.prog 79 #[.int .i64 op,vv X,vv Y] w fun e w'=>e=.returned (.tuple #[vv 0,.bool false])/\Below w.heap.size w w':=by
 have o2:(op==2)=false:=by rw[beq_eq_false_iff_ne];omega
 have o3:(op==3)=false:=by rw[beq_eq_false_iff_ne];omega
 have o4:(op==4)=false:=by rw[beq_eq_false_iff_ne];omega
 have o5:(op==5)=false:=by rw[beq_eq_false_iff_ne];omega
 have o6:(op==6)=false:=by rw[beq_eq_false_iff_ne];omega
 have o7:(op==7)=false:=by rw[beq_eq_false_iff_ne];omega
 have o8:(op==8)=false:=by rw[beq_eq_false_iff_ne];omega
 have o9:(op==9)=false:=by rw[beq_eq_false_iff_ne];omega
 have o10:(op==10)=false:=by rw[beq_eq_false_iff_ne];omega
 clear h2
 go_enter Tryz.func79,Tryz.ntmps79
 go_wp2_with fail
 exact bodyPost_ret (v:=.tuple #[vv 0,.bool false]) (by simp[results,Tryz.results79,go_sem,i9]) rfl ⟨rfl,bi _ _ _ _⟩
theorem rs (op:Int) (X Y:Nat) (w:World) (hX:X<ae) (hY:Y<ae):Calls Tryz.prog 79 #[.int .i64 op,vv X,vv Y] w fun e w'=>e=.returned (.tuple #[vv (bJ op X Y),.bool (cO op Y)])/\Below w.heap.size w w':=by
 have key:∀(V:Nat) (b:Bool),V % ae=bJ op X Y % ae->b=cO op Y->(Calls Tryz.prog 79 #[.int .i64 op,vv X,vv Y] w fun e w'=>e=.returned (.tuple #[vv V,.bool b])/\Below w.heap.size w w') ->
   Calls Tryz.prog 79 #[.int .i64 op,vv X,vv Y] w fun e w'=>e=.returned (.tuple #[vv (bJ op X Y),.bool (cO op Y)])/\Below w.heap.size w w':=by
  intro V b hV hb h
  have e:vv V=vv (bJ op X Y):=by unfold vv;rw[(fC hV).1,(fC hV).2]
  rw[e,hb] at h
  exact h
 by_cases o2:op=2
 ·subst o2;exact key _ _ (by simp[bJ]) (by simp[cO]) (vU X Y w hX hY)
 by_cases o3:op=3
 ·subst o3;exact key _ _ (by simp[bJ]) (by simp[cO]) (vS X Y w hX hY)
 by_cases o4:op=4
 ·subst o4;exact key _ _ (by simp[bJ]) (by simp[cO]) (vR X Y w hX hY)
 by_cases o5:op=5
 ·subst o5
  by_cases h0:Y=0
  ·subst h0;exact key _ _ (by simp[bJ]) (by simp[cO]) (tE X 0 w hX hY rfl)
  ·exact key _ _ (by simp[bJ]) (by simp[cO,h0]) (vQ X Y w hX hY (by omega))
 by_cases o6:op=6
 ·subst o6;exact key _ _ (by simp[bJ]) (by simp[cO]) (vP X Y w hX hY)
 by_cases o7:op=7
 ·subst o7;exact key _ _ (by simp[bJ]) (by simp[cO]) (vO X Y w hX hY)
 by_cases o8:op=8
 ·subst o8;exact key _ _ (by simp[bJ]) (by simp[cO]) (vN X Y w hX hY)
 by_cases o9:op=9
 ·subst o9;exact key _ _ (by simp[bJ]) (by simp[cO]) (vM X Y w hX hY)
 by_cases o10:op=10
 ·subst o10;exact key _ _ (by simp[bJ]) (by simp[cO]) (tF X Y w hX hY)
 exact key _ _ (by simp[bJ,o2,o3,o4,o5,o6,o7,o8,o9,o10]) (by unfold cO;symm;rw[decide_eq_false_iff_not];omega) (p5 X Y w hX hY op (by omega))
end Go.Proofs.YtjbgepjdohfhkaaGreat
