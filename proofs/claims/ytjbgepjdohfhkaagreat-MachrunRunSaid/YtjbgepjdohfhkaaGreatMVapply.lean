/- The contract of value.Apply: the result of every operation on any values, and whether there is one. Conditions: those of the types. -/
import Derived.Test.YtjbgepjdohfhkaaGreatMVbytem
import Derived.Orders
import Derived.Deep.Quiet
import Derived.Deep.RegionHeld3
set_option linter.unusedVariables false
set_option linter.unusedSimpArgs false
set_option maxRecDepth 100000
set_option maxHeartbeats 4000000
namespace Go.Proofs.YtjbgepjdohfhkaaGreat
open Go.RowKit
theorem zk (X Y:Nat) (w:World) (hX:X<ae) (hY:Y<ae):Calls Tryz.prog 131 #[.int .i64 2,vv X,vv Y] w fun e w'=>e=.returned (.tuple #[vv (X+Y),.bool true])/\Below w.heap.size w w':=by
 go_enter Tryz.func131,Tryz.ntmps131
 go_wp2_with fail
 refine(ya X Y _ ).mono ?_
 rintro e w1 ⟨rfl,hb1⟩
 have bx:=((Box.new w X).alloc _).alloc _ |>.call hb1
 have by_:=((Box.new _ Y).at_ (show _=w.heap.size+1 by simp)).alloc _ |>.call hb1
 have br:=((Box.new _ 0).at_ (show _=w.heap.size+1+1 by simp)).call hb1
 have hb:=ac (bi w _ _ _) hb1
 clear hb1
 obtain⟨r0,r1,rz0,rz1⟩:=br.facts
 go_wp2_with fail
 clear r0 r1 rz0 rz1
 have bx:=bx.far2 (g':=w.heap.size+1+1) (by omega) (.int .u64 (lo ((X+Y)))) (.int .u64 (hi ((X+Y))))
 have by_:=by_.far2 (g':=w.heap.size+1+1) (by omega) (.int .u64 (lo ((X+Y)))) (.int .u64 (hi ((X+Y))))
 have br:=br.set_ ((X+Y))
 have hb:=aL (g:=w.heap.size+1+1) hb (by omega) (.int .u64 (lo ((X+Y)))) (.int .u64 (hi ((X+Y))))
 obtain⟨W1,hW1⟩:∃W,W=(w1.setCell ⟨w.heap.size+1+1,0,none⟩ (.int .u64 (lo ((X+Y))))).setCell ⟨w.heap.size+1+1,1,none⟩ (.int .u64 (hi ((X+Y)))):=⟨_,rfl⟩
 rw[<-hW1] at bx by_ br hb⊢
 clear hW1
 obtain⟨r0,r1,rz0,rz1⟩:=br.facts
 exact bodyPost_ret (v:=.tuple #[vv (X+Y),.bool true]) (by simp[results,Tryz.results131,go_sem,r0,r1]) rfl ⟨rfl,hb⟩
theorem zj (X Y:Nat) (w:World) (hX:X<ae) (hY:Y<ae):Calls Tryz.prog 131 #[.int .i64 3,vv X,vv Y] w fun e w'=>e=.returned (.tuple #[vv (X+ae-Y),.bool true])/\Below w.heap.size w w':=by
 go_enter Tryz.func131,Tryz.ntmps131
 go_wp2_with fail
 refine(pq X Y _ hY).mono ?_
 rintro e w1 ⟨rfl,hb1⟩
 have bx:=((Box.new w X).alloc _).alloc _ |>.call hb1
 have by_:=((Box.new _ Y).at_ (show _=w.heap.size+1 by simp)).alloc _ |>.call hb1
 have br:=((Box.new _ 0).at_ (show _=w.heap.size+1+1 by simp)).call hb1
 have hb:=ac (bi w _ _ _) hb1
 clear hb1
 obtain⟨r0,r1,rz0,rz1⟩:=br.facts
 go_wp2_with fail
 clear r0 r1 rz0 rz1
 have bx:=bx.far2 (g':=w.heap.size+1+1) (by omega) (.int .u64 (lo ((X+ae-Y)))) (.int .u64 (hi ((X+ae-Y))))
 have by_:=by_.far2 (g':=w.heap.size+1+1) (by omega) (.int .u64 (lo ((X+ae-Y)))) (.int .u64 (hi ((X+ae-Y))))
 have br:=br.set_ ((X+ae-Y))
 have hb:=aL (g:=w.heap.size+1+1) hb (by omega) (.int .u64 (lo ((X+ae-Y)))) (.int .u64 (hi ((X+ae-Y))))
 obtain⟨W1,hW1⟩:∃W,W=(w1.setCell ⟨w.heap.size+1+1,0,none⟩ (.int .u64 (lo ((X+ae-Y))))).setCell ⟨w.heap.size+1+1,1,none⟩ (.int .u64 (hi ((X+ae-Y)))):=⟨_,rfl⟩
 rw[<-hW1] at bx by_ br hb⊢
 clear hW1
 obtain⟨r0,r1,rz0,rz1⟩:=br.facts
 exact bodyPost_ret (v:=.tuple #[vv (X+ae-Y),.bool true]) (by simp[results,Tryz.results131,go_sem,r0,r1]) rfl ⟨rfl,hb⟩
theorem zi (X Y:Nat) (w:World) (hX:X<ae) (hY:Y<ae):Calls Tryz.prog 131 #[.int .i64 4,vv X,vv Y] w fun e w'=>e=.returned (.tuple #[vv (X*Y),.bool true])/\Below w.heap.size w w':=by
 go_enter Tryz.func131,Tryz.ntmps131
 go_wp2_with fail
 refine(p6 X Y _ hX hY).mono ?_
 rintro e w1 ⟨rfl,hb1⟩
 have bx:=((Box.new w X).alloc _).alloc _ |>.call hb1
 have by_:=((Box.new _ Y).at_ (show _=w.heap.size+1 by simp)).alloc _ |>.call hb1
 have br:=((Box.new _ 0).at_ (show _=w.heap.size+1+1 by simp)).call hb1
 have hb:=ac (bi w _ _ _) hb1
 clear hb1
 obtain⟨r0,r1,rz0,rz1⟩:=br.facts
 go_wp2_with fail
 clear r0 r1 rz0 rz1
 have bx:=bx.far2 (g':=w.heap.size+1+1) (by omega) (.int .u64 (lo ((X*Y)))) (.int .u64 (hi ((X*Y))))
 have by_:=by_.far2 (g':=w.heap.size+1+1) (by omega) (.int .u64 (lo ((X*Y)))) (.int .u64 (hi ((X*Y))))
 have br:=br.set_ ((X*Y))
 have hb:=aL (g:=w.heap.size+1+1) hb (by omega) (.int .u64 (lo ((X*Y)))) (.int .u64 (hi ((X*Y))))
 obtain⟨W1,hW1⟩:∃W,W=(w1.setCell ⟨w.heap.size+1+1,0,none⟩ (.int .u64 (lo ((X*Y))))).setCell ⟨w.heap.size+1+1,1,none⟩ (.int .u64 (hi ((X*Y)))):=⟨_,rfl⟩
 rw[<-hW1] at bx by_ br hb⊢
 clear hW1
 obtain⟨r0,r1,rz0,rz1⟩:=br.facts
 exact bodyPost_ret (v:=.tuple #[vv (X*Y),.bool true]) (by simp[results,Tryz.results131,go_sem,r0,r1]) rfl ⟨rfl,hb⟩
theorem zh (X Y:Nat) (w:World) (hX:X<ae) (hY:Y<ae) (h0:0<Y):Calls Tryz.prog 131 #[.int .i64 5,vv X,vv Y] w fun e w'=>e=.returned (.tuple #[vv (X / Y),.bool true])/\Below w.heap.size w w':=by
 have hz:∀w,(binOp .eql 38 (.agg #[.int .u64 (lo Y),.int .u64 (hi Y)]) (.agg #[.int .u64 0,.int .u64 0])).run Tryz.prog w=.ok (.bool false) w:=fun w=>by rw[lH Y w hY,decide_eq_false (show¬Y=0 by omega)]
 go_enter Tryz.func131,Tryz.ntmps131
 go_wp2_with fail
 refine(oR X Y _ hX hY h0).mono ?_
 rintro e w1 ⟨rfl,hb1⟩
 have bx:=((Box.new w X).alloc _).alloc _ |>.call hb1
 have by_:=((Box.new _ Y).at_ (show _=w.heap.size+1 by simp)).alloc _ |>.call hb1
 have br:=((Box.new _ 0).at_ (show _=w.heap.size+1+1 by simp)).call hb1
 have hb:=ac (bi w _ _ _) hb1
 clear hb1
 obtain⟨r0,r1,rz0,rz1⟩:=br.facts
 go_wp2_with fail
 clear r0 r1 rz0 rz1
 have bx:=bx.far2 (g':=w.heap.size+1+1) (by omega) (.int .u64 (lo ((X / Y)))) (.int .u64 (hi ((X / Y))))
 have by_:=by_.far2 (g':=w.heap.size+1+1) (by omega) (.int .u64 (lo ((X / Y)))) (.int .u64 (hi ((X / Y))))
 have br:=br.set_ ((X / Y))
 have hb:=aL (g:=w.heap.size+1+1) hb (by omega) (.int .u64 (lo ((X / Y)))) (.int .u64 (hi ((X / Y))))
 obtain⟨W1,hW1⟩:∃W,W=(w1.setCell ⟨w.heap.size+1+1,0,none⟩ (.int .u64 (lo ((X / Y))))).setCell ⟨w.heap.size+1+1,1,none⟩ (.int .u64 (hi ((X / Y)))):=⟨_,rfl⟩
 rw[<-hW1] at bx by_ br hb⊢
 clear hW1
 obtain⟨r0,r1,rz0,rz1⟩:=br.facts
 exact bodyPost_ret (v:=.tuple #[vv (X / Y),.bool true]) (by simp[results,Tryz.results131,go_sem,r0,r1]) rfl ⟨rfl,hb⟩
theorem xi (X Y:Nat) (w:World) (hX:X<ae) (hY:Y<ae) (h0:Y=0):Calls Tryz.prog 131 #[.int .i64 5,vv X,vv Y] w fun e w'=>e=.returned (.tuple #[vv 0,.bool false])/\Below w.heap.size w w':=by
 have hz:∀w,(binOp .eql 38 (.agg #[.int .u64 (lo Y),.int .u64 (hi Y)]) (.agg #[.int .u64 0,.int .u64 0])).run Tryz.prog w=.ok (.bool true) w:=fun w=>by rw[lH Y w hY,decide_eq_true (show Y=0 by omega)]
 go_enter Tryz.func131,Tryz.ntmps131
 go_wp2_with fail
 exact bodyPost_ret (v:=.tuple #[vv 0,.bool false]) (by simp[results,Tryz.results131,go_sem,i9]) rfl ⟨rfl,bi _ _ _ _⟩
theorem zg (X Y:Nat) (w:World) (hX:X<ae) (hY:Y<ae):Calls Tryz.prog 131 #[.int .i64 6,vv X,vv Y] w fun e w'=>e=.returned (.tuple #[vv (X &&& Y),.bool true])/\Below w.heap.size w w':=by
 obtain⟨l0,l1⟩:=cM X
 obtain⟨h0,h1⟩:=cQ X
 obtain⟨m0,m1⟩:=cM Y
 obtain⟨k0,k1⟩:=cQ Y
 go_enter Tryz.func131,Tryz.ntmps131
 go_wp2_with fail
 rw[pC,uX]
 exact bodyPost_ret (v:=.tuple #[vv (X &&& Y),.bool true]) (by simp[results,Tryz.results131,go_sem]) rfl ⟨rfl,bi _ _ _ _⟩
theorem zf (X Y:Nat) (w:World) (hX:X<ae) (hY:Y<ae):Calls Tryz.prog 131 #[.int .i64 7,vv X,vv Y] w fun e w'=>e=.returned (.tuple #[vv (X ||| Y),.bool true])/\Below w.heap.size w w':=by
 obtain⟨l0,l1⟩:=cM X
 obtain⟨h0,h1⟩:=cQ X
 obtain⟨m0,m1⟩:=cM Y
 obtain⟨k0,k1⟩:=cQ Y
 go_enter Tryz.func131,Tryz.ntmps131
 go_wp2_with fail
 rw[rI,xy]
 exact bodyPost_ret (v:=.tuple #[vv (X ||| Y),.bool true]) (by simp[results,Tryz.results131,go_sem]) rfl ⟨rfl,bi _ _ _ _⟩
theorem ze (X Y:Nat) (w:World) (hX:X<ae) (hY:Y<ae):Calls Tryz.prog 131 #[.int .i64 8,vv X,vv Y] w fun e w'=>e=.returned (.tuple #[vv (X ^^^ Y),.bool true])/\Below w.heap.size w w':=by
 obtain⟨l0,l1⟩:=cM X
 obtain⟨h0,h1⟩:=cQ X
 obtain⟨m0,m1⟩:=cM Y
 obtain⟨k0,k1⟩:=cQ Y
 go_enter Tryz.func131,Tryz.ntmps131
 go_wp2_with fail
 rw[ou,sK]
 exact bodyPost_ret (v:=.tuple #[vv (X ^^^ Y),.bool true]) (by simp[results,Tryz.results131,go_sem]) rfl ⟨rfl,bi _ _ _ _⟩
theorem zd (X Y:Nat) (w:World) (hX:X<ae) (hY:Y<ae):Calls Tryz.prog 131 #[.int .i64 9,vv X,vv Y] w fun e w'=>e=.returned (.tuple #[vv (bn (decide (X<Y))),.bool true])/\Below w.heap.size w w':=by
 go_enter Tryz.func131,Tryz.ntmps131
 go_wp2_with fail
 refine(mc X Y _ hX hY).mono ?_
 rintro e w1 ⟨rfl,hb1⟩
 have bx:=((Box.new w X).alloc _).alloc _ |>.call hb1
 have by_:=((Box.new _ Y).at_ (show _=w.heap.size+1 by simp)).alloc _ |>.call hb1
 have br:=((Box.new _ 0).at_ (show _=w.heap.size+1+1 by simp)).call hb1
 have hb:=ac (bi w _ _ _) hb1
 clear hb1
 obtain⟨b,eb⟩:∃b,b=decide (X<Y):=⟨_,rfl⟩
 rw[<-eb]
 have Eb:=aa eb
 clear eb
 go_wp2_with fail
 refine(ny b _).mono ?_
 rintro e w2 ⟨rfl,hb1⟩
 have bx:=bx.call hb1
 have by_:=by_.call hb1
 have br:=br.call hb1
 have hb:=ac hb hb1
 clear hb1
 obtain⟨r0,r1,rz0,rz1⟩:=br.facts
 go_wp2_with fail
 clear r0 r1 rz0 rz1
 have bx:=bx.far2 (g':=w.heap.size+1+1) (by omega) (.int .u64 (lo ((bn b)))) (.int .u64 (hi ((bn b))))
 have by_:=by_.far2 (g':=w.heap.size+1+1) (by omega) (.int .u64 (lo ((bn b)))) (.int .u64 (hi ((bn b))))
 have br:=br.set_ ((bn b))
 have hb:=aL (g:=w.heap.size+1+1) hb (by omega) (.int .u64 (lo ((bn b)))) (.int .u64 (hi ((bn b))))
 obtain⟨W1,hW1⟩:∃W,W=(w2.setCell ⟨w.heap.size+1+1,0,none⟩ (.int .u64 (lo ((bn b))))).setCell ⟨w.heap.size+1+1,1,none⟩ (.int .u64 (hi ((bn b)))):=⟨_,rfl⟩
 rw[<-hW1] at bx by_ br hb⊢
 clear hW1
 obtain⟨r0,r1,rz0,rz1⟩:=br.facts
 exact bodyPost_ret (v:=.tuple #[vv (bn b),.bool true]) (by simp[results,Tryz.results131,go_sem,r0,r1]) rfl ⟨by rw[<-Eb.out],hb⟩
theorem xj (X Y:Nat) (w:World) (hX:X<ae) (hY:Y<ae):Calls Tryz.prog 131 #[.int .i64 10,vv X,vv Y] w fun e w'=>e=.returned (.tuple #[vv (bn (decide (X=Y))),.bool true])/\Below w.heap.size w w':=by
 have hz:=fun w=>jA X Y w hX hY
 go_enter Tryz.func131,Tryz.ntmps131
 go_wp2_with fail
 clear hz
 obtain⟨b,eb⟩:∃b,b=decide (X=Y):=⟨_,rfl⟩
 rw[<-eb]
 have Eb:=aa eb
 clear eb
 refine(ny b _).mono ?_
 rintro e w1 ⟨rfl,hb1⟩
 have bx:=((Box.new w X).alloc _).alloc _ |>.call hb1
 have by_:=((Box.new _ Y).at_ (show _=w.heap.size+1 by simp)).alloc _ |>.call hb1
 have br:=((Box.new _ 0).at_ (show _=w.heap.size+1+1 by simp)).call hb1
 have hb:=ac (bi w _ _ _) hb1
 clear hb1
 obtain⟨r0,r1,rz0,rz1⟩:=br.facts
 go_wp2_with fail
 clear r0 r1 rz0 rz1
 have bx:=bx.far2 (g':=w.heap.size+1+1) (by omega) (.int .u64 (lo ((bn b)))) (.int .u64 (hi ((bn b))))
 have by_:=by_.far2 (g':=w.heap.size+1+1) (by omega) (.int .u64 (lo ((bn b)))) (.int .u64 (hi ((bn b))))
 have br:=br.set_ ((bn b))
 have hb:=aL (g:=w.heap.size+1+1) hb (by omega) (.int .u64 (lo ((bn b)))) (.int .u64 (hi ((bn b))))
 obtain⟨W1,hW1⟩:∃W,W=(w1.setCell ⟨w.heap.size+1+1,0,none⟩ (.int .u64 (lo ((bn b))))).setCell ⟨w.heap.size+1+1,1,none⟩ (.int .u64 (hi ((bn b)))):=⟨_,rfl⟩
 rw[<-hW1] at bx by_ br hb⊢
 clear hW1
 obtain⟨r0,r1,rz0,rz1⟩:=br.facts
 exact bodyPost_ret (v:=.tuple #[vv (bn b),.bool true]) (by simp[results,Tryz.results131,go_sem,r0,r1]) rfl ⟨by rw[<-Eb.out],hb⟩
theorem sB (X Y:Nat) (w:World) (hX:X<ae) (hY:Y<ae) (op:Int) (h2:¬(2<=op/\op<=10)):Calls Tryz.prog 131 #[.int .i64 op,vv X,vv Y] w fun e w'=>e=.returned (.tuple #[vv 0,.bool false])/\Below w.heap.size w w':=by
 have o2:(op==2)=false:=by rw[beq_eq_false_iff_ne];omega
 have o3:(op==3)=false:=by rw[beq_eq_false_iff_ne];omega
 have o4:(op==4)=false:=by rw[beq_eq_false_iff_ne];omega
 have o5:(op==5)=false:=by rw[beq_eq_false_iff_ne];omega
 have o6:(op==6)=false:=by rw[beq_eq_false_iff_ne];omega
 have o7:(op==7)=false:=by rw[beq_eq_false_iff_ne];omega
 have o8:(op==8)=false:=by rw[beq_eq_false_iff_ne];omega
 have o9:(op==9)=false:=by rw[beq_eq_false_iff_ne];omega
 have o10:(op==10)=false:=by rw[beq_eq_false_iff_ne];omega
 clear h2
 go_enter Tryz.func131,Tryz.ntmps131
 go_wp2_with fail
 exact bodyPost_ret (v:=.tuple #[vv 0,.bool false]) (by simp[results,Tryz.results131,go_sem,i9]) rfl ⟨rfl,bi _ _ _ _⟩
theorem uW (op:Int) (X Y:Nat) (w:World) (hX:X<ae) (hY:Y<ae):Calls Tryz.prog 131 #[.int .i64 op,vv X,vv Y] w fun e w'=>e=.returned (.tuple #[vv (bJ op X Y),.bool (cO op Y)])/\Below w.heap.size w w':=by
 have key:∀(V:Nat) (b:Bool),V % ae=bJ op X Y % ae->b=cO op Y->(Calls Tryz.prog 131 #[.int .i64 op,vv X,vv Y] w fun e w'=>e=.returned (.tuple #[vv V,.bool b])/\Below w.heap.size w w') ->
   Calls Tryz.prog 131 #[.int .i64 op,vv X,vv Y] w fun e w'=>e=.returned (.tuple #[vv (bJ op X Y),.bool (cO op Y)])/\Below w.heap.size w w':=by
  intro V b hV hb h
  have e:vv V=vv (bJ op X Y):=by unfold vv;rw[(fC hV).1,(fC hV).2]
  rw[e,hb] at h
  exact h
 by_cases o2:op=2
 ·subst o2;exact key _ _ (by simp[bJ]) (by simp[cO]) (zk X Y w hX hY)
 by_cases o3:op=3
 ·subst o3;exact key _ _ (by simp[bJ]) (by simp[cO]) (zj X Y w hX hY)
 by_cases o4:op=4
 ·subst o4;exact key _ _ (by simp[bJ]) (by simp[cO]) (zi X Y w hX hY)
 by_cases o5:op=5
 ·subst o5
  by_cases h0:Y=0
  ·subst h0;exact key _ _ (by simp[bJ]) (by simp[cO]) (xi X 0 w hX hY rfl)
  ·exact key _ _ (by simp[bJ]) (by simp[cO,h0]) (zh X Y w hX hY (by omega))
 by_cases o6:op=6
 ·subst o6;exact key _ _ (by simp[bJ]) (by simp[cO]) (zg X Y w hX hY)
 by_cases o7:op=7
 ·subst o7;exact key _ _ (by simp[bJ]) (by simp[cO]) (zf X Y w hX hY)
 by_cases o8:op=8
 ·subst o8;exact key _ _ (by simp[bJ]) (by simp[cO]) (ze X Y w hX hY)
 by_cases o9:op=9
 ·subst o9;exact key _ _ (by simp[bJ]) (by simp[cO]) (zd X Y w hX hY)
 by_cases o10:op=10
 ·subst o10;exact key _ _ (by simp[bJ]) (by simp[cO]) (xj X Y w hX hY)
 exact key _ _ (by simp[bJ,o2,o3,o4,o5,o6,o7,o8,o9,o10]) (by unfold cO;symm;rw[decide_eq_false_iff_not];omega) (sB X Y w hX hY op (by omega))
theorem uN {α:Type} {p q:α->Bool}:∀{xs:List α} {i:α},(∀x∈xs,q x=true->p x=true)->i∈xs->p i=true->q i=false->xs.countP q<xs.countP p:=by
 intro xs
 induction xs with
 | nil=>intro i _ hi;cases hi
 | cons y r ih=>
  intro i h hi hp hq
  have hle:r.countP q<=r.countP p:=List.countP_mono_left fun x hx=>h x (List.mem_cons_of_mem _ hx)
  rw[List.countP_cons,List.countP_cons]
  rcases List.mem_cons.1 hi with rfl|hi
  ·rw[hp,hq];simp;omega
  ·have:=ih (fun x hx=>h x (List.mem_cons_of_mem _ hx)) hi hp hq
   have hy:=h y List.mem_cons_self
   cases e:q y with
   | false=>simp;split<;>omega
   | true=>rw[hy e];simp;omega
theorem wO (l:Array Bool) (i j:Nat):(l.setIfInBounds i true).getD j true=(decide (i=j)||l.getD j true):=by
 simp only[Array.getD_eq_getD_getElem?,Array.getElem?_setIfInBounds]
 by_cases e:i=j
 ·subst e
  by_cases h:i<l.size<;>simp[h]
 ·simp[e]
def mR (n:Nat) (l:Array Bool):Nat:=(List.range n).countP fun i=>!l.getD i true
theorem rQ {ops:Array Oper} {md:Region.Mode} {l:Array Bool} {i:Nat} (hi:i∈Region.ready md ops l):mR ops.size (l.setIfInBounds i true)<mR ops.size l:=by
 unfold Region.ready at hi
 obtain⟨h1,h2⟩:=List.mem_filter.1 hi
 simp only[Bool.and_eq_true,Bool.not_eq_true'] at h2
 refine uN (i:=i) (fun x _ hx=>?_) h1 (by simp[h2.1]) (by simp)
 simp only[wO,Bool.not_or,Bool.and_eq_true] at hx
 exact hx.2
theorem mH {ops:Array Oper} {md:Region.Mode} {l:Array Bool} (h:mR ops.size l=0):Region.ready md ops l=[]:=by
 unfold Region.ready
 refine List.filter_eq_nil_iff.2 fun x hx=>?_
 have:=List.countP_eq_zero.1 h x hx
 simp only[Bool.not_eq_true,Bool.not_eq_false'] at this
 simp[this]
theorem sO {P:Program} {Q:Exit->Act->World->Prop} {ops:Array Oper} (I:Array Bool->Act->World->Prop)
  (hs:∀l a w,I l a w->∀i∈Region.ready .any ops l,∀K:Act->World->Prop,(∀a' w',I (l.setIfInBounds i true) a' w'->K a' w')->wpOp P ops Q i K a w)
  (he:∀l a w,I l a w->Region.ready .any ops l=[]->Q .normal a w):∀(fuel:Nat) (l:Array Bool) (a:Act) (w:World),I l a w->mR ops.size l<=fuel->wpAny P .any ops Q fuel l a w:=by
 intro fuel
 induction fuel with
 | zero=>exact fun l a w h hl=>⟨mH (by omega),he l a w h (mH (by omega))⟩
 | succ fuel ih=>
  intro l a w h hl
  refine⟨he l a w h,fun i hi=>hs l a w h i hi _ fun a' w' h'=>ih _ _ _ h' ?_⟩
  have:=rQ hi
  omega
theorem eq {P:Program} {id:Nat} {Q:Exit->Act->World->Prop} {a:Act} {w:World} {ops:Array Oper} (hm:P.follows .mixedOrders=true) (I:Array Bool->Act->World->Prop)
  (h0:I (Array.replicate ops.size false) a w.drew)
  (hs:∀l a w,I l a w->∀i∈Region.ready .any ops l,∀K:Act->World->Prop,(∀a' w',I (l.setIfInBounds i true) a' w'->K a' w')->wpOp P ops Q i K a w)
  (he:∀l a w,I l a w->Region.ready .any ops l=[]->Q .normal a w):(Code.region id ops true).wp P Q a w:=
 wp_region_any hm (sO I hs he _ _ _ _ h0 (Nat.le_trans List.countP_le_length (by simp)))
theorem ak {P:Program} {Q:Exit->Act->World->Prop} {ops:Array Oper} {i:Nat} {o:Oper} {K:Act->World->Prop} {a:Act} {w:World} (hi:ops[i]?=some o) (hg:o.guard=none) (h:o.wp P a w K Q):wpOp P ops Q i K a w:=by
 unfold wpOp
 simp only[hi]
 rw[if_pos (by simp[Region.wanted,hg])]
 exact .inl h
theorem je {ops:Array Oper} {l:Array Bool} {i:Nat} (hi:i∈Region.ready .any ops l):l.getD i true=false/\∃o,ops[i]?=some o/\o.after.all (fun e=>!Region.binds .any e||l.getD e.on false)=true:=by
 unfold Region.ready at hi
 obtain⟨_,h2⟩:=List.mem_filter.1 hi
 simp only[Bool.and_eq_true,Bool.not_eq_true'] at h2
 cases ho:ops[i]? with
 | none=>rw[ho] at h2;simp at h2
 | some o=>rw[ho] at h2;exact⟨h2.1,o,rfl,by simpa using h2.2⟩
theorem jf {ops:Array Oper} {l:Array Bool} {i:Nat} (hi:i∈Region.ready .any ops l):i<ops.size:=by
 unfold Region.ready at hi
 exact List.mem_range.1 (List.mem_filter.1 hi).1
theorem vL {ops:Array Oper} {l:Array Bool} {i:Nat} {o:Oper} (ho:ops[i]?=some o) (h:l.getD i true=false) (ha:o.after.all (fun e=>!Region.binds .any e||l.getD e.on false)=true):i∈Region.ready .any ops l:=by
 unfold Region.ready
 refine List.mem_filter.2 ⟨List.mem_range.2 (Array.getElem?_eq_some_iff.1 ho).1,?_⟩
 rw[ho]
 simp only[Option.map_some,Option.getD_some,h,ha,Bool.not_false,Bool.and_self]
theorem aF {ops:Array Oper} {l:Array Bool} {i:Nat} {o:Oper} (hr:Region.ready .any ops l=[]) (ho:ops[i]?=some o) (h:l.getD i true=false) (ha:o.after.all (fun e=>!Region.binds .any e||l.getD e.on false)=true):False:=by
 have:=vL ho h ha
 rw[hr] at this
 cases this
def jo (ops:Array Oper) (m:Nat):Bool:=
 (List.range (m+1)).all (fun i=>match ops[i]? with
  | none=>false
  | some o=>o.guard.isNone&&o.after.all (fun e=>!Region.binds .any e||decide (e.on<i))) &&
 (List.range m).all (fun i=>(List.range (m+1)).any (fun j=>decide (i<j)&&(match ops[j]? with
  | none=>false
  | some o=>o.after.any (fun e=>Region.binds .any e&&decide (e.on=i)))))
section
variable {P:Program} {ops:Array Oper} {C:World->Prop} {m:Nat}
theorem py (h:jo ops m=true) {i:Nat} (hi:i<=m):∃o,ops[i]?=some o/\o.guard=none/\∀e∈o.after,Region.binds .any e=true->e.on<i:=by
 unfold jo at h
 rw[Bool.and_eq_true] at h
 have h1:=List.all_eq_true.1 h.1 i (List.mem_range.2 (by omega))
 cases ho:ops[i]? with
 | none=>rw[ho] at h1;cases h1
 | some o=>
  rw[ho] at h1
  simp only[Bool.and_eq_true,Option.isNone_iff_eq_none] at h1
  refine⟨o,rfl,h1.1,fun e he hb=>?_⟩
  have h3:=h1.2
  rw[<-Array.all_toList,List.all_eq_true] at h3
  have:=h3 e (by simpa using he)
  rw[hb] at this
  simpa using this
theorem uP (h:jo ops m=true) {i:Nat} (hi:i<m):∃j o,i<j/\j<=m/\ops[j]?=some o/\∃e∈o.after,Region.binds .any e=true/\e.on=i:=by
 unfold jo at h
 rw[Bool.and_eq_true] at h
 have h1:=List.all_eq_true.1 h.2 i (List.mem_range.2 hi)
 obtain⟨j,hj,h2⟩:=List.any_eq_true.1 h1
 rw[Bool.and_eq_true,decide_eq_true_eq] at h2
 cases ho:ops[j]? with
 | none=>rw[ho] at h2;cases h2.2
 | some o=>
  rw[ho] at h2
  have h3:=h2.2
  dsimp only at h3
  rw[<-Array.any_toList] at h3
  obtain⟨e,he,h4⟩:=List.any_eq_true.1 h3
  rw[Bool.and_eq_true,decide_eq_true_eq] at h4
  exact⟨j,o,h2.1,by have:=List.mem_range.1 hj;omega,ho,e,by simpa using he,h4.1,h4.2⟩
theorem mq {md:Region.Mode} {Q:Act->Prop} (hs:Region.noSelect ops=true):∀(l:List Oper) (k:Nat) (listed:Array Bool) (a:Act),(∀j,j<l.length->l[j]?=ops[k+j]?) ->
  Region.lexFrom md ops l.length k listed=true->wpQuiet P ops C Q l a->wpAnyQ P md ops C Q l.length listed a
 | [],_,_,_,_,hB,h=>⟨by simpa[Region.lexFrom] using hB,h⟩
 | o::l,k,listed,a,hl,hB,h=>by
  have h0:ops[k]?=some o:=by simpa using(hl 0 (by simp)).symm
  simp only[List.length_cons,Region.lexFrom,Bool.and_eq_true] at hB
  obtain⟨⟨hr,hf⟩,hB'⟩:=hB
  have hst:qOp P ops C k (wpQuiet P ops C Q l) a:=by unfold qOp;simp only[h0];exact h
  obtain⟨v,hy,hK⟩:=yieldsIn_of_qOp h0 hst
  exact wpAnyQ_first h0 (Region.noSelect_spec hs) l.length listed a (Region.free_spec h0 hf) (by simpa using hr) hy
   (mq hs l (k+1) _ _ (fun j hj=>by have:=hl (j+1) (by simp;omega);simpa[Nat.add_assoc,Nat.add_comm 1 j] using this) hB' hK)
def qJ (ops:Array Oper) (listed:Array Bool):Prop:=∀i o,ops[i]?=some o->listed.getD i false=true->∀e∈o.after,Region.binds .any e=true->listed.getD e.on false=true
theorem uD {l:Array Bool} {i:Nat} (hi:i<l.size) (h:l.getD i true=true):l.getD i false=true:=by
 simp[Array.getD_eq_getD_getElem?,hi] at h⊢
 exact h
theorem sC (h:jo ops m=true) {listed:Array Bool} (hc:qJ ops listed) {o:Oper} (ho:ops[m]?=some o) (hr:∀e∈o.after,Region.binds .any e=true->listed.getD e.on false=true):∀(n i:Nat),m-i<=n->i<m->listed.getD i false=true:=by
 intro n
 induction n with
 | zero=>intro i h1 h2;omega
 | succ n ih=>
  intro i h1 h2
  obtain⟨j,oj,hij,hjm,hoj,e,he,hb,hei⟩:=uP h h2
  rw[<-hei]
  by_cases hj:j=m
  ·subst hj
   rw[ho] at hoj
   injection hoj with hoj
   subst hoj
   exact hr e he hb
  ·exact hc j oj hoj (ih j (by omega) (by omega)) e he hb
theorem rL (h:jo ops m=true) {listed:Array Bool} (hsz:listed.size=ops.size) (hm:ops.size=m+1) (hr:Region.ready .any ops listed=[]):∀(n i:Nat),i<n->i<=m->listed.getD i false=true:=by
 intro n
 induction n with
 | zero=>intro i h1 _;omega
 | succ n ih=>
  intro i h1 h2
  by_cases hl:listed.getD i true=true
  ·exact uD (by omega) hl
  ·obtain⟨o,ho,_,ha⟩:=py h h2
   exfalso
   have:i∈Region.ready .any ops listed:=mem_ready.2 ⟨by simpa using hl,o,ho,fun e he hb=>ih e.on (by have:=ha e he hb;omega) (by have:=ha e he hb;omega)⟩
   rw[hr] at this
   cases this
theorem kB {l:Array Bool} {i j:Nat} (h:i≠j) (d:Bool):(l.setIfInBounds i true).getD j d=l.getD j d:=by
 simp[Array.getD_eq_getD_getElem?,Array.getElem?_setIfInBounds,h]
theorem cX {id:Nat} {Q:Exit->Act->World->Prop} {a:Act} {w:World} {o:Oper} (m:Nat) (hm:P.follows .mixedOrders=true) (hn:ops.size=m+1) (ho:ops[m]?=some o) (hs:Region.noSelect ops=true)
  (hB:Region.lexFrom .any ops m 0 ((Array.replicate ops.size false).setIfInBounds m true)=true) (hch:jo ops m=true) (hC:C w.drew)
  (h:wpQuiet P ops C (fun a'=>∀w',C w'->wpList P #[o] Q [o] a' w') (ops.toList.take m) a):(Code.region id ops true).wp P Q a w:=by
 have hlen:(ops.toList.take m).length=m:=by rw[List.length_take,Array.length_toList];omega
 have hpre:=mq (md:=.any) hs (ops.toList.take m) 0 ((Array.replicate ops.size false).setIfInBounds m true) a (fun j hj=>by rw[List.getElem?_take,if_pos (by omega),Nat.zero_add];simp) (by rw[hlen];exact hB) h
 obtain⟨_,_,hgm,_⟩:=(⟨o,ho,(by obtain⟨o',h1,h2,_⟩:=py hch (Nat.le_refl m);rw[ho] at h1;injection h1 with h1;rw[h1];exact h2:o.guard=none),trivial⟩:∃o',ops[m]?=some o'/\o.guard=none/\True)
 let K:Act->Prop:=fun a'=>∀w',C w'->wpList P #[o] Q [o] a' w'
 refine eq hm (fun listed a w=>listed.size=ops.size/\((listed.getD m true=false/\qJ ops listed/\C w/\∃fuel,wpAnyQ P .any ops C K fuel (listed.setIfInBounds m true) a)\/(Region.ready .any ops listed=[]/\Q .normal a w))) ?_ ?_ ?_
 ·refine⟨by simp,.inl ⟨?_,?_,hC,_,hpre⟩⟩
  ·simp[Array.getD_eq_getD_getElem?,hn]
  ·intro i o' _ hl
   exfalso
   simp[Array.getD_eq_getD_getElem?] at hl
   by_cases hi:i<ops.size<;>simp[hi,Array.getElem?_replicate] at hl
 ·rintro l a w ⟨hsz,⟨hlm,hcl,hCw,fuel,hq⟩|⟨hr,_⟩⟩ i hi K2 hK2
  ·by_cases him:i=m
   ·subst him
    obtain⟨_,o',ho',hall⟩:=mem_ready.1 hi
    rw[ho] at ho'
    injection ho' with ho'
    subst ho'
    have hal:∀j,j<i->l.getD j false=true:=fun j hj=>sC hch hcl ho hall _ j (Nat.le_refl _) hj
    have hnr:Region.ready .any ops (l.setIfInBounds i true)=[]:=by
     refine List.eq_nil_iff_forall_not_mem.2 fun j hj=>?_
     obtain⟨hj1,oj,hoj,_⟩:=mem_ready.1 hj
     have hjn:j<ops.size:=(Array.getElem?_eq_some_iff.1 hoj).1
     by_cases hji:i=j
     ·subst hji
      simp[Array.getD_eq_getD_getElem?,hsz,hjn] at hj1
     ·rw[kB hji] at hj1
      have:=hal j (by omega)
      simp[Array.getD_eq_getD_getElem?,hsz,hjn] at hj1 this
      rw[this] at hj1
      cases hj1
    have hKa:K a:=by
     cases fuel with
     | zero=>exact hq.2
     | succ fuel=>exact hq.1 hnr
    have h1:=hKa w hCw
    unfold wpList at h1
    unfold wpOp
    simp only[ho]
    have hw:∀x,Region.wanted o x=true:=fun x=>by simp[Region.wanted,hgm]
    rw[if_pos (hw _)] at h1⊢
    rcases h1 with h1|h1
    ·exact .inl (Oper.wp_mono (fun a' w' h2=>hK2 a' w' ⟨by simpa using hsz,.inr ⟨hnr,h2⟩⟩) h1)
    ·exact .inr h1
   ·have hi2:=ready_mono hi him
    cases fuel with
    | zero=>rw[hq.1] at hi2;cases hi2
    | succ fuel=>
     have h1:=hq.2 i hi2
     refine wpOp_of_qOp hCw (fun a' w' hC' h2=>hK2 a' w' ⟨by simpa using hsz,.inl ⟨?_,?_,hC',fuel,?_⟩⟩) h1
     ·rw[kB him];exact hlm
     ·intro j oj hoj hl e he hb
      obtain⟨_,oi,hoi,hall⟩:=mem_ready.1 hi
      have key:l.getD e.on false=true:=by
       by_cases hij:i=j
       ·subst hij
        rw[hoi] at hoj
        injection hoj with hoj
        subst hoj
        exact hall e he hb
       ·rw[kB hij] at hl
        exact hcl j oj hoj hl e he hb
      exact getD_set_true key
     ·rw[Array.setIfInBounds_comm _ _ him];exact h2
  ·rw[hr] at hi;cases hi
 ·rintro l a w ⟨hsz,⟨hlm,hcl,hCw,fuel,hq⟩|⟨_,h2⟩⟩ hr
  ·have:=rL hch hsz hn hr (m+1) m (by omega) (Nat.le_refl _)
   simp[Array.getD_eq_getD_getElem?,hsz,hn] at hlm this
   rw[hlm] at this
   cases this
  ·exact h2
end
section
variable {g base fu:Nat} {T:TypeId} {vi vt:Value} {rest:List Value} {c:Co}
theorem su (op a b d m:Int) (at_:Int) (w:World) (ha:-1000000<=at_/\at_<=1000000) (h:Hid (CoAt w g base T fu vi vt rest c)) :
  Calls Tryz.prog 64 #[.pointer (some ⟨g,0,none⟩),iv op a b d m,.int .i64 at_] w fun e w'=>e=.returned (.int .i64 (c.next ⟨op,a,b,d,m⟩ at_))/\Below w.heap.size w w':=by
 obtain⟨W1,hW1⟩:∃W,w.alloc (.cells #[.int .i64 op,.int .i64 a,.int .i64 b,.int .i64 d,.int .u64 m] 50)=W:=⟨_,rfl⟩
 have HW1:=aa hW1
 have R1:=aa (show Row W1 w.heap.size 50 [.int .i64 op,.int .i64 a,.int .i64 b,.int .i64 d,.int .u64 m] by rw[<-hW1];exact Row.new w _ _)
 have H1:=aa (show CoAt W1 g base T fu vi vt rest c by rw[<-hW1];exact h.out.alloc _)
 have B1:=aa (show Below w.heap.size w W1 by rw[<-hW1];exact ag w _)
 have x0:=R1.out.cell (k:=0) rfl
 have x1:=R1.out.cell (k:=1) rfl
 have x2:=R1.out.cell (k:=2) rfl
 clear hW1
 by_cases h20:op=20
 ·subst h20
  rw[show c.next ⟨20,a,b,d,m⟩ at_=a from rfl]
  go_enter Tryz.func64,Tryz.ntmps64
  go_upto_region 1 with(fail)
  rw[HW1.out]
  go_wp2_with fail
  go_ret
  exact⟨rfl,B1.out⟩
 ·have e20:(op==20)=false:=by rw[beq_eq_false_iff_ne];exact h20
  have hw:IntKind.i64.wrap (at_+1)=at_+1:=by rw[IntKind.wrap_i64];omega
  by_cases h21:op=21
  ·subst h21
   obtain⟨V,hV⟩:∃V,c.reg a=V:=⟨_,rfl⟩
   have cr:=fun W hW=>eA (g:=g) (base:=base) (T:=T) (fu:=fu) (vi:=vi) (vt:=vt) (rest:=rest) (c:=c) a W hW
   rw[hV] at cr
   have hfi:∀w,(Instr.field 38 (vv V) 0).run Tryz.prog w=.ok (.int .u64 (lo V)) w:=fun w=>by kernel_rfl
   by_cases h0:V % 18446744073709551616=0
   ·have e:c.next ⟨21,a,b,d,m⟩ at_=at_+1:=by unfold Co.next;rw[if_neg (show¬(21:Int)=20 by decide),if_neg (fun hh=>hh.2 (by show c.reg a % _=0;rw[hV];exact h0))]
    have hl:(lo V !=0)=false:=by unfold lo;rw[h0];rfl
    rw[e]
    clear hV e h0 e20
    go_enter Tryz.func64,Tryz.ntmps64
    go_upto_region 1 with(fail)
    rw[HW1.out]
    go_wp2_with fail
    refine(cr _ H1).mono ?_
    rintro e w2 ⟨rfl,hb2⟩
    have B2:=aa (ac B1.out hb2)
    clear hb2 cr x0 x1 x2
    go_wp2_with fail
    go_ret
    exact⟨rfl,B2.out⟩
   ·have e:c.next ⟨21,a,b,d,m⟩ at_=b:=by unfold Co.next;rw[if_neg (show¬(21:Int)=20 by decide),if_pos ⟨rfl,show¬c.reg a % 18446744073709551616=0 by rw[hV];exact h0⟩]
    have hl:(lo V !=0)=true:=by rw[bne_iff_ne];unfold lo;omega
    rw[e]
    clear hV e h0 e20 hw
    go_enter Tryz.func64,Tryz.ntmps64
    go_upto_region 1 with(fail)
    rw[HW1.out]
    go_wp2_with fail
    refine(cr _ H1).mono ?_
    rintro e w2 ⟨rfl,hb2⟩
    have B2:=aa (ac B1.out hb2)
    have y2:=(R1.out.call hb2).cell (k:=2) rfl
    clear hb2 cr x0 x1 x2
    go_wp2_with fail
    go_ret
    exact⟨rfl,B2.out⟩
  ·have e21:(op==21)=false:=by rw[beq_eq_false_iff_ne];exact h21
   have e:c.next ⟨op,a,b,d,m⟩ at_=at_+1:=by unfold Co.next;rw[if_neg h20,if_neg (fun h=>h21 h.1)]
   rw[e]
   clear e h20 h21
   go_enter Tryz.func64,Tryz.ntmps64
   go_upto_region 1 with(fail)
   rw[HW1.out]
   go_wp2_with fail
   go_ret
   exact⟨rfl,B1.out⟩
theorem ss (w:World) (h:Hid (CoAt w g base T fu vi vt rest c)) :
  Calls Tryz.prog 103 #[.pointer (some ⟨g,0,none⟩)] w fun e w'=>e=.returned (.int .u64 ((c.inp.headD 0:Nat):Int))/\(∃vi',CoAt w' g base T fu vi' vt rest { c with inp:=c.inp.tail })/\JKp w w' g vt vt:=by
 obtain⟨A,n,k,rfl,hl,hnc,hcm,hA,hs⟩:=h.out.inp
 have HL:=aa hl
 have c0:=h.out.far 0 rfl
 cases hin:c.inp with
 | nil=>
  obtain rfl:n=0:=by rw[<-hl,hin];rfl
  have FIN:=aa (show CoAt w g base T fu (.slice A 0 k) vt rest { c with inp:=([]:List Nat).tail } by rw[show({ c with inp:=([]:List Nat).tail }:Co)=c by rw[<-hin];simp[hin];rw[<-hin]];exact h.out)
  clear hl hs hin
  go_enter Tryz.func103,Tryz.ntmps103
  go_wp2_with fail
  go_ret
  exact⟨rfl,⟨_,FIN.out⟩,JKp.refl _ _ _⟩
 | cons v r=>
  obtain⟨j,rfl⟩:∃j,n=j+1:=⟨r.length,by rw[<-hl,hin];rfl⟩
  have hrk:r.length=j:=by rw[hin] at hl;simpa using hl
  rw[hin] at hs
  obtain⟨b,off,rfl,hb,hc⟩:=hs 0 (.int .u64 (v:Int)) rfl
  rw[Nat.add_zero] at hc
  have HS:=aa hs
  have HIN:=aa hin
  have hk0:¬((j:Int)+1=0):=by omega
  have z0:=h.out.row.free 0
  clear hl hs hin
  by_cases hc1:k=1
  ·subst hc1
   have hk:j=0:=by omega
   subst hk
   have hr:r=[]:=List.eq_nil_of_length_eq_zero hrk
   subst hr
   have q:=aa (h.out.store 0 (.slice (some ⟨b,off,none⟩) 0 0) (c':={ c with inp:=[] }) (vi':=.slice (some ⟨b,off,none⟩) 0 0) (fu':=fu) (rest':=rest) rfl ⟨_,_,_,rfl,rfl,Nat.le_refl _,by omega,fun _=>rfl,an.nil_ _ _ _⟩ rfl h.out.r8)
   go_enter Tryz.func103,Tryz.ntmps103
   go_wp2_with fail
   go_ret
   exact⟨rfl,⟨_,q.out⟩,JKp.set w g 0 vt _⟩
  ·have q:=aa (h.out.store 0 (.slice (some ⟨b,off+1,none⟩) j (k-1)) (c':={ c with inp:=r }) (vi':=.slice (some ⟨b,off+1,none⟩) j (k-1)) (fu':=fu) (rest':=rest) rfl ⟨_,_,_,rfl,hrk,by omega,by omega,(fun e=>by cases e),fun i u hu=>by
     obtain⟨b',off',e,hb',hc'⟩:=HS.out (i+1) u (by unfold dM at hu⊢;simpa using hu)
     injection e with e
     injection e with e1 e2
     subst e1 e2
     exact⟨b,off+1,rfl,hb',by rw[show off+1+i=off+(i+1) by omega];exact hc'⟩⟩ rfl h.out.r8)
   go_enter Tryz.func103,Tryz.ntmps103
   go_wp2_with fail
   go_ret
   exact⟨rfl,⟨_,q.out⟩,JKp.set w g 0 vt _⟩
end
theorem AQ (w:World):Calls Tryz.prog 136 #[.int .i64 1] w fun e w'=>e=.returned (.bool true)/\w=w':=by
 go_enter Tryz.func136,Tryz.ntmps136
 go_wp2
 go_ret
 exact⟨rfl,rfl⟩
theorem AP (w:World):Calls Tryz.prog 136 #[.int .i64 2] w fun e w'=>e=.returned (.bool true)/\w=w':=by
 go_enter Tryz.func136,Tryz.ntmps136
 go_wp2
 go_ret
 exact⟨rfl,rfl⟩
theorem AO (w:World):Calls Tryz.prog 136 #[.int .i64 4] w fun e w'=>e=.returned (.bool true)/\w=w':=by
 go_enter Tryz.func136,Tryz.ntmps136
 go_wp2
 go_ret
 exact⟨rfl,rfl⟩
theorem AN (w:World):Calls Tryz.prog 136 #[.int .i64 8] w fun e w'=>e=.returned (.bool true)/\w=w':=by
 go_enter Tryz.func136,Tryz.ntmps136
 go_wp2
 go_ret
 exact⟨rfl,rfl⟩
theorem zF (w:World):Calls Tryz.prog 136 #[.int .i64 16] w fun e w'=>e=.returned (.bool true)/\w=w':=by
 go_enter Tryz.func136,Tryz.ntmps136
 go_wp2
 go_ret
 exact⟨rfl,rfl⟩
theorem vn (n:Int) (w:World) (h:szB n=false):Calls Tryz.prog 136 #[.int .i64 n] w fun e w'=>e=.returned (.bool false)/\w=w':=by
 have hn:=of_decide_eq_false h
 have o1:(n==1)=false:=by rw[beq_eq_false_iff_ne];omega
 have o2:(n==2)=false:=by rw[beq_eq_false_iff_ne];omega
 have o4:(n==4)=false:=by rw[beq_eq_false_iff_ne];omega
 have o8:(n==8)=false:=by rw[beq_eq_false_iff_ne];omega
 have o16:(n==16)=false:=by rw[beq_eq_false_iff_ne];omega
 clear hn h
 go_enter Tryz.func136,Tryz.ntmps136
 go_wp2
 go_ret
 exact⟨rfl,rfl⟩
theorem jZ (n:Int) (w:World):Calls Tryz.prog 136 #[.int .i64 n] w fun e w'=>e=.returned (.bool (szB n))/\w=w':=by
 by_cases h:szB n=true
 ·rw[h]
  have hn:=of_decide_eq_true h
  rcases hn with rfl|rfl|rfl|rfl|rfl
  ·exact AQ w
  ·exact AP w
  ·exact AO w
  ·exact AN w
  ·exact zF w
 ·have h:szB n=false:=by simpa using h
  rw[h]
  exact vn n w h
theorem v4 (X Y:Nat) (w:World):Calls Tryz.prog 101 #[vv X,vv Y] w fun e w'=>e=.returned (vv (eS X Y))/\Below w.heap.size w w':=by
 have e1:=aa (qp X Y)
 have e2:=aa (qq X Y)
 obtain⟨V,hV⟩:∃V,V=eS X Y:=⟨_,rfl⟩
 rw[<-hV] at e1 e2⊢
 clear hV
 go_enter Tryz.func101,Tryz.ntmps101
 go_wp2
 rw[e1.out,e2.out]
 exact bodyPost_ret (v:=vv V) (by simp[results,Tryz.results101,go_sem]) rfl ⟨rfl,bi _ _ _ _⟩
theorem wK (X:Nat) (w:World):Calls Tryz.prog 102 #[vv X] w fun e w'=>e=.returned (vv (eU X))/\Below w.heap.size w w':=by
 have e1:=aa (qw X)
 have e2:=aa (qx X)
 obtain⟨V,hV⟩:∃V,V=eU X:=⟨_,rfl⟩
 rw[<-hV] at e1 e2⊢
 clear hV
 go_enter Tryz.func102,Tryz.ntmps102
 go_wp2
 rw[e1.out]
 exact bodyPost_ret (v:=vv V) (by simp[results,Tryz.results102,go_sem,e2.out]) rfl ⟨rfl,aP _ _ _⟩
section
variable {g base fu:Nat} {T:TypeId} {vi vt:Value} {rest:List Value} {c:Co}
theorem ek (w:World) (op a b d m:Int) (h:Hid (CoAt w g base T fu vi vt rest c)):∃W1,w.alloc (.cells #[.int .i64 op,.int .i64 a,.int .i64 b,.int .i64 d,.int .u64 m] 50)=W1/\Hid (Row W1 w.heap.size 50 [.int .i64 op,.int .i64 a,.int .i64 b,.int .i64 d,.int .u64 m])/\Hid (CoAt W1 g base T fu vi vt rest c)/\Hid (JKp w W1 g vt vt):=
 ⟨_,rfl,aa (Row.new w _ _),aa (h.out.alloc _),aa (JKp.of_below (ag w _) g vt)⟩
theorem AB (a b d m:Int) (w:World) (hm:0<=m/\m<=18446744073709551615) (h:Hid (CoAt w g base T fu vi vt rest c)) :
  Calls Tryz.prog 67 #[.pointer (some ⟨g,0,none⟩),iv 0 a b d m] w fun e w'=>e=.returned (.tuple #[])/\CoAt w' g base T fu vi vt rest (c.setR a m.toNat)/\JKp w w' g vt vt:=by
 obtain⟨W1,hW1,R1,H1,K1⟩:=ek w 0 a b d m h
 have HW1:=aa hW1
 clear hW1
 have x0:=R1.out.cell (k:=0) rfl
 have x1:=R1.out.cell (k:=1) rfl
 have x2:=R1.out.cell (k:=2) rfl
 have x3:=R1.out.cell (k:=3) rfl
 have x4:=R1.out.cell (k:=4) rfl
 obtain⟨e1,e2⟩:=ma hm
 obtain⟨V,hV⟩:∃V,m.toNat=V:=⟨_,rfl⟩
 rw[hV] at e1 e2⊢
 have cs:=eP a V W1 H1
 rw[show vv V=.agg #[.int .u64 m,.int .u64 0] by rw[e2];conv=>rhs;rw[e1]] at cs
 clear hV e1 e2 hm
 go_enter Tryz.func67,Tryz.ntmps67
 go_upto_region 1 with(fail)
 rw[HW1.out]
 clear HW1
 go_wp2_with fail
 refine cs.mono ?_
 rintro e w5 ⟨rfl,h5,k5⟩
 have H5:=aa h5
 have K5:=aa k5
 clear h5 k5 cs
 go_wp2_with fail
 go_end0
 exact⟨rfl,H5.out,K1.out.trans K5.out⟩
theorem AA (a b d m:Int) (w:World) (h:Hid (CoAt w g base T fu vi vt rest c)) :
  Calls Tryz.prog 67 #[.pointer (some ⟨g,0,none⟩),iv 1 a b d m] w fun e w'=>e=.returned (.tuple #[])/\CoAt w' g base T fu vi vt rest (c.setR a (c.reg b))/\JKp w w' g vt vt:=by
 obtain⟨W1,hW1,R1,H1,K1⟩:=ek w 1 a b d m h
 have HW1:=aa hW1
 clear hW1
 have x0:=R1.out.cell (k:=0) rfl
 have x1:=R1.out.cell (k:=1) rfl
 have x2:=R1.out.cell (k:=2) rfl
 have x3:=R1.out.cell (k:=3) rfl
 have x4:=R1.out.cell (k:=4) rfl
 obtain⟨V,hV⟩:∃V,c.reg b=V:=⟨_,rfl⟩
 rw[hV]
 have rV:∀p:After W1,Calls Tryz.prog 93 #[.pointer (some ⟨g,0,none⟩),.int .i64 b] p.w fun e w'=>e=.returned (vv V)/\Below p.w.heap.size p.w w':=fun p=>by rw[<-hV];exact eA b p.w (aa (H1.out.call p.b))
 have rVh:=aa rV
 clear rV hV
 go_enter Tryz.func67,Tryz.ntmps67
 go_upto_region 1 with(fail)
 rw[HW1.out]
 clear HW1
 go_upto_region 6 with(fail)
 have y1:=fun p:After W1=>af x1 p
 have y2:=fun p:After W1=>af x2 p
 have y3:=fun p:After W1=>af x3 p
 clear x0 x4
 refine cX 7 (by kernel_rfl) rfl rfl (by kernel_rfl) (by kernel_rfl) (by kernel_rfl) (C:=fun w'=>∃p:After W1,w'=p.w) ⟨⟨W1.drew,(Below.refl _ _).drew⟩,rfl⟩ ?_
 dsimp only[List.take_succ_cons,List.take_zero]
 repeat(go_big_quiet_step ((first|(go_at_call 93;with_reducible exact bO (rVh.out _)))))
 refine wpQuiet_nil ?_
 intro _ hw'
 obtain⟨p1,hw''⟩:=hw'
 subst hw''
 have cs:=eP a (V) p1.w (aa (H1.out.call p1.b))
 go_wp2_with fail
 refine cs.mono ?_
 rintro e w5 ⟨rfl,h5,k5⟩
 have H5:=aa h5
 have K5:=aa k5
 clear h5 k5 cs
 go_wp2_with fail
 go_end0
 exact⟨rfl,H5.out,(K1.out.trans (JKp.of_below p1.b g vt)).trans K5.out⟩
theorem yW (a b d m:Int) (w:World) (h:Hid (CoAt w g base T fu vi vt rest c)) :
  Calls Tryz.prog 67 #[.pointer (some ⟨g,0,none⟩),iv 11 a b d m] w fun e w'=>e=.returned (.tuple #[])/\CoAt w' g base T fu vi vt rest (c.setR a (eS (c.reg b) (c.reg d)))/\JKp w w' g vt vt:=by
 obtain⟨W1,hW1,R1,H1,K1⟩:=ek w 11 a b d m h
 have HW1:=aa hW1
 clear hW1
 have x0:=R1.out.cell (k:=0) rfl
 have x1:=R1.out.cell (k:=1) rfl
 have x2:=R1.out.cell (k:=2) rfl
 have x3:=R1.out.cell (k:=3) rfl
 have x4:=R1.out.cell (k:=4) rfl
 obtain⟨V,hV⟩:∃V,c.reg b=V:=⟨_,rfl⟩
 obtain⟨U,hU⟩:∃V,c.reg d=V:=⟨_,rfl⟩
 rw[hV]
 rw[hU]
 have rV:∀p:After W1,Calls Tryz.prog 93 #[.pointer (some ⟨g,0,none⟩),.int .i64 b] p.w fun e w'=>e=.returned (vv V)/\Below p.w.heap.size p.w w':=fun p=>by rw[<-hV];exact eA b p.w (aa (H1.out.call p.b))
 have rVh:=aa rV
 clear rV hV
 have rU:∀p:After W1,Calls Tryz.prog 93 #[.pointer (some ⟨g,0,none⟩),.int .i64 d] p.w fun e w'=>e=.returned (vv U)/\Below p.w.heap.size p.w w':=fun p=>by rw[<-hU];exact eA d p.w (aa (H1.out.call p.b))
 have rUh:=aa rU
 clear rU hU
 go_enter Tryz.func67,Tryz.ntmps67
 go_upto_region 1 with(fail)
 rw[HW1.out]
 clear HW1
 go_upto_region 8 with(fail)
 have y1:=fun p:After W1=>af x1 p
 have y2:=fun p:After W1=>af x2 p
 have y3:=fun p:After W1=>af x3 p
 clear x0 x4
 refine cX 12 (by kernel_rfl) rfl rfl (by kernel_rfl) (by kernel_rfl) (by kernel_rfl) (C:=fun w'=>∃p:After W1,w'=p.w) ⟨⟨W1.drew,(Below.refl _ _).drew⟩,rfl⟩ ?_
 dsimp only[List.take_succ_cons,List.take_zero]
 repeat(go_big_quiet_step ((first|(go_at_call 93;with_reducible exact bO (rVh.out _))|(go_at_call 93;with_reducible exact bO (rUh.out _))|(go_at_call 101;with_reducible exact bO (v4 V U _)))))
 refine wpQuiet_nil ?_
 intro _ hw'
 obtain⟨p1,hw''⟩:=hw'
 subst hw''
 have cs:=eP a (eS V U) p1.w (aa (H1.out.call p1.b))
 go_wp2_with fail
 refine cs.mono ?_
 rintro e w5 ⟨rfl,h5,k5⟩
 have H5:=aa h5
 have K5:=aa k5
 clear h5 k5 cs
 go_wp2_with fail
 go_end0
 exact⟨rfl,H5.out,(K1.out.trans (JKp.of_below p1.b g vt)).trans K5.out⟩
theorem yV (a b d m:Int) (w:World) (h:Hid (CoAt w g base T fu vi vt rest c)) :
  Calls Tryz.prog 67 #[.pointer (some ⟨g,0,none⟩),iv 12 a b d m] w fun e w'=>e=.returned (.tuple #[])/\CoAt w' g base T fu vi vt rest (c.setR a (eU (c.reg b)))/\JKp w w' g vt vt:=by
 obtain⟨W1,hW1,R1,H1,K1⟩:=ek w 12 a b d m h
 have HW1:=aa hW1
 clear hW1
 have x0:=R1.out.cell (k:=0) rfl
 have x1:=R1.out.cell (k:=1) rfl
 have x2:=R1.out.cell (k:=2) rfl
 have x3:=R1.out.cell (k:=3) rfl
 have x4:=R1.out.cell (k:=4) rfl
 obtain⟨V,hV⟩:∃V,c.reg b=V:=⟨_,rfl⟩
 rw[hV]
 have rV:∀p:After W1,Calls Tryz.prog 93 #[.pointer (some ⟨g,0,none⟩),.int .i64 b] p.w fun e w'=>e=.returned (vv V)/\Below p.w.heap.size p.w w':=fun p=>by rw[<-hV];exact eA b p.w (aa (H1.out.call p.b))
 have rVh:=aa rV
 clear rV hV
 go_enter Tryz.func67,Tryz.ntmps67
 go_upto_region 1 with(fail)
 rw[HW1.out]
 clear HW1
 go_upto_region 10 with(fail)
 have y1:=fun p:After W1=>af x1 p
 have y2:=fun p:After W1=>af x2 p
 have y3:=fun p:After W1=>af x3 p
 clear x0 x4
 refine cX 8 (by kernel_rfl) rfl rfl (by kernel_rfl) (by kernel_rfl) (by kernel_rfl) (C:=fun w'=>∃p:After W1,w'=p.w) ⟨⟨W1.drew,(Below.refl _ _).drew⟩,rfl⟩ ?_
 dsimp only[List.take_succ_cons,List.take_zero]
 repeat(go_big_quiet_step ((first|(go_at_call 93;with_reducible exact bO (rVh.out _))|(go_at_call 102;with_reducible exact bO (wK V _)))))
 refine wpQuiet_nil ?_
 intro _ hw'
 obtain⟨p1,hw''⟩:=hw'
 subst hw''
 have cs:=eP a (eU V) p1.w (aa (H1.out.call p1.b))
 go_wp2_with fail
 refine cs.mono ?_
 rintro e w5 ⟨rfl,h5,k5⟩
 have H5:=aa h5
 have K5:=aa k5
 clear h5 k5 cs
 go_wp2_with fail
 go_end0
 exact⟨rfl,H5.out,(K1.out.trans (JKp.of_below p1.b g vt)).trans K5.out⟩
end
def ar (w:World) (g:Nat):Prop:=
 ∃(A:Option Addr) (n c:Nat) (zs:List Int) (i:Nat),Row w g 60 [.slice A n c,.int .i64 (i:Int)]/\an w g A (aq zs)/\zs.length=n/\n<=9223372036854775807/\(∀z∈zs,0<=z/\z<=255)/\i<=n
theorem ar.lt {w:World} {g:Nat} (h:ar w g):g<w.heap.size:=by
 obtain⟨A,n,c,zs,i,r,_⟩:=h
 exact r.lt
theorem ar.below {w w':World} {g:Nat} (h:ar w g) (hb:Below w.heap.size w w'):ar w' g:=by
 have hl:=h.lt
 obtain⟨A,n,c,zs,i,r,s,h⟩:=h
 exact⟨A,n,c,zs,i,r.call hb,s.keep fun p hp=>hb.cell (by omega),h⟩
theorem ar.kept {w w':World} {g:Nat} {row:Option Nat} (h:ar w g) (hg:w.grownBy w' row) (hr:∀k,row=some k->g<k):ar w' g:=by
 have hl:=h.lt
 obtain⟨A,n,c,zs,i,r,s,h⟩:=h
 refine⟨A,n,c,zs,i,r.grown hg (fun e=>?_),s.keep fun p hp=>?_,h⟩
 ·have:=hr g e.symm
  omega
 ·exact World.cell?_of_block (hg.block p.block (by omega) (fun e=>by have:=hr p.block e.symm;omega))
theorem ar.drewN {w:World} {g:Nat} (h:ar w g) (n:Nat):ar (w.drewN n) g:=by
 obtain⟨A,n',c,zs,i,r,s,h⟩:=h
 exact⟨A,n',c,zs,i,r.drewN n,s.draws n,h⟩
theorem ar.drew {w:World} {g:Nat} (h:ar w g):ar w.drew g:=h.drewN 1
theorem ar.alloc {w:World} {g:Nat} (h:ar w g) (o:Obj):ar (w.alloc o) g:=h.below (ag w o)
theorem be {w w':World} {row:Option Nat} (h:w.grownBy w' row) (k:Nat):w.grownBy (w'.drewN k) row:=⟨h.os,h.tape,h.output,h.size,h.block⟩
theorem aS {w w':World} {g:Nat} (h:w.grownBy w' (some g)) (k:Nat) (u:Value):w.grownBy (w'.setCell ⟨g,k,none⟩ u) (some g):=
 ⟨h.os,h.tape,h.output,by simpa[World.setCell] using h.size,fun i hi hne=>(Below.heap_setCell w' ⟨g,k,none⟩ u i (by rintro rfl;exact hne rfl)).trans (h.block i hi hne)⟩
theorem aG {w w':World} (h:Below w.heap.size w w') (row:Option Nat):w.grownBy w' row:=⟨h.os,h.tape,h.output,h.size,fun i hi _=>h.block i hi⟩
theorem cW {B g:Nat} {w w' w'':World} (h:Below B w w') (hg:w'.grownBy w'' (some g)) (hB:B<=g) (hs:B<=w'.heap.size):Below B w w'':=
 h.grown hg hs fun k hk=>by injection hk with hk;omega
theorem mz (zs:List Int) (k:Nat):(aq zs).take k=aq (zs.take k):=by simp[aq]
theorem yD (A:Option Addr) (n c:Nat) (zs:List Int) (l:Nat) (w:World) (hA:Hid (A=none->c=0)) (hn:Hid (zs.length=n)) (hnc:n<=c) (hm:n<=9223372036854775807) (hl:l<=1000000) (hs:Hid (an w w.heap.size A (aq zs))) (hz:Hid (∀z∈zs,0<=z/\z<=255)) :
  Calls Tryz.prog 13 #[.slice A n c,.int .i64 (l:Int)] w fun e w'=>e=.returned (.pointer (some ⟨w.heap.size,0,none⟩))/\ar w' w.heap.size/\Below w.heap.size w w':=by
 have key:∀(m:Nat) (A':Option Addr) (c':Nat),m<=n->A'=A->ar (w.alloc (.cells #[.slice A' m c',.int .i64 0] 60)) w.heap.size:=by
  rintro m A' c' hmn rfl
  refine⟨A',m,c',zs.take m,0,Row.new w _ _,?_,by have:=hn.out;simp;omega,by omega,fun z h=>hz.out z (List.mem_of_mem_take h),by omega⟩
  rw[<-mz]
  exact(hs.out.alloc (Nat.le_refl _) _).take m
 by_cases hlt:n<=l
 ·go_enter Tryz.func13,Tryz.ntmps13
  go_wp2
  go_ret
  exact⟨rfl,key _ _ _ (by omega) rfl,ag _ _⟩
 ·go_enter Tryz.func13,Tryz.ntmps13
  go_wp2
  go_ret
  exact⟨rfl,key _ _ _ (by omega) rfl,ag _ _⟩
theorem pf (g:Nat) (A:Option Addr) (n c i:Nat) (w:World) (hr:Hid (Row w g 60 [.slice A n c,.int .i64 (i:Int)])) (b:Bool) (hb:Hid (decide ((i:Int)<(n:Int))=b)) :
  Calls Tryz.prog 18 #[.pointer (some ⟨g,0,none⟩)] w fun e w'=>e=.returned (.bool b)/\∃k,w'=w.drewN k:=by
 have c0:=hr.out.cell (k:=0) rfl
 have c1:=hr.out.cell (k:=1) rfl
 go_enter Tryz.func18,Tryz.ntmps18
 go_wp2
 go_quiet (fail)
 go_wp2
 go_ret
 exact⟨aw (by rw[<-hb.out];simp),_,rfl⟩
def xt (g:Nat) (k:Int) (w:World) (e:Ending) (w':World):Prop:=∃v:Int,e=.returned (.int .i64 v)/\0<=v/\v<k/\ar w' g/\w.grownBy w' (some g)/\w'.heap.size=w.heap.size
theorem a6 (g:Nat) (k:Int) (w:World) (h:Hid (ar w g)) (hk:1<=k) (hk1:k<=4294967296):Calls Tryz.prog 7 #[.pointer (some ⟨g,0,none⟩),.int .i64 k] w (xt g k w):=by
 obtain⟨A,n,c,zs,i,r,s,hn,hm,hz,hi⟩:=h.out
 have hr:=aa r
 by_cases hlt:i<n
 ·have cl:=pf g A n c i w hr true (decide_eq_true (by omega))
  obtain⟨b,off,v,rfl,hbg,fT,v0,v1,_⟩:=kb s (by omega:i<zs.length) hz
  have hs:=aa s
  have Hn:=aa hn
  have Hz:=aa hz
  have x0:0<=v*k:=Int.mul_nonneg v0 (by omega)
  have x1:v*k<=255*k:=Int.mul_le_mul_of_nonneg_right v1 (by omega)
  have c0:=r.cell (k:=0) rfl
  have c1:=r.cell (k:=1) rfl
  have z1:=r.free 1
  have hi0:(0:Int)<=(i:Int):=by omega
  have hi1:(i:Int)<(n:Int):=by omega
  clear s hz hn r
  go_enter Tryz.func7,Tryz.ntmps7
  go_wp2_with fail
  refine cl.mono ?_
  rintro e w' ⟨rfl,q,rfl⟩
  go_wp2_with fail
  go_quiet (fail)
  go_wp2_with fail
  go_ret
  refine⟨_,rfl,by omega,by omega,?_,?_,by simp[World.setCell]⟩
  ·refine⟨some ⟨b,off,none⟩,n,c,zs,i+1,?_,?_,Hn.out,hm,Hz.out,by omega⟩
   ·exact((hr.out.drewN _).set_ 1 _)
   ·exact(hs.out.draws _).keep fun p hp=>World.cell?_setCell_other _ _ _ _ (fun e=>by subst e;simp at hp)
  ·exact aS (be (World.grownBy.refl w _) _) 1 _
 ·have cl:=pf g A n c i w hr false (decide_eq_false (by omega))
  clear s hn hz
  go_enter Tryz.func7,Tryz.ntmps7
  go_wp2_with fail
  refine cl.mono ?_
  rintro e w' ⟨rfl,q,rfl⟩
  go_wp2_with fail
  go_ret
  exact⟨0,rfl,by omega,by omega,h.out.drewN q,be (World.grownBy.refl w _) q,rfl⟩
end Go.Proofs.YtjbgepjdohfhkaaGreat
