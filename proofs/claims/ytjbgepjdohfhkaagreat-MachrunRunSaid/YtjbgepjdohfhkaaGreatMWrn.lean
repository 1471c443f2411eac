/- The contract of the reference's run (chapter 12): the outcome and how deep it goes, or the error. Conditions: those of the types. -/
import Derived.Test.YtjbgepjdohfhkaaGreatMWno
import Derived.Test.YtjbgepjdohfhkaaGreatMNrn
import Derived.Test.YtjbgepjdohfhkaaGreatMMrci
set_option linter.unusedVariables false
set_option linter.unusedSimpArgs false
set_option maxRecDepth 100000
set_option maxHeartbeats 8000000
namespace Go.Proofs.YtjbgepjdohfhkaaGreat
open Go.RowKit
def iC (Al:Int) (F:Tg) (inp:List Nat) (fuel size:Int) (w:World) (e:Ending) (w':World):Prop:=
 ∃vt,e=.returned (.tuple #[.agg (cK (aY Al F inp fuel size).c vt).toArray,.int .i64 ((aY Al F inp fuel size).deep:Int),.int .i64 (bL Al F fuel size)])/\TrS w' w.heap.size w'.heap.size vt (aY Al F inp fuel size).c.trace/\Below w.heap.size w w'
theorem iO {Al:Int} {F:Tg} {inp:List Nat} {fuel size:Int} {w w':World} {x:Int} (hx:bL Al F fuel size=x) (h0:x≠0) (hb:Below w.heap.size w w'):iC Al F inp fuel size w (.returned (.tuple #[.agg #[.int .i64 0,.int .u64 0,.int .u64 0,.int .u64 0,.slice none 0 0,.int .i64 0],.int .i64 0,.int .i64 x])) w':=by
 have hs:aY Al F inp fuel size=bz:=by unfold aY;rw[if_neg (by rw[hx];exact h0)]
 refine⟨.slice none 0 0,by rw[hs,hx];rfl,?_,hb⟩
 rw[hs]
 exact⟨none,0,0,rfl,rfl,Nat.le_refl _,fun _=>rfl,fun a h=>(by cases h),an.nil_ _ _ _⟩
theorem jc (w:World) (Al:Int) (A:Option Addr) (n c:Nat):∃W,(w.alloc (.cells #[.int .i64 Al,.slice A n c] 26)).alloc (.cells #[.int .i64 0,.int .u64 0,.int .u64 0,.int .u64 0,.slice none 0 0,.int .i64 0] 41)=W/\Below w.heap.size w W/\W.heap.size=w.heap.size+2/\Row W w.heap.size 26 [.int .i64 Al,.slice A n c]/\Row W (w.heap.size+1) 41 [.int .i64 0,.int .u64 0,.int .u64 0,.int .u64 0,.slice none 0 0,.int .i64 0]:=by
 obtain⟨W,h1,h2,h3,h4,h5⟩:=fx w [.int .i64 Al,.slice A n c] [.int .i64 0,.int .u64 0,.int .u64 0,.int .u64 0,.slice none 0 0,.int .i64 0] 26 41
 exact⟨W,h1,h2,h3.symm,h4,h5⟩
theorem vh {lo n c:Nat} {A:Option Addr} {hs:List Fd} (Al:Int) (F:Tg) (inp:List Nat) (fuel size:Int) (Ai:Option Addr) (ni ci:Nat) (w:World) (hE:tgE Al F≠0) (hPg:Hid (TgAt w lo w.heap.size A n c hs F)) :
  Calls Tryz.prog 20 #[tv Al A n c,.slice Ai ni ci,.int .i64 fuel,.int .i64 size] w (iC Al F inp fuel size w):=by
 obtain⟨W1,hW1,hb0,hsz,hrb,hro⟩:=jc w Al A n c
 have HW1:=aa hW1
 have HB0:=aa hb0
 have HSZ:=aa hsz
 have RB:=aa hrb
 have RO:=aa hro
 have cc:=fQ Al A n c hs F lo w.heap.size W1 (aa (hPg.out.below hb0)) hb0.size
 have x0:=hrb.cell (k:=0) rfl
 have x1:=hrb.cell (k:=1) rfl
 obtain⟨x,hx⟩:∃x,tgE Al F=x:=⟨_,rfl⟩
 rw[hx] at cc
 have hx0:x≠0:=by rw[<-hx];exact hE
 have HE:=aa (show bL Al F fuel size=x by unfold bL;rw[if_pos hE,hx])
 have hxb:(x==0)=false:=by rw[beq_eq_false_iff_ne];exact hx0
 have hxn:(x !=0)=true:=by simpa using hx0
 clear hE hx hW1 hb0 hsz hrb hro
 go_enter Tryz.func20,Tryz.ntmps20
 go_upto_region 1 with(fail)
 rw[HW1.out]
 clear HW1
 go_wp2_with fail
 refine cc.mono ?_
 rintro e w2 ⟨rfl,hb2⟩
 have B2:=aa (ac HB0.out hb2)
 have RO2:=aa (RO.out.call hb2)
 clear cc hb2
 have z0:=RO2.out.cell (k:=0) rfl
 have z1:=RO2.out.cell (k:=1) rfl
 have z2:=RO2.out.cell (k:=2) rfl
 have z3:=RO2.out.cell (k:=3) rfl
 have z4:=RO2.out.cell (k:=4) rfl
 have z5:=RO2.out.cell (k:=5) rfl
 have f0:=RO2.out.free 0
 have f1:=RO2.out.free 1
 have f2:=RO2.out.free 2
 have f3:=RO2.out.free 3
 have f4:=RO2.out.free 4
 have f5:=RO2.out.free 5
 obtain⟨W3,hW3⟩:∃V,(((((w2.setCell ⟨w.heap.size+1,0,none⟩ (.int .i64 0)).setCell ⟨w.heap.size+1,1,none⟩ (.int .u64 0)).setCell ⟨w.heap.size+1,2,none⟩ (.int .u64 0)).setCell ⟨w.heap.size+1,3,none⟩ (.int .u64 0)).setCell ⟨w.heap.size+1,4,none⟩ (.slice none 0 0)).setCell ⟨w.heap.size+1,5,none⟩ (.int .i64 0)=V:=⟨_,rfl⟩
 have R3:=aa (show Row W3 (w.heap.size+1) 41 [.int .i64 0,.int .u64 0,.int .u64 0,.int .u64 0,.slice none 0 0,.int .i64 0] by rw[<-hW3];exact(((((RO2.out.set_ 0 _).set_ 1 _).set_ 2 _).set_ 3 _).set_ 4 _).set_ 5 _)
 have hle:w.heap.size<=w.heap.size+1:=Nat.le_succ _
 have B3:=aa (show Below w.heap.size w W3 by rw[<-hW3];exact(((((B2.out.setCell (p:=⟨w.heap.size+1,0,none⟩) hle _).setCell (p:=⟨w.heap.size+1,1,none⟩) hle _).setCell (p:=⟨w.heap.size+1,2,none⟩) hle _).setCell (p:=⟨w.heap.size+1,3,none⟩) hle _).setCell (p:=⟨w.heap.size+1,4,none⟩) hle _).setCell (p:=⟨w.heap.size+1,5,none⟩) hle _)
 have HW3:=aa hW3
 clear hW3 RO2 B2 hle
 go_wp2_with fail
 rw[HW3.out]
 have y0:=R3.out.cell (k:=0) rfl
 have y1:=R3.out.cell (k:=1) rfl
 have y2:=R3.out.cell (k:=2) rfl
 have y3:=R3.out.cell (k:=3) rfl
 have y4:=R3.out.cell (k:=4) rfl
 have y5:=R3.out.cell (k:=5) rfl
 exact bodyPost_ret (v:=.tuple #[.agg #[.int .i64 0,.int .u64 0,.int .u64 0,.int .u64 0,.slice none 0 0,.int .i64 0],.int .i64 0,.int .i64 x]) (by simp[results,Tryz.results20,go_sem,y0,y1,y2,y3,y4,y5]) rfl (iO HE.out hx0 B3.out)
theorem xK {lo n c:Nat} {A:Option Addr} {hs:List Fd} (Al:Int) (F:Tg) (inp:List Nat) (fuel size:Int) (Ai:Option Addr) (ni ci:Nat) (w:World) (hE:tgE Al F=0) (hf:fuel<0) (hPg:Hid (TgAt w lo w.heap.size A n c hs F)) :
  Calls Tryz.prog 20 #[tv Al A n c,.slice Ai ni ci,.int .i64 fuel,.int .i64 size] w (iC Al F inp fuel size w):=by
 obtain⟨W1,hW1,hb0,hsz,hrb,hro⟩:=jc w Al A n c
 have HW1:=aa hW1
 have HB0:=aa hb0
 have HSZ:=aa hsz
 have RB:=aa hrb
 have RO:=aa hro
 have cc:=fQ Al A n c hs F lo w.heap.size W1 (aa (hPg.out.below hb0)) hb0.size
 have x0:=hrb.cell (k:=0) rfl
 have x1:=hrb.cell (k:=1) rfl
 rw[hE] at cc
 have HE:=aa (show bL Al F fuel size=4 by unfold bL;rw[if_neg (by rw[hE];decide),if_neg (by omega)])
 have d0:decide (fuel<0)=true:=decide_eq_true hf
 clear hE hW1 hb0 hsz hrb hro
 go_enter Tryz.func20,Tryz.ntmps20
 go_upto_region 1 with(fail)
 rw[HW1.out]
 clear HW1
 go_wp2_with fail
 refine cc.mono ?_
 rintro e w2 ⟨rfl,hb2⟩
 have B2:=aa (ac HB0.out hb2)
 have RO2:=aa (RO.out.call hb2)
 clear cc hb2
 have z0:=RO2.out.cell (k:=0) rfl
 have z1:=RO2.out.cell (k:=1) rfl
 have z2:=RO2.out.cell (k:=2) rfl
 have z3:=RO2.out.cell (k:=3) rfl
 have z4:=RO2.out.cell (k:=4) rfl
 have z5:=RO2.out.cell (k:=5) rfl
 have f0:=RO2.out.free 0
 have f1:=RO2.out.free 1
 have f2:=RO2.out.free 2
 have f3:=RO2.out.free 3
 have f4:=RO2.out.free 4
 have f5:=RO2.out.free 5
 obtain⟨W3,hW3⟩:∃V,(((((w2.setCell ⟨w.heap.size+1,0,none⟩ (.int .i64 0)).setCell ⟨w.heap.size+1,1,none⟩ (.int .u64 0)).setCell ⟨w.heap.size+1,2,none⟩ (.int .u64 0)).setCell ⟨w.heap.size+1,3,none⟩ (.int .u64 0)).setCell ⟨w.heap.size+1,4,none⟩ (.slice none 0 0)).setCell ⟨w.heap.size+1,5,none⟩ (.int .i64 0)=V:=⟨_,rfl⟩
 have R3:=aa (show Row W3 (w.heap.size+1) 41 [.int .i64 0,.int .u64 0,.int .u64 0,.int .u64 0,.slice none 0 0,.int .i64 0] by rw[<-hW3];exact(((((RO2.out.set_ 0 _).set_ 1 _).set_ 2 _).set_ 3 _).set_ 4 _).set_ 5 _)
 have hle:w.heap.size<=w.heap.size+1:=Nat.le_succ _
 have B3:=aa (show Below w.heap.size w W3 by rw[<-hW3];exact(((((B2.out.setCell (p:=⟨w.heap.size+1,0,none⟩) hle _).setCell (p:=⟨w.heap.size+1,1,none⟩) hle _).setCell (p:=⟨w.heap.size+1,2,none⟩) hle _).setCell (p:=⟨w.heap.size+1,3,none⟩) hle _).setCell (p:=⟨w.heap.size+1,4,none⟩) hle _).setCell (p:=⟨w.heap.size+1,5,none⟩) hle _)
 have HW3:=aa hW3
 clear hW3 RO2 B2 hle
 go_wp2_with fail
 rw[HW3.out]
 have y0:=R3.out.cell (k:=0) rfl
 have y1:=R3.out.cell (k:=1) rfl
 have y2:=R3.out.cell (k:=2) rfl
 have y3:=R3.out.cell (k:=3) rfl
 have y4:=R3.out.cell (k:=4) rfl
 have y5:=R3.out.cell (k:=5) rfl
 exact bodyPost_ret (v:=.tuple #[.agg #[.int .i64 0,.int .u64 0,.int .u64 0,.int .u64 0,.slice none 0 0,.int .i64 0],.int .i64 0,.int .i64 4]) (by simp[results,Tryz.results20,go_sem,y0,y1,y2,y3,y4,y5]) rfl (iO HE.out (by decide) B3.out)
theorem xJ {lo n c:Nat} {A:Option Addr} {hs:List Fd} (Al:Int) (F:Tg) (inp:List Nat) (fuel size:Int) (Ai:Option Addr) (ni ci:Nat) (w:World) (hE:tgE Al F=0) (hf:100000<fuel) (hPg:Hid (TgAt w lo w.heap.size A n c hs F)) :
  Calls Tryz.prog 20 #[tv Al A n c,.slice Ai ni ci,.int .i64 fuel,.int .i64 size] w (iC Al F inp fuel size w):=by
 obtain⟨W1,hW1,hb0,hsz,hrb,hro⟩:=jc w Al A n c
 have HW1:=aa hW1
 have HB0:=aa hb0
 have HSZ:=aa hsz
 have RB:=aa hrb
 have RO:=aa hro
 have cc:=fQ Al A n c hs F lo w.heap.size W1 (aa (hPg.out.below hb0)) hb0.size
 have x0:=hrb.cell (k:=0) rfl
 have x1:=hrb.cell (k:=1) rfl
 rw[hE] at cc
 have HE:=aa (show bL Al F fuel size=4 by unfold bL;rw[if_neg (by rw[hE];decide),if_neg (by omega)])
 have d0:decide (fuel<0)=false:=decide_eq_false (by omega)
 have d1:decide (100000<fuel)=true:=decide_eq_true hf
 clear hE hW1 hb0 hsz hrb hro
 go_enter Tryz.func20,Tryz.ntmps20
 go_upto_region 1 with(fail)
 rw[HW1.out]
 clear HW1
 go_wp2_with fail
 refine cc.mono ?_
 rintro e w2 ⟨rfl,hb2⟩
 have B2:=aa (ac HB0.out hb2)
 have RO2:=aa (RO.out.call hb2)
 clear cc hb2
 have z0:=RO2.out.cell (k:=0) rfl
 have z1:=RO2.out.cell (k:=1) rfl
 have z2:=RO2.out.cell (k:=2) rfl
 have z3:=RO2.out.cell (k:=3) rfl
 have z4:=RO2.out.cell (k:=4) rfl
 have z5:=RO2.out.cell (k:=5) rfl
 have f0:=RO2.out.free 0
 have f1:=RO2.out.free 1
 have f2:=RO2.out.free 2
 have f3:=RO2.out.free 3
 have f4:=RO2.out.free 4
 have f5:=RO2.out.free 5
 obtain⟨W3,hW3⟩:∃V,(((((w2.setCell ⟨w.heap.size+1,0,none⟩ (.int .i64 0)).setCell ⟨w.heap.size+1,1,none⟩ (.int .u64 0)).setCell ⟨w.heap.size+1,2,none⟩ (.int .u64 0)).setCell ⟨w.heap.size+1,3,none⟩ (.int .u64 0)).setCell ⟨w.heap.size+1,4,none⟩ (.slice none 0 0)).setCell ⟨w.heap.size+1,5,none⟩ (.int .i64 0)=V:=⟨_,rfl⟩
 have R3:=aa (show Row W3 (w.heap.size+1) 41 [.int .i64 0,.int .u64 0,.int .u64 0,.int .u64 0,.slice none 0 0,.int .i64 0] by rw[<-hW3];exact(((((RO2.out.set_ 0 _).set_ 1 _).set_ 2 _).set_ 3 _).set_ 4 _).set_ 5 _)
 have hle:w.heap.size<=w.heap.size+1:=Nat.le_succ _
 have B3:=aa (show Below w.heap.size w W3 by rw[<-hW3];exact(((((B2.out.setCell (p:=⟨w.heap.size+1,0,none⟩) hle _).setCell (p:=⟨w.heap.size+1,1,none⟩) hle _).setCell (p:=⟨w.heap.size+1,2,none⟩) hle _).setCell (p:=⟨w.heap.size+1,3,none⟩) hle _).setCell (p:=⟨w.heap.size+1,4,none⟩) hle _).setCell (p:=⟨w.heap.size+1,5,none⟩) hle _)
 have HW3:=aa hW3
 clear hW3 RO2 B2 hle
 go_wp2_with fail
 rw[HW3.out]
 have y0:=R3.out.cell (k:=0) rfl
 have y1:=R3.out.cell (k:=1) rfl
 have y2:=R3.out.cell (k:=2) rfl
 have y3:=R3.out.cell (k:=3) rfl
 have y4:=R3.out.cell (k:=4) rfl
 have y5:=R3.out.cell (k:=5) rfl
 exact bodyPost_ret (v:=.tuple #[.agg #[.int .i64 0,.int .u64 0,.int .u64 0,.int .u64 0,.slice none 0 0,.int .i64 0],.int .i64 0,.int .i64 4]) (by simp[results,Tryz.results20,go_sem,y0,y1,y2,y3,y4,y5]) rfl (iO HE.out (by decide) B3.out)
theorem xI {lo n c:Nat} {A:Option Addr} {hs:List Fd} (Al:Int) (F:Tg) (inp:List Nat) (fuel size:Int) (Ai:Option Addr) (ni ci:Nat) (w:World) (hE:tgE Al F=0) (hf:0<=fuel/\fuel<=100000) (hs1:size<0) (hPg:Hid (TgAt w lo w.heap.size A n c hs F)) :
  Calls Tryz.prog 20 #[tv Al A n c,.slice Ai ni ci,.int .i64 fuel,.int .i64 size] w (iC Al F inp fuel size w):=by
 obtain⟨W1,hW1,hb0,hsz,hrb,hro⟩:=jc w Al A n c
 have HW1:=aa hW1
 have HB0:=aa hb0
 have HSZ:=aa hsz
 have RB:=aa hrb
 have RO:=aa hro
 have cc:=fQ Al A n c hs F lo w.heap.size W1 (aa (hPg.out.below hb0)) hb0.size
 have x0:=hrb.cell (k:=0) rfl
 have x1:=hrb.cell (k:=1) rfl
 rw[hE] at cc
 have HE:=aa (show bL Al F fuel size=4 by unfold bL;rw[if_neg (by rw[hE];decide),if_neg (by omega)])
 have d0:decide (fuel<0)=false:=decide_eq_false (by omega)
 have d1:decide (100000<fuel)=false:=decide_eq_false (by omega)
 have d2:decide (size<0)=true:=decide_eq_true hs1
 clear hE hW1 hb0 hsz hrb hro
 go_enter Tryz.func20,Tryz.ntmps20
 go_upto_region 1 with(fail)
 rw[HW1.out]
 clear HW1
 go_wp2_with fail
 refine cc.mono ?_
 rintro e w2 ⟨rfl,hb2⟩
 have B2:=aa (ac HB0.out hb2)
 have RO2:=aa (RO.out.call hb2)
 clear cc hb2
 have z0:=RO2.out.cell (k:=0) rfl
 have z1:=RO2.out.cell (k:=1) rfl
 have z2:=RO2.out.cell (k:=2) rfl
 have z3:=RO2.out.cell (k:=3) rfl
 have z4:=RO2.out.cell (k:=4) rfl
 have z5:=RO2.out.cell (k:=5) rfl
 have f0:=RO2.out.free 0
 have f1:=RO2.out.free 1
 have f2:=RO2.out.free 2
 have f3:=RO2.out.free 3
 have f4:=RO2.out.free 4
 have f5:=RO2.out.free 5
 obtain⟨W3,hW3⟩:∃V,(((((w2.setCell ⟨w.heap.size+1,0,none⟩ (.int .i64 0)).setCell ⟨w.heap.size+1,1,none⟩ (.int .u64 0)).setCell ⟨w.heap.size+1,2,none⟩ (.int .u64 0)).setCell ⟨w.heap.size+1,3,none⟩ (.int .u64 0)).setCell ⟨w.heap.size+1,4,none⟩ (.slice none 0 0)).setCell ⟨w.heap.size+1,5,none⟩ (.int .i64 0)=V:=⟨_,rfl⟩
 have R3:=aa (show Row W3 (w.heap.size+1) 41 [.int .i64 0,.int .u64 0,.int .u64 0,.int .u64 0,.slice none 0 0,.int .i64 0] by rw[<-hW3];exact(((((RO2.out.set_ 0 _).set_ 1 _).set_ 2 _).set_ 3 _).set_ 4 _).set_ 5 _)
 have hle:w.heap.size<=w.heap.size+1:=Nat.le_succ _
 have B3:=aa (show Below w.heap.size w W3 by rw[<-hW3];exact(((((B2.out.setCell (p:=⟨w.heap.size+1,0,none⟩) hle _).setCell (p:=⟨w.heap.size+1,1,none⟩) hle _).setCell (p:=⟨w.heap.size+1,2,none⟩) hle _).setCell (p:=⟨w.heap.size+1,3,none⟩) hle _).setCell (p:=⟨w.heap.size+1,4,none⟩) hle _).setCell (p:=⟨w.heap.size+1,5,none⟩) hle _)
 have HW3:=aa hW3
 clear hW3 RO2 B2 hle
 go_wp2_with fail
 rw[HW3.out]
 have y0:=R3.out.cell (k:=0) rfl
 have y1:=R3.out.cell (k:=1) rfl
 have y2:=R3.out.cell (k:=2) rfl
 have y3:=R3.out.cell (k:=3) rfl
 have y4:=R3.out.cell (k:=4) rfl
 have y5:=R3.out.cell (k:=5) rfl
 exact bodyPost_ret (v:=.tuple #[.agg #[.int .i64 0,.int .u64 0,.int .u64 0,.int .u64 0,.slice none 0 0,.int .i64 0],.int .i64 0,.int .i64 4]) (by simp[results,Tryz.results20,go_sem,y0,y1,y2,y3,y4,y5]) rfl (iO HE.out (by decide) B3.out)
theorem xH {lo n c:Nat} {A:Option Addr} {hs:List Fd} (Al:Int) (F:Tg) (inp:List Nat) (fuel size:Int) (Ai:Option Addr) (ni ci:Nat) (w:World) (hE:tgE Al F=0) (hf:0<=fuel/\fuel<=100000) (hs1:1048576<size) (hPg:Hid (TgAt w lo w.heap.size A n c hs F)) :
  Calls Tryz.prog 20 #[tv Al A n c,.slice Ai ni ci,.int .i64 fuel,.int .i64 size] w (iC Al F inp fuel size w):=by
 obtain⟨W1,hW1,hb0,hsz,hrb,hro⟩:=jc w Al A n c
 have HW1:=aa hW1
 have HB0:=aa hb0
 have HSZ:=aa hsz
 have RB:=aa hrb
 have RO:=aa hro
 have cc:=fQ Al A n c hs F lo w.heap.size W1 (aa (hPg.out.below hb0)) hb0.size
 have x0:=hrb.cell (k:=0) rfl
 have x1:=hrb.cell (k:=1) rfl
 rw[hE] at cc
 have HE:=aa (show bL Al F fuel size=4 by unfold bL;rw[if_neg (by rw[hE];decide),if_neg (by omega)])
 have d0:decide (fuel<0)=false:=decide_eq_false (by omega)
 have d1:decide (100000<fuel)=false:=decide_eq_false (by omega)
 have d2:decide (size<0)=false:=decide_eq_false (by omega)
 have d3:decide (1048576<size)=true:=decide_eq_true hs1
 clear hE hW1 hb0 hsz hrb hro
 go_enter Tryz.func20,Tryz.ntmps20
 go_upto_region 1 with(fail)
 rw[HW1.out]
 clear HW1
 go_wp2_with fail
 refine cc.mono ?_
 rintro e w2 ⟨rfl,hb2⟩
 have B2:=aa (ac HB0.out hb2)
 have RO2:=aa (RO.out.call hb2)
 clear cc hb2
 have z0:=RO2.out.cell (k:=0) rfl
 have z1:=RO2.out.cell (k:=1) rfl
 have z2:=RO2.out.cell (k:=2) rfl
 have z3:=RO2.out.cell (k:=3) rfl
 have z4:=RO2.out.cell (k:=4) rfl
 have z5:=RO2.out.cell (k:=5) rfl
 have f0:=RO2.out.free 0
 have f1:=RO2.out.free 1
 have f2:=RO2.out.free 2
 have f3:=RO2.out.free 3
 have f4:=RO2.out.free 4
 have f5:=RO2.out.free 5
 obtain⟨W3,hW3⟩:∃V,(((((w2.setCell ⟨w.heap.size+1,0,none⟩ (.int .i64 0)).setCell ⟨w.heap.size+1,1,none⟩ (.int .u64 0)).setCell ⟨w.heap.size+1,2,none⟩ (.int .u64 0)).setCell ⟨w.heap.size+1,3,none⟩ (.int .u64 0)).setCell ⟨w.heap.size+1,4,none⟩ (.slice none 0 0)).setCell ⟨w.heap.size+1,5,none⟩ (.int .i64 0)=V:=⟨_,rfl⟩
 have R3:=aa (show Row W3 (w.heap.size+1) 41 [.int .i64 0,.int .u64 0,.int .u64 0,.int .u64 0,.slice none 0 0,.int .i64 0] by rw[<-hW3];exact(((((RO2.out.set_ 0 _).set_ 1 _).set_ 2 _).set_ 3 _).set_ 4 _).set_ 5 _)
 have hle:w.heap.size<=w.heap.size+1:=Nat.le_succ _
 have B3:=aa (show Below w.heap.size w W3 by rw[<-hW3];exact(((((B2.out.setCell (p:=⟨w.heap.size+1,0,none⟩) hle _).setCell (p:=⟨w.heap.size+1,1,none⟩) hle _).setCell (p:=⟨w.heap.size+1,2,none⟩) hle _).setCell (p:=⟨w.heap.size+1,3,none⟩) hle _).setCell (p:=⟨w.heap.size+1,4,none⟩) hle _).setCell (p:=⟨w.heap.size+1,5,none⟩) hle _)
 have HW3:=aa hW3
 clear hW3 RO2 B2 hle
 go_wp2_with fail
 rw[HW3.out]
 have y0:=R3.out.cell (k:=0) rfl
 have y1:=R3.out.cell (k:=1) rfl
 have y2:=R3.out.cell (k:=2) rfl
 have y3:=R3.out.cell (k:=3) rfl
 have y4:=R3.out.cell (k:=4) rfl
 have y5:=R3.out.cell (k:=5) rfl
 exact bodyPost_ret (v:=.tuple #[.agg #[.int .i64 0,.int .u64 0,.int .u64 0,.int .u64 0,.slice none 0 0,.int .i64 0],.int .i64 0,.int .i64 4]) (by simp[results,Tryz.results20,go_sem,y0,y1,y2,y3,y4,y5]) rfl (iO HE.out (by decide) B3.out)
end Go.Proofs.YtjbgepjdohfhkaaGreat
