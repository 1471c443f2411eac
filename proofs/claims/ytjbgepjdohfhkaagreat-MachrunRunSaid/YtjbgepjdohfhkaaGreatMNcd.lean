/- The contracts of the core's apply, and of Execute at In, Out, Jump, Branch, Trap, Add to Equal. Conditions: those of the types. -/
import Derived.Test.YtjbgepjdohfhkaaGreatMVapply
import Derived.Deep.RegionLaw
import Derived.Maps.Range
set_option linter.unusedVariables false
set_option linter.unusedSimpArgs false
set_option maxRecDepth 100000
set_option maxHeartbeats 8000000
namespace Go.Proofs.YtjbgepjdohfhkaaGreat
open Go.RowKit
theorem Tryz.info38z:(Tryz.prog.info? 38).map (fun i=>(i.zero,i.size,i.bytes))=some (some (.agg #[.int .u64 0,.int .u64 0]),2,16):=by kernel_rfl
theorem dR (w:World) (o:Obj):Below w.heap.size w (w.alloc o).drew:=am (ag w o) 1
section
variable {g base fu:Nat} {T:TypeId} {vi vt:Value} {rest:List Value} {c:Co}
theorem CoAt.outed {w w7:World} {v':Value} {V:Nat} (h:CoAt w g base T fu vi vt rest c) (hg:w.grownBy w7 vt.ownBlock) (ho:w7.ownsRow base 38 2 v' (c.trace.length+1) (ah c.trace++iE V)) :
  CoAt (w7.setCell ⟨g,6,none⟩ v') g base T fu vi v' rest { c with trace:=c.trace++[V] }/\Row w7 g T (bD fu c vi vt++rest):=by
 have hB:Below base w w7:=(Below.refl _ _).grown hg h.bl (fun k hk=>(h.tr.lt k hk).1)
 have hoff:=gA h.tr h.row h.nt
 have r7:Row w7 g T (bD fu c vi vt++rest):=h.row.grown hg (fun e=>by
  rcases hoff with h1|h1
  ·rw[h1] at e;cases e
  ·first|exact h1 e|exact h1 e.symm)
 have hB2:Below base w7 (w7.setCell ⟨g,6,none⟩ v'):=(Below.refl _ _).setCell h.gb _
 refine⟨⟨?_,h.gb,h.nt,h.r8,(h.inp.below hB).below hB2,?_⟩,r7⟩
 ·have:=r7.set_ 6 v'
  exact this
 ·show World.ownsRow _ base _ 2 v' (c.trace++[V]).length (ah (c.trace++[V]))
  rw[List.length_append,mu]
  exact ho.kept (jB w7 g 6 v') (gA ho r7 h.nt)
theorem yU (a b d m:Int) (w:World) (hV2:Hid (c.inp.headD 0<18446744073709551616)) (h:Hid (CoAt w g base T fu vi vt rest c)) :
  Calls Tryz.prog 67 #[.pointer (some ⟨g,0,none⟩),iv 13 a b d m] w fun e w'=>e=.returned (.tuple #[])/\(∃vi' vt',CoAt w' g base T fu vi' vt' rest (({ c with inp:=c.inp.tail }:Co).setR a (c.inp.headD 0))/\CKp w w' g base):=by
 obtain⟨W1,hW1,R1,H1,K1⟩:=ek w 13 a b d m h
 have HW1:=aa hW1
 clear hW1
 have x0:=R1.out.cell (k:=0) rfl
 have x1:=R1.out.cell (k:=1) rfl
 have x2:=R1.out.cell (k:=2) rfl
 have x3:=R1.out.cell (k:=3) rfl
 have x4:=R1.out.cell (k:=4) rfl
 obtain⟨V,hV⟩:∃V,c.inp.headD 0=V:=⟨_,rfl⟩
 rw[hV] at hV2
 have cr:=fun q=>ss (W1.drewN q) (aa (H1.out.drewN q))
 rw[hV] at cr⊢
 have hvv:=aa (show vv V=.agg #[.int .u64 (V:Int),.int .u64 0] by unfold vv lo hi;have:=hV2.out;rw[Nat.mod_eq_of_lt this,show V / 18446744073709551616 % 18446744073709551616=0 by omega];rfl)
 have cs:=fun(W:World) (vi':Value) hW=>eP (g:=g) (base:=base) (T:=T) (fu:=fu) (vi:=vi') (vt:=vt) (rest:=rest) (c:={ c with inp:=c.inp.tail }) a V W hW
 rw[hvv.out] at cs
 have hgX:g≠w.heap.size:=by have:=h.out.gl;omega
 clear hV hvv
 go_enter Tryz.func67,Tryz.ntmps67
 go_upto_region 1 with(fail)
 rw[HW1.out]
 clear HW1
 go_upto_region 12 with(fail)
 go_region_held3 (fun w'=>w'.cell? ⟨w.heap.size,1,none⟩=some (.int .i64 a)) (first|go_keep|exact m5|exact m6)
  (first
   | (go_at_call 103;refine(cr _).mono ?_;rintro e w5 ⟨rfl,⟨vi5,h5⟩,hb5⟩;have H5:=aa h5;have J5:=aa (JKp.trans (JKp.of_below (am (Below.refl W1.heap.size W1) _) g vt) hb5);have m5:=(J5.out.row R1.out hgX.symm (oH h.out)).cell (k:=1) rfl;clear h5 hb5)
   | (go_at_call 95;refine(cs _ vi5 (aa (H5.out.drewN _))).mono ?_;rintro e w6 ⟨rfl,h6,k6⟩;have H6:=aa h6;have J6:=aa (JKp.trans (J5.out.drew _) k6);have m6:=(J6.out.row R1.out hgX.symm (oH h.out)).cell (k:=1) rfl;clear h6 k6)
   | (go_at_call 95;refine(cs _ vi5 H5).mono ?_;rintro e w6 ⟨rfl,h6,k6⟩;have H6:=aa h6;have J6:=aa (JKp.trans J5.out k6);have m6:=(J6.out.row R1.out hgX.symm (oH h.out)).cell (k:=1) rfl;clear h6 k6))
 all_goals
  go_wp2_with fail
  go_end0
  exact⟨rfl,⟨_,_,H6.out,(K1.out.trans J6.out).weak h.out.tr⟩⟩
theorem yT (a b d m:Int) (w:World) (hm:Hid (c.trace.length<=1000000)) (h:Hid (CoAt w g base T fu vi vt rest c)) :
  Calls Tryz.prog 67 #[.pointer (some ⟨g,0,none⟩),iv 14 a b d m] w fun e w'=>e=.returned (.tuple #[])/\(∃vi' vt',CoAt w' g base T fu vi' vt' rest ({ c with trace:=c.trace++[c.reg a] })/\CKp w w' g base):=by
 obtain⟨W1,hW1,R1,H1,K1⟩:=ek w 14 a b d m h
 have HW1:=aa hW1
 clear hW1
 have x0:=R1.out.cell (k:=0) rfl
 have x1:=R1.out.cell (k:=1) rfl
 have x2:=R1.out.cell (k:=2) rfl
 have x3:=R1.out.cell (k:=3) rfl
 have x4:=R1.out.cell (k:=4) rfl
 obtain⟨i0,ih,hz0,hz1,hz2⟩:=info_parts Tryz.info38z
 obtain⟨V,hV⟩:∃V,c.reg a=V:=⟨_,rfl⟩
 rw[hV]
 have cr:∀W,CoAt W g base T fu vi vt rest c->Calls Tryz.prog 93 #[.pointer (some ⟨g,0,none⟩),.int .i64 a] W fun e w'=>e=.returned (vv V)/\Below W.heap.size W w':=fun W hW=>by rw[<-hV];exact eA a W (aa hW)
 have CR:=aa cr
 have t0:=H1.out.far 6 rfl
 have HM3:=aa (show c.trace.length+1<=maxLen by have:=hm.out;unfold maxLen;omega)
 have HM4:=aa (show(c.trace.length+1)*16<=140737488355328 by have:=hm.out;omega)
 have HBL:=aa (show base<=W1.heap.size from H1.out.bl)
 clear cr hV
 go_enter Tryz.func67,Tryz.ntmps67
 go_upto_region 1 with(fail)
 rw[HW1.out]
 clear HW1
 go_upto_region 14 with(fail)
 go_region_law (first
  | (go_simp;go_at_call 93;refine(CR.out W1.drew (H1.out.drewN 1)).mono ?_;rintro e w5 ⟨rfl,hb5⟩;have b5:=aa (Below.trans (show Below W1.heap.size W1 W1.drew from am (Below.refl W1.heap.size W1) 1) hb5);have H5:=aa (H1.out.call b5.out);have t5:=H5.out.far 6 rfl;have t6:∀o:Obj,(w5.alloc o).cell? ⟨g,6,none⟩=some vt:=(fun o=>(H5.out.alloc o).far 6 rfl);clear hb5)
  | (refine wp_append_own _ (.tmp 70) (.tmp 75) 39 rfl base 38 i0 (.agg #[.int .u64 0,.int .u64 0]) 2 16 Tryz.underlying39 ih hz0 hz1 hz2 rfl (by decide) vt c.trace.length (ah c.trace) rfl ((H5.out.alloc _).tr) ⟨w5.heap.size,0,none⟩ 1 1 (iE V) rfl rfl (fun j u hu=>by rw[WideShapes.add_plain,Nat.zero_add];exact(Row.new w5 38 (iE V)).cell hu) (n7 V) HM3.out HM4.out (Nat.le_trans HBL.out (Nat.le_trans b5.out.size (by simp))) ?_;intro v2 w7 ho2 hg2 hk2;obtain⟨A7,c7,rfl⟩:=jC ho2;have G7:=aa ((World.grownBy_alloc w5 _ _).trans hg2);have FIN:=aa (H5.out.outed G7.out ho2);have p0:=FIN.out.2.cell (k:=6) rfl;have p1:=FIN.out.2.free 6;clear ho2 hk2 hg2))
 all_goals
  go_wp2_with fail
  go_end0
  exact⟨rfl,⟨_,_,FIN.out.1,(((K1.out.trans (JKp.of_below b5.out g vt)).weak h.out.tr).trans (CKp.of_row G7.out H5.out.tr g)).trans (CKp.set _ g base 6 _)⟩⟩
theorem yS (a b d m:Int) (w:World) (h:Hid (CoAt w g base T fu vi vt rest c)) :
  Calls Tryz.prog 67 #[.pointer (some ⟨g,0,none⟩),iv 20 a b d m] w fun e w'=>e=.returned (.tuple #[])/\CoAt w' g base T fu vi vt rest c/\JKp w w' g vt vt:=by
 obtain⟨W1,hW1,R1,H1,K1⟩:=ek w 20 a b d m h
 have HW1:=aa hW1
 clear hW1
 have x0:=R1.out.cell (k:=0) rfl
 have x1:=R1.out.cell (k:=1) rfl
 have x2:=R1.out.cell (k:=2) rfl
 have x3:=R1.out.cell (k:=3) rfl
 have x4:=R1.out.cell (k:=4) rfl
 go_enter Tryz.func67,Tryz.ntmps67
 go_upto_region 1 with(fail)
 rw[HW1.out]
 clear HW1
 go_wp2_with fail
 go_end0
 exact⟨rfl,H1.out,K1.out⟩
theorem yR (a b d m:Int) (w:World) (h:Hid (CoAt w g base T fu vi vt rest c)) :
  Calls Tryz.prog 67 #[.pointer (some ⟨g,0,none⟩),iv 21 a b d m] w fun e w'=>e=.returned (.tuple #[])/\CoAt w' g base T fu vi vt rest c/\JKp w w' g vt vt:=by
 obtain⟨W1,hW1,R1,H1,K1⟩:=ek w 21 a b d m h
 have HW1:=aa hW1
 clear hW1
 have x0:=R1.out.cell (k:=0) rfl
 have x1:=R1.out.cell (k:=1) rfl
 have x2:=R1.out.cell (k:=2) rfl
 have x3:=R1.out.cell (k:=3) rfl
 have x4:=R1.out.cell (k:=4) rfl
 go_enter Tryz.func67,Tryz.ntmps67
 go_upto_region 1 with(fail)
 rw[HW1.out]
 clear HW1
 go_wp2_with fail
 go_end0
 exact⟨rfl,H1.out,K1.out⟩
theorem yQ (a b d m:Int) (w:World) (h:Hid (CoAt w g base T fu vi vt rest c)) :
  Calls Tryz.prog 67 #[.pointer (some ⟨g,0,none⟩),iv 24 a b d m] w fun e w'=>e=.returned (.tuple #[])/\CoAt w' g base T fu vi vt rest (({ c with code:=m }:Co).stop 1)/\JKp w w' g vt vt:=by
 obtain⟨W1,hW1,R1,H1,K1⟩:=ek w 24 a b d m h
 have HW1:=aa hW1
 clear hW1
 have x0:=R1.out.cell (k:=0) rfl
 have x1:=R1.out.cell (k:=1) rfl
 have x2:=R1.out.cell (k:=2) rfl
 have x3:=R1.out.cell (k:=3) rfl
 have x4:=R1.out.cell (k:=4) rfl
 have z3:=H1.out.row.free 3
 have c3:=H1.out.far 3 rfl
 obtain⟨W2,hW2⟩:∃W,W1.setCell ⟨g,3,none⟩ (.int .u64 m)=W:=⟨_,rfl⟩
 have H2:=aa (show CoAt W2 g base T fu vi vt rest { c with code:=m } by rw[<-hW2];exact H1.out.store 3 (.int .u64 m) rfl H1.out.inp rfl H1.out.r8)
 have K2:=aa (show JKp w W2 g vt vt by rw[<-hW2];exact K1.out.trans (JKp.set W1 g 3 vt _))
 have HW2:=aa hW2
 have cn:=gN 1 W2 H2
 clear hW2
 go_enter Tryz.func67,Tryz.ntmps67
 go_upto_region 1 with(fail)
 rw[HW1.out]
 clear HW1
 go_upto_region 19 with(fail)
 rw[HW2.out]
 clear z3 c3 HW2
 go_wp2_with fail
 refine cn.mono ?_
 rintro e w5 ⟨rfl,h5,k5⟩
 have H5:=aa h5
 have K5:=aa (K2.out.trans k5)
 clear h5 k5 cn
 go_wp2_with fail
 go_end0
 exact⟨rfl,H5.out,K5.out⟩
theorem fD (w:World) (t:Nat) (cs:List Value) {w5:World} (hb:Below (w.alloc (.cells cs.toArray t)).drew.heap.size (w.alloc (.cells cs.toArray t)).drew w5):Row w5 w.heap.size t cs:=(show Row (w.alloc (.cells cs.toArray t)).drew w.heap.size t cs from Row.new w t cs).call hb
theorem qe (op a b d m:Int) (w:World) (hV2:Hid (c.reg b<ae)) (hU2:Hid (c.reg d<ae)) (h:Hid (CoAt w g base T fu vi vt rest c)) :
  Calls Tryz.prog 104 #[.pointer (some ⟨g,0,none⟩),iv op a b d m] w fun e w'=>e=.returned (.tuple #[])/\CoAt w' g base T fu vi vt rest (if cO op (c.reg d) then c.setR a (bJ op (c.reg b) (c.reg d)) else c.stop 2)/\JKp w w' g vt vt:=by
 obtain⟨W1,hW1,R1,H1,K1⟩:=ek w op a b d m h
 have HW1:=aa hW1
 obtain⟨V,hV⟩:∃V,c.reg b=V:=⟨_,rfl⟩
 obtain⟨U,hU⟩:∃V,c.reg d=V:=⟨_,rfl⟩
 rw[hV] at hV2⊢
 rw[hU] at hU2⊢
 have rb:∀W,Below W1.heap.size W1 W->Calls Tryz.prog 93 #[.pointer (some ⟨g,0,none⟩),.int .i64 b] W fun e w'=>e=.returned (vv V)/\Below W.heap.size W w':=fun W hW=>by rw[<-hV];exact eA b W (aa (H1.out.call hW))
 have rd:∀W,Below W1.heap.size W1 W->Calls Tryz.prog 93 #[.pointer (some ⟨g,0,none⟩),.int .i64 d] W fun e w'=>e=.returned (vv U)/\Below W.heap.size W w':=fun W hW=>by rw[<-hU];exact eA d W (aa (H1.out.call hW))
 have ca:=fun(W:World) (_:Below W1.heap.size W1 W)=>uW op V U W hV2.out hU2.out
 obtain⟨B,hB⟩:∃B,cO op U=B:=⟨_,rfl⟩
 obtain⟨R,hR⟩:∃R,bJ op V U=R:=⟨_,rfl⟩
 rw[hB,hR] at ca⊢
 have RB:=aa rb
 have RD:=aa rd
 have CA:=aa ca
 clear hW1 hV hU hB hR rb rd ca
 have x0:=fun(w':World) (hb:Below W1.heap.size W1 w')=>(R1.out.call hb).cell (k:=0) rfl
 have x2:=fun(w':World) (hb:Below W1.heap.size W1 w')=>(R1.out.call hb).cell (k:=2) rfl
 have x3:=fun(w':World) (hb:Below W1.heap.size W1 w')=>(R1.out.call hb).cell (k:=3) rfl
 go_enter Tryz.func104,Tryz.ntmps104
 go_upto_region 1 with(fail)
 rw[HW1.out]
 clear HW1
 go_region_held3 (fun w'=>Below W1.heap.size W1 w') (first|exact bb|exact am (Below.refl _ _) 1|exact dR _ _|exact(bb.setCell (Nat.le_refl _) _).setCell (Nat.le_refl _) _|exact bb.alloc bb.size _|exact((bb.alloc bb.size _).setCell bb.size _).setCell bb.size _|exact(bb.setCell hY5 _).setCell hY5 _)
  (first
   | (go_at_call 93;have y6:=Y5.out;with_reducible refine Calls.mono (RB.out _ (by first|exact bb|exact bb.drew)) ?_;rintro e w5 ⟨rfl,hb5⟩;have y7:=y6.call hb5;have bb:=ac (show Below W1.heap.size W1 _ from by first|exact bb|exact bb.drew|exact am bb 1) hb5;have n0:=y7.cell (k:=0) rfl;have n1:=y7.cell (k:=1) rfl;have n2:=y7.free 0;have n3:=y7.free 1;have Y5:=aa y7;clear hb5 y6 y7)
   | (go_at_call 93;with_reducible refine Calls.mono (RB.out _ (by first|exact bb|exact bb.drew|exact(Below.refl _ _).drew)) ?_;rintro e w5 ⟨rfl,hb5⟩;have bb:=ac (show Below W1.heap.size W1 _ from by first|exact bb|exact am bb _|exact(Below.refl _ _).drew|exact bb.drew|exact am (Below.refl _ _) 1) hb5;clear hb5)
   | (go_at_call 93;with_reducible refine Calls.mono (RB.out (W1.alloc (.cells #[.int .u64 0,.int .u64 0] 38)).drew (dR W1 _)) ?_;rintro e w5 ⟨rfl,hb5⟩;have bb:=ac (dR W1 _) hb5;have y7:=fD W1 38 [.int .u64 0,.int .u64 0] hb5;have hY5:W1.heap.size<=W1.heap.size:=Nat.le_refl _;have n0:=y7.cell (k:=0) rfl;have n1:=y7.cell (k:=1) rfl;have n2:=y7.free 0;have n3:=y7.free 1;have Y5:=aa y7;clear hb5 y7)
   | (go_at_call 93;obtain⟨wY,hwY⟩:∃wY,wY=w5:=⟨_,rfl⟩;subst hwY;with_reducible refine Calls.mono (RB.out (wY.alloc (.cells #[.int .u64 0,.int .u64 0] 38)) (bb.alloc bb.size _)) ?_;rintro e w5 ⟨rfl,hb5⟩;have hY5:W1.heap.size<=wY.heap.size:=bb.size;have y7:=(Row.new wY 38 [.int .u64 0,.int .u64 0]).call hb5;have bb:=ac (bb.alloc bb.size (.cells #[.int .u64 0,.int .u64 0] 38)) hb5;have n0:=y7.cell (k:=0) rfl;have n1:=y7.cell (k:=1) rfl;have n2:=y7.free 0;have n3:=y7.free 1;have Y5:=aa y7;clear hb5 y7)
   | (go_at_call 93;have y6:=Y5.out;with_reducible refine Calls.mono (RD.out _ (by first|exact bb|exact bb.drew)) ?_;rintro e w5 ⟨rfl,hb5⟩;have y7:=y6.call hb5;have bb:=ac (show Below W1.heap.size W1 _ from by first|exact bb|exact bb.drew|exact am bb 1) hb5;have n0:=y7.cell (k:=0) rfl;have n1:=y7.cell (k:=1) rfl;have n2:=y7.free 0;have n3:=y7.free 1;have Y5:=aa y7;clear hb5 y6 y7)
   | (go_at_call 93;with_reducible refine Calls.mono (RD.out _ (by first|exact bb|exact bb.drew|exact(Below.refl _ _).drew)) ?_;rintro e w5 ⟨rfl,hb5⟩;have bb:=ac (show Below W1.heap.size W1 _ from by first|exact bb|exact am bb _|exact(Below.refl _ _).drew|exact bb.drew|exact am (Below.refl _ _) 1) hb5;clear hb5)
   | (go_at_call 93;with_reducible refine Calls.mono (RD.out (W1.alloc (.cells #[.int .u64 0,.int .u64 0] 38)).drew (dR W1 _)) ?_;rintro e w5 ⟨rfl,hb5⟩;have bb:=ac (dR W1 _) hb5;have y7:=fD W1 38 [.int .u64 0,.int .u64 0] hb5;have hY5:W1.heap.size<=W1.heap.size:=Nat.le_refl _;have n0:=y7.cell (k:=0) rfl;have n1:=y7.cell (k:=1) rfl;have n2:=y7.free 0;have n3:=y7.free 1;have Y5:=aa y7;clear hb5 y7)
   | (go_at_call 93;obtain⟨wY,hwY⟩:∃wY,wY=w5:=⟨_,rfl⟩;subst hwY;with_reducible refine Calls.mono (RD.out (wY.alloc (.cells #[.int .u64 0,.int .u64 0] 38)) (bb.alloc bb.size _)) ?_;rintro e w5 ⟨rfl,hb5⟩;have hY5:W1.heap.size<=wY.heap.size:=bb.size;have y7:=(Row.new wY 38 [.int .u64 0,.int .u64 0]).call hb5;have bb:=ac (bb.alloc bb.size (.cells #[.int .u64 0,.int .u64 0] 38)) hb5;have n0:=y7.cell (k:=0) rfl;have n1:=y7.cell (k:=1) rfl;have n2:=y7.free 0;have n3:=y7.free 1;have Y5:=aa y7;clear hb5 y7)
   | (go_at_call 131;have y6:=Y5.out;with_reducible refine Calls.mono (CA.out _ (by first|exact bb|exact bb.drew)) ?_;rintro e w5 ⟨rfl,hb5⟩;have y7:=y6.call hb5;have bb:=ac (show Below W1.heap.size W1 _ from by first|exact bb|exact bb.drew|exact am bb 1) hb5;have n0:=y7.cell (k:=0) rfl;have n1:=y7.cell (k:=1) rfl;have n2:=y7.free 0;have n3:=y7.free 1;have Y5:=aa y7;clear hb5 y6 y7)
   | (go_at_call 131;with_reducible refine Calls.mono (CA.out _ (by first|exact bb|exact bb.drew|exact(Below.refl _ _).drew)) ?_;rintro e w5 ⟨rfl,hb5⟩;have bb:=ac (show Below W1.heap.size W1 _ from by first|exact bb|exact am bb _|exact(Below.refl _ _).drew|exact bb.drew|exact am (Below.refl _ _) 1) hb5;clear hb5)
   | (go_at_call 131;with_reducible refine Calls.mono (CA.out (W1.alloc (.cells #[.int .u64 0,.int .u64 0] 38)).drew (dR W1 _)) ?_;rintro e w5 ⟨rfl,hb5⟩;have bb:=ac (dR W1 _) hb5;have y7:=fD W1 38 [.int .u64 0,.int .u64 0] hb5;have hY5:W1.heap.size<=W1.heap.size:=Nat.le_refl _;have n0:=y7.cell (k:=0) rfl;have n1:=y7.cell (k:=1) rfl;have n2:=y7.free 0;have n3:=y7.free 1;have Y5:=aa y7;clear hb5 y7)
   | (go_at_call 131;obtain⟨wY,hwY⟩:∃wY,wY=w5:=⟨_,rfl⟩;subst hwY;with_reducible refine Calls.mono (CA.out (wY.alloc (.cells #[.int .u64 0,.int .u64 0] 38)) (bb.alloc bb.size _)) ?_;rintro e w5 ⟨rfl,hb5⟩;have hY5:W1.heap.size<=wY.heap.size:=bb.size;have y7:=(Row.new wY 38 [.int .u64 0,.int .u64 0]).call hb5;have bb:=ac (bb.alloc bb.size (.cells #[.int .u64 0,.int .u64 0] 38)) hb5;have n0:=y7.cell (k:=0) rfl;have n1:=y7.cell (k:=1) rfl;have n2:=y7.free 0;have n3:=y7.free 1;have Y5:=aa y7;clear hb5 y7)
  )
 all_goals
  first
   | (obtain⟨W6,hW6⟩:∃W6,(w5.setCell ⟨wY.heap.size,0,none⟩ (.int .u64 (lo R))).setCell ⟨wY.heap.size,1,none⟩ (.int .u64 (hi R))=W6:=⟨_,rfl⟩;obtain⟨Y,hY⟩:∃Y,wY.heap.size=Y:=⟨_,rfl⟩;have Y6:=aa (show Row W6 Y 38 [.int .u64 (lo R),.int .u64 (hi R)] by rw[<-hW6,<-hY];exact(Y5.out.set_ 0 (.int .u64 (lo R))).set_ 1 (.int .u64 (hi R)));have bW:=aa (show Below W1.heap.size W1 W6 by rw[<-hW6];exact(bb.setCell (p:=⟨wY.heap.size,0,none⟩) hY5 _).setCell (p:=⟨wY.heap.size,1,none⟩) hY5 _);clear n0 n1 n2 n3 hY5 Y5)
   | (obtain⟨W6,hW6⟩:∃W6,(w5.setCell ⟨W1.heap.size,0,none⟩ (.int .u64 (lo R))).setCell ⟨W1.heap.size,1,none⟩ (.int .u64 (hi R))=W6:=⟨_,rfl⟩;obtain⟨Y,hY⟩:∃Y,W1.heap.size=Y:=⟨_,rfl⟩;have Y6:=aa (show Row W6 Y 38 [.int .u64 (lo R),.int .u64 (hi R)] by rw[<-hW6,<-hY];exact(Y5.out.set_ 0 (.int .u64 (lo R))).set_ 1 (.int .u64 (hi R)));have bW:=aa (show Below W1.heap.size W1 W6 by rw[<-hW6];exact(bb.setCell (p:=⟨W1.heap.size,0,none⟩) hY5 _).setCell (p:=⟨W1.heap.size,1,none⟩) hY5 _);clear n0 n1 n2 n3 hY5 Y5)
   | (obtain⟨W6,hW6⟩:∃W6,w5.alloc (.cells #[.int .u64 (lo R),.int .u64 (hi R)] 38)=W6:=⟨_,rfl⟩;obtain⟨Y,hY⟩:∃Y,w5.heap.size=Y:=⟨_,rfl⟩;have Y6:=aa (show Row W6 Y 38 [.int .u64 (lo R),.int .u64 (hi R)] by rw[<-hW6,<-hY];exact Row.new w5 _ _);have bW:=aa (show Below W1.heap.size W1 W6 by rw[<-hW6];exact bb.alloc bb.size _))
  have HW6:=aa hW6
  have HY:=aa hY
  clear hW6 hY bb x0 x2 x3 RB RD CA
  go_upto_region 2 with(fail)
  rw[HW6.out,HY.out]
  have x1:=(R1.out.call bW.out).cell (k:=1) rfl
  have y0:=Y6.out.cell (k:=0) rfl
  have y1:=Y6.out.cell (k:=1) rfl
  have H6:=aa (H1.out.call bW.out)
  have K6:=aa (K1.out.trans (JKp.of_below bW.out g vt))
  cases B with
  | false=>
   have cn:=gN 2 W6 H6
   go_wp2_with fail
   refine cn.mono ?_
   rintro e w7 ⟨rfl,h7,k7⟩
   have H7:=aa h7
   have K7:=aa (K6.out.trans k7)
   clear cn h7 k7
   go_wp2_with fail
   (try simp only[Exit.inBlock,Exit.then])
   refine bodyPost_ret (results_none rfl _ _ _) rfl ?_
   exact⟨rfl,H7.out,K7.out⟩
  | true=>
   have cs:=eP a R W6 H6
   go_wp2_with fail
   refine cs.mono ?_
   rintro e w7 ⟨rfl,h7,k7⟩
   have H7:=aa h7
   have K7:=aa (K6.out.trans k7)
   clear cs h7 k7
   go_wp2_with fail
   go_end0
   exact⟨rfl,H7.out,K7.out⟩
theorem wS (op a b d m:Int) (w:World) (hop:2<=op/\op<=10) (hV2:Hid (c.reg b<ae)) (hU2:Hid (c.reg d<ae)) (h:Hid (CoAt w g base T fu vi vt rest c)) :
  Calls Tryz.prog 67 #[.pointer (some ⟨g,0,none⟩),iv op a b d m] w fun e w'=>e=.returned (.tuple #[])/\CoAt w' g base T fu vi vt rest (if cO op (c.reg d) then c.setR a (bJ op (c.reg b) (c.reg d)) else c.stop 2)/\JKp w w' g vt vt:=by
 obtain⟨W1,hW1,R1,H1,K1⟩:=ek w op a b d m h
 have HW1:=aa hW1
 clear hW1
 have x0:=R1.out.cell (k:=0) rfl
 have x1:=R1.out.cell (k:=1) rfl
 have x2:=R1.out.cell (k:=2) rfl
 have x3:=R1.out.cell (k:=3) rfl
 have x4:=R1.out.cell (k:=4) rfl
 have e0:(op==0)=false:=by rw[beq_eq_false_iff_ne];omega
 have e1:(op==1)=false:=by rw[beq_eq_false_iff_ne];omega
 have e11:(op==11)=false:=by rw[beq_eq_false_iff_ne];omega
 have e12:(op==12)=false:=by rw[beq_eq_false_iff_ne];omega
 have e13:(op==13)=false:=by rw[beq_eq_false_iff_ne];omega
 have e14:(op==14)=false:=by rw[beq_eq_false_iff_ne];omega
 have e20:(op==20)=false:=by rw[beq_eq_false_iff_ne];omega
 have e21:(op==21)=false:=by rw[beq_eq_false_iff_ne];omega
 have e24:(op==24)=false:=by rw[beq_eq_false_iff_ne];omega
 have ca:=qe op a b d m W1 hV2 hU2 H1
 obtain⟨S2,hS2⟩:∃S2,(if cO op (c.reg d) then c.setR a (bJ op (c.reg b) (c.reg d)) else c.stop 2)=S2:=⟨_,rfl⟩
 rw[hS2] at ca⊢
 clear hS2
 go_enter Tryz.func67,Tryz.ntmps67
 go_upto_region 1 with(fail)
 rw[HW1.out]
 clear HW1
 go_wp2_with fail
 refine ca.mono ?_
 rintro e w5 ⟨rfl,h5,k5⟩
 have H5:=aa h5
 have K5:=aa (K1.out.trans k5)
 clear h5 k5 ca
 go_wp2_with fail
 go_end0
 exact⟨rfl,H5.out,K5.out⟩
end
def ivI (x:Ins):Value:=iv x.op x.a x.b x.c x.imm
section
variable {g base fu:Nat} {T:TypeId} {vi vt:Value} {rest:List Value} {c:Co}
theorem pn (x:Ins) (w:World) (hop:(0<=x.op/\x.op<=14)\/x.op=20\/x.op=21\/x.op=24) (hm:0<=x.imm/\x.imm<=18446744073709551615) (hs:SmallC c) (ht:c.trace.length<=1000000) (h:Hid (CoAt w g base T fu vi vt rest c)) :
  Calls Tryz.prog 67 #[.pointer (some ⟨g,0,none⟩),ivI x] w fun e w'=>e=.returned (.tuple #[])/\(∃vi' vt',CoAt w' g base T fu vi' vt' rest (c.execC x)/\CKp w w' g base):=by
 have hj:∀{f:FuncId} {args:Array Value} {c':Co},(Calls Tryz.prog f args w fun e w'=>e=.returned (.tuple #[])/\CoAt w' g base T fu vi vt rest c'/\JKp w w' g vt vt)->Calls Tryz.prog f args w fun e w'=>e=.returned (.tuple #[])/\(∃vi' vt',CoAt w' g base T fu vi' vt' rest c'/\CKp w w' g base):=
  fun hc=>hc.mono fun e w' ⟨q1,q2,q3⟩=>⟨q1,_,_,q2,q3.weak h.out.tr⟩
 obtain⟨op,a,b,d,m⟩:=x
 dsimp only at *
 unfold ivI Co.execC
 dsimp only
 by_cases h0:op=0
 ·subst h0;rw[if_pos rfl];exact hj (AB a b d m w hm h)
 rw[if_neg h0]
 by_cases h1:op=1
 ·subst h1;rw[if_pos rfl];exact hj (AA a b d m w h)
 rw[if_neg h1]
 by_cases h11:op=11
 ·subst h11;rw[if_pos rfl];exact hj (yW a b d m w h)
 rw[if_neg h11]
 by_cases h12:op=12
 ·subst h12;rw[if_pos rfl];exact hj (yV a b d m w h)
 rw[if_neg h12]
 by_cases h13:op=13
 ·subst h13
  rw[if_pos rfl]
  refine yU a b d m w (aa ?_) h
  cases hi:c.inp with
  | nil=>decide
  | cons v r=>exact hs.iv v (by rw[hi];simp)
 rw[if_neg h13]
 by_cases h14:op=14
 ·subst h14;rw[if_pos rfl];exact yT a b d m w (aa ht) h
 rw[if_neg h14]
 by_cases h20:op=20
 ·subst h20;rw[if_pos (.inl rfl)];exact hj (yS a b d m w h)
 by_cases h21:op=21
 ·subst h21;rw[if_pos (.inr rfl)];exact hj (yR a b d m w h)
 rw[if_neg (by omega)]
 by_cases h24:op=24
 ·subst h24;rw[if_pos rfl];exact hj (yQ a b d m w h)
 rw[if_neg h24]
 exact hj (wS op a b d m w (by omega) (aa (hs.reg b)) (aa (hs.reg d)) h)
end
section
variable {w:World}
theorem cN:(isAgg 61).run Tryz.prog w=.ok true w:=by kernel_rfl
theorem aX:(sizeOf 61).run Tryz.prog w=.ok 16 w:=by kernel_rfl
end
theorem bT {fn:Func} {t u1 u2 u3:Tmp} {T:TypeId} (h:fn.results=#[.cell t T,.tmp u1,.tmp u2,.tmp u3]) (tmps:Array Value) (w:World) (g o:Nat) (v:Value) (ht:tmps.getD t undef=.pointer (some ⟨g,o,none⟩)) (hl:(Instr.loadAt T (.pointer (some ⟨g,o,none⟩))).run Tryz.prog w=.ok v w) :
  (results fn tmps).run Tryz.prog w=.ok (.tuple #[v,tmps.getD u1 undef,tmps.getD u2 undef,tmps.getD u3 undef]) w:=by
 have hl2:(loadVar T ⟨g,o,none⟩).run Tryz.prog w=.ok v w:=by
  rw[<-hl]
  simp[Instr.loadAt,Instr.sureAddr]
 have ht3:tmps[t]?.getD undef=.pointer (some ⟨g,o,none⟩):=by rw[<-ht];simp
 have hm:(results fn tmps).run Tryz.prog w=((loadVar T ⟨g,o,none⟩).run Tryz.prog w).andThen fun v w=>.ok (.tuple #[v,tmps.getD u1 undef,tmps.getD u2 undef,tmps.getD u3 undef]) w:=by
  simp[results,h,ht3,asAddr]
 rw[hm,hl2]
 rfl
def lq:List Value:=ah (List.replicate 8 0)
structure PlB (w W:World) (x:Ins) (R:List Nat):Prop where
 i:Row W w.heap.size 50 [.int .i64 x.op,.int .i64 x.a,.int .i64 x.b,.int .i64 x.c,.int .u64 x.imm]
 r:Row W (w.heap.size+1) 61 (ah R)
 o:Row W (w.heap.size+1+1) 61 lq
 b:Below w.heap.size w W
theorem PlB.new (w:World) (x:Ins) (R:List Nat):∃W,((w.alloc (.cells #[.int .i64 x.op,.int .i64 x.a,.int .i64 x.b,.int .i64 x.c,.int .u64 x.imm] 50)).alloc (.cells (ah R).toArray 61)).alloc (.cells lq.toArray 61)=W/\PlB w W x R:=by
 refine⟨_,rfl,((Row.new w _ _).alloc _).alloc _,?_,?_,bi _ _ _ _⟩
 ·exact((Row.new (w.alloc (.cells #[.int .i64 x.op,.int .i64 x.a,.int .i64 x.b,.int .i64 x.c,.int .u64 x.imm] 50)) 61 (ah R)).at_ (by simp)).alloc _
 ·exact(Row.new ((w.alloc (.cells #[.int .i64 x.op,.int .i64 x.a,.int .i64 x.b,.int .i64 x.c,.int .u64 x.imm] 50)).alloc (.cells (ah R).toArray 61)) 61 lq).at_ (by simp)
theorem PlB.set {w W:World} {x:Ins} {R:List Nat} (h:PlB w W x R) {i:Nat} (hl:i<R.length) (V:Nat):PlB w ((W.setCell ⟨w.heap.size+1,i*2,none⟩ (.int .u64 (lo V))).setCell ⟨w.heap.size+1,i*2+1,none⟩ (.int .u64 (hi V))) x (R.set i V):=by
 refine⟨(h.i.far (p:=⟨w.heap.size+1,i*2,none⟩) (by simp) _).far (p:=⟨w.heap.size+1,i*2+1,none⟩) (by simp) _,?_,(h.o.far (p:=⟨w.heap.size+1,i*2,none⟩) (by simp) _).far (p:=⟨w.heap.size+1,i*2+1,none⟩) (by simp) _,(h.b.setCell (p:=⟨w.heap.size+1,i*2,none⟩) (by simp) _).setCell (p:=⟨w.heap.size+1,i*2+1,none⟩) (by simp) _⟩
 rw[<-iX V R i hl]
 exact(h.r.set_ (i*2) _).set_ (i*2+1) _
theorem PlB.drew {w W:World} {x:Ins} {R:List Nat} (h:PlB w W x R):PlB w W.drew x R:=⟨h.i.drew,h.r.drew,h.o.drew,h.b.drew⟩
theorem PlB.call {w W W':World} {x:Ins} {R:List Nat} (h:PlB w W x R) (hb:Below W.heap.size W W'):PlB w W' x R:=⟨h.i.call hb,h.r.call hb,h.o.call hb,ac h.b hb⟩
def il (R:List Nat) (vi vt:Value) (z:Bool) (w:World) (e:Ending) (w':World):Prop:=e=.returned (.tuple #[.agg (ah R).toArray,vi,vt,.bool z])/\Below w.heap.size w w'
theorem ba {R:List Nat} (h:R.length=8):(ah R).length=16:=by rw[aT,h]
theorem dt:lq.length=16:=rfl
theorem yw (a:Nat) (m:Int) (R:List Nat) (Ai At:Option Addr) (ni ci nt ct:Nat) (w:World) (ha:a<8) (hR:R.length=8) (hm:0<=m/\m<=18446744073709551615) :
  Calls Tryz.prog 51 #[iv 0 (a:Int) 0 0 m,.agg (ah R).toArray,.slice Ai ni ci,.slice At nt ct] w (il (R.set a m.toNat) (.slice Ai ni ci) (.slice At nt ct) false w):=by
 obtain⟨W1,hW1,hB⟩:=PlB.new w ⟨0,(a:Int),0,0,m⟩ R
 have HB:=aa hB
 have HW1:=aa (show((w.alloc (.cells #[.int .i64 0,.int .i64 (a:Int),.int .i64 0,.int .i64 0,.int .u64 m] 50)).alloc (.cells (ah R).toArray 61)).alloc (.cells #[.int .u64 0,.int .u64 0,.int .u64 0,.int .u64 0,.int .u64 0,.int .u64 0,.int .u64 0,.int .u64 0,.int .u64 0,.int .u64 0,.int .u64 0,.int .u64 0,.int .u64 0,.int .u64 0,.int .u64 0,.int .u64 0] 61)=W1 from hW1)
 have x0:=hB.i.cell (k:=0) rfl
 have x1:=hB.i.cell (k:=1) rfl
 have x4:=hB.i.cell (k:=4) rfl
 obtain⟨V0,hV0⟩:∃V,R[a]?=some V:=⟨_,List.getElem?_eq_getElem (by omega)⟩
 obtain⟨k0,k1⟩:=cE hV0
 have y0:=hB.r.cell k0
 have y1:=hB.r.cell k1
 have f0:=hB.r.free (a*2)
 have f1:=hB.r.free (a*2+1)
 obtain⟨e1,e2⟩:=ma hm
 obtain⟨V,hV⟩:∃V,m.toNat=V:=⟨_,rfl⟩
 rw[hV] at e1 e2⊢
 have ha0:(0:Int)<=(a:Int):=by omega
 have ha1:(a:Int)<8:=by omega
 obtain⟨W2,hW2⟩:∃W2,(W1.setCell ⟨w.heap.size+1,a*2,none⟩ (.int .u64 m)).setCell ⟨w.heap.size+1,a*2+1,none⟩ (.int .u64 0)=W2:=⟨_,rfl⟩
 have HB2:=aa (show PlB w W2 ⟨0,(a:Int),0,0,m⟩ (R.set a V) by
  rw[<-hW2]
  have h2:=HB.out.set (i:=a) (by omega) V
  rw[<-e1,<-e2] at h2
  exact h2)
 have HW2:=aa hW2
 have hR2:(R.set a V).length=8:=by rw[List.length_set,hR]
 clear hB hW1 hV0 k0 k1 hV e1 e2 hm hW2
 go_enter Tryz.func51,Tryz.ntmps51
 go_upto_region 1 with(fail)
 rw[HW1.out]
 clear HW1
 go_upto_region 21 with(first|go_region)
 rw[HW2.out]
 clear x0 x1 x4 y0 y1 f0 f1 HW2
 have hld:=bG (cN (w:=W2)) (aX (w:=W2)) (ba hR2) HB2.out.r
 have hst:=cL (vs:=ah (R.set a V)) (aX (w:=W2)) (ba hR2) dt (bk _) HB2.out.o
 have R3:=aa (bd (vs:=ah (R.set a V)) HB2.out.o)
 have B3:=aa (show Below w.heap.size w (W2.setRow (w.heap.size+1+1) (ah (R.set a V)).toArray) from HB2.out.b.grown (aU W2 _ _) HB2.out.b.size (fun k hk=>by injection hk with hk;omega))
 generalize W2.setRow (w.heap.size+1+1) (ah (R.set a V)).toArray=W3 at hst R3 B3
 have hld2:=bG (cN (w:=W3)) (aX (w:=W3)) (ba hR2) R3.out
 generalize hX:(ah (R.set a V)).toArray=X at hld hst hld2
 have HX:=aa hX
 clear hX
 go_wp2_with (first|(refine bu 61 (.tmp 5) rfl rfl _ _ rfl hld ?_)|(refine aI 61 (.tmp 8) (.tmp 108) rfl rfl _ _ rfl rfl hst ?_)|fail)
 exact bodyPost_ret (bT (fn:=Tryz.f51) (t:=8) (u1:=9) (u2:=10) (u3:=11) (T:=61) rfl _ W3 _ _ _ rfl hld2) rfl ⟨by rw[HX.out];rfl,B3.out⟩
theorem yv (a b:Nat) (R:List Nat) (Ai At:Option Addr) (ni ci nt ct:Nat) (w:World) (ha:a<8) (hb:b<8) (hR:R.length=8) :
  Calls Tryz.prog 51 #[iv 1 (a:Int) (b:Int) 0 0,.agg (ah R).toArray,.slice Ai ni ci,.slice At nt ct] w (il (R.set a (R.getD b 0)) (.slice Ai ni ci) (.slice At nt ct) false w):=by
 obtain⟨W1,hW1,hB⟩:=PlB.new w ⟨1,(a:Int),(b:Int),0,0⟩ R
 have HB:=aa hB
 have HW1:=aa (show((w.alloc (.cells #[.int .i64 1,.int .i64 (a:Int),.int .i64 (b:Int),.int .i64 0,.int .u64 0] 50)).alloc (.cells (ah R).toArray 61)).alloc (.cells #[.int .u64 0,.int .u64 0,.int .u64 0,.int .u64 0,.int .u64 0,.int .u64 0,.int .u64 0,.int .u64 0,.int .u64 0,.int .u64 0,.int .u64 0,.int .u64 0,.int .u64 0,.int .u64 0,.int .u64 0,.int .u64 0] 61)=W1 from hW1)
 have x0:=hB.i.cell (k:=0) rfl
 have x1:=hB.i.cell (k:=1) rfl
 have x2:=hB.i.cell (k:=2) rfl
 obtain⟨V0,hV0⟩:∃V,R[a]?=some V:=⟨_,List.getElem?_eq_getElem (by omega)⟩
 obtain⟨X,hX⟩:∃V,R[b]?=some V:=⟨_,List.getElem?_eq_getElem (by omega)⟩
 have gX:R.getD b 0=X:=by rw[List.getD_eq_getElem?_getD,hX];rfl
 rw[gX]
 obtain⟨k0,k1⟩:=cE hV0
 obtain⟨k2,k3⟩:=cE hX
 have y0:=hB.r.cell k0
 have y1:=hB.r.cell k1
 have y2:=hB.r.cell k2
 have y3:=hB.r.cell k3
 have f0:=hB.r.free (a*2)
 have f1:=hB.r.free (a*2+1)
 have ha0:(0:Int)<=(a:Int):=by omega
 have ha1:(a:Int)<8:=by omega
 have hb0:(0:Int)<=(b:Int):=by omega
 have hb1:(b:Int)<8:=by omega
 obtain⟨W4,hW4⟩:∃W2,((W1.setCell ⟨w.heap.size+1,a*2,none⟩ (.int .u64 (lo X))).setCell ⟨w.heap.size+1,a*2+1,none⟩ (.int .u64 (hi X))).drew=W2:=⟨_,rfl⟩
 have HB4:=aa (show PlB w W4 ⟨1,(a:Int),(b:Int),0,0⟩ (R.set a X) by rw[<-hW4];exact(HB.out.set (i:=a) (by omega) X).drew)
 have HW4:=aa hW4
 have hR2:(R.set a X).length=8:=by rw[List.length_set,hR]
 clear hB hW1 hV0 hX gX k0 k1 k2 k3 hW4
 go_enter Tryz.func51,Tryz.ntmps51
 go_upto_region 1 with(fail)
 rw[HW1.out]
 clear HW1
 go_upto_region 21 with(first|go_region)
 rw[HW4.out]
 clear x0 x1 x2 y0 y1 y2 y3 f0 f1 HW4
 have hld:=bG (cN (w:=W4)) (aX (w:=W4)) (ba hR2) HB4.out.r
 have hst:=cL (vs:=ah (R.set a X)) (aX (w:=W4)) (ba hR2) dt (bk _) HB4.out.o
 have R5:=aa (bd (vs:=ah (R.set a X)) HB4.out.o)
 have B5:=aa (show Below w.heap.size w (W4.setRow (w.heap.size+1+1) (ah (R.set a X)).toArray) from HB4.out.b.grown (aU W4 _ _) HB4.out.b.size (fun k hk=>by injection hk with hk;omega))
 generalize W4.setRow (w.heap.size+1+1) (ah (R.set a X)).toArray=W5 at hst R5 B5
 have hld2:=bG (cN (w:=W5)) (aX (w:=W5)) (ba hR2) R5.out
 generalize hX:(ah (R.set a X)).toArray=X at hld hst hld2
 have HX:=aa hX
 clear hX
 go_wp2_with (first|(refine bu 61 (.tmp 5) rfl rfl _ _ rfl hld ?_)|(refine aI 61 (.tmp 8) (.tmp 108) rfl rfl _ _ rfl rfl hst ?_)|fail)
 exact bodyPost_ret (bT (fn:=Tryz.f51) (t:=8) (u1:=9) (u2:=10) (u3:=11) (T:=61) rfl _ W5 _ _ _ rfl hld2) rfl ⟨by rw[HX.out];rfl,B5.out⟩
theorem AW (w:World):Calls Tryz.prog 82 #[.int .i64 1] w fun e w'=>e=.returned (.bool true)/\w=w':=by
 go_enter Tryz.func82,Tryz.ntmps82
 go_wp2
 go_ret
 exact⟨rfl,rfl⟩
theorem AV (w:World):Calls Tryz.prog 82 #[.int .i64 2] w fun e w'=>e=.returned (.bool true)/\w=w':=by
 go_enter Tryz.func82,Tryz.ntmps82
 go_wp2
 go_ret
 exact⟨rfl,rfl⟩
theorem AU (w:World):Calls Tryz.prog 82 #[.int .i64 4] w fun e w'=>e=.returned (.bool true)/\w=w':=by
 go_enter Tryz.func82,Tryz.ntmps82
 go_wp2
 go_ret
 exact⟨rfl,rfl⟩
theorem AT (w:World):Calls Tryz.prog 82 #[.int .i64 8] w fun e w'=>e=.returned (.bool true)/\w=w':=by
 go_enter Tryz.func82,Tryz.ntmps82
 go_wp2
 go_ret
 exact⟨rfl,rfl⟩
theorem zO (w:World):Calls Tryz.prog 82 #[.int .i64 16] w fun e w'=>e=.returned (.bool true)/\w=w':=by
 go_enter Tryz.func82,Tryz.ntmps82
 go_wp2
 go_ret
 exact⟨rfl,rfl⟩
theorem vE (n:Int) (w:World) (h:szB n=false):Calls Tryz.prog 82 #[.int .i64 n] w fun e w'=>e=.returned (.bool false)/\w=w':=by
 have hn:=of_decide_eq_false h
 have o1:(n==1)=false:=by rw[beq_eq_false_iff_ne];omega
 have o2:(n==2)=false:=by rw[beq_eq_false_iff_ne];omega
 have o4:(n==4)=false:=by rw[beq_eq_false_iff_ne];omega
 have o8:(n==8)=false:=by rw[beq_eq_false_iff_ne];omega
 have o16:(n==16)=false:=by rw[beq_eq_false_iff_ne];omega
 clear hn h
 go_enter Tryz.func82,Tryz.ntmps82
 go_wp2
 go_ret
 exact⟨rfl,rfl⟩
theorem eG (n:Int) (w:World):Calls Tryz.prog 82 #[.int .i64 n] w fun e w'=>e=.returned (.bool (szB n))/\w=w':=by
 by_cases h:szB n=true
 ·rw[h]
  have hn:=of_decide_eq_true h
  rcases hn with rfl|rfl|rfl|rfl|rfl
  ·exact AW w
  ·exact AV w
  ·exact AU w
  ·exact AT w
  ·exact zO w
 ·have h:szB n=false:=by simpa using h
  rw[h]
  exact vE n w h
theorem tj (X Y:Nat) (w:World):Calls Tryz.prog 77 #[vv X,vv Y] w fun e w'=>e=.returned (vv (eS X Y))/\Below w.heap.size w w':=by
 have e1:=aa (qp X Y)
 have e2:=aa (qq X Y)
 obtain⟨V,hV⟩:∃V,V=eS X Y:=⟨_,rfl⟩
 rw[<-hV] at e1 e2⊢
 clear hV
 go_enter Tryz.func77,Tryz.ntmps77
 go_wp2
 rw[e1.out,e2.out]
 exact bodyPost_ret (v:=vv V) (by simp[results,Tryz.results77,go_sem]) rfl ⟨rfl,bi _ _ _ _⟩
theorem tz (X:Nat) (w:World):Calls Tryz.prog 78 #[vv X] w fun e w'=>e=.returned (vv (eU X))/\Below w.heap.size w w':=by
 have e1:=aa (qw X)
 have e2:=aa (qx X)
 obtain⟨V,hV⟩:∃V,V=eU X:=⟨_,rfl⟩
 rw[<-hV] at e1 e2⊢
 clear hV
 go_enter Tryz.func78,Tryz.ntmps78
 go_wp2
 rw[e1.out]
 exact bodyPost_ret (v:=vv V) (by simp[results,Tryz.results78,go_sem,e2.out]) rfl ⟨rfl,aP _ _ _⟩
end Go.Proofs.YtjbgepjdohfhkaaGreat
