/- The reference's machine of chapter 12: memory at Move. Conditions: those of the types; the run goes on; both accesses lie on the stack. -/
import Derived.Test.YtjbgepjdohfhkaaGreatMWso
set_option linter.unusedVariables false
set_option linter.unusedSimpArgs false
set_option maxRecDepth 100000
set_option maxHeartbeats 4000000
namespace Go.Proofs.YtjbgepjdohfhkaaGreat
open Go.RowKit
section
variable {g:Nat} {Al:Int} {T0:Nat} {vf vs v1 v2 vp vi vt:Value} {R:List Nat} {s:Tm}
structure WmW (w:World) (g:Nat) (Al T0:Int) (vf vs v1 v2 vp vi vt:Value) (R:List Nat) (s:Tm):Prop where
 row:Row w g 94 (bR Al T0 vf vs v1 v2 vp vi vt R s)
 rl:R.length=8
 acts:mo w (g+1) w.heap.size vs s.st
 inp:cD w g vi s.c.inp
 tr:TrS w (g+1) w.heap.size vt s.c.trace
theorem WmAt.stackW {w w':World} {T1:Int} {u1 u2 u3:Value} (h:WmAt w g Al T1 vf vs v1 v2 vp vi vt R s) (hw:((w.setCell ⟨g,19,none⟩ u1).setCell ⟨g,20,none⟩ u2).setCell ⟨g,21,none⟩ u3=w') :
  WmW w' g Al T1 vf vs u1 u2 u3 vi vt R s/\w.grownBy w' (some g):=by
 have hg:w.grownBy w' (some g):=by rw[<-hw];exact aS (aS (aS (World.grownBy.refl w _) 19 _) 20 _) 21 _
 obtain⟨ka,ki,kt,kg⟩:=h.keptG hg
 refine⟨⟨?_,h.rl,ka,ki,kt⟩,hg⟩
 have h1:=((h.row.set_ (18+1) u1).set_ (18+2) u2).set_ (18+3) u3
 rw[show bR Al T1 vf vs v1 v2 vp vi vt R s=bj Al vf R (da T1 vs v1 v2 vp vi vt s) from rfl,bP h.rl,bP h.rl,bP h.rl] at h1
 rw[<-hw]
 exact h1
theorem sP {T1:Int} (k:Int) (w:World) (h:Hid (WmW w g Al T1 vf vs v1 v2 vp vi vt R s)) :
  Calls Tryz.prog 32 #[.pointer (some ⟨g,0,none⟩),.int .i64 k] w fun e w'=>e=.returned (.tuple #[])/\WmAt w' g Al T1 vf vs v1 v2 vp vi vt R (s.stop k)/\w.grownBy w' (some g):=by
 have cc:∀j u,(da T1 vs v1 v2 vp vi vt s)[j]?=some u->w.cell? ⟨g,18+j,none⟩=some u:=fun j u hu=>h.out.row.cell (k:=18+j) (by rw[mt h.out.rl];exact hu)
 have c7:=cc 7 _ rfl
 have c8:=cc 8 _ rfl
 have f7:=h.out.row.free 25
 have f8:=h.out.row.free 26
 have hgl:=h.out.row.lt
 obtain⟨W,hW⟩:∃W,(w.setCell ⟨g,26,none⟩ (.int .i64 k)).setCell ⟨g,25,none⟩ (.bool true)=W:=⟨_,rfl⟩
 have HW:=aa hW
 have hg:w.grownBy W (some g):=by rw[<-hW];exact aS (aS (World.grownBy.refl w _) 26 _) 25 _
 have hrow:Row W g 94 (bR Al T1 vf vs v1 v2 vp vi vt R (s.stop k)):=by
  have h1:=(h.out.row.set_ (18+8) (.int .i64 k)).set_ (18+7) (.bool true)
  rw[show bR Al T1 vf vs v1 v2 vp vi vt R s=bj Al vf R (da T1 vs v1 v2 vp vi vt s) from rfl,bP h.out.rl,bP h.out.rl] at h1
  rw[<-hW]
  exact h1
 have hk:∀p:Addr,g+1<=p.block->p.block<w.heap.size->W.cell? p=w.cell? p:=fun p h1 h2=>World.cell?_of_block (hg.block p.block h2 (fun e=>by injection e with e;omega))
 have hk2:∀p:Addr,p.block<g->W.cell? p=w.cell? p:=fun p h1=>World.cell?_of_block (hg.block p.block (by omega) (fun e=>by injection e with e;omega))
 have FIN:=aa (show WmAt W g Al T1 vf vs v1 v2 vp vi vt R (s.stop k) from⟨hrow,h.out.rl,h.out.acts.keep hk hg.size,h.out.inp.keep hk2,h.out.tr.keep hk hg.size,fun he=>by cases he⟩)
 have HG:=aa hg
 clear hW hg hrow hk hk2 cc
 go_enter Tryz.func32,Tryz.ntmps32
 go_wp2_with fail
 rw[HW.out]
 go_end0
 exact⟨rfl,FIN.out,HG.out⟩
theorem xM (a b d m:Int) (w:World) (ha:AccOk T0 s ⟨17,a,b,d,m⟩) (hlen:T0<=s.mem.bs.length) (hend:s.c.ended=false) (h:Hid (WmAt w g Al T0 vf vs v1 v2 vp vi vt R s)) :
  Calls Tryz.prog 50 #[.pointer (some ⟨g,0,none⟩),iv 17 a b d m] w (pI g Al T0 vf (s.access ⟨17,a,b,d,m⟩) w):=by
 have hsz:szB d=true:=ha.sz
 have hs1:=gS hsz
 obtain⟨r1,r2⟩:=ha.rd (show¬(17:Int)=16 by decide)
 obtain⟨r3,r4⟩:=ha.wr (show¬(17:Int)=15 by decide)
 dsimp only at r1 r2 r3 r4
 have hf1:bN s.mem a d=true:=fh hsz r3 (by omega)
 have hf2:bN s.mem b d=true:=fh hsz r1 (by omega)
 obtain⟨hRR,A1,c1,A2,c2,rfl,rfl,rfl,hsk,hfa1,hfa2⟩:=h.out.go hend
 have hmost:=hsk.ok.most
 have hgl:=h.out.gl
 obtain⟨a',rfl⟩:∃k:Nat,a=(k:Int):=⟨a.toNat,by omega⟩
 obtain⟨b',rfl⟩:∃k:Nat,b=(k:Int):=⟨b.toNat,by omega⟩
 obtain⟨d',rfl⟩:∃k:Nat,d=(k:Int):=⟨d.toNat,by omega⟩
 simp only[Int.toNat_natCast] at r2 r4
 have hE:iL s.mem (a':Int) (b':Int) (d':Int)=0:=by simp[iL,hf1,hf2]
 obtain⟨Z,u,hZ,hu,hA⟩:∃Z u,iK s.mem (a':Int) (b':Int) (d':Int)=Z/\eF s.mem (a':Int) (b':Int) (d':Int)=u/\s.access ⟨17,(a':Int),(b':Int),(d':Int),m⟩=if u=true then { s with mem:=Z } else s.stop 3:=by
  refine⟨_,_,rfl,rfl,?_⟩
  unfold Tm.access
  dsimp only
  rw[if_neg (by decide),if_neg (by decide),if_neg (by rw[hf1,hf2];decide)]
  simp only[Int.toNat_natCast]
  have e1:((s.mem.sp:Int)+(a':Int)).toNat=s.mem.sp+a':=by omega
  have e2:((s.mem.sp:Int)+(b':Int)).toNat=s.mem.sp+b':=by omega
  cases hub:dg s.mem (s.mem.sp+b') d' with
  | false=>
   obtain⟨_,q2,_⟩:=eT hf2 hub
   have hb:eF s.mem (a':Int) (b':Int) (d':Int)=false:=by simp[eF,q2]
   rw[hb]
   rfl
  | true=>
   obtain⟨_,q2,_⟩:=gC hf2 hub
   have hb:eF s.mem (a':Int) (b':Int) (d':Int)=true:=by simp[eF,q2,hf1]
   rw[hb]
   simp only[iK,hb,if_true,e1,e2,Int.toNat_natCast]
   rfl
 obtain⟨W1,hW1⟩:∃W,w.alloc (.cells #[.int .i64 17,.int .i64 (a':Int),.int .i64 (b':Int),.int .i64 (d':Int),.int .u64 m] 50)=W:=⟨_,rfl⟩
 have HW1:=aa hW1
 have R1:=aa (show Row W1 w.heap.size 50 [.int .i64 17,.int .i64 (a':Int),.int .i64 (b':Int),.int .i64 (d':Int),.int .u64 m] by rw[<-hW1];exact Row.new w _ _)
 have B1:=aa (show Below w.heap.size w W1 by rw[<-hW1];exact ag w _)
 have H1:=aa (h.out.call B1.out)
 have hsk1:StkAt W1 W1.heap.size A1 c1 A2 c2 s.mem:=hsk.call B1.out
 have cs:∀q,Calls Tryz.prog 76 #[sv A1 c1 A2 c2 s.mem,.int .i64 (a':Int),.int .i64 (b':Int),.int .i64 (d':Int)] (W1.drewN q) fun e w5=>∃a1 k1 a2 k2,e=.returned (.tuple #[sv a1 k1 a2 k2 Z,.bool u,.int .i64 0])/\Hid (WmAt w5 g Al T0 vf vs (.slice A1 s.mem.bs.length c1) (.slice A2 s.mem.bs.length c2) (.int .i64 (s.mem.sp:Int)) vi vt R s)/\Hid (u=true->fy w5 (g+1) w5.heap.size (.slice a1 Z.bs.length k1) (.slice a2 Z.bs.length k2) (.int .i64 (Z.sp:Int)) Z)/\Hid (Below w.heap.size w w5):=fun q=>by
  have h0:=tk (A1:=A1) (A2:=A2) (c1:=c1) (c2:=c2) (a':Int) (b':Int) (d':Int) (by constructor<;>omega) (by constructor<;>omega) (W1.drewN q) (aa (hsk1.drewN q))
  unfold n6 at h0
  rw[hE,hZ,hu] at h0
  refine h0.mono ?_
  rintro e w5 ⟨a1,k1,a2,k2,rfl,hst,hb5,hfar⟩
  have hgd:g<(W1.drewN q).heap.size:=H1.out.gl
  exact⟨a1,k1,a2,k2,rfl,aa ((H1.out.drewN q).call hb5),aa (fun hu=>⟨a1,k1,a2,k2,rfl,rfl,rfl,hst,(hfar hu).1.more (by omega),(hfar hu).2.more (by omega)⟩),aa (ac (am B1.out q) hb5)⟩
 have x0:=R1.out.cell (k:=0) rfl
 have x1:=R1.out.cell (k:=1) rfl
 have x2:=R1.out.cell (k:=2) rfl
 have x3:=R1.out.cell (k:=3) rfl
 have y1:=H1.out.cell 1 rfl
 have y2:=H1.out.cell 2 rfl
 have y3:=H1.out.cell 3 rfl
 rw[hA]
 clear hA hf1 hf2 hE hZ hu hW1 hsk1
 go_enter Tryz.func50,Tryz.ntmps50
 go_upto_region 1 with(fail)
 rw[HW1.out]
 clear HW1
 go_upto_region 12 with(fail)
 clear x0
 go_region_law (go_simp;go_at_call 76;refine(cs _).mono ?_;rintro e w5 ⟨a1,k1,a2,k2,rfl,H5,S5,B5⟩;have n0:=H5.out.cell 1 rfl;have n1:=H5.out.cell 2 rfl;have n2:=H5.out.cell 3 rfl;have n3:=H5.out.free 19;have n4:=H5.out.free 20;have n5:=H5.out.free 21)
 all_goals
  obtain⟨W6,hW6⟩:∃W,((w5.setCell ⟨g,19,none⟩ (.slice a1 Z.bs.length k1)).setCell ⟨g,20,none⟩ (.slice a2 Z.bs.length k2)).setCell ⟨g,21,none⟩ (.int .i64 (Z.sp:Int))=W:=⟨_,rfl⟩
  have HW6:=aa hW6
  cases u with
  | true=>
   obtain⟨h6,g6⟩:=H5.out.stack hend hW6 (S5.out rfl)
   have H6:=aa h6
   have G6:=aa ((aG B5.out (some g)).trans g6)
   clear hW6 h6 g6 n0 n1 n2 n3 n4 n5 H5 S5 B5 x1 x2 x3 y1 y2 y3 cs
   go_upto_region 13 with(fail)
   rw[HW6.out]
   clear HW6
   go_wp2_with fail
   go_ret
   exact⟨rfl,⟨_,_,_,_,_,_,_,H6.out⟩,G6.out⟩
  | false=>
   obtain⟨h6,g6⟩:=H5.out.stackW hW6
   have H6:=aa h6
   have G6:=aa ((aG B5.out (some g)).trans g6)
   clear hW6 h6 g6 n0 n1 n2 n3 n4 n5 H5 S5 B5 x1 x2 x3 y1 y2 y3 cs
   go_upto_region 13 with(fail)
   rw[HW6.out]
   clear HW6
   go_wp2_with fail
   refine(sP 3 W6 H6).mono ?_
   rintro e w7 ⟨rfl,h7,g7⟩
   have H7:=aa h7
   have G7:=aa (G6.out.trans g7)
   clear h7 g7
   go_wp2_with fail
   go_ret
   exact⟨rfl,⟨_,_,_,_,_,_,_,H7.out⟩,G7.out⟩
end
end Go.Proofs.YtjbgepjdohfhkaaGreat
