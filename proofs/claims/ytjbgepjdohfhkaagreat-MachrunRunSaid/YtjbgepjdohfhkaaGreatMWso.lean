/- The reference's machine of chapter 12: memory at Store. Conditions: those of the types; the run goes on; the access lies on the stack. -/
import Derived.Test.YtjbgepjdohfhkaaGreatMWld
import Derived.Test.YtjbgepjdohfhkaaGreatMKrstore
set_option linter.unusedVariables false
set_option linter.unusedSimpArgs false
set_option maxRecDepth 100000
set_option maxHeartbeats 4000000
namespace Go.Proofs.YtjbgepjdohfhkaaGreat
open Go.RowKit
section
variable {g:Nat} {Al:Int} {T0:Nat} {vf vs v1 v2 vp vi vt:Value} {R:List Nat} {s:Tm}
theorem WmAt.stack {w w':World} {T1:Int} {u1 u2:Value} {Z:Sk} (h:WmAt w g Al T1 vf vs v1 v2 vp vi vt R s) (hend:s.c.ended=false) (hw:((w.setCell ⟨g,19,none⟩ u1).setCell ⟨g,20,none⟩ u2).setCell ⟨g,21,none⟩ (.int .i64 (Z.sp:Int))=w') (hS:fy w (g+1) w.heap.size u1 u2 (.int .i64 (Z.sp:Int)) Z) :
  WmAt w' g Al T1 vf vs u1 u2 (.int .i64 (Z.sp:Int)) vi vt R { s with mem:=Z }/\w.grownBy w' (some g):=by
 have hg:w.grownBy w' (some g):=by rw[<-hw];exact aS (aS (aS (World.grownBy.refl w _) 19 _) 20 _) 21 _
 obtain⟨ka,ki,kt,kg⟩:=h.keptG hg
 refine⟨⟨?_,h.rl,ka,ki,kt,fun he=>⟨(kg hend).1,hS.keep (fun p h1 h2=>World.cell?_of_block (hg.block p.block h2 (fun e=>by injection e with e;omega))) hg.size⟩⟩,hg⟩
 have h1:=((h.row.set_ (18+1) u1).set_ (18+2) u2).set_ (18+3) (.int .i64 (Z.sp:Int))
 rw[show bR Al T1 vf vs v1 v2 vp vi vt R s=bj Al vf R (da T1 vs v1 v2 vp vi vt s) from rfl,bP h.rl,bP h.rl,bP h.rl] at h1
 rw[<-hw]
 exact h1
theorem xN (a:Int) (b:Nat) (d m:Int) (w:World) (hbr:b<8) (ha:AccOk T0 s ⟨16,a,b,d,m⟩) (hlen:T0<=s.mem.bs.length) (hX:s.c.reg (b:Int)<ae) (hend:s.c.ended=false) (h:Hid (WmAt w g Al T0 vf vs v1 v2 vp vi vt R s)) :
  Calls Tryz.prog 50 #[.pointer (some ⟨g,0,none⟩),iv 16 a (b:Int) d m] w (pI g Al T0 vf (s.access ⟨16,a,b,d,m⟩) w):=by
 have hsz:szB d=true:=ha.sz
 have hs1:=gS hsz
 obtain⟨r3,r4⟩:=ha.wr (show¬(16:Int)=15 by decide)
 dsimp only at r3 r4
 have hf2:bN s.mem a d=true:=fh hsz r3 (by omega)
 obtain⟨hRR,A1,c1,A2,c2,rfl,rfl,rfl,hsk,hfa1,hfa2⟩:=h.out.go hend
 have hmost:=hsk.ok.most
 have hgl:=h.out.gl
 obtain⟨a',rfl⟩:∃k:Nat,a=(k:Int):=⟨a.toNat,by omega⟩
 obtain⟨d',rfl⟩:∃k:Nat,d=(k:Int):=⟨d.toNat,by omega⟩
 simp only[Int.toNat_natCast] at r4
 obtain⟨X,hXe⟩:∃X,s.c.reg (b:Int)=X:=⟨_,rfl⟩
 rw[hXe] at hX
 obtain⟨hE,hZ⟩:=gF (X:=X) hf2
 obtain⟨Z,hZe⟩:∃Z,aQ s.mem (s.mem.sp+a') d' X=Z:=⟨_,rfl⟩
 rw[hZe] at hZ
 have hA:s.access ⟨16,(a':Int),(b:Int),(d':Int),m⟩={ s with mem:=Z }:=by
  unfold Tm.access
  dsimp only
  rw[if_neg (by decide),if_pos rfl,if_neg (by rw[hf2];decide)]
  simp only[Int.toNat_natCast]
  rw[hXe,hZe]
 obtain⟨W1,hW1⟩:∃W,w.alloc (.cells #[.int .i64 16,.int .i64 (a':Int),.int .i64 (b:Int),.int .i64 (d':Int),.int .u64 m] 50)=W:=⟨_,rfl⟩
 have HW1:=aa hW1
 have R1:=aa (show Row W1 w.heap.size 50 [.int .i64 16,.int .i64 (a':Int),.int .i64 (b:Int),.int .i64 (d':Int),.int .u64 m] by rw[<-hW1];exact Row.new w _ _)
 have B1:=aa (show Below w.heap.size w W1 by rw[<-hW1];exact ag w _)
 have H1:=aa (h.out.call B1.out)
 have hsk1:StkAt W1 W1.heap.size A1 c1 A2 c2 s.mem:=hsk.call B1.out
 have cs:∀q,Calls Tryz.prog 75 #[sv A1 c1 A2 c2 s.mem,.int .i64 (a':Int),.int .i64 (d':Int),vv X] (W1.drewN q) fun e w5=>∃a1 k1 a2 k2,e=.returned (.tuple #[sv a1 k1 a2 k2 Z,.int .i64 0])/\Hid (WmAt w5 g Al T0 vf vs (.slice A1 s.mem.bs.length c1) (.slice A2 s.mem.bs.length c2) (.int .i64 (s.mem.sp:Int)) vi vt R s)/\Hid (fy w5 (g+1) w5.heap.size (.slice a1 Z.bs.length k1) (.slice a2 Z.bs.length k2) (.int .i64 (Z.sp:Int)) Z)/\Hid (Below w.heap.size w w5):=fun q=>by
  have h0:=mG (A1:=A1) (A2:=A2) (c1:=c1) (c2:=c2) (a':Int) (d':Int) X hX (by constructor<;>omega) (W1.drewN q) (aa (hsk1.drewN q))
  unfold pJ at h0
  rw[hE,hZ] at h0
  refine h0.mono ?_
  rintro e w5 ⟨a1,k1,a2,k2,rfl,hst,hb5,hown⟩
  have ho:=hown rfl
  have hgd:g<(W1.drewN q).heap.size:=H1.out.gl
  exact⟨a1,k1,a2,k2,rfl,aa ((H1.out.drewN q).call hb5),aa ⟨a1,k1,a2,k2,rfl,rfl,rfl,hst,fG ho.o1 (by omega),fG ho.o2 (by omega)⟩,aa (ac (am B1.out q) hb5)⟩
 have x0:=R1.out.cell (k:=0) rfl
 have x1:=R1.out.cell (k:=1) rfl
 have x2:=R1.out.cell (k:=2) rfl
 have x3:=R1.out.cell (k:=3) rfl
 have y1:=H1.out.cell 1 rfl
 have y2:=H1.out.cell 2 rfl
 have y3:=H1.out.cell 3 rfl
 have hb0:(0:Int)<=(b:Int):=by omega
 have hb1:(b:Int)<8:=by omega
 have hRb:R[b]?=some X:=by
  have h8:=h.out.rl
  rw[<-hXe,Co.reg_in s.c hbr,<-hRR,List.getD_eq_getElem?_getD,List.getElem?_eq_getElem (by omega)]
  rfl
 obtain⟨q0,q1⟩:=ke (Al:=Al) (T0:=T0) (vf:=vf) (vs:=vs) (v1:=(.slice A1 s.mem.bs.length c1)) (v2:=(.slice A2 s.mem.bs.length c2)) (vp:=(.int .i64 (s.mem.sp:Int))) (vi:=vi) (vt:=vt) (s:=s) H1.out.rl hRb
 have p0:=H1.out.row.cell q0
 have p1:=H1.out.row.cell q1
 rw[hA]
 clear hA hf2 hE hZ hZe hXe hW1 hsk1 hRb q0 q1
 go_enter Tryz.func50,Tryz.ntmps50
 go_upto_region 1 with(fail)
 rw[HW1.out]
 clear HW1
 go_upto_region 10 with(fail)
 clear x0
 go_region_law (go_simp;go_at_call 75;refine(cs _).mono ?_;rintro e w5 ⟨a1,k1,a2,k2,rfl,H5,S5,B5⟩;have n0:=H5.out.cell 1 rfl;have n1:=H5.out.cell 2 rfl;have n2:=H5.out.cell 3 rfl;have n3:=H5.out.free 19;have n4:=H5.out.free 20;have n5:=H5.out.free 21)
 all_goals
  obtain⟨W6,hW6⟩:∃W,((w5.setCell ⟨g,19,none⟩ (.slice a1 Z.bs.length k1)).setCell ⟨g,20,none⟩ (.slice a2 Z.bs.length k2)).setCell ⟨g,21,none⟩ (.int .i64 (Z.sp:Int))=W:=⟨_,rfl⟩
  have HW6:=aa hW6
  obtain⟨h6,g6⟩:=H5.out.stack hend hW6 S5.out
  have H6:=aa h6
  have G6:=aa ((aG B5.out (some g)).trans g6)
  clear hW6 h6 g6 n0 n1 n2 n3 n4 n5 H5 S5 B5 x1 x2 x3 y1 y2 y3 p0 p1 cs
  go_upto_region 13 with(fail)
  rw[HW6.out]
  clear HW6
  go_wp2_with fail
  go_ret
  exact⟨rfl,⟨_,_,_,_,_,_,_,H6.out⟩,G6.out⟩
end
end Go.Proofs.YtjbgepjdohfhkaaGreat
