/- The contract of mach.frameOf at a frame that there is: the frame, and whether its shape is right. Conditions: those of the types. -/
import Derived.Test.YtjbgepjdohfhkaaGreatMEpow
set_option linter.unusedVariables false
set_option linter.unusedSimpArgs false
set_option maxRecDepth 100000
set_option maxHeartbeats 2000000
namespace Go.Proofs.YtjbgepjdohfhkaaGreat
open Go.RowKit
theorem qd (Al:Int) (A:Option Addr) (n c:Nat) (hs:List Fd) (F:Tg) (lo B i:Nat) (P S:Int) (A1:Option Addr) (n1 c1:Nat) (f:Fm) (w:World) (H:Hid (TgAt w lo B A n c hs F)) (hB:B<=w.heap.size) (hf:Hid (F[i]?=some f)) (hh:Hid (hs[i]?=some ⟨P,S,A1,n1,c1⟩)) :
  Calls Tryz.prog 59 #[tv Al A n c,.int .i64 (i:Int)] w fun e w'=>e=.returned (.tuple #[xv P S A1 n1 c1 n,.bool (shB Al f)])/\Below w.heap.size w w':=by
 have hin:i<n:=by rw[<-H.out.len];exact(List.getElem?_eq_some_iff.1 hf.out).1
 obtain⟨b,off,rfl,hb,h,p0,p1,p2⟩:=uE H.out hf.out hh.out
 have hn:=H.out.cap.2.2
 have HSV:=aa (show shB Al f=shV Al P S by have e1:=h.p;have e2:=h.s;simp only at e1 e2;rw[e1,e2,zL])
 rw[HSV.out]
 clear HSV
 have cs:=fun W=>qZ P S A1 n1 c1 n Al W
 generalize shV Al P S=sv at cs⊢
 have CS:=aa cs
 clear cs
 obtain⟨W2,hW2,hb2,hs2,r0,r1⟩:=fx w [.int .i64 Al,.slice (some ⟨b,off,none⟩) n c] [.int .i64 0,.int .i64 0,.slice none 0 0,.int .i64 0] 26 130
 have hbw:b<w.heap.size:=by omega
 have HW2:=aa hW2
 have HB2:=aa hb2
 have HS2:=aa hs2
 have R0:=aa r0
 have R1:=aa r1
 have t0:=r0.cell (k:=0) rfl
 have t1:=r0.cell (k:=1) rfl
 have q0:=(hb2.cell (p:=⟨b,off+i*3,none⟩) hbw).trans p0
 have q1:=(hb2.cell (p:=⟨b,off+i*3+1,none⟩) hbw).trans p1
 have q2:=(hb2.cell (p:=⟨b,off+i*3+2,none⟩) hbw).trans p2
 have cw:=eD (i:Int) (n:Int)
 rw[ai.2 ⟨by omega,by omega⟩] at cw
 have hiz:(0:Int)<=(i:Int):=by omega
 have hiz':(i:Int)<(n:Int):=by omega
 have hl0:w.heap.size<W2.heap.size:=by omega
 have hl1:b<W2.heap.size:=by omega
 clear hW2 hb2 hs2 r0 r1 p0 p1 p2 h hf hh H
 go_enter Tryz.func59,Tryz.ntmps59
 go_upto_region 1 with(fail)
 rw[HW2.out]
 clear HW2
 go_upto_region 3 with(go_at_call 85;refine(cw _).mono ?_;rintro e w' ⟨rfl,rfl⟩)
 go_region
 go_upto_region 4 with(fail)
 obtain⟨X,hX⟩:∃V,(W2.alloc (.cells #[.int .i64 P,.int .i64 S,.slice A1 n1 c1,.int .i64 (n:Int)] 130)).drew=V:=⟨_,rfl⟩
 have RT:=aa (show Row X.drew w.heap.size 26 [.int .i64 Al,.slice (some ⟨b,off,none⟩) n c] by rw[<-hX];exact(R0.out.alloc _).drew.drew)
 have RZ:=aa (show Row X.drew (w.heap.size+1) 130 [.int .i64 0,.int .i64 0,.slice none 0 0,.int .i64 0] by rw[<-hX];exact(R1.out.alloc _).drew.drew)
 have RX:=aa (show Row X.drew W2.heap.size 130 [.int .i64 P,.int .i64 S,.slice A1 n1 c1,.int .i64 (n:Int)] by rw[<-hX];exact(Row.new W2 _ _).drew.drew)
 have HBX:=aa (show Below w.heap.size w X.drew by rw[<-hX];exact(HB2.out.alloc HB2.out.size _).drew.drew)
 rw[hX]
 obtain⟨g,hg⟩:∃g,W2.heap.size=g:=⟨_,rfl⟩
 rw[hg] at RX hl0⊢
 have hgz:g≠w.heap.size+1:=by have:=HS2.out;omega
 clear hX hg t0 t1 q0 q1 q2 R0 R1 HB2 HS2 hl1
 have t0:=RT.out.cell (k:=0) rfl
 have x0:=RX.out.cell (k:=0) rfl
 have x1:=RX.out.cell (k:=1) rfl
 have x2:=RX.out.cell (k:=2) rfl
 have x3:=RX.out.cell (k:=3) rfl
 clear cw
 go_region_with (go_at_call 86;refine(CS.out _).mono ?_;rintro e w5 ⟨rfl,hb5⟩;have y0:=(RX.out.call hb5).cell (k:=0) rfl;have y1:=(RX.out.call hb5).cell (k:=1) rfl;have y2:=(RX.out.call hb5).cell (k:=2) rfl;have y3:=(RX.out.call hb5).cell (k:=3) rfl;have s0:=(RZ.out.call hb5).free 0;have s1:=(RZ.out.call hb5).free 1;have s2:=(RZ.out.call hb5).free 2;have s3:=(RZ.out.call hb5).free 3;have v0:=(RZ.out.call hb5).cell (k:=0) rfl;have v1:=(RZ.out.call hb5).cell (k:=1) rfl;have v2:=(RZ.out.call hb5).cell (k:=2) rfl;have v3:=(RZ.out.call hb5).cell (k:=3) rfl)
 all_goals
  go_wp2_with fail
  obtain⟨W7,hW7⟩:∃V,(((w5.setCell ⟨w.heap.size+1,0,none⟩ (.int .i64 P)).setCell ⟨w.heap.size+1,1,none⟩ (.int .i64 S)).setCell ⟨w.heap.size+1,2,none⟩ (.slice A1 n1 c1)).setCell ⟨w.heap.size+1,3,none⟩ (.int .i64 (n:Int))=V:=⟨_,rfl⟩
  have R7:Row W7 (w.heap.size+1) 130 [.int .i64 P,.int .i64 S,.slice A1 n1 c1,.int .i64 (n:Int)]:=by rw[<-hW7];exact((((RZ.out.call hb5).set_ 0 _).set_ 1 _).set_ 2 _).set_ 3 _
  have B7:Below w.heap.size w W7:=by
   rw[<-hW7]
   have h:=ac HBX.out hb5
   exact(((h.setCell (p:=⟨w.heap.size+1,0,none⟩) (by simp) _).setCell (p:=⟨w.heap.size+1,1,none⟩) (by simp) _).setCell (p:=⟨w.heap.size+1,2,none⟩) (by simp) _).setCell (p:=⟨w.heap.size+1,3,none⟩) (by simp) _
  rw[hW7]
  have u0:=R7.cell (k:=0) rfl
  have u1:=R7.cell (k:=1) rfl
  have u2:=R7.cell (k:=2) rfl
  have u3:=R7.cell (k:=3) rfl
  refine bodyPost_ret (v:=.tuple #[xv P S A1 n1 c1 n,.bool sv]) (by simp[results,Tryz.results59,go_sem,u0,u1,u2,u3]) rfl ⟨rfl,B7⟩
end Go.Proofs.YtjbgepjdohfhkaaGreat
