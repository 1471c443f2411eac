/- The reference's machine of chapter 12: memory at Load. Conditions: those of the types; the run goes on; the access lies on the stack. -/
import Derived.Test.YtjbgepjdohfhkaaGreatMWle
import Derived.Test.YtjbgepjdohfhkaaGreatMKruse
set_option linter.unusedVariables false
set_option linter.unusedSimpArgs false
set_option maxRecDepth 100000
set_option maxHeartbeats 4000000
namespace Go.Proofs.YtjbgepjdohfhkaaGreat
open Go.RowKit
def pI (g:Nat) (Al T0:Int) (vf:Value) (s:Tm) (w:World) (e:Ending) (w':World):Prop:=e=.returned (.bool true)/\pH w' g Al T0 vf s/\w.grownBy w' (some g)
section
variable {g:Nat} {Al:Int} {T0:Nat} {vf vs v1 v2 vp vi vt:Value} {R:List Nat} {s:Tm}
theorem WmAt.same {w:World} {T1:Int} {t:Tm} (h:WmAt w g Al T1 vf vs v1 v2 vp vi vt R s) (ht:t.c.ended=true) (hs:s.c.ended=true) (e1:t.st=s.st) (e2:t.deep=s.deep) (e3:t.c.inp=s.c.inp) (e4:t.c.kind=s.c.kind) (e5:t.c.code=s.c.code) (e6:t.c.res=s.c.res) (e7:t.c.trace=s.c.trace) (e8:t.c.steps=s.c.steps):WmAt w g Al T1 vf vs v1 v2 vp vi vt R t:=by
 refine⟨?_,h.rl,by rw[e1];exact h.acts,by rw[e3];exact h.inp,by rw[e7];exact h.tr,fun he=>by rw[ht] at he;cases he⟩
 have h1:=h.row
 rw[show bR Al T1 vf vs v1 v2 vp vi vt R s=bR Al T1 vf vs v1 v2 vp vi vt R t by unfold bR;rw[e2,ht,hs,e4,e5,e6,e8]] at h1
 exact h1
theorem xO (a:Nat) (b d m:Int) (w:World) (har:a<8) (ha:AccOk T0 s ⟨15,a,b,d,m⟩) (hlen:T0<=s.mem.bs.length) (hend:s.c.ended=false) (h:Hid (WmAt w g Al T0 vf vs v1 v2 vp vi vt R s)) :
  Calls Tryz.prog 50 #[.pointer (some ⟨g,0,none⟩),iv 15 (a:Int) b d m] w (pI g Al T0 vf (s.access ⟨15,a,b,d,m⟩) w):=by
 have hsz:szB d=true:=ha.sz
 have hs1:=gS hsz
 obtain⟨r3,r4⟩:=ha.rd (show¬(15:Int)=16 by decide)
 dsimp only at r3 r4
 have hf2:bN s.mem b d=true:=fh hsz r3 (by omega)
 obtain⟨hRR,A1,c1,A2,c2,rfl,rfl,rfl,hsk,hfa1,hfa2⟩:=h.out.go hend
 have hmost:=hsk.ok.most
 have hgl:=h.out.gl
 obtain⟨b',rfl⟩:∃k:Nat,b=(k:Int):=⟨b.toNat,by omega⟩
 obtain⟨d',rfl⟩:∃k:Nat,d=(k:Int):=⟨d.toNat,by omega⟩
 simp only[Int.toNat_natCast] at r4
 obtain⟨V,u,hV,hu,hA⟩:∃V u,iZ s.mem (b':Int) (d':Int)=V/\fA s.mem (b':Int) (d':Int)=u/\s.access ⟨15,(a:Int),(b':Int),(d':Int),m⟩=if u=true then { s with c:=s.c.setR (a:Int) V } else({ s with c:=s.c.setR (a:Int) V }:Tm).stop 3:=by
  refine⟨_,_,rfl,rfl,?_⟩
  unfold Tm.access
  dsimp only
  rw[if_pos rfl,if_neg (by rw[hf2];decide)]
  simp only[Int.toNat_natCast]
  cases hub:dg s.mem (s.mem.sp+b') d' with
  | false=>
   obtain⟨_,e2,e3⟩:=eT hf2 hub
   rw[e2,e3]
   rfl
  | true=>
   obtain⟨_,e2,e3⟩:=gC hf2 hub
   rw[e2,e3,List.take_of_length_le (by rw[fV (by omega)];omega)]
   rfl
 have hE:fI s.mem (b':Int) (d':Int)=0:=by simp[fI,hf2]
 obtain⟨W1,hW1⟩:∃W,w.alloc (.cells #[.int .i64 15,.int .i64 (a:Int),.int .i64 (b':Int),.int .i64 (d':Int),.int .u64 m] 50)=W:=⟨_,rfl⟩
 have HW1:=aa hW1
 have R1:=aa (show Row W1 w.heap.size 50 [.int .i64 15,.int .i64 (a:Int),.int .i64 (b':Int),.int .i64 (d':Int),.int .u64 m] by rw[<-hW1];exact Row.new w _ _)
 have b1:Below w.heap.size w W1:=by rw[<-hW1];exact ag w _
 obtain⟨W2,hW2⟩:∃W,W1.alloc (.cells #[.int .u64 0,.int .u64 0] 38)=W:=⟨_,rfl⟩
 obtain⟨Y,hY⟩:∃Y,W1.heap.size=Y:=⟨_,rfl⟩
 have HW2:=aa hW2
 have HY:=aa hY
 have b2:Below W1.heap.size W1 W2:=by rw[<-hW2];exact ag W1 _
 have R2:=aa (R1.out.call b2)
 have Y2:=aa (show Row W2 Y 38 [.int .u64 0,.int .u64 0] by rw[<-hW2,<-hY];exact Row.new W1 _ _)
 have B2:=aa (ac b1 b2)
 have hwY:w.heap.size<Y:=by rw[<-hY];exact R1.out.lt
 have H2:=aa (h.out.call B2.out)
 have hsk2:StkAt W2 W2.heap.size A1 c1 A2 c2 s.mem:=hsk.call B2.out
 have cl:∀q,Calls Tryz.prog 74 #[sv A1 c1 A2 c2 s.mem,.int .i64 (b':Int),.int .i64 (d':Int)] (W2.drewN q) fun e w5=>e=.returned (.tuple #[vv V,.bool u,.int .i64 0])/\Hid (WmAt w5 g Al T0 vf vs (.slice A1 s.mem.bs.length c1) (.slice A2 s.mem.bs.length c2) (.int .i64 (s.mem.sp:Int)) vi vt R s)/\Hid (Row w5 Y 38 [.int .u64 0,.int .u64 0])/\Hid (Row w5 w.heap.size 50 [.int .i64 15,.int .i64 (a:Int),.int .i64 (b':Int),.int .i64 (d':Int),.int .u64 m])/\Hid (Below w.heap.size w w5):=fun q=>by
  have h0:=kR (A1:=A1) (A2:=A2) (c1:=c1) (c2:=c2) (b':Int) (d':Int) (by constructor<;>omega) (W2.drewN q) (aa (hsk2.drewN q))
  unfold cS at h0
  rw[hV,hu,hE] at h0
  refine h0.mono ?_
  rintro e w5 ⟨rfl,hb5⟩
  exact⟨rfl,aa ((H2.out.drewN q).call hb5),aa ((Y2.out.drewN q).call hb5),aa ((R2.out.drewN q).call hb5),aa (ac (am B2.out q) hb5)⟩
 have x0:=R1.out.cell (k:=0) rfl
 have x2:=R2.out.cell (k:=2) rfl
 have x3:=R2.out.cell (k:=3) rfl
 have y1:=H2.out.cell 1 rfl
 have y2:=H2.out.cell 2 rfl
 have y3:=H2.out.cell 3 rfl
 have ha0:(0:Int)<=(a:Int):=by omega
 have ha1:(a:Int)<8:=by omega
 obtain⟨V0,hV0⟩:∃V,R[a]?=some V:=⟨_,List.getElem?_eq_getElem (by rw[h.out.rl];omega)⟩
 have HV0:=aa hV0
 rw[hA]
 clear hA hf2 hV hu hE hW1 hW2 hY b1 b2 hV0 hsk2
 go_enter Tryz.func50,Tryz.ntmps50
 go_upto_region 1 with(fail)
 rw[HW1.out]
 clear HW1
 go_upto_region 6 with(fail)
 rw[HW2.out,HY.out]
 clear HW2 HY x0
 go_region_law (go_simp;go_at_call 74;refine(cl _).mono ?_;rintro e w5 ⟨rfl,H5,Y5,R5,B5⟩;have n0:=Y5.out.cell (k:=0) rfl;have n1:=Y5.out.cell (k:=1) rfl;have n2:=Y5.out.free 0;have n3:=Y5.out.free 1)
 all_goals
  obtain⟨W6,hW6⟩:∃W,(w5.setCell ⟨Y,0,none⟩ (.int .u64 (lo V))).setCell ⟨Y,1,none⟩ (.int .u64 (hi V))=W:=⟨_,rfl⟩
  have HW6:=aa hW6
  have Y6:=aa (show Row W6 Y 38 [.int .u64 (lo V),.int .u64 (hi V)] by rw[<-hW6];exact(Y5.out.set_ 0 (.int .u64 (lo V))).set_ 1 (.int .u64 (hi V)))
  have R6:=aa (show Row W6 w.heap.size 50 [.int .i64 15,.int .i64 (a:Int),.int .i64 (b':Int),.int .i64 (d':Int),.int .u64 m] by rw[<-hW6];exact(R5.out.far (p:=⟨Y,0,none⟩) (by simp;omega) _).far (p:=⟨Y,1,none⟩) (by simp;omega) _)
  have B6:=aa (show Below w.heap.size w W6 by rw[<-hW6];exact(B5.out.setCell (p:=⟨Y,0,none⟩) (by simp;omega) _).setCell (p:=⟨Y,1,none⟩) (by simp;omega) _)
  have H6:=aa (h.out.call B6.out)
  clear hW6 n0 n1 n2 n3 H5 Y5 R5 B5 x2 x3 y1 y2 y3 cl
  go_upto_region 7 with(fail)
  rw[HW6.out]
  clear HW6
  cases u with
  | true=>
   have x1:=R6.out.cell (k:=1) rfl
   have u0:=Y6.out.cell (k:=0) rfl
   have u1:=Y6.out.cell (k:=1) rfl
   obtain⟨q0,q1⟩:=ke (Al:=Al) (T0:=T0) (vf:=vf) (vs:=vs) (v1:=(.slice A1 s.mem.bs.length c1)) (v2:=(.slice A2 s.mem.bs.length c2)) (vp:=(.int .i64 (s.mem.sp:Int))) (vi:=vi) (vt:=vt) (s:=s) H6.out.rl HV0.out
   have p0:=H6.out.row.cell q0
   have p1:=H6.out.row.cell q1
   have e0:=H6.out.free (2+a*2)
   have e1:=H6.out.free (2+a*2+1)
   obtain⟨W7,hW7⟩:∃W,((W6.setCell ⟨g,2+a*2,none⟩ (.int .u64 (lo V))).setCell ⟨g,2+a*2+1,none⟩ (.int .u64 (hi V))).drew=W:=⟨_,rfl⟩
   have HW7:=aa hW7
   have hg7:W6.grownBy W7 (some g):=by rw[<-hW7];exact be (aS (aS (World.grownBy.refl W6 _) _ _) _ _) 1
   obtain⟨ka,ki,kt,kg⟩:=H6.out.keptG hg7
   have hCS:=Co.setR_in s.c har V
   have H7:=aa (show WmAt W7 g Al T0 vf vs (.slice A1 s.mem.bs.length c1) (.slice A2 s.mem.bs.length c2) (.int .i64 (s.mem.sp:Int)) vi vt (R.set a V) { s with c:=s.c.setR (a:Int) V } from⟨by
    have h1:=((H6.out.row.set_ (2+a*2) (.int .u64 (lo V))).set_ (2+a*2+1) (.int .u64 (hi V))).drew
    rw[pO H6.out.rl har] at h1
    rw[<-hW7,hCS]
    exact h1,by rw[List.length_set];exact H6.out.rl,ka,by rw[hCS];exact ki,by rw[hCS];exact kt,fun _=>⟨by rw[hCS,hRR],(kg hend).2⟩⟩)
   have G7:=aa ((aG B6.out (some g)).trans hg7)
   clear hW7 hg7 ka ki kt kg hCS q0 q1
   go_upto_region 13 with(first|go_region)
   rw[HW7.out]
   clear HW7 x1 u0 u1 p0 p1 e0 e1
   go_wp2_with fail
   go_ret
   exact⟨rfl,⟨_,_,_,_,_,_,_,H7.out⟩,G7.out⟩
  | false=>
   go_wp2_with fail
   refine(gz 3 W6 H6).mono ?_
   rintro e w7 ⟨rfl,h7,g7⟩
   have H7:=aa h7
   have G7:=aa ((aG B6.out (some g)).trans g7)
   clear h7 g7
   go_wp2_with fail
   go_ret
   refine⟨rfl,?_,G7.out⟩
   obtain⟨e1,e2,e3,e4,e5,e6,e7⟩:=s.c.setR_keeps (a:Int) V
   exact⟨_,_,_,_,_,_,_,H7.out.same rfl rfl rfl rfl e1 rfl e3 e4 e5 e6⟩
end
end Go.Proofs.YtjbgepjdohfhkaaGreat
