/- The contract of the reference's Frame (chapter 26): a function lowered with its plain layout. Conditions: what holds of a right program of at most 6 slots a function. -/
import Derived.Test.YtjbgepjdohfhkaaGreatMMlin
import Derived.Test.YtjbgepjdohfhkaaGreatMMbas
set_option linter.unusedVariables false
set_option linter.unusedSimpArgs false
set_option maxRecDepth 100000
set_option maxHeartbeats 4000000
namespace Go.Proofs.YtjbgepjdohfhkaaGreat
open Go.RowKit
def aN (F:Pg) (al:Int) (f:Fn):Fm:=⟨f.params,upM (aZ (bB F f.code*16) f.slots).2 al,f.code.map (cU (aZ (bB F f.code*16) f.slots).1 f.slots (upM (aZ (bB F f.code*16) f.slots).2 al))⟩
theorem Tryz.info50'':(Tryz.prog.info? 50).map (fun i=>(i.zero,i.size,i.bytes))=some (some (.agg #[.int .i64 0,.int .i64 0,.int .i64 0,.int .i64 0,.int .u64 0]),5,40):=by kernel_rfl
def nn (F:Pg) (al:Int) (f:Fn) (w:World) (e:Ending) (w':World):Prop:=
 ∃(A:Option Addr) (c:Nat),e=.returned (mv (aN F al f).params (aN F al f).size A f.code.length c)/\w'.ownsRow w.heap.size 50 5 (.slice A f.code.length c) f.code.length (au (aN F al f).code)/\Below w.heap.size w w'
theorem map_take {α β:Type} (g:α->β) (l:List α) (k:Nat) (hk:k<l.length):(l.take (k+1)).map g=(l.take k).map g++[g l[k]]:=by
 rw[kQ hk,List.map_append];rfl
theorem dJ {w w':World} {b:Nat} {t:TypeId} {size:Nat} {v:Value} {n:Nat} {xs:List Value} (h:w.ownsRow b t size v n xs) (hb:Below w.heap.size w w'):w'.ownsRow b t size v n xs:=h.kept (aG hb none) (by
 rcases ho:v.ownBlock with _|q
 ·exact .inl rfl
 ·exact .inr (fun e=>by cases e))
theorem wE (A:Option Addr) (n c:Nat) (hs:List Hd) (F:Pg) (lo B i:Nat) (f:Fn) (al:Int) (y:Fd) (B2:Nat) (w:World) (H:Hid (PgAt w lo B A n c hs F)) (hB:B<=w.heap.size) (hf:Hid (F[i]?=some f)) (hS:0<=y.s/\y.s<=268435456)
  (hlow:Hid (∀x∈f.code,iN f.slots.length x)) (hlong:f.code.length<=1024)
  (hy:Hid (y.s=(aN F al f).size/\y.n=f.slots.length)) (hlen:Hid ((aZ (bB F f.code*16) f.slots).1.length=f.slots.length)) (hsee:Hid (an w B2 y.a (bQ (aZ (bB F f.code*16) f.slots).1))) (hB2:B2<=w.heap.size) :
  Calls Tryz.prog 38 #[gv A n c,.int .i64 (i:Int),mv y.p y.s y.a y.n y.c] w (nn F al f w):=by
 obtain⟨i0,hi,hz0,hz1,hz2⟩:=info_parts Tryz.info50''
 have hin:i<n:=by rw[<-H.out.len];exact(List.getElem?_eq_some_iff.1 hf.out).1
 obtain⟨b,off,P,A1,n1,c1,A2,n2,c2,f',rfl,hb,e1,-,h,p0,p1,p2⟩:=lC H.out hin
 obtain rfl:f'=f:=by rw[hf.out] at e1;injection e1 with e1;exact e1.symm
 clear e1
 have hn:=H.out.cap.2.2
 have HP:=aa (show P=f'.params from h.p)
 have HL1:=aa (show f'.slots.length=n1 from h.l1)
 have HL2:=aa (show f'.code.length=n2 from h.l2)
 have HSL:=aa h.s1
 have HSC:=aa h.s2
 obtain⟨yp,ys,yA,yn,yc⟩:=y
 obtain⟨hy2,hy3⟩:=hy.out
 simp only at hy2 hy3 hsee hS
 change Calls Tryz.prog 38 #[gv (some ⟨b,off,none⟩) n c,.int .i64 (i:Int),mv yp ys yA yn yc] w _
 obtain⟨os,hos⟩:∃a,(aZ (bB F f'.code*16) f'.slots).1=a:=⟨_,rfl⟩
 have HCODE:=aa (show(aN F al f').code=f'.code.map (cU os f'.slots ys) by unfold aN at hy2⊢;simp only at hy2⊢;rw[hos,<-hy2])
 have HPS:=aa (show(aN F al f').params=P/\(aN F al f').size=ys from⟨HP.out.symm,hy2.symm⟩)
 rw[hos] at hsee hlen
 have hyn:yn=n1:=by rw[hy3];exact HL1.out
 subst hyn
 have HLO:=aa (show os.length=yn by rw[hlen.out];exact HL1.out)
 have hbw:b<w.heap.size:=by omega
 have hn2:n2<=1024:=by have:=HL2.out;omega
 obtain⟨S0,S1⟩:=hS
 obtain⟨W2,hW2,hb2,hst2,r0,r1,r2⟩:=eM w [.slice (some ⟨b,off,none⟩) n c] [.int .i64 yp,.int .i64 ys,.slice yA yn yc] [.int .i64 0,.int .i64 0,.slice none 0 0] 79 102 53
 have HW2:=aa hW2
 have HB2:=aa hb2
 have HS2:=aa hst2
 have R1:=aa r1
 have R2:=aa r2
 have t0:=r0.cell (k:=0) rfl
 have q0:=(hb2.cell (p:=⟨b,off+i*3,none⟩) hbw).trans p0
 have q1:=(hb2.cell (p:=⟨b,off+i*3+1,none⟩) hbw).trans p1
 have q2:=(hb2.cell (p:=⟨b,off+i*3+2,none⟩) hbw).trans p2
 have hiz:(0:Int)<=(i:Int):=by omega
 have hiz':(i:Int)<(n:Int):=by omega
 clear hW2 hb2 hst2 r0 r1 r2 h hy3 hy hos hy2 p0 p1 p2
 go_enter Tryz.func38,Tryz.ntmps38
 go_upto_region 1 with(fail)
 rw[HW2.out]
 clear HW2
 go_upto_region 2 with(fail)
 obtain⟨W4,hW4⟩:∃V,W2.alloc (.cells #[.int .i64 P,.slice A1 yn c1,.slice A2 n2 c2] 98)=V:=⟨_,rfl⟩
 have RF4:=aa (show Row W4 W2.heap.size 98 [.int .i64 P,.slice A1 yn c1,.slice A2 n2 c2] by rw[<-hW4];exact Row.new W2 _ _)
 have RY4:=aa (show Row W4 (w.heap.size+1) 102 [.int .i64 yp,.int .i64 ys,.slice yA yn yc] by rw[<-hW4];exact R1.out.alloc _)
 have RR4:=aa (show Row W4 (w.heap.size+1+1) 53 [.int .i64 0,.int .i64 0,.slice none 0 0] by rw[<-hW4];exact R2.out.alloc _)
 have HB4:=aa (show Below w.heap.size w W4 by rw[<-hW4];exact HB2.out.alloc HB2.out.size _)
 rw[hW4]
 obtain⟨g,hg⟩:∃g,W2.heap.size=g:=⟨_,rfl⟩
 rw[hg] at RF4⊢
 clear hW4 hg t0 q0 q1 q2 R1 R2 HB2 HS2
 have f2:=RF4.out.cell (k:=2) rfl
 go_wp2_with fail
 clear f2
 go_loopw [8,9] (fun v s wr=>∃(k:Nat) (A':Option Addr) (c':Nat),k<=n2/\s=.int .i64 k/\v=.slice A' k c'/\Hid (wr.ownsRow W4.heap.size 50 5 (.slice A' k c') k (au ((f'.code.take k).map (cU os f'.slots ys))))/\Hid (Below W4.heap.size W4 wr)) (fun _ s _=>n2-(intOf s).toNat)
 case atStart=>exact⟨0,none,0,by omega,rfl,rfl,aa (World.ownsRow_nil _ _ _ _),aa (Below.refl _ _)⟩
 case round=>
  obtain⟨k,A',c',hk,rfl,rfl,hown,hbr⟩:=hrel
  have HBW:=aa (HB4.out.trans (hbr.out.mono HB4.out.size))
  have f0:=(RF4.out.call hbr.out).cell (k:=0) rfl
  have f1:=(RF4.out.call hbr.out).cell (k:=1) rfl
  have f2:=(RF4.out.call hbr.out).cell (k:=2) rfl
  have y0:=(RY4.out.call hbr.out).cell (k:=0) rfl
  have y1:=(RY4.out.call hbr.out).cell (k:=1) rfl
  have y2:=(RY4.out.call hbr.out).cell (k:=2) rfl
  by_cases hlt:k<n2
  ·have hkl:k<f'.code.length:=by have:=HL2.out;omega
   have HMT:=aa (map_take (cU os f'.slots ys) f'.code k hkl)
   have hlo:=hlow.out _ (List.getElem_mem hkl)
   obtain⟨bb,oo,rfl,hbb,x0,x1,x2,x3,x4⟩:=ee (HSC.out.below (HBW.out.mono hB)) hkl
   obtain⟨z,hz⟩:∃z,f'.code[k]=z:=⟨_,rfl⟩
   rw[hz] at HMT hlo x0 x1 x2 x3 x4
   obtain⟨o,a,b',d,m⟩:=z
   simp only at x0 x1 x2 x3 x4
   obtain⟨Z,hZ⟩:∃Z,cU os f'.slots ys ⟨o,a,b',d,m⟩=Z:=⟨_,rfl⟩
   have HZ:=aa hZ
   rw[hZ] at HMT
   have hkz:(0:Int)<=(k:Int):=by omega
   have hkz':(k:Int)<(n2:Int):=by omega
   rw[HL1.out] at hlo
   have cl:∀W,Below wr.heap.size wr W->Calls Tryz.prog 58 #[fv P A1 yn c1 (some ⟨bb,oo,none⟩) n2 c2,mv yp ys yA yn yc,iv o a b' d m] W fun e w'=>e=.returned (iv Z.op Z.a Z.b Z.c Z.imm)/\Below W.heap.size W w':=fun W hW=>
    (yI P A1 yn c1 (some ⟨bb,oo,none⟩) n2 c2 yp ys yA yc o a b' d m f'.slots os w.heap.size W (Nat.le_trans HBW.out.size hW.size) (aa ⟨HL1.out,(HSL.out.below ((HBW.out.trans (hW.mono HBW.out.size)).mono hB)).more hB⟩) (aa ⟨HLO.out,(hsee.out.below ((HBW.out.trans (hW.mono HBW.out.size)).mono hB2)).more hB2⟩) ⟨S0,S1⟩ (aa hlo)).mono fun e w' ⟨h1,h2⟩=>⟨h1 Z HZ.out,h2⟩
   have CL:=aa cl
   clear hz hZ cl hlo
   go_upto_region 6 with(fail)
   go_region_law
    (first
     | (go_simp;go_at_call 58;refine(CL.out _ (Below.refl _ _).drew).mono ?_;rintro e w3 ⟨rfl,hb3⟩;have hb3':Below wr.heap.size wr w3:=(Below.refl wr.heap.size wr).drew.trans hb3;have ho3:=dJ hown.out hb3';have hb4:=(ac hbr.out hb3').alloc (ac hbr.out hb3').size (.cells #[.int .i64 Z.op,.int .i64 Z.a,.int .i64 Z.b,.int .i64 Z.c,.int .u64 Z.imm] 50);have hcel:=fun(j:Nat) (u:Value) (hu:([.int .i64 Z.op,.int .i64 Z.a,.int .i64 Z.b,.int .i64 Z.c,.int .u64 Z.imm]:List Value)[j]?=some u)=>(show(w3.alloc (.cells #[.int .i64 Z.op,.int .i64 Z.a,.int .i64 Z.b,.int .i64 Z.c,.int .u64 Z.imm] 50)).cell? ((⟨w3.heap.size,0,none⟩:Addr).add j)=some u by rw[WideShapes.add_plain,Nat.zero_add];exact(Row.new w3 50 [.int .i64 Z.op,.int .i64 Z.a,.int .i64 Z.b,.int .i64 Z.c,.int .u64 Z.imm]).cell hu);have hone:∀u∈([.int .i64 Z.op,.int .i64 Z.a,.int .i64 Z.b,.int .i64 Z.c,.int .u64 Z.imm]:List Value),u.oneCell'=true:=eL [Z];have hbase:W4.heap.size<=(w3.alloc (.cells #[.int .i64 Z.op,.int .i64 Z.a,.int .i64 Z.b,.int .i64 Z.c,.int .u64 Z.imm] 50)).heap.size:=hb4.size)
     | (refine wp_append_own _ (.tmp 22) (.tmp 31) 51 rfl W4.heap.size 50 i0 (.agg #[.int .i64 0,.int .i64 0,.int .i64 0,.int .i64 0,.int .u64 0]) 5 40 Tryz.underlying51 hi hz0 hz1 hz2 rfl (by decide) (.slice A' k c') k (au ((f'.code.take k).map (cU os f'.slots ys))) rfl (ho3.alloc _) ⟨w3.heap.size,0,none⟩ 1 1 [.int .i64 Z.op,.int .i64 Z.a,.int .i64 Z.b,.int .i64 Z.c,.int .u64 Z.imm] rfl rfl hcel hone (by unfold maxLen;omega) (by omega) hbase ?_;intro v2 w7 ho2 hg2 _;obtain⟨A7,c7,rfl,-,-,-,-⟩:=aW ho2))
   all_goals
    have HB7:=aa (hb4.grown hg2 hb4.size (fun q hq=>((ho3.alloc (.cells #[.int .i64 Z.op,.int .i64 Z.a,.int .i64 Z.b,.int .i64 Z.c,.int .u64 Z.imm] 50)).lt q hq).1))
    have HO7:=aa (show w7.ownsRow W4.heap.size 50 5 (.slice A7 (k+1) c7) (k+1) (au ((f'.code.take (k+1)).map (cU os f'.slots ys))) by rw[HMT.out,dL];first|exact ho2|(rw[List.map_take];exact ho2))
    clear ho2 hg2 ho3 hb3 hb3' hb4 hcel hone hbase
    go_wp2_with fail
    go_roundw
    case rel=>exact⟨k+1,A7,c7,by omega,by go_num,rfl,HO7,HB7⟩
    case measure=>simp[intOf];omega
  ·obtain rfl:k=n2:=by omega
   have HT:=aa (show(f'.code.take k).map (cU os f'.slots ys)=(aN F al f').code by rw[List.take_of_length_le (by have:=HL2.out;omega),HCODE.out])
   have RR5:=aa (RR4.out.call hbr.out)
   have v0:=RR5.out.cell (k:=0) rfl
   have v1:=RR5.out.cell (k:=1) rfl
   have v2:=RR5.out.cell (k:=2) rfl
   have z0:=RR5.out.free 0
   have z1:=RR5.out.free 1
   have z2:=RR5.out.free 2
   go_wp2_with fail
   obtain⟨W9,hW9⟩:∃V,((wr.setCell ⟨w.heap.size+1+1,0,none⟩ (.int .i64 P)).setCell ⟨w.heap.size+1+1,1,none⟩ (.int .i64 ys)).setCell ⟨w.heap.size+1+1,2,none⟩ (.slice A' k c')=V:=⟨_,rfl⟩
   have R9:Row W9 (w.heap.size+1+1) 53 [.int .i64 P,.int .i64 ys,.slice A' k c']:=by rw[<-hW9];exact((RR5.out.set_ 0 _).set_ 1 _).set_ 2 _
   have B9:Below w.heap.size w W9:=by rw[<-hW9];exact((HBW.out.setCell (p:=⟨w.heap.size+1+1,0,none⟩) (by simp;omega) _).setCell (p:=⟨w.heap.size+1+1,1,none⟩) (by simp;omega) _).setCell (p:=⟨w.heap.size+1+1,2,none⟩) (by simp;omega) _
   have hl4:=RR4.out.lt
   have O9:W9.ownsRow w.heap.size 50 5 (.slice A' k c') k (au (aN F al f').code):=by
    rw[<-hW9,<-HT.out]
    exact cY (ownsRow_setCell_below (ownsRow_setCell_below (ownsRow_setCell_below hown.out (a:=⟨w.heap.size+1+1,0,none⟩) (by simp;omega) _) (a:=⟨w.heap.size+1+1,1,none⟩) (by simp;omega) _) (a:=⟨w.heap.size+1+1,2,none⟩) (by simp;omega) _) (by omega)
   rw[hW9]
   have k0:=R9.cell (k:=0) rfl
   have k1:=R9.cell (k:=1) rfl
   have k2:=R9.cell (k:=2) rfl
   refine bodyPost_ret (v:=mv P ys A' k c') (by simp[results,Tryz.results38,go_sem,k0,k1,k2]) rfl ?_
   unfold nn
   rw[HPS.out.1,HPS.out.2,HL2.out]
   exact⟨A',c',rfl,O9,B9⟩
end Go.Proofs.YtjbgepjdohfhkaaGreat
