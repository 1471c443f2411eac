/- The contract of the reference's Baseline (chapter 24): the plain layout of a function. Conditions: what holds of a right program of at most 6 slots a function; the -/
import Derived.Test.YtjbgepjdohfhkaaGreatMMrrw
set_option linter.unusedVariables false
set_option linter.unusedSimpArgs false
set_option maxRecDepth 100000
set_option maxHeartbeats 4000000
namespace Go.Proofs.YtjbgepjdohfhkaaGreat
open Go.RowKit
def nr (a:Int) (sl:List (Int×Int)) (al:Int) (w:World) (e:Ending) (w':World):Prop:=
 ∃(A:Option Addr) (c:Nat),e=.returned (.tuple #[mv a (upM (aZ a sl).2 al) A sl.length c,.int .i64 0])/\w'.ownsRow w.heap.size 3 1 (.slice A sl.length c) sl.length (bQ (aZ a sl).1)/\Below w.heap.size w w'
theorem m7 (zs:List Int):∀u∈bQ zs,u.oneCell'=true:=by
 intro u hu
 simp only[bQ,List.mem_map] at hu
 obtain⟨z,_,rfl⟩:=hu
 rfl
theorem qh (zs:List Int) (z:Int):bQ (zs++[z])=bQ zs++[.int .i64 z]:=by simp[bQ]
theorem cY {w:World} {b b':Nat} {t:TypeId} {size:Nat} {v:Value} {n:Nat} {xs:List Value} (h:w.ownsRow b t size v n xs) (hb:b'<=b):w.ownsRow b' t size v n xs:=by
 refine⟨h.1,?_⟩
 rcases h.2 with h2|⟨g,cap,cur,h1,h3,h4⟩
 ·exact .inl h2
 ·exact .inr ⟨g,cap,cur,h1,by omega,h4⟩
theorem nH (A:Option Addr) (n c:Nat) (hs:List Hd) (F:Pg) (lo B i:Nat) (f:Fn) (al:Int) (w:World) (H:Hid (PgAt w lo B A n c hs F)) (hB:B<=w.heap.size) (hf:Hid (F[i]?=some f)) (hok:Hid (lD F f.code)) (hsl:Hid (∀u∈f.slots,cH u.1 u.2=true)) (h6:f.slots.length<=6) (hal:Hid (aR al=true)) :
  Calls Tryz.prog 36 #[gv A n c,.int .i64 (i:Int),.int .i64 al] w (nr (bB F f.code*16) f.slots al w):=by
 obtain⟨i0,hi,hz0,hz1,hz2⟩:=info_parts Tryz.info3
 have hin:i<n:=by rw[<-H.out.len];exact(List.getElem?_eq_some_iff.1 hf.out).1
 obtain⟨b,off,P,A1,n1,c1,A2,n2,c2,f',rfl,hb,e1,-,h,p0,p1,p2⟩:=lC H.out hin
 obtain rfl:f'=f:=by rw[hf.out] at e1;injection e1 with e1;exact e1.symm
 clear e1
 have hn:=H.out.cap.2.2
 have HL:=aa (show f'.slots.length=n1 from h.l1)
 have HSL:=aa h.s1
 have hab:=ld hok.out f'.code.length
 rw[List.take_of_length_le (Nat.le_refl _)] at hab
 have ca:=fun W (hb:Below w.heap.size w W)=>nI (some ⟨b,off,none⟩) n c hs F lo B i f' W (aa (H.out.below (hb.mono hB))) (Nat.le_trans hB hb.size) hf hok
 obtain⟨a,ha⟩:∃a,bB F f'.code*16=a:=⟨_,rfl⟩
 simp only[ha] at ca
 rw[ha]
 have ha0:0<=a/\a<=128:=by omega
 have CA:=aa ca
 have hbw:b<w.heap.size:=by omega
 obtain⟨W2,hW2,hb2,hs2,r0,r1⟩:=fx w [.slice (some ⟨b,off,none⟩) n c] [.int .i64 0,.int .i64 0,.slice none 0 0] 79 102
 have HW2:=aa hW2
 have HB2:=aa hb2
 have HS2:=aa hs2
 have R0:=aa r0
 have R1:=aa r1
 have t0:=r0.cell (k:=0) rfl
 have hiz:(0:Int)<=(i:Int):=by omega
 have hiz':(i:Int)<(n:Int):=by omega
 have ALB:=aa (ed hal.out)
 clear hW2 hb2 hs2 r0 r1 h ca hab ha
 go_enter Tryz.func36,Tryz.ntmps36
 go_upto_region 1 with(fail)
 rw[HW2.out]
 clear HW2
 go_upto_region 2 with(go_at_call 55;refine(CA.out _ HB2.out).mono ?_;rintro e W3 ⟨rfl,hb3⟩)
 obtain⟨W4,hW4⟩:∃V,W3.alloc (.cells #[.int .i64 a,.int .i64 0,.slice none 0 0] 102)=V:=⟨_,rfl⟩
 have RP4:=aa (show Row W4 w.heap.size 79 [.slice (some ⟨b,off,none⟩) n c] by rw[<-hW4];exact(R0.out.call hb3).alloc _)
 have RR4:=aa (show Row W4 (w.heap.size+1) 102 [.int .i64 0,.int .i64 0,.slice none 0 0] by rw[<-hW4];exact(R1.out.call hb3).alloc _)
 have RL4:=aa (show Row W4 W3.heap.size 102 [.int .i64 a,.int .i64 0,.slice none 0 0] by rw[<-hW4];exact Row.new W3 _ _)
 have HB4:=aa (show Below w.heap.size w W4 by rw[<-hW4];have h:=ac HB2.out hb3;exact h.alloc h.size _)
 have HS4:=aa (show w.heap.size+1<W3.heap.size by have:=HS2.out;have:=hb3.size;omega)
 rw[hW4]
 obtain⟨g,hg⟩:∃g,W3.heap.size=g:=⟨_,rfl⟩
 rw[hg] at RL4 HS4⊢
 clear hW4 hg hb3 t0 R0 R1 HB2 HS2 CA
 have l0:=RL4.out.cell (k:=0) rfl
 have t0:=RP4.out.cell (k:=0) rfl
 have q1:=(HB4.out.cell (p:=⟨b,off+i*3+1,none⟩) hbw).trans p1
 clear p0 p1 p2
 go_wp2_with fail
 clear l0 t0 q1
 go_loopw [9,11] (fun m s wr=>∃(k:Nat) (x:Int) (A':Option Addr) (c':Nat),k<=n1/\s=.int .i64 k/\m=.int .i64 x/\Hid (x=(aZ a (f'.slots.take k)).2)/\Hid (wr.ownsRow W4.heap.size 3 1 (.slice A' k c') k (bQ (aZ a (f'.slots.take k)).1))/\Hid (Row wr g 102 [.int .i64 a,.int .i64 0,.slice A' k c'])/\Hid (Row wr (w.heap.size+1) 102 [.int .i64 0,.int .i64 0,.slice none 0 0])/\Hid (Below w.heap.size w wr)/\Hid (W4.heap.size<=wr.heap.size)) (fun _ s _=>n1-(intOf s).toNat)
 case atStart=>exact⟨0,a,none,0,by omega,rfl,rfl,aa rfl,aa (World.ownsRow_nil _ _ _ _),RL4,RR4,HB4,aa (Nat.le_refl _)⟩
 case round=>
  obtain⟨k,x,A',c',hk,rfl,rfl,hx,hown,hrl,hrr,hbr,hsz⟩:=hrel
  have hx1:=jq ha0 hsl.out k (by have:=HL.out;omega)
  rw[<-hx.out] at hx1
  have hx2:x<=128+6*16777232:=by have:=HL.out;omega
  have hx0:0<=x:=by omega
  clear hx1
  by_cases hlt:k<n1
  ·have hkl:k<f'.slots.length:=by have:=HL.out;omega
   have HN:=aa (iS a f'.slots k hkl)
   have hsb:=hsl.out _ (List.getElem_mem hkl)
   obtain⟨bb,oo,rfl,hbb,y0,y1⟩:=fo (HSL.out.below (hbr.out.mono hB)) hkl
   obtain⟨z,hz⟩:∃z,f'.slots[k]=z:=⟨_,rfl⟩
   rw[hz] at HN hsb y0 y1
   obtain⟨s,al2⟩:=z
   simp only at y0 y1 hsb
   unfold cH at hsb
   simp only[Bool.and_eq_true] at hsb
   obtain⟨s0,s1⟩:=iF hsb.1
   have hp2:=ed hsb.2
   have hu:=fz x (show 0<al2 by omega)
   have cu:=qn x al2
   have hup:=oh (n:=x) (a:=al2) (gD.2 ⟨by omega,by omega⟩) hsb.2 (by omega)
   rw[hup.1,hup.2] at cu
   have HN2:=aa (show aZ a (f'.slots.take (k+1))=((aZ a (f'.slots.take k)).1++[upM x al2],upM x al2+s) by rw[HN.out];unfold mm;rw[<-hx.out])
   obtain⟨at_,hat⟩:∃v,upM x al2=v:=⟨_,rfl⟩
   rw[hat] at cu HN2 hu
   have hkz:(0:Int)<=(k:Int):=by omega
   have hkz':(k:Int)<(n1:Int):=by omega
   have hng:¬(2147483519-s<at_):=by omega
   have hng':decide (2147483519-s<at_)=false:=decide_eq_false hng
   have l2:=hrl.out.cell (k:=2) rfl
   obtain⟨A8,c8,e8,hA8,hc8,-,hs8⟩:=aW hown.out
   injection e8 with e8a _ e8c
   subst e8a e8c
   have HA8:=aa hA8
   have HC8:=aa hc8
   have HS8:=aa hs8
   have HLN:=aa (show(bQ (aZ a (f'.slots.take k)).1).length=k*1 by rw[og,jp a f'.slots k (by omega)];omega)
   clear hz hsb hup hat hp2 hA8 hc8 hs8
   go_upto_region 10 with(go_at_call 56;refine(cu _).mono ?_;rintro e w' ⟨rfl,rfl⟩)
   have y0':=y0
   have hbs:=aa (show B<=wr.heap.size from Nat.le_trans hB hbr.out.size)
   go_wp2_with (at_builtin;refine bE rfl (.const (.slice none 0 0)) (.tmp 59) 87 rfl wr.heap.size 3 i0 (.int .i64 0) 1 8 Tryz.underlying87 hi hz0 hz1 hz2 rfl (by decide) (.slice none 0 0) 0 [] rfl (World.ownsRow_nil _ _ _ _) wr.heap.size A' k c' (bQ (aZ a (f'.slots.take k)).1) rfl HA8 HLN HS8 HC8 (m7 _) (by unfold maxLen;omega) (by omega) (Nat.le_refl _) ?_)
   intro v1 w6 ho0 hG1
   have ho1:w6.ownsRow wr.heap.size 3 1 v1 k (bQ (aZ a (f'.slots.take k)).1):=by simpa using ho0
   clear ho0
   have hbase7:wr.heap.size<=(w6.alloc (.cells #[.int .i64 at_] 3)).heap.size:=Nat.le_trans hG1.size (by simp)
   have hcel:=fun(j:Nat) (u:Value) (hu:([.int .i64 at_]:List Value)[j]?=some u)=>(show(w6.alloc (.cells #[.int .i64 at_] 3)).cell? ((⟨w6.heap.size,0,none⟩:Addr).add j)=some u by rw[WideShapes.add_plain,Nat.zero_add];exact(Row.new w6 3 [.int .i64 at_]).cell hu)
   have hone:∀u∈([.int .i64 at_]:List Value),u.oneCell'=true:=m7 [at_]
   go_wp2_with (at_builtin;refine wpList_append_own _ rfl (.tmp 60) (.tmp 62) 87 rfl wr.heap.size 3 i0 (.int .i64 0) 1 8 Tryz.underlying87 hi hz0 hz1 hz2 rfl (by decide) v1 k (bQ (aZ a (f'.slots.take k)).1) rfl (ho1.alloc _) ⟨w6.heap.size,0,none⟩ 1 1 [.int .i64 at_] rfl rfl hcel hone (by unfold maxLen;omega) (by omega) hbase7 ?_)
   intro v2 w7 ho2 hg2 _
   have HG7:Hid (wr.grownBy w7 none):=aa ((hG1.trans (World.grownBy_alloc _ _ _)).andThen hg2 (fun k hk=>.inl (ho1.lt k hk).1))
   rw[<-qh] at ho2
   obtain⟨A7,c7,rfl,-,-,-,-⟩:=aW ho2
   have RL7:=aa (hrl.out.grown HG7.out (fun e=>by cases e))
   have RR7:=aa (hrr.out.grown HG7.out (fun e=>by cases e))
   have B7:=aa (hbr.out.grown HG7.out hbr.out.size (fun k hk=>by cases hk))
   have y07:=(World.cell?_of_block (HG7.out.block bb (by have:=hbs.out;omega) (fun e=>by cases e))).trans y0
   have l2f:=RL7.out.free 2
   have l2c:=RL7.out.cell (k:=2) rfl
   clear l2 y0 y1 y0'
   go_upto_region 12 with(fail)
   obtain⟨W8,hW8⟩:∃V,w7.setCell ⟨g,2,none⟩ (.slice A7 (k+1) c7)=V:=⟨_,rfl⟩
   have RL8:=aa (show Row W8 g 102 [.int .i64 a,.int .i64 0,.slice A7 (k+1) c7] by rw[<-hW8];exact RL7.out.set_ 2 _)
   have RR8:=aa (show Row W8 (w.heap.size+1) 102 [.int .i64 0,.int .i64 0,.slice none 0 0] by rw[<-hW8];exact RR7.out.far (p:=⟨g,2,none⟩) (by have:=HS4.out;simp;omega) _)
   have B8:=aa (show Below w.heap.size w W8 by rw[<-hW8];exact B7.out.setCell (p:=⟨g,2,none⟩) (by have:=HS4.out;simp;omega) _)
   have O8:=aa (show W8.ownsRow W4.heap.size 3 1 (.slice A7 (k+1) c7) (k+1) (bQ (aZ a (f'.slots.take (k+1))).1) by
    rw[<-hW8,HN2.out]
    exact cY (ownsRow_setCell_below ho2 (a:=⟨g,2,none⟩) (by have:=RL4.out.lt;have:=hsz.out;simp;omega) _) hsz.out)
   have Z8:=aa (show W4.heap.size<=W8.heap.size by rw[<-hW8];have:=HG7.out.size;have:=hsz.out;simp[World.setCell];omega)
   have y08:W8.cell? ⟨bb,oo+k*2,none⟩=some (.int .i64 s):=by rw[<-hW8];exact(World.cell?_setCell_other _ _ _ _ (fun e=>by have:=HS4.out;injection e with e;omega)).trans y07
   rw[hW8]
   clear hW8 y07 l2f l2c RL7 RR7 B7 ho2 ho1 hG1 hg2 HG7
   have HX2:=aa (show at_+s=(aZ a (f'.slots.take (k+1))).2 by rw[HN2.out])
   have e16:IntKind.i64.wrap (at_+s)=at_+s:=wrap_i64 _ (by omega) (by omega)
   go_wp2_with fail
   go_roundw
   case rel=>exact⟨k+1,_,A7,c7,by omega,by go_num,rfl,HX2,O8,RL8,RR8,B8,Z8⟩
   case measure=>simp[intOf];omega
  ·obtain rfl:k=n1:=by omega
   have HT:=aa (show f'.slots.take k=f'.slots by rw[List.take_of_length_le (by have:=HL.out;omega)])
   have HX:=aa (show x=(aZ a f'.slots).2 by rw[hx.out,HT.out])
   have hau:=ALB.out
   have hu:=fz x (show 0<al by omega)
   have cu:=qn x al
   have hup:=oh (n:=x) (a:=al) (gD.2 ⟨by omega,by omega⟩) hal.out (by omega)
   rw[hup.1,hup.2] at cu
   obtain⟨sz,hsze⟩:∃v,upM x al=v:=⟨_,rfl⟩
   rw[hsze] at cu hu
   have HZ:=aa (show upM (aZ a f'.slots).2 al=sz by rw[<-HX.out,hsze])
   have hng:¬(2147483519<sz):=by omega
   have hng':decide (2147483519<sz)=false:=decide_eq_false hng
   clear hup hsze hu hau
   have l1f:=hrl.out.free 1
   have l1c:=hrl.out.cell (k:=1) rfl
   go_upto_region 17 with(go_at_call 56;refine(cu _).mono ?_;rintro e w' ⟨rfl,rfl⟩)
   obtain⟨W8,hW8⟩:∃V,wr.setCell ⟨g,1,none⟩ (.int .i64 sz)=V:=⟨_,rfl⟩
   have RL8:=aa (show Row W8 g 102 [.int .i64 a,.int .i64 sz,.slice A' k c'] by rw[<-hW8];exact hrl.out.set_ 1 _)
   have RR8:=aa (show Row W8 (w.heap.size+1) 102 [.int .i64 0,.int .i64 0,.slice none 0 0] by rw[<-hW8];exact hrr.out.far (p:=⟨g,1,none⟩) (by have:=HS4.out;simp;omega) _)
   have B8:=aa (show Below w.heap.size w W8 by rw[<-hW8];exact hbr.out.setCell (p:=⟨g,1,none⟩) (by have:=HS4.out;simp;omega) _)
   have O8:=aa (show W8.ownsRow W4.heap.size 3 1 (.slice A' k c') k (bQ (aZ a f'.slots).1) by
    rw[<-hW8,<-HT.out]
    exact ownsRow_setCell_below hown.out (a:=⟨g,1,none⟩) (by have:=RL4.out.lt;simp;omega) _)
   rw[hW8]
   clear hW8 l1f l1c
   have u0:=RL8.out.cell (k:=0) rfl
   have u1:=RL8.out.cell (k:=1) rfl
   have u2:=RL8.out.cell (k:=2) rfl
   have v0:=RR8.out.cell (k:=0) rfl
   have v1:=RR8.out.cell (k:=1) rfl
   have v2:=RR8.out.cell (k:=2) rfl
   have z0:=RR8.out.free 0
   have z1:=RR8.out.free 1
   have z2:=RR8.out.free 2
   go_wp2_with fail
   obtain⟨W9,hW9⟩:∃V,((W8.setCell ⟨w.heap.size+1,0,none⟩ (.int .i64 a)).setCell ⟨w.heap.size+1,1,none⟩ (.int .i64 sz)).setCell ⟨w.heap.size+1,2,none⟩ (.slice A' k c')=V:=⟨_,rfl⟩
   have R9:Row W9 (w.heap.size+1) 102 [.int .i64 a,.int .i64 sz,.slice A' k c']:=by rw[<-hW9];exact((RR8.out.set_ 0 _).set_ 1 _).set_ 2 _
   have B9:Below w.heap.size w W9:=by rw[<-hW9];exact((B8.out.setCell (p:=⟨w.heap.size+1,0,none⟩) (by simp) _).setCell (p:=⟨w.heap.size+1,1,none⟩) (by simp) _).setCell (p:=⟨w.heap.size+1,2,none⟩) (by simp) _
   have hl4:=RR4.out.lt
   have O9:W9.ownsRow w.heap.size 3 1 (.slice A' k c') k (bQ (aZ a f'.slots).1):=by
    rw[<-hW9]
    exact cY (ownsRow_setCell_below (ownsRow_setCell_below (ownsRow_setCell_below O8.out (a:=⟨w.heap.size+1,0,none⟩) (by simp;omega) _) (a:=⟨w.heap.size+1,1,none⟩) (by simp;omega) _) (a:=⟨w.heap.size+1,2,none⟩) (by simp;omega) _) (by omega)
   rw[hW9]
   have k0:=R9.cell (k:=0) rfl
   have k1:=R9.cell (k:=1) rfl
   have k2:=R9.cell (k:=2) rfl
   refine bodyPost_ret (v:=.tuple #[mv a sz A' k c',.int .i64 0]) (by simp[results,Tryz.results36,go_sem,k0,k1,k2]) rfl ?_
   unfold nr
   rw[HL.out,HZ.out]
   exact⟨A',c',rfl,O9,B9⟩
structure LowPg (F:Pg):Prop where
 few:F.length<=80
 arg:∀f∈F,lD F f.code
 slot:∀f∈F,∀u∈f.slots,cH u.1 u.2=true
 six:∀f∈F,f.slots.length<=6
structure LyRow (w:World) (base:Nat) (y:Fd) (F:Pg) (f:Fn) (al:Int):Prop where
 p:y.p=bB F f.code*16
 s:y.s=upM (aZ (bB F f.code*16) f.slots).2 al
 n:y.n=f.slots.length
 row:w.ownsRow base 3 1 (.slice y.a y.n y.c) y.n (bQ (aZ (bB F f.code*16) f.slots).1)
def fW (w:World) (base:Nat) (ys:List Fd) (F:Pg) (al:Int):Prop:=∀(j:Nat) (y:Fd) (f:Fn),ys[j]?=some y->F[j]?=some f->LyRow w base y F f al
theorem gJ {w:World} {b b':Nat} {t t':TypeId} {size size':Nat} {v v':Value} {n n':Nat} {xs xs':List Value} (h:w.ownsRow b t size v n xs) (h':w.ownsRow b' t' size' v' n' xs') (ht:t≠t'):v.ownBlock=none\/v.ownBlock≠v'.ownBlock:=by
 rcases ho:v.ownBlock with _|k
 ·exact .inl rfl
 ·refine .inr fun e=>?_
  rcases h.2 with⟨h1,_⟩|⟨g,cap,cur,h1,_,h2,_⟩
  ·rw[h1] at ho;cases ho
  ·rcases h'.2 with⟨h3,_⟩|⟨g',cap',cur',h3,_,h4,_⟩
   ·rw[h3] at e;cases e
   ·rw[h1] at ho
    rw[h3] at e
    have e1:g=k:=by simpa[Value.ownBlock] using ho
    have e2:g'=k:=by simpa[Value.ownBlock] using e.symm
    subst e1 e2
    rw[h2] at h4
    injection h4 with h4
    injection h4 with _ h5
    exact ht h5
theorem LyRow.kept {w w':World} {base:Nat} {y:Fd} {F:Pg} {f:Fn} {al:Int} {row:Option Nat} (h:LyRow w base y F f al) (hg:w.grownBy w' row) (hne:(Value.slice y.a y.n y.c).ownBlock=none\/(Value.slice y.a y.n y.c).ownBlock≠row):LyRow w' base y F f al:=⟨h.p,h.s,h.n,h.row.kept hg hne⟩
theorem LyRow.call {w w':World} {base:Nat} {y:Fd} {F:Pg} {f:Fn} {al:Int} (h:LyRow w base y F f al) (hb:Below w.heap.size w w'):LyRow w' base y F f al:=h.kept (aG hb none) (by
 rcases ho:(Value.slice y.a y.n y.c).ownBlock with _|k
 ·exact .inl rfl
 ·exact .inr (fun e=>by cases e))
theorem fW.call {w w':World} {base:Nat} {ys:List Fd} {F:Pg} {al:Int} (h:fW w base ys F al) (hb:Below w.heap.size w w'):fW w' base ys F al:=fun j y f e1 e2=>(h j y f e1 e2).call hb
theorem fW.kept {w w':World} {base:Nat} {ys:List Fd} {F:Pg} {al:Int} (h:fW w base ys F al) {b':Nat} {t':TypeId} {size':Nat} {v':Value} {n':Nat} {xs':List Value} (h':w.ownsRow b' t' size' v' n' xs') (ht:3≠t') (hg:w.grownBy w' v'.ownBlock):fW w' base ys F al:=fun j y f e1 e2=>(h j y f e1 e2).kept hg (gJ (h j y f e1 e2).row h' ht)
theorem Tryz.info102:(Tryz.prog.info? 102).map (fun i=>(i.zero,i.size,i.bytes))=some (some (.agg #[.int .i64 0,.int .i64 0,.slice none 0 0]),3,40):=by kernel_rfl
def zA (F:Pg) (al:Int) (n:Nat) (w:World) (e:Ending) (w':World):Prop:=
 ∃(A:Option Addr) (c:Nat) (ys:List Fd),e=.returned (.tuple #[.slice A n c,.int .i64 0])/\w'.ownsRow w.heap.size 102 3 (.slice A n c) n (aV ys)/\ys.length=n/\fW w' w.heap.size ys F al/\Below w.heap.size w w'
theorem fW.lower {w:World} {base base':Nat} {ys:List Fd} {F:Pg} {al:Int} (h:fW w base ys F al) (hb:base'<=base):fW w base' ys F al:=fun j y f e1 e2=>⟨(h j y f e1 e2).p,(h j y f e1 e2).s,(h j y f e1 e2).n,cY (h j y f e1 e2).row hb⟩
theorem rq (A:Option Addr) (n c:Nat) (hs:List Hd) (F:Pg) (lo B:Nat) (al:Int) (w:World) (H:Hid (PgAt w lo B A n c hs F)) (hB:B<=w.heap.size) (hF:Hid (LowPg F)) (hal:Hid (aR al=true)) :
  Calls Tryz.prog 24 #[gv A n c,.int .i64 al] w (zA F al n w):=by
 obtain⟨i0,hi,hz0,hz1,hz2⟩:=info_parts Tryz.info102
 have HL:=aa H.out.len
 have h80:n<=80:=by have:=hF.out.few;have:=HL.out;omega
 have hb1:=ag w (.cells #[.slice A n c] 79)
 have R0:=Row.new w 79 [.slice A n c]
 obtain⟨W1,hW1⟩:∃V,w.alloc (.cells #[.slice A n c] 79)=V:=⟨_,rfl⟩
 rw[show([.slice A n c]:List Value).toArray=#[.slice A n c] from rfl,hW1] at R0
 rw[hW1] at hb1
 have HW1:=aa hW1
 have HB1:=aa hb1
 have HR0:=aa R0
 clear hW1 hb1 R0
 go_enter Tryz.func24,Tryz.ntmps24
 go_upto_region 1 with(fail)
 rw[HW1.out]
 clear HW1
 go_wp2_with fail
 go_loopw [6,7] (fun v s wr=>∃(k:Nat) (A':Option Addr) (c':Nat) (ys:List Fd),k<=n/\s=.int .i64 k/\v=.slice A' k c'/\Hid (ys.length=k)/\Hid (wr.ownsRow W1.heap.size 102 3 (.slice A' k c') k (aV ys))/\Hid (fW wr W1.heap.size ys F al)/\Hid (Below W1.heap.size W1 wr)) (fun _ s _=>n-(intOf s).toNat)
 case atStart=>exact⟨0,none,0,[],by omega,rfl,rfl,aa rfl,aa (World.ownsRow_nil _ _ _ _),aa (fun j y f e1 e2=>by simp at e1),aa (Below.refl _ _)⟩
 case round=>
  obtain⟨k,A',c',ys,hk,rfl,rfl,hyl,hown,hall,hbr⟩:=hrel
  have HBW:=aa (HB1.out.trans (hbr.out.mono HB1.out.size))
  have t0:=(HR0.out.call hbr.out).cell (k:=0) rfl
  by_cases hlt:k<n
  ·have hkl:k<F.length:=by have:=HL.out;omega
   have hx:=List.getElem?_eq_getElem hkl
   have hm:=List.getElem_mem hkl
   have cb:=nH A n c hs F lo B k F[k] al wr (aa (H.out.below (HBW.out.mono hB))) (Nat.le_trans hB HBW.out.size) (aa hx) (aa (hF.out.arg _ hm)) (aa (hF.out.slot _ hm)) (hF.out.six _ hm) hal
   have HX:=aa hx
   obtain⟨f,hf⟩:∃f,F[k]=f:=⟨_,rfl⟩
   rw[hf] at cb HX
   have CB:=aa cb
   clear cb hf hx hm
   go_upto_region 6 with(go_at_call 36;refine(CB.out).mono ?_;rintro e w3 ⟨A3,c3,rfl,ho3,hb3⟩)
   obtain⟨a,ha⟩:∃a,bB F f.code*16=a:=⟨_,rfl⟩
   obtain⟨sz,hsz⟩:∃a,upM (aZ (bB F f.code*16) f.slots).2 al=a:=⟨_,rfl⟩
   rw[ha] at hsz
   rw[ha,hsz]
   have HY:=aa (show LyRow w3 W1.heap.size ⟨a,sz,A3,f.slots.length,c3⟩ F f al from⟨ha.symm,by rw[ha,hsz],rfl,cY ho3 hbr.out.size⟩)
   obtain⟨W4,hW4⟩:∃V,w3.alloc (.cells #[.int .i64 a,.int .i64 sz,.slice A3 f.slots.length c3] 102)=V:=⟨_,rfl⟩
   have RL4:=aa (show Row W4 w3.heap.size 102 [.int .i64 a,.int .i64 sz,.slice A3 f.slots.length c3] by rw[<-hW4];exact Row.new w3 _ _)
   have hb34:Below w3.heap.size w3 W4:=by rw[<-hW4];exact ag _ _
   have HY4:=aa (HY.out.call hb34)
   have HA4:=aa ((hall.out.call hb3).call hb34)
   have HO4:Hid (W4.ownsRow W1.heap.size 102 3 (.slice A' k c') k (aV ys)):=by
    have hg:wr.grownBy W4 none:=aG (ac hb3 hb34) none
    refine aa (hown.out.kept hg ?_)
    rcases ho:(Value.slice A' k c').ownBlock with _|q
    ·exact .inl rfl
    ·exact .inr (fun e=>by cases e)
   have HB4:=aa (show Below W1.heap.size W1 W4 from ac (ac hbr.out hb3) hb34)
   rw[hW4]
   clear hW4 hb34 HY hb3 ho3 t0 CB ha hsz
   have u0:=RL4.out.cell (k:=0) rfl
   have u1:=RL4.out.cell (k:=1) rfl
   have u2:=RL4.out.cell (k:=2) rfl
   have hcel:=fun(j:Nat) (u:Value) (hu:([.int .i64 a,.int .i64 sz,.slice A3 f.slots.length c3]:List Value)[j]?=some u)=>(show(W4.alloc (.cells #[.int .i64 a,.int .i64 sz,.slice A3 f.slots.length c3] 102)).cell? ((⟨W4.heap.size,0,none⟩:Addr).add j)=some u by rw[WideShapes.add_plain,Nat.zero_add];exact(Row.new W4 102 [.int .i64 a,.int .i64 sz,.slice A3 f.slots.length c3]).cell hu)
   have hone:∀u∈([.int .i64 a,.int .i64 sz,.slice A3 f.slots.length c3]:List Value),u.oneCell'=true:=fB [⟨a,sz,A3,f.slots.length,c3⟩]
   have hbase:W1.heap.size<=(W4.alloc (.cells #[.int .i64 a,.int .i64 sz,.slice A3 f.slots.length c3] 102)).heap.size:=by have:=HB4.out.size;simp;omega
   go_wp2_with (at_builtin;refine wpList_append_own _ rfl (.tmp 27) (.tmp 29) 82 rfl W1.heap.size 102 i0 (.agg #[.int .i64 0,.int .i64 0,.slice none 0 0]) 3 40 Tryz.underlying82 hi hz0 hz1 hz2 rfl (by decide) (.slice A' k c') k (aV ys) rfl (HO4.out.alloc _) ⟨W4.heap.size,0,none⟩ 1 1 [.int .i64 a,.int .i64 sz,.slice A3 f.slots.length c3] rfl rfl hcel hone (by unfold maxLen;omega) (by omega) hbase ?_)
   intro v2 w7 ho2 hg2 _
   obtain⟨A7,c7,rfl,-,-,-,-⟩:=aW ho2
   have ho5:=HO4.out.alloc (.cells #[.int .i64 a,.int .i64 sz,.slice A3 f.slots.length c3] 102)
   have hb45:=ag W4 (.cells #[.int .i64 a,.int .i64 sz,.slice A3 f.slots.length c3] 102)
   have HA7:=aa ((HA4.out.call hb45).kept ho5 (by decide) hg2)
   have HY7:=aa ((HY4.out.call hb45).kept hg2 (gJ (HY4.out.call hb45).row ho5 (by decide)))
   have HB7:Hid (Below W1.heap.size W1 w7):=aa ((ac HB4.out hb45).grown hg2 (ac HB4.out hb45).size (fun q hq=>(ho5.lt q hq).1))
   have HO7:=aa (show w7.ownsRow W1.heap.size 102 3 (.slice A7 (k+1) c7) (k+1) (aV (ys++[⟨a,sz,A3,f.slots.length,c3⟩])) by rw[j8];exact ho2)
   have HALL:=aa (show fW w7 W1.heap.size (ys++[⟨a,sz,A3,f.slots.length,c3⟩]) F al from fun j y g e1 e2=>by
    rcases Nat.lt_or_ge j k with hj|hj
    ·rw[List.getElem?_append_left (by have:=hyl.out;omega)] at e1
     exact HA7.out j y g e1 e2
    ·rw[List.getElem?_append_right (by have:=hyl.out;omega),hyl.out] at e1
     rcases Nat.lt_or_ge (j-k) 1 with h1|h1
     ·obtain rfl:j=k:=by omega
      simp at e1
      subst e1
      rw[HX.out] at e2
      injection e2 with e2
      subst e2
      exact HY7.out
     ·rw[List.getElem?_eq_none (by simpa using h1)] at e1;cases e1)
   clear ho2 hg2 ho5 hb45 u0 u1 u2
   go_wp2_with fail
   go_roundw
   case rel=>exact⟨k+1,A7,c7,_,by omega,by go_num,rfl,aa (by rw[List.length_append,hyl.out];rfl),HO7,HALL,HB7⟩
   case measure=>simp[intOf];omega
  ·obtain rfl:k=n:=by omega
   go_wp2_with fail
   go_ret2
   exact⟨A',c',ys,rfl,cY hown.out HB1.out.size,hyl.out,hall.out.lower HB1.out.size,HBW.out⟩
end Go.Proofs.YtjbgepjdohfhkaaGreat
