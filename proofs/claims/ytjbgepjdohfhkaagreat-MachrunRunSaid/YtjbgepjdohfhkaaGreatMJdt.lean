/- The contract of spillframedraw.Target, whole: which program was lowered, and which offsets were drawn anew. Conditions: those of the types. -/
import Derived.Test.YtjbgepjdohfhkaaGreatMDprog
set_option linter.unusedVariables false
set_option linter.unusedSimpArgs false
set_option maxRecDepth 100000
set_option maxHeartbeats 8000000
namespace Go.Proofs.YtjbgepjdohfhkaaGreat
open Go.RowKit
def gw (S:Int) (l ys:List Ins):Prop:=ys.length=l.length/\∀(k:Nat) (x y:Ins),l[k]?=some x->ys[k]?=some y->y=x\/(x.op=16/\∃t:Int,0<=t/\t+x.c<=S/\y=⟨16,t,x.b,x.c,x.imm⟩)
theorem gw.refl (S:Int) (l:List Ins):gw S l l:=⟨rfl,fun k x y h1 h2=>.inl (by rw[h1] at h2;injection h2 with h2;exact h2.symm)⟩
theorem gw.set {S:Int} {l ys:List Ins} {k:Nat} {a b d im t:Int} (h:gw S l ys) (hk:ys[k]?=some ⟨16,a,b,d,im⟩) (h0:0<=t) (h1:t+d<=S):gw S l (ys.set k ⟨16,t,b,d,im⟩):=by
 refine⟨by rw[List.length_set];exact h.1,fun j x y hx hy=>?_⟩
 by_cases hj:k=j
 ·subst hj
  have hkl:=(List.getElem?_eq_some_iff.1 hk).1
  rw[List.getElem?_set_self hkl] at hy
  injection hy with hy
  subst hy
  rcases h.2 k x _ hx hk with e|⟨ho,t',_,_,e⟩
  ·subst e
   exact .inr ⟨rfl,t,h0,h1,rfl⟩
  ·injection e with e1 e2 e3 e4 e5
   subst e3 e4 e5
   exact .inr ⟨ho,t,h0,h1,rfl⟩
 ·rw[List.getElem?_set_ne hj] at hy
  exact h.2 j x y hx hy
def gu (G0 G:Tg):Prop:=G.length=G0.length/\∀(i:Nat) (f q:Fm),G0[i]?=some f->G[i]?=some q->q.params=f.params/\q.size=f.size/\gw f.size f.code q.code
theorem gu.refl (G:Tg):gu G G:=⟨rfl,fun i f q h1 h2=>by rw[h1] at h2;injection h2 with h2;subst h2;exact⟨rfl,rfl,gw.refl _ _⟩⟩
theorem gu.set {G0 G:Tg} {i:Nat} {q:Fm} {ys:List Ins} (h:gu G0 G) (hi:G[i]?=some q) (hy:∀f,G0[i]?=some f->gw f.size f.code ys):gu G0 (G.set i ⟨q.params,q.size,ys⟩):=by
 refine⟨by rw[List.length_set];exact h.1,fun j f z hf hz=>?_⟩
 by_cases hj:i=j
 ·subst hj
  rw[List.getElem?_set_self (List.getElem?_eq_some_iff.1 hi).1] at hz
  injection hz with hz
  subst hz
  have:=h.2 i f q hf hi
  exact⟨this.1,this.2.1,hy f hf⟩
 ·rw[List.getElem?_set_ne hj] at hz
  exact h.2 j f z hf hz
def zz (funcs most g:Nat) (w:World) (e:Ending) (w':World):Prop:=
 ∃(F:Pg) (A:Option Addr) (n c:Nat) (hh:List Fd) (G:Tg),e=.returned (tv (alP F n) A n c)/\TgAt w' w.heap.size w'.heap.size A n c hh G/\1<=n/\n<=funcs/\F.length=n/\PgGood funcs most F/\aR (alP F n)=true/\16<=alP F n/\gu (F.map (aN F (alP F n))) G/\ar w' g/\w.grownBy w' (some g)
theorem yY (g funcs most:Nat) (w:World) (h:Hid (ar w g)) (hf1:1<=funcs) (hf2:funcs<=80) (hm:most<=100) :
  Calls Tryz.prog 14 #[.pointer (some ⟨g,0,none⟩),.int .i64 (funcs:Int),.int .i64 (most:Int)] w (zz funcs most g w):=by
 obtain⟨i0,hi,hz0,hz1,hz2⟩:=info_parts Tryz.info53
 obtain⟨j0,ji,jz0,jz1,jz2⟩:=info_parts Tryz.info50''
 have hgw:=h.out.lt
 have hb1:=ag w (.cells #[.int .i64 0,.slice none 0 0] 26)
 have R1:=Row.new w 26 [.int .i64 0,.slice none 0 0]
 obtain⟨W1,hW1⟩:∃V,w.alloc (.cells #[.int .i64 0,.slice none 0 0] 26)=V:=⟨_,rfl⟩
 rw[show([.int .i64 0,.slice none 0 0]:List Value).toArray=#[.int .i64 0,.slice none 0 0] from rfl,hW1] at R1
 rw[hW1] at hb1
 have HW1:=aa hW1
 have HB1:=aa hb1
 have HR1:=aa R1
 have HC1:=aa (h.out.below hb1)
 have hs1:W1.heap.size=w.heap.size+1:=by rw[<-hW1];simp
 have cp:=vV g funcs most W1 HC1 hf1 hf2 hm
 clear hW1 hb1 R1
 go_enter Tryz.func14,Tryz.ntmps14
 go_upto_region 1 with(fail)
 rw[HW1.out]
 clear HW1
 go_upto_region 2 with(go_at_call 22;refine cp.mono ?_;rintro e W2 ⟨A,n,c,hs,F,rfl,hpg,hgd,hC2,hG2⟩)
 have HL:=aa hpg.len
 obtain⟨W3,hW3⟩:∃V,W2.alloc (.cells #[.slice A n c] 79)=V:=⟨_,rfl⟩
 have HGD:=aa hgd
 have HPG:=aa (show PgAt W3 W1.heap.size W3.heap.size A n c hs F by rw[<-hW3];exact hpg.alloc _)
 have HC3:=aa (show ar W3 g by rw[<-hW3];exact hC2.alloc _)
 have HG3:=aa (show W1.grownBy W3 (some g) by rw[<-hW3];exact hG2.trans (World.grownBy_alloc _ _ _))
 have RP3:=aa (show Row W3 W2.heap.size 79 [.slice A n c] by rw[<-hW3];exact Row.new W2 _ _)
 rw[hW3]
 obtain⟨gp,hgp⟩:∃q,W2.heap.size=q:=⟨_,rfl⟩
 rw[hgp] at RP3⊢
 clear hW3 hgp hpg hgd hC2 hG2 cp
 have hn1:1<=n:=by have:=HGD.out.one;have:=HL.out;omega
 have hn2:n<=funcs:=by have:=HGD.out.few;have:=HL.out;omega
 have HLOW:=aa (mg HGD.out hf2 hm)
 obtain⟨hap,hap16⟩:=zn (F:=F) (fun f hf=>(eW.1 ((jh.1 HGD.out.err).2.2 f hf)).2.1) n (by have:=HL.out;omega)
 have ca:=pX A n c hs F W1.heap.size W3.heap.size W3 HPG (Nat.le_refl _)
 have hfok:=Aa (al:=alP F n) HGD.out hf2 hm hap
 obtain⟨al,hal⟩:∃a,alP F n=a:=⟨_,rfl⟩
 rw[hal] at ca hap hap16 hfok
 have HAL:=aa hap
 have HA2:=aa (show aR al=true/\16<=al from⟨hap,hap16⟩)
 have HALE:=aa hal
 have HFOK:=aa hfok
 have halb:=ed hap
 have p0:=RP3.out.cell (k:=0) rfl
 clear hal hap hfok
 go_upto_region 3 with(go_at_call 23;refine ca.mono ?_;rintro e W4 ⟨rfl,hb4⟩)
 have RP4:=aa (RP3.out.call hb4)
 have HPG4:=aa (HPG.out.call hb4)
 have HC4:=aa (HC3.out.below hb4)
 have HG4:=aa (HG3.out.andThen (aG hb4 none) (fun k hk=>by cases hk))
 clear p0 ca hb4 RP3 HPG HC3 HG3
 have p0:=RP4.out.cell (k:=0) rfl
 have cb:=rq A n c hs F W1.heap.size W4.heap.size al W4 HPG4 (Nat.le_refl _) (aa HLOW.out.pg) HAL
 go_upto_region 4 with(go_at_call 24;refine cb.mono ?_;rintro e W5 ⟨A2,c2,ys,rfl,hly,hyl,hall,hb5⟩)
 have RP5:=aa (RP4.out.call hb5)
 have HPG5:=aa (HPG4.out.call hb5)
 have HC5:=aa (HC4.out.below hb5)
 have HG5:=aa (HG4.out.andThen (aG hb5 none) (fun k hk=>by cases hk))
 have HLY:=aa hly
 have HYL:=aa hyl
 have HALL:=aa hall
 clear p0 cb hb5 RP4 HPG4 HC4 HG4 hly hyl hall
 have p0:=RP5.out.cell (k:=0) rfl
 have ct:=wB A n c hs F W1.heap.size W5.heap.size al A2 c2 ys W4.heap.size W5 HPG5 (Nat.le_refl _) HLOW HAL HLY HYL HALL
 go_upto_region 5 with(go_at_call 25;refine ct.mono ?_;rintro e W6 ⟨A3,c3,hh,rfl,htg,hfr,hb6⟩)
 obtain⟨W7,hW7⟩:∃V,W6.alloc (.cells #[.int .i64 al,.slice A3 n c3] 26)=V:=⟨_,rfl⟩
 have hb67:Below W6.heap.size W6 W7:=by rw[<-hW7];exact ag _ _
 have RT7:=aa (show Row W7 W6.heap.size 26 [.int .i64 al,.slice A3 n c3] by rw[<-hW7];exact Row.new W6 _ _)
 have HTG7:=aa (htg.call hb67)
 have HFR7:=aa (hfr.call hb67)
 have HC7:=aa ((HC5.out.below hb6).below hb67)
 have HG7:=aa ((HG5.out.andThen (aG hb6 none) (fun k hk=>by cases hk)).andThen (aG hb67 none) (fun k hk=>by cases hk))
 have hs5:=HG5.out.size
 have hs6:=hb6.size
 have hs7:=hb67.size
 rw[hW7]
 obtain⟨gt,hgt⟩:∃q,W6.heap.size=q:=⟨_,rfl⟩
 rw[hgt] at RT7⊢
 have hgt5:W5.heap.size<=gt:=by omega
 have hgt7:=RT7.out.lt
 clear hW7 hgt hb67 hb6 p0 ct htg hfr RP5 HPG5 HC5 HG5 HLY HYL HALL
 have t1:=RT7.out.cell (k:=1) rfl
 have HCA:=aa HTG7.out.cap.1
 have HCN:=aa HTG7.out.cap.2.1
 have HCL:=aa (show(aV hh).length=n*3 by rw[j7,HTG7.out.hd.len,HTG7.out.len])
 have HCS:=aa HTG7.out.see
 go_wp2_with (at_builtin;refine bE rfl (.const (.slice none 0 0)) (.tmp 38) 24 rfl W7.heap.size 53 i0 (.agg #[.int .i64 0,.int .i64 0,.slice none 0 0]) 3 40 Tryz.underlying24 hi hz0 hz1 hz2 rfl (by decide) (.slice none 0 0) 0 [] rfl (World.ownsRow_nil _ _ _ _) W7.heap.size A3 n c3 (aV hh) rfl HCA HCL HCS HCN (fB _) (by unfold maxLen;omega) (by omega) (Nat.le_refl _) ?_)
 intro v1 W8 ho0 hG8
 have ho1:W8.ownsRow W7.heap.size 53 3 v1 n (aV hh):=by simpa using ho0
 obtain⟨A8,c8,rfl,-,-,-,-⟩:=aW ho1
 obtain⟨Gf,rfl,hgf1,hgf2⟩:=mM ho1 (by omega)
 have HG8:=aa (HG7.out.andThen hG8 (fun k hk=>by cases hk))
 have HFR8:=aa (HFR7.out.none_ hG8)
 have HC8:=aa (HC7.out.kept hG8 (fun k hk=>by cases hk))
 have RT8:=aa (RT7.out.grown hG8 (fun e=>by cases e))
 have HO8:=aa ho1
 have hs8:=hG8.size
 have hlen0:=aa (show hh.length=n by rw[HTG7.out.hd.len,HTG7.out.len])
 have hlenG:=aa (show(F.map (aN F al)).length=n from HTG7.out.len)
 obtain⟨B7,hB7⟩:∃b,W7.heap.size=b:=⟨_,rfl⟩
 rw[hB7] at HO8 hgf1 hgt7
 obtain⟨B5,hB5⟩:∃b,W5.heap.size=b:=⟨_,rfl⟩
 rw[hB5] at HFR8 hgt5
 have hgB5:g<B5:=by omega
 have hgB7:g<B7:=by omega
 have hB57:B5<=B7:=by omega
 have hw5:w.heap.size+1<=B5:=by omega
 have hB1:W1.heap.size<=B5:=by omega
 clear ho0 ho1 t1 HCA HCN HCL HCS HTG7 HFR7 HC7 HG7 RT7 hG8 hs5 hs6 hs7 hs8 hB7 hB5
 go_wp2_with fail
 go_loopw [14] (fun s wr=>∃(i:Nat) (hh:List Fd) (G:Tg),i<=n/\s=.int .i64 i/\Hid (hh.length=n)/\Hid (G.length=n)/\Hid (wr.ownsRow B7 53 3 (.slice (some ⟨Gf,0,none⟩) n c8) n (aV hh))/\Hid (dc wr B5 hh G)/\Hid ((∀q∈G,kH q)/\gu (F.map (aN F al)) G)/\Hid (ar wr g)/\Hid (Row wr gt 26 [.int .i64 al,.slice A3 n c3])/\Hid (W1.grownBy wr (some g))/\Hid (B7<=wr.heap.size)) (fun s _=>n-(intOf s).toNat)
 case atStart=>exact⟨0,hh,_,by omega,rfl,hlen0,hlenG,HO8,HFR8,aa ⟨HFOK.out,gu.refl _⟩,HC8,RT8,HG8,aa (by omega)⟩
 case round=>
  clear hlen0 hlenG HO8 HFR8 HC8 RT8 HG8
  obtain⟨i,hh,G,hin,rfl,hhl,hgl,hfo,hfa,hok,hC,hT,hG,hsz⟩:=hrel
  by_cases hlt:i<n
  ·have hiz:(0:Int)<=(i:Int):=by omega
   have hiz':(i:Int)<(n:Int):=by omega
   have l1:i<hh.length:=by have:=hhl.out;omega
   have l2:i<G.length:=by have:=hgl.out;omega
   have hhi:=List.getElem?_eq_getElem l1
   have hgi:=List.getElem?_eq_getElem l2
   have hqo:=hok.out.1 _ (List.getElem_mem l2)
   obtain⟨hd,hhd⟩:∃x,hh[i]=x:=⟨_,rfl⟩
   obtain⟨q,hq⟩:∃x,G[i]=x:=⟨_,rfl⟩
   rw[hhd] at hhi
   rw[hq] at hgi hqo
   have HHI:=aa hhi
   have HGI:=aa hgi
   have hr:=hfa.out i hd q hhi hgi
   have HRS:=aa hr.s
   have HRN:=aa hr.n
   obtain⟨⟨f0,f1,f2⟩,-⟩:=ez hfo.out hhi
   obtain⟨A9,c9',e9,hA9,hc9,-,hsee9⟩:=aW hr.row
   injection e9 with e9a _ e9b
   rw[<-e9a] at hA9 hsee9
   rw[<-e9b] at hA9 hc9
   have HA9:=aa hA9
   have HC9:=aa hc9
   have HS9:=aa hsee9
   have HL9:=aa (show(au q.code).length=hd.n*5 by rw[iV,hr.n])
   have hm1:1<=hd.n/\hd.n<=1024:=by rw[hr.n];exact⟨hqo.2.1,hqo.2.2.1⟩
   have HQ16:=aa (show(∀x∈q.code,x.op=16->0<=x.c/\x.c<=16)/\(∀f,(F.map (aN F al))[i]?=some f->gw f.size f.code q.code) from⟨hqo.2.2.2,fun f hf=>(hok.out.2.2 i f q hf hgi).2.2⟩)
   have HQS:=aa hqo.1
   obtain⟨P,S,Ah,m,ch⟩:=hd
   simp only at f0 f1 f2 HA9 HC9 HS9 HL9 hm1 HRS HRN
   have hgfl:Gf<wr.heap.size:=(hfo.out.lt Gf rfl).2
   clear hhd hq hhi hgi hqo hr e9a e9b hA9 hc9 hsee9 l1 l2
   go_wp2_with (at_builtin;refine bE rfl (.const (.slice none 0 0)) (.tmp 50) 51 rfl wr.heap.size 50 j0 (.agg #[.int .i64 0,.int .i64 0,.int .i64 0,.int .i64 0,.int .u64 0]) 5 40 Tryz.underlying51 ji jz0 jz1 jz2 rfl (by decide) (.slice none 0 0) 0 [] rfl (World.ownsRow_nil _ _ _ _) wr.heap.size Ah m ch (au q.code) rfl HA9 HL9 HS9 HC9 (eL _) (by unfold maxLen;omega) (by omega) (Nat.le_refl _) ?_)
   intro v1 W9 ho0 hG9
   have ho1:W9.ownsRow wr.heap.size 50 5 v1 m (au q.code):=by simpa using ho0
   obtain⟨A9,c9,rfl,-,-,-,-⟩:=aW ho1
   obtain⟨Gc,rfl,hgc1,hgc2⟩:=mM ho1 (by omega)
   have HO9:=aa ho1
   have HC9:=aa (hC.out.kept hG9 (fun k hk=>by cases hk))
   have HGN9:Hid (wr.grownBy W9 (some g)):=aa ((World.grownBy.refl wr (some g)).andThen hG9 (fun k hk=>by cases hk))
   obtain⟨Bi,hBi⟩:∃b,wr.heap.size=b:=⟨_,rfl⟩
   have hsz':=hsz.out
   rw[hBi] at HO9 hgc1 hgfl hsz'
   have hgBi:g<Bi:=by omega
   clear ho0 ho1 hG9 f0 f1 f2 HA9 HS9 HL9
   go_wp2_with fail
   go_loopw [16] (fun s wx=>∃(k:Nat) (ys:List Ins),k<=m/\s=.int .i64 k/\Hid (ys.length=m)/\Hid (wx.ownsRow Bi 50 5 (.slice (some ⟨Gc,0,none⟩) m c9) m (au ys))/\Hid ((∀x∈ys,x.op=16->0<=x.c/\x.c<=16)/\(∀f,(F.map (aN F al))[i]?=some f->gw f.size f.code ys))/\Hid (ar wx g)/\Hid (wr.grownBy wx (some g))) (fun s _=>m-(intOf s).toNat)
   case atStart=>exact⟨0,q.code,by omega,rfl,aa HRN.out.symm,HO9,HQ16,HC9,HGN9⟩
   case round=>
    obtain⟨k,ys,hkm,rfl,hyl,hyo,hy16,hCx,hGx⟩:=hrel
    clear HO9 HC9 HGN9 HQ16
    have HFO:=aa (cj hfo.out hgB7 hGx.out)
    have HGW:=aa (hG.out.trans hGx.out)
    by_cases hlt2:k<m
    ·have hkz:(0:Int)<=(k:Int):=by omega
     have hkz':(k:Int)<(m:Int):=by omega
     go_wp2_with fail
     refine(a6 g 3 _ hCx (by omega) (by omega)).mono ?_
     rintro e w2 ⟨v,rfl,v0,v1,hC2,hG2,hz2⟩
     have HC2:=aa hC2
     have HY2:=aa (cj hyo.out hgBi hG2)
     have HF2:=aa (cj HFO.out hgB7 hG2)
     have HGX2:=aa (hGx.out.trans hG2)
     have hx2:Bi<=w2.heap.size:=by have:=HGX2.out.size;omega
     clear hC2 hG2 hz2 hCx hyo HFO HGW hGx
     by_cases hv:v=2
     ·subst hv
      have hky:k<ys.length:=by have:=hyl.out;omega
      have hyk:=List.getElem?_eq_getElem hky
      have hx16:=hy16.out.1 _ (List.getElem_mem hky)
      obtain⟨x,hxe⟩:∃x,ys[k]=x:=⟨_,rfl⟩
      rw[hxe] at hyk hx16
      have HYK:=aa hyk
      have HX16:=aa hx16
      obtain⟨⟨y0,y1,y2,y3,y4⟩,-⟩:=dX HY2.out hyk
      obtain⟨o,a,b,d,im⟩:=x
      simp only at y0 y1 y2 y3 y4
      have hgc2':Gc<w2.heap.size:=(HY2.out.lt Gc rfl).2
      clear hyk hx16 hxe
      go_upto_region 14 with(fail)
      obtain⟨W3,hW3⟩:∃V,w2.alloc (.cells #[.int .i64 o,.int .i64 a,.int .i64 b,.int .i64 d,.int .u64 im] 50)=V:=⟨_,rfl⟩
      have hb23:Below w2.heap.size w2 W3:=by rw[<-hW3];exact ag _ _
      have RX3:=aa (show Row W3 w2.heap.size 50 [.int .i64 o,.int .i64 a,.int .i64 b,.int .i64 d,.int .u64 im] by rw[<-hW3];exact Row.new w2 _ _)
      have HY3:=aa (dJ HY2.out hb23)
      have HF3:=aa (dJ HF2.out hb23)
      have HC3:=aa (HC2.out.below hb23)
      have HGX3:=aa (HGX2.out.andThen (aG hb23 none) (fun k hk=>by cases hk))
      have hx3:=hb23.size
      rw[hW3]
      obtain⟨gx,hgx⟩:∃q,w2.heap.size=q:=⟨_,rfl⟩
      rw[hgx] at RX3⊢
      have hgxg:g<gx:=by omega
      clear hW3 hb23 y0 y1 y2 y3 y4 HY2 HF2 HC2 HGX2
      have x0:=RX3.out.cell (k:=0) rfl
      have x3:=RX3.out.cell (k:=3) rfl
      obtain⟨⟨f0,f1,f2⟩,-⟩:=ez HF3.out HHI.out
      try simp only at f0 f1 f2
      by_cases h16:o=16
      ·subst h16
       obtain⟨d0,d1⟩:=HX16.out rfl
       try simp only at d0 d1
       have hS:=HQS.out
       rw[<-HRS.out] at hS
       by_cases hge:d<=S
       ·have hged:decide (d<=S)=true:=decide_eq_true hge
        have e1:IntKind.i64.wrap (S-d)=S-d:=wrap_i64 _ (by omega) (by omega)
        have e2:IntKind.i64.wrap (S-d+1)=S-d+1:=wrap_i64 _ (by omega) (by omega)
        go_quiet (fail)
        go_upto_region 15 with(fail)
        obtain⟨W4,hW4⟩:∃V,W3.drewN nq=V:=⟨_,rfl⟩
        have HY4:=aa (show W4.ownsRow Bi 50 5 (.slice (some ⟨Gc,0,none⟩) m c9) m (au ys) by rw[<-hW4];exact dJ HY3.out (am (Below.refl _ _) _))
        have HC4:=aa (show ar W4.drew g by rw[<-hW4];exact(HC3.out.drewN _).drew)
        have HGX4:=aa (show _root_.Go.World.grownBy _ W4.drew (some g) by rw[<-hW4];exact be (be HGX3.out _) 1)
        have x3:W4.cell? ⟨gx,3,none⟩=some (.int .i64 d):=by rw[<-hW4];exact x3
        have f1:W4.cell? ⟨Gf,i*3+1,none⟩=some (.int .i64 S):=by rw[<-hW4];exact f1
        try rw[hW4]
        clear hW4 x0 f0 f2 RX3 HF3 HC3 HGX3
        have cn:=fun W (hc:Hid (ar W g))=>a6 g (S-d+1) W hc (by omega) (by omega)
        have CN:=aa cn
        clear cn
        go_region_law
         (first
          | (go_simp;go_at_call 7;refine(CN.out W4.drew HC4).mono ?_;rintro e w5 ⟨t,rfl,t0,t1,hC5,hG5,hz5⟩;have ho5:=cj (dJ HY4.out (Below.refl _ _).drew) hgBi hG5;have hcc:=(dX ho5 HYK.out).1.2.1;have hff:=(dX ho5 HYK.out).2 (k*5+1)))
        all_goals
         have hst:=(ho5.stored (k*5+1) (.int .i64 t)).1
         rw[xz HYK.out] at hst
         have HO6:=aa hst
         have HC6:=aa (kZ ho5 hgBi hC5 (k*5+1) (.int .i64 t))
         have HG6:=aa ((HGX4.out.trans hG5).andThen (ho5.stored (k*5+1) (.int .i64 t)).2 (fun q hq=>.inl (by injection hq with hq;omega)))
         have HY16:=aa (show(∀x∈ys.set k ⟨16,t,b,d,im⟩,x.op=16->0<=x.c/\x.c<=16)/\(∀f,(F.map (aN F al))[i]?=some f->gw f.size f.code (ys.set k ⟨16,t,b,d,im⟩)) from⟨fun z hz h=>by
          rcases List.mem_or_eq_of_mem_set hz with hz|rfl
          ·exact hy16.out.1 z hz h
          ·exact⟨d0,d1⟩,fun f hf=>(hy16.out.2 f hf).set HYK.out t0 (by have e1:=(hok.out.2.2 i f q hf HGI.out).2.1;have e2:=HRS.out;(try simp only at e2);omega)⟩)
         clear hst ho5 hcc hff hC5 hG5 hz5
         go_wp2_with fail
         go_roundw
         case rel=>exact⟨k+1,_,by omega,by go_num,aa (by rw[List.length_set];exact hyl.out),HO6,HY16,HC6,HG6⟩
         case measure=>simp[intOf];omega
       ·have hged:decide (d<=S)=false:=decide_eq_false hge
        go_quiet (fail)
        go_wp2_with fail
        go_roundw
        case rel=>exact⟨k+1,ys,by omega,by go_num,hyl,aa (dJ HY3.out (am (Below.refl _ _) _)),hy16,aa (HC3.out.drewN _),aa (be HGX3.out _)⟩
        case measure=>simp[intOf];omega
      ·have b16:(o==16)=false:=by simpa using h16
       clear h16
       go_quiet (fail)
       go_wp2_with fail
       go_roundw
       case rel=>exact⟨k+1,ys,by omega,by go_num,hyl,aa (dJ HY3.out (am (Below.refl _ _) _)),hy16,aa (HC3.out.drewN _),aa (be HGX3.out _)⟩
       case measure=>simp[intOf];omega
     ·have bv:(v==2)=false:=by simpa using hv
      clear hv
      have HFR2:=aa (hfa.out.stay hgB5 HGX2.out)
      have RT2:=aa (hT.out.grown HGX2.out (fun e=>by injection e with e;omega))
      have HG2:=aa (hG.out.trans HGX2.out)
      have hz2:=HGX2.out.size
      obtain⟨⟨-,-,fc⟩,ff⟩:=ez HF2.out HHI.out
      try simp only at fc
      have ff2:=ff (i*3+2)
      clear ff
      go_wp2_with fail
      have hst:=HF2.out.stored (i*3+2) (.slice (some ⟨Gc,0,none⟩) m c9)
      have HO5:=hst.1
      rw[uF hh i _ HHI.out] at HO5
      have hyo5:=HY2.out.kept hst.2 (gJ HY2.out HF2.out (by decide))
      have HFR5:=((HFR2.out.kept HF2.out (by decide) hst.2).set HHI.out HGI.out hyl.out (cY hyo5 (show B5<=Bi by omega)))
      have HFO5:(∀z∈G.set i ⟨q.params,q.size,ys⟩,kH z)/\gu (F.map (aN F al)) (G.set i ⟨q.params,q.size,ys⟩):=⟨kH.set hok.out.1 HGI.out (by rw[hyl.out,HRN.out]) hy16.out.1,hok.out.2.set HGI.out hy16.out.2⟩
      have HC5:=HC2.out.kept hst.2 (fun q hq=>by injection hq with hq;omega)
      have RT5:=RT2.out.far (p:=⟨Gf,i*3+2,none⟩) (show gt≠Gf by omega) (.slice (some ⟨Gc,0,none⟩) m c9)
      have HG5:=HG2.out.andThen hst.2 (fun q hq=>.inl (by injection hq with hq;omega))
      have HZ5:B7<=(w2.setCell ⟨Gf,i*3+2,none⟩ (.slice (some ⟨Gc,0,none⟩) m c9)).heap.size:=by simp[World.setCell];omega
      go_roundw
      case rel=>exact⟨i+1,_,_,by omega,by go_num,aa (by rw[List.length_set];exact hhl.out),aa (by rw[List.length_set];exact hgl.out),aa HO5,aa HFR5,aa HFO5,aa HC5,aa RT5,aa HG5,aa HZ5⟩
      case measure=>simp[intOf];omega
    ·obtain rfl:k=m:=by omega
     have HFR2:=aa (hfa.out.stay hgB5 hGx.out)
     have RT2:=aa (hT.out.grown hGx.out (fun e=>by injection e with e;omega))
     have HG2:=aa (hG.out.trans hGx.out)
     have hz2:=hGx.out.size
     obtain⟨⟨-,-,fc⟩,ff⟩:=ez HFO.out HHI.out
     try simp only at fc
     have ff2:=ff (i*3+2)
     clear ff
     go_wp2_with fail
     have hst:=HFO.out.stored (i*3+2) (.slice (some ⟨Gc,0,none⟩) k c9)
     have HO5:=hst.1
     rw[uF hh i _ HHI.out] at HO5
     have hyo5:=hyo.out.kept hst.2 (gJ hyo.out HFO.out (by decide))
     have HFR5:=((HFR2.out.kept HFO.out (by decide) hst.2).set HHI.out HGI.out hyl.out (cY hyo5 (show B5<=Bi by omega)))
     have HFO5:(∀z∈G.set i ⟨q.params,q.size,ys⟩,kH z)/\gu (F.map (aN F al)) (G.set i ⟨q.params,q.size,ys⟩):=⟨kH.set hok.out.1 HGI.out (by rw[hyl.out,HRN.out]) hy16.out.1,hok.out.2.set HGI.out hy16.out.2⟩
     have HC5:=hCx.out.kept hst.2 (fun q hq=>by injection hq with hq;omega)
     have RT5:=RT2.out.far (p:=⟨Gf,i*3+2,none⟩) (show gt≠Gf by omega) (.slice (some ⟨Gc,0,none⟩) k c9)
     have HG5:=HG2.out.andThen hst.2 (fun q hq=>.inl (by injection hq with hq;omega))
     have HZ5:B7<=(wr.setCell ⟨Gf,i*3+2,none⟩ (.slice (some ⟨Gc,0,none⟩) k c9)).heap.size:=by simp[World.setCell];omega
     go_roundw
     case rel=>exact⟨i+1,_,_,by omega,by go_num,aa (by rw[List.length_set];exact hhl.out),aa (by rw[List.length_set];exact hgl.out),aa HO5,aa HFR5,aa HFO5,aa HC5,aa RT5,aa HG5,aa HZ5⟩
     case measure=>simp[intOf];omega
  ·obtain rfl:i=n:=by omega
   have hgfl:Gf<wr.heap.size:=(hfo.out.lt Gf rfl).2
   have RR:=aa (HR1.out.grown hG.out (fun e=>by injection e with e;omega))
   have v0:=RR.out.cell (k:=0) rfl
   have v1:=RR.out.cell (k:=1) rfl
   have z0:=RR.out.free 0
   have z1:=RR.out.free 1
   have t0:=hT.out.cell (k:=0) rfl
   go_wp2_with fail
   obtain⟨W9,hW9⟩:∃V,(wr.setCell ⟨w.heap.size,0,none⟩ (.int .i64 al)).setCell ⟨w.heap.size,1,none⟩ (.slice (some ⟨Gf,0,none⟩) i c8)=V:=⟨_,rfl⟩
   have R9:Row W9 w.heap.size 26 [.int .i64 al,.slice (some ⟨Gf,0,none⟩) i c8]:=by rw[<-hW9];exact(RR.out.set_ 0 _).set_ 1 _
   have HTG:=hfa.out.tg (cY hfo.out hB57) hhl.out hgl.out (by omega) (fun q hq=>by have:=(hok.out.1 q hq).2.2.1;omega)
   have hs9:W9.heap.size=wr.heap.size:=by rw[<-hW9];simp[World.setCell]
   have T9:TgAt W9 w.heap.size W9.heap.size (some ⟨Gf,0,none⟩) i c8 hh G:=by
    rw[hs9]
    refine(HTG.keep (w':=W9) fun p h1 h2=>?_).more (Nat.le_refl _) (by omega)
    rw[<-hW9]
    rw[World.cell?_setCell_other _ _ _ _ (fun e=>by subst e;simp at h1;omega),World.cell?_setCell_other _ _ _ _ (fun e=>by subst e;simp at h1;omega)]
   have hwg:w.grownBy wr (some g):=(aG HB1.out (some g)).trans hG.out
   have G9:w.grownBy W9 (some g):=by
    rw[<-hW9]
    exact(hwg.andThen (aM wr w.heap.size 0 _) (fun q hq=>.inl (by injection hq with hq;omega))).andThen (aM _ w.heap.size 1 _) (fun q hq=>.inl (by injection hq with hq;omega))
   have C9:ar W9 g:=by
    rw[<-hW9]
    exact(hC.out.kept (aM wr w.heap.size 0 _) (fun q hq=>by injection hq with hq;omega)).kept (aM _ w.heap.size 1 _) (fun q hq=>by injection hq with hq;omega)
   rw[hW9]
   have k0:=R9.cell (k:=0) rfl
   have k1:=R9.cell (k:=1) rfl
   refine bodyPost_ret (v:=tv al (some ⟨Gf,0,none⟩) i c8) (by simp[results,Tryz.results14,go_sem,k0,k1]) rfl ?_
   exact⟨F,some ⟨Gf,0,none⟩,i,c8,hh,G,by rw[HALE.out],T9,hn1,hn2,HL.out,HGD.out,by rw[HALE.out];exact HA2.out.1,by rw[HALE.out];exact HA2.out.2,by rw[HALE.out];exact hok.out.2,C9,G9⟩
end Go.Proofs.YtjbgepjdohfhkaaGreat
