/- The contract of the reference's Shape (chapter 25) at the plain layout: it is right. Conditions: what holds of a right program of at most 6 slots a function; the -/
import Derived.Test.YtjbgepjdohfhkaaGreatMMlfr
set_option linter.unusedVariables false
set_option linter.unusedSimpArgs false
set_option maxRecDepth 100000
set_option maxHeartbeats 4000000
namespace Go.Proofs.YtjbgepjdohfhkaaGreat
open Go.RowKit
theorem oN (A:Option Addr) (n c:Nat) (hs:List Hd) (F:Pg) (lo B i:Nat) (f:Fn) (al:Int) (y:Fd) (B2:Nat) (w:World) (H:Hid (PgAt w lo B A n c hs F)) (hB:B<=w.heap.size) (hF:Hid (LowPg F)) (hf:Hid (F[i]?=some f)) (hal:Hid (aR al=true))
  (hy:Hid (y.p=bB F f.code*16/\y.s=upM (aZ (bB F f.code*16) f.slots).2 al/\y.n=f.slots.length)) (hsee:Hid (an w B2 y.a (bQ (aZ (bB F f.code*16) f.slots).1))) (hB2:B2<=w.heap.size) :
  Calls Tryz.prog 37 #[gv A n c,.int .i64 (i:Int),.int .i64 al,mv y.p y.s y.a y.n y.c] w fun e w'=>e=.returned (.int .i64 0)/\Below w.heap.size w w':=by
 have hm:=List.mem_of_getElem? hf.out
 have hok:=aa (hF.out.arg _ hm)
 have hsl:=aa (hF.out.slot _ hm)
 have h6:=hF.out.six _ hm
 have hin:i<n:=by rw[<-H.out.len];exact(List.getElem?_eq_some_iff.1 hf.out).1
 have cb:=fun W (hb:Below w.heap.size w W)=>nH A n c hs F lo B i f al W (aa (H.out.below (hb.mono hB))) (Nat.le_trans hB hb.size) hf hok hsl h6 hal
 have ca:=fun W (hb:Below w.heap.size w W)=>nI A n c hs F lo B i f W (aa (H.out.below (hb.mono hB))) (Nat.le_trans hB hb.size) hf hok
 obtain⟨b,off,P,A1,n1,c1,A2,n2,c2,f',rfl,hb,e1,-,h,p0,p1,p2⟩:=lC H.out hin
 obtain rfl:f'=f:=by rw[hf.out] at e1;injection e1 with e1;exact e1.symm
 clear e1 hm
 have hn:=H.out.cap.2.2
 have HL:=aa (show f'.slots.length=n1 from h.l1)
 have HSL:=aa h.s1
 have hab:=ld hok.out f'.code.length
 rw[List.take_of_length_le (Nat.le_refl _)] at hab
 obtain⟨yp,ys,yA,yn,yc⟩:=y
 obtain⟨hy1,hy2,hy3⟩:=hy.out
 simp only at hy1 hy2 hy3 hsee
 change Calls Tryz.prog 37 #[gv (some ⟨b,off,none⟩) n c,.int .i64 (i:Int),.int .i64 al,mv yp ys yA yn yc] w _
 obtain⟨a,ha⟩:∃a,bB F f'.code*16=a:=⟨_,rfl⟩
 rw[ha] at hy1 hy2 hsee
 simp only[ha] at ca cb
 have ha0:0<=a/\a<=128:=by omega
 subst hy1
 obtain⟨sz,hsz⟩:∃a,upM (aZ yp f'.slots).2 al=a:=⟨_,rfl⟩
 unfold nr at cb
 simp only[hsz] at cb
 rw[hsz] at hy2
 subst hy2
 have hyn:yn=n1:=by rw[hy3];exact HL.out
 subst hyn
 have hbd:=jq ha0 hsl.out f'.slots.length (Nat.le_refl _)
 rw[List.take_of_length_le (Nat.le_refl _)] at hbd
 have hap:=ed hal.out
 have hu:=fz (aZ yp f'.slots).2 (show 0<al by omega)
 have hdv:=qt (ja (aZ yp f'.slots).2 al)
 rw[hsz] at hu hdv
 have hoff:=xh ha0 hsl.out f'.slots.length (Nat.le_refl _)
 rw[List.take_of_length_le (Nat.le_refl _)] at hoff
 have hlen:=jp yp f'.slots f'.slots.length (Nat.le_refl _)
 rw[List.take_of_length_le (Nat.le_refl _)] at hlen
 obtain⟨en,hen⟩:∃a,(aZ yp f'.slots).2=a:=⟨_,rfl⟩
 rw[hen] at hbd hu hoff
 obtain⟨os,hos⟩:∃a,(aZ yp f'.slots).1=a:=⟨_,rfl⟩
 rw[hos] at hsee hoff hlen
 have HOFF:=aa hoff
 have HLEN:=aa hlen
 have CA:=aa ca
 have CB:=aa cb
 have hs1:0<=ys/\ys<=134217728:=by omega
 have hs2:¬(ys<yp):=by omega
 have hbw:b<w.heap.size:=by omega
 obtain⟨W2,hW2,hb2,hst2,r0,r1⟩:=fx w [.slice (some ⟨b,off,none⟩) n c] [.int .i64 yp,.int .i64 ys,.slice yA yn yc] 79 102
 have HW2:=aa hW2
 have HB2:=aa hb2
 have R0:=aa r0
 have R1:=aa r1
 have t0:=r0.cell (k:=0) rfl
 have hiz:(0:Int)<=(i:Int):=by omega
 have hiz':(i:Int)<(n:Int):=by omega
 clear hW2 hb2 hst2 r0 r1 h ca cb hab ha hsz hen hos hbd hoff hlen hy3 hy
 go_enter Tryz.func37,Tryz.ntmps37
 go_upto_region 1 with(fail)
 rw[HW2.out]
 clear HW2
 go_upto_region 2 with(go_at_call 36;refine(CB.out _ HB2.out).mono ?_;rintro e W3 ⟨A3,c3,rfl,-,hb3⟩)
 obtain⟨W4,hW4⟩:∃V,W3.alloc (.cells #[.int .i64 yp,.int .i64 ys,.slice A3 f'.slots.length c3] 102)=V:=⟨_,rfl⟩
 have RP4:=aa (show Row W4 w.heap.size 79 [.slice (some ⟨b,off,none⟩) n c] by rw[<-hW4];exact(R0.out.call hb3).alloc _)
 have RY4:=aa (show Row W4 (w.heap.size+1) 102 [.int .i64 yp,.int .i64 ys,.slice yA yn yc] by rw[<-hW4];exact(R1.out.call hb3).alloc _)
 have RL4:=aa (show Row W4 W3.heap.size 102 [.int .i64 yp,.int .i64 ys,.slice A3 f'.slots.length c3] by rw[<-hW4];exact Row.new W3 _ _)
 have HB4:=aa (show Below w.heap.size w W4 by rw[<-hW4];have h:=ac HB2.out hb3;exact h.alloc h.size _)
 rw[hW4]
 obtain⟨g,hg⟩:∃g,W3.heap.size=g:=⟨_,rfl⟩
 rw[hg] at RL4⊢
 clear hW4 hg hb3 t0 R0 R1 HB2 CB
 have t0:=RP4.out.cell (k:=0) rfl
 have q1:=(HB4.out.cell (p:=⟨b,off+i*3+1,none⟩) hbw).trans p1
 clear p0 p1 p2
 go_upto_region 5 with(fail)
 have y0:=RY4.out.cell (k:=0) rfl
 have y2:=RY4.out.cell (k:=2) rfl
 have t0':=af t0
 have y0':=af y0
 have y2':=af y2
 have cg:∀p:After W4,Calls Tryz.prog 55 #[gv (some ⟨b,off,none⟩) n c,.int .i64 (i:Int)] p.w fun e w'=>e=.returned (.int .i64 yp)/\Below p.w.heap.size p.w w':=fun p=>CA.out p.w (HB4.out.trans (p.b.mono HB4.out.size))
 have CG:=aa cg
 have hyy:(yp !=yp)=false:=by simp
 have hnn:((yn:Int) !=(yn:Int))=false:=by simp
 clear cg CA
 refine aJ (by kernel_rfl) (by kernel_rfl) ?_
 repeat(go_big_quiet_step ((go_at_call 55;with_reducible exact bO (CG.out _))))
 refine wpQuiet_nil ?_
 intro _ hw'
 obtain⟨p1,hw''⟩:=hw'
 subst hw''
 have HBP:=aa (HB4.out.trans (p1.b.mono HB4.out.size))
 have RY5:=aa (RY4.out.call p1.b)
 have RL5:=aa (RL4.out.call p1.b)
 obtain⟨W5,hW5⟩:∃V,p1.w=V:=⟨_,rfl⟩
 rw[hW5] at HBP RY5 RL5⊢
 clear hW5 t0' y0' y2' t0 q1 y0 y2 CG RP4 RY4 RL4 HB4
 go_wp2_with fail
 go_loopw [12] (fun s wr=>∃k:Nat,k<=yn/\s=.int .i64 k/\Hid (Below W5.heap.size W5 wr)) (fun s _=>yn-(intOf s).toNat)
 case atStart=>exact⟨0,by omega,rfl,aa (Below.refl _ _)⟩
 case round=>
  obtain⟨k,hk,rfl,hbr⟩:=hrel
  have HBR:=aa (HBP.out.trans (hbr.out.mono HBP.out.size))
  have y0:=(RY5.out.call hbr.out).cell (k:=0) rfl
  have y1:=(RY5.out.call hbr.out).cell (k:=1) rfl
  have y2:=(RY5.out.call hbr.out).cell (k:=2) rfl
  by_cases hlt:k<yn
  ·have hkl:k<f'.slots.length:=by have:=HL.out;omega
   have hko:k<os.length:=by have:=HLEN.out;omega
   obtain⟨hkx,o0,o1,o2⟩:=HOFF.out k os[k] (List.getElem?_eq_getElem hko)
   have hsb:=hsl.out _ (List.getElem_mem hkl)
   obtain⟨bb,oo,rfl,hbb,z0,z1⟩:=fo (HSL.out.below (HBR.out.mono hB)) hkl
   obtain⟨bo,ofo,rfl,hbo,v0⟩:=j9 (hsee.out.below (HBR.out.mono hB2)) hko
   obtain⟨u,hu⟩:∃u,f'.slots[k]=u:=⟨_,rfl⟩
   obtain⟨o,ho⟩:∃u,os[k]=u:=⟨_,rfl⟩
   rw[hu] at o1 o2 hsb z0 z1
   rw[ho] at o0 o1 o2 v0
   obtain⟨s,al2⟩:=u
   simp only at z0 z1 o1 o2 hsb
   unfold cH at hsb
   simp only[Bool.and_eq_true] at hsb
   obtain⟨s0,s1⟩:=iF hsb.1
   have hp2:=ed hsb.2
   have hmd:=qt o1
   have hmb:(o % al2 !=0)=false:=by simp[hmd]
   have hab0:(al2==0)=false:=by simp;omega
   have hle:¬(o<yp):=by omega
   have hled:decide (o<yp)=false:=decide_eq_false hle
   have hins:a9 o s ys=true:=by
    have hr:dY o s=true:=et.2 ⟨by omega,by omega,by omega⟩
    unfold a9
    rw[hr]
    simpa using(show o+s<=ys by omega)
   have ci:∀p:After wr,Calls Tryz.prog 57 #[pv o s,.int .i64 ys] p.w fun e w'=>e=.returned (.bool true)/\Below p.w.heap.size p.w w':=fun p=>by
    have:=cP o s ys p.w;rwa[hins] at this
   have CI:=aa ci
   have y0':=af y0
   have y1':=af y1
   have y2':=af y2
   have z0':=af z0
   have z1':=af z1
   have v0':=af v0
   have hkz:(0:Int)<=(k:Int):=by omega
   have hkz':(k:Int)<(yn:Int):=by omega
   clear ci hu ho hins hsb hkx o1
   go_upto_region 10 with(fail)
   refine aJ (by kernel_rfl) (by kernel_rfl) ?_
   repeat(go_big_quiet_step ((go_at_call 57;with_reducible exact bO (CI.out _))))
   refine wpQuiet_nil ?_
   intro _ hw'
   obtain⟨p1,hw''⟩:=hw'
   subst hw''
   have HB2':=aa (ac hbr.out p1.b)
   clear y0' y1' y2' z0' z1' v0' y0 y1 y2 z0 z1 v0
   go_wp2_with fail
   go_roundw
   case rel=>exact⟨k+1,by omega,by go_num,HB2'⟩
   case measure=>simp[intOf];omega
  ·obtain rfl:k=yn:=by omega
   have l1:=(RL5.out.call hbr.out).cell (k:=1) rfl
   have hmb:(ys % al !=0)=false:=by simp[hdv]
   have hab0:(al==0)=false:=by simp;omega
   go_wp2_with fail
   go_ret
   exact⟨rfl,HBR.out⟩
structure LowPg2 (F:Pg):Prop where
 pg:LowPg F
 low:∀f∈F,∀x∈f.code,iN f.slots.length x
 short:∀f∈F,f.code.length<=1024
structure FrRow (w:World) (base:Nat) (h:Fd) (g:Fm):Prop where
 p:h.p=g.params
 s:h.s=g.size
 n:h.n=g.code.length
 row:w.ownsRow base 50 5 (.slice h.a h.n h.c) h.n (au g.code)
def dc (w:World) (base:Nat) (hh:List Fd) (G:Tg):Prop:=∀(j:Nat) (h:Fd) (g:Fm),hh[j]?=some h->G[j]?=some g->FrRow w base h g
theorem FrRow.kept {w w':World} {base:Nat} {h:Fd} {g:Fm} {row:Option Nat} (H:FrRow w base h g) (hg:w.grownBy w' row) (hne:(Value.slice h.a h.n h.c).ownBlock=none\/(Value.slice h.a h.n h.c).ownBlock≠row):FrRow w' base h g:=⟨H.p,H.s,H.n,H.row.kept hg hne⟩
theorem FrRow.call {w w':World} {base:Nat} {h:Fd} {g:Fm} (H:FrRow w base h g) (hb:Below w.heap.size w w'):FrRow w' base h g:=⟨H.p,H.s,H.n,dJ H.row hb⟩
theorem dc.call {w w':World} {base:Nat} {hh:List Fd} {G:Tg} (H:dc w base hh G) (hb:Below w.heap.size w w'):dc w' base hh G:=fun j h g e1 e2=>(H j h g e1 e2).call hb
theorem dc.kept {w w':World} {base:Nat} {hh:List Fd} {G:Tg} (H:dc w base hh G) {b':Nat} {t':TypeId} {size':Nat} {v':Value} {n':Nat} {xs':List Value} (h':w.ownsRow b' t' size' v' n' xs') (ht:50≠t') (hg:w.grownBy w' v'.ownBlock):dc w' base hh G:=fun j h g e1 e2=>(H j h g e1 e2).kept hg (gJ (H j h g e1 e2).row h' ht)
theorem dc.lower {w:World} {base base':Nat} {hh:List Fd} {G:Tg} (H:dc w base hh G) (hb:base'<=base):dc w base' hh G:=fun j h g e1 e2=>⟨(H j h g e1 e2).p,(H j h g e1 e2).s,(H j h g e1 e2).n,cY (H j h g e1 e2).row hb⟩
theorem dc.tg {w:World} {base n c:Nat} {A:Option Addr} {hh:List Fd} {G:Tg} (H:dc w base hh G) (ho:w.ownsRow base 53 3 (.slice A n c) n (aV hh)) (hl:hh.length=n) (hg:G.length=n) (hn:n<=1000) (hs:∀g∈G,g.code.length<=100000):TgAt w base w.heap.size A n c hh G:=by
 obtain⟨A',c',e,hA,hc,hf,hsee⟩:=aW ho
 injection e with e1 _ e2
 subst e1 e2
 refine⟨hg,⟨hA,hc,by omega⟩,hf,hsee,by omega,fun k h g e1 e2=>?_⟩
 have r:=H k h g e1 e2
 obtain⟨A2,c2,e,hA2,hc2,hf2,hsee2⟩:=aW r.row
 injection e with e3 _ e4
 have hgs:=hs g (List.mem_of_getElem? e2)
 rw[<-e3] at hA2 hf2 hsee2
 rw[<-e4] at hA2 hc2
 exact⟨r.p,r.s,r.n.symm,⟨hA2,hc2,by have:=r.n;omega⟩,hf2,hsee2⟩
theorem Tryz.info53:(Tryz.prog.info? 53).map (fun i=>(i.zero,i.size,i.bytes))=some (some (.agg #[.int .i64 0,.int .i64 0,.slice none 0 0]),3,40):=by kernel_rfl
def zv (F:Pg) (al:Int) (n:Nat) (w:World) (e:Ending) (w':World):Prop:=
 ∃(A:Option Addr) (c:Nat) (hh:List Fd),e=.returned (.tuple #[tv al A n c,.int .i64 0])/\TgAt w' w.heap.size w'.heap.size A n c hh (F.map (aN F al))/\dc w' w.heap.size hh (F.map (aN F al))/\Below w.heap.size w w'
theorem ku {F:Pg} {al:Int} {f:Fn} (h:lD F f.code) (hs:∀u∈f.slots,cH u.1 u.2=true) (h6:f.slots.length<=6) (ha:aR al=true):0<=(aN F al f).size/\(aN F al f).size<=268435456:=by
 have hab:=ld h f.code.length
 rw[List.take_of_length_le (Nat.le_refl _)] at hab
 have hbd:=jq (a:=bB F f.code*16) (by omega) hs f.slots.length (Nat.le_refl _)
 rw[List.take_of_length_le (Nat.le_refl _)] at hbd
 have hap:=ed ha
 have hu:=fz (aZ (bB F f.code*16) f.slots).2 (show 0<al by omega)
 show 0<=upM (aZ (bB F f.code*16) f.slots).2 al/\upM (aZ (bB F f.code*16) f.slots).2 al<=268435456
 omega
theorem z7 {w:World} {base:Nat} {y:Fd} {F:Pg} {f:Fn} {al:Int} (h:LyRow w base y F f al):an w w.heap.size y.a (bQ (aZ (bB F f.code*16) f.slots).1):=by
 obtain⟨A,c,e,_,_,_,hs⟩:=aW h.row
 injection e with e1 _ _
 rwa[<-e1] at hs
theorem wB (A:Option Addr) (n c:Nat) (hs:List Hd) (F:Pg) (lo B:Nat) (al:Int) (A2:Option Addr) (c2:Nat) (ys:List Fd) (base:Nat) (w:World) (H:Hid (PgAt w lo B A n c hs F)) (hB:B<=w.heap.size) (hF:Hid (LowPg2 F)) (hal:Hid (aR al=true))
  (hly:Hid (w.ownsRow base 102 3 (.slice A2 n c2) n (aV ys))) (hyl:Hid (ys.length=n)) (hall:Hid (fW w base ys F al)) :
  Calls Tryz.prog 25 #[gv A n c,.int .i64 al,.slice A2 n c2] w (zv F al n w):=by
 obtain⟨i0,hi,hz0,hz1,hz2⟩:=info_parts Tryz.info53
 have HL:=aa H.out.len
 have h80:n<=80:=by have:=hF.out.pg.few;have:=HL.out;omega
 obtain⟨W1,hW1,hb1,hs1,r0,r1⟩:=fx w [.slice A n c] [.int .i64 0,.slice none 0 0] 79 26
 have HW1:=aa hW1
 have HB1:=aa hb1
 have R0:=aa r0
 have R1:=aa r1
 have t0:=r0.cell (k:=0) rfl
 have hnn:((n:Int) !=(n:Int))=false:=by simp
 clear hW1 hb1 hs1 r0 r1
 go_enter Tryz.func25,Tryz.ntmps25
 go_upto_region 1 with(fail)
 rw[HW1.out]
 clear HW1
 go_wp2_with fail
 clear t0
 go_loopw [8,9] (fun v s wr=>∃(k:Nat) (A':Option Addr) (c':Nat) (hh:List Fd),k<=n/\s=.int .i64 k/\v=.slice A' k c'/\Hid (hh.length=k)/\Hid (wr.ownsRow W1.heap.size 53 3 (.slice A' k c') k (aV hh))/\Hid (dc wr W1.heap.size hh (F.map (aN F al)))/\Hid (Below W1.heap.size W1 wr)) (fun _ s _=>n-(intOf s).toNat)
 case atStart=>exact⟨0,none,0,[],by omega,rfl,rfl,aa rfl,aa (World.ownsRow_nil _ _ _ _),aa (fun j y f e1 e2=>by simp at e1),aa (Below.refl _ _)⟩
 case round=>
  obtain⟨k,A',c',hh,hk,rfl,rfl,hhl,hown,hfr,hbr⟩:=hrel
  have HBW:=aa (HB1.out.trans (hbr.out.mono HB1.out.size))
  by_cases hlt:k<n
  ·have hkl:k<F.length:=by have:=HL.out;omega
   have hky:k<ys.length:=by have:=hyl.out;omega
   have hx:=List.getElem?_eq_getElem hkl
   have hm:=List.getElem_mem hkl
   have hyk:=List.getElem?_eq_getElem hky
   have HALL:=aa (hall.out.call (HBW.out))
   have hlr:=HALL.out k _ _ hyk hx
   have hss:=ku (hF.out.pg.arg _ hm) (hF.out.pg.slot _ hm) (hF.out.pg.six _ hm) hal.out
   obtain⟨A9,c9,e9,-,-,-,hsee9⟩:=aW (dJ hly.out HBW.out)
   injection e9 with e9a _ e9b
   subst e9a e9b
   obtain⟨bb,oo,rfl,hbb,y0,y1,y2⟩:=xB hsee9 hky
   obtain⟨f,hf⟩:∃f,F[k]=f:=⟨_,rfl⟩
   obtain⟨y,hy⟩:∃y,ys[k]=y:=⟨_,rfl⟩
   rw[hf] at hx hlr hss hm
   rw[hy] at hlr y0 y1 y2
   have HX:=aa hx
   have HFM:=aa (show(F.map (aN F al))[k]?=some (aN F al f) by rw[List.getElem?_map,hx];rfl)
   have hys:y.s=(aN F al f).size:=hlr.s
   have HLS:=aa (z7 hlr)
   have HLY:=aa (show y.p=bB F f.code*16/\y.s=upM (aZ (bB F f.code*16) f.slots).2 al/\y.n=f.slots.length from⟨hlr.p,hlr.s,hlr.n⟩)
   have HBL:=aa (show(aZ (bB F f.code*16) f.slots).1.length=f.slots.length by have:=jp (bB F f.code*16) f.slots f.slots.length (Nat.le_refl _);rwa[List.take_of_length_le (Nat.le_refl _)] at this)
   have cs:∀p:After wr,Calls Tryz.prog 37 #[gv A n c,.int .i64 (k:Int),.int .i64 al,mv y.p y.s y.a y.n y.c] p.w fun e w'=>e=.returned (.int .i64 0)/\Below p.w.heap.size p.w w':=fun p=>
    oN A n c hs F lo B k f al y wr.heap.size p.w (aa (H.out.below ((HBW.out.trans (p.b.mono HBW.out.size)).mono hB))) (Nat.le_trans hB (Nat.le_trans HBW.out.size p.b.size)) (aa hF.out.pg) HX hal HLY (aa (HLS.out.below p.b)) p.b.size
   have cf:∀W,Below wr.heap.size wr W->Calls Tryz.prog 38 #[gv A n c,.int .i64 (k:Int),mv y.p y.s y.a y.n y.c] W (nn F al f W):=fun W hW=>
    wE A n c hs F lo B k f al y wr.heap.size W (aa (H.out.below ((HBW.out.trans (hW.mono HBW.out.size)).mono hB))) (Nat.le_trans hB (Nat.le_trans HBW.out.size hW.size)) HX (by rw[hys];exact hss) (aa (hF.out.low _ hm)) (hF.out.short _ hm) (aa ⟨hys,hlr.n⟩) HBL (aa (HLS.out.below hW)) hW.size
   have CS:=aa cs
   have CF:=aa cf
   have t0:=(R0.out.call hbr.out).cell (k:=0) rfl
   have t0':=af t0
   have y0':=af y0
   have y1':=af y1
   have y2':=af y2
   have hkz:(0:Int)<=(k:Int):=by omega
   have hkz':(k:Int)<(n:Int):=by omega
   obtain⟨yp,yss,yA,yn,yc⟩:=y
   simp only at y0' y1' y2'
   clear hf hy hx hm hyk hlr hss hys hsee9 cs cf y0 y1 y2 t0 hbb HALL
   go_upto_region 7 with(fail)
   refine aJ (by kernel_rfl) (by kernel_rfl) ?_
   repeat(go_big_quiet_step ((go_at_call 37;with_reducible exact bO (CS.out _))))
   refine wpQuiet_nil ?_
   intro _ hw'
   obtain⟨p1,hw''⟩:=hw'
   subst hw''
   have hown5:=aa (dJ hown.out p1.b)
   have hfr5:=aa (hfr.out.call p1.b)
   have hbr5:=aa (ac hbr.out p1.b)
   have CF5:=aa (fun W (hW:Below p1.w.heap.size p1.w W)=>CF.out W (ac p1.b hW))
   have t0:=t0' p1
   have y0:=y0' p1
   have y1:=y1' p1
   have y2:=y2' p1
   obtain⟨W5,hW5⟩:∃V,p1.w=V:=⟨_,rfl⟩
   rw[hW5] at hown5 hfr5 hbr5 CF5 t0 y0 y1 y2⊢
   clear hW5 t0' y0' y1' y2' CS CF
   go_upto_region 9 with(fail)
   have hFN:=aa (show(aN F al f).code.length=f.code.length by unfold aN;simp)
   go_region_law
    (first
     | (go_simp;go_at_call 38;refine(CF5.out _ (Below.refl _ _).drew).mono ?_;rintro e w3 ⟨A3,c3,rfl,hcr,hb3⟩;have hb3':Below W5.heap.size W5 w3:=(Below.refl W5.heap.size W5).drew.trans hb3;have ho3:=dJ hown5.out hb3';have hb4:=(ac hbr5.out hb3').alloc (ac hbr5.out hb3').size (.cells #[.int .i64 (aN F al f).params,.int .i64 (aN F al f).size,.slice A3 f.code.length c3] 53);have hcel:=fun(j:Nat) (u:Value) (hu:([.int .i64 (aN F al f).params,.int .i64 (aN F al f).size,.slice A3 f.code.length c3]:List Value)[j]?=some u)=>(show(w3.alloc (.cells #[.int .i64 (aN F al f).params,.int .i64 (aN F al f).size,.slice A3 f.code.length c3] 53)).cell? ((⟨w3.heap.size,0,none⟩:Addr).add j)=some u by rw[WideShapes.add_plain,Nat.zero_add];exact(Row.new w3 53 [.int .i64 (aN F al f).params,.int .i64 (aN F al f).size,.slice A3 f.code.length c3]).cell hu);have hone:∀u∈([.int .i64 (aN F al f).params,.int .i64 (aN F al f).size,.slice A3 f.code.length c3]:List Value),u.oneCell'=true:=fB [⟨(aN F al f).params,(aN F al f).size,A3,f.code.length,c3⟩];have hbase:W1.heap.size<=(w3.alloc (.cells #[.int .i64 (aN F al f).params,.int .i64 (aN F al f).size,.slice A3 f.code.length c3] 53)).heap.size:=hb4.size)
     | (refine wp_append_own _ (.tmp 33) (.tmp 41) 24 rfl W1.heap.size 53 i0 (.agg #[.int .i64 0,.int .i64 0,.slice none 0 0]) 3 40 Tryz.underlying24 hi hz0 hz1 hz2 rfl (by decide) (.slice A' k c') k (aV hh) rfl (ho3.alloc _) ⟨w3.heap.size,0,none⟩ 1 1 [.int .i64 (aN F al f).params,.int .i64 (aN F al f).size,.slice A3 f.code.length c3] rfl rfl hcel hone (by unfold maxLen;omega) (by omega) hbase ?_;intro v2 w7 ho2 hg2 _;obtain⟨A7,c7,rfl,-,-,-,-⟩:=aW ho2))
   all_goals
    have HB7:=aa (hb4.grown hg2 hb4.size (fun q hq=>((ho3.alloc (.cells #[.int .i64 (aN F al f).params,.int .i64 (aN F al f).size,.slice A3 f.code.length c3] 53)).lt q hq).1))
    have ho5:=ho3.alloc (.cells #[.int .i64 (aN F al f).params,.int .i64 (aN F al f).size,.slice A3 f.code.length c3] 53)
    have hb45:=ag w3 (.cells #[.int .i64 (aN F al f).params,.int .i64 (aN F al f).size,.slice A3 f.code.length c3] 53)
    have HR3:FrRow w3 W1.heap.size ⟨(aN F al f).params,(aN F al f).size,A3,f.code.length,c3⟩ (aN F al f):=⟨rfl,rfl,hFN.out.symm,cY hcr (show W1.heap.size<=W5.heap.size from hbr5.out.size)⟩
    have HA7:=aa (((hfr5.out.call hb3').call hb45).kept ho5 (by decide) hg2)
    have HY7:=aa ((HR3.call hb45).kept hg2 (gJ (HR3.call hb45).row ho5 (by decide)))
    have HO7:=aa (show w7.ownsRow W1.heap.size 53 3 (.slice A7 (k+1) c7) (k+1) (aV (hh++[⟨(aN F al f).params,(aN F al f).size,A3,f.code.length,c3⟩])) by rw[j8];exact ho2)
    have HALL:=aa (show dc w7 W1.heap.size (hh++[⟨(aN F al f).params,(aN F al f).size,A3,f.code.length,c3⟩]) (F.map (aN F al)) from fun j h g e1 e2=>by
     rcases Nat.lt_or_ge j k with hj|hj
     ·rw[List.getElem?_append_left (by have:=hhl.out;omega)] at e1
      exact HA7.out j h g e1 e2
     ·rw[List.getElem?_append_right (by have:=hhl.out;omega),hhl.out] at e1
      rcases Nat.lt_or_ge (j-k) 1 with h1|h1
      ·obtain rfl:j=k:=by omega
       simp at e1
       subst e1
       rw[HFM.out] at e2
       injection e2 with e2
       subst e2
       exact HY7.out
      ·rw[List.getElem?_eq_none (by simpa using h1)] at e1;cases e1)
    clear ho2 hg2 ho3 ho5 hb3 hb3' hb4 hb45 hcel hone hbase hcr HR3
    go_wp2_with fail
    go_roundw
    case rel=>exact⟨k+1,A7,c7,_,by omega,by go_num,rfl,aa (by rw[List.length_append,hhl.out];rfl),HO7,HALL,HB7⟩
    case measure=>simp[intOf];omega
  ·obtain rfl:k=n:=by omega
   have RR5:=aa (R1.out.call hbr.out)
   have v0:=RR5.out.cell (k:=0) rfl
   have v1:=RR5.out.cell (k:=1) rfl
   have z0:=RR5.out.free 0
   have z1:=RR5.out.free 1
   have HTG:=aa (hfr.out.tg hown.out hhl.out (by rw[List.length_map];exact HL.out) (by omega) (fun g hg=>by
    obtain⟨f,hf,rfl⟩:=List.mem_map.1 hg
    have:=hF.out.short f hf
    show(f.code.map _).length<=100000
    rw[List.length_map];omega))
   go_wp2_with fail
   obtain⟨W9,hW9⟩:∃V,(wr.setCell ⟨w.heap.size+1,0,none⟩ (.int .i64 al)).setCell ⟨w.heap.size+1,1,none⟩ (.slice A' k c')=V:=⟨_,rfl⟩
   have R9:Row W9 (w.heap.size+1) 26 [.int .i64 al,.slice A' k c']:=by rw[<-hW9];exact(RR5.out.set_ 0 _).set_ 1 _
   have B9:Below w.heap.size w W9:=by rw[<-hW9];exact(HBW.out.setCell (p:=⟨w.heap.size+1,0,none⟩) (by simp) _).setCell (p:=⟨w.heap.size+1,1,none⟩) (by simp) _
   have hl1:=R1.out.lt
   have hs9:W9.heap.size=wr.heap.size:=by rw[<-hW9];simp[World.setCell]
   have T9:TgAt W9 w.heap.size W9.heap.size A' k c' hh (F.map (aN F al)):=by
    rw[hs9]
    refine(HTG.out.keep (w':=W9) fun p h1 h2=>?_).more (Nat.le_refl _) HB1.out.size
    rw[<-hW9]
    rw[World.cell?_setCell_other _ _ _ _ (fun e=>by subst e;simp at h1;omega),World.cell?_setCell_other _ _ _ _ (fun e=>by subst e;simp at h1;omega)]
   have F9:dc W9 w.heap.size hh (F.map (aN F al)):=fun j h g e1 e2=>by
    have r:=hfr.out j h g e1 e2
    refine⟨r.p,r.s,r.n,cY (?_:W9.ownsRow W1.heap.size 50 5 _ _ _) HB1.out.size⟩
    rw[<-hW9]
    exact ownsRow_setCell_below (ownsRow_setCell_below r.row (a:=⟨w.heap.size+1,0,none⟩) (by simp;omega) _) (a:=⟨w.heap.size+1,1,none⟩) (by simp;omega) _
   rw[hW9]
   have k0:=R9.cell (k:=0) rfl
   have k1:=R9.cell (k:=1) rfl
   refine bodyPost_ret (v:=.tuple #[tv al A' k c',.int .i64 0]) (by simp[results,Tryz.results25,go_sem,k0,k1]) rfl ?_
   exact⟨A',c',hh,rfl,T9,F9,B9⟩
end Go.Proofs.YtjbgepjdohfhkaaGreat
