/- A drawn program, lowered with its plain layouts and with some stores' offsets drawn anew, is a right target that can be written. No function of the program is named here. -/
import Derived.Test.YtjbgepjdohfhkaaGreatMJdt
import Derived.Test.YtjbgepjdohfhkaaGreatMNrn
set_option linter.unusedVariables false
set_option linter.unusedSimpArgs false
set_option maxRecDepth 100000
set_option maxHeartbeats 4000000
namespace Go.Proofs.YtjbgepjdohfhkaaGreat
open Go.RowKit
theorem g25 {op:Int} (h0:0<=op) (h1:op<25):op=0\/op=1\/op=2\/op=3\/op=4\/op=5\/op=6\/op=7\/op=8\/op=9\/op=10\/op=11\/op=12\/op=13\/op=14\/op=15\/op=16\/op=17\/op=18\/op=19\/op=20\/op=21\/op=22\/op=23\/op=24:=by omega
theorem wv {N C n:Int} (h:ax n 1=true):aB N C 0 n=0:=by
 have:=ai.1 h
 unfold aB
 rw[if_pos rfl,if_pos (by omega)]
theorem l8 {N C n:Int} (h:ax n 8=true):aB N C 1 n=0:=by unfold aB;rw[if_neg (by decide),if_pos rfl,if_pos h]
theorem l7 {N C n:Int}:aB N C 2 n=0:=by unfold aB;rw[if_neg (by decide),if_neg (by decide),if_neg (by decide),if_neg (by decide),if_neg (by decide)]
theorem oZ {N C n:Int} (h:szB n=true):aB N C 3 n=0:=by unfold aB;rw[if_neg (by decide),if_neg (by decide),if_neg (by decide),if_pos rfl,if_pos h]
theorem wu {N C n:Int} (h:ax n N=true):aB N C 4 n=0:=by unfold aB;rw[if_neg (by decide),if_neg (by decide),if_pos rfl,if_pos h]
theorem wt {N C n:Int} (h:ax n C=true):aB N C 5 n=0:=by unfold aB;rw[if_neg (by decide),if_neg (by decide),if_neg (by decide),if_neg (by decide),if_pos rfl,if_pos h]
structure GI (N C:Int) (P S:Int) (x:Ins):Prop where
 ex:exB x.op=true
 a:aB N C (ap x.op).1 x.a=0
 b:aB N C (ap x.op).2.1 x.b=0
 c:aB N C (ap x.op).2.2.1 x.c=0
 m:(ap x.op).2.2.2=true\/x.imm=0
 cov:el P S x=true
theorem GI.zero {N:Nat} {f:Fm} {x:Ins} (h:GI N f.code.length f.params f.size x):aC N f x=0:=by
 unfold aC
 rw[if_neg (by rw[h.ex];decide),h.cov]
 have e:eJ N f.code.length x=[0,0,0]:=by
  unfold eJ fH
  rw[h.a,h.b,h.c,if_neg (by
   rintro⟨h1,h2⟩
   rcases h.m with e|e
   ·rw[e] at h1;cases h1
   ·exact h2 e)]
  rfl
 rw[e]
 decide
theorem gK {o s n:Int} (h0:0<=o) (h1:0<=s) (h2:o+s<=2147483647) (h3:o+s<=n):a9 o s n=true:=by
 unfold a9
 rw[Bool.and_eq_true,et,decide_eq_true_eq]
 exact⟨⟨h0,h1,h2⟩,h3⟩
theorem wX {P S:Int} {x:Ins} (hr:rdB x.op=false) (hw:wrB x.op=false) (hP:0<=P) (hS:0<=S):el P S x=true:=by
 unfold el rdI wrI
 rw[hr,hw]
 simp only[Bool.false_eq_true,if_false]
 rw[gK (by omega) (by omega) (by omega) (by omega),gK (by omega) (by omega) (by omega) (by omega)]
 rfl
theorem uM {P S:Int} {x:Ins} (hr:rdB x.op=true) (hw:wrB x.op=false) (hS:0<=S) (h0:0<=x.b) (h1:0<=x.c) (h2:x.b+x.c<=2147483647) (h3:x.b+x.c<=S+16*P):el P S x=true:=by
 unfold el rdI wrI
 rw[hr,hw]
 simp only[Bool.false_eq_true,if_false,if_true]
 rw[gK h0 h1 h2 h3,gK (by omega) (by omega) (by omega) (by omega)]
 rfl
theorem pr {P S:Int} {x:Ins} (hr:rdB x.op=false) (hw:wrB x.op=true) (hP:0<=P) (hS:0<=S) (h0:0<=x.a) (h1:0<=x.c) (h2:x.a+x.c<=2147483647) (h3:x.a+x.c<=S):el P S x=true:=by
 unfold el rdI wrI
 rw[hr,hw]
 simp only[Bool.false_eq_true,if_false,if_true]
 rw[gK (by omega) (by omega) (by omega) (by omega),gK h0 h1 h2 h3]
 rfl
theorem za (F:Pg) (n:Int) (x:Ins):n<=ij F n x:=by
 unfold ij
 (repeat' split)<;>omega
theorem qF {F:Pg} {l:List Ins}:∀k,k<=l.length->∀(j:Nat) (hl:j<l.length),j<k->(l[j].op=18->l[j].a+1<=bB F (l.take k))/\(l[j].op=22->((F[l[j].a.toNat]?).map Fn.params).getD 0<=bB F (l.take k)):=by
 intro k
 induction k with
 | zero=>intro _ j _ hj;omega
 | succ k ih=>
  intro hk j hl hj
  rw[lc F l k (by omega)]
  by_cases hjk:j<k
  ·have h:=ih (by omega) j hl hjk
   have hg:=za F (bB F (l.take k)) l[k]
   exact⟨fun e=>Int.le_trans (h.1 e) hg,fun e=>Int.le_trans (h.2 e) hg⟩
  ·obtain rfl:j=k:=by omega
   refine⟨fun e=>?_,fun e=>?_⟩
   ·rw[kG e];omega
   ·unfold ij
    rw[if_neg (by omega),if_pos e]
    omega
theorem Bs {a:Int} {l:List (Int×Int)} (ha:0<=a/\a<=128) (hs:∀u∈l,cH u.1 u.2=true):∀k,k<=l.length->∀(j:Nat) (hl:j<l.length),j<k->∃o,(aZ a (l.take k)).1[j]?=some o/\a<=o/\o+l[j].1<=(aZ a (l.take k)).2:=by
 intro k
 induction k with
 | zero=>intro _ j _ hj;omega
 | succ k ih=>
  intro hk j hl hj
  have hlen:=jp a l k (by omega)
  have hb:=jq ha hs k (by omega)
  rw[iS a l k (by omega)]
  have hsl:=hs _ (List.getElem_mem (show k<l.length by omega))
  unfold cH at hsl
  rw[Bool.and_eq_true] at hsl
  have h1:=iF hsl.1
  have h2:=ed hsl.2
  have hu:=fz (aZ a (l.take k)).2 (show 0<l[k].2 by omega)
  unfold mm
  simp only
  by_cases hjk:j<k
  ·obtain⟨o,e1,e2,e3⟩:=ih (by omega) j hl hjk
   exact⟨o,by rw[List.getElem?_append_left (by omega)];exact e1,e2,by omega⟩
  ·obtain rfl:j=k:=by omega
   refine⟨upM (aZ a (l.take j)).2 l[j].2,by rw[List.getElem?_append_right (by omega),hlen,Nat.sub_self];rfl,by omega,by omega⟩
theorem vA (os:List Int) (sl:List (Int×Int)) (S:Int) (x:Ins):em (cU os sl S x).op=em x.op:=by
 unfold cU
 (repeat' split)<;>rename_i h<;>simp_all[em]
theorem Af {F:Pg} {f:Fn} {al:Int} (hF:LowPg2 F) (hf:f∈F) (hfn:fnE F.length f=0) (hal:aR al=true) {x:Ins} (hx:x∈f.code) :
  GI F.length (f.code.length:Nat) f.params (aN F al f).size (cU (aZ (bB F f.code*16) f.slots).1 f.slots (aN F al f).size x):=by
 obtain⟨hc,hsl0,hp,hins,_⟩:=eW.1 hfn
 obtain⟨ho,e1,e2,e3,hm,hmv⟩:=jE.1 (hins x hx)
 rw[fR] at e1 e2 e3
 have hsl:=hF.pg.slot f hf
 have hab:=ld (hF.pg.arg f hf) f.code.length
 rw[List.take_of_length_le (Nat.le_refl _)] at hab
 have hS:=ku (hF.pg.arg f hf) hsl (hF.pg.six f hf) hal
 have hoff:=Bs (a:=bB F f.code*16) (by omega) hsl f.slots.length (Nat.le_refl _)
 rw[List.take_of_length_le (Nat.le_refl _)] at hoff
 have hbb:=jq (a:=bB F f.code*16) (by omega) hsl f.slots.length (Nat.le_refl _)
 rw[List.take_of_length_le (Nat.le_refl _)] at hbb
 have hal0:=ed hal
 have hup:=fz (aZ (bB F f.code*16) f.slots).2 (show 0<al by omega)
 have hSd:(aN F al f).size=upM (aZ (bB F f.code*16) f.slots).2 al:=rfl
 obtain⟨S,hSe⟩:∃S,(aN F al f).size=S:=⟨_,rfl⟩
 rw[hSe] at hS hSd⊢
 have hslot:∀k:Int,0<=k->k<f.slots.length->∃o,(aZ (bB F f.code*16) f.slots).1.getD k.toNat 0=o/\0<=o/\o+bU f.slots k<=S/\szB (bU f.slots k)=true:=fun k h0 h1=>by
  obtain⟨j,rfl⟩:=Int.eq_ofNat_of_zero_le h0
  have hj:j<f.slots.length:=by omega
  obtain⟨o,q1,q2,q3⟩:=hoff j hj hj
  have hz:=hsl _ (List.getElem_mem hj)
  unfold cH at hz
  rw[Bool.and_eq_true] at hz
  rw[lj hj]
  exact⟨o,by rw[Int.toNat_natCast,List.getD_eq_getElem?_getD,q1];rfl,by omega,by omega,hz.1⟩
 have harg:x.op=18->16*x.a+16<=S:=fun h18=>by
  obtain⟨j,hj,rfl⟩:=List.mem_iff_getElem.1 hx
  have h:=(qF (F:=F) f.code.length (Nat.le_refl _) j hj hj).1 h18
  rw[List.take_of_length_le (Nat.le_refl _)] at h
  omega
 clear hoff hbb hup hSd hx hins
 obtain⟨os,hos⟩:∃os,(aZ (bB F f.code*16) f.slots).1=os:=⟨_,rfl⟩
 rw[hos] at hslot⊢
 clear hos
 obtain⟨o,a,b,c,m⟩:=x
 simp only at ho e1 e2 e3 hm hmv harg
 rcases g25 ho.1 ho.2 with rfl|rfl|rfl|rfl|rfl|rfl|rfl|rfl|rfl|rfl|rfl|rfl|rfl|rfl|rfl|rfl|rfl|rfl|rfl|rfl|rfl|rfl|rfl|rfl|rfl
 case inr.inr.inr.inr.inr.inr.inr.inr.inr.inr.inr.inr.inr.inr.inr.inl=>
  obtain⟨z,z1,z2,z3,z4⟩:=hslot b (ai.1 e2).1 (ai.1 e2).2
  have hb:=iF z4
  rw[show cU os f.slots S ⟨15,a,b,c,m⟩=⟨15,a,z,bU f.slots b,0⟩ from by rw[<-z1];rfl]
  exact⟨rfl,l8 e1,l7,oZ z4,.inr rfl,uM rfl rfl hS.1 z2 (by simp only;omega) (by simp only;omega) (by simp only;omega)⟩
 case inr.inr.inr.inr.inr.inr.inr.inr.inr.inr.inr.inr.inr.inr.inr.inr.inl=>
  obtain⟨z,z1,z2,z3,z4⟩:=hslot a (ai.1 e1).1 (ai.1 e1).2
  have hb:=iF z4
  rw[show cU os f.slots S ⟨16,a,b,c,m⟩=⟨16,z,b,bU f.slots a,0⟩ from by rw[<-z1];rfl]
  exact⟨rfl,l7,l8 e2,oZ z4,.inr rfl,pr rfl rfl hp.1 hS.1 z2 (by simp only;omega) (by simp only;omega) (by simp only;omega)⟩
 case inr.inr.inr.inr.inr.inr.inr.inr.inr.inr.inr.inr.inr.inr.inr.inr.inr.inl=>
  obtain⟨z,z1,z2,z3,z4⟩:=hslot a (ai.1 e1).1 (ai.1 e1).2
  obtain⟨y,y1,y2,y3,y4⟩:=hslot b (ai.1 e2).1 (ai.1 e2).2
  have hb:=iF z4
  have heq:bU f.slots a=bU f.slots b:=by
   unfold jb at hmv
   simpa using hmv
  rw[show cU os f.slots S ⟨17,a,b,c,m⟩=⟨17,z,y,bU f.slots a,0⟩ from by rw[<-z1,<-y1];rfl]
  refine⟨rfl,l7,l7,oZ z4,.inr rfl,?_⟩
  unfold el rdI wrI
  rw[show rdB 17=true from rfl,show wrB 17=true from rfl]
  simp only[if_true]
  rw[gK y2 (by omega) (by omega) (by omega),gK z2 (by omega) (by omega) (by omega)]
  rfl
 case inr.inr.inr.inr.inr.inr.inr.inr.inr.inr.inr.inr.inr.inr.inr.inr.inr.inr.inl=>
  have h1:=ai.1 (show ax a 8=true from e1)
  have h2:=harg rfl
  rw[show cU os f.slots S ⟨18,a,b,c,m⟩=⟨16,16*a,b,16,0⟩ from rfl]
  exact⟨rfl,l7,l8 e2,oZ (show szB 16=true by decide),.inr rfl,pr rfl rfl hp.1 hS.1 (by simp only;omega) (by simp only;omega) (by simp only;omega) (by simp only;omega)⟩
 case inr.inr.inr.inr.inr.inr.inr.inr.inr.inr.inr.inr.inr.inr.inr.inr.inr.inr.inr.inl=>
  have h1:=ai.1 (show ax b f.params=true from e2)
  rw[show cU os f.slots S ⟨19,a,b,c,m⟩=⟨15,a,S+16*b,16,0⟩ from rfl]
  exact⟨rfl,l8 e1,l7,oZ (show szB 16=true by decide),.inr rfl,uM rfl rfl hS.1 (by simp only;omega) (by simp only;omega) (by simp only;omega) (by simp only;omega)⟩
 all_goals
  refine⟨rfl,?_,?_,?_,hm,wX rfl rfl hp.1 hS.1⟩
  ·first|exact wv e1|exact l8 e1|exact wu e1|exact wt e1
  ·first|exact wv e2|exact l8 e2|exact wu e2|exact wt e2
  ·first|exact wv e3|exact l8 e3|exact wu e3|exact wt e3
theorem mZ {l l':List Ins} (h:l'.map (fun x=>em x.op)=l.map (fun x=>em x.op)):cB l'=cB l:=by
 have e:∀m:List Ins,cB m=((m.map (fun x=>em x.op)).getLast?).getD false:=fun m=>by
  unfold cB
  rw[List.getLast?_map]
  cases m.getLast?<;>rfl
 rw[e,e,h]
structure FG (N:Nat) (al:Int) (ps:List Int) (q:Fm):Prop where
 p:0<=q.params/\q.params<=8
 s:0<=q.size/\q.size<=268435456
 d:q.size % al=0
 n:q.code.length<=1024
 g:∀x∈q.code,GI N (q.code.length:Nat) q.params q.size x
 cl:cB q.code=true
 call:∀x∈q.code,x.op=22->16*((ps[x.a.toNat]?).getD 0)<=q.size
 imm:∀x∈q.code,0<=x.imm/\x.imm<=18446744073709551615
theorem yP {N:Nat} {al:Int} {ps:List Int} {q:Fm} (h:FG N al ps q) (hal:aR al=true):fmE al N q=0:=by
 have hs:shB al q=true:=by
  unfold shB
  have h1:=h.p
  have h2:=h.s
  rw[hal,ai.2 (show 0<=q.params/\q.params<9 by omega),ai.2 (show 0<=q.size/\q.size<2147483520 by omega),decide_eq_true h.d]
  rfl
 have hf:cC (q.code.map (aC N q))=0:=du.2 fun e he=>by
  obtain⟨x,hx,rfl⟩:=List.mem_map.1 he
  exact(h.g x hx).zero
 have hn:=h.n
 unfold fmE
 rw[if_neg (by rw[hs];decide),if_neg (by omega),if_neg (by rw[hf];decide),if_neg (by rw[h.cl];decide)]
theorem Ag {F:Pg} {funcs most i:Nat} (h:PgGood funcs most F) (hf2:funcs<=80) (hm:most<=100) {al:Int} (hal:aR al=true) {f:Fn} (hf:F[i]?=some f):FG F.length al (F.map Fn.params) (aN F al f):=by
 have hl:=mg h hf2 hm
 have hfm:=List.mem_of_getElem? hf
 have hfn:=(jh.1 h.err).2.2 f hfm
 obtain⟨hc,hsl0,hp,hins,hcl⟩:=eW.1 hfn
 have hgd:=(h.fn i f hf).1
 have hal0:=ed hal
 have hlen:(aN F al f).code.length=f.code.length:=by unfold aN;simp
 have hS:=ku (hl.pg.arg f hfm) (hl.pg.slot f hfm) (hl.pg.six f hfm) hal
 refine⟨hp,hS,Int.emod_eq_zero_of_dvd (ja _ _),by rw[hlen];exact hc,fun y hy=>?_,?_,fun y hy h22=>?_,fun y hy=>?_⟩
 ·obtain⟨x,hx,rfl⟩:=List.mem_map.1 (show y∈f.code.map _ from hy)
  rw[hlen]
  exact Af hl hfm hfn hal hx
 ·rw[<-hcl]
  refine mZ ?_
  show(f.code.map _).map _=_
  rw[List.map_map]
  exact List.map_congr_left fun x _=>vA _ _ _ x
 ·obtain⟨x,hx,rfl⟩:=List.mem_map.1 (show y∈f.code.map _ from hy)
  have hx22:x.op=22:=by
   unfold cU at h22
   by_cases a1:x.op=15
   ·rw[if_pos a1] at h22;simp at h22
   ·rw[if_neg a1] at h22
    by_cases a2:x.op=16
    ·rw[if_pos a2] at h22;simp at h22
    ·rw[if_neg a2] at h22
     by_cases a3:x.op=17
     ·rw[if_pos a3] at h22;simp at h22
     ·rw[if_neg a3] at h22
      by_cases a4:x.op=18
      ·rw[if_pos a4] at h22;simp at h22
      ·rw[if_neg a4] at h22
       by_cases a5:x.op=19
       ·rw[if_pos a5] at h22;simp at h22
       ·rw[if_neg a5] at h22;exact h22
  have hxe:cU (aZ (bB F f.code*16) f.slots).1 f.slots (upM (aZ (bB F f.code*16) f.slots).2 al) x=x:=by
   unfold cU
   rw[if_neg (by omega),if_neg (by omega),if_neg (by omega),if_neg (by omega),if_neg (by omega)]
  rw[hxe]
  obtain⟨j,hj,rfl⟩:=List.mem_iff_getElem.1 hx
  have hg:=(qF (F:=F) f.code.length (Nat.le_refl _) j hj hj).2 hx22
  rw[List.take_of_length_le (Nat.le_refl _)] at hg
  have hab:=ld (hl.pg.arg f hfm) f.code.length
  rw[List.take_of_length_le (Nat.le_refl _)] at hab
  have hbb:=jq (a:=bB F f.code*16) (by omega) (hl.pg.slot f hfm) f.slots.length (Nat.le_refl _)
  rw[List.take_of_length_le (Nat.le_refl _)] at hbb
  have hup:=fz (aZ (bB F f.code*16) f.slots).2 (show 0<al by omega)
  have hSd:(aN F al f).size=upM (aZ (bB F f.code*16) f.slots).2 al:=rfl
  rw[List.getElem?_map]
  omega
 ·obtain⟨x,hx,rfl⟩:=List.mem_map.1 (show y∈f.code.map _ from hy)
  have hi:=hgd.imm x hx
  unfold ph at hi
  unfold cU
  (repeat' split)<;>first|exact hi|exact⟨by decide,by decide⟩|(simp only;omega)
theorem zG {N:Nat} {al:Int} {ps:List Int} {f q:Fm} (h:FG N al ps f) (hp:q.params=f.params) (hs:q.size=f.size) (hc:gw f.size f.code q.code):FG N al ps q:=by
 have hlen:=hc.1
 have hx:∀y∈q.code,∃x∈f.code,(y=x\/(x.op=16/\∃t:Int,0<=t/\t+x.c<=f.size/\y=⟨16,t,x.b,x.c,x.imm⟩)):=fun y hy=>by
  obtain⟨j,hj,rfl⟩:=List.mem_iff_getElem.1 hy
  have hjl:j<f.code.length:=by omega
  exact⟨f.code[j],List.getElem_mem hjl,hc.2 j _ _ (List.getElem?_eq_getElem hjl) (List.getElem?_eq_getElem hj)⟩
 refine⟨by rw[hp];exact h.p,by rw[hs];exact h.s,by rw[hs];exact h.d,by rw[hlen];exact h.n,fun y hy=>?_,?_,fun y hy h22=>?_,fun y hy=>?_⟩
 ·rw[hlen,hp,hs]
  obtain⟨x,hxm,rfl|⟨ho,t,t0,t1,rfl⟩⟩:=hx y hy
  ·exact h.g _ hxm
  ·have g:=h.g x hxm
   have gb:=g.b
   have gc:=g.c
   have gm:=g.m
   rw[ho] at gb gc gm
   have hz:szB x.c=true:=by
    cases e:szB x.c with
    | true=>rfl
    | false=>
     have:aB N (f.code.length:Nat) 3 x.c=5:=by unfold aB;rw[if_neg (by decide),if_neg (by decide),if_neg (by decide),if_pos rfl,if_neg (by rw[e];decide)]
     rw[show(ap 16).2.2.1=3 from rfl,this] at gc
     cases gc
   have hzb:=iF hz
   have hS:=h.s
   exact⟨rfl,l7,gb,gc,gm,pr rfl rfl h.p.1 hS.1 t0 (by simp only;omega) (by simp only;omega) (by simp only;omega)⟩
 ·rw[<-h.cl]
  refine mZ (List.ext_getElem (by simp[hlen]) fun j h1 h2=>?_)
  simp only[List.length_map] at h1 h2
  rw[List.getElem_map,List.getElem_map]
  rcases hc.2 j _ _ (List.getElem?_eq_getElem h2) (List.getElem?_eq_getElem h1) with e|⟨ho,t,_,_,e⟩
  ·rw[e]
  ·rw[e,ho]
 ·rw[hs]
  obtain⟨x,hxm,rfl|⟨ho,t,t0,t1,rfl⟩⟩:=hx y hy
  ·exact h.call _ hxm h22
  ·simp at h22
 ·obtain⟨x,hxm,rfl|⟨ho,t,t0,t1,rfl⟩⟩:=hx y hy
  ·exact h.imm _ hxm
  ·exact h.imm x hxm
theorem qB {F:Pg} {funcs most:Nat} {al:Int} {G:Tg} (h:PgGood funcs most F) (hf2:funcs<=80) (hm:most<=100) (hal:aR al=true) (hv:gu (F.map (aN F al)) G):G.length=F.length/\G.map Fm.params=F.map Fn.params/\∀q∈G,FG F.length al (F.map Fn.params) q:=by
 have hlen:G.length=F.length:=by rw[hv.1,List.length_map]
 have hat:∀(i:Nat) (q:Fm),G[i]?=some q->∃f,F[i]?=some f/\q.params=f.params/\FG F.length al (F.map Fn.params) q:=fun i q hq=>by
  have hi:=(List.getElem?_eq_some_iff.1 hq).1
  have hfi:=List.getElem?_eq_getElem (show i<F.length by omega)
  have h0:(F.map (aN F al))[i]?=some (aN F al F[i]):=by rw[List.getElem?_map,hfi];rfl
  obtain⟨a1,a2,a3⟩:=hv.2 i _ q h0 hq
  exact⟨F[i],hfi,a1,zG (Ag h hf2 hm hal hfi) a1 a2 a3⟩
 refine⟨hlen,List.ext_getElem? fun i=>?_,fun q hq=>?_⟩
 ·rw[List.getElem?_map,List.getElem?_map]
  rcases hg:G[i]? with _|q
  ·have:F[i]?=none:=List.getElem?_eq_none (by have:=List.getElem?_eq_none_iff.1 hg;omega)
   rw[this];rfl
  ·obtain⟨f,hf,hp,_⟩:=hat i q hg
   rw[hf]
   simp[hp]
 ·obtain⟨i,hi,rfl⟩:=List.mem_iff_getElem.1 hq
  exact(hat i _ (List.getElem?_eq_getElem hi)).choose_spec.2.2
theorem uG {F:Pg} {funcs most:Nat} {al:Int} {G:Tg} (h:PgGood funcs most F) (hf2:funcs<=80) (hm:most<=100) (hal:aR al=true) (h16:16<=al) (hv:gu (F.map (aN F al)) G):tgE al G=0:=by
 obtain⟨hlen,hps,hfg⟩:=qB h hf2 hm hal hv
 obtain⟨h80,⟨f0,r0,hF0,hp0⟩,_⟩:=jh.1 h.err
 have hG1:0<G.length:=by rw[hlen,hF0];simp
 have hq0:=List.getElem?_eq_getElem hG1
 have hpe:(G[0]).params=0:=by
  have e:=congrArg (fun l=>l[0]?) hps
  simp only[List.getElem?_map] at e
  rw[hq0,hF0] at e
  simp at e
  rw[e];exact hp0
 rw[kh (by omega) hq0 ⟨hal,h16⟩ hpe]
 have hf:cC (G.map (fmE al G.length))=0:=du.2 fun e he=>by
  obtain⟨q,hq,rfl⟩:=List.mem_map.1 he
  rw[hlen]
  exact yP (hfg q hq) hal
 rw[if_neg (by rw[hf];decide)]
 have hroom:G.all (dD G)=true:=List.all_eq_true.2 fun q hq=>List.all_eq_true.2 fun x hx=>by
  by_cases h22:x.op=22
  ·have hc:=(hfg q hq).call x hx h22
   rw[<-hps,List.getElem?_map] at hc
   unfold dS
   rw[decide_eq_true h22,Bool.true_and,decide_eq_false (by omega)]
   rfl
  ·exact jU h22
 rw[if_pos hroom]
def awF:Tg:=[⟨0,16,[⟨0,0,0,0,5⟩,⟨23,0,0,0,0⟩]⟩]
theorem AI:eN awF:=by
 intro f hf x hx
 simp[awF] at hf
 subst hf
 simp at hx
 rcases hx with rfl|rfl
 ·exact⟨show(0:Int)<=5 by decide,show(5:Int)<=18446744073709551615 by decide⟩
 ·exact⟨Int.le_refl _,show(0:Int)<=18446744073709551615 by decide⟩
theorem uU:bL 16 awF 9 16=0:=by unfold bL;decide
theorem AH:(aY 16 awF [] 9 16).c.steps=2/\(aY 16 awF [] 9 16).c.res=5:=by
 unfold aY
 rw[if_pos uU]
 exact⟨by kernel_rfl,by kernel_rfl⟩
theorem qj (w:World):Calls Tryz.prog 4 #[] w fun e w'=>e=.returned (.bool true)/\Below w.heap.size w w':=by
 obtain⟨W,hW⟩:∃W,(w.alloc (.cells #[.int .i64 0,.int .i64 0,.int .i64 0,.int .i64 0,.int .u64 5,.int .i64 23,.int .i64 0,.int .i64 0,.int .i64 0,.int .u64 0] 50)).alloc (.cells #[.int .i64 0,.int .i64 16,.slice (some ⟨w.heap.size,0,none⟩) 2 2] 53)=W:=⟨_,rfl⟩
 have HW:=aa hW
 have hb:=aa (show Below w.heap.size w W by rw[<-hW];exact aP w _ _)
 have r0:=aa (show Row W w.heap.size 50 (au [⟨0,0,0,0,5⟩,⟨23,0,0,0,0⟩]) by rw[<-hW];exact(Row.new w _ (au [⟨0,0,0,0,5⟩,⟨23,0,0,0,0⟩])).alloc _)
 have r1:=aa (show Row W (w.heap.size+1) 53 (aV [⟨0,16,some ⟨w.heap.size,0,none⟩,2,2⟩]) by rw[<-hW];exact(Row.new _ 53 [.int .i64 0,.int .i64 16,.slice (some ⟨w.heap.size,0,none⟩) 2 2]).at_ (by simp))
 have HT:=aa (show TgAt W 0 W.heap.size (some ⟨w.heap.size+1,0,none⟩) 1 1 [⟨0,16,some ⟨w.heap.size,0,none⟩,2,2⟩] awF from
  ⟨rfl,⟨(fun e=>by cases e),Nat.le_refl _,by omega⟩,Far.zero _,fun k u hu=>⟨w.heap.size+1,0,rfl,r1.out.lt,by rw[Nat.zero_add];exact r1.out.cell hu⟩,⟨rfl,fun j h f h1 h2=>by
   rcases j with _|j
   ·injection h1 with h1
    injection h2 with h2
    subst h1
    subst h2
    exact⟨rfl,rfl,rfl,⟨(fun e=>by cases e),Nat.le_refl _,show(2:Nat)<=8796093022208 by omega⟩,Far.zero _,fun k u hu=>⟨w.heap.size,0,rfl,r0.out.lt,by rw[Nat.zero_add];exact r0.out.cell hu⟩⟩
   ·simp at h1⟩⟩)
 have cc:=oJ 16 awF [] 9 16 none 0 0 W (aa AI) (aa ⟨none,0,0,rfl,rfl,Nat.le_refl _,by omega,fun _=>rfl,an.nil_ _ _ _⟩) (aa (fun v hv=>by cases hv)) HT
 unfold sG at cc
 rw[uU] at cc
 clear hW
 go_enter Tryz.func4,Tryz.ntmps4
 go_wp2_with fail
 rw[HW.out]
 refine cc.mono ?_
 rintro e w2 ⟨vt,rfl,hto,hb2⟩
 obtain⟨At,ct,rfl⟩:=jC hto
 clear hto
 generalize(aY 16 awF [] 9 16).c.trace.length=nt
 obtain⟨c,hc⟩:∃c,(aY 16 awF [] 9 16).c=c:=⟨_,rfl⟩
 have hs:=AH
 rw[hc] at hs⊢
 have hs1:(c.steps:Int)=2:=by omega
 have hs2:lo c.res=5:=by rw[hs.2];rfl
 unfold cK
 rw[hs1,hs2]
 have HB:=aa (hb.out.trans (hb2.mono hb.out.size))
 clear hb2 cc r0 r1 HW hb hc hs
 have HB2:=aa (HB.out.alloc HB.out.size (.cells #[.int .i64 c.kind,.int .u64 c.code,.int .u64 5,.int .u64 (hi c.res),(.slice At nt ct),.int .i64 2] 41))
 go_wp2_with fail
 go_ret
 exact⟨rfl,HB2.out⟩
theorem zS {w:World} {base n c:Nat} {A:Option Addr} {e:TypeId} {l:List Nat} (h:w.ownsRow base e 1 (.slice A n c) n (dM l)) (hl:l.length=n):cD w w.heap.size (.slice A n c) l:=by
 refine⟨A,n,c,rfl,hl,(hJ h).2,?_,(hJ h).1,an.own h⟩
 rcases h.2 with⟨he,h0⟩|⟨g,cap,cur,he,_,_,_,hm,_⟩
 ·injection he with e1 e2 e3;omega
 ·injection he with e1 e2 e3
  unfold maxLen at hm
  omega
def AL (w:World) (e:Ending) (w':World):Prop:=
 ∃(Al:Int) (A:Option Addr) (n c:Nat) (hh:List Fd) (G:Tg) (Ai:Option Addr) (ni ci:Nat) (inp:List Nat) (fuel size gk lo:Nat),
  e=.returned (.tuple #[tv Al A n c,.slice Ai ni ci,.int .i64 (fuel:Int),.int .i64 (size:Int),.pointer (some ⟨gk,0,none⟩)])/\TgAt w' lo w'.heap.size A n c hh G/\tgE Al G=0/\eN G/\(∀q∈G,1<=q.code.length/\q.code.length<=1024)/\1<=n/\n<=4 /\
  cD w' w'.heap.size (.slice Ai ni ci) inp/\(∀v∈inp,v<18446744073709551616)/\fuel<256/\size<=1279/\gk<lo/\lo<=w'.heap.size/\w.heap.size<=gk/\ar w' gk/\Below w.heap.size w w'
theorem ar.into {w:World} {g k j t:Nat} {cs:List Value} {u0:Value} (h:ar w g) (hr:Row w k t cs) (hk:g≠k) (hc:w.cell? ⟨k,j,none⟩=some u0) (hu:∀z:Int,u0≠.int .u8 z) (u:Value):ar (w.setCell ⟨k,j,none⟩ u) g:=by
 obtain⟨A,n,c,zs,i,r,s,h1,h2,h3,h4⟩:=h
 refine⟨A,n,c,zs,i,r.far (p:=⟨k,j,none⟩) (fun e=>hk e) u,?_,h1,h2,h3,h4⟩
 intro q v hq
 obtain⟨bl,off,e,hbl,hcc⟩:=s q v hq
 refine⟨bl,off,e,hbl,?_⟩
 have hv:∃z,v=.int .u8 z:=by
  have:=List.mem_of_getElem? hq
  simp only[aq,List.mem_map] at this
  obtain⟨z,_,rfl⟩:=this
  exact⟨z,rfl⟩
 rw[World.cell?_setCell_other _ _ _ _ (fun e2=>by
  obtain⟨z,rfl⟩:=hv
  rw[<-e2,hc] at hcc
  injection hcc with hcc
  exact hu z hcc)]
 exact hcc
theorem s9 {w v:World} {al:Int} {A Ai:Option Addr} {n c ni ci g lo ib:Nat} {hh:List Fd} {G:Tg} {inp:List Nat}
  (RR:Row v w.heap.size 26 [.int .i64 0,.slice none 0 0]) (HG:TgAt v lo v.heap.size A n c hh G) (HI:v.ownsRow ib 36 1 (.slice Ai ni ci) ni (dM inp)) (hil:inp.length=ni) (hC:ar v g) (hB:Below w.heap.size w v) (hwg:w.heap.size<g) (hgl:g<lo) (hgb:g<ib) :
  ∃V,(v.setCell ⟨w.heap.size,0,none⟩ (.int .i64 al)).setCell ⟨w.heap.size,1,none⟩ (.slice A n c)=V/\Row V w.heap.size 26 [.int .i64 al,.slice A n c]/\TgAt V lo V.heap.size A n c hh G/\cD V V.heap.size (.slice Ai ni ci) inp/\ar V g/\Below w.heap.size w V/\V.heap.size=v.heap.size:=by
 have hs:((v.setCell ⟨w.heap.size,0,none⟩ (.int .i64 al)).setCell ⟨w.heap.size,1,none⟩ (.slice A n c)).heap.size=v.heap.size:=by simp[World.setCell]
 refine⟨_,rfl,(RR.set_ 0 _).set_ 1 _,?_,?_,?_,?_,hs⟩
 ·rw[hs]
  refine HG.keep fun p h1 h2=>?_
  rw[World.cell?_setCell_other _ _ _ _ (fun e=>by have e2:=congrArg Addr.block e;simp only at e2;omega),World.cell?_setCell_other _ _ _ _ (fun e=>by have e2:=congrArg Addr.block e;simp only at e2;omega)]
 ·have g0:=i6 v w.heap.size 0 (.int .i64 al)
  have I1:=HI.kept g0 (iu HI (by omega))
  have g1:=i6 (v.setCell ⟨w.heap.size,0,none⟩ (.int .i64 al)) w.heap.size 1 (.slice A n c)
  exact zS (I1.kept g1 (iu I1 (by omega))) hil
 ·have R1:=RR.set_ 0 (.int .i64 al)
  exact(hC.into RR (by omega) (RR.cell (k:=0) rfl) (fun z e=>by cases e) (.int .i64 al)).into R1 (by omega) (R1.cell (k:=1) rfl) (fun z e=>by cases e) (.slice A n c)
 ·exact(hB.setCell (p:=⟨w.heap.size,0,none⟩) (Nat.le_refl _) _).setCell (p:=⟨w.heap.size,1,none⟩) (Nat.le_refl _) _
theorem pU (A0:Option Addr) (n0 c0:Nat) (zs:List Int) (w:World)
  (hA:Hid (A0=none->c0=0)) (hn:Hid (zs.length=n0)) (hnc:n0<=c0) (hm:n0<=9223372036854775807) (hs:Hid (an w w.heap.size A0 (aq zs))) (hz:Hid (∀z∈zs,0<=z/\z<=255)) :
  Calls Tryz.prog 5 #[.slice A0 n0 c0] w (AL w):=by
 obtain⟨W1,hW1⟩:∃W,w.alloc (.cells #[.int .i64 0,.slice none 0 0] 26)=W:=⟨_,rfl⟩
 have HW1:=aa hW1
 have RR1:=aa (show Row W1 w.heap.size 26 [.int .i64 0,.slice none 0 0] by rw[<-hW1];exact Row.new w _ _)
 have hb1:Below w.heap.size w W1:=by rw[<-hW1];exact ag w _
 have HB1:=aa hb1
 have cn:=yD A0 n0 c0 zs 300 W1 hA hn hnc hm (by omega) (aa ((hs.out.below hb1).more hb1.size)) hz
 rw[show((300:Nat):Int)=300 from rfl] at cn
 have hsz1:W1.heap.size=w.heap.size+1:=by rw[<-hW1];simp
 clear hW1 hb1 hs hA hn hz
 go_enter Tryz.func5,Tryz.ntmps5
 go_upto_region 1 with(fail)
 rw[HW1.out]
 clear HW1
 go_wp2_with fail
 refine cn.mono ?_
 rintro e w2 ⟨rfl,hC2,hb2⟩
 obtain⟨g,hg⟩:∃g,W1.heap.size=g:=⟨_,rfl⟩
 have HB2:=aa (ac HB1.out hb2)
 have RR2:=aa (RR1.out.call hb2)
 have hwg:w.heap.size<g:=by omega
 rw[hg] at hC2⊢
 have hgl:=hC2.lt
 have cd:=yY g 4 12 w2 (aa hC2) (by omega) (by omega) (by omega)
 rw[show((4:Nat):Int)=4 from rfl,show((12:Nat):Int)=12 from rfl] at cd
 clear hb2 cn hg hC2 hsz1
 go_wp2_with fail
 refine cd.mono ?_
 rintro e w3 ⟨F,A,n,c,hh,G,rfl,htg,hn1,hn2,hFl,hgd,hap,h16,hsv,hC3,hG3⟩
 have hfg:=(qB hgd (by omega) (by omega) hap hsv).2.2
 have HI3:=aa (show eN G from fun q hq x hx=>(hfg q hq).imm x hx)
 have HL3:=aa (show∀q∈G,1<=q.code.length/\q.code.length<=1024 from fun q hq=>⟨jT (hfg q hq).cl,(hfg q hq).n⟩)
 have HE3:=aa (uG hgd (by omega) (by omega) hap h16 hsv)
 obtain⟨al,hal⟩:∃a,alP F n=a:=⟨_,rfl⟩
 rw[hal] at HE3⊢
 obtain⟨P,hP⟩:∃P,w3.heap.size=P:=⟨_,rfl⟩
 obtain⟨W4,hW4⟩:∃V,w3.alloc (.cells #[.int .i64 al,.slice A n c] 26)=V:=⟨_,rfl⟩
 have HW4:=aa hW4
 have HPP:=aa hP
 have h34:Below w3.heap.size w3 W4:=by rw[<-hW4];exact ag w3 _
 have B4:=aa (ac (cW HB2.out hG3 (by omega) HB2.out.size) h34)
 have R4:=aa (show Row W4 P 26 [.int .i64 al,.slice A n c] by rw[<-hW4,<-hP];exact Row.new w3 _ _)
 have RR4:=aa ((RR2.out.grown hG3 (fun e=>by injection e with e;omega)).call h34)
 have G4:=aa (htg.call h34)
 have C4:=aa (hC3.below h34)
 have hs34:=h34.size
 have hs23:=hG3.size
 have hgP:g<P:=by omega
 obtain⟨lo,hlo⟩:∃lo,w2.heap.size=lo:=⟨_,rfl⟩
 rw[hlo] at G4 hgl hs23
 have hloP:lo<=P:=by omega
 clear hal hP hW4 htg hG3 hgd hap h16 hsv cd HB2 HB1 hC3 h34 hfg hlo RR1 RR2
 go_upto_region 3 with(fail)
 rw[HW4.out,HPP.out]
 clear HW4 HPP
 have hP4:=aa (show P<W4.heap.size from R4.out.lt)
 go_wp2_with fail
 refine(uv g W4 C4).mono ?_
 rintro e w5 ⟨Ai,ni,ci,inp,rfl,hil,hin,hiA,hio,hiv,hC5,hG5⟩
 have HIV:=aa hiv
 have HIL:=aa hil
 have hgb:g<W4.heap.size:=by have:=R4.out.lt;omega
 obtain⟨ib,hib⟩:∃ib,W4.heap.size=ib:=⟨_,rfl⟩
 have I5:=aa hio
 rw[hib] at I5 hgb
 have hgw:w.heap.size<=g:=by omega
 have B5:=aa (cW B4.out hG5 hgw B4.out.size)
 have R5:=aa (R4.out.grown hG5 (fun e=>by injection e with e;omega))
 have RR5:=aa (RR4.out.grown hG5 (fun e=>by injection e with e;omega))
 have G5:=aa ((G4.out.grown hG5 hgl (Nat.le_refl _)).more hG5.size (Nat.le_refl _))
 have C5:=aa hC5
 clear hil hin hiA hio hiv hC5 hG5 C4 B4 R4 RR4 G4 hib hP4
 go_wp2_with fail
 refine(a6 g 256 w5 C5 (by omega) (by omega)).mono ?_
 rintro e w6 ⟨a,rfl,a0,a1,hC,hG,-⟩
 have B6:=aa (cW B5.out hG hgw B5.out.size)
 have R6:=aa (R5.out.grown hG (fun e=>by injection e with e;omega))
 have RR6:=aa (RR5.out.grown hG (fun e=>by injection e with e;omega))
 have G6:=aa ((G5.out.grown hG hgl (Nat.le_refl _)).more hG.size (Nat.le_refl _))
 have C6:=aa hC
 have I6:=aa (I5.out.kept hG (iu I5.out hgb))
 clear hC hG C5 B5 R5 RR5 G5 I5
 go_wp2_with fail
 refine(a6 g 80 w6 C6 (by omega) (by omega)).mono ?_
 rintro e w7 ⟨b,rfl,b0,b1,hC,hG,-⟩
 have B7:=aa (cW B6.out hG hgw B6.out.size)
 have R7:=aa (R6.out.grown hG (fun e=>by injection e with e;omega))
 have RR7:=aa (RR6.out.grown hG (fun e=>by injection e with e;omega))
 have G7:=aa ((G6.out.grown hG hgl (Nat.le_refl _)).more hG.size (Nat.le_refl _))
 have C7:=aa hC
 have I7:=aa (I6.out.kept hG (iu I6.out hgb))
 clear hC hG C6 B6 R6 RR6 G6 I6
 have hw1:IntKind.i64.wrap (16*b)=16*b:=by rw[IntKind.wrap_i64];omega
 go_wp2_with fail
 refine(a6 g 4 w7 C7 (by omega) (by omega)).mono ?_
 rintro e w8 ⟨q,rfl,q0,q1,hC,hG,-⟩
 have B8:=aa (cW B7.out hG hgw B7.out.size)
 have R8:=aa (R7.out.grown hG (fun e=>by injection e with e;omega))
 have RR8:=aa (RR7.out.grown hG (fun e=>by injection e with e;omega))
 have G8:=aa ((G7.out.grown hG hgl (Nat.le_refl _)).more hG.size (Nat.le_refl _))
 have C8:=aa hC
 have I8:=aa (I7.out.kept hG (iu I7.out hgb))
 clear hC hG C7 B7 R7 RR7 G7 I7
 obtain⟨fuel,rfl⟩:∃k:Nat,a=(k:Int):=⟨a.toNat,by omega⟩
 have f0:=RR8.out.free 0
 have f1:=RR8.out.free 1
 by_cases hq:q=3
 ·subst hq
  go_wp2_with fail
  refine(a6 g 16 w8 C8 (by omega) (by omega)).mono ?_
  rintro e w9 ⟨d,rfl,d0,d1,hC,hG,-⟩
  have B9:=aa (cW B8.out hG hgw B8.out.size)
  have R9:=aa (R8.out.grown hG (fun e=>by injection e with e;omega))
  have RR9:=aa (RR8.out.grown hG (fun e=>by injection e with e;omega))
  have G9:=aa ((G8.out.grown hG hgl (Nat.le_refl _)).more hG.size (Nat.le_refl _))
  have C9:=aa hC
  have I9:=aa (I8.out.kept hG (iu I8.out hgb))
  clear hC hG C8 B8 R8 RR8 G8 I8 f0 f1
  have f0:=RR9.out.free 0
  have f1:=RR9.out.free 1
  have t0:=R9.out.cell (k:=0) rfl
  have t1:=R9.out.cell (k:=1) rfl
  have s0:=RR9.out.cell (k:=0) rfl
  have s1:=RR9.out.cell (k:=1) rfl
  have hw2:IntKind.i64.wrap (16*b+d)=16*b+d:=by rw[IntKind.wrap_i64];omega
  go_wp2_with fail
  obtain⟨V,hV,RV,GV,IV,CV,BV,hVs⟩:=s9 (al:=al) RR9.out G9.out I9.out HIL.out C9.out B9.out hwg hgl hgb
  rw[hV]
  have k0:=RV.cell (k:=0) rfl
  have k1:=RV.cell (k:=1) rfl
  obtain⟨size,hsz⟩:∃k:Nat,16*b+d=(k:Int):=⟨(16*b+d).toNat,by omega⟩
  rw[hsz]
  refine bodyPost_ret (v:=.tuple #[tv al A n c,.slice Ai ni ci,.int .i64 (fuel:Int),.int .i64 (size:Int),.pointer (some ⟨g,0,none⟩)]) (by simp[results,Tryz.results5,go_sem,k0,k1,tv]) rfl ?_
  have hlV:=R9.out.lt
  exact⟨al,A,n,c,hh,G,Ai,ni,ci,inp,fuel,size,g,lo,rfl,GV,HE3.out,HI3.out,HL3.out,hn1,hn2,IV,HIV.out,by omega,by omega,hgl,by have:=CV.lt;omega,by omega,CV,BV⟩
 ·have t0:=R8.out.cell (k:=0) rfl
  have t1:=R8.out.cell (k:=1) rfl
  have s0:=RR8.out.cell (k:=0) rfl
  have s1:=RR8.out.cell (k:=1) rfl
  go_wp2_with fail
  obtain⟨V,hV,RV,GV,IV,CV,BV,hVs⟩:=s9 (al:=al) RR8.out G8.out I8.out HIL.out C8.out B8.out hwg hgl hgb
  rw[hV]
  have k0:=RV.cell (k:=0) rfl
  have k1:=RV.cell (k:=1) rfl
  obtain⟨size,hsz⟩:∃k:Nat,16*b=(k:Int):=⟨(16*b).toNat,by omega⟩
  rw[hsz]
  refine bodyPost_ret (v:=.tuple #[tv al A n c,.slice Ai ni ci,.int .i64 (fuel:Int),.int .i64 (size:Int),.pointer (some ⟨g,0,none⟩)]) (by simp[results,Tryz.results5,go_sem,k0,k1,tv]) rfl ?_
  have hlV:=R8.out.lt
  exact⟨al,A,n,c,hh,G,Ai,ni,ci,inp,fuel,size,g,lo,rfl,GV,HE3.out,HI3.out,HL3.out,hn1,hn2,IV,HIV.out,by omega,by omega,hgl,by have:=CV.lt;omega,by omega,CV,BV⟩
end Go.Proofs.YtjbgepjdohfhkaaGreat
