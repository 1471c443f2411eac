/- Targets in memory: rows of frames, what lies behind them; kept over what a call leaves. No function of the program is named here. -/
import Derived.Test.YtjbgepjdohfhkaaGreatMRpl2
set_option linter.unusedVariables false
set_option linter.unusedSimpArgs false
set_option maxRecDepth 100000
set_option maxHeartbeats 4000000
namespace Go.Proofs.YtjbgepjdohfhkaaGreat
open Go.RowKit
abbrev mv (P S:Int) (A:Option Addr) (n c:Nat):Value:=.agg #[.int .i64 P,.int .i64 S,.slice A n c]
abbrev tv (Al:Int) (A:Option Addr) (n c:Nat):Value:=.agg #[.int .i64 Al,.slice A n c]
structure Fd where
 p:Int
 s:Int
 a:Option Addr
 n:Nat
 c:Nat
def pm (h:Fd):List Value:=[.int .i64 h.p,.int .i64 h.s,.slice h.a h.n h.c]
def aV (l:List Fd):List Value:=l.flatMap pm
theorem fa (h:Fd):(pm h).length=3:=rfl
theorem j7 (l:List Fd):(aV l).length=l.length*3:=jl fa l
theorem j8 (l m:List Fd):aV (l++m)=aV l++aV m:=by simp[aV]
theorem fB (l:List Fd):∀v∈aV l,v.oneCell'=true:=by
 intro v hv
 simp only[aV,List.mem_flatMap] at hv
 obtain⟨x,_,hv⟩:=hv
 simp[pm] at hv
 rcases hv with rfl|rfl|rfl<;>rfl
structure FdAt (w:World) (lo B:Nat) (h:Fd) (f:Fm):Prop where
 p:h.p=f.params
 s:h.s=f.size
 l:f.code.length=h.n
 k:Cap h.a h.n h.c
 fr:Far lo h.a
 c:an w B h.a (au f.code)
structure Fds (w:World) (lo B:Nat) (hs:List Fd) (F:Tg):Prop where
 len:hs.length=F.length
 at_:∀(k:Nat) (h:Fd) (f:Fm),hs[k]?=some h->F[k]?=some f->FdAt w lo B h f
structure TgAt (w:World) (lo B:Nat) (A:Option Addr) (n c:Nat) (hs:List Fd) (F:Tg):Prop where
 len:F.length=n
 cap:Cap A n c
 far:Far lo A
 see:an w B A (aV hs)
 hd:Fds w lo B hs F
section
variable {w w':World} {lo lo' B B':Nat} {h:Fd} {f:Fm} {hs:List Fd} {F:Tg} {A:Option Addr} {n c:Nat}
theorem FdAt.keep (H:FdAt w lo B h f) (hk:∀p:Addr,lo<=p.block->p.block<B->w'.cell? p=w.cell? p):FdAt w' lo B h f:=⟨H.p,H.s,H.l,H.k,H.fr,H.c.keepF H.fr hk⟩
theorem FdAt.more (H:FdAt w lo B h f) (hB:B<=B') (hl:lo'<=lo):FdAt w lo' B' h f:=⟨H.p,H.s,H.l,H.k,H.fr.more hl,H.c.more hB⟩
theorem Fds.keep (H:Fds w lo B hs F) (hk:∀p:Addr,lo<=p.block->p.block<B->w'.cell? p=w.cell? p):Fds w' lo B hs F:=⟨H.len,fun k h f e1 e2=>(H.at_ k h f e1 e2).keep hk⟩
theorem Fds.more (H:Fds w lo B hs F) (hB:B<=B') (hl:lo'<=lo):Fds w lo' B' hs F:=⟨H.len,fun k h f e1 e2=>(H.at_ k h f e1 e2).more hB hl⟩
theorem TgAt.keep (H:TgAt w lo B A n c hs F) (hk:∀p:Addr,lo<=p.block->p.block<B->w'.cell? p=w.cell? p):TgAt w' lo B A n c hs F:=⟨H.len,H.cap,H.far,H.see.keepF H.far hk,H.hd.keep hk⟩
theorem TgAt.more (H:TgAt w lo B A n c hs F) (hB:B<=B') (hl:lo'<=lo):TgAt w lo' B' A n c hs F:=⟨H.len,H.cap,H.far.more hl,H.see.more hB,H.hd.more hB hl⟩
theorem TgAt.below (H:TgAt w lo B A n c hs F) (hb:Below B w w'):TgAt w' lo B A n c hs F:=H.keep fun _ _ hp=>hb.cell hp
theorem TgAt.call (H:TgAt w lo w.heap.size A n c hs F) (hb:Below w.heap.size w w'):TgAt w' lo w'.heap.size A n c hs F:=(H.below hb).more hb.size (Nat.le_refl _)
theorem TgAt.drewN (H:TgAt w lo B A n c hs F) (k:Nat):TgAt (w.drewN k) lo B A n c hs F:=H.keep fun _ _ _=>rfl
theorem TgAt.alloc (H:TgAt w lo w.heap.size A n c hs F) (o:Obj):TgAt (w.alloc o) lo (w.alloc o).heap.size A n c hs F:=H.call (ag w o)
theorem TgAt.grown {g:Nat} (H:TgAt w lo B A n c hs F) (hg:w.grownBy w' (some g)) (hlo:g<lo) (hB:B<=w.heap.size):TgAt w' lo B A n c hs F:=
 H.keep fun p h1 h2=>World.cell?_of_block (hg.block p.block (by omega) (fun e=>by injection e with e;omega))
theorem FdAt.below (H:FdAt w lo B h f) (hb:Below B w w'):FdAt w' lo B h f:=H.keep fun _ _ hp=>hb.cell hp
theorem FdAt.grown {g:Nat} (H:FdAt w lo B h f) (hg:w.grownBy w' (some g)) (hlo:g<lo) (hB:B<=w.heap.size):FdAt w' lo B h f:=
 H.keep fun p h1 h2=>World.cell?_of_block (hg.block p.block (by omega) (fun e=>by injection e with e;omega))
theorem xB {l:List Fd} {k:Nat} (h:an w B A (aV l)) (hk:k<l.length) :
  ∃b off,A=some ⟨b,off,none⟩/\b<B/\w.cell? ⟨b,off+k*3,none⟩=some (.int .i64 l[k].p)/\w.cell? ⟨b,off+k*3+1,none⟩=some (.int .i64 l[k].s)/\w.cell? ⟨b,off+k*3+2,none⟩=some (.slice l[k].a l[k].n l[k].c):=by
 have hx:=List.getElem?_eq_getElem hk
 have g:=fun j hj=>fs fa l k _ hx j hj
 obtain⟨b,off,e,hb,h0⟩:=h _ _ (g 0 (by omega))
 obtain⟨b1,o1,e1,_,h1⟩:=h _ _ (g 1 (by omega))
 obtain⟨b2,o2,e2,_,h2⟩:=h _ _ (g 2 (by omega))
 subst e
 injection e1 with e1;injection e1 with x1 y1;subst x1 y1
 injection e2 with e2;injection e2 with x2 y2;subst x2 y2
 exact⟨b,off,rfl,hb,h0,h1,h2⟩
theorem dk {k:Nat} (H:TgAt w lo B A n c hs F) (hk:k<n) :
  ∃(b off:Nat) (P S:Int) (A1:Option Addr) (n1 c1:Nat) (f:Fm),A=some ⟨b,off,none⟩/\b<B/\F[k]?=some f/\hs[k]?=some ⟨P,S,A1,n1,c1⟩/\FdAt w lo B ⟨P,S,A1,n1,c1⟩ f /\
   w.cell? ⟨b,off+k*3,none⟩=some (.int .i64 P)/\w.cell? ⟨b,off+k*3+1,none⟩=some (.int .i64 S)/\w.cell? ⟨b,off+k*3+2,none⟩=some (.slice A1 n1 c1):=by
 have h1:k<F.length:=by rw[H.len];exact hk
 have h2:k<hs.length:=by rw[H.hd.len];exact h1
 obtain⟨b,off,e,hb,c0,c1,c2⟩:=xB H.see h2
 exact⟨b,off,_,_,_,_,_,F[k],e,hb,List.getElem?_eq_getElem h1,List.getElem?_eq_getElem h2,H.hd.at_ k _ _ (List.getElem?_eq_getElem h2) (List.getElem?_eq_getElem h1),c0,c1,c2⟩
theorem uE {k:Nat} {f:Fm} {P S:Int} {A1:Option Addr} {n1 c1:Nat} (H:TgAt w lo B A n c hs F) (hf:F[k]?=some f) (hh:hs[k]?=some ⟨P,S,A1,n1,c1⟩) :
  ∃(b off:Nat),A=some ⟨b,off,none⟩/\b<B/\FdAt w lo B ⟨P,S,A1,n1,c1⟩ f /\
   w.cell? ⟨b,off+k*3,none⟩=some (.int .i64 P)/\w.cell? ⟨b,off+k*3+1,none⟩=some (.int .i64 S)/\w.cell? ⟨b,off+k*3+2,none⟩=some (.slice A1 n1 c1):=by
 have hk:k<n:=by rw[<-H.len];exact(List.getElem?_eq_some_iff.1 hf).1
 obtain⟨b,off,_,_,_,_,_,_,e,hb,e1,e2,h,c0,c1,c2⟩:=dk H hk
 rw[hf] at e1;injection e1 with e1;subst e1
 rw[hh] at e2;injection e2 with e2;injection e2 with x1 x2 x3 x4 x5;subst x1 x2 x3 x4 x5
 exact⟨b,off,e,hb,h,c0,c1,c2⟩
end
def gd (a:Nat×Nat):List Value:=[.int .i64 (a.1:Int),.int .i64 (a.2:Int)]
def aA (l:List (Nat×Nat)):List Value:=l.flatMap gd
theorem kj (a:Nat×Nat):(gd a).length=2:=rfl
theorem dV (l:List (Nat×Nat)):(aA l).length=l.length*2:=jl kj l
theorem eB (l m:List (Nat×Nat)):aA (l++m)=aA l++aA m:=by simp[aA]
theorem io (a:Nat×Nat):∀u∈gd a,u.oneCell'=true:=by
 intro u hu
 simp[gd] at hu
 rcases hu with rfl|rfl<;>rfl
theorem gR {l:List (Nat×Nat)} {k:Nat} {a:Nat×Nat} (h:l[k]?=some a):(aA l)[k*2]?=some (.int .i64 (a.1:Int))/\(aA l)[k*2+1]?=some (.int .i64 (a.2:Int)):=
 ⟨fs kj l k a h 0 (by omega),fs kj l k a h 1 (by omega)⟩
def db (T0:Nat) (s:Tm) (vf:Value) (A1:Option Addr) (c1:Nat) (A2:Option Addr) (c2:Nat) (vs:Value):List Value:=
 [vf,.slice A1 s.mem.bs.length c1,.slice A2 s.mem.bs.length c2,.int .i64 (s.mem.sp:Int),.int .i64 (T0:Int),vs,.int .i64 (s.deep:Int)]
structure TmAt (w:World) (g base fu T0:Nat) (vi vt vf:Value) (A1:Option Addr) (c1:Nat) (A2:Option Addr) (c2:Nat) (vs:Value) (s:Tm):Prop where
 core:CoAt w g base 71 fu vi vt (db T0 s vf A1 c1 A2 c2 vs) s.c
 own:StkOwn w base A1 c1 A2 c2 s.mem 5 4
 st:w.ownsRow base 137 2 vs s.st.length (aA s.st)
def AK (w:World) (g base fu T0:Nat) (vf:Value) (s:Tm):Prop:=∃vi vt A1 c1 A2 c2 vs,TmAt w g base fu T0 vi vt vf A1 c1 A2 c2 vs s
section
variable {w w':World} {g base fu T0:Nat} {vi vt vf vs:Value} {A1 A2:Option Addr} {c1 c2:Nat} {s:Tm}
theorem TmAt.gl (h:TmAt w g base fu T0 vi vt vf A1 c1 A2 c2 vs s):g<w.heap.size:=h.core.gl
theorem TmAt.bl (h:TmAt w g base fu T0 vi vt vf A1 c1 A2 c2 vs s):base<=w.heap.size:=h.core.bl
theorem TmAt.call (h:TmAt w g base fu T0 vi vt vf A1 c1 A2 c2 vs s) (hb:Below w.heap.size w w'):TmAt w' g base fu T0 vi vt vf A1 c1 A2 c2 vs s:=⟨h.core.call hb,h.own.below hb,bZ h.st hb⟩
theorem TmAt.drewN (h:TmAt w g base fu T0 vi vt vf A1 c1 A2 c2 vs s) (n:Nat):TmAt (w.drewN n) g base fu T0 vi vt vf A1 c1 A2 c2 vs s:=h.call (am (Below.refl _ _) n)
theorem TmAt.drew_ (h:TmAt w g base fu T0 vi vt vf A1 c1 A2 c2 vs s):TmAt w.drew g base fu T0 vi vt vf A1 c1 A2 c2 vs s:=h.drewN 1
theorem TmAt.alloc (h:TmAt w g base fu T0 vi vt vf A1 c1 A2 c2 vs s) (o:Obj):TmAt (w.alloc o) g base fu T0 vi vt vf A1 c1 A2 c2 vs s:=h.call (ag w o)
theorem TmAt.in_ (h:TmAt w g base fu T0 vi vt vf A1 c1 A2 c2 vs s):AK w g base fu T0 vf s:=⟨_,_,_,_,_,_,_,h⟩
theorem TmAt.far (h:TmAt w g base fu T0 vi vt vf A1 c1 A2 c2 vs s) (j:Nat) {v:Value} (hv:(db T0 s vf A1 c1 A2 c2 vs)[j]?=some v):w.cell? ⟨g,25+j,none⟩=some v:=h.core.behind j hv
theorem TmAt.free (h:TmAt w g base fu T0 vi vt vf A1 c1 A2 c2 vs s) (j:Nat):w.frozen? ⟨g,j,none⟩=false:=h.core.row.free j
theorem TmAt.mem (h:TmAt w g base fu T0 vi vt vf A1 c1 A2 c2 vs s):MemAt w g 26 base 71 (bD fu s.c vi vt++db T0 s vf A1 c1 A2 c2 vs) A1 c1 A2 c2 s.mem:=
 ⟨h.core.row,by rw[show 26=24+2 from rfl,fd h.core.r8];rfl,by rw[show 26+1=24+3 from rfl,fd h.core.r8];rfl,by rw[show 26+2=24+4 from rfl,fd h.core.r8];rfl,h.own,h.core.gb,by decide,by decide⟩
theorem TmAt.turned (h:TmAt w g base fu T0 vi vt vf A1 c1 A2 c2 vs s) {S:Sk} (hm:MemAt w' g 26 base 71 ((bD fu s.c vi vt++db T0 s vf A1 c1 A2 c2 vs).set (26+2) (.int .i64 (S.sp:Int))) A1 c1 A2 c2 S) (hk:MKp w w' g base) (hl:S.bs.length=s.mem.bs.length):TmAt w' g base fu T0 vi vt vf A1 c1 A2 c2 vs { s with mem:=S }:=by
 have hB:Below base w w':=hk.below h.bl h.core.gb (Nat.le_refl _)
 have hoff:=gA h.core.tr h.core.row h.core.nt
 have hoff2:=bV h.st h.core.row (by decide)
 refine⟨⟨?_,h.core.gb,h.core.nt,h.core.r8,h.core.inp.below hB,hk.own h.core.tr (by decide) (by rcases hoff with e|e<;>simp[e])⟩,hm.own,hk.own h.st (by decide) (by rcases hoff2 with e|e<;>simp[e])⟩
 have hr:=hm.row
 rw[show 26+2=24+4 from rfl,iB h.core.r8] at hr
 unfold db at hr⊢
 dsimp only at hr⊢
 rw[hl]
 unfold bD
 simpa[List.append_assoc] using hr
theorem TmAt.stored (h:TmAt w g base fu T0 vi vt vf A1 c1 A2 c2 vs s) {S:Sk} (hm:MemAt w' g 26 base 71 (bD fu s.c vi vt++db T0 s vf A1 c1 A2 c2 vs) A1 c1 A2 c2 S) (hk:MKp w w' g base) (hl:S.bs.length=s.mem.bs.length) (hs:S.sp=s.mem.sp):TmAt w' g base fu T0 vi vt vf A1 c1 A2 c2 vs { s with mem:=S }:=by
 refine h.turned ?_ hk hl
 have hm2:=hm
 have hl2:26+2<(bD fu s.c vi vt++db T0 s vf A1 c1 A2 c2 vs).length:=(List.getElem?_eq_some_iff.1 hm.k2).1
 have:(bD fu s.c vi vt++db T0 s vf A1 c1 A2 c2 vs).set (26+2) (.int .i64 (S.sp:Int))=bD fu s.c vi vt++db T0 s vf A1 c1 A2 c2 vs:=by
  apply List.ext_getElem?
  intro j
  rw[List.getElem?_set]
  split
  ·rename_i e
   subst e
   first|(rw[if_pos hl2];exact hm.k2.symm)|exact hm.k2.symm
  ·rfl
 rw[this]
 exact hm2
theorem TmAt.cored (h:TmAt w g base fu T0 vi vt vf A1 c1 A2 c2 vs s) {vi' vt':Value} {c:Co} (hc:CoAt w' g base 71 fu vi' vt' (db T0 s vf A1 c1 A2 c2 vs) c) (hk:CKp w w' g base):TmAt w' g base fu T0 vi' vt' vf A1 c1 A2 c2 vs { s with c:=c }:=by
 have h1:=bV h.own.o1 h.core.row (by decide)
 have h2:=bV h.own.o2 h.core.row (by decide)
 have h3:=bV h.st h.core.row (by decide)
 exact⟨hc,⟨h.own.ok,hk.own h.own.o1 (by decide) (by rcases h1 with e|e<;>simp[e]),hk.own h.own.o2 (by decide) (by rcases h2 with e|e<;>simp[e])⟩,hk.own h.st (by decide) (by rcases h3 with e|e<;>simp[e])⟩
theorem TmAt.setRest (h:TmAt w g base fu T0 vi vt vf A1 c1 A2 c2 vs s) (j:Nat) (u:Value) {vs':Value} {s':Tm} (hr:(db T0 s vf A1 c1 A2 c2 vs).set j u=db T0 s' vf A1 c1 A2 c2 vs') (hc:s'.c=s.c) (hm:s'.mem=s.mem) (hst:(w.setCell ⟨g,25+j,none⟩ u).ownsRow base 137 2 vs' s'.st.length (aA s'.st)):TmAt (w.setCell ⟨g,25+j,none⟩ u) g base fu T0 vi vt vf A1 c1 A2 c2 vs' s':=by
 have hg:=ey w g (25+j) u
 have h1:=bV h.own.o1 h.core.row (by decide)
 have h2:=bV h.own.o2 h.core.row (by decide)
 have hcs:=h.core.setRest j u
 rw[hr] at hcs
 exact⟨by rw[hc];exact hcs,by rw[hm];exact⟨h.own.ok,h.own.o1.kept hg h1,h.own.o2.kept hg h2⟩,hst⟩
theorem TmAt.belowC (h:TmAt w g base fu T0 vi vt vf A1 c1 A2 c2 vs s) (hk:CKp w w' g base):Below base w w':=hk.below h.bl h.core.gb (Nat.le_refl _)
theorem TmAt.belowM (h:TmAt w g base fu T0 vi vt vf A1 c1 A2 c2 vs s) (hk:MKp w w' g base):Below base w w':=hk.below h.bl h.core.gb (Nat.le_refl _)
theorem ll {b1 b2 t1 t2 s1 s2 n1 n2:Nat} {v1 v2:Value} {xs1 xs2:List Value} (o1:w.ownsRow b1 t1 s1 v1 n1 xs1) (o2:w.ownsRow b2 t2 s2 v2 n2 xs2) (ht:t2≠t1):v1.ownBlock=none\/v1.ownBlock≠v2.ownBlock:=by
 rcases h2:v2.ownBlock with _|k
 ·rcases h1:v1.ownBlock with _|j
  ·exact .inl rfl
  ·exact .inr (by simp)
 ·obtain⟨_,cs,fr,hh⟩:=lX o2 h2
  exact gA o1 hh ht
theorem TmAt.pushed (h:TmAt w g base fu T0 vi vt vf A1 c1 A2 c2 vs s) {w7:World} {v':Value} {a:Nat×Nat} (hg:w.grownBy w7 vs.ownBlock) (ho:w7.ownsRow base 137 2 v' (s.st.length+1) (aA s.st++gd a)) :
  TmAt (w7.setCell ⟨g,25+5,none⟩ v') g base fu T0 vi vt vf A1 c1 A2 c2 v' { s with st:=s.st++[a] }/\Row w7 g 71 (bD fu s.c vi vt++db T0 s vf A1 c1 A2 c2 vs)/\Below base w (w7.setCell ⟨g,25+5,none⟩ v'):=by
 have hB:Below base w w7:=(Below.refl _ _).grown hg h.bl (fun k hk=>by
  have hk:vs.ownBlock=some k:=by first|exact hk|exact hk.symm
  exact(h.st.lt k hk).1)
 have hoff:=bV h.st h.core.row (by decide)
 have r7:Row w7 g 71 (bD fu s.c vi vt++db T0 s vf A1 c1 A2 c2 vs):=h.core.row.grown hg (fun e=>by
  rcases hoff with h1|h1
  ·rw[h1] at e;cases e
  ·first|exact h1 e|exact h1 e.symm)
 have hcore:CoAt w7 g base 71 fu vi vt (db T0 s vf A1 c1 A2 c2 vs) s.c:=⟨r7,h.core.gb,h.core.nt,h.core.r8,h.core.inp.below hB,h.core.tr.kept hg (ll h.core.tr h.st (by decide))⟩
 have ho1:=h.own.o1.kept hg (ll h.own.o1 h.st (by decide))
 have ho2:=h.own.o2.kept hg (ll h.own.o2 h.st (by decide))
 have hg2:=ey w7 g (25+5) v'
 have hr:=hcore.setRest 5 v'
 have e1:(db T0 s vf A1 c1 A2 c2 vs).set 5 v'=db T0 { s with st:=s.st++[a] } vf A1 c1 A2 c2 v':=rfl
 rw[e1] at hr
 refine⟨⟨hr,⟨h.own.ok,ho1.kept hg2 (bV ho1 r7 (by decide)),ho2.kept hg2 (bV ho2 r7 (by decide))⟩,?_⟩,r7,hB.trans ((Below.refl _ _).setCell (p:=⟨g,25+5,none⟩) h.core.gb _)⟩
 show World.ownsRow _ base _ 2 v' (s.st++[a]).length (aA (s.st++[a]))
 rw[List.length_append,eB]
 have:aA [a]=gd a:=by simp[aA]
 rw[this]
 exact ho.kept hg2 (bV ho r7 (by decide))
structure TopT (w:World) (base:Nat) (vs:Value) (st:List (Nat×Nat)) (G c k:Nat) (z:Nat×Nat) (ys:List (Nat×Nat)):Prop where
 v:vs=.slice (some ⟨G,0,none⟩) (k+1) c
 eqz:st=ys++[z]
 len:ys.length=k
 fn:w.cell? ⟨G,k*2,none⟩=some (.int .i64 (z.1:Int))
 pc:w.cell? ⟨G,k*2+1,none⟩=some (.int .i64 (z.2:Int))
 fr:∀j,w.frozen? ⟨G,j,none⟩=false
 lt:G<w.heap.size
 ge:base<=G
 cap:k+1<=c
theorem TmAt.topT (h:TmAt w g base fu T0 vi vt vf A1 c1 A2 c2 vs s) (hn:1<=s.st.length):∃G c k z ys,TopT w base vs s.st G c k z ys/\G≠g:=by
 obtain⟨ys,z,e⟩:∃ys z,s.st=ys++[z]:=⟨s.st.dropLast,s.st.getLast (by intro e;rw[e] at hn;simp at hn),(List.dropLast_concat_getLast _).symm⟩
 have hoff:=bV h.st h.core.row (by decide)
 have hst:=h.st
 rcases hst.2 with⟨_,h0⟩|⟨G,c,cur,rfl,hG,hh,hnc,hm2,hsz,htk⟩
 ·omega
 ·have hz:s.st[ys.length]?=some z:=by rw[e];simp
  obtain⟨a0,a1⟩:=gR hz
  have hc:∀j u,(aA s.st)[j]?=some u->w.cell? ⟨G,j,none⟩=some u:=fun j u hj=>by
   have:=h.st.cells (g:=G) rfl j u hj
   rwa[show(⟨G,0,none⟩:Addr).add j=⟨G,j,none⟩ by unfold Addr.add;split<;>simp_all] at this
  have hl:s.st.length=ys.length+1:=by rw[e];simp
  refine⟨G,c,ys.length,z,ys,⟨by rw[hl],e,rfl,hc _ _ a0,hc _ _ a1,fun j=>by simp[World.frozen?,hh],(Array.getElem?_eq_some_iff.1 hh).1,hG,by omega⟩,fun eg=>?_⟩
  rcases hoff with h1|h1
  ·simp[Value.ownBlock] at h1
  ·exact h1 (by rw[eg];rfl)
end
def jK (g base fu T0:Nat) (vf:Value) (s:Tm) (w:World) (e:Ending) (w':World):Prop:=e=.returned (.tuple #[])/\AK w' g base fu T0 vf s/\Below base w w'
theorem fG {w:World} {base lo e size n c:Nat} {A:Option Addr} {xs:List Value} (h:w.ownsRow base e size (.slice A n c) n xs) (hl:lo<=base):Far lo A:=by
 obtain⟨A',c',e,_,_,hf,_⟩:=aW h
 injection e with e _ _
 subst e
 exact hf.more hl
def jr (S:Sk) (E:Int) (w:World) (e:Ending) (w':World):Prop:=
 ∃(A1:Option Addr) (c1:Nat) (A2:Option Addr) (c2:Nat),e=.returned (.tuple #[sv A1 c1 A2 c2 S,.int .i64 E])/\StkAt w' w'.heap.size A1 c1 A2 c2 S/\Below w.heap.size w w'/\(E=0->Far w.heap.size A1/\Far w.heap.size A2)
def n6 (S:Sk) (b:Bool) (E:Int) (w:World) (e:Ending) (w':World):Prop:=
 ∃(A1:Option Addr) (c1:Nat) (A2:Option Addr) (c2:Nat),e=.returned (.tuple #[sv A1 c1 A2 c2 S,.bool b,.int .i64 E])/\StkAt w' w'.heap.size A1 c1 A2 c2 S/\Below w.heap.size w w'/\(b=true->Far w.heap.size A1/\Far w.heap.size A2)
def zt (A1:Option Addr) (c1:Nat) (A2:Option Addr) (c2:Nat) (S:Sk) (E:Int) (w:World) (e:Ending) (w':World):Prop:=e=.returned (.tuple #[sv A1 c1 A2 c2 S,.int .i64 E])/\StkAt w' w'.heap.size A1 c1 A2 c2 S/\Below w.heap.size w w'
def bR (Al T0:Int) (vf vs v1 v2 vp vi vt:Value) (R:List Nat) (s:Tm):List Value:=
 [.int .i64 Al,vf]++(ah R++[vs,v1,v2,vp,.int .i64 T0,.int .i64 (s.deep:Int),vi,.bool s.c.ended,.int .i64 s.c.kind,.int .u64 s.c.code,.int .u64 (lo s.c.res),.int .u64 (hi s.c.res),vt,.int .i64 (s.c.steps:Int)])
def mo (w:World) (lo B:Nat) (v:Value) (l:List (Nat×Nat)):Prop:=∃A n c,v=.slice A n c/\l.length=n/\n<=c/\(A=none->c=0)/\Far lo A/\an w B A (aA l)
def fy (w:World) (lo B:Nat) (v1 v2 vp:Value) (S:Sk):Prop:=∃A1 c1 A2 c2,v1=.slice A1 S.bs.length c1/\v2=.slice A2 S.bs.length c2/\vp=.int .i64 (S.sp:Int)/\StkAt w B A1 c1 A2 c2 S/\Far lo A1/\Far lo A2
structure WmAt (w:World) (g:Nat) (Al T0:Int) (vf vs v1 v2 vp vi vt:Value) (R:List Nat) (s:Tm):Prop where
 row:Row w g 94 (bR Al T0 vf vs v1 v2 vp vi vt R s)
 rl:R.length=8
 acts:mo w (g+1) w.heap.size vs s.st
 inp:cD w g vi s.c.inp
 tr:TrS w (g+1) w.heap.size vt s.c.trace
 go:s.c.ended=false->R=s.c.regs/\fy w (g+1) w.heap.size v1 v2 vp s.mem
def pH (w:World) (g:Nat) (Al T0:Int) (vf:Value) (s:Tm):Prop:=∃vs v1 v2 vp vi vt R,WmAt w g Al T0 vf vs v1 v2 vp vi vt R s
def jJ (g:Nat) (Al T0:Int) (vf:Value) (s:Tm) (w:World) (e:Ending) (w':World):Prop:=e=.returned (.tuple #[])/\pH w' g Al T0 vf s/\w.grownBy w' (some g)
section
variable {w w':World} {g lb B B':Nat} {Al T0:Int} {v vf vs v1 v2 vp vi vt:Value} {R:List Nat} {s t:Tm} {l:List (Nat×Nat)} {S:Sk}
theorem mo.keep (h:mo w lb B v l) (hk:∀p:Addr,lb<=p.block->p.block<B->w'.cell? p=w.cell? p) (hB:B<=B'):mo w' lb B' v l:=by
 obtain⟨A,n,c,h1,h2,h3,h4,h5,h6⟩:=h
 exact⟨A,n,c,h1,h2,h3,h4,h5,(h6.keepF h5 hk).more hB⟩
theorem TrS.keep {l:List Nat} (h:TrS w lb B v l) (hk:∀p:Addr,lb<=p.block->p.block<B->w'.cell? p=w.cell? p) (hB:B<=B'):TrS w' lb B' v l:=by
 obtain⟨A,n,c,h1,h2,h3,h4,h5,h6⟩:=h
 exact⟨A,n,c,h1,h2,h3,h4,h5,(h6.keepF h5 hk).more hB⟩
theorem fy.keep (h:fy w lb B v1 v2 vp S) (hk:∀p:Addr,lb<=p.block->p.block<B->w'.cell? p=w.cell? p) (hB:B<=B'):fy w' lb B' v1 v2 vp S:=by
 obtain⟨A1,c1,A2,c2,h1,h2,h3,h4,h5,h6⟩:=h
 exact⟨A1,c1,A2,c2,h1,h2,h3,⟨h4.ok,h4.k1,h4.k2,h4.m1,h4.m2,(h4.s1.keepF h5 hk).more hB,(h4.s2.keepF h6 hk).more hB⟩,h5,h6⟩
theorem cD.keep {l:List Nat} (h:cD w B v l) (hk:∀p:Addr,p.block<B->w'.cell? p=w.cell? p):cD w' B v l:=by
 obtain⟨A,n,c,h1,h2,h3,h4,h5,h6⟩:=h
 exact⟨A,n,c,h1,h2,h3,h4,h5,h6.keep hk⟩
def da (T0:Int) (vs v1 v2 vp vi vt:Value) (s:Tm):List Value:=[vs,v1,v2,vp,.int .i64 T0,.int .i64 (s.deep:Int),vi,.bool s.c.ended,.int .i64 s.c.kind,.int .u64 s.c.code,.int .u64 (lo s.c.res),.int .u64 (hi s.c.res),vt,.int .i64 (s.c.steps:Int)]
theorem eO:bR Al T0 vf vs v1 v2 vp vi vt R s=[.int .i64 Al,vf]++(ah R++da T0 vs v1 v2 vp vi vt s):=rfl
theorem mt (h:R.length=8) (j:Nat):(bR Al T0 vf vs v1 v2 vp vi vt R s)[18+j]?=(da T0 vs v1 v2 vp vi vt s)[j]?:=by
 rw[eO,List.getElem?_append_right (by simp<;>omega),List.getElem?_append_right (by rw[aT,h];simp<;>omega),aT,h]
 congr 1
 simp
 omega
theorem ke (h:R.length=8) {i V:Nat} (hi:R[i]?=some V):(bR Al T0 vf vs v1 v2 vp vi vt R s)[2+i*2]?=some (.int .u64 (lo V))/\(bR Al T0 vf vs v1 v2 vp vi vt R s)[2+i*2+1]?=some (.int .u64 (Go.Proofs.YtjbgepjdohfhkaaGreat.hi V)):=by
 have hl:i<8:=by rw[<-h];exact(List.getElem?_eq_some_iff.1 hi).1
 obtain⟨k0,k1⟩:=cE hi
 constructor
 ·rw[eO,List.getElem?_append_right (by simp<;>omega),List.getElem?_append_left (by rw[aT,h];simp<;>omega),<-k0]
  congr 1
  simp
 ·rw[eO,List.getElem?_append_right (by simp<;>omega),List.getElem?_append_left (by rw[aT,h];simp<;>omega),<-k1]
  congr 1
  simp
  omega
theorem ms (h:R.length=8) (j:Nat) (u:Value):(bR Al T0 vf vs v1 v2 vp vi vt R s).set (18+j) u=[.int .i64 Al,vf]++(ah R++(da T0 vs v1 v2 vp vi vt s).set j u):=by
 rw[eO,List.set_append_right _ _ (by simp<;>omega),List.set_append_right _ _ (by rw[aT,h];simp<;>omega),aT,h]
 congr 3
 simp
 omega
theorem pO (h:R.length=8) {i:Nat} (hi:i<8) (V:Nat):((bR Al T0 vf vs v1 v2 vp vi vt R s).set (2+i*2) (.int .u64 (lo V))).set (2+i*2+1) (.int .u64 (Go.Proofs.YtjbgepjdohfhkaaGreat.hi V))=bR Al T0 vf vs v1 v2 vp vi vt (R.set i V) s:=by
 have h1:∀(L M:List Value) (k:Nat) (u:Value),k<L.length->([.int .i64 Al,vf]++(L++M)).set (2+k) u=[.int .i64 Al,vf]++(L.set k u++M):=fun L M k u hk=>by
  rw[List.set_append_right _ _ (by simp<;>omega),List.set_append_left _ _ (by simp<;>omega)]
  congr 3
  simp
 rw[eO,h1 _ _ _ _ (by rw[aT,h];omega),show 2+i*2+1=2+(i*2+1) by omega,h1 _ _ _ _ (by rw[List.length_set,aT,h];omega),iX V R i (by omega)]
 rfl
theorem WmAt.gl (h:WmAt w g Al T0 vf vs v1 v2 vp vi vt R s):g<w.heap.size:=h.row.lt
theorem WmAt.cell (h:WmAt w g Al T0 vf vs v1 v2 vp vi vt R s) (j:Nat) {u:Value} (hu:(da T0 vs v1 v2 vp vi vt s)[j]?=some u):w.cell? ⟨g,18+j,none⟩=some u:=h.row.cell (k:=18+j) (by rw[mt h.rl];exact hu)
theorem WmAt.free (h:WmAt w g Al T0 vf vs v1 v2 vp vi vt R s) (j:Nat):w.frozen? ⟨g,j,none⟩=false:=h.row.free j
theorem WmAt.frames (h:WmAt w g Al T0 vf vs v1 v2 vp vi vt R s):w.cell? ⟨g,1,none⟩=some vf:=h.row.cell (k:=1) rfl
theorem WmAt.call (h:WmAt w g Al T0 vf vs v1 v2 vp vi vt R s) (hb:Below w.heap.size w w'):WmAt w' g Al T0 vf vs v1 v2 vp vi vt R s:=by
 have hk:∀p:Addr,g+1<=p.block->p.block<w.heap.size->w'.cell? p=w.cell? p:=fun p _ h2=>hb.cell h2
 exact⟨h.row.call hb,h.rl,h.acts.keep hk hb.size,h.inp.below (hb.mono (Nat.le_of_lt h.gl)),h.tr.keep hk hb.size,fun he=>⟨(h.go he).1,(h.go he).2.keep hk hb.size⟩⟩
theorem WmAt.drewN (h:WmAt w g Al T0 vf vs v1 v2 vp vi vt R s) (n:Nat):WmAt (w.drewN n) g Al T0 vf vs v1 v2 vp vi vt R s:=h.call (am (Below.refl _ _) n)
theorem WmAt.turn {vs' v1' v2' vp' vi' vt':Value} {R':List Nat} (h:WmAt w g Al T0 vf vs v1 v2 vp vi vt R s) (hg:w.grownBy w' (some g)) (hrow:Row w' g 94 (bR Al T0 vf vs' v1' v2' vp' vi' vt' R' t)) (hR:R'.length=8)
  (ha:mo w' (g+1) w'.heap.size vs' t.st) (hi:cD w' g vi' t.c.inp) (ht:TrS w' (g+1) w'.heap.size vt' t.c.trace) (hgo:t.c.ended=false->R'=t.c.regs/\fy w' (g+1) w'.heap.size v1' v2' vp' t.mem):WmAt w' g Al T0 vf vs' v1' v2' vp' vi' vt' R' t:=⟨hrow,hR,ha,hi,ht,hgo⟩
theorem WmAt.keptG (h:WmAt w g Al T0 vf vs v1 v2 vp vi vt R s) (hg:w.grownBy w' (some g)):mo w' (g+1) w'.heap.size vs s.st/\cD w' g vi s.c.inp/\TrS w' (g+1) w'.heap.size vt s.c.trace/\(s.c.ended=false->R=s.c.regs/\fy w' (g+1) w'.heap.size v1 v2 vp s.mem):=by
 have hk:∀p:Addr,g+1<=p.block->p.block<w.heap.size->w'.cell? p=w.cell? p:=fun p h1 h2=>World.cell?_of_block (hg.block p.block h2 (fun e=>by injection e with e;omega))
 have hk2:∀p:Addr,p.block<g->w'.cell? p=w.cell? p:=fun p h1=>World.cell?_of_block (hg.block p.block (by have:=h.gl;omega) (fun e=>by injection e with e;omega))
 exact⟨h.acts.keep hk hg.size,h.inp.keep hk2,h.tr.keep hk hg.size,fun he=>⟨(h.go he).1,(h.go he).2.keep hk hg.size⟩⟩
theorem gz (k:Int) (w:World) (h:Hid (WmAt w g Al T0 vf vs v1 v2 vp vi vt R s)) :
  Calls Tryz.prog 32 #[.pointer (some ⟨g,0,none⟩),.int .i64 k] w fun e w'=>e=.returned (.tuple #[])/\WmAt w' g Al T0 vf vs v1 v2 vp vi vt R (s.stop k)/\w.grownBy w' (some g):=by
 have c7:=h.out.cell 7 rfl
 have c8:=h.out.cell 8 rfl
 have f7:=h.out.free 25
 have f8:=h.out.free 26
 obtain⟨W,hW⟩:∃W,(w.setCell ⟨g,26,none⟩ (.int .i64 k)).setCell ⟨g,25,none⟩ (.bool true)=W:=⟨_,rfl⟩
 have HW:=aa hW
 have hg:w.grownBy W (some g):=by rw[<-hW];exact aS (aS (World.grownBy.refl w _) 26 _) 25 _
 have hrow:Row W g 94 (bR Al T0 vf vs v1 v2 vp vi vt R (s.stop k)):=by
  have h1:=(h.out.row.set_ (18+8) (.int .i64 k)).set_ (18+7) (.bool true)
  rw[ms h.out.rl] at h1
  rw[<-hW]
  have h2:([Value.int .i64 Al,vf]++(ah R++(da T0 vs v1 v2 vp vi vt s).set 8 (.int .i64 k))).set (18+7) (.bool true)=bR Al T0 vf vs v1 v2 vp vi vt R (s.stop k):=by
   rw[List.set_append_right _ _ (by simp),List.set_append_right _ _ (by rw[aT,h.out.rl];simp),aT,h.out.rl]
   rfl
  rw[h2] at h1
  exact h1
 obtain⟨k1,k2,k3,k4⟩:=h.out.keptG hg
 have FIN:=aa (show WmAt W g Al T0 vf vs v1 v2 vp vi vt R (s.stop k) from⟨hrow,h.out.rl,k1,k2,k3,fun he=>by cases he⟩)
 have HG:=aa hg
 clear hW hg hrow k1 k2 k3 k4
 go_enter Tryz.func32,Tryz.ntmps32
 go_wp2_with fail
 rw[HW.out]
 go_end0
 exact⟨rfl,FIN.out,HG.out⟩
end
theorem nX (n:Int) (w:World):Calls Tryz.prog 152 #[.int .i64 n] w fun e w'=>e=.returned (.bool (cR n))/\w=w':=by
 go_enter Tryz.func152,Tryz.ntmps152
 by_cases h:0<=n
 ·go_wp2
  go_ret
  exact⟨aw (by simp[cR,h]),rfl⟩
 ·go_wp2
  go_ret
  exact⟨aw (by simp[cR];omega),rfl⟩
theorem zp (x y:Int) (w:World):Calls Tryz.prog 146 #[.int .i64 x,.int .i64 y] w fun e w'=>e=.returned (.tuple #[.int .i64 (lf x y),.int .i64 (jV x y)])/\w=w':=by
 have cx:=nX x
 have cy:=nX y
 cases hx:cR x with
 | false=>
  obtain⟨hv,he⟩:=qG (x:=x) (y:=y) (by rw[hx];rfl)
  rw[hx] at cx
  have Hv:=aa hv
  have He:=aa he
  clear hx hv he
  go_enter Tryz.func146,Tryz.ntmps146
  go_wp2_with (go_at_call 152;refine(cx _).mono ?_;rintro e w' ⟨rfl,rfl⟩)
  go_ret2
  exact⟨fP Hv.out.symm He.out.symm,rfl⟩
 | true=>
  cases hy:cR y with
  | false=>
   obtain⟨hv,he⟩:=qG (x:=x) (y:=y) (by rw[hx,hy];rfl)
   rw[hx] at cx
   rw[hy] at cy
   have Hv:=aa hv
   have He:=aa he
   clear hx hy hv he
   go_enter Tryz.func146,Tryz.ntmps146
   go_wp2_with fail
   refine(cx _).mono ?_
   rintro e w' ⟨rfl,rfl⟩
   go_wp2_with fail
   refine(cy _).mono ?_
   rintro e w' ⟨rfl,rfl⟩
   go_wp2_with fail
   go_ret2
   exact⟨fP Hv.out.symm He.out.symm,rfl⟩
  | true=>
   obtain⟨x0,x1⟩:=gD.1 hx
   obtain⟨y0,y1⟩:=gD.1 hy
   rw[hx] at cx
   rw[hy] at cy
   by_cases hs:x+y<=2147483647
   ·obtain⟨hv,he⟩:=AJ hx hy hs
    have Hv:=aa hv
    have He:=aa he
    clear hx hy hv he
    have hg:¬(2147483647-y<x):=by omega
    go_enter Tryz.func146,Tryz.ntmps146
    go_wp2_with fail
    refine(cx _).mono ?_
    rintro e w' ⟨rfl,rfl⟩
    go_wp2_with fail
    refine(cy _).mono ?_
    rintro e w' ⟨rfl,rfl⟩
    go_wp2_with fail
    go_ret2
    exact⟨fP Hv.out.symm He.out.symm,rfl⟩
   ·obtain⟨hv,he⟩:=uY hx hy (by omega)
    have Hv:=aa hv
    have He:=aa he
    clear hx hy hv he
    have hg:2147483647-y<x:=by omega
    go_enter Tryz.func146,Tryz.ntmps146
    go_wp2_with fail
    refine(cx _).mono ?_
    rintro e w' ⟨rfl,rfl⟩
    go_wp2_with fail
    refine(cy _).mono ?_
    rintro e w' ⟨rfl,rfl⟩
    go_wp2_with fail
    go_ret2
    exact⟨fP Hv.out.symm He.out.symm,rfl⟩
section
attribute [local go_sem ↓] Go.wp_at_zero Go.wp_at_succ
theorem tx (o s:Int) (w:World):Calls Tryz.prog 137 #[pv o s] w fun e w'=>e=.returned (.bool (dY o s))/\Below w.heap.size w w':=by
 have c:=zp o s
 have hr:=aa (rh o s)
 generalize lf o s=v at c
 generalize jV o s=x at c hr
 go_enter Tryz.func137,Tryz.ntmps137
 go_wp2_with fail
 refine(c _).mono ?_
 rintro e w' ⟨rfl,rfl⟩
 go_wp2_with fail
 go_ret
 exact⟨aw (by rw[<-hr.out];first|rfl|(by_cases h:x=0<;>simp[h])),ag _ _⟩
theorem yX (o s:Int) (w:World) (h0:-9223372036854775808<=o+s) (h1:o+s<=9223372036854775807):Calls Tryz.prog 138 #[pv o s] w fun e w'=>e=.returned (.int .i64 (o+s))/\Below w.heap.size w w':=by
 go_enter Tryz.func138,Tryz.ntmps138
 go_wp2_with fail
 go_ret
 exact⟨rfl,ag _ _⟩
theorem kx (o s n:Int) (w:World):Calls Tryz.prog 125 #[pv o s,.int .i64 n] w fun e w'=>e=.returned (.bool (a9 o s n))/\Below w.heap.size w w':=by
 have c:=tx o s
 have r1:=Row.new w 127 [.int .i64 o,.int .i64 s]
 have f1:=r1.cell (k:=0) rfl
 have f2:=r1.cell (k:=1) rfl
 cases hr:dY o s with
 | false=>
  rw[hr] at c
  have ho:=aa (show a9 o s n=false by simp[a9,hr])
  clear hr r1
  go_enter Tryz.func125,Tryz.ntmps125
  go_wp2_with fail
  refine(c _).mono ?_
  rintro e w1 ⟨rfl,hb1⟩
  go_wp2_with fail
  go_ret
  exact⟨aw ho.out.symm,ac (ag _ _) hb1⟩
 | true=>
  rw[hr] at c
  have ho:=aa (show a9 o s n=decide (o+s<=n) by simp[a9,hr])
  obtain⟨b3,b4,b5⟩:=et.1 hr
  clear hr r1
  go_enter Tryz.func125,Tryz.ntmps125
  go_wp2_with fail
  refine(c _).mono ?_
  rintro e w1 ⟨rfl,hb1⟩
  have g1:=aD hb1 f1
  have g2:=aD hb1 f2
  go_wp2_with fail
  refine(yX o s _ (by omega) (by omega)).mono ?_
  rintro e w2 ⟨rfl,hb2⟩
  go_wp2_with fail
  go_ret
  exact⟨aw ho.out.symm,ac (ac (ag _ _) hb1) hb2⟩
end
section
attribute [local go_sem ↓] Go.wp_at_zero Go.wp_at_succ
def ckB (n1 n2:Nat) (p:Int):Bool:=decide (n1=n2/\n1<=1048576/\0<=p/\p<=(n1:Int))
theorem px {S:Sk} (h:S.Ok):ckB S.bs.length S.bs.length (S.sp:Int)=true:=by
 simp only[ckB,decide_eq_true_eq]
 exact⟨trivial,h.most,by omega,by have:=h.sp;omega⟩
theorem k9 (A1:Option Addr) (n1 c1:Nat) (A2:Option Addr) (n2 c2:Nat) (p:Int) (w:World) (h1:n1<=9223372036854775807) (h2:n2<=9223372036854775807) :
  Calls Tryz.prog 92 #[kv A1 n1 c1 A2 n2 c2 p] w fun e w'=>e=.returned (.bool (ckB n1 n2 p))/\Below w.heap.size w w':=by
 have f0:=(Row.new w 66 [.slice A1 n1 c1,.slice A2 n2 c2,.int .i64 p]).cell (k:=0) rfl
 have f1:=(Row.new w 66 [.slice A1 n1 c1,.slice A2 n2 c2,.int .i64 p]).cell (k:=1) rfl
 have f2:=(Row.new w 66 [.slice A1 n1 c1,.slice A2 n2 c2,.int .i64 p]).cell (k:=2) rfl
 go_enter Tryz.func92,Tryz.ntmps92
 by_cases e1:n1=n2
 ·subst e1
  by_cases e2:(n1:Int)<=1048576
  ·by_cases e3:0<=p
   ·go_wp2_with fail
    go_ret
    exact⟨aw (by simp[ckB,e3];omega),ag _ _⟩
   ·go_wp2_with fail
    go_ret
    exact⟨aw (by simp only[ckB];symm;simp only[decide_eq_false_iff_not];omega),ag _ _⟩
  ·go_wp2_with fail
   go_ret
   exact⟨aw (by simp only[ckB];symm;simp only[decide_eq_false_iff_not];omega),ag _ _⟩
 ·have e1':¬((n1:Int)=(n2:Int)):=by omega
  go_wp2_with fail
  go_ret
  exact⟨aw (by simp[ckB,e1]),ag _ _⟩
theorem uw (A:Option Addr) (n c:Nat) (bs:List Bool) (B:Nat) (w:World) (hn:Hid (bs.length=n)) (hm:n<=1048576) (hs:Hid (an w B A (bh bs))) :
  Calls Tryz.prog 147 #[.slice A n c,.bool false] w fun e w'=>(∃v:Int,e=.returned (.int .i64 v)/\Hid (decide (0<=v)=!(bs.all id)))/\w=w':=by
 go_enter Tryz.func147,Tryz.ntmps147
 go_wp2_with fail
 go_loop [8] (fun i=>∃k:Nat,k<=n/\i=.int .i64 (k:Int)/\Hid (∀j,j<k->bs[j]?=some true)) (fun i=>n-(intOf i).toNat)
 case atStart=>exact⟨0,by omega,rfl,aa (fun j h=>by omega)⟩
 case round=>
  obtain⟨k,hk,rfl,hb⟩:=hrel
  by_cases hlt:k<n
  ·have hlb:k<bs.length:=by have:=hn.out;omega
   obtain⟨b,off,rfl,hbB,fT⟩:=hs.out k (.bool bs[k]) (la (List.getElem?_eq_getElem hlb))
   obtain⟨z,hz⟩:∃z,bs[k]=z:=⟨_,rfl⟩
   rw[hz] at fT
   have hx:bs[k]?=some z:=by rw[List.getElem?_eq_getElem hlb,hz]
   have HX:=aa hx
   clear hz hx
   cases z with
   | true=>
    have hnext:=aa (show∀j,j<k+1->bs[j]?=some true from fun j hj=>by
     rcases Nat.lt_or_ge j k with h|h
     ·exact hb.out j h
     ·rw[show j=k by omega];exact HX.out)
    go_wp2_with fail
    exact⟨⟨k+1,by omega,by go_num,hnext⟩,by simp[intOf];omega⟩
   | false=>
    have hall:bs.all id=false:=by
     rw[List.all_eq_false]
     exact⟨false,List.mem_of_getElem? HX.out,by simp⟩
    have HA:=aa hall
    clear hall
    go_wp2_with fail
    go_ret
    exact⟨⟨_,rfl,aa (by rw[HA.out];simp)⟩,rfl⟩
  ·have hall:bs.all id=true:=by
    rw[List.all_eq_true]
    intro x hx
    obtain⟨j,hj,e⟩:=List.getElem_of_mem hx
    have:=hb.out j (by have:=hn.out;omega)
    rw[List.getElem?_eq_getElem hj,e] at this
    injection this
   have HA:=aa hall
   clear hall
   go_wp2_with fail
   go_ret
   exact⟨⟨_,rfl,aa (by rw[HA.out];simp)⟩,rfl⟩
theorem pu (A:Option Addr) (n c:Nat) (bs:List Bool) (B:Nat) (w:World) (hn:Hid (bs.length=n)) (hm:n<=1048576) (hs:Hid (an w B A (bh bs))) :
  Calls Tryz.prog 139 #[.slice A n c,.bool false] w fun e w'=>e=.returned (.bool (!(bs.all id)))/\w=w':=by
 have ci:=uw A n c bs B w hn hm hs
 go_enter Tryz.func139,Tryz.ntmps139
 go_wp2_with fail
 refine ci.mono ?_
 rintro e w' ⟨⟨v,rfl,hv⟩,rfl⟩
 go_wp2_with fail
 go_ret
 exact⟨aw hv.out,rfl⟩
end
section
attribute [local go_sem ↓] Go.wp_at_zero Go.wp_at_succ
section
variable {g o base:Nat} {T:TypeId} {cs:List Value} {A1 A2:Option Addr} {c1 c2:Nat} {S:Sk}
def li (g o base:Nat) (T:TypeId) (cs:List Value) (A1:Option Addr) (c1:Nat) (A2:Option Addr) (c2:Nat) (S':Sk) (r:Value) (w:World) (e:Ending) (w':World):Prop:=
 e=.returned r/\MemAt w' g o base T (cs.set (o+2) (.int .i64 (S'.sp:Int))) A1 c1 A2 c2 S'/\MKp w w' g base
theorem MemAt.same {w:World} (h:MemAt w g o base T cs A1 c1 A2 c2 S):cs.set (o+2) (.int .i64 (S.sp:Int))=cs:=by
 have hl:o+2<cs.length:=(List.getElem?_eq_some_iff.1 h.k2).1
 apply List.ext_getElem?
 intro j
 rw[List.getElem?_set]
 split
 ·rename_i e
  subst e
  first|(rw[if_pos hl];exact h.k2.symm)|exact h.k2.symm
 ·rfl
theorem uk (n:Int) (w:World) (h:Hid (MemAt w g o base T cs A1 c1 A2 c2 S)) :
    Calls Tryz.prog 63 #[.pointer (some ⟨g,o,none⟩),.int .i64 n] w (li g o base T cs A1 c1 A2 c2 (dj S n) (.int .i64 (cV S n)) w):=by
  have hok:=aa h.out.own.ok
  have hmost:=hok.out.most
  have hsp:=hok.out.sp
  have ck:=k9 A1 S.bs.length c1 A2 S.bs.length c2 (S.sp:Int) w (by omega) (by omega)
  rw[px hok.out] at ck
  have x0:=h.out.row.cell h.out.k0
  have x1:=h.out.row.cell h.out.k1
  have x2:=h.out.row.cell h.out.k2
  by_cases h0:n<0
  · have hE:cV S n=4:=by simp[cV,h0]
    have hR:dj S n=S:=by simp[dj,hE]
    rw[hR,hE]
    unfold li
    rw[h.out.same]
    clear hE hR
    go_enter Tryz.func63,Tryz.ntmps63
    go_wp2_with fail
    refine ck.mono ?_
    rintro e w1 ⟨rfl,hb1⟩
    have H1:=aa (h.out.call hb1)
    have K1:=aa (MKp.of_below hb1 g base)
    clear hb1 ck x0 x1 x2
    go_wp2_with fail
    go_ret
    exact⟨rfl,H1.out,K1.out⟩
  · by_cases h1:(S.sp:Int)<n
    · have hE:cV S n=9:=by simp[cV,h0,h1]
      have hR:dj S n=S:=by simp[dj,hE]
      rw[hR,hE]
      unfold li
      rw[h.out.same]
      clear hE hR
      go_enter Tryz.func63,Tryz.ntmps63
      go_wp2_with fail
      refine ck.mono ?_
      rintro e w1 ⟨rfl,hb1⟩
      have H1:=aa (h.out.call hb1)
      have K1:=aa (MKp.of_below hb1 g base)
      clear hb1 ck x0 x1 x2
      have x2:=H1.out.row.cell H1.out.k2
      go_wp2_with fail
      go_ret
      exact⟨rfl,H1.out,K1.out⟩
    · obtain⟨m,rfl⟩:∃m:Nat,n=(m:Int):=⟨n.toNat,by omega⟩
      have hE:cV S (m:Int)=0:=by simp only[cV];rw[if_neg h0,if_neg h1]
      have hR:dj S (m:Int)=di S m:=by simp[dj,hE]
      have hms:m<=S.sp:=by omega
      rw[hR,hE]
      clear hE hR
      have HZ:=aa sJ
      obtain⟨q,hq⟩:∃q,S.sp-m=q:=⟨_,rfl⟩
      have hsub:((S.sp:Int)-(m:Int))=(q:Int):=by omega
      have hqm:=aa (show q+m=S.sp by omega)
      have hql:q+m<=S.sp:=by omega
      have hwm:IntKind.i64.wrap ((S.sp:Int)-(m:Int))=(q:Int):=by rw[IntKind.wrap_i64];omega
      have hwa:IntKind.i64.wrap ((q:Int)+(m:Int))=(q:Int)+(m:Int):=by rw[IntKind.wrap_i64];omega
      have HQ:=aa hq
      clear hq
      go_enter Tryz.func63,Tryz.ntmps63
      go_wp2_with fail
      refine ck.mono ?_
      rintro e w1 ⟨rfl,hb1⟩
      have H1:=aa (h.out.call hb1)
      have K1:=aa (MKp.of_below hb1 g base)
      clear hb1 ck x0 x1 x2
      have x2:=H1.out.row.cell H1.out.k2
      have f2:=H1.out.row.free (o+2)
      obtain⟨W2,hW2⟩:∃W,w1.setCell ⟨g,o+2,none⟩ (.int .i64 (q:Int))=W:=⟨_,rfl⟩
      have H2:=aa (show MemAt W2 g o base T (cs.set (o+2) (.int .i64 (q:Int))) A1 c1 A2 c2 ⟨S.bs,S.us,q⟩ by
        rw[<-hW2]
        exact H1.out.setSp (S':=⟨S.bs,S.us,q⟩) rfl rfl ⟨hok.out.len,hok.out.most,show q<=S.bs.length by omega,hok.out.byt⟩)
      have K2:=aa (show MKp w W2 g base by rw[<-hW2];exact K1.out.trans (MKp.set w1 g base (o+2) _))
      have HW2:=aa hW2
      clear hW2 hsub
      go_upto_region 6 with(fail)
      rw[HW2.out]
      clear HW2 x2 f2
      have x1:=H2.out.row.cell H2.out.k1
      have x2:=H2.out.row.cell H2.out.k2
      by_cases hm0:m=0
      · subst hm0
        have hcl:=fun(A:Option Addr) (k:Nat) (W:World) (ty:TypeId)=>sw (P:=Tryz.prog) (ty:=ty) Tryz.underlying64 A k W
        have hqs:q=S.sp:=by have:=hqm.out;omega
        subst hqs
        have FIN:=aa (show MemAt W2 g o base T (cs.set (o+2) (.int .i64 ((di S 0).sp:Int))) A1 c1 A2 c2 (di S 0) by rw[tH S hok.out];exact H2.out)
        clear hqm HQ
        have hle2:=(hJ H2.out.own.o2).2
        have hn2:=(hJ H2.out.own.o2).1
        dsimp only at hle2
        cases A2 with
        | none=>
          obtain rfl:c2=0:=hn2 rfl
          have hb0:S.bs.length=0:=by omega
          have hs0:S.sp=0:=by omega
          rw[hs0] at x2 hwa
          rw[hb0] at x1
          go_wp2_with (first|go_region)
          go_ret
          exact⟨rfl,FIN.out.drewN 1,K2.out.trans (MKp.of_below (am (Below.refl _ _) 1) g base)⟩
        | some ad=>
          by_cases hle:c2<=S.sp
          · obtain rfl:S.sp=c2:=by omega
            go_wp2_with (first|go_region)
            go_ret
            exact⟨rfl,FIN.out.drewN 1,K2.out.trans (MKp.of_below (am (Below.refl _ _) 1) g base)⟩
          · have hqk:S.sp<=c2:=by omega
            go_wp2_with (first|go_region)
            go_ret
            exact⟨rfl,FIN.out.drewN 1,K2.out.trans (MKp.of_below (am (Below.refl _ _) 1) g base)⟩
      · have x1:W2.drew.cell? ⟨g,o+1,none⟩=_:=x1
        have x2:W2.drew.cell? ⟨g,o+2,none⟩=_:=x2
        have H2:=aa (show MemAt W2.drew g o base T (cs.set (o+2) (.int .i64 (q:Int))) A1 c1 A2 c2 ⟨S.bs,S.us,q⟩ from H2.out.drewN 1)
        have K2:=aa (show MKp w W2.drew g base from K2.out.trans (MKp.of_below (show Below W2.heap.size W2 W2.drew from am (Below.refl _ _) 1) g base))
        obtain⟨b,k2',hv,hbb,hblt,hnk,_⟩:=eu H2.out.own.o2 (show 0<S.bs.length by omega)
        injection hv with hv1 hv2 hv3
        subst hv1 hv3
        clear hv2
        have hT:=rG (cs:=List.replicate m (.bool false)) (off:=q) H2.out.own.o1 H2.out.own.o2 (by decide) (by simp;omega)
        have hcl:=fun(ty:TypeId)=>Lib.run_clear_slice W2.drew 64 4 ty (.bool false) Tryz.underlying64 HZ.out rfl rfl b q m (c2-q) (by omega) (fun j hj=>by rw[H2.out.own.o2.cellAt (q+j) (by show q+j<S.bs.length*1;omega)];rw[List.getElem?_eq_getElem (by rw[dn];show q+j<S.us.length;rw[hok.out.len];omega)];rfl) (fun j hj=>H2.out.own.o2.frozenAt (q+j))
        obtain⟨W3,hW3⟩:∃W,W2.drew.setCells b q (List.replicate m (.bool false))=W:=⟨_,rfl⟩
        rw[hW3] at hcl hT
        obtain⟨T1,T2,T3,T4⟩:=hT
        have hbg:b≠g:=by
          rcases bV H2.out.own.o2 H2.out.row H2.out.t2 with h1|h1
          · simp[Value.ownBlock] at h1
          · exact fun e=>h1 (by rw[e];rfl)
        have FIN:=aa (show MemAt W3 g o base T (cs.set (o+2) (.int .i64 ((di S m).sp:Int))) A1 c1 (some ⟨b,0,none⟩) c2 (di S m) from
          ⟨by rw[show((di S m).sp:Int)=(q:Int) by show((S.sp-m:Nat):Int)=_;rw[HQ.out]];exact H2.out.row.grown T3 (fun e=>hbg (by first|exact Option.some.inj e|exact(Option.some.inj e).symm)),
           by rw[List.getElem?_set_ne (by omega)];exact h.out.k0,by rw[List.getElem?_set_ne (by omega)];exact h.out.k1,List.getElem?_set_self (List.getElem?_eq_some_iff.1 h.out.k2).1,
           ⟨hok.out.push hms,T1,by rw[show(di S m).us=splice S.us (S.sp-m) (List.replicate m false) from rfl,fj,ic,HQ.out];exact T2⟩,h.out.gb,h.out.t1,h.out.t2⟩)
        have K3:=aa (K2.out.trans (MKp.of_row T3 H2.out.own.o2 (.inr rfl) g))
        clear T1 T2 T3 T4 hW3
        have hle2:=(hJ H2.out.own.o2).2
        dsimp only at hle2
        have hqk:q<=c2:=by omega
        have hqc:¬c2<=q:=by omega
        go_wp2_with (first|go_region)
        go_ret
        exact⟨rfl,FIN.out,K3.out⟩
theorem wn (n:Int) (w:World) (h:Hid (MemAt w g o base T cs A1 c1 A2 c2 S)) :
  Calls Tryz.prog 99 #[.pointer (some ⟨g,o,none⟩),.int .i64 n] w (li g o base T cs A1 c1 A2 c2 (fE S n) (.int .i64 (eH S n)) w):=by
 have hok:=aa h.out.own.ok
 have hmost:=hok.out.most
 have hsp:=hok.out.sp
 have ck:∀p:After w,Calls Tryz.prog 92 #[kv A1 S.bs.length c1 A2 S.bs.length c2 (S.sp:Int)] p.w fun e w'=>e=.returned (.bool true)/\Below p.w.heap.size p.w w':=fun p=>by
  have:=k9 A1 S.bs.length c1 A2 S.bs.length c2 (S.sp:Int) p.w (by omega) (by omega)
  rwa[px hok.out] at this
 have CK:=aa ck
 clear ck
 have x0:=fun p:After w=>af (h.out.row.cell h.out.k0) p
 have x1:=fun p:After w=>af (h.out.row.cell h.out.k1) p
 have x2:=fun p:After w=>af (h.out.row.cell h.out.k2) p
 have hws:IntKind.i64.wrap ((S.bs.length:Int)-(S.sp:Int))=(S.bs.length:Int)-(S.sp:Int):=by rw[IntKind.wrap_i64];omega
 have hcase:(n<0\/(¬n<0/\(S.bs.length:Int)-(S.sp:Int)<n))\/(¬n<0/\¬(S.bs.length:Int)-(S.sp:Int)<n):=by omega
 rcases hcase with hbad|⟨h0,h1⟩
 ·have hE:eH S n=4:=by unfold eH;rw[if_pos (by omega)]
  have hR:fE S n=S:=by simp[fE,hE]
  rw[hR,hE]
  unfold li
  rw[h.out.same]
  clear hE hR
  rcases hbad with h0|⟨h0,h1⟩
  ·have d0:decide (n<0)=true:=decide_eq_true h0
   go_enter Tryz.func99,Tryz.ntmps99
   go_upto_region 1 with(fail)
   refine aJ (by kernel_rfl) (by kernel_rfl) ?_
   repeat(go_big_quiet_step ((go_at_call 92;with_reducible exact bO (CK.out _))))
   refine wpQuiet_nil ?_
   intro _ hw'
   obtain⟨p1,hw''⟩:=hw'
   subst hw''
   go_wp2_with fail
   go_ret
   exact⟨rfl,h.out.call p1.b,MKp.of_below p1.b g base⟩
  ·have d0:decide (n<0)=false:=decide_eq_false h0
   have d1:decide ((S.bs.length:Int)-(S.sp:Int)<n)=true:=decide_eq_true h1
   go_enter Tryz.func99,Tryz.ntmps99
   go_upto_region 1 with(fail)
   refine aJ (by kernel_rfl) (by kernel_rfl) ?_
   repeat(go_big_quiet_step ((go_at_call 92;with_reducible exact bO (CK.out _))))
   refine wpQuiet_nil ?_
   intro _ hw'
   obtain⟨p1,hw''⟩:=hw'
   subst hw''
   go_wp2_with fail
   go_ret
   exact⟨rfl,h.out.call p1.b,MKp.of_below p1.b g base⟩
 ·obtain⟨m,rfl⟩:∃m:Nat,n=(m:Int):=⟨n.toNat,by omega⟩
  have hE:eH S (m:Int)=0:=by unfold eH;rw[if_neg (by omega)]
  have hR:fE S (m:Int)=dw S m:=by simp[fE,hE]
  rw[hR,hE]
  clear hE hR
  have hws2:IntKind.i64.wrap ((S.sp:Int)+(m:Int))=(S.sp:Int)+(m:Int):=by rw[IntKind.wrap_i64];omega
  have hcast:=aa (show((dw S m).sp:Int)=(S.sp:Int)+(m:Int) by show((S.sp+m:Nat):Int)=_;omega)
  have hpok:=aa (hok.out.pop (n:=m) (by omega))
  have d0:decide ((m:Int)<0)=false:=decide_eq_false h0
  have d1:decide ((S.bs.length:Int)-(S.sp:Int)<(m:Int))=false:=decide_eq_false h1
  go_enter Tryz.func99,Tryz.ntmps99
  go_upto_region 1 with(fail)
  refine aJ (by kernel_rfl) (by kernel_rfl) ?_
  repeat(go_big_quiet_step ((go_at_call 92;with_reducible exact bO (CK.out _))))
  refine wpQuiet_nil ?_
  intro _ hw'
  obtain⟨p1,hw''⟩:=hw'
  subst hw''
  have H1:=aa (h.out.call p1.b)
  have x2:=H1.out.row.cell H1.out.k2
  have f2:=H1.out.row.free (o+2)
  have FIN:=aa (H1.out.setSp (S':=dw S m) rfl rfl hpok.out)
  rw[hcast.out] at FIN
  go_wp2_with fail
  go_ret
  exact⟨rfl,by rw[hcast.out];exact FIN.out,(MKp.of_below p1.b g base).trans (MKp.set p1.w g base (o+2) _)⟩
end
end
end Go.Proofs.YtjbgepjdohfhkaaGreat
