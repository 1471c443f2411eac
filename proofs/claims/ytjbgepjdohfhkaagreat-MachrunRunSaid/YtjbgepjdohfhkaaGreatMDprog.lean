/- The contract of spillframedraw's Program: a right program whose functions call later ones alone. Condition: the receiver is a list of choices. -/
import Derived.Test.YtjbgepjdohfhkaaGreatMDfn
import Derived.Test.YtjbgepjdohfhkaaGreatMMshp
set_option linter.unusedVariables false
set_option linter.unusedSimpArgs false
set_option maxRecDepth 100000
set_option maxHeartbeats 8000000
namespace Go.Proofs.YtjbgepjdohfhkaaGreat
open Go.RowKit
structure PgGood (funcs most:Nat) (F:Pg):Prop where
 err:pgE F=0
 one:1<=F.length
 few:F.length<=funcs
 fn:∀(i:Nat) (f:Fn),F[i]?=some f->FnGood F.length i most f/\0<=f.params/\f.params<=3
def pK (funcs most g:Nat) (w:World) (e:Ending) (w':World):Prop:=
 ∃(A:Option Addr) (n c:Nat) (hs:List Hd) (F:Pg),e=.returned (gv A n c)/\PgAt w' w.heap.size w'.heap.size A n c hs F/\PgGood funcs most F/\ar w' g/\w.grownBy w' (some g)
theorem Tryz.info98':(Tryz.prog.info? 98).map (fun i=>(i.zero,i.size,i.bytes))=some (some (.agg #[.int .i64 0,.slice none 0 0,.slice none 0 0]),3,56):=by kernel_rfl
def nm (g funcs k:Nat) (w:World) (v:Value) (wr:World):Prop:=
 ∃ps:List Int,k+ps.length<=funcs/\ps[0]?=some 0/\(∀p∈ps,0<=p/\p<=3)/\wr.ownsRow (w.heap.size+1) 3 1 v ps.length (cT ps)/\Row wr w.heap.size 79 [.slice none 0 0]/\ar wr g/\w.grownBy wr (some g)
theorem nm.add {g funcs k:Nat} {w w2 w3:World} {v v':Value} {ps:List Int} {p:Int} {t:TypeId} (hk:k+1+ps.length<=funcs) (h0:ps[0]?=some 0) (hb:∀p∈ps,0<=p/\p<=3) (hp:0<=p/\p<=3) (hg:g<w.heap.size)
  (ho:w2.ownsRow (w.heap.size+1) 3 1 v ps.length (cT ps)) (hR:Row w2 w.heap.size 79 [.slice none 0 0]) (hC:ar w2 g) (hG:w.grownBy w2 (some g))
  (ho3:w3.ownsRow (w.heap.size+1) 3 1 v' (ps.length+1) (cT ps++[.int .i64 p])) (hg3:(w2.alloc (.cells #[.int .i64 p] t)).grownBy w3 v.ownBlock):nm g funcs k w v' w3:=by
 refine⟨ps++[p],by simp;omega,?_,(fun q hq=>?_),by rw[kK];simpa[cT] using ho3,(hR.alloc _).grown hg3 (gn ho (by omega)),(hC.alloc _).kept hg3 (fun j hj=>?_),(hG.trans (World.grownBy_alloc _ _ _)).andThen hg3 (fun j hj=>.inl ?_)⟩
 ·have hl:0<ps.length:=by
   rcases Nat.lt_or_ge 0 ps.length with h|h
   ·exact h
   ·rw[List.getElem?_eq_none h] at h0;cases h0
  rw[List.getElem?_append_left hl];exact h0
 ·rcases List.mem_append.1 hq with h|h
  ·exact hb q h
  ·simp at h;subst h;exact hp
 ·have:=(ho.lt j hj).1;omega
 ·have:=(ho.lt j hj).1;omega
def pL (g most N lo:Nat) (ps:List Int) (Ap:Option Addr) (w:World) (i:Nat) (wr:World):Prop:=
 ∃(A:Option Addr) (c:Nat) (hs:List Hd) (F:Pg),PgAt wr lo wr.heap.size A i c hs F/\Row wr (lo-1) 79 [.slice A i c]/\Row wr w.heap.size 79 [.slice none 0 0]/\(∀(j:Nat) (f:Fn),F[j]?=some f->FnGood N j most f/\ps[j]?=some f.params) /\
  an wr (lo-1) Ap (cT ps)/\lo<=wr.heap.size/\ar wr g/\w.grownBy wr (some g)
theorem sc (h:Hd):ef [h]=[.int .i64 h.p,.slice h.a1 h.n1 h.c1,.slice h.a2 h.n2 h.c2]:=rfl
theorem wM (w:World) (P:Int) (A1:Option Addr) (n1 c1:Nat) (A2:Option Addr) (n2 c2:Nat) (t:TypeId):∀(j:Nat) (u:Value),[Value.int .i64 P,.slice A1 n1 c1,.slice A2 n2 c2][j]?=some u->(w.alloc (.cells #[.int .i64 P,.slice A1 n1 c1,.slice A2 n2 c2] t)).cell? ((⟨w.heap.size,0,none⟩:Addr).add j)=some u:=by
 intro j u hu
 rw[WideShapes.add_plain,Nat.zero_add]
 exact(Row.new w t [.int .i64 P,.slice A1 n1 c1,.slice A2 n2 c2]).cell hu
theorem rZ (P:Int) (A1:Option Addr) (n1 c1:Nat) (A2:Option Addr) (n2 c2:Nat):∀u∈[Value.int .i64 P,.slice A1 n1 c1,.slice A2 n2 c2],u.oneCell'=true:=j5 [⟨P,A1,n1,c1,A2,n2,c2⟩]
theorem pL.add {g most N lo i c:Nat} {ps:List Int} {Ap A:Option Addr} {w wr w1 w2 w3:World} {hs:List Hd} {F:Pg} {v1 v2:Value} {P:Int} {A1:Option Addr} {n1 c1:Nat} {A2:Option Addr} {n2 c2:Nat} {f:Fn} {t:TypeId}
  (hlo:w.heap.size+1<lo) (hg:g<w.heap.size) (hap:Far (w.heap.size+1) Ap) (H:PgAt wr lo wr.heap.size A i c hs F) (hRP:Row wr (lo-1) 79 [.slice A i c]) (hR:Row wr w.heap.size 79 [.slice none 0 0]) (hF:∀(j:Nat) (f:Fn),F[j]?=some f->FnGood N j most f/\ps[j]?=some f.params) (hps:an wr (lo-1) Ap (cT ps)) (hlr:lo<=wr.heap.size) (hG:w.grownBy wr (some g)) (hi:i<=1000)
  (ho1:w1.ownsRow wr.heap.size 98 3 v1 i (ef hs)) (hg1:wr.grownBy w1 none)
  (hh:HdAt w2 w1.heap.size w2.heap.size ⟨P,A1,n1,c1,A2,n2,c2⟩ f) (hf:FnGood N i most f) (hp:ps[i]?=some P) (hC2:ar w2 g) (hg2:w1.grownBy w2 (some g))
  (ho3:w3.ownsRow wr.heap.size 98 3 v2 (i+1) (ef hs++[.int .i64 P,.slice A1 n1 c1,.slice A2 n2 c2])) (hg3:(w2.alloc (.cells #[.int .i64 P,.slice A1 n1 c1,.slice A2 n2 c2] t)).grownBy w3 v1.ownBlock) :
  pL g most N lo ps Ap w (i+1) (w3.setCell ⟨lo-1,0,none⟩ v2):=by
 obtain⟨A',c',rfl,hA',hn',hfar',hsee'⟩:=aW ho3
 have s1:wr.heap.size<=w1.heap.size:=hg1.size
 have s2:w1.heap.size<=w2.heap.size:=hg2.size
 have s3:w2.heap.size+1<=w3.heap.size:=by have:=hg3.size;simpa using this
 have hv1:∀k,v1.ownBlock=some k->wr.heap.size<=k/\k<w1.heap.size:=ho1.lt
 have hsz:(w3.setCell ⟨lo-1,0,none⟩ (.slice A' (i+1) c')).heap.size=w3.heap.size:=by simp[World.setCell]
 have k1:∀p:Addr,p.block<wr.heap.size->p.block≠g->p.block≠lo-1->(w3.setCell ⟨lo-1,0,none⟩ (.slice A' (i+1) c')).cell? p=wr.cell? p:=fun p hp hpg hpl=>by
  rw[World.cell?_setCell_other _ _ _ _ (fun e=>by subst e;exact hpl rfl)]
  have e3:w3.cell? p=(w2.alloc (.cells #[.int .i64 P,.slice A1 n1 c1,.slice A2 n2 c2] t)).cell? p:=World.cell?_of_block (hg3.block p.block (by simp;omega) (fun e=>by have:=hv1 _ e.symm;omega))
  rw[e3,World.cell?_alloc_lt w2 _ p (by omega),World.cell?_of_block (hg2.block p.block (by omega) (fun e=>by injection e with e;exact hpg e)),World.cell?_of_block (hg1.block p.block hp (fun e=>by cases e))]
 have k2:∀p:Addr,w1.heap.size<=p.block->p.block<w2.heap.size->(w3.setCell ⟨lo-1,0,none⟩ (.slice A' (i+1) c')).cell? p=w2.cell? p:=fun p h1 h2=>by
  rw[World.cell?_setCell_other _ _ _ _ (fun e=>by subst e;simp at h1;omega)]
  have e3:w3.cell? p=(w2.alloc (.cells #[.int .i64 P,.slice A1 n1 c1,.slice A2 n2 c2] t)).cell? p:=World.cell?_of_block (hg3.block p.block (by simp;omega) (fun e=>by have:=hv1 _ e.symm;omega))
  rw[e3,World.cell?_alloc_lt w2 _ p (by omega)]
 have hl:hs.length=i:=by rw[H.hd.len,H.len]
 have r1:=(hRP.grown hg1 (fun e=>by cases e)).grown hg2 (fun e=>by injection e with e;omega)
 have r3:=(r1.alloc (.cells #[.int .i64 P,.slice A1 n1 c1,.slice A2 n2 c2] t)).grown hg3 (gn ho1 (by omega))
 have q1:=(hR.grown hg1 (fun e=>by cases e)).grown hg2 (fun e=>by injection e with e;omega)
 have q3:=(q1.alloc (.cells #[.int .i64 P,.slice A1 n1 c1,.slice A2 n2 c2] t)).grown hg3 (gn ho1 (by omega))
 refine⟨A',c',hs++[⟨P,A1,n1,c1,A2,n2,c2⟩],F++[f],⟨by simp[H.len],⟨hA',hn',by omega⟩,hfar'.more hlr,?_,⟨by simp[H.hd.len],fun k h f' e1 e2=>?_⟩⟩,r3.set_ 0 _,q3.far (p:=⟨lo-1,0,none⟩) (by simp;omega) _,(fun j f' e=>?_),?_,by rw[hsz];omega,?_,?_⟩
 ·rw[oe,sc,hsz]
  exact hsee'.keepF hfar' fun p h1 _=>World.cell?_setCell_other _ _ _ _ (fun e=>by subst e;simp at h1;omega)
 ·rw[hsz]
  rcases Nat.lt_or_ge k i with hk|hk
  ·rw[List.getElem?_append_left (by omega)] at e1
   rw[List.getElem?_append_left (by rw[H.len];exact hk)] at e2
   exact((H.hd.at_ k h f' e1 e2).keep fun p h1 h2=>k1 p h2 (by omega) (by omega)).more (by omega) (Nat.le_refl _)
  ·rw[List.getElem?_append_right (by omega)] at e1
   rw[List.getElem?_append_right (by rw[H.len];exact hk)] at e2
   rw[hl] at e1
   rw[H.len] at e2
   cases hz:k-i with
   | zero=>
    rw[hz] at e1 e2
    simp at e1 e2
    subst e1 e2
    exact(hh.keep fun p h1 h2=>k2 p h1 h2).more (by omega) (by omega)
   | succ j=>rw[hz] at e1;simp at e1
 ·rcases Nat.lt_or_ge j i with hk|hk
  ·rw[List.getElem?_append_left (by rw[H.len];exact hk)] at e
   exact hF j f' e
  ·rw[List.getElem?_append_right (by rw[H.len];exact hk),H.len] at e
   cases hz:j-i with
   | zero=>
    rw[hz] at e
    simp at e
    subst e
    obtain rfl:j=i:=by omega
    exact⟨hf,by rw[hp];exact congrArg some hh.p⟩
   | succ j'=>rw[hz] at e;simp at e
 ·exact hps.keepF hap fun p h1 h2=>k1 p (by omega) (by omega) (by omega)
 ·have hC3:=(hC2.alloc (.cells #[.int .i64 P,.slice A1 n1 c1,.slice A2 n2 c2] t)).kept hg3 (fun k hk=>by have:=hv1 k hk;omega)
  exact hC3.kept (aM w3 (lo-1) 0 _) (fun k hk=>by injection hk with hk;omega)
 ·have hG3:w.grownBy w3 (some g):=(((hG.andThen hg1 (fun j hj=>by cases hj)).trans hg2).trans (World.grownBy_alloc _ _ _)).andThen hg3 (fun j hj=>.inl (by have:=hv1 j hj;have:=hG.size;omega))
  exact hG3.andThen (aM w3 (lo-1) 0 _) (fun k hk=>.inl (by injection hk with hk;omega))
theorem vV (g funcs most:Nat) (w:World) (h:Hid (ar w g)) (hf1:1<=funcs) (hf2:funcs<=80) (hm:most<=100) :
  Calls Tryz.prog 22 #[.pointer (some ⟨g,0,none⟩),.int .i64 (funcs:Int),.int .i64 (most:Int)] w (pK funcs most g w):=by
 obtain⟨i0,hi,hz0,hz1,hz2⟩:=info_parts Tryz.info3
 obtain⟨j0,ji,jz0,jz1,jz2⟩:=info_parts Tryz.info98'
 have c:=a6 g
 have hgl:=h.out.lt
 obtain⟨W,hW⟩:∃W,(w.alloc (.cells #[.slice none 0 0] 79)).alloc (.cells #[.int .i64 0] 3)=W:=⟨_,rfl⟩
 have HW:=aa hW
 have hP0:Hid (nm g funcs 0 w (.slice (some ⟨w.heap.size+1,0,none⟩) 1 1) W):=by
  refine aa ⟨[0],by simp;omega,rfl,(fun p hp=>by simp at hp;subst hp;omega),?_,?_,?_,?_⟩
  ·rw[<-hW]
   exact⟨rfl,.inr ⟨w.heap.size+1,1,#[.int .i64 0],rfl,Nat.le_refl _,gL _ _ (by simp),Nat.le_refl _,by unfold maxLen;omega,rfl,rfl⟩⟩
  ·rw[<-hW];exact(Row.new w _ _).alloc _
  ·rw[<-hW];exact(h.out.alloc _).alloc _
  ·rw[<-hW];exact(World.grownBy_alloc _ _ _).trans (World.grownBy_alloc _ _ _)
 clear hW
 have hfz:(1:Int)<=(funcs:Int):=by omega
 go_enter Tryz.func22,Tryz.ntmps22
 go_wp2_with fail
 rw[HW.out]
 clear HW
 obtain⟨_,_,_,_,_,_,hC0,hG0⟩:=hP0.out
 have HC0:=aa hC0
 clear hC0 hG0
 refine(c (funcs:Int) _ HC0 hfz (by omega)).mono ?_
 rintro e w1 ⟨v,rfl,v0,v1,hC1,hG1,hzz1⟩
 obtain⟨m,rfl⟩:=Int.eq_ofNat_of_zero_le v0
 have HP1:Hid (nm g funcs m w (.slice (some ⟨w.heap.size+1,0,none⟩) 1 1) w1):=by
  obtain⟨ps,h1,h2,h3,h4,h5,h6,h7⟩:=hP0.out
  have hl:ps.length=1:=by
   obtain⟨A,c',he,_⟩:=bX h4
   injection he with _ e2 _
   exact e2.symm
  exact aa ⟨ps,by omega,h2,h3,cj h4 (by omega) hG1,h5.grown hG1 (fun e=>by injection e with e;omega),hC1,h7.trans hG1⟩
 clear hC1 hG1 hzz1 hP0 HC0
 go_wp2_with fail
 go_loopw [7,8] (fun pv kv wr=>∃k:Nat,kv=.int .i64 (k:Int)/\Hid (nm g funcs k w pv wr)) (fun _ kv _=>(intOf kv).toNat)
 case atStart=>exact⟨m,rfl,HP1⟩
 case round=>
  obtain⟨k,rfl,hP⟩:=hrel
  obtain⟨ps,h1,h2,h3,h4,h5,h6,h7⟩:=hP.out
  have HPS0:=aa h2
  have HPB:=aa h3
  have HO:=aa h4
  have HR:=aa h5
  have HC:=aa h6
  have HG:=aa h7
  clear h2 h3 h4 h5 h6 h7 hP
  by_cases hlt:0<k
  ·obtain⟨k,rfl⟩:∃j,k=j+1:=⟨k-1,by omega⟩
   have hlz:(0:Int)<((k+1:Nat):Int):=by omega
   go_wp2_with fail
   refine(c 4 _ HC (by omega) (by omega)).mono ?_
   rintro e w2 ⟨p,rfl,p0,p1,hC2,hG2,hzz2⟩
   have HC2:=aa hC2
   have HG2:=aa (HG.out.trans hG2)
   have HO2:=aa (cj HO.out (by omega) hG2)
   have HR2:=aa (HR.out.grown hG2 (fun e=>by injection e with e;omega))
   clear hC2 hG2 hzz2
   go_wp2_with (at_builtin;refine wpList_append_own _ rfl (.tmp 20) (.tmp 23) 87 rfl (w.heap.size+1) 3 i0 (.int .i64 0) 1 8 Tryz.underlying87 hi hz0 hz1 hz2 rfl (by decide) _ ps.length (cT ps) rfl (HO2.out.alloc _) ⟨_,0,none⟩ 1 1 [.int .i64 p] rfl rfl (lp _ _ _) (fun u hu=>by simp at hu;subst hu;rfl) (by unfold maxLen;omega) (by omega) (by simp;have:=HR2.out.lt;omega) ?_)
   intro v' w3 ho3 hg3 _
   have HN:=aa (nm.add (p:=p) (by omega:k+1+ps.length<=funcs) HPS0.out HPB.out (by omega) hgl HO2.out HR2.out HC2.out HG2.out ho3 hg3)
   clear ho3 hg3
   go_wp2_with fail
   go_roundw
   case rel=>exact⟨k,by go_num,HN⟩
   case measure=>simp[intOf]
  ·obtain rfl:k=0:=by omega
   rw[show((0:Nat):Int)=0 from rfl]
   obtain⟨Ap,cp,rfl,hAp,hnp,hfp,hsp⟩:=aW HO.out
   have hps1:1<=ps.length:=by
    rcases Nat.lt_or_ge 0 ps.length with h|h
    ·exact h
    ·have:=HPS0.out;rw[List.getElem?_eq_none h] at this;cases this
   obtain⟨wb,hwb⟩:∃wb,wr.alloc (.cells #[.slice none 0 0] 79)=wb:=⟨_,rfl⟩
   have HWB:=aa hwb
   have hsb:wr.heap.size+1=wb.heap.size:=by rw[<-hwb];simp
   have HI:Hid (pL g most ps.length wb.heap.size ps Ap w 0 wb):=by
    refine aa ⟨none,0,[],[],⟨rfl,⟨fun _=>rfl,Nat.le_refl _,by omega⟩,Far.none _,an.nil_ _ _ _,⟨rfl,fun k h f e=>by simp at e⟩⟩,?_,?_,(fun j f e=>by simp at e),?_,Nat.le_refl _,?_,?_⟩
    ·rw[<-hsb,Nat.add_sub_cancel,<-hwb];exact Row.new wr _ _
    ·rw[<-hwb];exact HR.out.alloc _
    ·rw[<-hsb,Nat.add_sub_cancel,<-hwb];exact hsp.alloc (Nat.le_refl _) _
    ·rw[<-hwb];exact HC.out.alloc _
    ·rw[<-hwb];exact HG.out.trans (World.grownBy_alloc _ _ _)
   have hlo:w.heap.size+1<wb.heap.size:=by have:=HR.out.lt;omega
   have HFP:=aa hfp
   have hwrl:wr.heap.size=wb.heap.size-1:=by omega
   have HWL:=aa hwrl
   have hgb:g<wb.heap.size:=by omega
   clear hwb hsb hAp hnp hfp hsp HO HR HC HG hwrl
   go_wp2_with fail
   rw[HWB.out,HWL.out]
   clear HWB
   go_loopw [10,11] (fun iv _ wr=>∃i:Nat,i<=ps.length/\iv=.int .i64 (i:Int)/\Hid (pL g most ps.length wb.heap.size ps Ap w i wr)) (fun iv _ _=>ps.length-(intOf iv).toNat)
   case atStart=>exact⟨0,by omega,rfl,HI⟩
   case round=>
    obtain⟨i,hin,rfl,hI⟩:=hrel
    obtain⟨A,cA,hs,F,H,hRP,hR,hF,hps,hlr,hC,hG⟩:=hI.out
    have HH:=aa H
    have HRP:=aa hRP
    have HRR:=aa hR
    have HF:=aa hF
    have HPS:=aa hps
    have HC:=aa hC
    have HG:=aa hG
    have HL:=aa hlr
    have x0:=hRP.cell (k:=0) rfl
    have hhl:Hid (hs.length=i):=aa (by rw[H.hd.len,H.len])
    clear H hRP hR hF hps hlr hC hG hI
    by_cases hlt:i<ps.length
    ·have hlz:(i:Int)<(ps.length:Int):=by omega
     go_wp2_with (at_builtin;refine bE rfl (.const (.slice none 0 0)) (.tmp 32) 77 rfl wr.heap.size 98 j0 (.agg #[.int .i64 0,.slice none 0 0,.slice none 0 0]) 3 56 Tryz.underlying77 ji jz0 jz1 jz2 rfl (by decide) (.slice none 0 0) 0 [] rfl (World.ownsRow_nil _ _ _ _) wr.heap.size A i cA (ef hs) rfl (aa HH.out.cap.1) (aa (by rw[od,hhl.out])) (aa HH.out.see) (aa HH.out.cap.2.1) (j5 _) (by unfold maxLen;omega) (by omega) (Nat.le_refl _) ?_)
     intro v1 w2 ho1 hg1
     have HO1:=aa ho1
     have HG1:=aa hg1
     have hC2:=HC.out.kept hg1 (fun k hk=>by cases hk)
     have hs1:wr.heap.size<=w2.heap.size:=hg1.size
     have hps2:an w2 (wb.heap.size-1) Ap (cT ps):=HPS.out.keepF HFP.out fun p h1' h2'=>World.cell?_of_block (hg1.block p.block (by have:=HL.out;omega) (fun e=>by cases e))
     have cf:=Aw g i Ap ps.length cp ps most (wb.heap.size-1) w2 (aa hC2) hm (aa rfl) (by omega) (aa hps2) (aa (HFP.out.more (by omega))) HPB hlt (by have:=HL.out;omega)
     have CF:=aa cf
     have hL2:=HL.out
     clear ho1 hg1 hC2 hps2 cf x0
     go_wp2_with fail
     refine(CF.out).mono ?_
     rintro e w3 ⟨P,A1,n1,c1,A2,n2,c2,f,rfl,hh,hfg,hp,hC3,hG3⟩
     have HO3:=aa (cj HO1.out (by omega) hG3)
     have HHH:=aa hh
     have HFG:=aa hfg
     have HPI:=aa hp
     have HC3:=aa hC3
     have HG3:=aa hG3
     have hs3:w2.heap.size<=w3.heap.size:=hG3.size
     clear hh hfg hp hC3 hG3 CF
     go_wp2_with (at_builtin;refine wpList_append_own _ rfl (.tmp 33) (.tmp 39) 77 rfl wr.heap.size 98 j0 (.agg #[.int .i64 0,.slice none 0 0,.slice none 0 0]) 3 56 Tryz.underlying77 ji jz0 jz1 jz2 rfl (by decide) v1 i (ef hs) rfl (HO3.out.alloc _) ⟨_,0,none⟩ 1 1 [.int .i64 P,.slice A1 n1 c1,.slice A2 n2 c2] rfl rfl (wM _ P A1 n1 c1 A2 n2 c2 _) (rZ P A1 n1 c1 A2 n2 c2) (by unfold maxLen;omega) (by omega) (by simp;omega) ?_)
     intro v2 w4 ho4 hg4 _
     have rP:=(((HRP.out.grown HG1.out (fun e=>by cases e)).grown HG3.out (fun e=>by injection e with e;omega)).alloc _).grown hg4 (gn HO1.out (by omega))
     have HN:=aa (pL.add hlo hgl HFP.out HH.out HRP.out HRR.out HF.out HPS.out HL.out HG.out (by omega) HO1.out HG1.out HHH.out HFG.out HPI.out HC3.out HG3.out ho4 hg4)
     have q0:=rP.cell (k:=0) rfl
     have q1:=rP.free 0
     obtain⟨A4,c4,rfl,_⟩:=aW ho4
     clear ho4 hg4 rP
     go_wp2_with fail
     go_roundw
     case rel=>exact⟨i+1,by omega,by go_num,HN⟩
     case measure=>simp[intOf];omega
    ·obtain rfl:i=ps.length:=by omega
     have r0:=HRR.out.cell (k:=0) rfl
     have z0:=HRR.out.free 0
     obtain⟨wf,hwf⟩:∃wf,wr.setCell ⟨w.heap.size,0,none⟩ (.slice A ps.length cA)=wf:=⟨_,rfl⟩
     have hfz:wf.heap.size=wr.heap.size:=by rw[<-hwf];simp[World.setCell]
     have hk:∀p:Addr,p.block≠w.heap.size->wf.cell? p=wr.cell? p:=fun p hp=>by rw[<-hwf,World.cell?_setCell_other _ _ _ _ (fun e=>by subst e;exact hp rfl)]
     have hpg:PgAt wf w.heap.size wf.heap.size A ps.length cA hs F:=by
      rw[hfz]
      exact(HH.out.keep fun p h1' _=>hk p (by omega)).more (Nat.le_refl _) (by omega)
     have fT:wf.cell? ⟨w.heap.size,0,none⟩=some (.slice A ps.length cA):=by rw[<-hwf];exact(HRR.out.set_ 0 _).cell (k:=0) rfl
     have hgood:PgGood funcs most F:=by
      have hlen:F.length=ps.length:=HH.out.len
      have hall:∀(j:Nat) (f:Fn),F[j]?=some f->FnGood F.length j most f/\0<=f.params/\f.params<=3:=fun j f e=>by
       obtain⟨a1,a2⟩:=HF.out j f e
       rw[hlen]
       exact⟨a1,HPB.out _ (List.mem_of_getElem? a2)⟩
      refine⟨?_,by omega,by omega,hall⟩
      rw[jh]
      refine⟨by omega,?_,fun f hf=>?_⟩
      ·match F,hlen,HF.out with
       | f::r,_,hF'=>exact⟨f,r,rfl,by have:=(hF' 0 f rfl).2;rw[HPS0.out] at this;injection this with this;exact this.symm⟩
       | [],hlen,_=>simp at hlen;omega
      ·obtain⟨j,hj,rfl⟩:=List.mem_iff_getElem.1 hf
       exact(hall j _ (List.getElem?_eq_getElem hj)).1.err
     have hCf:ar wf g:=by rw[<-hwf];exact HC.out.kept (aM wr w.heap.size 0 _) (fun k hk=>by injection hk with hk;omega)
     have hGf:w.grownBy wf (some g):=by rw[<-hwf];exact HG.out.andThen (aM wr w.heap.size 0 _) (fun k hk=>.inl (by injection hk with hk;omega))
     have HFIN:Hid (pK funcs most g w (.returned (gv A ps.length cA)) wf):=aa ⟨A,ps.length,cA,hs,F,rfl,hpg,hgood,hCf,hGf⟩
     have HWF:=aa hwf
     clear hwf hfz hk hpg hgood hCf hGf
     go_wp2_with fail
     rw[HWF.out]
     exact bodyPost_ret (v:=gv A ps.length cA) (by simp[results,Tryz.results22,go_sem,fT]) rfl HFIN.out
theorem re (A:Option Addr) (n c:Nat) (l:List (Int×Int)) (B:Nat) (w:World) (hn:Hid (l.length=n)) (hm:n<=4611686018427387904) (hs:Hid (an w B A (bm l))) :
  Calls Tryz.prog 54 #[.slice A n c] w fun e w'=>e=.returned (.int .i64 (dh l))/\w=w':=by
 by_cases h:n<=512
 ·go_enter Tryz.func54,Tryz.ntmps54
  go_wp2_with fail
  go_loop [3] (fun i=>∃k:Nat,k<=n/\i=.int .i64 k/\Hid (∀j (hj:j<l.length),j<k->(!cH l[j].1 l[j].2)=false)) (fun i=>n-(intOf i).toNat)
  case atStart=>exact⟨0,by omega,rfl,aa fun j _ hj=>by omega⟩
  case round=>
   obtain⟨k,hk,rfl,hno⟩:=hrel
   by_cases hlt:k<n
   ·have hltz:(k:Int)<(n:Int):=by omega
    have hkz:(0:Int)<=(k:Int):=by omega
    have hkl:k<l.length:=by have:=hn.out;omega
    obtain⟨b,off,rfl,hbB,c0,c1⟩:=fo hs.out hkl
    have d1:=eG l[k].1
    have d2:=gZ l[k].2
    have HV:=aa (show cH l[k].1 l[k].2=(szB l[k].1&&aR l[k].2) from rfl)
    have hit:Hid ((!cH l[k].1 l[k].2)=true->dh l=5):=fun e=>by
     rw[kl (by have:=hn.out;omega),zl (p:=fun u=>!cH u.1 u.2) hkl e];rfl
    obtain⟨x,hx⟩:∃x,l[k].1=x:=⟨_,rfl⟩
    obtain⟨y,hy⟩:∃y,l[k].2=y:=⟨_,rfl⟩
    rw[hx] at c0 d1
    rw[hy] at c1 d2
    have HX:=aa hx
    have HY:=aa hy
    clear hx hy
    obtain⟨u,hu⟩:∃u,szB x=u:=⟨_,rfl⟩
    obtain⟨v,hv⟩:∃v,aR y=v:=⟨_,rfl⟩
    rw[hu] at d1
    rw[hv] at d2
    have HU:=aa hu
    have HW:=aa hv
    clear hu hv
    cases u with
    | false=>
     go_wp2_with fail
     refine(d1 _).mono ?_
     rintro e w' ⟨rfl,rfl⟩
     go_wp2_with fail
     go_ret
     exact⟨aj (hit.out (by rw[HV.out,HX.out,HU.out];rfl)).symm,rfl⟩
    | true=>
     cases v with
     | false=>
      go_wp2_with fail
      refine(d1 _).mono ?_
      rintro e w' ⟨rfl,rfl⟩
      go_wp2_with fail
      refine(d2 _).mono ?_
      rintro e w' ⟨rfl,rfl⟩
      go_wp2_with fail
      go_ret
      exact⟨aj (hit.out (by rw[HV.out,HX.out,HU.out,HY.out,HW.out];rfl)).symm,rfl⟩
     | true=>
      go_wp2_with fail
      refine(d1 _).mono ?_
      rintro e w' ⟨rfl,rfl⟩
      go_wp2_with fail
      refine(d2 _).mono ?_
      rintro e w' ⟨rfl,rfl⟩
      go_wp2_with fail
      go_round
      case rel=>
       refine⟨k+1,by omega,by go_num,aa fun j hj hjk=>?_⟩
       by_cases e:j=k
       ·subst e
        rw[HV.out,HX.out,HU.out,HY.out,HW.out];rfl
       ·exact hno.out j hj (by omega)
      case measure=>simp[intOf];omega
   ·obtain rfl:k=n:=by omega
    have he:Hid (dh l=0):=by
     show dh l=0
     rw[kl (by have:=hn.out;omega),xl fun j hj=>hno.out j hj (by have:=hn.out;omega)];rfl
    go_wp2_with fail
    go_ret
    exact⟨aj he.out.symm,rfl⟩
 ·have he:=aa (pT (l:=l) (by have:=hn.out;omega))
  go_enter Tryz.func54,Tryz.ntmps54
  go_wp2_with fail
  go_ret
  exact⟨aj he.out.symm,rfl⟩
theorem rx (A:Option Addr) (n c:Nat) (l:List (Int×Int)) (B:Nat) (w:World) (hn:Hid (l.length=n)) (hm:n<=4611686018427387904) (hs:Hid (an w B A (bm l))) :
  Calls Tryz.prog 35 #[.slice A n c] w fun e w'=>e=.returned (.int .i64 (gh l))/\w=w':=by
 have hc:=re A n c l B w hn hm hs
 by_cases he:dh l=0
 ·have hv:=aa (show gh l=alM l l.length by simp[gh,he])
  rw[he] at hc
  clear he
  go_enter Tryz.func35,Tryz.ntmps35
  go_wp2_with fail
  refine hc.mono ?_
  rintro e w1 ⟨rfl,rfl⟩
  clear hc
  go_wp2_with fail
  go_loop [3,4] (fun m i=>∃(k:Nat) (x:Int),k<=n/\i=.int .i64 k/\m=.int .i64 x/\Hid (x=alM l k)) (fun _ i=>n-(intOf i).toNat)
  case atStart=>exact⟨0,16,by omega,rfl,rfl,aa rfl⟩
  case round=>
   obtain⟨k,x,hk,rfl,rfl,hx⟩:=hrel
   by_cases hlt:k<n
   ·have hltz:(k:Int)<(n:Int):=by omega
    have hkz:(0:Int)<=(k:Int):=by omega
    have hkl:k<l.length:=by have:=hn.out;omega
    obtain⟨b,off,rfl,hbB,c0,c1⟩:=fo hs.out hkl
    have hstep:=pF l k hkl
    rw[<-hx.out] at hstep
    have HS:=aa hstep
    obtain⟨y,hy⟩:∃y,l[k].2=y:=⟨_,rfl⟩
    rw[hy] at c1 HS
    clear hstep hy
    go_wp2_with fail
    all_goals
     go_round
     case rel=>exact⟨k+1,_,by omega,by go_num,rfl,aa (by rw[HS.out]<;>omega)⟩
     case measure=>simp[intOf];omega
   ·obtain rfl:k=n:=by omega
    go_wp2_with fail
    go_ret
    exact⟨aj (by rw[hv.out,hx.out,hn.out]),rfl⟩
 ·have hv:=aa (show gh l=16 by simp[gh,he])
  have hne:(dh l !=0)=true:=by simpa using he
  clear he
  generalize dh l=z at hc hne
  go_enter Tryz.func35,Tryz.ntmps35
  go_wp2_with fail
  refine hc.mono ?_
  rintro e w1 ⟨rfl,rfl⟩
  go_wp2_with fail
  go_ret
  exact⟨aj hv.out.symm,rfl⟩
def alP (F:Pg) (k:Nat):Int:=(F.take k).foldl (fun m f=>max m (gh f.slots)) 16
theorem pE {F:Pg} {k:Nat} {f:Fn} (h:F[k]?=some f):alP F (k+1)=max (alP F k) (gh f.slots):=by
 unfold alP
 rw[List.take_add_one,h,List.foldl_append]
 rfl
theorem pX (A:Option Addr) (n c:Nat) (hs:List Hd) (F:Pg) (lo B:Nat) (w:World) (H:Hid (PgAt w lo B A n c hs F)) (hB:B<=w.heap.size) :
  Calls Tryz.prog 23 #[gv A n c] w fun e w'=>e=.returned (.int .i64 (alP F n))/\Below w.heap.size w w':=by
 have hn:=m9 H.out.cap
 have HB1:=aa (ag w (.cells #[.slice A n c] 79))
 have H1:=aa (H.out.below ((ag w (.cells #[.slice A n c] 79)).mono hB))
 have HR:=aa (Row.new w 79 [.slice A n c])
 obtain⟨W,hW⟩:∃W,w.alloc (.cells #[.slice A n c] 79)=W:=⟨_,rfl⟩
 rw[hW] at HB1 H1 HR
 have HW:=aa hW
 clear hW
 have x0:=HR.out.cell (k:=0) rfl
 have hBW:B<=W.heap.size:=Nat.le_trans hB HB1.out.size
 go_enter Tryz.func23,Tryz.ntmps23
 go_wp2_with fail
 rw[HW.out]
 go_loop [3,4] (fun m i=>∃(k:Nat) (x:Int),k<=n/\i=.int .i64 k/\m=.int .i64 x/\Hid (x=alP F k)) (fun _ i=>n-(intOf i).toNat)
 case atStart=>exact⟨0,16,by omega,rfl,rfl,aa rfl⟩
 case round=>
  obtain⟨k,x,hk,rfl,rfl,hx⟩:=hrel
  by_cases hlt:k<n
  ·have hltz:(k:Int)<(n:Int):=by omega
   have hkz:(0:Int)<=(k:Int):=by omega
   obtain⟨b,off,P,A1,n1,c1,A2,n2,c2,f,rfl,hbB,hf,_,hd,p0,p1,p2⟩:=lC H1.out hlt
   have hst:=pE hf
   rw[<-hx.out] at hst
   have ca:=rx A1 n1 c1 f.slots B W (aa hd.l1) (m9 hd.k1) (aa hd.s1)
   obtain⟨y,hy⟩:∃y,gh f.slots=y:=⟨_,rfl⟩
   rw[hy] at ca hst
   have HST:=aa hst
   have CA:=aa ca
   clear hst hy ca hd hf
   go_wp2_with fail
   refine(CA.out).mono ?_
   rintro e w2 ⟨rfl,rfl⟩
   go_wp2_with fail
   all_goals
    go_round
    case rel=>exact⟨k+1,_,by omega,by go_num,rfl,aa (by rw[HST.out]<;>omega)⟩
    case measure=>simp[intOf];omega
  ·obtain rfl:k=n:=by omega
   go_wp2_with fail
   go_ret
   exact⟨aj (by rw[hx.out]),HB1.out⟩
theorem oV {a b:Int} (ha:aR a=true) (hb:aR b=true):aR (max a b)=true:=by
 rcases Int.le_total a b with h|h
 ·rw[Int.max_eq_right h];exact hb
 ·rw[Int.max_eq_left h];exact ha
theorem zo {l:List (Int×Int)} (h:∀u∈l,cH u.1 u.2=true):∀k,k<=l.length->aR (alM l k)=true/\16<=alM l k:=by
 intro k
 induction k with
 | zero=>intro _;rw[xm];exact⟨by decide,by omega⟩
 | succ k ih=>
  intro hk
  obtain⟨h1,h2⟩:=ih (by omega)
  rw[pF l k (by omega)]
  have hs:=h _ (List.getElem_mem (show k<l.length by omega))
  unfold cH at hs
  simp only[Bool.and_eq_true] at hs
  exact⟨oV h1 hs.2,by omega⟩
theorem nB {l:List (Int×Int)} (h:dh l=0):∀u∈l,cH u.1 u.2=true:=by
 intro u hu
 unfold dh at h
 split at h
 ·omega
 ·split at h
  ·omega
  ·rename_i h2
   simp only[Bool.not_eq_true,List.any_eq_false] at h2
   have:=h2 u hu
   simpa using this
theorem zn {F:Pg} (h:∀f∈F,dh f.slots=0):∀k,k<=F.length->aR (alP F k)=true/\16<=alP F k:=by
 intro k
 induction k with
 | zero=>intro _;rw[show alP F 0=16 from rfl];exact⟨by decide,by omega⟩
 | succ k ih=>
  intro hk
  obtain⟨h1,h2⟩:=ih (by omega)
  have hx:=List.getElem?_eq_getElem (show k<F.length by omega)
  have hs:=h _ (List.getElem_mem (show k<F.length by omega))
  rw[pE hx]
  have ha:aR (gh F[k].slots)=true:=by
   unfold gh
   rw[if_pos hs]
   exact(zo (nB hs) _ (Nat.le_refl _)).1
  exact⟨oV h1 ha,by omega⟩
theorem qv {N:Nat} {f:Fn} {x:Ins} (h:eK N f x=0) (hp:f.params<=8):iN f.slots.length x:=by
 obtain⟨_,h1,h2,_,_,_⟩:=jE.1 h
 rw[fR] at h1 h2
 refine⟨fun e=>?_,fun e=>?_,fun e=>⟨?_,?_⟩,fun e=>?_,fun e=>?_⟩<;>rw[e] at h1 h2
 ·exact ai.1 h2
 ·exact ai.1 h1
 ·exact ai.1 h1
 ·exact ai.1 h2
 ·have:=ai.1 h1
  have e8:kE N f (dC 18).1=8:=rfl
  omega
 ·have:=ai.1 h2
  have e8:kE N f (dC 19).2.1=f.params:=rfl
  omega
theorem wI {N:Nat} {f:Fn} {x:Ins} (h:eK N f x=0) (e:x.op=22):0<=x.a/\x.a<N:=by
 obtain⟨_,h1,_⟩:=jE.1 h
 rw[fR,e] at h1
 exact ai.1 h1
theorem mg {funcs most:Nat} {F:Pg} (h:PgGood funcs most F) (hf:funcs<=80) (hm:most<=100):LowPg2 F:=by
 obtain⟨h1,_,h3⟩:=jh.1 h.err
 have hpar:∀g∈F,0<=g.params/\g.params<=8:=fun g hg=>(eW.1 (h3 g hg)).2.2.1
 have hfew:∀f∈F,f.slots.length<=6/\f.code.length<=7+5*most:=fun f hf=>by
  obtain⟨i,hi,rfl⟩:=List.mem_iff_getElem.1 hf
  have:=(h.fn i _ (List.getElem?_eq_getElem hi)).1
  exact⟨this.few,this.short⟩
 refine⟨⟨h1,fun f hf=>⟨fun x hx e=>?_,fun x hx e=>?_,hpar⟩,fun f hf=>nB (eW.1 (h3 f hf)).2.1,fun f hf=>(hfew f hf).1⟩,fun f hf x hx=>?_,fun f hf=>by have:=(hfew f hf).2;omega⟩
 ·exact(qv ((eW.1 (h3 f hf)).2.2.2.1 x hx) (hpar f hf).2).2.2.2.1 e
 ·exact wI ((eW.1 (h3 f hf)).2.2.2.1 x hx) e
 ·exact qv ((eW.1 (h3 f hf)).2.2.2.1 x hx) (hpar f hf).2
def kH (g:Fm):Prop:=(0<=g.size/\g.size<=268435456)/\1<=g.code.length/\g.code.length<=1024/\∀x∈g.code,x.op=16->0<=x.c/\x.c<=16
theorem Aa {funcs most:Nat} {F:Pg} {al:Int} (h:PgGood funcs most F) (hf:funcs<=80) (hm:most<=100) (ha:aR al=true):∀g∈F.map (aN F al),kH g:=by
 intro g hg
 obtain⟨f,hf2,rfl⟩:=List.mem_map.1 hg
 have hl:=mg h hf hm
 obtain⟨i,hi,rfl⟩:=List.mem_iff_getElem.1 hf2
 have hgd:=(h.fn i _ (List.getElem?_eq_getElem hi)).1
 have hlen:(aN F al F[i]).code.length=F[i].code.length:=by unfold aN;simp
 refine⟨ku (hl.pg.arg _ hf2) (hl.pg.slot _ hf2) (hl.pg.six _ hf2) ha,by rw[hlen];exact hgd.some,by rw[hlen];exact hl.short _ hf2,fun x hx e=>?_⟩
 unfold aN at hx
 simp only at hx
 obtain⟨z,hz,rfl⟩:=List.mem_map.1 hx
 have hlo:=hl.low _ hf2 z hz
 have hsl:=hl.pg.slot _ hf2
 have hsz:∀k:Int,0<=k/\k<F[i].slots.length->0<=bU F[i].slots k/\bU F[i].slots k<=16:=fun k hk=>by
  obtain⟨j,rfl⟩:=Int.eq_ofNat_of_zero_le hk.1
  have hj:j<F[i].slots.length:=by omega
  rw[lj hj]
  have hs:=hsl _ (List.getElem_mem hj)
  unfold cH at hs
  simp only[Bool.and_eq_true] at hs
  have:=iF hs.1
  omega
 unfold cU at e⊢
 by_cases h15:z.op=15
 ·rw[if_pos h15] at e;simp at e
 ·rw[if_neg h15] at e⊢
  by_cases h16:z.op=16
  ·rw[if_pos h16];exact hsz _ (hlo.2.1 h16)
  ·rw[if_neg h16] at e⊢
   by_cases h17:z.op=17
   ·rw[if_pos h17] at e;simp at e
   ·rw[if_neg h17] at e⊢
    by_cases h18:z.op=18
    ·rw[if_pos h18];simp
    ·rw[if_neg h18] at e⊢
     by_cases h19:z.op=19
     ·rw[if_pos h19] at e;simp at e
     ·rw[if_neg h19] at e;exact absurd e h16
theorem mM {w:World} {base:Nat} {t:TypeId} {size n c:Nat} {A:Option Addr} {xs:List Value} (h:w.ownsRow base t size (.slice A n c) n xs) (hn:0<n):∃G,A=some ⟨G,0,none⟩/\base<=G/\G<w.heap.size:=by
 rcases h.2 with⟨h1,h2⟩|⟨g,cap,cur,h1,h3,_⟩
 ·omega
 ·injection h1 with h1 _ _
  subst h1
  exact⟨g,rfl,h3,(h.lt g rfl).2⟩
theorem ez {w:World} {base G n c:Nat} {t:TypeId} {hs:List Fd} {k:Nat} {x:Fd} (h:w.ownsRow base t 3 (.slice (some ⟨G,0,none⟩) n c) n (aV hs)) (hx:hs[k]?=some x) :
  (w.cell? ⟨G,k*3,none⟩=some (.int .i64 x.p)/\w.cell? ⟨G,k*3+1,none⟩=some (.int .i64 x.s)/\w.cell? ⟨G,k*3+2,none⟩=some (.slice x.a x.n x.c))/\∀j,w.frozen? ⟨G,j,none⟩=false:=by
 have g:=fun j hj=>fs fa hs k _ hx j hj
 have c':=fun j u (hu:(aV hs)[j]?=some u)=>(by
  have:=h.cells (g:=G) rfl j u hu
  rwa[WideShapes.add_plain,Nat.zero_add] at this:w.cell? ⟨G,j,none⟩=some u)
 exact⟨⟨c' _ _ (g 0 (by omega)),c' _ _ (g 1 (by omega)),c' _ _ (g 2 (by omega))⟩,fun j=>h.frozenAt j⟩
theorem uF (hs:List Fd) (i:Nat) (h:Fd) (hx:hs[i]?=some h) (A:Option Addr) (n c:Nat):(aV hs).set (i*3+2) (.slice A n c)=aV (hs.set i ⟨h.p,h.s,A,n,c⟩):=eh fa hs i h _ hx 2 (by omega) _ rfl
theorem dc.stay {wr w2:World} {base:Nat} {hh:List Fd} {G:Tg} {g:Nat} (h:dc wr base hh G) (hg:g<base) (hG:wr.grownBy w2 (some g)):dc w2 base hh G:=fun j x q e1 e2=>⟨(h j x q e1 e2).p,(h j x q e1 e2).s,(h j x q e1 e2).n,cj (h j x q e1 e2).row hg hG⟩
theorem dc.set {w:World} {base i n:Nat} {hh:List Fd} {G:Tg} {h:Fd} {q:Fm} {A:Option Addr} {c:Nat} {ys:List Ins} (H:dc w base hh G) (h1:hh[i]?=some h) (h2:G[i]?=some q) (hl:ys.length=n) (ho:w.ownsRow base 50 5 (.slice A n c) n (au ys)):dc w base (hh.set i ⟨h.p,h.s,A,n,c⟩) (G.set i ⟨q.params,q.size,ys⟩):=fun j x z e1 e2=>by
 by_cases e:i=j
 ·subst e
  have l1:=(List.getElem?_eq_some_iff.1 h1).1
  have l2:=(List.getElem?_eq_some_iff.1 h2).1
  rw[List.getElem?_set_self l1] at e1
  rw[List.getElem?_set_self l2] at e2
  injection e1 with e1
  injection e2 with e2
  subst e1 e2
  exact⟨(H i h q h1 h2).p,(H i h q h1 h2).s,hl.symm,ho⟩
 ·rw[List.getElem?_set_ne e] at e1 e2
  exact H j x z e1 e2
theorem kH.set {G:Tg} {i:Nat} {q:Fm} {ys:List Ins} (H:∀z∈G,kH z) (h:G[i]?=some q) (hl:ys.length=q.code.length) (hy:∀x∈ys,x.op=16->0<=x.c/\x.c<=16):∀z∈G.set i ⟨q.params,q.size,ys⟩,kH z:=fun z hz=>by
 rcases List.mem_or_eq_of_mem_set hz with hz|rfl
 ·exact H z hz
 ·have:=H q (List.mem_of_getElem? h)
  exact⟨this.1,by show 1<=ys.length;rw[hl];exact this.2.1,by show ys.length<=1024;rw[hl];exact this.2.2.1,hy⟩
theorem dc.none_ {w w':World} {base:Nat} {hh:List Fd} {G:Tg} (H:dc w base hh G) (hg:w.grownBy w' none):dc w' base hh G:=fun j x q e1 e2=>(H j x q e1 e2).kept hg (by
 rcases ho:(Value.slice x.a x.n x.c).ownBlock with _|k
 ·exact .inl rfl
 ·exact .inr (fun e=>by cases e))
end Go.Proofs.YtjbgepjdohfhkaaGreat
