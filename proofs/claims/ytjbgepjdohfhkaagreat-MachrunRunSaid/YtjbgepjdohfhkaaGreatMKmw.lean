/- The contract of Memory's write (chapter 9): bytes copied into a stack of the caller's own, and marked as used. Conditions: those of the types; the bytes lie on the -/
import Derived.Test.YtjbgepjdohfhkaaGreatMMmem
import Derived.Deep.DeepFit
set_option linter.unusedVariables false
set_option linter.unusedSimpArgs false
set_option maxRecDepth 100000
set_option maxHeartbeats 4000000
namespace Go.Proofs.YtjbgepjdohfhkaaGreat
open Go.RowKit
section
attribute [local go_sem ↓] Go.wp_at_zero Go.wp_at_succ
section
variable {g o base:Nat} {T:TypeId} {cs:List Value} {A1 A2:Option Addr} {c1 c2:Nat} {S:Sk}
def Bn (S:Sk) (T:TypeId) (cs:List Value) (g g1 c1 g2 c2:Nat) (zs:List Int) (w:World) (base a m:Nat) (i:Value) (wr:World):Prop:=
 ∃k:Nat,k<=m/\i=.int .i64 (k:Int)/\Hid (Row wr g T cs) /\
  Hid (wr.ownsRow base 5 1 (.slice (some ⟨g1,0,none⟩) S.bs.length c1) S.bs.length (splice (aq S.bs) a (aq zs)))/\Hid (wr.ownsRow base 4 1 (.slice (some ⟨g2,0,none⟩) S.bs.length c2) S.bs.length (splice (bh S.us) a ((List.replicate m (Value.bool true)).take k)))/\Hid (MKp w wr g base)
theorem mO (a m:Nat) (A3:Option Addr) (c3:Nat) (zs:List Int) (w:World) (h:Hid (MemAt w g o base T cs A1 c1 A2 c2 S)) (hz:Hid (an w w.heap.size A3 (aq zs))) (hl:Hid (zs.length=m)) (hb:Hid (∀z∈zs,0<=z/\z<=255)) (hm:1<=m) (h16:m<=16) (ha:a+m<=S.bs.length) :
  Calls Tryz.prog 129 #[.pointer (some ⟨g,o,none⟩),.int .i64 (a:Int),.slice A3 m c3] w fun e w'=>e=.returned (.tuple #[])/\MemAt w' g o base T cs A1 c1 A2 c2 (iU S a zs)/\MKp w w' g base:=by
 have hok:=aa h.out.own.ok
 have hmost:=hok.out.most
 obtain⟨g1,q1,hv1,hg1,hgl1,hn1,hM1⟩:=eu h.out.own.o1 (show 0<S.bs.length by omega)
 injection hv1 with hv1 _ hv3
 subst hv1 hv3
 obtain⟨g2,q2,hv1,hg2,hgl2,hn2,hM2⟩:=eu h.out.own.o2 (show 0<S.bs.length by omega)
 injection hv1 with hv1 _ hv3
 subst hv1 hv3
 obtain⟨ad,hA3,hsrc⟩:=hz.out.src (show 0<(aq zs).length by rw[dq,hl.out];omega)
 subst hA3
 have hne:=aa (show g2≠g1 from fun e=>by
  rcases i4 h.out.own.o1 h.out.own.o2 (by decide) with h1|h1
  ·simp[Value.ownBlock] at h1
  ·exact h1 (by simp[Value.ownBlock,e]))
 have hgg1:=aa (show g1≠g from fun e=>by
  rcases bV h.out.own.o1 h.out.row h.out.t1 with h1|h1
  ·simp[Value.ownBlock] at h1
  ·exact h1 (by simp[Value.ownBlock,e]))
 have hgg2:=aa (show g2≠g from fun e=>by
  rcases bV h.out.own.o2 h.out.row h.out.t2 with h1|h1
  ·simp[Value.ownBlock] at h1
  ·exact h1 (by simp[Value.ownBlock,e]))
 obtain⟨cur,hh,hcl,hct,_⟩:=oW h.out.own.o1
 have HH:=aa hh
 have HCL:=aa hcl
 have HS:=aa (show∀(j:Nat) (v:Value),(aq zs)[j]?=some v->w.cell? (ad.add j)=some v from fun j v hj=>hsrc j v hj)
 have hlen:=aa (show(aq zs).length=m by rw[dq];exact hl.out)
 have C1:=aa (rH (off:=a) (cs:=aq zs) (base:=base) hh hcl hn1 hM1 hg1 (by rw[hlen.out];exact ha))
 rw[hct] at C1
 obtain⟨W1,hW1⟩:∃W,w.setRow g1 (cur.take a++(aq zs++cur.drop (a+(aq zs).length))).toArray=W:=⟨_,rfl⟩
 have HW1:=aa hW1
 have T1:=aa (show w.grownBy W1 (some g1) by rw[<-hW1];exact rg w g1 _)
 rw[hW1] at C1
 have HCP:∀ty,(Builtin.copy_ #[22,22] ty #[.slice (some ⟨g1,a,none⟩) (S.bs.length-a) (c1-a),.slice (some ad) m c3]).run Tryz.prog w=.ok (goInt (aq zs).length) W1:=by
  intro ty
  rw[<-hW1]
  have:=run_copy_row (P:=Tryz.prog) w 22 22 ty 5 g1 a (S.bs.length-a) (c1-a) ad m c3 cur.toArray 5 (aq zs) Tryz.underlying22 yd hh (by rw[hlen.out];exact(Nat.min_eq_left (by omega)).symm) HS.out (by rw[hlen.out];simp[hcl];omega) (lN zs)
  simpa using this
 have R1:=aa (h.out.row.grown T1.out (fun e=>hgg1.out (by first|exact Option.some.inj e|exact(Option.some.inj e).symm)))
 have O21:=aa (h.out.own.o2.kept T1.out (.inr (by simp[Value.ownBlock];exact hne.out)))
 have K1:=aa (MKp.of_row T1.out h.out.own.o1 (.inl rfl) g)
 clear hsrc hh hcl hW1
 have f0:=h.out.row.cell h.out.k0
 have f1:=R1.out.cell h.out.k1
 have hna:¬(c1=a):=by omega
 go_enter Tryz.func129,Tryz.ntmps129
 go_wp2_with (simp only[HCP])
 go_loopw [18] (fun i wr=>Bn S T cs g g1 c1 g2 c2 zs w base a m i wr) (fun i _=>m-(intOf i).toNat)
 case atStart=>
  refine⟨0,by omega,rfl,R1,C1,aa ?_,K1⟩
  rw[List.take_zero,gg _ _ (by rw[dn,hok.out.len];omega)]
  exact O21.out
 case round=>
  obtain⟨k,hk,rfl,RX',P1,P2,BB⟩:=hrel
  have hk1:=aa h.out.k1
  have HF:=aa h.out
  clear f0 f1 C1 R1 T1 O21 K1 HCP HH HCL HS HW1 h
  have f1:=RX'.out.cell hk1.out
  by_cases hlt:k<m
  ·have hlen2:=aa P2.out.1
   have hc:(wr.cell? ⟨g2,a+k,none⟩).isSome=true:=by rw[P2.out.cellAt (a+k) (by omega),List.getElem?_eq_getElem (by rw[hlen2.out];omega)];rfl
   obtain⟨u,hc⟩:=Option.isSome_iff_exists.1 hc
   have hf:wr.frozen? ⟨g2,a+k,none⟩=false:=P2.out.frozenAt (a+k)
   have hst:=P2.out.stored (a+k) (.bool true)
   rw[iG _ _ _ _ (Value.bool true) (by rw[dn,hok.out.len];simp;omega) (by rw[List.getElem?_replicate];simp[hlt])] at hst
   have Hst1:=aa hst.1
   have Hst2:=aa hst.2
   clear hst
   go_wp2_with fail
   refine⟨⟨k+1,by omega,by go_num,?_,?_,Hst1,?_⟩,by simp[intOf];omega⟩
   ·exact aa (RX'.out.grown Hst2.out (fun e=>hgg2.out (by first|exact Option.some.inj e|exact(Option.some.inj e).symm)))
   ·exact aa (P1.out.kept Hst2.out (.inr (by simp[Value.ownBlock];exact fun h=>hne.out h.symm)))
   ·exact aa (BB.out.trans (MKp.of_row Hst2.out P2.out (.inr rfl) g))
  ·obtain rfl:k=m:=by omega
   rw[List.take_of_length_le (by simp)] at P2
   go_wp2_with fail
   go_end0
   have PL:=iq (S:=S) (a:=a) (zs:=zs) (by rw[hl.out];exact ha)
   refine⟨rfl,⟨RX'.out,by rw[PL];exact HF.out.k0,by rw[PL];exact HF.out.k1,HF.out.k2,⟨hok.out.put (by rw[hl.out];exact ha) hb.out,?_,?_⟩,HF.out.gb,HF.out.t1,HF.out.t2⟩,BB.out⟩
   ·rw[PL,show(iU S a zs).bs=splice S.bs a zs from rfl,iA]
    exact P1.out
   ·rw[PL,show(iU S a zs).us=splice S.us a (List.replicate zs.length true) from rfl,fj,ic,hl.out]
    exact P2.out
end
end
section
attribute [local go_sem ↓] Go.wp_at_zero Go.wp_at_succ
section
variable {A1 A2:Option Addr} {c1 c2:Nat} {S:Sk}
theorem StkAt.place {w:World} {B:Nat} (h:StkAt w B A1 c1 A2 c2 S) (h1:1<=S.bs.length):(∃b off,A1=some ⟨b,off,none⟩/\b<B)/\∃b off,A2=some ⟨b,off,none⟩/\b<B:=by
 have hl:=h.ok.len
 obtain⟨b,off,e,hb,_⟩:=h.s1 0 (.int .u8 (S.bs.getD 0 0)) (uC (by omega))
 obtain⟨b',off',e',hb',_⟩:=h.s2 0 (.bool S.us[0]) (la (List.getElem?_eq_getElem (by omega)))
 exact⟨⟨b,off,e,hb⟩,b',off',e',hb'⟩
theorem oE (a n:Nat) (w:World) (hS:Hid (StkAt w w.heap.size A1 c1 A2 c2 S)) (h1:1<=n) (ha:a+n<=S.bs.length) :
  Calls Tryz.prog 127 #[sv A1 c1 A2 c2 S,.int .i64 (a:Int),.int .i64 (n:Int)] w fun e w'=>e=.returned (.bool (dg S a n))/\Below w.heap.size w w':=by
 have hmost:=hS.out.ok.most
 have hm2:=hS.out.m2
 have hl:=hS.out.ok.len
 have f1:=(Row.new w 66 [.slice A1 S.bs.length c1,.slice A2 S.bs.length c2,.int .i64 (S.sp:Int)]).cell (k:=1) rfl
 obtain⟨_,b,off,rfl,hb⟩:=hS.out.place (by omega)
 have cc:=pu (some ⟨b,off+a,none⟩) n (c2-a) ((S.us.drop a).take n) w.heap.size (w.alloc (.cells #[.slice A1 S.bs.length c1,.slice (some ⟨b,off,none⟩) S.bs.length c2,.int .i64 (S.sp:Int)] 66)) (aa (by simp;omega)) (by omega) (aa (by
  have h2:=(hS.out.below (ag w (.cells #[.slice A1 S.bs.length c1,.slice (some ⟨b,off,none⟩) S.bs.length c2,.int .i64 (S.sp:Int)] 66))).cutB a n
  rwa[Option.map_some,WideShapes.add_plain] at h2))
 obtain⟨u,hu⟩:∃u,dg S a n=u:=⟨_,rfl⟩
 rw[show((S.us.drop a).take n).all id=u from hu] at cc
 rw[hu]
 clear hu hl hS
 go_enter Tryz.func127,Tryz.ntmps127
 go_wp2_with fail
 refine cc.mono ?_
 rintro e w' ⟨rfl,rfl⟩
 go_wp2_with fail
 go_ret
 exact⟨aw (by cases u<;>rfl),ag _ _⟩
theorem jm (off n:Int) (w:World) (hS:Hid S.Ok) :
  Calls Tryz.prog 126 #[sv A1 c1 A2 c2 S,.int .i64 off,.int .i64 n] w fun e w'=>e=.returned (.bool (bN S off n))/\Below w.heap.size w w':=by
 have hmost:=hS.out.most
 have hsp:=hS.out.sp
 have ck:=fun w=>k9 A1 S.bs.length c1 A2 S.bs.length c2 (S.sp:Int) w (by omega) (by omega)
 rw[px hS.out] at ck
 have R:=aa (Row.new w 66 [.slice A1 S.bs.length c1,.slice A2 S.bs.length c2,.int .i64 (S.sp:Int)])
 obtain⟨W1,hW1⟩:∃W1,w.alloc (.cells #[.slice A1 S.bs.length c1,.slice A2 S.bs.length c2,.int .i64 (S.sp:Int)] 66)=W1:=⟨_,rfl⟩
 have HW1:=aa hW1
 have R1:=aa (show Row W1 w.heap.size 66 [.slice A1 S.bs.length c1,.slice A2 S.bs.length c2,.int .i64 (S.sp:Int)] by rw[<-hW1];exact R.out)
 have B1:=aa (show Below w.heap.size w W1 by rw[<-hW1];exact ag w _)
 clear hW1 R
 have f0:=R1.out.cell (k:=0) rfl
 have f1:=R1.out.cell (k:=1) rfl
 have f2:=R1.out.cell (k:=2) rfl
 cases hz:szB n with
 | false=>
  have hr:=aa (show bN S off n=false by simp[bN,hz])
  have cz:=jZ n
  rw[hz] at cz
  clear hz
  go_enter Tryz.func126,Tryz.ntmps126
  go_upto_region 1 with(fail)
  rw[HW1.out]
  go_wp2_with fail
  refine(ck _).mono ?_
  rintro e w2 ⟨rfl,hb2⟩
  go_wp2_with fail
  refine(cz _).mono ?_
  rintro e w3 ⟨rfl,rfl⟩
  go_wp2_with fail
  go_ret
  exact⟨aw hr.out.symm,B1.out.trans (hb2.mono B1.out.size)⟩
 | true=>
  have hn:=of_decide_eq_true (show decide (n=1\/n=2\/n=4\/n=8\/n=16)=true from hz)
  have hr:=aa (show a9 off n ((S.bs.length:Int)-S.sp)=bN S off n by
   rw[Bool.eq_iff_iff,ix]
   unfold a9
   rw[Bool.and_eq_true,et,decide_eq_true_eq]
   constructor
   ·rintro⟨⟨h1,h2,h3⟩,h4⟩;exact⟨hz,h1,h4⟩
   ·rintro⟨_,h1,h4⟩;exact⟨⟨h1,by omega,by omega⟩,h4⟩)
  have cz:=jZ n
  rw[hz] at cz
  have ci:=kx off n ((S.bs.length:Int)-S.sp)
  rw[hr.out] at ci
  clear hz hn hr
  go_enter Tryz.func126,Tryz.ntmps126
  go_upto_region 1 with(fail)
  rw[HW1.out]
  go_wp2_with fail
  refine(ck _).mono ?_
  rintro e w2 ⟨rfl,hb2⟩
  have g0:=aD hb2 f0
  have g1:=aD hb2 f1
  have g2:=aD hb2 f2
  go_wp2_with fail
  refine(cz _).mono ?_
  rintro e w3 ⟨rfl,rfl⟩
  go_wp2_with fail
  refine(ci _).mono ?_
  rintro e w3 ⟨rfl,hb3⟩
  go_wp2_with fail
  go_ret
  exact⟨aw (by simp),(B1.out.trans (hb2.mono B1.out.size)).trans (hb3.mono (by have:=B1.out.size;have:=hb2.size;omega))⟩
end
end
theorem Tryz.binfo5:(Tryz.prog.info? 5).map (fun i=>(i.zero,i.size,i.bytes))=some (some (.int .u8 0),1,1):=by kernel_rfl
def jY (k:Nat):List Value:=List.replicate k (.int .u8 0)
theorem un {P:Program} {t e:TypeId} {i:TypeInfo} (ht:P.underlying t=some (.slice e)) (hi:P.info? e=some i) (hz:i.zero=some (.int .u8 0)) (hs:i.size=1) (hb:i.bytes=1)
  (n:Nat) (hm:n<=140737488355328) (W:World) :
  (Instr.makeSlice t (.int .i64 (n:Int)) (.int .i64 (n:Int))).run P W=.ok (.slice (some ⟨W.heap.size,0,none⟩) n n) (W.alloc (.cells (jY n).toArray e)):=by
 have h:=run_make W t e i _ ht hi hz .i64 .i64 (n:Int) (n:Int) (by omega) (by omega) (by rw[hb];omega) (by omega)
 rw[h,show((n:Int)).toNat=n by omega,hs,Nat.mul_one]
 rw[show(Value.int IntKind.u8 0).cells=#[Value.int IntKind.u8 0] from rfl,j4]
 rfl
def iJ (X m k:Nat):List Int:=bS X k++List.replicate (m-k) 0
theorem tN (X m k:Nat) (hk:k<m):(aq (iJ X m k))[k]?=some (.int .u8 0):=by
 unfold iJ aq
 rw[List.map_append,List.getElem?_append_right (by simp[bH]),List.length_map,bH,Nat.sub_self]
 obtain⟨j,hj⟩:∃j,m-k=j+1:=⟨m-k-1,by omega⟩
 rw[hj,List.replicate_succ]
 rfl
theorem tM (X m k:Nat) (hk:k<m):(aq (iJ X m k)).set k (.int .u8 (fK X k))=aq (iJ X m (k+1)):=by
 unfold iJ aq
 obtain⟨j,hj⟩:∃j,m-k=j+1:=⟨m-k-1,by omega⟩
 rw[List.map_append,List.set_append_right _ _ (by simp[bH]),List.length_map,bH,Nat.sub_self,hj,List.replicate_succ,show m-(k+1)=j by omega]
 simp[bS]
theorem rE (X m:Nat):aq (iJ X m 0)=jY m:=by simp[iJ,bS,aq,jY]
theorem tO (X m:Nat):iJ X m m=bS X m:=by simp[iJ]
def gP (X m:Nat) (w:World) (e:Ending) (w':World):Prop:=
 ∃r,e=.returned r/\w'.ownsRow w.heap.size 5 1 r m (aq (bS X m))/\Below w.heap.size w w'
def Bv (w0:World) (gx gs X m:Nat) (i:Value) (wr:World):Prop:=
 ∃k:Nat,k<=m/\i=.int .i64 k/\Box wr gx X/\wr.ownsRow w0.heap.size 5 1 (.slice (some ⟨gs,0,none⟩) m m) m (aq (iJ X m k))/\Below w0.heap.size w0 wr
theorem uQ (X m:Nat) (w:World) (hX:X<ae) (hm:m<=16) (hs:szB (m:Int)=true) :
  Calls Tryz.prog 130 #[vv X,.int .i64 m] w (gP X m w):=by
 obtain⟨i0,hi0,hz0,hz1,hz2⟩:=info_parts Tryz.binfo5
 have hmk:=un (P:=Tryz.prog) Tryz.underlying22 hi0 hz0 hz1 hz2 m (by omega)
 obtain⟨l0,l1⟩:=cM X
 obtain⟨h0,h1⟩:=cQ X
 go_enter Tryz.func130,Tryz.ntmps130
 go_wp2_with fail
 refine(jZ (m:Int) _).mono ?_
 rw[hs]
 rintro e w' ⟨rfl,rfl⟩
 go_wp2_with fail
 go_loopw [14] (fun i wr=>Bv w w.heap.size (w.heap.size+1) X m i wr) (fun i _=>m-(intOf i).toNat)
 case atStart=>
  refine⟨0,by omega,rfl,(Box.new w X).alloc _,?_,aP _ _ _⟩
  rw[rE]
  refine⟨by simp[jY],.inr ⟨w.heap.size+1,m,_,rfl,by omega,by simpa using heap_alloc_new (w.alloc _) _,by omega,by unfold maxLen;omega,by simp[jY],by simp[jY]⟩⟩
 case round=>
  obtain⟨k,hk,rfl,bx,hown,hb⟩:=hrel
  clear hmk
  by_cases hlt:k<m
  ·obtain⟨x0,x1,xz0,xz1⟩:=bx.facts
   have hc:wr.cell? ⟨w.heap.size+1,k,none⟩=some (.int .u8 0):=by rw[hown.cellAt k (by omega)];exact tN X m k hlt
   have hf:wr.frozen? ⟨w.heap.size+1,k,none⟩=false:=hown.frozenAt k
   have hst:=hown.stored k (.int .u8 (fK X k))
   rw[tM X m k hlt] at hst
   by_cases h8:k<8
   ·go_wp2_with fail
    rw[qC X k h8]
    exact⟨⟨k+1,by omega,by go_num,bx.far (p:=⟨w.heap.size+1,k,none⟩) (by simp) _,hst.1,hb.setCell (p:=⟨w.heap.size+1,k,none⟩) (by simp) _⟩,by simp[intOf];omega⟩
   ·go_wp2_with fail
    rw[qD X k hX (by omega)]
    exact⟨⟨k+1,by omega,by go_num,bx.far (p:=⟨w.heap.size+1,k,none⟩) (by simp) _,hst.1,hb.setCell (p:=⟨w.heap.size+1,k,none⟩) (by simp) _⟩,by simp[intOf];omega⟩
  ·obtain rfl:k=m:=by omega
   rw[tO] at hown
   go_wp2_with fail
   go_ret
   exact⟨_,rfl,hown,hb⟩
theorem xe (X:Nat) (n:Int) (w:World) (hs:szB n=false) :
  Calls Tryz.prog 130 #[vv X,.int .i64 n] w (gP X 0 w):=by
 go_enter Tryz.func130,Tryz.ntmps130
 go_wp2_with fail
 refine(jZ n _).mono ?_
 rw[hs]
 rintro e w' ⟨rfl,rfl⟩
 go_wp2_with fail
 go_ret
 exact⟨_,rfl,World.ownsRow_nil _ _ _ _,(Below.refl _ _).alloc (Nat.le_refl _) _⟩
theorem uR (X:Nat) (n:Int) (w:World) (hX:X<ae):Calls Tryz.prog 130 #[vv X,.int .i64 n] w (gP X (szN n) w):=by
 by_cases h:szB n=true
 ·have e:=lk h
  have:=uQ X (szN n) w hX (s6 n) (by rw[e];exact h)
  rwa[e] at this
 ·have h:szB n=false:=by simpa using h
  rw[s5 h];exact xe X n w h
section
attribute [local go_sem ↓] Go.wp_at_zero Go.wp_at_succ
theorem wA (b k:Nat):(some (⟨b,0,none⟩:Addr)).map (·.add k)=some ⟨b,k,none⟩:=by
 show some ((⟨b,0,none⟩:Addr).add k)=_
 congr 1
 unfold Addr.add
 split<;>simp_all
section
variable {g o base:Nat} {T:TypeId} {cs:List Value} {A1 A2:Option Addr} {c1 c2:Nat} {S:Sk}
def vd (g o base:Nat) (T:TypeId) (cs:List Value) (A1:Option Addr) (c1:Nat) (A2:Option Addr) (c2:Nat) (S':Sk) (r:Value) (w:World) (e:Ending) (w':World):Prop:=
 e=.returned r/\MemAt w' g o base T cs A1 c1 A2 c2 S'/\MKp w w' g base
theorem rM (off n:Int) (X:Nat) (hX:X<ae) (w:World) (h:Hid (MemAt w g o base T cs A1 c1 A2 c2 S)) :
  Calls Tryz.prog 97 #[.pointer (some ⟨g,o,none⟩),.int .i64 off,.int .i64 n,vv X] w (vd g o base T cs A1 c1 A2 c2 (j2 S off n X) (.int .i64 (fI S off n)) w):=by
 have hok:=aa h.out.own.ok
 have hmost:=hok.out.most
 have hsp:=hok.out.sp
 obtain⟨W1,hW1⟩:∃W,w.alloc (.cells #[.int .u64 (lo X),.int .u64 (hi X)] 38)=W:=⟨_,rfl⟩
 have HW1:=aa hW1
 have R1:=aa (show Row W1 w.heap.size 38 [.int .u64 (lo X),.int .u64 (hi X)] by rw[<-hW1];exact Row.new w _ _)
 have hb1:Below w.heap.size w W1:=by rw[<-hW1];exact ag w _
 have H1:=aa (h.out.call hb1)
 have K1:=aa (MKp.of_below hb1 g base)
 have hgX:=aa (show w.heap.size≠g by have:=h.out.row.lt;omega)
 have x0:=H1.out.row.cell H1.out.k0
 have x1:=H1.out.row.cell H1.out.k1
 have x2:=H1.out.row.cell H1.out.k2
 clear hW1 hb1
 cases hf:bN S off n with
 | false=>
  obtain⟨hE,hR⟩:=oL (X:=X) hf
  have cf:=jm (A1:=A1) (A2:=A2) (c1:=c1) (c2:=c2) off n W1 hok
  rw[hf] at cf
  rw[hE,hR]
  clear hf hE hR
  go_enter Tryz.func97,Tryz.ntmps97
  go_upto_region 1 with(fail)
  rw[HW1.out]
  go_wp2_with fail
  refine cf.mono ?_
  rintro e w2 ⟨rfl,hb2⟩
  have H2:=aa (H1.out.call hb2)
  have K2:=aa (K1.out.trans (MKp.of_below hb2 g base))
  clear hb2 cf x0 x1 x2
  go_wp2_with fail
  go_ret
  exact⟨rfl,H2.out,K2.out⟩
 | true=>
  obtain⟨a,m,rfl,rfl,hm0,hm16,hfit⟩:=gM hf
  obtain⟨hE,hR⟩:=gF (X:=X) hf
  have cf:=jm (A1:=A1) (A2:=A2) (c1:=c1) (c2:=c2) (a:Int) (m:Int) W1 hok
  rw[hf] at cf
  have cb:=uR X (m:Int)
  rw[show szN (m:Int)=m from by have:=lk (ix.1 hf).1;omega] at cb
  rw[hE,hR]
  clear hf hE hR
  go_enter Tryz.func97,Tryz.ntmps97
  go_upto_region 1 with(fail)
  rw[HW1.out]
  go_wp2_with fail
  refine cf.mono ?_
  rintro e w2 ⟨rfl,hb2⟩
  have H2:=aa (H1.out.call hb2)
  have R2:=aa (R1.out.call hb2)
  have K2:=aa (K1.out.trans (MKp.of_below hb2 g base))
  clear hb2 cf x0 x1 x2
  have x2:=H2.out.row.cell H2.out.k2
  have v0:=R2.out.cell (k:=0) rfl
  have v1:=R2.out.cell (k:=1) rfl
  have hwr:IntKind.i64.wrap ((S.sp:Int)+(a:Int))=(S.sp:Int)+(a:Int):=by rw[IntKind.wrap_i64];omega
  have cw:=fun(w5:World) (A3:Option Addr) (c3 B5:Nat) (hb5:Below w2.heap.size w2 w5) (ho5:w5.ownsRow B5 5 1 (.slice A3 m c3) m (aq (bS X m)))=>mO (S.sp+a) m A3 c3 (bS X m) w5 (aa (H2.out.call hb5)) (aa (an.own ho5)) (aa (bH X m)) (aa (kF X m)) hm0 hm16 hfit
  rw[show((S.sp+a:Nat):Int)=(S.sp:Int)+(a:Int) by omega] at cw
  go_upto_region 3 with(fail)
  go_region_held3 (fun w'=>w'.cell? ⟨g,o+2,none⟩=some (.int .i64 (S.sp:Int))/\w'.cell? ⟨w.heap.size,0,none⟩=some (.int .u64 (lo X))/\w'.cell? ⟨w.heap.size,1,none⟩=some (.int .u64 (hi X))) (first|go_keep|exact m5|exact m6)
   (first
    | (go_at_call 130;go_fit (cb _ hX);rintro e w5 ⟨r5,rfl,ho5,hb5⟩;have b5:=aa (show Below w2.heap.size w2 w5 from Below.trans (am (Below.refl w2.heap.size w2) _) hb5);have m5:=(⟨(H2.out.call b5.out).row.cell H2.out.k2,(R2.out.call b5.out).cell (k:=0) rfl,(R2.out.call b5.out).cell (k:=1) rfl⟩:w5.cell? ⟨g,o+2,none⟩=some (.int .i64 (S.sp:Int))/\w5.cell? ⟨w.heap.size,0,none⟩=some (.int .u64 (lo X))/\w5.cell? ⟨w.heap.size,1,none⟩=some (.int .u64 (hi X)));obtain⟨A3,c3,hr5,_⟩:=bX ho5;subst hr5;clear hb5)
    | (go_at_call 129;go_fit (cw _ _ _ _ b5.out ho5);rintro e w6 ⟨rfl,h6,k6⟩;have H6:=aa h6;have K6:=aa (K2.out.trans ((MKp.of_below b5.out g base).trans k6));have m6:=(⟨h6.row.cell h6.k2,(k6.row (R2.out.call b5.out) hgX.out (.inr (by decide))).cell (k:=0) rfl,(k6.row (R2.out.call b5.out) hgX.out (.inr (by decide))).cell (k:=1) rfl⟩:w6.cell? ⟨g,o+2,none⟩=some (.int .i64 (S.sp:Int))/\w6.cell? ⟨w.heap.size,0,none⟩=some (.int .u64 (lo X))/\w6.cell? ⟨w.heap.size,1,none⟩=some (.int .u64 (hi X)));clear h6 k6))
  go_wp2_with fail
  go_ret
  exact⟨rfl,H6.out,K6.out⟩
theorem um (dst src n:Int) (w:World) (h:Hid (MemAt w g o base T cs A1 c1 A2 c2 S)) :
  Calls Tryz.prog 98 #[.pointer (some ⟨g,o,none⟩),.int .i64 dst,.int .i64 src,.int .i64 n] w (vd g o base T cs A1 c1 A2 c2 (iK S dst src n) (.tuple #[.bool (eF S dst src n),.int .i64 (iL S dst src n)]) w):=by
 have hok:=aa h.out.own.ok
 have hmost:=hok.out.most
 have hsp:=hok.out.sp
 have cf:=fun(q:Int) (W:World)=>jm (A1:=A1) (A2:=A2) (c1:=c1) (c2:=c2) q n W hok
 have x0:=h.out.row.cell h.out.k0
 have x1:=h.out.row.cell h.out.k1
 have x2:=h.out.row.cell h.out.k2
 cases hf:bN S dst n with
 | false=>
  obtain⟨hE,hB,hR⟩:=lu (dst:=dst) (src:=src) (n:=n) (S:=S) (.inl hf)
  have cf:=cf dst w
  rw[hf] at cf
  rw[hE,hB,hR]
  clear hf hE hB hR
  go_enter Tryz.func98,Tryz.ntmps98
  go_wp2_with fail
  refine cf.mono ?_
  rintro e w2 ⟨rfl,hb2⟩
  have H2:=aa (h.out.call hb2)
  have K2:=aa (MKp.of_below hb2 g base)
  clear hb2 cf x0 x1 x2
  go_wp2_with fail
  go_ret2
  exact⟨rfl,H2.out,K2.out⟩
 | true=>
  have cf1:=cf dst w
  rw[hf] at cf1
  cases hf2:bN S src n with
  | false=>
   obtain⟨hE,hB,hR⟩:=lu (dst:=dst) (src:=src) (n:=n) (S:=S) (.inr hf2)
   have cf2:=fun W=>cf src W
   rw[hf2] at cf2
   rw[hE,hB,hR]
   clear hf hf2 hE hB hR cf
   go_enter Tryz.func98,Tryz.ntmps98
   go_wp2_with fail
   refine cf1.mono ?_
   rintro e w2 ⟨rfl,hb2⟩
   have H2:=aa (h.out.call hb2)
   have K2:=aa (MKp.of_below hb2 g base)
   clear hb2 cf1 x0 x1 x2
   have x0:=H2.out.row.cell H2.out.k0
   have x1:=H2.out.row.cell H2.out.k1
   have x2:=H2.out.row.cell H2.out.k2
   go_wp2_with fail
   refine(cf2 w2).mono ?_
   rintro e w3 ⟨rfl,hb3⟩
   have H3:=aa (H2.out.call hb3)
   have K3:=aa (K2.out.trans (MKp.of_below hb3 g base))
   clear hb3 cf2 x0 x1 x2
   go_wp2_with fail
   go_ret2
   exact⟨rfl,H3.out,K3.out⟩
  | true=>
   obtain⟨a,m,rfl,rfl,hm0,hm16,hfit⟩:=gM hf2
   obtain⟨d,m',rfl,hmm,_,_,hfitd⟩:=gM hf
   obtain rfl:m=m':=by omega
   clear hmm
   have cf2:=fun W=>cf (a:Int) W
   rw[hf2] at cf2
   have hws:IntKind.i64.wrap ((S.sp:Int)+(a:Int))=(S.sp:Int)+(a:Int):=by rw[IntKind.wrap_i64];omega
   have hwd:IntKind.i64.wrap ((S.sp:Int)+(d:Int))=(S.sp:Int)+(d:Int):=by rw[IntKind.wrap_i64];omega
   have hwm:IntKind.i64.wrap ((S.sp:Int)+(a:Int)+(m:Int))=(S.sp:Int)+(a:Int)+(m:Int):=by rw[IntKind.wrap_i64];omega
   have cu:=fun W (hW:StkAt W W.heap.size A1 c1 A2 c2 S)=>oE (S.sp+a) m W (aa hW) hm0 hfit
   rw[show((S.sp+a:Nat):Int)=(S.sp:Int)+(a:Int) by omega] at cu
   cases hu:dg S (S.sp+a) m with
   | false=>
    obtain⟨hE,hB,hR⟩:=kr hf hf2 hu
    rw[hu] at cu
    rw[hE,hB,hR]
    clear hf hf2 hE hB hR cf hu
    go_enter Tryz.func98,Tryz.ntmps98
    go_wp2_with fail
    refine cf1.mono ?_
    rintro e w2 ⟨rfl,hb2⟩
    have H2:=aa (h.out.call hb2)
    have K2:=aa (MKp.of_below hb2 g base)
    clear hb2 cf1 x0 x1 x2
    have x0:=H2.out.row.cell H2.out.k0
    have x1:=H2.out.row.cell H2.out.k1
    have x2:=H2.out.row.cell H2.out.k2
    go_wp2_with fail
    refine(cf2 w2).mono ?_
    rintro e w3 ⟨rfl,hb3⟩
    have H3:=aa (H2.out.call hb3)
    have K3:=aa (K2.out.trans (MKp.of_below hb3 g base))
    clear hb3 cf2 x0 x1 x2
    have x0:=H3.out.row.cell H3.out.k0
    have x1:=H3.out.row.cell H3.out.k1
    have x2:=H3.out.row.cell H3.out.k2
    have cu:=cu w3 H3.out.own.at_
    go_wp2_with fail
    refine cu.mono ?_
    rintro e w4 ⟨rfl,hb4⟩
    have H4:=aa (H3.out.call hb4)
    have K4:=aa (K3.out.trans (MKp.of_below hb4 g base))
    clear hb4 cu x0 x1 x2
    go_wp2_with fail
    go_ret2
    exact⟨rfl,H4.out,K4.out⟩
   | true=>
    obtain⟨hE,hB,hR⟩:=lZ hf hf2 hu
    rw[hu] at cu
    rw[hE,hB,hR]
    clear hf hf2 hE hB hR cf hu
    go_enter Tryz.func98,Tryz.ntmps98
    go_wp2_with fail
    refine cf1.mono ?_
    rintro e w2 ⟨rfl,hb2⟩
    have H2:=aa (h.out.call hb2)
    have K2:=aa (MKp.of_below hb2 g base)
    clear hb2 cf1 x0 x1 x2
    have x0:=H2.out.row.cell H2.out.k0
    have x1:=H2.out.row.cell H2.out.k1
    have x2:=H2.out.row.cell H2.out.k2
    go_wp2_with fail
    refine(cf2 w2).mono ?_
    rintro e w3 ⟨rfl,hb3⟩
    have H3:=aa (H2.out.call hb3)
    have K3:=aa (K2.out.trans (MKp.of_below hb3 g base))
    clear hb3 cf2 x0 x1 x2
    have x0:=H3.out.row.cell H3.out.k0
    have x1:=H3.out.row.cell H3.out.k1
    have x2:=H3.out.row.cell H3.out.k2
    have cu:=cu w3 H3.out.own.at_
    go_wp2_with fail
    refine cu.mono ?_
    rintro e w4 ⟨rfl,hb4⟩
    have H4:=aa (H3.out.call hb4)
    have K4:=aa (K3.out.trans (MKp.of_below hb4 g base))
    clear hb4 cu x0 x1 x2
    obtain⟨g1,q1,hv1,hg1,hgl1,hn1,hM1⟩:=eu H4.out.own.o1 (show 0<S.bs.length by omega)
    injection hv1 with hv1 _ hv3
    subst hv1 hv3
    have hcut:an w4 w4.heap.size (some ⟨g1,S.sp+a,none⟩) (aq (dz S (S.sp+a) m)):=by
     have:=(H4.out.own.at_).cut (S.sp+a) m
     rwa[wA] at this
    have hcl:=aa (show(dz S (S.sp+a) m).length=m from fV hfit)
    have x0:=fun p:After w4=>af (H4.out.row.cell H4.out.k0) p
    have x2:=fun p:After w4=>af (H4.out.row.cell H4.out.k2) p
    have cw:=fun(p:After w4)=>mO (S.sp+d) m (some ⟨g1,S.sp+a,none⟩) (c1-(S.sp+a)) (dz S (S.sp+a) m) p.w (aa (H4.out.call p.b)) (aa ((hcut.below p.b).more p.b.size)) hcl (aa (iy hok.out _ _)) hm0 hm16 hfitd
    rw[show((S.sp+d:Nat):Int)=(S.sp:Int)+(d:Int) by omega] at cw
    have CW:=aa cw
    have hz1:(0:Int)<=(S.sp:Int)+(a:Int):=by omega
    have hz2:(S.sp:Int)+(a:Int)<=(S.sp:Int)+(a:Int)+(m:Int):=by omega
    have hz3:(S.sp:Int)+(a:Int)+(m:Int)<=(c1:Int):=by omega
    have hz4:¬(c1=S.sp+a):=by omega
    clear hcut cw
    go_upto_region 6 with(fail)
    refine cX 18 (by kernel_rfl) rfl rfl (by kernel_rfl) (by kernel_rfl) (by kernel_rfl) (C:=fun w'=>∃p:After w4,w'=p.w) ⟨⟨w4.drew,(Below.refl _ _).drew⟩,rfl⟩ ?_
    dsimp only[List.take_succ_cons,List.take_zero]
    repeat(go_big_quiet_step (fail))
    refine wpQuiet_nil ?_
    intro _ hw'
    obtain⟨p1,hw''⟩:=hw'
    subst hw''
    go_wp2_with fail
    refine(CW.out p1).mono ?_
    rintro e w6 ⟨rfl,h6,k6⟩
    have H6:=aa h6
    have K6:=aa (K4.out.trans ((MKp.of_below p1.b g base).trans k6))
    clear h6 k6
    go_wp2_with fail
    go_ret2
    exact⟨rfl,H6.out,K6.out⟩
end
end
theorem StkAt.set_ {w w':World} {B:Nat} {A1 A2:Option Addr} {c1 c2:Nat} {S:Sk} (h:StkAt w B A1 c1 A2 c2 S) (hb:Below B w w') (hB:B<=w'.heap.size):StkAt w' w'.heap.size A1 c1 A2 c2 S:=(h.below hb).more hB
theorem StkAt.up {w w':World} {A1 A2:Option Addr} {c1 c2:Nat} {S:Sk} (h:StkAt w w.heap.size A1 c1 A2 c2 S) (hb:Below w.heap.size w w'):StkAt w' w'.heap.size A1 c1 A2 c2 S:=h.call hb
theorem ye {A1 A2:Option Addr} {c1 c2:Nat} {S:Sk} (n:Int) (w:World) (hS:Hid (StkAt w w.heap.size A1 c1 A2 c2 S)) :
  Calls Tryz.prog 73 #[sv A1 c1 A2 c2 S,.int .i64 n] w (zt A1 c1 A2 c2 (fE S n) (eH S n) w):=by
 have hok:=aa hS.out.ok
 have hmost:=hS.out.ok.most
 have hsp:=hS.out.ok.sp
 have hm1:=hS.out.m1
 have hm2:=hS.out.m2
 obtain⟨W0,hW0⟩:∃W,(w.alloc (.cells #[.slice A1 S.bs.length c1,.slice A2 S.bs.length c2,.int .i64 (S.sp:Int)] 66)).alloc (.cells #[.slice none 0 0,.slice none 0 0,.int .i64 0] 66)=W:=⟨_,rfl⟩
 have HW0:=aa hW0
 have RX0:=aa (show Row W0 (w.heap.size) 66 [.slice A1 S.bs.length c1,.slice A2 S.bs.length c2,.int .i64 (S.sp:Int)] by rw[<-hW0];exact((Row.new w 66 [.slice A1 S.bs.length c1,.slice A2 S.bs.length c2,.int .i64 (S.sp:Int)]).alloc _))
 have RZ0:=aa (show Row W0 (w.heap.size+1) 66 [.slice none 0 0,.slice none 0 0,.int .i64 0] by rw[<-hW0];exact(Row.new (w.alloc (.cells #[.slice A1 S.bs.length c1,.slice A2 S.bs.length c2,.int .i64 (S.sp:Int)] 66)) 66 [.slice none 0 0,.slice none 0 0,.int .i64 0]).at_ (by simp))
 have B0:=aa (show Below w.heap.size w W0 by rw[<-hW0];exact aP w _ _)
 have Z0:=aa (show W0.heap.size=w.heap.size+2 by rw[<-hW0];simp)
 clear hW0
 by_cases h0:n<0
 ·have hE:=aa (show eH S n=4 by simp[eH,h0])
  have hR:=aa (show fE S n=S by simp[fE,hE.out])
  go_enter Tryz.func73,Tryz.ntmps73
  go_upto_region 1 with(fail)
  rw[HW0.out]
  have fX0:=RX0.out.cell (k:=0) rfl
  have fX1:=RX0.out.cell (k:=1) rfl
  have fX2:=RX0.out.cell (k:=2) rfl
  have fZ0:=RZ0.out.cell (k:=0) rfl
  have fZ1:=RZ0.out.cell (k:=1) rfl
  have fZ2:=RZ0.out.cell (k:=2) rfl
  have yZ0:=RZ0.out.free 0
  have yZ1:=RZ0.out.free 1
  have yZ2:=RZ0.out.free 2
  go_wp2_with fail
  obtain⟨W1,hW1⟩:∃W,((W0.setCell ⟨w.heap.size+1,0,none⟩ (.slice A1 S.bs.length c1)).setCell ⟨w.heap.size+1,1,none⟩ (.slice A2 S.bs.length c2)).setCell ⟨w.heap.size+1,2,none⟩ (.int .i64 (S.sp:Int))=W:=⟨_,rfl⟩
  have HW1:=aa hW1
  have RZ1:=aa (show Row W1 (w.heap.size+1) 66 [.slice A1 S.bs.length c1,.slice A2 S.bs.length c2,.int .i64 (S.sp:Int)] by rw[<-hW1];exact(((RZ0.out).set_ 0 _).set_ 1 _).set_ 2 _)
  have RX1:=aa (show Row W1 (w.heap.size) 66 [.slice A1 S.bs.length c1,.slice A2 S.bs.length c2,.int .i64 (S.sp:Int)] by rw[<-hW1];exact(((RX0.out).far (p:=⟨w.heap.size+1,0,none⟩) (by simp) _).far (p:=⟨w.heap.size+1,1,none⟩) (by simp) _).far (p:=⟨w.heap.size+1,2,none⟩) (by simp) _)
  clear RX0
  have B1:=aa (show Below w.heap.size w W1 by rw[<-hW1];exact ay (ay (ay (B0.out) (by omega)) (by omega)) (by omega))
  clear hW1 RZ0
  clear fX0 fX1 fX2 fZ0 fZ1 fZ2 yZ0 yZ1 yZ2
  have fZ0:=RZ1.out.cell (k:=0) rfl
  have fZ1:=RZ1.out.cell (k:=1) rfl
  have fZ2:=RZ1.out.cell (k:=2) rfl
  rw[HW1.out]
  refine bodyPost_ret (v:=.tuple #[.agg #[.slice A1 S.bs.length c1,.slice A2 S.bs.length c2,.int .i64 (S.sp:Int)],.int .i64 4]) (by simp[results,Tryz.results73,go_sem,fZ0,fZ1,fZ2]) rfl ?_
  exact⟨by rw[hR.out,hE.out],by rw[hR.out];exact hS.out.up B1.out,B1.out⟩
 ·by_cases h1:(S.bs.length:Int)-(S.sp:Int)<n
  ·have hE:=aa (show eH S n=4 by simp[eH,h1])
   have hR:=aa (show fE S n=S by simp[fE,hE.out])
   go_enter Tryz.func73,Tryz.ntmps73
   go_upto_region 1 with(fail)
   rw[HW0.out]
   have fX0:=RX0.out.cell (k:=0) rfl
   have fX1:=RX0.out.cell (k:=1) rfl
   have fX2:=RX0.out.cell (k:=2) rfl
   have fZ0:=RZ0.out.cell (k:=0) rfl
   have fZ1:=RZ0.out.cell (k:=1) rfl
   have fZ2:=RZ0.out.cell (k:=2) rfl
   have yZ0:=RZ0.out.free 0
   have yZ1:=RZ0.out.free 1
   have yZ2:=RZ0.out.free 2
   go_wp2_with fail
   obtain⟨W1,hW1⟩:∃W,((W0.setCell ⟨w.heap.size+1,0,none⟩ (.slice A1 S.bs.length c1)).setCell ⟨w.heap.size+1,1,none⟩ (.slice A2 S.bs.length c2)).setCell ⟨w.heap.size+1,2,none⟩ (.int .i64 (S.sp:Int))=W:=⟨_,rfl⟩
   have HW1:=aa hW1
   have RZ1:=aa (show Row W1 (w.heap.size+1) 66 [.slice A1 S.bs.length c1,.slice A2 S.bs.length c2,.int .i64 (S.sp:Int)] by rw[<-hW1];exact(((RZ0.out).set_ 0 _).set_ 1 _).set_ 2 _)
   have RX1:=aa (show Row W1 (w.heap.size) 66 [.slice A1 S.bs.length c1,.slice A2 S.bs.length c2,.int .i64 (S.sp:Int)] by rw[<-hW1];exact(((RX0.out).far (p:=⟨w.heap.size+1,0,none⟩) (by simp) _).far (p:=⟨w.heap.size+1,1,none⟩) (by simp) _).far (p:=⟨w.heap.size+1,2,none⟩) (by simp) _)
   clear RX0
   have B1:=aa (show Below w.heap.size w W1 by rw[<-hW1];exact ay (ay (ay (B0.out) (by omega)) (by omega)) (by omega))
   clear hW1 RZ0
   clear fX0 fX1 fX2 fZ0 fZ1 fZ2 yZ0 yZ1 yZ2
   have fZ0:=RZ1.out.cell (k:=0) rfl
   have fZ1:=RZ1.out.cell (k:=1) rfl
   have fZ2:=RZ1.out.cell (k:=2) rfl
   rw[HW1.out]
   refine bodyPost_ret (v:=.tuple #[.agg #[.slice A1 S.bs.length c1,.slice A2 S.bs.length c2,.int .i64 (S.sp:Int)],.int .i64 4]) (by simp[results,Tryz.results73,go_sem,fZ0,fZ1,fZ2]) rfl ?_
   exact⟨by rw[hR.out,hE.out],by rw[hR.out];exact hS.out.up B1.out,B1.out⟩
  ·obtain⟨m,rfl⟩:∃m:Nat,n=(m:Int):=⟨n.toNat,by omega⟩
   have hE:=aa (show eH S (m:Int)=0 by simp only[eH];rw[if_neg (by omega)])
   have hR:=aa (show fE S (m:Int)=dw S m by simp[fE,hE.out])
   have hms:S.sp+m<=S.bs.length:=by omega
   go_enter Tryz.func73,Tryz.ntmps73
   go_upto_region 1 with(fail)
   rw[HW0.out]
   have fX0:=RX0.out.cell (k:=0) rfl
   have fX1:=RX0.out.cell (k:=1) rfl
   have fX2:=RX0.out.cell (k:=2) rfl
   have yX0:=RX0.out.free 0
   have yX1:=RX0.out.free 1
   have yX2:=RX0.out.free 2
   go_upto_region 4 with(fail)
   obtain⟨W1,hW1⟩:∃W,W0.setCell ⟨w.heap.size,2,none⟩ (.int .i64 ((S.sp:Int)+(m:Int)))=W:=⟨_,rfl⟩
   have HW1:=aa hW1
   have RX1:=aa (show Row W1 (w.heap.size) 66 [.slice A1 S.bs.length c1,.slice A2 S.bs.length c2,.int .i64 ((S.sp:Int)+(m:Int))] by rw[<-hW1];exact(RX0.out).set_ 2 _)
   have RZ1:=aa (show Row W1 (w.heap.size+1) 66 [.slice none 0 0,.slice none 0 0,.int .i64 0] by rw[<-hW1];exact(RZ0.out).far (p:=⟨w.heap.size,2,none⟩) (by simp) _)
   clear RZ0
   have B1:=aa (show Below w.heap.size w W1 by rw[<-hW1];exact ay (B0.out) (by omega))
   clear hW1 RX0
   rw[HW1.out]
   clear fX0 fX1 fX2 yX0 yX1 yX2
   have fX0:=RX1.out.cell (k:=0) rfl
   have fX1:=RX1.out.cell (k:=1) rfl
   have fX2:=RX1.out.cell (k:=2) rfl
   have fZ0:=RZ1.out.cell (k:=0) rfl
   have fZ1:=RZ1.out.cell (k:=1) rfl
   have fZ2:=RZ1.out.cell (k:=2) rfl
   have yZ0:=RZ1.out.free 0
   have yZ1:=RZ1.out.free 1
   have yZ2:=RZ1.out.free 2
   go_wp2_with fail
   obtain⟨W2,hW2⟩:∃W,((W1.setCell ⟨w.heap.size+1,0,none⟩ (.slice A1 S.bs.length c1)).setCell ⟨w.heap.size+1,1,none⟩ (.slice A2 S.bs.length c2)).setCell ⟨w.heap.size+1,2,none⟩ (.int .i64 ((S.sp:Int)+(m:Int)))=W:=⟨_,rfl⟩
   have HW2:=aa hW2
   have RZ2:=aa (show Row W2 (w.heap.size+1) 66 [.slice A1 S.bs.length c1,.slice A2 S.bs.length c2,.int .i64 ((S.sp:Int)+(m:Int))] by rw[<-hW2];exact(((RZ1.out).set_ 0 _).set_ 1 _).set_ 2 _)
   have RX2:=aa (show Row W2 (w.heap.size) 66 [.slice A1 S.bs.length c1,.slice A2 S.bs.length c2,.int .i64 ((S.sp:Int)+(m:Int))] by rw[<-hW2];exact(((RX1.out).far (p:=⟨w.heap.size+1,0,none⟩) (by simp) _).far (p:=⟨w.heap.size+1,1,none⟩) (by simp) _).far (p:=⟨w.heap.size+1,2,none⟩) (by simp) _)
   clear RX1
   have B2:=aa (show Below w.heap.size w W2 by rw[<-hW2];exact ay (ay (ay (B1.out) (by omega)) (by omega)) (by omega))
   clear hW2 RZ1
   clear fX0 fX1 fX2 fZ0 fZ1 fZ2 yZ0 yZ1 yZ2
   have fZ0:=RZ2.out.cell (k:=0) rfl
   have fZ1:=RZ2.out.cell (k:=1) rfl
   have fZ2:=RZ2.out.cell (k:=2) rfl
   rw[HW2.out]
   refine bodyPost_ret (v:=.tuple #[.agg #[.slice A1 S.bs.length c1,.slice A2 S.bs.length c2,.int .i64 ((S.sp:Int)+(m:Int))],.int .i64 0]) (by simp[results,Tryz.results73,go_sem,fZ0,fZ1,fZ2]) rfl ?_
   exact⟨by rw[hR.out,hE.out];rfl,by rw[hR.out];exact(hS.out.up B2.out).pop hms,B2.out⟩
def zu (t1 t2:TypeId) (n:Nat) (p:Int) (xs ys:List Value) (w:World) (e:Ending) (w':World):Prop:=
 ∃A1 c1 A2 c2,e=.returned (kv A1 n c1 A2 n c2 p)/\w'.ownsRow (w.heap.size+2) t1 1 (.slice A1 n c1) n xs/\w'.ownsRow (w.heap.size+2) t2 1 (.slice A2 n c2) n ys/\Below w.heap.size w w'
end Go.Proofs.YtjbgepjdohfhkaaGreat
