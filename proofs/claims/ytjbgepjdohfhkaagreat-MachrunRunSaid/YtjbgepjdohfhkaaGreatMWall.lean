/- What MachrunRun's law asks: what a run's outcome is, of any target; numbers that came in are kept while choices are drawn. Conditions: those of the types. -/
import Derived.Test.YtjbgepjdohfhkaaGreatMWrr
import Derived.Test.YtjbgepjdohfhkaaGreatMJgd
import Derived.Test.YtjbgepjdohfhkaaGreatMModt
import Derived.OpenShut
import Derived.Carry
set_option linter.unusedVariables false
set_option linter.unusedSimpArgs false
set_option maxRecDepth 100000
set_option maxHeartbeats 8000000
namespace Go.Proofs.YtjbgepjdohfhkaaGreat
open Go.RowKit
theorem vo {Al:Int} {F:Tg} (him:eN F) {inp:List Nat} (hi:∀v∈inp,v<18446744073709551616) (fuel size:Int):ValsC (aY Al F inp fuel size).c:=by
 unfold aY
 by_cases h:bL Al F fuel size=0
 ·rw[if_pos h]
  have hE:tgE Al F=0:=by
   unfold bL at h
   by_cases h1:tgE Al F≠0
   ·rw[if_pos h1] at h;exact absurd h h1
   ·exact Decidable.not_not.1 h1
  have hs:(0<=fuel/\fuel<=100000)/\(0<=size/\size<=1048576):=by
   unfold bL at h
   rw[if_neg (by rw[hE];simp)] at h
   by_cases h1:(0<=fuel/\fuel<=100000)/\(0<=size/\size<=1048576)
   ·exact h1
   ·rw[if_neg h1] at h;exact absurd h (by decide)
  exact tc (kT hE) him hi (show size.toNat<=1048576 by omega) _ _
 ·rw[if_neg h]
  exact⟨(fun v hv=>by cases hv),show(0:Nat)<ae by decide⟩
def pB:Value->Bool
 | .slice _ _ _=>true
 | .int .i64 _=>true
 | _=>false
theorem ar.rowq {w:World} {g:Nat} (h:ar w g):∃(a b:Value),Row w g 60 [a,b]/\pB a=true/\pB b=true:=by
 obtain⟨A,n,c,zs,i,r,_⟩:=h
 exact⟨_,_,r,rfl,rfl⟩
theorem an.butq {w w':World} {g B t:Nat} {A:Option Addr} {xs:List Value} {a b:Value} (h:an w B A xs) (hg:w.grownBy w' (some g)) (hB:B<=w.heap.size) (hr:Row w g t [a,b]) (ha:pB a=true) (hb:pB b=true) (hx:∀x∈xs,pB x=false):an w' B A xs:=by
 intro k v hk
 obtain⟨bl,off,e,hbl,hc⟩:=h k v hk
 refine⟨bl,off,e,hbl,?_⟩
 by_cases hgb:bl=g
 ·exfalso
  subst hgb
  have hv:=hx v (List.mem_of_getElem? hk)
  rcases Nat.lt_or_ge (off+k) 2 with h2|h2
  ·rcases(show off+k=0\/off+k=1 by omega) with h3|h3
   ·rw[h3] at hc
    rw[hr.cell (k:=0) rfl] at hc
    injection hc with hc
    rw[<-hc,ha] at hv;cases hv
   ·rw[h3] at hc
    rw[hr.cell (k:=1) rfl] at hc
    injection hc with hc
    rw[<-hc,hb] at hv;cases hv
  ·unfold Row at hr
   simp only[World.cell?,hr] at hc
   rw[Array.getElem?_eq_none (by simp;omega)] at hc
   cases hc
 ·exact(World.cell?_of_block (hg.block bl (by omega) (fun e=>hgb (by injection e)))).trans hc
theorem cD.but {w w':World} {g B:Nat} {v:Value} {l:List Nat} (h:cD w B v l) (hg:w.grownBy w' (some g)) (hB:B<=w.heap.size) (hC:ar w g):cD w' B v l:=by
 obtain⟨A,n,c,h1,h2,h3,h4,h5,h6⟩:=h
 obtain⟨a,b,hr,ha,hb⟩:=hC.rowq
 exact⟨A,n,c,h1,h2,h3,h4,h5,h6.butq hg hB hr ha hb (fun x hx=>by
  simp only[dM,List.mem_map] at hx
  obtain⟨z,_,rfl⟩:=hx
  rfl)⟩
theorem TrS.tr {w:World} {base:Nat} {v:Value} {l:List Nat} (h:TrS w base w.heap.size v l) (hl:l.length<=9223372036854775807) (hv:∀v∈l,v<ae):∃A c,v=.slice A l.length c/\TrAt w w.heap.size A l.length c l:=by
 obtain⟨A,n,c,rfl,h2,h3,h4,h5,h6⟩:=h
 subst h2
 exact⟨A,c,rfl,rfl,h3,hl,h4,h6,hv⟩
section
open Go.ChangeShapes Go.WideShapes Go.ChangeAt Go.RowKit
section
variable {H:Type} {enc:TypeId×Value->H} {P:Program}
theorem n8 (hl:laidOutB P=true) {W W':World} (hb:Below W.heap.size W W'):∀(ts:List TypeId) (vs:List Value) (ds:List (DataW H)) (ps:List MemPlace),
    (∀t∈ts,P.readableRec t=true/\t<P.types.size)->DataW.TrodAll enc P W 0 (fun _=>true) true ts vs ds ps->(∀x∈ps,x.block<W.heap.size) ->
    DataW.TrodAll enc P W' 0 (fun b=>decide (b<W.heap.size)) true ts vs ds ps:=by
  intro ts
  induction ts with
  | nil=>
           intro vs ds ps _ h _
           rcases vs with _|⟨v,vs⟩<;>rcases ds with _|⟨d,ds⟩<;>simp_all[DataW.TrodAll]
  | cons t ts ih=>
    intro vs ds ps hr h hlt
    rcases vs with _|⟨v,vs⟩
    · simp[DataW.TrodAll] at h
    rcases ds with _|⟨d,ds⟩
    · simp[DataW.TrodAll] at h
    obtain⟨p,q,h1,h2,rfl⟩:=h
    have ht:=hr t List.mem_cons_self
    exact⟨p,q,Below.trod hl ht.1 ht.2 h1 hb (fun x hx=>hlt x (List.mem_append_left _ hx)),ih vs ds q (fun t' h'=>hr t' (List.mem_cons_of_mem _ h')) h2 (fun x hx=>hlt x (List.mem_append_right _ hx)),rfl⟩
theorem wG {f:Func} {s:ChangeSpec} {apart:Bool} {W W':World} {args:Array Value} {ds gs:List (DataW H)} {before:List MemPlace} {tb:TypeId} (hl:laidOutB P=true)
  (hp:∀t∈f.params.toList,P.readableRec t=true/\t<P.types.size) (hv:s.vars=[]) (hr:f.resultTypes=#[tb]) (hb:P.underlying tb=some .bool)
  (hs:s.fn H ds={ results:=[.lit (.bool true)],args:=ds,vars:=[] })
  (hW:DataW.Whole enc P f.params.toList s.vars apart W args.toList ds gs before) (hB:Below W.heap.size W W') :
  s.post enc P f apart true false false W args (.bool true) W':=by
 have hW':=hW
 obtain⟨p,q,hA,hV,rfl,hfz,hnd⟩:=hW
 rw[hv] at hV
 obtain⟨rfl,rfl⟩:=trodVars_none hV
 have e:s.fn H (ds++[])={ results:=[.lit (.bool true)],args:=ds,vars:=[] }:=by rw[List.append_nil];exact hs
 refine⟨ds,[],p++[],[],p,[],hW',?_,?_,?_,hB.frame _,fun h=>by cases h⟩
 ·rw[e,hr]
  exact trodAll_mk1 (shut_bool hb _)
 ·rw[e]
  exact n8 hl hB _ _ _ _ hp hA (fun x hx=>hW'.lt x (List.mem_append_left _ hx))
 ·rw[e,hv]
  rfl
theorem wh {W:World} {base:Nat} {t e:TypeId} {v:Value} {d:DataW H} {p:List MemPlace} (ht:P.underlying t=some (.slice e)) (he:P.underlying e=some (.int .u8)) (hc:P.cellsOf e=1)
  (hval:Value.okWide P W .any base t v) (h:DataW.Trod enc P W 0 (fun _=>true) true t v d p) :
  ∃(A:Option Addr) (n c:Nat) (zs:List Int),v=.slice A n c/\(A=none->c=0)/\zs.length=n/\n<=9223372036854775807/\an W W.heap.size A (aq zs)/\(∀z∈zs,0<=z/\z<=255)/\n<=c:=by
 obtain⟨a1,len,cap,rfl⟩:=okWide_slice ht hval
 obtain⟨fuel,hf⟩:=h
 rcases open_ints ht he hc hf with⟨hcs,hx⟩|⟨a,len',cap',zs,hcs,_,hlc,hm,hz,hx,fT,hwz⟩
 ·simp[Value.cells] at hcs
  obtain⟨rfl,rfl,rfl⟩:=hcs
  exact⟨none,0,0,[],rfl,fun _=>rfl,rfl,by omega,an.nil_ _ _ _,fun z hz=>(by cases hz),Nat.le_refl _⟩
 ·simp[Value.cells] at hcs
  obtain⟨rfl,rfl,rfl⟩:=hcs
  simp only[if_true] at hz
  have hlen:(zs.take len).length=len:=by simp;omega
  refine⟨some a,len,cap,zs.take len,rfl,fun hn=>by simp at hn,hlen,by unfold maxLen at hm;omega,?_,fun z hz'=>?_,hlc⟩
  ·intro k u hu
   have hk:k<len:=by
    rcases Nat.lt_or_ge k len with h1|h1
    ·exact h1
    ·rw[List.getElem?_eq_none (by simp[aq];omega)] at hu;simp at hu
   rw[uC (by omega)] at hu
   have hu':u=.int .u8 (zs.getD k 0):=by
    injection hu with hu
    rw[<-hu]
    simp[hk]
   subst hu'
   obtain⟨ab,ao,spot⟩:=a
   have h0:=fT 0 (by omega)
   have hspot:spot=none:=by simpa[Addr.add] using World.cell?_spot h0
   subst hspot
   have hck:=fT k (by omega)
   rw[WideShapes.add_plain] at hck
   exact⟨ab,ao,rfl,World.block_lt_of_cell? _ _ hck,hck⟩
  ·have:=bounds_u8 (hwz z (List.mem_of_mem_take hz'))
   exact⟨by omega,by omega⟩
end
end
theorem oa (A0:Option Addr) (n0 c0:Nat) (zs:List Int) (raw size:Int) (w:World)
  (hA:Hid (A0=none->c0=0)) (hn:Hid (zs.length=n0)) (hnc:n0<=c0) (hm:n0<=9223372036854775807) (hs:Hid (an w w.heap.size A0 (aq zs))) (hz:Hid (∀z∈zs,0<=z/\z<=255)) :
  Calls Tryz.prog 3 #[.slice A0 n0 c0,.int .i64 raw,.int .i64 size] w fun e w'=>e=.returned (.bool true)/\Below w.heap.size w w':=by
 go_enter Tryz.func3,Tryz.ntmps3
 go_wp2_with fail
 refine(qj w).mono ?_
 rintro e w1 ⟨rfl,hb1⟩
 have HB1:=aa hb1
 have HS1:=aa ((hs.out.below hb1).more hb1.size)
 clear hb1
 go_wp2_with fail
 refine(pU A0 n0 c0 zs w1 hA hn hnc hm HS1 hz).mono ?_
 rintro e w2 ⟨Al,A,n,c,hh,G,Ai,ni,ci,inp,N,room,g,lw,rfl,htg,hE,him,hlen,hn1,hn4,hI,hIv,hN,hroom,hglo,hlow,hwg,hC,hb2⟩
 obtain⟨W,hW⟩:∃V,w2.alloc (.cells #[.int .i64 Al,.slice A n c] 26)=V:=⟨_,rfl⟩
 have HW:=aa hW
 have hb3:Below w2.heap.size w2 W:=by rw[<-hW];exact ag w2 _
 obtain⟨B,hB⟩:∃B,w2.heap.size=B:=⟨_,rfl⟩
 have HBB:=aa hB
 have RB:=aa (show Row W B 26 [.int .i64 Al,.slice A n c] by rw[<-hW,<-hB];exact Row.new w2 _ _)
 have HP:=aa ((htg.below hb3).more hb3.size (Nat.le_refl _))
 have HI:=aa ((hI.below hb3).more hb3.size)
 have HC:=aa (hC.below hb3)
 have HBW:=aa (HB1.out.trans ((hb2.trans (hb3.mono hb2.size)).mono HB1.out.size))
 have hwg2:w.heap.size<=g:=Nat.le_trans HB1.out.size hwg
 have hgB:g<B:=by omega
 have HIM:=aa him
 have HIV:=aa hIv
 have HLEN:=aa hlen
 have HLW:lw<=W.heap.size:=Nat.le_trans hlow hb3.size
 clear htg hE him hlen hI hIv hC hb2 hb3 hW hB HS1 HB1 hwg hlow
 go_upto_region 4 with(fail)
 rw[HW.out,HBB.out]
 clear HW HBB
 go_cut [39] (fun v wx=>(∃b:Bool,v=.bool b)/\wx=W)
 case first=>
  by_cases h1:2000<size
  ·have d1:decide ((2000:Int)<size)=true:=decide_eq_true h1
   by_cases h2:size<=1048576
   ·have d2:decide (size<=(1048576:Int))=true:=decide_eq_true h2
    go_wp2_with fail
    go_meet
    exact⟨⟨_,rfl⟩,rfl⟩
   ·have d2:decide (size<=(1048576:Int))=false:=decide_eq_false h2
    go_wp2_with fail
    go_meet
    exact⟨⟨_,rfl⟩,rfl⟩
  ·have d1:decide ((2000:Int)<size)=false:=decide_eq_false h1
   go_wp2_with fail
   go_meet
   exact⟨⟨_,rfl⟩,rfl⟩
 case rest=>
 obtain⟨⟨b2,rfl⟩,hwc⟩:=hcut
 rw[hwc]
 clear hwc
 go_upto_if 39 with(fail)
 go_cut [2] (fun v wx=>(∃z:Int,v=.int .i64 z)/\wx=W)
 case first=>
  cases b2
  ·go_wp2_with fail
   go_meet
   exact⟨⟨_,rfl⟩,rfl⟩
  ·go_wp2_with fail
   go_meet
   exact⟨⟨_,rfl⟩,rfl⟩
 case rest=>
 obtain⟨⟨sz2,rfl⟩,hwc⟩:=hcut
 rw[hwc]
 clear hwc
 go_upto_region 6 with(fail)
 go_cut [45] (fun v wx=>(∃b:Bool,v=.bool b)/\wx=W)
 case first=>
  by_cases h1:300<raw
  ·have d1:decide ((300:Int)<raw)=true:=decide_eq_true h1
   by_cases h2:raw<=100000
   ·have d2:decide (raw<=(100000:Int))=true:=decide_eq_true h2
    go_wp2_with fail
    go_meet
    exact⟨⟨_,rfl⟩,rfl⟩
   ·have d2:decide (raw<=(100000:Int))=false:=decide_eq_false h2
    go_wp2_with fail
    go_meet
    exact⟨⟨_,rfl⟩,rfl⟩
  ·have d1:decide ((300:Int)<raw)=false:=decide_eq_false h1
   go_wp2_with fail
   go_meet
   exact⟨⟨_,rfl⟩,rfl⟩
 case rest=>
 obtain⟨⟨b1,rfl⟩,hwc⟩:=hcut
 rw[hwc]
 clear hwc
 go_upto_if 45 with(fail)
 go_cut [1] (fun v wx=>(∃z:Int,v=.int .i64 z)/\wx=W)
 case first=>
  cases b1
  ·go_wp2_with fail
   go_meet
   exact⟨⟨_,rfl⟩,rfl⟩
  ·go_wp2_with fail
   go_meet
   exact⟨⟨_,rfl⟩,rfl⟩
 case rest=>
 obtain⟨⟨raw2,rfl⟩,hwc⟩:=hcut
 rw[hwc]
 clear hwc
 have p0:=RB.out.cell (k:=0) rfl
 have p1:=RB.out.cell (k:=1) rfl
 have co:=fun q=>wg g lw Al A n c hh G (W.drewN q) (aa (HC.out.drewN q)) (aa (HP.out.drewN q)) hn1 (by omega) HLEN hglo HLW
 go_upto_region 8 with(fail)
 go_region_held3 (fun w'=>w'.cell? ⟨B,0,none⟩=some (.int .i64 Al)/\w'.cell? ⟨B,1,none⟩=some (.slice A n c)) (first|go_keep|exact m5)
  ((go_at_call 6;refine(co _).mono ?_;rintro e w5 ⟨Ly,Ay,cy,hy,Gy,rfl,hty,hC5,hG5,hi5⟩;have R5:=aa ((RB.out.drewN _).grown hG5 (fun e=>by injection e with e;omega));have m5:=(⟨R5.out.cell (k:=0) rfl,R5.out.cell (k:=1) rfl⟩:w5.cell? ⟨B,0,none⟩=some (.int .i64 Al)/\w5.cell? ⟨B,1,none⟩=some (.slice A n c));have HY5:=aa hty;have HC5:=aa hC5;have HI5:=aa hi5;have HT5:=aa (((HP.out.drewN _).grown hG5 hglo (Nat.le_refl _)).more hG5.size (Nat.le_refl _));have HIN5:=aa ((cD.but (HI.out.below (am (Below.refl _ W) _)) hG5 (Nat.le_refl _) (HC.out.drewN _)).more hG5.size);have HB5:=aa (cW (am HBW.out _) hG5 hwg2 (am HBW.out _).size);have hs5:=aa hG5.size;clear hty hC5 hi5))
 obtain⟨Z,hZ⟩:∃Z,w5.heap.size=Z:=⟨_,rfl⟩
 obtain⟨wl,hwl⟩:∃wl,w5.alloc (.cells #[.int .i64 Al,.slice A n c,.int .i64 Ly,.slice Ay n cy] 26)=wl:=⟨_,rfl⟩
 have b56:Below w5.heap.size w5 wl:=by rw[<-hwl];exact ag w5 _
 have RZ:=aa (show Row wl Z 26 [.int .i64 Al,.slice A n c,.int .i64 Ly,.slice Ay n cy] by rw[<-hwl,<-hZ];exact Row.new w5 _ _)
 have BL:=aa (ac HB5.out b56)
 have HIL:=aa ((HIN5.out.below b56).more b56.size)
 have HCL:=aa (HC5.out.below b56)
 have hgZ:g<Z:=by have h1:=HC5.out.lt;omega
 have TGS:=aa (fun(k:Nat) (hk:k<2)=>(show∃(Al:Int) (A:Option Addr) (n c:Nat) (hs:List Fd) (F:Tg),wl.cell? ⟨Z,k*2,none⟩=some (.int .i64 Al)/\wl.cell? ⟨Z,k*2+1,none⟩=some (.slice A n c)/\TgAt wl lw wl.heap.size A n c hs F/\eN F from by
  rcases(show k=0\/k=1 by omega) with rfl|rfl
  ·exact⟨_,_,_,_,_,_,RZ.out.cell (k:=0) rfl,RZ.out.cell (k:=1) rfl,HT5.out.call b56,HIM.out⟩
  ·exact⟨_,_,_,_,_,_,RZ.out.cell (k:=2) rfl,RZ.out.cell (k:=3) rfl,HY5.out.call b56,HI5.out HIM.out⟩))
 have hZl:Z<wl.heap.size:=RZ.out.lt
 have HWL:=aa hwl
 have HZ:=aa hZ
 clear hwl hZ b56 HY5 HI5 HT5 HIN5 HB5 HC5 R5 RZ co m5 p0 p1 HIM HLEN HP HI HC HBW
 go_upto_region 9 with(fail)
 try rw[HWL.out]
 try rw[HZ.out]
 clear HWL HZ
 go_loopw [52] (fun iv wr=>∃i:Nat,i<=2/\iv=.int .i64 (i:Int)/\Hid (wl.grownBy wr (some g))/\Hid (ar wr g)) (fun iv _=>2-(intOf iv).toNat)
 case atStart=>exact⟨0,by omega,rfl,aa (World.grownBy.refl _ _),HCL⟩
 case round=>
  obtain⟨i,hi2,rfl,hgr,hcr⟩:=hrel
  by_cases hlt:i<2
  ·have hiz:(0:Int)<=(i:Int):=by omega
   have hiz2:(i:Int)<2:=by omega
   obtain⟨Alx,Ax,nx,cx,hx,Fx,q0,q1,hTx,hIx⟩:=TGS.out i hlt
   have kz:∀j,wr.cell? ⟨Z,j,none⟩=wl.cell? ⟨Z,j,none⟩:=fun j=>World.cell?_of_block (hgr.out.block Z hZl (fun e=>by injection e with e;omega))
   have z0:=(kz _).trans q0
   have z1:=(kz _).trans q1
   have TX0:=aa ((hTx.grown hgr.out hglo (Nat.le_refl _)).more hgr.out.size (Nat.le_refl _))
   have IX0:=aa ((cD.but HIL.out hgr.out (Nat.le_refl _) HCL.out).more hgr.out.size)
   have HIX:=aa hIx
   clear q0 q1 hTx hIx kz
   go_upto_region 11 with(fail)
   obtain⟨wx,hwx⟩:∃wx,wr.alloc (.cells #[.int .i64 Alx,.slice Ax nx cx] 26)=wx:=⟨_,rfl⟩
   obtain⟨X,hX⟩:∃X,wr.heap.size=X:=⟨_,rfl⟩
   have bx:Below wr.heap.size wr wx:=by rw[<-hwx];exact ag wr _
   have RX0:=aa (show Row wx X 26 [.int .i64 Alx,.slice Ax nx cx] by rw[<-hwx,<-hX];exact Row.new wr _ _)
   have TX1:=aa (TX0.out.call bx)
   have IX1:=aa ((IX0.out.below bx).more bx.size)
   have CX1:=aa (hcr.out.below bx)
   have GX1:=aa (hgr.out.andThen (aG bx none) (fun k hk=>by cases hk))
   have hgX:g<X:=by rw[<-hX];exact hcr.out.lt
   rw[hwx,hX]
   clear hwx hX bx TX0 IX0 hgr hcr z0 z1
   go_wp2_with fail
   refine(a6 g 10 wx CX1 (by omega) (by omega)).mono ?_
   rintro e w6 ⟨v1,rfl,-,-,hC6,hG6,-⟩
   have CX2:=aa hC6
   have RX2:=aa (RX0.out.grown hG6 (fun e=>by injection e with e;omega))
   have TX2:=aa ((TX1.out.grown hG6 hglo (Nat.le_refl _)).more hG6.size (Nat.le_refl _))
   have IX2:=aa ((cD.but IX1.out hG6 (Nat.le_refl _) CX1.out).more hG6.size)
   have GX2:=aa (GX1.out.trans hG6)
   clear hC6 hG6 CX1 RX0 TX1 IX1 GX1
   go_wp2_with fail
   refine(a6 g 100 w6 CX2 (by omega) (by omega)).mono ?_
   rintro e w7 ⟨v2,rfl,-,-,hC7,hG7,-⟩
   obtain⟨wy,hwy⟩:∃wy,w7.alloc (.cells #[.int .i64 (N:Int),.int .i64 (room:Int),.int .i64 (N:Int),.int .i64 2000,.int .i64 v1,.int .i64 v2,.int .i64 raw2,.int .i64 (room:Int),.int .i64 20,.int .i64 sz2] 33)=wy:=⟨_,rfl⟩
   obtain⟨Y,hY⟩:∃Y,w7.heap.size=Y:=⟨_,rfl⟩
   have by7:Below w7.heap.size w7 wy:=by rw[<-hwy];exact ag w7 _
   have RY:=aa (show Row wy Y 33 [.int .i64 (N:Int),.int .i64 (room:Int),.int .i64 (N:Int),.int .i64 2000,.int .i64 v1,.int .i64 v2,.int .i64 raw2,.int .i64 (room:Int),.int .i64 20,.int .i64 sz2] by rw[<-hwy,<-hY];exact Row.new w7 _ _)
   have RX:=aa ((RX2.out.grown hG7 (fun e=>by injection e with e;omega)).call by7)
   have TX:=aa (((TX2.out.grown hG7 hglo (Nat.le_refl _)).more hG7.size (Nat.le_refl _)).call by7)
   have IX:=aa ((((cD.but IX2.out hG7 (Nat.le_refl _) CX2.out).more hG7.size).below by7).more by7.size)
   have CX:=aa (hC7.below by7)
   have GX:=aa ((GX2.out.trans hG7).andThen (aG by7 none) (fun k hk=>by cases hk))
   have PRS:=aa (fun(k:Nat) (hk:k<5)=>(show∃f t:Int,wy.cell? ⟨Y,k*2,none⟩=some (.int .i64 f)/\wy.cell? ⟨Y,k*2+1,none⟩=some (.int .i64 t) from by
    rcases(show k=0\/k=1\/k=2\/k=3\/k=4 by omega) with rfl|rfl|rfl|rfl|rfl
    ·exact⟨_,_,RY.out.cell (k:=0) rfl,RY.out.cell (k:=1) rfl⟩
    ·exact⟨_,_,RY.out.cell (k:=2) rfl,RY.out.cell (k:=3) rfl⟩
    ·exact⟨_,_,RY.out.cell (k:=4) rfl,RY.out.cell (k:=5) rfl⟩
    ·exact⟨_,_,RY.out.cell (k:=6) rfl,RY.out.cell (k:=7) rfl⟩
    ·exact⟨_,_,RY.out.cell (k:=8) rfl,RY.out.cell (k:=9) rfl⟩))
   have HWY:=aa hwy
   have HYY:=aa hY
   clear hwy hY by7 hC7 hG7 RX2 TX2 IX2 CX2 GX2 RY
   go_upto_region 12 with(fail)
   try rw[HWY.out]
   try rw[HYY.out]
   clear HWY HYY
   go_loopw [73] (fun jv wr=>∃j:Nat,j<=5/\jv=.int .i64 (j:Int)/\Hid (Below wy.heap.size wy wr)) (fun jv _=>5-(intOf jv).toNat)
   case atStart=>exact⟨0,by omega,rfl,aa (Below.refl _ _)⟩
   case round=>
    obtain⟨j,hj5,rfl,hbr⟩:=hrel
    by_cases hjlt:j<5
    ·have hjz:(0:Int)<=(j:Int):=by omega
     have hjz2:(j:Int)<5:=by omega
     obtain⟨fu,sz,y0,y1⟩:=PRS.out j hjlt
     have k0:=aD hbr.out y0
     have k1:=aD hbr.out y1
     clear y0 y1
     go_upto_region 14 with(fail)
     obtain⟨wp,hwp⟩:∃wp,wr.alloc (.cells #[.int .i64 fu,.int .i64 sz] 33)=wp:=⟨_,rfl⟩
     obtain⟨P,hP⟩:∃P,wr.heap.size=P:=⟨_,rfl⟩
     have bp:Below wr.heap.size wr wp:=by rw[<-hwp];exact ag wr _
     have RP:=aa (show Row wp P 33 [.int .i64 fu,.int .i64 sz] by rw[<-hwp,<-hP];exact Row.new wr _ _)
     have BP:=aa (ac hbr.out bp)
     have cr:=fun(V:World) (hb:Below wy.heap.size wy V)=>oJ Alx Fx inp fu sz Ai ni ci V HIX (aa ((IX.out.below hb).more hb.size)) HIV (aa ((TX.out.below hb).more hb.size (Nat.le_refl _)))
     have cw:=fun(V:World) (hb:Below wy.heap.size wy V)=>vl Alx Fx inp fu sz Ai ni ci V HIX (aa ((IX.out.below hb).more hb.size)) HIV (aa ((TX.out.below hb).more hb.size (Nat.le_refl _)))
     have cd:=fun(V:World) (hb:Below wy.heap.size wy V)=>s4 Alx Fx inp fu sz Ai ni ci V HIX (aa ((IX.out.below hb).more hb.size)) HIV (aa ((TX.out.below hb).more hb.size (Nat.le_refl _)))
     have ce:=fun(V:World) (hb:Below wy.heap.size wy V)=>sQ Alx Fx inp fu sz Ai ni ci V HIX (aa ((IX.out.below hb).more hb.size)) HIV (aa ((TX.out.below hb).more hb.size (Nat.le_refl _)))
     have hva:=vo (Al:=Alx) HIX.out HIV.out fu sz
     unfold sG cK at cr
     unfold xr cK at cw
     obtain⟨E,hE⟩:∃E,bL Alx Fx fu sz=E:=⟨_,rfl⟩
     obtain⟨S,hS⟩:∃S,aY Alx Fx inp fu sz=S:=⟨_,rfl⟩
     simp only[hE,hS] at cr cw cd ce hva
     obtain⟨a,ha⟩:∃a,S.c=a:=⟨_,rfl⟩
     obtain⟨D,hD⟩:∃D,S.deep=D:=⟨_,rfl⟩
     simp only[ha,hD] at cr cw cd ce hva
     have CR:=aa cr
     have CW:=aa cw
     have CD:=aa cd
     have CE:=aa ce
     have VA:=aa hva
     have nE:(E !=E)=false:=by simp
     have nD:((D:Int) !=(D:Int))=false:=by simp
     rw[hwp,hP]
     have hPw:P<wp.heap.size:=RP.out.lt
     clear hwp hP bp k0 k1 hbr cr cw cd ce hva hE hS ha hD
     have r0:=RP.out.cell (k:=0) rfl
     have r1:=RP.out.cell (k:=1) rfl
     have x0:=(RX.out.call BP.out).cell (k:=0) rfl
     have x1:=(RX.out.call BP.out).cell (k:=1) rfl
     go_wp2_with fail
     refine(CR.out _ BP.out).mono ?_
     rintro e w8 ⟨vt1,rfl,hto,hb8⟩
     obtain⟨A1,c1,rfl⟩:=jC hto
     have hta:=zH hto rfl VA.out.t
     obtain⟨W8,hW8⟩:∃V,w8.alloc (.cells #[.int .i64 a.kind,.int .u64 a.code,.int .u64 (lo a.res),.int .u64 (hi a.res),.slice A1 a.trace.length c1,.int .i64 (a.steps:Int)] 41)=V:=⟨_,rfl⟩
     have HW8:=aa hW8
     have hb9:Below w8.heap.size w8 W8:=by rw[<-hW8];exact ag _ _
     have B8:=aa (ac (ac BP.out hb8) hb9)
     have RP8:=aa ((RP.out.call hb8).call hb9)
     have TA:=aa (hta.call hb9)
     obtain⟨ga,hga⟩:∃g,w8.heap.size=g:=⟨_,rfl⟩
     have HGA:=aa hga
     have RA:=aa (show Row W8 ga 41 (ovl a.kind a.code a.res A1 a.trace.length c1 a.steps) by rw[<-hga,<-hW8];exact Row.new w8 _ _)
     clear r0 r1 x0 x1 hto hb8 hb9 hta hW8 hga
     have r0:=RP8.out.cell (k:=0) rfl
     have r1:=RP8.out.cell (k:=1) rfl
     have x0:=(RX.out.call B8.out).cell (k:=0) rfl
     have x1:=(RX.out.call B8.out).cell (k:=1) rfl
     go_upto_region 15 with(fail)
     rw[HW8.out,HGA.out]
     clear HW8 HGA
     go_wp2_with fail
     refine(CW.out _ B8.out).mono ?_
     rintro e w10 ⟨vt2,rfl,hts,hb10⟩
     obtain⟨A2,c2,rfl,htb⟩:=hts.tr TA.out.most VA.out.t
     obtain⟨W10,hW10⟩:∃V,w10.alloc (.cells #[.int .i64 a.kind,.int .u64 a.code,.int .u64 (lo a.res),.int .u64 (hi a.res),.slice A2 a.trace.length c2,.int .i64 (a.steps:Int)] 41)=V:=⟨_,rfl⟩
     have HW10:=aa hW10
     have hb11:Below w10.heap.size w10 W10:=by rw[<-hW10];exact ag _ _
     have hb1011:=ac hb10 hb11
     have B10:=aa (ac B8.out hb1011)
     have RP10:=aa (RP8.out.call hb1011)
     have TA10:=aa (TA.out.call hb1011)
     have RA10:=aa (RA.out.call hb1011)
     have TB10:=aa (htb.call hb11)
     obtain⟨gb,hgb⟩:∃g,w10.heap.size=g:=⟨_,rfl⟩
     have HGB:=aa hgb
     have RB10:=aa (show Row W10 gb 41 (ovl a.kind a.code a.res A2 a.trace.length c2 a.steps) by rw[<-hgb,<-hW10];exact Row.new w10 _ _)
     clear r0 r1 x0 x1 hts hb10 hb11 hb1011 htb hW10 hgb TA RA RP8
     have r0:=RP10.out.cell (k:=0) rfl
     have r1:=RP10.out.cell (k:=1) rfl
     have x0:=(RX.out.call B10.out).cell (k:=0) rfl
     have x1:=(RX.out.call B10.out).cell (k:=1) rfl
     go_upto_region 16 with(fail)
     rw[HW10.out,HGB.out]
     clear HW10 HGB
     go_wp2_with fail
     refine(CD.out _ B10.out).mono ?_
     rintro e w12 ⟨rfl,hb12⟩
     have B12:=aa (ac B10.out hb12)
     have RP12:=aa (RP10.out.call hb12)
     have TA12:=aa (TA10.out.call hb12)
     have RA12:=aa (RA10.out.call hb12)
     have TB12:=aa (TB10.out.call hb12)
     have RB12:=aa (RB10.out.call hb12)
     clear r0 r1 x0 x1 hb12 RP10 TA10 RA10 TB10 RB10
     have r0:=RP12.out.cell (k:=0) rfl
     have r1:=RP12.out.cell (k:=1) rfl
     have x0:=(RX.out.call B12.out).cell (k:=0) rfl
     have x1:=(RX.out.call B12.out).cell (k:=1) rfl
     go_wp2_with fail
     refine(CE.out _ B12.out).mono ?_
     rintro e w14 ⟨rfl,hb14⟩
     have B14:=aa (ac B12.out hb14)
     have TA14:=aa (TA12.out.call hb14)
     have RA14:=aa (RA12.out.call hb14)
     have TB14:=aa (TB12.out.call hb14)
     have RB14:=aa (RB12.out.call hb14)
     clear r0 r1 x0 x1 hb14 RP12 TA12 RA12 TB12 RB12
     have cs:=th a.kind a.code a.res A1 a.trace.length c1 a.trace a.steps a.kind a.code a.res A2 a.trace.length c2 a.trace a.steps w14 TA14 TB14 VA.out.r VA.out.r
     rw[show gB a.kind a.code a.res a.trace (a.steps:Int) a.kind a.code a.res a.trace (a.steps:Int)=true by simp[gB]] at cs
     have e0:=RA14.out.cell (k:=0) rfl
     have e1:=RA14.out.cell (k:=1) rfl
     have e2:=RA14.out.cell (k:=2) rfl
     have e3:=RA14.out.cell (k:=3) rfl
     have e4:=RA14.out.cell (k:=4) rfl
     have e5:=RA14.out.cell (k:=5) rfl
     have g0:=RB14.out.cell (k:=0) rfl
     have g1:=RB14.out.cell (k:=1) rfl
     have g2:=RB14.out.cell (k:=2) rfl
     have g3:=RB14.out.cell (k:=3) rfl
     have g4:=RB14.out.cell (k:=4) rfl
     have g5:=RB14.out.cell (k:=5) rfl
     go_wp2_with fail
     refine cs.mono ?_
     rintro e w16 ⟨rfl,hb16⟩
     have HF:=aa (ac B14.out hb16)
     go_wp2_with fail
     go_roundw
     case rel=>exact⟨j+1,by omega,by go_num,HF⟩
     case measure=>simp[intOf];omega
    ·obtain rfl:j=5:=by omega
     have HF:=aa (GX.out.andThen (aG hbr.out none) (fun k hk=>by cases hk))
     have HC9:=aa (CX.out.below hbr.out)
     go_wp2_with fail
     go_roundw
     case rel=>exact⟨i+1,by omega,by go_num,HF,HC9⟩
     case measure=>simp[intOf];omega
  ·obtain rfl:i=2:=by omega
   have HF:=aa (cW BL.out hgr.out hwg2 BL.out.size)
   go_wp2_with fail
   go_ret
   exact⟨rfl,HF.out⟩
section
open Go.ChangeShapes Go.WideShapes Go.ChangeAt Go.RowKit
namespace rowMachrunRun
theorem wd:ownKnob Tryz.prog.godebug=none:=by kernel_rfl
theorem wH:laidOutB Tryz.prog=true:=by kernel_rfl
theorem xd:Tryz.prog.cellsOf 5=1:=by kernel_rfl
theorem wZ (H:Type) (enc:TypeId×Value->H) (W:World) (base:Nat) (args:Array Value) (ds gs:List (DataW H)) (before:List MemPlace)
  (hval:∀(j:Nat) t v,Tryz.f3.params[j]?=some t->args[j]?=some v->Value.okWide Tryz.prog W .any base t v)
  (hW:DataW.Whole enc Tryz.prog Tryz.f3.params.toList Rows.machrunRunSpec.vars false W args.toList ds gs before) :
  Calls Tryz.prog 3 args W fun e W'=>∃v,e=.returned v/\Rows.machrunRunSpec.post enc Tryz.prog Tryz.f3 false true false false W args v W':=by
 have hW':=hW
 obtain⟨p,q,hA,hV,rfl,hfz,hnd⟩:=hW
 have hA:DataW.TrodAll enc Tryz.prog W 0 (fun _=>true) true Tryz.f3.params.toList args.toList ds p:=hA
 rw[Tryz.params3] at hA hval
 obtain⟨v0,vs0,d0,ds0,p0,q0,hargs,rfl,rfl,h0,r0⟩:=trodAll_cons hA
 obtain⟨v1,vs1,d1,ds1,p1,q1,rfl,rfl,rfl,h1,r1⟩:=trodAll_cons r0
 obtain⟨v2,vs2,d2,ds2,p2,q2,rfl,rfl,rfl,h2,r2⟩:=trodAll_cons r1
 obtain⟨rfl,rfl,rfl⟩:=trodAll_nil r2
 obtain rfl:args=#[v0,v1,v2]:=by cases args;simp_all
 obtain⟨A0,n0,c0,zs0,rfl,hA0,hn0,hm0,hs0,hz0,hc0⟩:=wh Tryz.underlying22 Tryz.underlying5 xd (hval 0 22 v0 rfl rfl) h0
 obtain⟨a1,rfl,_,_,w1⟩:=open_int Tryz.underlying3 (hval 1 3 v1 rfl rfl) h1
 have b1:=bounds_i64 w1
 obtain⟨a2,rfl,_,_,w2⟩:=open_int Tryz.underlying3 (hval 2 3 v2 rfl rfl) h2
 have b2:=bounds_i64 w2
 refine(oa A0 n0 c0 zs0 a1 a2 W (aa hA0) (aa hn0) hc0 hm0 (aa hs0) (aa hz0)).mono fun e W' ⟨he,hB⟩=>⟨_,he,?_⟩
 exact wG wH (by decide +kernel) rfl rfl Tryz.underlying4 rfl hW' hB
theorem An (os:Os) (started:os.Started) (H:Type) (enc:TypeId×Value->H) :
  ReturnsInHanded {} Tryz.checked os 3 .any (Rows.machrunRunSpec.pre6 enc Tryz.prog Tryz.f3 Rows.machrunRunRow.domain false) (Rows.machrunRunSpec.post enc Tryz.prog Tryz.f3 false true false false):=by
 refine returnsInHanded_of_change (C:=Tryz.checked) wd started (by kernel_rfl) Tryz.func3
  (ChangeSpec.witness6 (enc:=enc) (C:=Tryz.checked) false ⟨#[],#[.slice none 0 0,.int .i64 0,.int .i64 0],[]⟩ 8 (by kernel_rfl) (by kernel_rfl) (by kernel_rfl) (by kernel_rfl)) ?_
 intro W base args ds gs before hval hW _ _
 exact wZ H enc W base args ds gs before hval hW
theorem proved:Rows.MachrunRunSaid:=
 OpenClaim.holds_of_wide 3 Tryz.f3 rfl rfl rfl rfl rfl rfl rfl ⟨rfl,rfl,rfl,rfl,rfl⟩ rfl rfl rfl rfl rfl (by kernel_rfl) Tryz.func3 (by kernel_rfl)
  (of_decide_eq_true (by kernel_rfl)) (by unfold Func.isWrapper;first|(rw[if_pos (by decide +kernel)];kernel_rfl)|(rw[if_neg (by decide +kernel)];exact⟨rfl,rfl⟩))
  (fun os started H enc _=>An os started H enc)
end rowMachrunRun
end
end Go.Proofs.YtjbgepjdohfhkaaGreat
