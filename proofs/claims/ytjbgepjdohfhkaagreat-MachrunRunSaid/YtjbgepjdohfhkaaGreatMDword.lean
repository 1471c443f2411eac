/- The contract of spillframedraw's like. Conditions: the receiver is a list of choices; the slot is there. -/
import Derived.Test.YtjbgepjdohfhkaaGreatMEpow
set_option linter.unusedVariables false
set_option linter.unusedSimpArgs false
set_option maxRecDepth 100000
set_option maxHeartbeats 20000000
namespace Go.Proofs.YtjbgepjdohfhkaaGreat
open Go.RowKit
def cT (zs:List Int):List Value:=zs.map (Value.int .i64)
theorem kK (l m:List Int):cT (l++m)=cT l++cT m:=by simp[cT]
theorem lA {w:World} {B:Nat} {A:Option Addr} {zs:List Int} {k:Nat} (h:an w B A (cT zs)) (hk:k<zs.length):∃b off,A=some ⟨b,off,none⟩/\b<B/\w.cell? ⟨b,off+k,none⟩=some (.int .i64 zs[k]):=
 h k (.int .i64 zs[k]) (by simp[cT,List.getElem?_map,List.getElem?_eq_getElem hk])
def xw (g:Nat) (l:List (Int×Int)) (s:Int) (w:World) (e:Ending) (w':World):Prop:=∃r:Nat,e=.returned (.int .i64 (r:Int))/\r<l.length/\bU l (r:Int)=bU l s/\ar w' g/\w.grownBy w' (some g)
def i8 (g:Nat) (l:List (Int×Int)) (s:Nat) (w w0:World) (k:Nat) (lv:Value) (wr:World):Prop:=
 ∃zs:List Int,zs.length<=k/\(s<k->zs≠[])/\(∀z∈zs,∃r:Nat,z=(r:Int)/\r<l.length/\bU l z=bU l (s:Int))/\wr.ownsRow w0.heap.size 3 1 lv zs.length (cT zs)/\ar wr g/\w.grownBy wr (some g)/\Below w0.heap.size w0 wr
theorem mD (l:List (Int×Int)) (k:Nat) (h:k<l.length):bU l (k:Int)=l[k].1:=by
 unfold bU;rw[Int.toNat_natCast,List.getD_eq_getElem?_getD,List.getElem?_eq_getElem h];rfl
theorem i8.skip {g s k:Nat} {l:List (Int×Int)} {w w0 wr:World} {lv:Value} (h:i8 g l s w w0 k lv wr) (hks:k≠s) (q:Nat):i8 g l s w w0 (k+1) lv (wr.drewN q):=by
 obtain⟨zs,h1,h2,h3,h4,h5,h6,h7⟩:=h
 exact⟨zs,by omega,(fun hs=>h2 (by omega)),h3,gI h4 q,h5.drewN q,be h6 q,am h7 q⟩
theorem i8.add {g s k:Nat} {l:List (Int×Int)} {w w0 wr w3:World} {lv v':Value} {zs:List Int} {t:TypeId} (hk:zs.length<=k) (h3:∀z∈zs,∃r:Nat,z=(r:Int)/\r<l.length/\bU l z=bU l (s:Int)) (hkl:k<l.length) (he:bU l (k:Int)=bU l (s:Int)) (hg0:g<w0.heap.size) (hw0:w.heap.size<=w0.heap.size)
  (h4:wr.ownsRow w0.heap.size 3 1 lv zs.length (cT zs)) (h5:ar wr g) (h6:w.grownBy wr (some g)) (h7:Below w0.heap.size w0 wr) (q:Nat)
  (ho:w3.ownsRow w0.heap.size 3 1 v' (zs.length+1) (cT zs++[.int .i64 (k:Int)])) (hg:((wr.drewN q).alloc (.cells #[.int .i64 (k:Int)] t)).grownBy w3 lv.ownBlock):i8 g l s w w0 (k+1) v' w3:=by
 refine⟨zs++[(k:Int)],by simp;omega,(fun _=>by simp),(fun z hz=>?_),by rw[kK];simpa[cT] using ho,((h5.drewN q).alloc _).kept hg (fun j hj=>?_),((be h6 q).trans (World.grownBy_alloc _ _ _)).andThen hg (fun j hj=>.inl ?_),?_⟩
 ·rcases List.mem_append.1 hz with h|h
  ·exact h3 z h
  ·simp at h;subst h;exact⟨k,rfl,hkl,he⟩
 ·have:=(h4.lt j hj).1;omega
 ·have:=(h4.lt j hj).1;omega
 ·exact ii ((am h7 q).alloc h7.size _) ((gI h4 q).alloc _) (Nat.le_refl _) hg (by have:=h7.size;simp;omega)
theorem wD (g:Nat) (P:Int) (A1:Option Addr) (n1 c1:Nat) (A2:Option Addr) (n2 c2:Nat) (l:List (Int×Int)) (s B:Nat) (w:World) (h:Hid (ar w g)) (hl:Hid (l.length=n1)) (hn1:n1<=1000) (hs:s<n1) (hsee:Hid (an w B A1 (bm l))) (hB:B<=w.heap.size) :
  Calls Tryz.prog 81 #[.pointer (some ⟨g,0,none⟩),fv P A1 n1 c1 A2 n2 c2,.int .i64 (s:Int)] w (xw g l s w):=by
 obtain⟨i0,hi,hz0,hz1,hz2⟩:=info_parts Tryz.info3
 have hgl:=h.out.lt
 obtain⟨W,hW⟩:∃W,w.alloc (.cells #[.int .i64 P,.slice A1 n1 c1,.slice A2 n2 c2] 98)=W:=⟨_,rfl⟩
 have HW:=aa hW
 have hr:Row W w.heap.size 98 [.int .i64 P,.slice A1 n1 c1,.slice A2 n2 c2]:=hW ▸ Row.new w _ [.int .i64 P,.slice A1 n1 c1,.slice A2 n2 c2]
 have HR:=aa hr
 have hbW:Below w.heap.size w W:=hW ▸ ag w _
 have hsz:w.heap.size+1=W.heap.size:=by rw[<-hW];simp
 have HB:=aa hbW
 have HS:=aa hsz
 have HI:Hid (i8 g l s w W 0 (.slice none 0 0) W):=aa ⟨[],by simp,(fun h=>by omega),(fun z hz=>by cases hz),World.ownsRow_nil _ _ _ _,h.out.below hbW,aG hbW _,Below.refl _ _⟩
 clear hW hr hbW hsz
 go_enter Tryz.func81,Tryz.ntmps81
 go_wp2_with fail
 rw[HW.out]
 go_loopw [7,8] (fun lv kv wr=>∃k:Nat,k<=n1/\kv=.int .i64 (k:Int)/\Hid (i8 g l s w W k lv wr)) (fun _ kv _=>n1-(intOf kv).toNat)
 case atStart=>exact⟨0,by omega,rfl,HI⟩
 case round=>
  obtain⟨k,hk,rfl,hI⟩:=hrel
  obtain⟨zs,hzk,hzs,hza,hown,hC,hG,hb⟩:=hI.out
  have hrr:=HR.out.call hb
  have x1:=hrr.cell (k:=1) rfl
  have HC:=aa hC
  have HG:=aa hG
  have HBR:=aa hb
  have HO:=aa hown
  have HZA:=aa hza
  have HZS:=aa hzs
  have HRL:=aa hrr.lt
  clear hrr hI hC hG hb hown hza hzs
  by_cases hlt:k<n1
  ·have hkl:k<l.length:=by have:=hl.out;omega
   have hsl:s<l.length:=by have:=hl.out;omega
   have hsee2:=hsee.out.below (((HB.out.trans (HBR.out.mono HB.out.size))).mono hB)
   obtain⟨b,off,rfl,hbB,c0,-⟩:=fo hsee2 hkl
   obtain⟨b',off',he,_,d0,-⟩:=fo hsee2 hsl
   injection he with he
   injection he with e1 e2
   subst e1 e2
   have E1:=aa (mD l k hkl)
   have E2:=aa (mD l s hsl)
   obtain⟨s1,hs1⟩:∃x,l[k].1=x:=⟨_,rfl⟩
   obtain⟨s2,hs2⟩:∃x,l[s].1=x:=⟨_,rfl⟩
   rw[hs1] at c0 E1
   rw[hs2] at d0 E2
   have hkz:(0:Int)<=(k:Int):=by omega
   have hkz':(k:Int)<(n1:Int):=by omega
   have hsz0:(0:Int)<=(s:Int):=by omega
   have hsz':(s:Int)<(n1:Int):=by omega
   clear hs1 hs2 hsee2
   by_cases hss:s1=s2
   ·subst hss
    go_wp2_with fail
    go_quiet (fail)
    go_wp2_with (at_builtin;refine wpList_append_own _ rfl (.tmp 29) (.tmp 31) 87 rfl W.heap.size 3 i0 (.int .i64 0) 1 8 Tryz.underlying87 hi hz0 hz1 hz2 rfl (by decide) _ zs.length (cT zs) rfl ((gI HO.out _).alloc _) ⟨_,0,none⟩ 1 1 [.int .i64 (k:Int)] rfl rfl (lp _ _ _) (fun u hu=>by simp at hu;subst hu;rfl) (by unfold maxLen;omega) (by omega) (by simp;have:=HBR.out.size;omega) ?_)
    intro v' w3 ho3 hg3 _
    have HN:=aa (i8.add (s:=s) hzk HZA.out hkl (E1.out.trans E2.out.symm) (by have:=HS.out;omega) (by have:=HS.out;omega) HO.out HC.out HG.out HBR.out _ ho3 hg3)
    clear ho3 hg3
    go_wp2_with fail
    go_roundw
    case rel=>exact⟨k+1,by omega,by go_num,HN⟩
    case measure=>simp[intOf];omega
   ·have hne:(s1==s2)=false:=by simpa using hss
    have hks:Hid (k≠s):=aa (by rintro rfl;exact hss (E1.out.symm.trans E2.out))
    have HIK:=aa (fun q=>i8.skip (g:=g) (l:=l) (w:=w) (w0:=W) ⟨zs,hzk,HZS.out,HZA.out,HO.out,HC.out,HG.out,HBR.out⟩ hks.out q)
    go_wp2_with fail
    go_quiet (fail)
    go_wp2_with fail
    go_roundw
    case rel=>exact⟨k+1,by omega,by go_num,aa (HIK.out _)⟩
    case measure=>simp[intOf];omega
  ·obtain rfl:k=n1:=by omega
   have hzp:1<=zs.length:=by
    rcases Nat.lt_or_ge 0 zs.length with h1|h1
    ·exact h1
    ·exact absurd (List.eq_nil_of_length_eq_zero (by omega)) (HZS.out hs)
   obtain⟨A,c,rfl,hA,hnc,hfar,hse⟩:=aW HO.out
   have HSE:=aa hse
   have HF:=aa hfar
   clear hse hfar hA
   go_wp2_with fail
   refine(a6 g (zs.length:Int) _ HC (by omega) (by omega)).mono ?_
   rintro e w2 ⟨v,rfl,v0,v1,hC2,hG2,hz2⟩
   obtain⟨j,rfl⟩:=Int.eq_ofNat_of_zero_le v0
   have hjl:j<zs.length:=by omega
   have hkeep:an w2 wr.heap.size A (cT zs):=HSE.out.keepF HF.out fun p h1 h2=>World.cell?_of_block (hG2.block p.block h2 (fun e=>by injection e with e;have:=HS.out;omega))
   obtain⟨b,off,rfl,_,u0⟩:=lA hkeep hjl
   obtain⟨r,hr,hrl,hrs⟩:=HZA.out _ (List.getElem_mem hjl)
   rw[hr] at u0
   have HRS:=aa (hr ▸ hrs)
   have HRL2:=aa hrl
   have HC2:=aa hC2
   have HG2:=aa (HG.out.trans hG2)
   clear hC2 hG2 hz2 hkeep hr hrs hrl
   go_wp2_with fail
   go_ret
   exact⟨r,rfl,HRL2.out,HRS.out,HC2.out,HG2.out⟩
def pN (N i:Nat) (P:Int) (l:List (Int×Int)) (g:Nat) (w:World) (e:Ending) (w':World):Prop:=
 ∃(A:Option Addr) (c:Nat) (xs:List Ins),e=.returned (.slice A xs.length c)/\(A=none->c=0)/\xs.length<=c/\(1<=xs.length/\xs.length<=4)/\Far w.heap.size A/\an w' w'.heap.size A (au xs)/\(∀x∈xs,dF N i P l x)/\ar w' g/\w.grownBy w' (some g)
theorem dr {N i:Nat} {P:Int} {l:List (Int×Int)} {g:Nat} {w w2:World} {o a b c m:Int} (hx:dF N i P l ⟨o,a,b,c,m⟩) (hC:ar w2 g) (hG:w.grownBy w2 (some g)) :
  pN N i P l g w (.returned (.slice (some ⟨w2.heap.size,0,none⟩) 1 1)) (w2.alloc (.cells #[.int .i64 o,.int .i64 a,.int .i64 b,.int .i64 c,.int .u64 m] 50)):=
 ⟨some ⟨w2.heap.size,0,none⟩,1,[⟨o,a,b,c,m⟩],rfl,(fun h=>by cases h),Nat.le_refl _,⟨Nat.le_refl _,by simp⟩,(fun d hd=>by injection hd with hd;subst hd;exact hG.size),
  (fun k u hu=>⟨w2.heap.size,0,rfl,by simp,by rw[Nat.zero_add];exact(Row.new w2 50 (mV ⟨o,a,b,c,m⟩)).cell (by simpa[au] using hu)⟩),(fun x h=>by simp at h;subst h;exact hx),hC.alloc _,hG.trans (World.grownBy_alloc _ _ _)⟩
theorem Tryz.info50:(Tryz.prog.info? 50).map (fun i=>(i.zero,i.size,i.bytes))=some (some (.agg #[.int .i64 0,.int .i64 0,.int .i64 0,.int .i64 0,.int .u64 0]),5,40):=by kernel_rfl
theorem iw (w:World) (x:Ins) (t:TypeId):∀(j:Nat) (u:Value),[Value.int .i64 x.op,.int .i64 x.a,.int .i64 x.b,.int .i64 x.c,.int .u64 x.imm][j]?=some u->(w.alloc (.cells #[.int .i64 x.op,.int .i64 x.a,.int .i64 x.b,.int .i64 x.c,.int .u64 x.imm] t)).cell? ((⟨w.heap.size,0,none⟩:Addr).add j)=some u:=by
 intro j u hu
 rw[WideShapes.add_plain,Nat.zero_add]
 exact(Row.new w t (mV x)).cell hu
theorem fU (x:Ins):∀u∈[Value.int .i64 x.op,.int .i64 x.a,.int .i64 x.b,.int .i64 x.c,.int .u64 x.imm],u.oneCell'=true:=fun u hu=>eL [x] u hu
def jX (N i:Nat) (P:Int) (l:List (Int×Int)) (g a:Nat) (w w0:World) (v:Value) (wr:World):Prop:=
 ∃xs:List Ins,xs.length<=a/\(∀x∈xs,dF N i P l x)/\wr.ownsRow w0.heap.size 50 5 v xs.length (au xs)/\ar wr g/\w.grownBy wr (some g)/\w0.heap.size<=wr.heap.size
theorem jX.skip {N i:Nat} {P:Int} {l:List (Int×Int)} {g a:Nat} {w w0 wr w2:World} {v:Value} (h:jX N i P l g a w w0 v wr) (hg:g<w0.heap.size) (hC:ar w2 g) (hG:wr.grownBy w2 (some g)):jX N i P l g (a+1) w w0 v w2:=by
 obtain⟨xs,h1,h2,h3,h4,h5,h6⟩:=h
 refine⟨xs,by omega,h2,h3.kept hG ?_,hC,h5.trans hG,Nat.le_trans h6 hG.size⟩
 cases e:v.ownBlock with
 | none=>exact .inl rfl
 | some k=>exact .inr fun h=>by have:=(h3.lt k e).1;injection h with h;omega
theorem cj {wr w2:World} {base:Nat} {t:TypeId} {size n:Nat} {v:Value} {xs:List Value} {g:Nat} (h:wr.ownsRow base t size v n xs) (hg:g<base) (hG:wr.grownBy w2 (some g)):w2.ownsRow base t size v n xs:=by
 refine h.kept hG ?_
 cases e:v.ownBlock with
 | none=>exact .inl rfl
 | some k=>exact .inr fun h'=>by have:=(h.lt k e).1;injection h' with h';omega
theorem jX.add {N i:Nat} {P:Int} {l:List (Int×Int)} {g a:Nat} {w w0 w2 w3:World} {v v':Value} {xs:List Ins} {x:Ins} {t:TypeId} (ha:xs.length<=a) (hx:∀x∈xs,dF N i P l x) (hn:dF N i P l x) (hg:g<w0.heap.size) (hw:w.heap.size<=w0.heap.size)
  (ho:w2.ownsRow w0.heap.size 50 5 v xs.length (au xs)) (hC:ar w2 g) (hG:w.grownBy w2 (some g)) (hs:w0.heap.size<=w2.heap.size) (ho3:w3.ownsRow w0.heap.size 50 5 v' (xs.length+1) (au xs++[.int .i64 x.op,.int .i64 x.a,.int .i64 x.b,.int .i64 x.c,.int .u64 x.imm])) (hg3:(w2.alloc (.cells #[.int .i64 x.op,.int .i64 x.a,.int .i64 x.b,.int .i64 x.c,.int .u64 x.imm] t)).grownBy w3 v.ownBlock) :
  jX N i P l g (a+1) w w0 v' w3:=by
 refine⟨xs++[x],by simp;omega,(fun y hy=>?_),by rw[dL,ky];simpa using ho3,(hC.alloc _).kept hg3 (fun j hj=>?_),(hG.trans (World.grownBy_alloc _ _ _)).andThen hg3 (fun j hj=>.inl ?_),?_⟩
 ·rcases List.mem_append.1 hy with h|h
  ·exact hx y h
  ·simp at h;subst h;exact hn
 ·have:=(ho.lt j hj).1;omega
 ·have:=(ho.lt j hj).1;omega
 ·have:=hg3.size;simp at this;omega
theorem xf (g:Nat) (P:Int) (A1:Option Addr) (n1 c1:Nat) (A2:Option Addr) (n2 c2:Nat) (l:List (Int×Int)) (i:Nat) (Ap:Option Addr) (np cp:Nat) (ps:List Int) (B:Nat) (w:World) (h:Hid (ar w g)) (hl:Hid (l.length=n1)) (hn1:n1<=1000) (hsee:Hid (an w B A1 (bm l))) (hf1:Hid (Far (g+1) A1))
  (hpl:Hid (ps.length=np)) (hnp:np<=80) (hps:Hid (an w B Ap (cT ps))) (hfp:Hid (Far (g+1) Ap)) (hpb:Hid (∀p∈ps,0<=p/\p<=3)) (hin:i<np) (hP0:0<=P) (hP1:P<=8) (hB:B<=w.heap.size) :
  Calls Tryz.prog 53 #[.pointer (some ⟨g,0,none⟩),fv P A1 n1 c1 A2 n2 c2,.int .i64 (i:Int),.slice Ap np cp] w (pN np i P l g w):=by
 obtain⟨i0,hi,hz0,hz1,hz2⟩:=info_parts Tryz.info50
 have c:=a6 g
 have hgl:=h.out.lt
 obtain⟨W,hW⟩:∃W,w.alloc (.cells #[.int .i64 P,.slice A1 n1 c1,.slice A2 n2 c2] 98)=W:=⟨_,rfl⟩
 have HW:=aa hW
 have hr:Row W w.heap.size 98 [.int .i64 P,.slice A1 n1 c1,.slice A2 n2 c2]:=hW ▸ Row.new w _ [.int .i64 P,.slice A1 n1 c1,.slice A2 n2 c2]
 have hbW:Below w.heap.size w W:=hW ▸ ag w _
 have hCW:=h.out.below hbW
 have hGW:w.grownBy W (some g):=aG hbW _
 have HR:=aa hr
 have HCW:=aa hCW
 have HGW:=aa hGW
 clear hW hr hbW hCW hGW
 go_enter Tryz.func53,Tryz.ntmps53
 go_wp2_with fail
 rw[HW.out]
 clear HW
 refine(c 4 _ HCW (by omega) (by omega)).mono ?_
 rintro e w1 ⟨r,rfl,r0,r1,hC1,hG1,hz1'⟩
 have HC1:=aa hC1
 have HG1:=aa (HGW.out.trans hG1)
 have HR1:=aa (HR.out.grown hG1 (fun e=>by injection e with e;omega))
 have y1:=HR1.out.cell (k:=1) rfl
 clear hC1 hG1 hz1' HCW HGW HR
 go_wp2_with fail
 refine(c 20 _ HC1 (by omega) (by omega)).mono ?_
 rintro e w2 ⟨k,rfl,k0,k1,hC2,hG2,hz2'⟩
 have HC2:=aa hC2
 have HG2:=aa (HG1.out.trans hG2)
 have HR2:=aa (HR1.out.grown hG2 (fun e=>by injection e with e;omega))
 have hRL:=HR2.out.lt
 have hs2:w.heap.size<=w2.heap.size:=HG2.out.size
 clear hC2 hG2 hz2' HC1 HG1 HR1 y1
 have r8:r<8:=by omega
 have hnz:(0:Int)<=(n1:Int):=by omega
 by_cases hk9:k<9
 ·by_cases hn0:n1=0
  ·subst hn0
   rcases(show k<3\/(3<=k/\k<6)\/(6<=k/\k<9) by omega) with hk|⟨hka,hkb⟩|⟨hka,hkb⟩
   all_goals
    go_wp2_with fail
    refine(iR g _ HC2).mono ?_
    rintro e w3 ⟨m,rfl,hm,hC3,hG3,hzz3⟩
    have HC3:=aa hC3
    have HG3:=aa (HG2.out.trans hG3)
    have HMW:=aa hm
    clear hC3 hG3 hzz3 hm
    go_wp2_with fail
    go_ret
    exact dr (mX r0 r8 HMW.out) HC3.out HG3.out
  ·have hnp0:(0:Int)<(n1:Int):=by omega
   rcases(show k<3\/(3<=k/\k<6)\/(6<=k/\k<9) by omega) with hk|⟨hka,hkb⟩|⟨hka,hkb⟩
   ·go_wp2_with fail
    refine(c (n1:Int) _ HC2 (by omega) (by omega)).mono ?_
    rintro e w3 ⟨s,rfl,s0,s1,hC3,hG3,hzz3⟩
    have HC3:=aa hC3
    have HG3:=aa (HG2.out.trans hG3)
    have HR3:=aa (HR2.out.grown hG3 (fun e=>by injection e with e;omega))
    clear hC3 hG3 hzz3
    go_wp2_with fail
    go_ret
    exact dr (mW s0 (by have:=hl.out;omega) r0 r8) HC3.out HG3.out
   ·go_wp2_with fail
    refine(c (n1:Int) _ HC2 (by omega) (by omega)).mono ?_
    rintro e w3 ⟨s,rfl,s0,s1,hC3,hG3,hzz3⟩
    have HC3:=aa hC3
    have HG3:=aa (HG2.out.trans hG3)
    have HR3:=aa (HR2.out.grown hG3 (fun e=>by injection e with e;omega))
    clear hC3 hG3 hzz3
    go_wp2_with fail
    go_ret
    exact dr (uz s0 (by have:=hl.out;omega) r0 r8) HC3.out HG3.out
   ·go_wp2_with fail
    refine(c (n1:Int) _ HC2 (by omega) (by omega)).mono ?_
    rintro e w3 ⟨s,rfl,s0,s1,hC3,hG3,hzz3⟩
    have HC3:=aa hC3
    have HG3:=aa (HG2.out.trans hG3)
    have HR3:=aa (HR2.out.grown hG3 (fun e=>by injection e with e;omega))
    clear hC3 hG3 hzz3
    obtain⟨s,rfl⟩:=Int.eq_ofNat_of_zero_le s0
    have y0:=HR3.out.cell (k:=0) rfl
    have y1:=HR3.out.cell (k:=1) rfl
    have y2:=HR3.out.cell (k:=2) rfl
    have hs3:w.heap.size<=w3.heap.size:=HG3.out.size
    have hl3:=aa (wD g P A1 n1 c1 A2 n2 c2 l s B w3 HC3 hl hn1 (by omega) (aa (hsee.out.keepF hf1.out fun p h1 h2=>World.cell?_of_block (HG3.out.block p.block (by omega) (fun e=>by injection e with e;omega)))) (Nat.le_trans hB hs3))
    go_wp2_with fail
    refine(hl3.out).mono ?_
    rintro e w4 ⟨t,rfl,ht,hte,hC4,hG4⟩
    have HC4:=aa hC4
    have HG4:=aa (HG3.out.trans hG4)
    have HT:=aa hte
    clear hC4 hG4 hte y0 y1 y2
    go_wp2_with fail
    go_ret
    exact dr (uy s0 (by have:=hl.out;omega) (by omega) (by omega) HT.out) HC4.out HG4.out
 ·rcases(show(9<=k/\k<11)\/(11<=k/\k<13)\/(13<=k/\k<15)\/k=15\/k=16\/17<=k by omega) with⟨hka,hkb⟩|⟨hka,hkb⟩|⟨hka,hkb⟩|rfl|rfl|hka
  ·go_wp2_with fail
   refine(iR g _ HC2).mono ?_
   rintro e w3 ⟨m,rfl,hm,hC3,hG3,hzz3⟩
   have HC3:=aa hC3
   have HG3:=aa (HG2.out.trans hG3)
   have HMW:=aa hm
   clear hC3 hG3 hzz3 hm
   go_wp2_with fail
   go_ret
   exact dr (mX r0 r8 HMW.out) HC3.out HG3.out
  ·go_wp2_with fail
   refine(c 10 _ HC2 (by omega) (by omega)).mono ?_
   rintro e w3 ⟨v,rfl,v0,v1,hC3,hG3,hzz3⟩
   have HC3:=aa hC3
   have HG3:=aa (HG2.out.trans hG3)
   have HR3:=aa (HR2.out.grown hG3 (fun e=>by injection e with e;omega))
   clear hC3 hG3 hzz3
   go_wp2_with fail
   refine(c 4 _ HC3 (by omega) (by omega)).mono ?_
   rintro e w4 ⟨x,rfl,x0,x1,hC4,hG4,hzz4⟩
   have HC4:=aa hC4
   have HG4:=aa (HG3.out.trans hG4)
   have HR4:=aa (HR3.out.grown hG4 (fun e=>by injection e with e;omega))
   clear hC4 hG4 hzz4
   go_wp2_with fail
   refine(c 8 _ HC4 (by omega) (by omega)).mono ?_
   rintro e w5 ⟨y,rfl,y0,y1,hC5,hG5,hzz5⟩
   have HC5:=aa hC5
   have HG5:=aa (HG4.out.trans hG5)
   have HR5:=aa (HR4.out.grown hG5 (fun e=>by injection e with e;omega))
   clear hC5 hG5 hzz5
   go_wp2_with fail
   go_ret
   exact dr (sf v0 v1 r0 r8 x0 (by omega) y0 y1) HC5.out HG5.out
  ·go_wp2_with fail
   go_ret
   exact dr (mf r0 r8) HC2.out HG2.out
  ·have T0:=aa (Row.new w2 3 [.int .i64 13,.int .i64 12,.int .i64 1])
   go_wp2_with fail
   refine(c 3 _ (aa (HC2.out.alloc _)) (by omega) (by omega)).mono ?_
   rintro e w3 ⟨v,rfl,v0,v1,hC3,hG3,hzz3⟩
   have HC3:=aa hC3
   have HG3:=aa ((HG2.out.trans (World.grownBy_alloc _ _ _)).trans hG3)
   have T1:=T0.out.grown hG3 (fun e=>by injection e with e;omega)
   have t0:=T1.cell (k:=0) rfl
   have t1:=T1.cell (k:=1) rfl
   have t2:=T1.cell (k:=2) rfl
   clear hC3 hG3 hzz3 T0 T1
   rcases(show v=0\/v=1\/v=2 by omega) with rfl|rfl|rfl
   ·go_wp2_with fail
    go_ret
    exact dr (yO r0 r8) HC3.out HG3.out
   ·go_wp2_with fail
    go_ret
    exact dr (uA r0 r8) HC3.out HG3.out
   ·go_wp2_with fail
    go_ret
    exact dr (uB r0 r8) HC3.out HG3.out
  ·have y0:=HR2.out.cell (k:=0) rfl
   by_cases hPp:0<P
   ·go_wp2_with fail
    refine(c P _ HC2 (by omega) (by omega)).mono ?_
    rintro e w3 ⟨v,rfl,v0,v1,hC3,hG3,hzz3⟩
    have HC3:=aa hC3
    have HG3:=aa (HG2.out.trans hG3)
    have HR3:=aa (HR2.out.grown hG3 (fun e=>by injection e with e;omega))
    clear hC3 hG3 hzz3
    go_wp2_with fail
    go_ret
    exact dr (sg r0 r8 v0 v1) HC3.out HG3.out
   ·have hPd:decide (0<P)=false:=by simpa using hPp
    have hP00:P=0:=by omega
    go_wp2_with fail
    go_ret
    exact dr (mf r0 r8) HC2.out HG2.out
  ·have b15:(k==15)=false:=by simp;omega
   have b16:(k==16)=false:=by simp;omega
   by_cases hlast:i+1<np
   ·have hlz:(i:Int)+1<(np:Int):=by omega
    go_wp2_with fail
    refine(c ((np:Int)-(i:Int)-1) _ HC2 (by omega) (by omega)).mono ?_
    rintro e w3 ⟨v,rfl,v0,v1,hC3,hG3,hzz3⟩
    obtain⟨v,rfl⟩:=Int.eq_ofNat_of_zero_le v0
    have hjl:i+1+v<ps.length:=by have:=hpl.out;omega
    have keepP:∀wr,w.grownBy wr (some g)->an wr B Ap (cT ps):=fun wr hG=>hps.out.keepF hfp.out fun p h1 h2=>World.cell?_of_block (hG.block p.block (by omega) (fun e=>by injection e with e;omega))
    have HG3:=aa (HG2.out.trans hG3)
    obtain⟨bp,op,rfl,hbp,_⟩:=lA (keepP _ HG3.out) hjl
    have hpr:=hpb.out _ (List.getElem_mem hjl)
    obtain⟨p,hp⟩:∃p,ps[i+1+v]'hjl=p:=⟨_,rfl⟩
    rw[hp] at hpr
    obtain⟨p0,p3⟩:=hpr
    have HK:=aa (fun wr (hG:w.grownBy wr (some g))=>(by
     obtain⟨b',o',he,_,hc⟩:=lA (keepP _ hG) hjl
     injection he with he
     injection he with e1 e2
     subst e1 e2
     rw[hp] at hc
     exact hc:wr.cell? ⟨bp,op+(i+1+v),none⟩=some (.int .i64 p)))
    have HI:Hid (jX np i P l g 0 w w3 (.slice none 0 0) w3):=aa ⟨[],by simp,(fun x hx=>by cases hx),World.ownsRow_nil _ _ _ _,hC3,HG3.out,Nat.le_refl _⟩
    have hg3:g<w3.heap.size:=by have:=HG3.out.size;omega
    have hw3:w.heap.size<=w3.heap.size:=HG3.out.size
    have hjz0:(0:Int)<=(i:Int)+1+(v:Int):=by omega
    have hjz1:(i:Int)+1+(v:Int)<(np:Int):=by omega
    clear hC3 hG3 hzz3 keepP hp HG3 hk9 b15 b16 HR2 hRL
    go_wp2_with fail
    go_loopw [14,15] (fun ov av wr=>∃a:Nat,(a:Int)<=p/\av=.int .i64 (a:Int)/\Hid (jX np i P l g a w w3 ov wr)) (fun _ av _=>3-(intOf av).toNat)
    case atStart=>exact⟨0,by omega,rfl,HI⟩
    case round=>
     obtain⟨a,hap,rfl,hI⟩:=hrel
     obtain⟨xs,hxa,hxg,hown,hC,hG,hsz⟩:=hI.out
     have u0:=HK.out _ hG
     have HC:=aa hC
     have HG:=aa hG
     have HO:=aa hown
     have HXG:=aa hxg
     have HSZ:=aa hsz
     clear hown hC hG hxg hsz
     by_cases hlt:(a:Int)<p
     ·go_wp2_with fail
      refine(c 8 _ HC (by omega) (by omega)).mono ?_
      rintro e w5 ⟨u,rfl,u0',u1',hC5,hG5,hzz5⟩
      have HC5:=aa hC5
      have HG5:=aa (HG.out.trans hG5)
      have HO5:=aa (cj HO.out hg3 hG5)
      have HSZ5:=aa (Nat.le_trans HSZ.out hG5.size)
      by_cases hu7:u<7
      ·clear hC5 hG5 hzz5 u0
       go_wp2_with fail
       refine(c 4 _ HC5 (by omega) (by omega)).mono ?_
       rintro e w6 ⟨y,rfl,y0,y1,hC6,hG6,hzz6⟩
       have HC6:=aa hC6
       have HG6:=aa (HG5.out.trans hG6)
       have HO6:=aa (cj HO5.out hg3 hG6)
       have HSZ6:=aa (Nat.le_trans HSZ5.out hG6.size)
       clear hC6 hG6 hzz6
       go_wp2_with (at_builtin;refine wpList_append_own _ rfl (.tmp 150) (.tmp 155) 51 rfl w3.heap.size 50 i0 (.agg #[.int .i64 0,.int .i64 0,.int .i64 0,.int .i64 0,.int .u64 0]) 5 40 Tryz.underlying51 hi hz0 hz1 hz2 rfl (by decide) _ xs.length (au xs) rfl (HO6.out.alloc _) ⟨w6.heap.size,0,none⟩ 1 1 [.int .i64 18,.int .i64 (a:Int),.int .i64 y,.int .i64 0,.int .u64 0] rfl rfl (iw w6 ⟨18,(a:Int),y,0,0⟩ _) (fU ⟨18,(a:Int),y,0,0⟩) (by unfold maxLen;omega) (by omega) (by simp;have:=HSZ6.out;omega) ?_)
       intro v' w7 ho7 hg7 _
       have HN:=aa (jX.add (x:=⟨18,(a:Int),y,0,0⟩) hxa HXG.out (wN (by omega) (by omega) y0 (by omega)) hg3 hw3 HO6.out HC6.out HG6.out HSZ6.out ho7 hg7)
       clear ho7 hg7
       go_wp2_with fail
       go_roundw
       case rel=>exact⟨a+1,by omega,by go_num,HN⟩
       case measure=>simp[intOf];omega
      ·have HN:=aa (jX.skip hI.out hg3 HC5.out hG5)
       clear hC5 hG5 hzz5 u0
       go_wp2_with fail
       go_roundw
       case rel=>exact⟨a+1,by omega,by go_num,HN⟩
       case measure=>simp[intOf];omega
     ·clear hI
      go_wp2_with (at_builtin;refine wpList_append_own _ rfl (.tmp 157) (.tmp 160) 51 rfl w3.heap.size 50 i0 (.agg #[.int .i64 0,.int .i64 0,.int .i64 0,.int .i64 0,.int .u64 0]) 5 40 Tryz.underlying51 hi hz0 hz1 hz2 rfl (by decide) _ xs.length (au xs) rfl (HO.out.alloc _) ⟨wr.heap.size,0,none⟩ 1 1 [.int .i64 22,.int .i64 ((i:Int)+1+(v:Int)),.int .i64 0,.int .i64 0,.int .u64 0] rfl rfl (iw wr ⟨22,(i:Int)+1+(v:Int),0,0,0⟩ _) (fU ⟨22,(i:Int)+1+(v:Int),0,0,0⟩) (by unfold maxLen;omega) (by omega) (by simp;have:=HSZ.out;omega) ?_)
      intro v' w7 ho7 hg7 _
      have hN:=jX.add (x:=⟨22,(i:Int)+1+(v:Int),0,0,0⟩) hxa HXG.out (nS (by omega) (by omega)) hg3 hw3 HO.out HC.out HG.out HSZ.out ho7 hg7
      obtain⟨A7,c7,rfl,hA7,hn7,hf7,hs7⟩:=aW ho7
      have hxa':xs.length<=3:=by omega
      have HN:=aa hN
      have HA7:=aa hA7
      have HF7:=aa hf7
      have HS7:=aa hs7
      clear ho7 hg7 hN hA7 hf7 hs7
      go_wp2_with fail
      go_ret
      obtain⟨ys,h1,h2,h3,h4,h5,h6⟩:=HN.out
      refine⟨A7,c7,xs++[⟨22,(i:Int)+1+(v:Int),0,0,0⟩],by simp,HA7.out,by simpa using hn7,by simp;omega,HF7.out.more hw3,by rw[dL];exact HS7.out,(fun x hx=>?_),h4,h5⟩
      rcases List.mem_append.1 hx with h|h
      ·exact HXG.out x h
      ·simp at h;subst h;exact nS (by omega) (by omega)
   ·have hlz:¬(i:Int)+1<(np:Int):=by omega
    go_wp2_with fail
    go_ret
    exact dr (mf r0 r8) HC2.out HG2.out
def zw (g:Nat) (w:World) (e:Ending) (w':World):Prop:=∃v:Int,e=.returned (.int .i64 v)/\ar w' g/\w.grownBy w' (some g)
theorem dE (g:Nat) (w:World) (h:Hid (ar w g)):Calls Tryz.prog 16 #[.pointer (some ⟨g,0,none⟩)] w (zw g w):=by
 have c:=a6 g
 have hgl:=h.out.lt
 go_enter Tryz.func16,Tryz.ntmps16
 go_wp2_with fail
 refine(c 12 _ h (by omega) (by omega)).mono ?_
 rintro e w1 ⟨k,rfl,k0,k1,hC,hG,hz⟩
 have HC:=aa hC
 have HG:=aa hG
 have hw1:w.heap.size<=w1.heap.size:=hG.size
 clear hC hG hz
 by_cases hk:k=11
 ·subst hk
  obtain⟨w2,hw2⟩:∃w2,w1.alloc (.cells #[.int .i64 9223372036854775807,.int .i64 (-9223372036854775808),.int .i64 2147483648,.int .i64 2147483647,.int .i64 (-1),.int .i64 16777216,.int .i64 33554432,.int .i64 1048577,.int .i64 512,.int .i64 80] 3)=w2:=⟨_,rfl⟩
  have HW2:=aa hw2
  have hr:Row w2 w1.heap.size 3 [.int .i64 9223372036854775807,.int .i64 (-9223372036854775808),.int .i64 2147483648,.int .i64 2147483647,.int .i64 (-1),.int .i64 16777216,.int .i64 33554432,.int .i64 1048577,.int .i64 512,.int .i64 80]:=hw2 ▸ Row.new w1 _ _
  have HR:=aa hr
  have HC2:Hid (ar w2 g):=aa (hw2 ▸ HC.out.alloc _)
  have HG2:Hid (w.grownBy w2 (some g)):=aa (hw2 ▸ HG.out.trans (World.grownBy_alloc _ _ _))
  clear hw2 hr
  go_wp2_with fail
  rw[HW2.out]
  refine(c 10 _ HC2 (by omega) (by omega)).mono ?_
  rintro e w3 ⟨v,rfl,v0,v1,hC3,hG3,hz3⟩
  have HC3:=aa hC3
  have HG3:=aa (HG2.out.trans hG3)
  have hr3:=HR.out.grown hG3 (fun e=>by injection e with e;omega)
  obtain⟨v,rfl⟩:=Int.eq_ofNat_of_zero_le v0
  have hx:∃x:Int,w3.cell? ⟨w1.heap.size,v,none⟩=some (.int .i64 x):=by
   rcases(show v=0\/v=1\/v=2\/v=3\/v=4\/v=5\/v=6\/v=7\/v=8\/v=9 by omega) with rfl|rfl|rfl|rfl|rfl|rfl|rfl|rfl|rfl|rfl<;>exact⟨_,hr3.cell rfl⟩
  obtain⟨x,hx⟩:=hx
  clear hC3 hG3 hz3 hr3 HR HW2
  go_wp2_with fail
  go_ret
  exact⟨x,rfl,HC3.out,HG3.out⟩
 ·have hk':(k==11)=false:=by simpa using hk
  go_wp2_with fail
  refine(c 256 _ HC (by omega) (by omega)).mono ?_
  rintro e w2 ⟨u,rfl,u0,u1,hC2,hG2,hz2⟩
  have HC2:=aa hC2
  have HG2:=aa (HG.out.trans hG2)
  clear hC2 hG2 hz2
  go_wp2_with fail
  refine(c 7 _ HC2 (by omega) (by omega)).mono ?_
  rintro e w3 ⟨v,rfl,v0,v1,hC3,hG3,hz3⟩
  have HC3:=aa hC3
  have HG3:=aa (HG2.out.trans hG3)
  clear hC3 hG3 hz3
  go_wp2_with fail
  go_ret
  exact⟨_,rfl,HC3.out,HG3.out⟩
end Go.Proofs.YtjbgepjdohfhkaaGreat
