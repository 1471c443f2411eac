/- The contract of extent.Power. Conditions: those of the types. -/
import Derived.Test.YtjbgepjdohfhkaaGreatMKruse
set_option linter.unusedVariables false
set_option linter.unusedSimpArgs false
set_option maxHeartbeats 1000000
namespace Go.Proofs.YtjbgepjdohfhkaaGreat
open Go.RowKit
theorem kU (n:Int) (w:World):Calls Tryz.prog 39 #[.int .i64 n] w fun e w'=>e=.returned (.bool (aR n))/\w=w':=by
 by_cases h0:1<=n
 ·by_cases h1:n<=16777216
  ·have hb:=xg n h0 h1
   generalize aR n=b at hb⊢
   go_enter Tryz.func39,Tryz.ntmps39
   go_wp2
   go_ret
   exact⟨rfl,rfl⟩
  ·have hp:=aa (oU (n:=n) (by omega))
   go_enter Tryz.func39,Tryz.ntmps39
   go_wp2
   go_ret
   exact⟨aw hp.out.symm,rfl⟩
 ·have hp:=aa (oU (n:=n) (by omega))
  go_enter Tryz.func39,Tryz.ntmps39
  go_wp2
  go_ret
  exact⟨aw hp.out.symm,rfl⟩
theorem AG (w:World) (o p q r:Obj):Below w.heap.size w ((((w.alloc o).alloc p).alloc q).alloc r):=(bi w o p q).alloc (by simp;omega) _
theorem eM (w:World) (l1 l2 l3:List Value) (t1 t2 t3:TypeId):∃W,((w.alloc (.cells l1.toArray t1)).alloc (.cells l2.toArray t2)).alloc (.cells l3.toArray t3)=W/\Below w.heap.size w W/\w.heap.size+3=W.heap.size /\
  Row W w.heap.size t1 l1/\Row W (w.heap.size+1) t2 l2/\Row W (w.heap.size+1+1) t3 l3:=by
 refine⟨_,rfl,bi _ _ _ _,by simp,((Row.new w t1 l1).alloc _).alloc _,(Row.alloc ?_ _),?_⟩
 ·exact gL _ _ (by simp)
 ·exact gL _ _ (by simp)
theorem kc (w:World) (l1 l2 l3 l4:List Value) (t1 t2 t3 t4:TypeId):∃W,(((w.alloc (.cells l1.toArray t1)).alloc (.cells l2.toArray t2)).alloc (.cells l3.toArray t3)).alloc (.cells l4.toArray t4)=W/\Below w.heap.size w W/\w.heap.size+4=W.heap.size /\
  Row W w.heap.size t1 l1/\Row W (w.heap.size+1) t2 l2/\Row W (w.heap.size+1+1) t3 l3/\Row W (w.heap.size+1+1+1) t4 l4:=by
 refine⟨_,rfl,AG _ _ _ _ _,by simp,(((Row.new w t1 l1).alloc _).alloc _).alloc _,(Row.alloc (Row.alloc ?_ _) _),(Row.alloc ?_ _),?_⟩
 ·exact gL _ _ (by simp)
 ·exact gL _ _ (by simp)
 ·exact gL _ _ (by simp)
theorem fx (w:World) (l1 l2:List Value) (t1 t2:TypeId):∃W,(w.alloc (.cells l1.toArray t1)).alloc (.cells l2.toArray t2)=W/\Below w.heap.size w W/\w.heap.size+2=W.heap.size/\Row W w.heap.size t1 l1/\Row W (w.heap.size+1) t2 l2:=by
 refine⟨_,rfl,aP _ _ _,by simp,(Row.new w t1 l1).alloc _,?_⟩
 exact gL _ _ (by simp)
theorem vB (op:Int) (w:World):Calls Tryz.prog 91 #[.int .i64 op] w fun e w'=>e=.returned (.bool (em op))/\w=w':=by
 by_cases h1:op=20
 ·subst h1
  go_enter Tryz.func91,Tryz.ntmps91
  go_wp2_with fail
  go_ret
  exact⟨rfl,rfl⟩
 ·by_cases h2:op=23
  ·subst h2
   go_enter Tryz.func91,Tryz.ntmps91
   go_wp2_with fail
   go_ret
   exact⟨rfl,rfl⟩
  ·have b1:(op==20)=false:=by simpa using h1
   have b2:(op==23)=false:=by simpa using h2
   have e:=aa (show em op=(op==24) by simp[em,b1,b2])
   clear h1 h2
   go_enter Tryz.func91,Tryz.ntmps91
   go_wp2_with fail
   go_ret
   exact⟨aw e.out.symm,rfl⟩
abbrev xv (P S:Int) (A:Option Addr) (n c:Nat) (N:Int):Value:=.agg #[.int .i64 P,.int .i64 S,.slice A n c,.int .i64 N]
theorem eD (n m:Int) (w:World):Calls Tryz.prog 85 #[.int .i64 n,.int .i64 m] w fun e w'=>e=.returned (.bool (ax n m))/\w=w':=by
 by_cases h:0<=n
 ·go_enter Tryz.func85,Tryz.ntmps85
  go_wp2_with fail
  go_ret
  exact⟨aw (by simp[ax,h]),rfl⟩
 ·have hd:decide (0<=n)=false:=by simpa using h
  go_enter Tryz.func85,Tryz.ntmps85
  go_wp2_with fail
  go_ret
  exact⟨aw (by simp[ax,hd]),rfl⟩
theorem p8 (o:Int) (w:World):Calls Tryz.prog 87 #[.int .i64 o] w fun e w'=>e=.returned (.bool (exB o))/\w=w':=by
 have c:=eD o 25
 have HX:=aa (show exB o=(ax o 25&&(!decide (o=18)&&!decide (o=19))) from rfl)
 obtain⟨b,hb⟩:∃b,ax o 25=b:=⟨_,rfl⟩
 rw[hb] at c HX
 have C:=aa c
 clear c hb
 cases b with
 | false=>
  go_enter Tryz.func87,Tryz.ntmps87
  go_wp2_with fail
  refine(C.out _).mono ?_
  rintro e w' ⟨rfl,rfl⟩
  go_wp2_with fail
  go_ret
  exact⟨aw (by rw[HX.out];simp),rfl⟩
 | true=>
  by_cases h1:o=18
  ·have HE:=aa (show exB o=false by rw[HX.out];simp[h1])
   have b1:(o !=18)=false:=by simpa using h1
   clear h1
   go_enter Tryz.func87,Tryz.ntmps87
   go_wp2_with fail
   refine(C.out _).mono ?_
   rintro e w' ⟨rfl,rfl⟩
   go_wp2_with fail
   go_ret
   exact⟨aw HE.out.symm,rfl⟩
  ·have HE:=aa (show exB o=(o !=19) by rw[HX.out];simp only[decide_eq_false h1,Bool.true_and,Bool.not_false];by_cases h2:o=19<;>simp[h2])
   have b1:(o !=18)=true:=by simpa using h1
   clear h1
   go_enter Tryz.func87,Tryz.ntmps87
   go_wp2_with fail
   refine(C.out _).mono ?_
   rintro e w' ⟨rfl,rfl⟩
   go_wp2_with fail
   go_ret
   exact⟨aw HE.out.symm,rfl⟩
theorem sx (P S:Int) (A:Option Addr) (n cp:Nat) (N k x:Int) (w:World) :
  Calls Tryz.prog 121 #[xv P S A n cp N,.int .i64 k,.int .i64 x] w fun e w'=>e=.returned (.int .i64 (aB N n k x))/\Below w.heap.size w w':=by
 have HE:=aa (show aB N n k x=if k=0 then(if x=0 then 0 else 2) else if k=1 then(if ax x 8 then 0 else 4) else if k=4 then(if ax x N then 0 else 4) else if k=3 then(if szB x then 0 else 5) else if k=5 then(if ax x n then 0 else 6) else 0 from rfl)
 by_cases k0:k=0
 ·subst k0
  by_cases x0:x=0
  ·subst x0
   go_enter Tryz.func121,Tryz.ntmps121
   go_wp2_with fail
   go_ret
   exact⟨aj (by rw[HE.out];simp),ag _ _⟩
  ·have b1:(x !=0)=true:=by simpa using x0
   have HR:=aa (show aB N n 0 x=2 by rw[HE.out];simp[x0])
   clear x0 HE
   go_enter Tryz.func121,Tryz.ntmps121
   go_wp2_with fail
   go_ret
   exact⟨aj HR.out.symm,ag _ _⟩
 ·by_cases k1:k=1
  ·subst k1
   have c:=eD x 8
   obtain⟨b,hb⟩:∃b,ax x 8=b:=⟨_,rfl⟩
   rw[hb] at c
   have HR:=aa (show aB N n 1 x=if b then 0 else 4 by rw[HE.out,hb];simp)
   clear HE hb k0
   cases b with
   | false=>
    go_enter Tryz.func121,Tryz.ntmps121
    go_wp2_with fail
    refine(c _).mono ?_
    rintro e w' ⟨rfl,rfl⟩
    go_wp2_with fail
    go_ret
    exact⟨aj HR.out.symm,ag _ _⟩
   | true=>
    go_enter Tryz.func121,Tryz.ntmps121
    go_wp2_with fail
    refine(c _).mono ?_
    rintro e w' ⟨rfl,rfl⟩
    go_wp2_with fail
    go_ret
    exact⟨aj HR.out.symm,ag _ _⟩
  ·by_cases k4:k=4
   ·subst k4
    have c:=eD x N
    obtain⟨b,hb⟩:∃b,ax x N=b:=⟨_,rfl⟩
    rw[hb] at c
    have HR:=aa (show aB N n 4 x=if b then 0 else 4 by rw[HE.out,hb];simp)
    clear HE hb k0 k1
    cases b with
    | false=>
     go_enter Tryz.func121,Tryz.ntmps121
     go_wp2_with fail
     refine(c _).mono ?_
     rintro e w' ⟨rfl,rfl⟩
     go_wp2_with fail
     go_ret
     exact⟨aj HR.out.symm,ag _ _⟩
    | true=>
     go_enter Tryz.func121,Tryz.ntmps121
     go_wp2_with fail
     refine(c _).mono ?_
     rintro e w' ⟨rfl,rfl⟩
     go_wp2_with fail
     go_ret
     exact⟨aj HR.out.symm,ag _ _⟩
   ·by_cases k3:k=3
    ·subst k3
     have c:=jZ x
     obtain⟨b,hb⟩:∃b,szB x=b:=⟨_,rfl⟩
     rw[hb] at c
     have HR:=aa (show aB N n 3 x=if b then 0 else 5 by rw[HE.out,hb];simp)
     clear HE hb k0 k1 k4
     cases b with
     | false=>
      go_enter Tryz.func121,Tryz.ntmps121
      go_wp2_with fail
      refine(c _).mono ?_
      rintro e w' ⟨rfl,rfl⟩
      go_wp2_with fail
      go_ret
      exact⟨aj HR.out.symm,ag _ _⟩
     | true=>
      go_enter Tryz.func121,Tryz.ntmps121
      go_wp2_with fail
      refine(c _).mono ?_
      rintro e w' ⟨rfl,rfl⟩
      go_wp2_with fail
      go_ret
      exact⟨aj HR.out.symm,ag _ _⟩
    ·by_cases k5:k=5
     ·subst k5
      have c:=eD x n
      obtain⟨b,hb⟩:∃b,ax x n=b:=⟨_,rfl⟩
      rw[hb] at c
      have HR:=aa (show aB N n 5 x=if b then 0 else 6 by rw[HE.out,hb];simp)
      clear HE hb k0 k1 k4 k3
      cases b with
      | false=>
       go_enter Tryz.func121,Tryz.ntmps121
       go_wp2_with fail
       refine(c _).mono ?_
       rintro e w' ⟨rfl,rfl⟩
       go_wp2_with fail
       go_ret
       exact⟨aj HR.out.symm,ag _ _⟩
      | true=>
       go_enter Tryz.func121,Tryz.ntmps121
       go_wp2_with fail
       refine(c _).mono ?_
       rintro e w' ⟨rfl,rfl⟩
       go_wp2_with fail
       go_ret
       exact⟨aj HR.out.symm,ag _ _⟩
     ·have HR:=aa (show aB N n k x=0 by rw[HE.out,if_neg k0,if_neg k1,if_neg k4,if_neg k3,if_neg k5])
      have b0:(k==0)=false:=by simpa using k0
      have b1:(k==1)=false:=by simpa using k1
      have b4:(k==4)=false:=by simpa using k4
      have b3:(k==3)=false:=by simpa using k3
      have b5:(k==5)=false:=by simpa using k5
      clear HE k0 k1 k4 k3 k5
      go_enter Tryz.func121,Tryz.ntmps121
      go_wp2_with fail
      go_ret
      exact⟨aj HR.out.symm,ag _ _⟩
def shV (Al P S:Int):Bool:=aR Al&&(ax P 9&&(ax S 2147483520&&decide (S % Al=0)))
theorem zL (Al:Int) (f:Fm):shV Al f.params f.size=shB Al f:=rfl
theorem qZ (P S:Int) (A:Option Addr) (n cp:Nat) (N Al:Int) (w:World) :
  Calls Tryz.prog 86 #[xv P S A n cp N,.int .i64 Al] w fun e w'=>e=.returned (.bool (shV Al P S))/\Below w.heap.size w w':=by
 have HE:=aa (show shV Al P S=(aR Al&&(ax P 9&&(ax S 2147483520&&decide (S % Al=0)))) from rfl)
 have c1:=kU Al
 have c2:=eD P 9
 have c3:=eD S 2147483520
 cases h1:aR Al with
 | false=>
  rw[h1] at c1 HE
  clear h1
  go_enter Tryz.func86,Tryz.ntmps86
  go_wp2_with fail
  refine(c1 _).mono ?_
  rintro e w' ⟨rfl,rfl⟩
  go_wp2_with fail
  go_ret
  exact⟨aw (by rw[HE.out];rfl),ag _ _⟩
 | true=>
  cases h2:ax P 9 with
  | false=>
   rw[h1] at c1 HE
   rw[h2] at c2 HE
   clear h1 h2
   go_enter Tryz.func86,Tryz.ntmps86
   go_wp2_with fail
   refine(c1 _).mono ?_
   rintro e w' ⟨rfl,rfl⟩
   go_wp2_with fail
   refine(c2 _).mono ?_
   rintro e w' ⟨rfl,rfl⟩
   go_wp2_with fail
   go_ret
   exact⟨aw (by rw[HE.out];rfl),ag _ _⟩
  | true=>
   cases h3:ax S 2147483520 with
   | false=>
    rw[h1] at c1 HE
    rw[h2] at c2 HE
    rw[h3] at c3 HE
    clear h1 h2 h3
    go_enter Tryz.func86,Tryz.ntmps86
    go_wp2_with fail
    refine(c1 _).mono ?_
    rintro e w' ⟨rfl,rfl⟩
    go_wp2_with fail
    refine(c2 _).mono ?_
    rintro e w' ⟨rfl,rfl⟩
    go_wp2_with fail
    refine(c3 _).mono ?_
    rintro e w' ⟨rfl,rfl⟩
    go_wp2_with fail
    go_ret
    exact⟨aw (by rw[HE.out];rfl),ag _ _⟩
   | true=>
    obtain⟨s0,s1⟩:=ai.1 h3
    obtain⟨a0,a1⟩:=ed h1
    have m0:=Int.emod_nonneg S (show Al≠0 by omega)
    have m1:=Int.emod_lt_of_pos S (show 0<Al by omega)
    have hane:(Al==0)=false:=by simp;omega
    rw[h1] at c1 HE
    rw[h2] at c2 HE
    rw[h3] at c3 HE
    clear h1 h2 h3
    go_enter Tryz.func86,Tryz.ntmps86
    go_wp2_with fail
    refine(c1 _).mono ?_
    rintro e w' ⟨rfl,rfl⟩
    go_wp2_with fail
    refine(c2 _).mono ?_
    rintro e w' ⟨rfl,rfl⟩
    go_wp2_with fail
    refine(c3 _).mono ?_
    rintro e w' ⟨rfl,rfl⟩
    go_wp2_with fail
    go_ret
    exact⟨aw (by rw[HE.out];by_cases h:S % Al=0<;>simp[h]),ag _ _⟩
theorem lM {l:List Ins} {k:Nat} (h:k+1=l.length):cB l=em (l[k]'(by omega)).op:=by
 unfold cB
 rw[List.getLast?_eq_getElem?,show l.length-1=k by omega,List.getElem?_eq_getElem (by omega)]
theorem p9 (P S:Int) (A:Option Addr) (n cp:Nat) (N:Int) (l:List Ins) (B:Nat) (w:World) (hn:Hid (l.length=n)) (hm:n<=4611686018427387904) (h:Hid (an w B A (au l))) (hB:B<=w.heap.size) :
  Calls Tryz.prog 61 #[xv P S A n cp N] w fun e w'=>e=.returned (.bool (cB l))/\Below w.heap.size w w':=by
 cases n with
 | zero=>
  have hc:=aa (show cB l=false by rw[List.eq_nil_of_length_eq_zero hn.out];rfl)
  go_enter Tryz.func61,Tryz.ntmps61
  go_wp2_with fail
  go_ret
  exact⟨aw hc.out.symm,ag _ _⟩
 | succ k=>
  have hk:k<l.length:=by have:=hn.out;omega
  have hc:=aa (lM (l:=l) (k:=k) hn.out.symm)
  obtain⟨b,off,rfl,hb,x0,_,_,_,_⟩:=ee h.out hk
  obtain⟨o,ho⟩:∃o,(l[k]'hk).op=o:=⟨_,rfl⟩
  rw[ho] at x0 hc
  have ct:=vB o
  have x1:(w.alloc (.cells #[.int .i64 P,.int .i64 S,.slice (some ⟨b,off,none⟩) (k+1) cp,.int .i64 N] 130)).cell? ⟨b,off+k*5,none⟩=some (.int .i64 o):=((ag w _).cell (p:=⟨b,off+k*5,none⟩) (show b<w.heap.size by omega)).trans x0
  have hkz:(0:Int)<=(k:Int):=by omega
  have hkz2:(0:Int)<((k+1:Nat):Int):=by omega
  have hkz1:(k:Int)<((k+1:Nat):Int):=by omega
  have hkn:k<k+1:=by omega
  have e1:((k+1:Nat):Int)-1=(k:Int):=by omega
  have hbw:b<w.heap.size:=by omega
  clear x0 ho
  go_enter Tryz.func61,Tryz.ntmps61
  go_wp2_with fail
  refine(ct _).mono ?_
  rintro e w' ⟨rfl,rfl⟩
  go_wp2_with fail
  go_ret
  exact⟨aw hc.out.symm,ag _ _⟩
theorem gZ (n:Int) (w:World):Calls Tryz.prog 45 #[.int .i64 n] w fun e w'=>e=.returned (.bool (aR n))/\w=w':=by
 go_enter Tryz.func45,Tryz.ntmps45
 go_wp2
 go_loop [3] (fun i=>∃(k:Nat) (p:Int),k<=25/\Hid (p=(2:Int) ^ k)/\1<=p/\p<=33554432/\i=.int .i64 p/\Hid (∀j,j<k->n≠(2:Int) ^ j)) (fun i=>(33554432-intOf i).toNat)
 case atStart=>exact⟨0,1,by omega,aa rfl,by omega,by omega,rfl,aa fun j hj=>by omega⟩
 case round=>
  obtain⟨k,p,hk,hp,p0,p1,rfl,hno⟩:=hrel
  by_cases hlt:p<=16777216
  ·by_cases he:n=p
   ·subst he
    have hr:=aa (ir.2 ⟨k,by
     rcases Nat.lt_or_ge 24 k with h1|h1
     ·obtain rfl:k=25:=by omega
      have:=hp.out
      omega
     ·exact h1,hp.out⟩)
    go_wp2
    go_ret
    exact⟨aw hr.out.symm,rfl⟩
   ·have hbe:(n==p)=false:=by simpa using he
    have hk24:k<=24:=by
     rcases Nat.lt_or_ge 24 k with h1|h1
     ·obtain rfl:k=25:=by omega
      have:=hp.out
      omega
     ·exact h1
    go_wp2
    go_round
    case rel=>
     refine⟨k+1,p*2,by omega,aa ?_,by omega,by omega,rfl,aa fun j hj=>?_⟩
     ·rw[hp.out,Int.pow_succ]
     ·rcases Nat.lt_or_ge j k with h1|h1
      ·exact hno.out j h1
      ·obtain rfl:j=k:=by omega
       rw[<-hp.out];exact he
    case measure=>simp[intOf];omega
  ·have hr:Hid (aR n=false):=by
    show aR n=false
    cases e:aR n with
    | false=>rfl
    | true=>
     obtain⟨j,hj,ej⟩:=ir.1 e
     have:=hp.out
     rcases Nat.lt_or_ge j k with h1|h1
     ·exact absurd ej (hno.out j h1)
     ·have h2:=(jy (k:=k) (by omega)).2
      omega
   go_wp2
   go_ret
   exact⟨aw hr.out.symm,rfl⟩
def bQ (zs:List Int):List Value:=zs.map (Value.int .i64)
theorem og (zs:List Int):(bQ zs).length=zs.length:=by simp[bQ]
theorem j9 {w:World} {B:Nat} {A:Option Addr} {zs:List Int} {k:Nat} (h:an w B A (bQ zs)) (hk:k<zs.length):∃b off,A=some ⟨b,off,none⟩/\b<B/\w.cell? ⟨b,off+k,none⟩=some (.int .i64 zs[k]):=
 h k (.int .i64 zs[k]) (by simp[bQ,List.getElem?_map,List.getElem?_eq_getElem hk])
def zy (zs:List Int) (x:Int) (w:World) (e:Ending) (w':World):Prop:=∃i:Int,e=.returned (.int .i64 i)/\decide (0<=i)=zs.contains x/\w=w'
theorem wU (A:Option Addr) (n c:Nat) (zs:List Int) (x:Int) (B:Nat) (w:World) (hn:Hid (zs.length=n)) (hm:n<=4611686018427387904) (h:Hid (an w B A (bQ zs))) :
  Calls Tryz.prog 122 #[.slice A n c,.int .i64 x] w (zy zs x w):=by
 go_enter Tryz.func122,Tryz.ntmps122
 go_wp2_with fail
 go_loop [8] (fun i=>∃k:Nat,k<=n/\i=.int .i64 k/\Hid (∀j (hj:j<zs.length),j<k->zs[j]≠x)) (fun i=>n-(intOf i).toNat)
 case atStart=>exact⟨0,by omega,rfl,aa fun j hj h=>by omega⟩
 case round=>
  obtain⟨k,hk,rfl,hno⟩:=hrel
  by_cases hlt:k<n
  ·have hltz:(k:Int)<(n:Int):=by omega
   have hkz:(0:Int)<=(k:Int):=by omega
   have hkl:k<zs.length:=by have:=hn.out;omega
   obtain⟨b,off,rfl,_,c0⟩:=j9 h.out hkl
   have hit:Hid (zs[k]=x->zs.contains x=true):=aa fun e=>by rw[List.contains_iff_mem];exact e ▸ List.getElem_mem hkl
   obtain⟨y,hy⟩:∃y,zs[k]=y:=⟨_,rfl⟩
   rw[hy] at c0 hit
   have HY:=aa hy
   clear hy
   by_cases hxy:x=y
   ·subst hxy
    have hh:=aa (hit.out rfl)
    go_wp2_with fail
    go_ret
    exact⟨_,rfl,by rw[hh.out];simp,rfl⟩
   ·have hne:(x==y)=false:=by simpa using hxy
    have hne':Hid (y≠x):=aa fun e=>hxy e.symm
    clear hxy hit
    go_wp2_with fail
    go_round
    case rel=>
     refine⟨k+1,by omega,by go_num,aa fun j hj hjk=>?_⟩
     by_cases e:j=k
     ·subst e;rw[HY.out];exact hne'.out
     ·exact hno.out j hj (by omega)
    case measure=>simp[intOf];omega
  ·obtain rfl:k=n:=by omega
   have hh:Hid (zs.contains x=false):=aa (by
    rw[Bool.eq_false_iff,ne_eq,List.contains_iff_mem]
    intro hx
    obtain⟨j,hj,e⟩:=List.mem_iff_getElem.1 hx
    exact hno.out j hj (by have:=hn.out;omega) e)
   go_wp2_with fail
   go_ret
   exact⟨_,rfl,by rw[hh.out];rfl,rfl⟩
theorem jF (A:Option Addr) (n c:Nat) (zs:List Int) (x:Int) (B:Nat) (w:World) (hn:Hid (zs.length=n)) (hm:n<=4611686018427387904) (h:Hid (an w B A (bQ zs))) :
  Calls Tryz.prog 89 #[.slice A n c,.int .i64 x] w fun e w'=>e=.returned (.bool (zs.contains x))/\w=w':=by
 go_enter Tryz.func89,Tryz.ntmps89
 go_wp2_with fail
 refine(wU A n c zs x B _ hn hm h).mono ?_
 rintro e w' ⟨i,rfl,hi,rfl⟩
 have HI:=aa hi
 clear hi
 go_wp2_with fail
 go_ret
 exact⟨aw HI.out,rfl⟩
def pM (zs:List Int) (w:World) (e:Ending) (w':World):Prop:=∃(A:Option Addr) (c:Nat),e=.returned (.slice A zs.length c)/\an w' w'.heap.size A (bQ zs)/\Below w.heap.size w w'
theorem sZ (w:World) (x y z:Value) (t:TypeId) (B:Nat) (hB:B<=w.heap.size):(w.alloc (.cells #[x,y,z] t)).ownsRow B t 1 (.slice (some ⟨w.heap.size,0,none⟩) 3 3) 3 [x,y,z]:=
 ⟨rfl,.inr ⟨w.heap.size,3,#[x,y,z],rfl,hB,heap_alloc_new w _,by omega,by unfold maxLen;omega,rfl,rfl⟩⟩
theorem rc (w:World) (xs:List Value) (t:TypeId) (r:Array Value) {k:Nat} (hk:k=w.heap.size):an (w.alloc (.cells (xs.toArray++r) t)).drew (w.alloc (.cells (xs.toArray++r) t)).drew.heap.size (some ⟨k,0,none⟩) xs:=fun j u hj=>by
 subst hk
 refine⟨w.heap.size,0,rfl,by show w.heap.size<(w.alloc _).heap.size;simp,?_⟩
 show(w.alloc (.cells (xs.toArray++r) t)).cell? _=_
 have h:=(Row.new w t (xs++r.toList)).cell (k:=0+j) (v:=u) (by
  rw[Nat.zero_add]
  have hl:j<xs.length:=by
   rcases Nat.lt_or_ge j xs.length with h1|h1
   ·exact h1
   ·rw[List.getElem?_eq_none h1] at hj;cases hj
  rw[List.getElem?_append_left hl];exact hj)
 have e:(xs++r.toList).toArray=xs.toArray++r:=by simp
 rw[e] at h
 exact h
def muA (o:Int):Bool:=!decide ((ap o).1=0)
def muB (o:Int):Bool:=!decide ((ap o).2.1=0)
def muC (o:Int):Bool:=!decide ((ap o).2.2.1=0)
def muI (o:Int):Bool:=(ap o).2.2.2
def dK (o:Int):Bool:=decide (o=15)||decide (o=16)||decide (o=17)
def okM (N k n:Int):Bool:=if k=1 then ax n 8 else if k=4 then ax n N else true
def bM (N:Int) (x:Ins):Bool:=okM N (ap x.op).1 x.a&&(okM N (ap x.op).2.1 x.b&&okM N (ap x.op).2.2.1 x.c)
def ep (x:Ins):Bool:=(!muA x.op&&x.a !=0)||((!muB x.op&&x.b !=0)||((!muC x.op&&x.c !=0)||(!muI x.op&&x.imm !=0)))
def eo (C:Int) (x:Ins):Bool:=(decide (x.op=20)&&!ax x.a C)||(decide (x.op=21)&&!ax x.b C)
theorem nj {N C k n:Int}:aB N C k n=2↔k=0/\n≠0:=by
 unfold aB;(repeat' split)<;>simp_all
theorem l5 {N C k n:Int} (hk:0<=k/\k<=5):aB N C k n=4↔okM N k n=false:=by
 unfold aB okM;(repeat' split)<;>simp_all
theorem l6 {N C k n:Int}:aB N C k n=5↔k=3/\szB n=false:=by
 unfold aB;(repeat' split)<;>simp_all
theorem nk {N C k n:Int}:aB N C k n=6↔k=5/\ax n C=false:=by
 unfold aB;(repeat' split)<;>simp_all
theorem z6 (o:Int) (h0:0<=o) (h1:o<25):(0<=(ap o).1/\(ap o).1<=5)/\(0<=(ap o).2.1/\(ap o).2.1<=5)/\(0<=(ap o).2.2.1/\(ap o).2.2.1<=5)/\((ap o).1=5↔o=20)/\((ap o).2.1=5↔o=21)/\(ap o).2.2.1≠5/\(ap o).1≠3/\(ap o).2.1≠3/\((ap o).2.2.1=3↔dK o=true):=by
 have e:∀k:Fin 25,(0<=(ap (k.val:Int)).1/\(ap (k.val:Int)).1<=5)/\(0<=(ap (k.val:Int)).2.1/\(ap (k.val:Int)).2.1<=5)/\(0<=(ap (k.val:Int)).2.2.1/\(ap (k.val:Int)).2.2.1<=5)/\((ap (k.val:Int)).1=5↔(k.val:Int)=20)/\((ap (k.val:Int)).2.1=5↔(k.val:Int)=21)/\(ap (k.val:Int)).2.2.1≠5/\(ap (k.val:Int)).1≠3/\(ap (k.val:Int)).2.1≠3/\((ap (k.val:Int)).2.2.1=3↔dK (k.val:Int)=true):=by decide
 have:=e ⟨o.toNat,by omega⟩
 simp only at this
 rwa[Int.toNat_of_nonneg h0] at this
theorem nP {n:Int} (h:0<=n):a9 0 0 n=true:=by
 have hr:dY 0 0=true:=by decide
 unfold a9;rw[hr];simpa using h
theorem AC {P S:Int} {x:Ins} (hP:0<=P) (hS:0<=S):el P S x=false↔(rdB x.op&&!a9 (rdI x).1 (rdI x).2 (S+16*P))=true\/(wrB x.op&&!a9 (wrI x).1 (wrI x).2 S)=true:=by
 unfold el
 have h1:rdB x.op=false->a9 (rdI x).1 (rdI x).2 (S+16*P)=true:=fun h=>by
  rw[show rdI x=(0,0) by unfold rdI;simp[h]];exact nP (by omega)
 have h2:wrB x.op=false->a9 (wrI x).1 (wrI x).2 S=true:=fun h=>by
  rw[show wrI x=(0,0) by unfold wrI;simp[h]];exact nP hS
 cases hr:rdB x.op<;>cases hw:wrB x.op<;>cases hi:a9 (rdI x).1 (rdI x).2 (S+16*P)<;>cases hj:a9 (wrI x).1 (wrI x).2 S<;>simp_all
theorem fS {N:Nat} {f:Fm} {x:Ins} (he:exB x.op=true) (hP:0<=f.params) (hS:0<=f.size) :
  aC N f x=if ep x=true then 2 else if bM N x=false then 4 else if(dK x.op&&!szB x.c)=true then 5 else if(rdB x.op&&!a9 (rdI x).1 (rdI x).2 (f.size+16*f.params))=true then 4 else if(wrB x.op&&!a9 (wrI x).1 (wrI x).2 f.size)=true then 4 else if eo f.code.length x=true then 6 else 0:=by
 have ho:0<=x.op/\x.op<25:=by
  unfold exB at he
  simp only[Bool.and_eq_true] at he
  exact ai.1 he.1
 obtain⟨k1,k2,k3,t1,t2,t3,s1,s2,s3⟩:=z6 x.op ho.1 ho.2
 unfold aC
 rw[if_neg (by simp[he])]
 unfold eJ
 rw[jR (dQ _ _ _ _) (dQ _ _ _ _) (dQ _ _ _ _)]
 have c2:(aB N f.code.length (ap x.op).1 x.a=2\/aB N f.code.length (ap x.op).2.1 x.b=2\/aB N f.code.length (ap x.op).2.2.1 x.c=2\/((ap x.op).2.2.2=false/\x.imm≠0))↔ep x=true:=by
  rw[nj,nj,nj];unfold ep muA muB muC muI;simp
 have c4:(aB N f.code.length (ap x.op).1 x.a=4\/aB N f.code.length (ap x.op).2.1 x.b=4\/aB N f.code.length (ap x.op).2.2.1 x.c=4)↔bM N x=false:=by
  rw[l5 k1,l5 k2,l5 k3];unfold bM
  cases okM N (ap x.op).1 x.a<;>cases okM N (ap x.op).2.1 x.b<;>cases okM N (ap x.op).2.2.1 x.c<;>simp
 have c5:(aB N f.code.length (ap x.op).1 x.a=5\/aB N f.code.length (ap x.op).2.1 x.b=5\/aB N f.code.length (ap x.op).2.2.1 x.c=5)↔(dK x.op&&!szB x.c)=true:=by
  rw[l6,l6,l6,s3]
  constructor
  ·rintro(h|h|h)
   ·exact absurd h.1 s1
   ·exact absurd h.1 s2
   ·simp[h.1,h.2]
  ·intro h
   simp only[Bool.and_eq_true,Bool.not_eq_true'] at h
   exact .inr (.inr h)
 have c6:(aB N f.code.length (ap x.op).1 x.a=6\/aB N f.code.length (ap x.op).2.1 x.b=6\/aB N f.code.length (ap x.op).2.2.1 x.c=6)↔eo f.code.length x=true:=by
  rw[nk,nk,nk,t1,t2]
  unfold eo
  constructor
  ·rintro(h|h|h)
   ·simp[h.1,h.2]
   ·simp[h.1,h.2]
   ·exact absurd h.1 t3
  ·intro h
   simp only[Bool.or_eq_true,Bool.and_eq_true,decide_eq_true_eq,Bool.not_eq_true'] at h
   rcases h with h|h
   ·exact .inl h
   ·exact .inr (.inl h)
 have cv:=AC (x:=x) hP hS
 by_cases h2:ep x=true
 ·rw[if_pos (c2.2 h2),if_pos h2]
 ·rw[if_neg (fun h=>h2 (c2.1 h)),if_neg h2]
  by_cases h4:bM N x=false
  ·rw[if_pos (c4.2 h4),if_pos h4]
  ·rw[if_neg (fun h=>h4 (c4.1 h)),if_neg h4]
   by_cases h5:(dK x.op&&!szB x.c)=true
   ·rw[if_pos (c5.2 h5),if_pos h5]
   ·rw[if_neg (fun h=>h5 (c5.1 h)),if_neg h5]
    by_cases hr:(rdB x.op&&!a9 (rdI x).1 (rdI x).2 (f.size+16*f.params))=true
    ·rw[if_pos (cv.2 (.inl hr)),if_pos hr]
    ·rw[if_neg hr]
     by_cases hw:(wrB x.op&&!a9 (wrI x).1 (wrI x).2 f.size)=true
     ·rw[if_pos (cv.2 (.inr hw)),if_pos hw]
     ·rw[if_neg (fun h=>(cv.1 h).elim hr hw),if_neg hw]
      by_cases h6:eo f.code.length x=true
      ·rw[if_pos (c6.2 h6),if_pos h6]
      ·rw[if_neg (fun h=>h6 (c6.1 h)),if_neg h6]
def qR (op:Int):Bool:=!decide ((dC op).1=0)
def qQ (op:Int):Bool:=!decide ((dC op).2.1=0)
def qP (op:Int):Bool:=!decide ((dC op).2.2.1=0)
def qO (op:Int):Bool:=(dC op).2.2.2
theorem ry (op:Int) (w:World):Calls Tryz.prog 71 #[.int .i64 op] w fun e w'=>e=.returned (.bool (em op))/\w=w':=by
 by_cases h1:op=20
 ·subst h1
  go_enter Tryz.func71,Tryz.ntmps71
  go_wp2_with fail
  go_ret
  exact⟨rfl,rfl⟩
 ·by_cases h2:op=23
  ·subst h2
   go_enter Tryz.func71,Tryz.ntmps71
   go_wp2_with fail
   go_ret
   exact⟨rfl,rfl⟩
  ·have b1:(op==20)=false:=by simpa using h1
   have b2:(op==23)=false:=by simpa using h2
   have e:=aa (show em op=(op==24) by simp[em,b1,b2])
   clear h1 h2
   go_enter Tryz.func71,Tryz.ntmps71
   go_wp2_with fail
   go_ret
   exact⟨aw e.out.symm,rfl⟩
def ij (F:Pg) (n:Int) (x:Ins):Int:=if x.op=18 then max n (x.a+1) else if x.op=22 then max n (((F[x.a.toNat]?).map Fn.params).getD 0) else n
def bB (F:Pg) (l:List Ins):Int:=l.foldl (ij F) 0
theorem lc (F:Pg) (l:List Ins) (k:Nat) (hk:k<l.length):bB F (l.take (k+1))=ij F (bB F (l.take k)) l[k]:=by
 unfold bB
 rw[kQ hk,List.foldl_append];rfl
theorem kG {F:Pg} {n:Int} {x:Ins} (h:x.op=18):ij F n x=max n (x.a+1):=by unfold ij;rw[if_pos h]
theorem nZ {F:Pg} {n:Int} {x:Ins} {j:Nat} {g:Fn} (h:x.op=22) (ha:x.a=(j:Int)) (hg:F[j]?=some g):ij F n x=max n g.params:=by
 unfold ij;rw[if_neg (by omega),if_pos h,ha,Int.toNat_natCast,hg];rfl
theorem na {F:Pg} {n:Int} {x:Ins} (h:x.op≠18) (h2:x.op≠22):ij F n x=n:=by unfold ij;rw[if_neg h,if_neg h2]
def lD (F:Pg) (l:List Ins):Prop:=(∀x∈l,x.op=18->0<=x.a/\x.a<=7)/\(∀x∈l,x.op=22->0<=x.a/\x.a<F.length)/\∀g∈F,0<=g.params/\g.params<=8
theorem uV {F:Pg} {l:List Ins} {x:Ins} {n:Int} (h:lD F l) (hx:x∈l) (hn:0<=n/\n<=8):0<=ij F n x/\ij F n x<=8:=by
 by_cases h18:x.op=18
 ·rw[kG h18];have:=h.1 x hx h18;omega
 ·by_cases h22:x.op=22
  ·obtain⟨a0,a1⟩:=h.2.1 x hx h22
   obtain⟨j,hj⟩:=Int.eq_ofNat_of_zero_le a0
   have hl:j<F.length:=by omega
   rw[nZ h22 hj (List.getElem?_eq_getElem hl)]
   have:=h.2.2 F[j] (List.getElem_mem hl)
   omega
  ·rw[na h18 h22];exact hn
theorem ld {F:Pg} {l:List Ins} (h:lD F l) (k:Nat):0<=bB F (l.take k)/\bB F (l.take k)<=8:=by
 induction k with
 | zero=>simp[bB]
 | succ k ih=>
  rcases Nat.lt_or_ge k l.length with hk|hk
  ·rw[lc F l k hk];exact uV h (List.getElem_mem hk) ih
  ·rw[List.take_of_length_le (by omega)];rwa[List.take_of_length_le hk] at ih
def mm (s:List Int×Int) (u:Int×Int):List Int×Int:=(s.1++[upM s.2 u.2],upM s.2 u.2+u.1)
def aZ (a:Int) (l:List (Int×Int)):List Int×Int:=l.foldl mm ([],a)
theorem iS (a:Int) (l:List (Int×Int)) (k:Nat) (hk:k<l.length):aZ a (l.take (k+1))=mm (aZ a (l.take k)) l[k]:=by
 unfold aZ
 rw[kQ hk,List.foldl_append];rfl
theorem jp (a:Int) (l:List (Int×Int)) (k:Nat) (hk:k<=l.length):(aZ a (l.take k)).1.length=k:=by
 induction k with
 | zero=>simp[aZ]
 | succ k ih=>
  rw[iS a l k (by omega)]
  unfold mm
  simp[ih (by omega)]
theorem iF {n:Int} (h:szB n=true):1<=n/\n<=16:=by
 have:=of_decide_eq_true h
 omega
theorem jq {a:Int} {l:List (Int×Int)} (ha:0<=a/\a<=128) (hl:∀u∈l,cH u.1 u.2=true) (k:Nat) (hk:k<=l.length):a<=(aZ a (l.take k)).2/\(aZ a (l.take k)).2<=128+k*16777232:=by
 induction k with
 | zero=>simp[aZ];omega
 | succ k ih=>
  have ih:=ih (by omega)
  rw[iS a l k (by omega)]
  have hs:=hl _ (List.getElem_mem (show k<l.length by omega))
  unfold cH at hs
  simp only[Bool.and_eq_true] at hs
  have s:=iF hs.1
  have p:=ed hs.2
  have u:=fz (aZ a (l.take k)).2 (show 0<(l[k]'(by omega)).2 by omega)
  unfold mm
  simp only
  omega
theorem xh {a:Int} {l:List (Int×Int)} (ha:0<=a/\a<=128) (hl:∀u∈l,cH u.1 u.2=true) (k:Nat) (hk:k<=l.length):∀(j:Nat) (o:Int),(aZ a (l.take k)).1[j]?=some o->∃h:j<l.length,a<=o/\(l[j]'h).2∣o/\o+(l[j]'h).1<=(aZ a (l.take k)).2:=by
 induction k with
 | zero=>intro j o h;simp[aZ] at h
 | succ k ih=>
  intro j o h
  have hb:=jq ha hl k (by omega)
  have hs:=hl _ (List.getElem_mem (show k<l.length by omega))
  unfold cH at hs
  simp only[Bool.and_eq_true] at hs
  have s:=iF hs.1
  have p:=ed hs.2
  have u:=fz (aZ a (l.take k)).2 (show 0<(l[k]'(by omega)).2 by omega)
  rw[iS a l k (by omega)] at h⊢
  unfold mm at h⊢
  simp only at h⊢
  have hlen:=jp a l k (by omega)
  rcases Nat.lt_or_ge j k with hj|hj
  ·rw[List.getElem?_append_left (by omega)] at h
   obtain⟨h1,h2,h3,h4⟩:=ih (by omega) j o h
   exact⟨h1,h2,h3,by omega⟩
  ·rw[List.getElem?_append_right (by omega),hlen] at h
   rcases Nat.lt_or_ge (j-k) 1 with h1|h1
   ·obtain rfl:j=k:=by omega
    simp at h
    subst h
    exact⟨by omega,by omega,ja _ _,Int.le_refl _⟩
   ·rw[List.getElem?_eq_none (by simpa using h1)] at h;cases h
theorem qt {a b:Int} (h:b∣a):a % b=0:=Int.emod_eq_zero_of_dvd h
theorem Tryz.info3:(Tryz.prog.info? 3).map (fun i=>(i.zero,i.size,i.bytes))=some (some (.int .i64 0),1,8):=by kernel_rfl
section
variable {w w':World} {lo lo' B B' n c n' c' i:Nat} {A A':Option Addr} {hs:List Hd} {F:Pg} {h:Hd} {f:Fn}
theorem PgAt.set (H:PgAt w lo B A n c hs F) (hk:∀p:Addr,lo<=p.block->p.block<B->w'.cell? p=w.cell? p) (hB:B<=B') (hlo:lo'<=lo) (hcap:Cap A' n c') (hfar:Far lo' A') (hs':an w' B' A' (ef (hs.set i h))) (hh:HdAt w' lo' B' h f):PgAt w' lo' B' A' n c' (hs.set i h) (F.set i f):=by
 refine⟨by rw[List.length_set];exact H.len,hcap,hfar,hs',⟨by rw[List.length_set,List.length_set];exact H.hd.len,fun k h2 f2 e1 e2=>?_⟩⟩
 by_cases e:i=k
 ·subst e
  have l1:i<hs.length:=by
   rcases Nat.lt_or_ge i hs.length with h1|h1
   ·exact h1
   ·rw[List.getElem?_eq_none (by rw[List.length_set];exact h1)] at e1;cases e1
  have l2:i<F.length:=by rw[<-H.hd.len];exact l1
  rw[List.getElem?_set_self l1] at e1
  rw[List.getElem?_set_self l2] at e2
  injection e1 with e1
  injection e2 with e2
  subst e1 e2
  exact hh
 ·rw[List.getElem?_set_ne e] at e1 e2
  exact((H.hd.at_ k h2 f2 e1 e2).keep hk).more hB hlo
end
theorem Bb {ys:List Ins} {k:Nat} {x:Ins} (hx:ys[k]?=some x) (t:Int):(au ys).set (k*5) (.int .i64 t)=au (ys.set k ⟨t,x.a,x.b,x.c,x.imm⟩):=eh dx ys k x _ hx 0 (by omega) _ rfl
theorem xz {ys:List Ins} {k:Nat} {x:Ins} (hx:ys[k]?=some x) (t:Int):(au ys).set (k*5+1) (.int .i64 t)=au (ys.set k ⟨x.op,t,x.b,x.c,x.imm⟩):=eh dx ys k x _ hx 1 (by omega) _ rfl
theorem Ba {ys:List Ins} {k:Nat} {x:Ins} (hx:ys[k]?=some x) (t:Int):(au ys).set (k*5+2) (.int .i64 t)=au (ys.set k ⟨x.op,x.a,t,x.c,x.imm⟩):=eh dx ys k x _ hx 2 (by omega) _ rfl
theorem AZ {ys:List Ins} {k:Nat} {x:Ins} (hx:ys[k]?=some x) (t:Int):(au ys).set (k*5+3) (.int .i64 t)=au (ys.set k ⟨x.op,x.a,x.b,t,x.imm⟩):=eh dx ys k x _ hx 3 (by omega) _ rfl
theorem AY {ys:List Ins} {k:Nat} {x:Ins} (hx:ys[k]?=some x) (t:Int):(au ys).set (k*5+4) (.int .u64 t)=au (ys.set k ⟨x.op,x.a,x.b,x.c,t⟩):=eh dx ys k x _ hx 4 (by omega) _ rfl
theorem dX {w:World} {base G n c:Nat} {t:TypeId} {ys:List Ins} {k:Nat} {x:Ins} (h:w.ownsRow base t 5 (.slice (some ⟨G,0,none⟩) n c) n (au ys)) (hx:ys[k]?=some x) :
  (w.cell? ⟨G,k*5,none⟩=some (.int .i64 x.op)/\w.cell? ⟨G,k*5+1,none⟩=some (.int .i64 x.a)/\w.cell? ⟨G,k*5+2,none⟩=some (.int .i64 x.b)/\w.cell? ⟨G,k*5+3,none⟩=some (.int .i64 x.c)/\w.cell? ⟨G,k*5+4,none⟩=some (.int .u64 x.imm))/\∀j,w.frozen? ⟨G,j,none⟩=false:=by
 have g:=fun j hj=>fs dx ys k _ hx j hj
 have c':=fun j u (hu:(au ys)[j]?=some u)=>(by
  have:=h.cells (g:=G) rfl j u hu
  rwa[WideShapes.add_plain,Nat.zero_add] at this:w.cell? ⟨G,j,none⟩=some u)
 exact⟨⟨c' _ _ (g 0 (by omega)),c' _ _ (g 1 (by omega)),c' _ _ (g 2 (by omega)),c' _ _ (g 3 (by omega)),c' _ _ (g 4 (by omega))⟩,fun j=>h.frozenAt j⟩
def isW (v:Int):Prop:=0<=v/\v<=18446744073709551615
theorem vj (z:Int):isW (IntKind.u64.wrap z):=by
 simp only[isW,IntKind.wrap,IntKind.signed,IntKind.bits]
 simp
 omega
def xo (g:Nat) (w:World) (e:Ending) (w':World):Prop:=∃v:Int,e=.returned (.int .u64 v)/\isW v/\ar w' g/\w.grownBy w' (some g)/\w'.heap.size=w.heap.size
theorem iR (g:Nat) (w:World) (h:Hid (ar w g)):Calls Tryz.prog 17 #[.pointer (some ⟨g,0,none⟩)] w (xo g w):=by
 have c:=a6 g
 go_enter Tryz.func17,Tryz.ntmps17
 go_wp2_with fail
 refine(c 6 _ h (by omega) (by omega)).mono ?_
 rintro e w1 ⟨v,rfl,v0,v1,hC,hG,hz⟩
 have HC:=aa hC
 have HG:=aa hG
 have HZ:=aa hz
 clear hC hG hz
 rcases(show v=0\/v=1\/v=2\/3<=v by omega) with rfl|rfl|rfl|hv
 ·go_wp2_with fail
  refine(c 3 _ HC (by omega) (by omega)).mono ?_
  rintro e w2 ⟨u,rfl,u0,u1,hC2,hG2,hz2⟩
  have HC2:=aa hC2
  have HG2:=aa (HG.out.trans hG2)
  have HZ2:=aa (hz2.trans HZ.out)
  clear hC2 hG2 hz2
  go_wp2_with fail
  go_ret
  exact⟨_,rfl,⟨by omega,by omega⟩,HC2.out,HG2.out,HZ2.out⟩
 ·go_wp2_with fail
  refine(c 64 _ HC (by omega) (by omega)).mono ?_
  rintro e w2 ⟨u,rfl,u0,u1,hC2,hG2,hz2⟩
  have HC2:=aa hC2
  have HG2:=aa (HG.out.trans hG2)
  have HZ2:=aa (hz2.trans HZ.out)
  clear hC2 hG2 hz2
  go_wp2_with fail
  go_ret
  exact⟨_,rfl,vj _,HC2.out,HG2.out,HZ2.out⟩
 ·go_wp2_with fail
  go_ret
  exact⟨0,rfl,⟨by omega,by omega⟩,HC.out,HG.out,HZ.out⟩
 ·have b0:(v==0)=false:=by simp;omega
  have b1:(v==1)=false:=by simp;omega
  have b2:(v==2)=false:=by simp;omega
  go_wp2_with fail
  refine(c 256 _ HC (by omega) (by omega)).mono ?_
  rintro e w2 ⟨u,rfl,u0,u1,hC2,hG2,hz2⟩
  have HC2:=aa hC2
  have HG2:=aa (HG.out.trans hG2)
  have HZ2:=aa (hz2.trans HZ.out)
  clear hC2 hG2 hz2
  go_wp2_with fail
  go_ret
  exact⟨u,rfl,⟨by omega,by omega⟩,HC2.out,HG2.out,HZ2.out⟩
theorem xR (w:World) (x y:Value) (t:TypeId):∀(j:Nat) (u:Value),[x,y][j]?=some u->(w.alloc (.cells #[x,y] t)).cell? ((⟨w.heap.size,0,none⟩:Addr).add j)=some u:=by
 intro j u hu
 rw[WideShapes.add_plain,Nat.zero_add]
 exact(Row.new w t [x,y]).cell hu
theorem sU (x y:Int):∀u∈[Value.int .i64 x,Value.int .i64 y],u.oneCell'=true:=by
 intro u hu
 simp only[List.mem_cons,List.not_mem_nil,or_false] at hu
 rcases hu with rfl|rfl<;>rfl
def iD (ok:Int->Int->Bool) (w0:World) (g t m:Nat) (nv lv:Value) (wr:World):Prop:=
 ∃(k:Nat) (l:List (Int×Int)),k+l.length<=m/\nv=.int .i64 (k:Int)/\wr.ownsRow w0.heap.size t 2 lv l.length (bm l)/\(∀u∈l,ok u.1 u.2=true)/\ar wr g/\w0.grownBy wr (some g)
section
variable {w0 wr w2 w3:World} {g t:Nat} {lv v':Value} {l:List (Int×Int)}
theorem yy (ho:wr.ownsRow w0.heap.size t 2 lv l.length (bm l)) (hg:g<w0.heap.size):lv.ownBlock=none\/lv.ownBlock≠some g:=by
 cases e:lv.ownBlock with
 | none=>exact .inl rfl
 | some k=>exact .inr fun h=>by have:=(ho.lt k e).1;injection h with h;omega
theorem tQ (ho:wr.ownsRow w0.heap.size t 2 lv l.length (bm l)) (hg:g<w0.heap.size) (hG:wr.grownBy w2 (some g)):w2.ownsRow w0.heap.size t 2 lv l.length (bm l):=ho.kept hG (yy ho hg)
theorem iD.step {ok:Int->Int->Bool} {m k:Nat} {x y:Int} {e:TypeId} (hk:k+1+l.length<=m) (hg:g<w0.heap.size) (ho:w2.ownsRow w0.heap.size t 2 lv l.length (bm l)) (hok:∀u∈l,ok u.1 u.2=true) (hxy:ok x y=true) (hC:ar w2 g) (hG:w0.grownBy w2 (some g))
  (ho':w3.ownsRow w0.heap.size t 2 v' (l.length+1) (bm l++[.int .i64 x,.int .i64 y])) (hg':(w2.alloc (.cells #[.int .i64 x,.int .i64 y] e)).grownBy w3 lv.ownBlock) :
  iD ok w0 g t m (.int .i64 (k:Int)) v' w3:=by
 refine⟨k,l++[(x,y)],by simp;omega,rfl,?_,fun u hu=>?_,(hC.alloc _).kept hg' (fun j hj=>?_),(hG.trans (World.grownBy_alloc _ _ _)).andThen hg' (fun j hj=>.inl (ho.lt j hj).1)⟩
 ·rw[ob,rC]
  simpa using ho'
 ·rcases List.mem_append.1 hu with h|h
  ·exact hok u h
  ·simp at h;subst h;exact hxy
 ·have:=(ho.lt j hj).1
  omega
theorem iD.start {ok:Int->Int->Bool} {m k:Nat} (hk:k<=m) (hC:ar wr g) (hG:w0.grownBy wr (some g)):iD ok w0 g t m (.int .i64 (k:Int)) (.slice none 0 0) wr:=
 ⟨k,[],by simpa using hk,rfl,⟨by simp[bm],.inl ⟨rfl,rfl⟩⟩,(fun u hu=>by cases hu),hC,hG⟩
end
def xu (ok:Int->Int->Bool) (g t m:Nat) (w:World) (e:Ending) (w':World):Prop:=
 ∃(A:Option Addr) (c:Nat) (l:List (Int×Int)),e=.returned (.slice A l.length c)/\(A=none->c=0)/\w'.ownsRow w.heap.size t 2 (.slice A l.length c) l.length (bm l)/\l.length<=m/\(∀u∈l,ok u.1 u.2=true)/\ar w' g/\w.grownBy w' (some g)
theorem rX {N:Nat} {f f':Fn} {x:Ins} (hp:f.params=f'.params) (hs:f.slots=f'.slots) (hl:f.code.length=f'.code.length):eK N f x=eK N f' x:=by
 have h:∀k n,eE N f k n=eE N f' k n:=fun k n=>by unfold eE kE;rw[hp,hs,hl]
 unfold eK tT jb
 rw[h,h,h,hs]
theorem dN {N:Nat} {f:Fn} {op a b c m k1 k2 k3:Int} {im:Bool} (hs:dC op=(k1,k2,k3,im)) (ho:0<=op/\op<25) (ha:ax a (kE N f k1)=true) (hb:ax b (kE N f k2)=true) (hc:ax c (kE N f k3)=true) (hm:im=true\/m=0) (h17:op≠17\/bU f.slots a=bU f.slots b):eK N f ⟨op,a,b,c,m⟩=0:=by
 rw[jE]
 simp only[hs]
 refine⟨ho,fR.2 ha,fR.2 hb,fR.2 hc,hm,?_⟩
 unfold jb
 rcases h17 with h|h
 ·simp only[decide_eq_false h,Bool.false_and]
 ·simp only[h,decide_true,Bool.not_true,Bool.and_false]
def ph (x:Ins):Prop:=0<=x.imm/\x.imm<=18446744073709551615
def dF (N i:Nat) (P:Int) (l:List (Int×Int)) (x:Ins):Prop:=(x.op≠20/\x.op≠21/\x.op≠23/\x.op≠24/\ph x)/\(∀c,eK N ⟨P,l,c⟩ x=0)/\(x.op=22->(i:Int)<x.a)
def jg (N i:Nat) (P:Int) (l:List (Int×Int)) (x:Ins):Prop:=dF N i P l x\/(∃a,0<=a/\a<8/\x=⟨21,a,-1,0,0⟩)\/x=⟨20,-1,0,0,0⟩
section
variable {N i:Nat} {P:Int} {l:List (Int×Int)}
theorem eI {op a b c m:Int} (h:op≠20/\op≠21/\op≠23/\op≠24) (hi:∀d,eK N ⟨P,l,d⟩ ⟨op,a,b,c,m⟩=0) (hc:op=22->(i:Int)<a) (hm:0<=m/\m<=18446744073709551615:=by decide):dF N i P l ⟨op,a,b,c,m⟩:=⟨⟨h.1,h.2.1,h.2.2.1,h.2.2.2,hm⟩,hi,hc⟩
theorem w1:ax 0 1=true:=by decide
theorem mW {s r:Int} (s0:0<=s) (s1:s<l.length) (r0:0<=r) (r1:r<8):dF N i P l ⟨16,s,r,0,0⟩:=
 eI (by decide) (fun c=>dN (k1:=2) (k2:=1) (k3:=0) (im:=false) rfl ⟨by decide,by decide⟩ (ai.2 ⟨s0,s1⟩) (ai.2 ⟨r0,r1⟩) w1 (.inr rfl) (.inl (by decide))) (fun h=>absurd h (by decide))
theorem uz {s r:Int} (s0:0<=s) (s1:s<l.length) (r0:0<=r) (r1:r<8):dF N i P l ⟨15,r,s,0,0⟩:=
 eI (by decide) (fun c=>dN (k1:=1) (k2:=2) (k3:=0) (im:=false) rfl ⟨by decide,by decide⟩ (ai.2 ⟨r0,r1⟩) (ai.2 ⟨s0,s1⟩) w1 (.inr rfl) (.inl (by decide))) (fun h=>absurd h (by decide))
theorem uy {s r:Int} (s0:0<=s) (s1:s<l.length) (r0:0<=r) (r1:r<l.length) (he:bU l r=bU l s):dF N i P l ⟨17,r,s,0,0⟩:=
 eI (by decide) (fun c=>dN (k1:=2) (k2:=2) (k3:=0) (im:=false) rfl ⟨by decide,by decide⟩ (ai.2 ⟨r0,r1⟩) (ai.2 ⟨s0,s1⟩) w1 (.inr rfl) (.inr he)) (fun h=>absurd h (by decide))
theorem mX {r m:Int} (r0:0<=r) (r1:r<8) (hm:0<=m/\m<=18446744073709551615):dF N i P l ⟨0,r,0,0,m⟩:=
 eI (by decide) (fun c=>dN (k1:=1) (k2:=0) (k3:=0) (im:=true) rfl ⟨by decide,by decide⟩ (ai.2 ⟨r0,r1⟩) w1 w1 (.inl rfl) (.inl (by decide))) (fun h=>absurd h (by decide)) hm
theorem sf {v r x y:Int} (v0:0<=v) (v1:v<10) (r0:0<=r) (r1:r<8) (x0:0<=x) (x1:x<8) (y0:0<=y) (y1:y<8):dF N i P l ⟨2+v,r,x,y,0⟩:=by
 have hs:dC (2+v)=(1,1,1,false):=by
  rcases(show v=0\/v=1\/v=2\/v=3\/v=4\/v=5\/v=6\/v=7\/v=8\/v=9 by omega) with rfl|rfl|rfl|rfl|rfl|rfl|rfl|rfl|rfl|rfl<;>rfl
 exact⟨⟨by simp only;omega,by simp only;omega,by simp only;omega,by simp only;omega,(show(0:Int)<=0/\(0:Int)<=18446744073709551615 by decide)⟩,fun c=>dN hs ⟨by omega,by omega⟩ (ai.2 ⟨r0,r1⟩) (ai.2 ⟨x0,x1⟩) (ai.2 ⟨y0,y1⟩) (.inr rfl) (.inl (by omega)),fun h=>by simp only at h;omega⟩
theorem mf {r:Int} (r0:0<=r) (r1:r<8):dF N i P l ⟨14,r,0,0,0⟩:=
 eI (by decide) (fun c=>dN (k1:=1) (k2:=0) (k3:=0) (im:=false) rfl ⟨by decide,by decide⟩ (ai.2 ⟨r0,r1⟩) w1 w1 (.inr rfl) (.inl (by decide))) (fun h=>absurd h (by decide))
theorem yO {r:Int} (r0:0<=r) (r1:r<8):dF N i P l ⟨13,r,0,0,0⟩:=
 eI (by decide) (fun c=>dN (k1:=1) (k2:=0) (k3:=0) (im:=false) rfl ⟨by decide,by decide⟩ (ai.2 ⟨r0,r1⟩) w1 w1 (.inr rfl) (.inl (by decide))) (fun h=>absurd h (by decide))
theorem uA {r:Int} (r0:0<=r) (r1:r<8):dF N i P l ⟨12,r,0,0,0⟩:=
 eI (by decide) (fun c=>dN (k1:=1) (k2:=1) (k3:=0) (im:=false) rfl ⟨by decide,by decide⟩ (ai.2 ⟨r0,r1⟩) (show ax 0 8=true by decide) w1 (.inr rfl) (.inl (by decide))) (fun h=>absurd h (by decide))
theorem uB {r:Int} (r0:0<=r) (r1:r<8):dF N i P l ⟨1,r,0,0,0⟩:=
 eI (by decide) (fun c=>dN (k1:=1) (k2:=1) (k3:=0) (im:=false) rfl ⟨by decide,by decide⟩ (ai.2 ⟨r0,r1⟩) (show ax 0 8=true by decide) w1 (.inr rfl) (.inl (by decide))) (fun h=>absurd h (by decide))
theorem sg {r b:Int} (r0:0<=r) (r1:r<8) (b0:0<=b) (b1:b<P):dF N i P l ⟨19,r,b,0,0⟩:=
 eI (by decide) (fun c=>dN (k1:=1) (k2:=5) (k3:=0) (im:=false) rfl ⟨by decide,by decide⟩ (ai.2 ⟨r0,r1⟩) (ai.2 ⟨b0,b1⟩) w1 (.inr rfl) (.inl (by decide))) (fun h=>absurd h (by decide))
theorem wN {a b:Int} (a0:0<=a) (a1:a<8) (b0:0<=b) (b1:b<8):dF N i P l ⟨18,a,b,0,0⟩:=
 eI (by decide) (fun c=>dN (k1:=4) (k2:=1) (k3:=0) (im:=false) rfl ⟨by decide,by decide⟩ (ai.2 ⟨a0,a1⟩) (ai.2 ⟨b0,b1⟩) w1 (.inr rfl) (.inl (by decide))) (fun h=>absurd h (by decide))
theorem nS {j:Int} (j0:(i:Int)<j) (j1:j<N):dF N i P l ⟨22,j,0,0,0⟩:=
 eI (by decide) (fun c=>dN (k1:=3) (k2:=0) (k3:=0) (im:=false) rfl ⟨by decide,by decide⟩ (ai.2 ⟨by omega,j1⟩) w1 w1 (.inr rfl) (.inl (by decide))) (fun _=>j0)
theorem yK {f:Fn} {t:Int} (t0:0<=t) (t1:t<f.code.length):eK N f ⟨20,t,0,0,0⟩=0:=
 dN (k1:=6) (k2:=0) (k3:=0) (im:=false) rfl ⟨by decide,by decide⟩ (ai.2 ⟨t0,t1⟩) w1 w1 (.inr rfl) (.inl (by decide))
theorem uT {f:Fn} {a t:Int} (a0:0<=a) (a1:a<8) (t0:0<=t) (t1:t<f.code.length):eK N f ⟨21,a,t,0,0⟩=0:=
 dN (k1:=1) (k2:=6) (k3:=0) (im:=false) rfl ⟨by decide,by decide⟩ (ai.2 ⟨a0,a1⟩) (ai.2 ⟨t0,t1⟩) w1 (.inr rfl) (.inl (by decide))
theorem zQ {f:Fn}:eK N f ⟨23,0,0,0,0⟩=0:=dN (k1:=0) (k2:=0) (k3:=0) (im:=false) rfl ⟨by decide,by decide⟩ w1 w1 w1 (.inr rfl) (.inl (by decide))
theorem xS {f:Fn} {m:Int}:eK N f ⟨24,0,0,0,m⟩=0:=dN (k1:=0) (k2:=0) (k3:=0) (im:=true) rfl ⟨by decide,by decide⟩ w1 w1 w1 (.inl rfl) (.inl (by decide))
end
section
attribute [local go_sem ↓] Go.wp_at_zero Go.wp_at_succ
theorem km (n:Int) (w:World):Calls Tryz.prog 83 #[.int .i64 n] w fun e w'=>e=.returned (.bool (cR n))/\w=w':=by
 go_enter Tryz.func83,Tryz.ntmps83
 by_cases h:0<=n
 ·go_wp2
  go_ret
  exact⟨aw (by simp[cR,h]),rfl⟩
 ·go_wp2
  go_ret
  exact⟨aw (by simp[cR];omega),rfl⟩
theorem rf (o s:Int) (w:World):Calls Tryz.prog 84 #[pv o s] w fun e w'=>e=.returned (.bool (dY o s))/\Below w.heap.size w w':=by
 have c1:=km o
 have c2:=km s
 have hr:=aa (show dY o s=(cR o&&cR s&&decide (o+s<=2147483647)) from rfl)
 cases h1:cR o with
 | false=>
  rw[h1] at c1 hr
  clear h1
  go_enter Tryz.func84,Tryz.ntmps84
  go_wp2_with fail
  refine(c1 _).mono ?_
  rintro e w' ⟨rfl,rfl⟩
  go_wp2_with fail
  go_ret
  exact⟨aw (by rw[hr.out];simp),ag _ _⟩
 | true=>
  cases h2:cR s with
  | false=>
   rw[h1] at c1 hr
   rw[h2] at c2 hr
   clear h1 h2
   go_enter Tryz.func84,Tryz.ntmps84
   go_wp2_with fail
   refine(c1 _).mono ?_
   rintro e w' ⟨rfl,rfl⟩
   go_wp2_with fail
   refine(c2 _).mono ?_
   rintro e w' ⟨rfl,rfl⟩
   go_wp2_with fail
   go_ret
   exact⟨aw (by rw[hr.out];simp),ag _ _⟩
  | true=>
   obtain⟨x0,x1⟩:=gD.1 h1
   obtain⟨y0,y1⟩:=gD.1 h2
   rw[h1] at c1 hr
   rw[h2] at c2 hr
   clear h1 h2
   go_enter Tryz.func84,Tryz.ntmps84
   go_wp2_with fail
   refine(c1 _).mono ?_
   rintro e w' ⟨rfl,rfl⟩
   go_wp2_with fail
   refine(c2 _).mono ?_
   rintro e w' ⟨rfl,rfl⟩
   go_wp2_with fail
   go_ret
   exact⟨aw (by rw[hr.out];simp),ag _ _⟩
theorem cP (o s n:Int) (w:World):Calls Tryz.prog 57 #[pv o s,.int .i64 n] w fun e w'=>e=.returned (.bool (a9 o s n))/\Below w.heap.size w w':=by
 have c:=rf o s
 have r1:=Row.new w 127 [.int .i64 o,.int .i64 s]
 have f1:=r1.cell (k:=0) rfl
 have f2:=r1.cell (k:=1) rfl
 cases hr:dY o s with
 | false=>
  rw[hr] at c
  have ho:=aa (show a9 o s n=false by simp[a9,hr])
  clear hr r1
  go_enter Tryz.func57,Tryz.ntmps57
  go_wp2_with fail
  refine(c _).mono ?_
  rintro e w1 ⟨rfl,hb1⟩
  go_wp2_with fail
  go_ret
  exact⟨aw ho.out.symm,ac (ag _ _) hb1⟩
 | true=>
  rw[hr] at c
  have ho:=aa (show a9 o s n=decide (o+s<=n) by simp[a9,hr])
  obtain⟨b3,b4,b5⟩:=et.1 hr
  clear hr r1
  go_enter Tryz.func57,Tryz.ntmps57
  go_wp2_with fail
  refine(c _).mono ?_
  rintro e w1 ⟨rfl,hb1⟩
  have g1:=aD hb1 f1
  have g2:=aD hb1 f2
  go_wp2_with fail
  go_ret
  exact⟨aw ho.out.symm,ac (ag _ _) hb1⟩
end
theorem tB (P S:Int) (A:Option Addr) (n cp:Nat) (o a b c m:Int) (w:World) :
  Calls Tryz.prog 123 #[mv P S A n cp,iv o a b c m] w fun e w'=>e=.returned (.tuple #[pv (rdI ⟨o,a,b,c,m⟩).1 (rdI ⟨o,a,b,c,m⟩).2,.bool (rdB o)])/\Below w.heap.size w w':=by
 by_cases h1:o=15
 ·subst h1
  obtain⟨W,hW,hbW,hsW,r0,r1,r2⟩:=eM w [.int .i64 P,.int .i64 S,.slice A n cp] [.int .i64 15,.int .i64 a,.int .i64 b,.int .i64 c,.int .u64 m] [.int .i64 0,.int .i64 0] 53 50 127
  have HW:=aa hW
  have HB:=aa hbW
  have HS:=aa hsW
  have R:=aa r2
  have x0:=r1.cell (k:=0) rfl
  have x1:=r1.cell (k:=1) rfl
  have x2:=r1.cell (k:=2) rfl
  have x3:=r1.cell (k:=3) rfl
  have y0:=r2.free 0
  have y1:=r2.free 1
  have z0:=r2.cell (k:=0) rfl
  have z1:=r2.cell (k:=1) rfl
  clear hW hbW hsW r0 r1 r2
  go_enter Tryz.func123,Tryz.ntmps123
  go_upto_region 1 with(fail)
  rw[HW.out]
  clear HW
  go_wp2_with fail
  obtain⟨W7,hW7⟩:∃V,(W.setCell ⟨w.heap.size+1+1,0,none⟩ (.int .i64 b)).setCell ⟨w.heap.size+1+1,1,none⟩ (.int .i64 c)=V:=⟨_,rfl⟩
  have R7:Row W7 (w.heap.size+1+1) 127 [.int .i64 b,.int .i64 c]:=by rw[<-hW7];exact(R.out.set_ 0 _).set_ 1 _
  have B7:Below w.heap.size w W7:=by rw[<-hW7];exact(HB.out.setCell (p:=⟨w.heap.size+1+1,0,none⟩) (by simp;omega) _).setCell (p:=⟨w.heap.size+1+1,1,none⟩) (by simp;omega) _
  rw[hW7]
  have u0:=R7.cell (k:=0) rfl
  have u1:=R7.cell (k:=1) rfl
  refine bodyPost_ret (v:=.tuple #[pv b c,.bool true]) (by simp[results,Tryz.results123,go_sem,u0,u1]) rfl ?_
  exact⟨rfl,B7⟩
 ·by_cases h2:o=17
  ·subst h2
   obtain⟨W,hW,hbW,hsW,r0,r1,r2⟩:=eM w [.int .i64 P,.int .i64 S,.slice A n cp] [.int .i64 17,.int .i64 a,.int .i64 b,.int .i64 c,.int .u64 m] [.int .i64 0,.int .i64 0] 53 50 127
   have HW:=aa hW
   have HB:=aa hbW
   have HS:=aa hsW
   have R:=aa r2
   have x0:=r1.cell (k:=0) rfl
   have x1:=r1.cell (k:=1) rfl
   have x2:=r1.cell (k:=2) rfl
   have x3:=r1.cell (k:=3) rfl
   have y0:=r2.free 0
   have y1:=r2.free 1
   have z0:=r2.cell (k:=0) rfl
   have z1:=r2.cell (k:=1) rfl
   clear hW hbW hsW r0 r1 r2
   go_enter Tryz.func123,Tryz.ntmps123
   go_upto_region 1 with(fail)
   rw[HW.out]
   clear HW
   go_wp2_with fail
   obtain⟨W7,hW7⟩:∃V,(W.setCell ⟨w.heap.size+1+1,0,none⟩ (.int .i64 b)).setCell ⟨w.heap.size+1+1,1,none⟩ (.int .i64 c)=V:=⟨_,rfl⟩
   have R7:Row W7 (w.heap.size+1+1) 127 [.int .i64 b,.int .i64 c]:=by rw[<-hW7];exact(R.out.set_ 0 _).set_ 1 _
   have B7:Below w.heap.size w W7:=by rw[<-hW7];exact(HB.out.setCell (p:=⟨w.heap.size+1+1,0,none⟩) (by simp;omega) _).setCell (p:=⟨w.heap.size+1+1,1,none⟩) (by simp;omega) _
   rw[hW7]
   have u0:=R7.cell (k:=0) rfl
   have u1:=R7.cell (k:=1) rfl
   refine bodyPost_ret (v:=.tuple #[pv b c,.bool true]) (by simp[results,Tryz.results123,go_sem,u0,u1]) rfl ?_
   exact⟨rfl,B7⟩
  ·have b1:(o==15)=false:=by simpa using h1
   have b2:(o==17)=false:=by simpa using h2
   have d1:(o !=15)=true:=by simpa using h1
   have d2:(o !=17)=true:=by simpa using h2
   have e:=aa (show rdB o=false by simp[rdB,h1,h2])
   have e2:=aa (show rdI ⟨o,a,b,c,m⟩=(0,0) by unfold rdI;rw[show rdB (Ins.op ⟨o,a,b,c,m⟩)=false from e.out];rfl)
   clear h1 h2
   obtain⟨W,hW,hbW,hsW,r0,r1,r2⟩:=eM w [.int .i64 P,.int .i64 S,.slice A n cp] [.int .i64 o,.int .i64 a,.int .i64 b,.int .i64 c,.int .u64 m] [.int .i64 0,.int .i64 0] 53 50 127
   have HW:=aa hW
   have HB:=aa hbW
   have HS:=aa hsW
   have R:=aa r2
   have x0:=r1.cell (k:=0) rfl
   have x1:=r1.cell (k:=1) rfl
   have x2:=r1.cell (k:=2) rfl
   have x3:=r1.cell (k:=3) rfl
   have y0:=r2.free 0
   have y1:=r2.free 1
   have z0:=r2.cell (k:=0) rfl
   have z1:=r2.cell (k:=1) rfl
   clear hW hbW hsW r0 r1 r2
   go_enter Tryz.func123,Tryz.ntmps123
   go_upto_region 1 with(fail)
   rw[HW.out]
   clear HW
   go_wp2_with fail
   obtain⟨W7,hW7⟩:∃V,(W.setCell ⟨w.heap.size+1+1,0,none⟩ (.int .i64 0)).setCell ⟨w.heap.size+1+1,1,none⟩ (.int .i64 0)=V:=⟨_,rfl⟩
   have R7:Row W7 (w.heap.size+1+1) 127 [.int .i64 0,.int .i64 0]:=by rw[<-hW7];exact(R.out.set_ 0 _).set_ 1 _
   have B7:Below w.heap.size w W7:=by rw[<-hW7];exact(HB.out.setCell (p:=⟨w.heap.size+1+1,0,none⟩) (by simp;omega) _).setCell (p:=⟨w.heap.size+1+1,1,none⟩) (by simp;omega) _
   rw[hW7]
   have u0:=R7.cell (k:=0) rfl
   have u1:=R7.cell (k:=1) rfl
   refine bodyPost_ret (v:=.tuple #[pv 0 0,.bool false]) (by simp[results,Tryz.results123,go_sem,u0,u1]) rfl ?_
   exact⟨by rw[e.out,e2.out],B7⟩
theorem qK (P S:Int) (A:Option Addr) (n cp:Nat) (o a b c m:Int) (w:World) :
  Calls Tryz.prog 124 #[mv P S A n cp,iv o a b c m] w fun e w'=>e=.returned (.tuple #[pv (wrI ⟨o,a,b,c,m⟩).1 (wrI ⟨o,a,b,c,m⟩).2,.bool (wrB o)])/\Below w.heap.size w w':=by
 by_cases h1:o=16
 ·subst h1
  obtain⟨W,hW,hbW,hsW,r0,r1,r2⟩:=eM w [.int .i64 P,.int .i64 S,.slice A n cp] [.int .i64 16,.int .i64 a,.int .i64 b,.int .i64 c,.int .u64 m] [.int .i64 0,.int .i64 0] 53 50 127
  have HW:=aa hW
  have HB:=aa hbW
  have HS:=aa hsW
  have R:=aa r2
  have x0:=r1.cell (k:=0) rfl
  have x1:=r1.cell (k:=1) rfl
  have x2:=r1.cell (k:=2) rfl
  have x3:=r1.cell (k:=3) rfl
  have y0:=r2.free 0
  have y1:=r2.free 1
  have z0:=r2.cell (k:=0) rfl
  have z1:=r2.cell (k:=1) rfl
  clear hW hbW hsW r0 r1 r2
  go_enter Tryz.func124,Tryz.ntmps124
  go_upto_region 1 with(fail)
  rw[HW.out]
  clear HW
  go_wp2_with fail
  obtain⟨W7,hW7⟩:∃V,(W.setCell ⟨w.heap.size+1+1,0,none⟩ (.int .i64 a)).setCell ⟨w.heap.size+1+1,1,none⟩ (.int .i64 c)=V:=⟨_,rfl⟩
  have R7:Row W7 (w.heap.size+1+1) 127 [.int .i64 a,.int .i64 c]:=by rw[<-hW7];exact(R.out.set_ 0 _).set_ 1 _
  have B7:Below w.heap.size w W7:=by rw[<-hW7];exact(HB.out.setCell (p:=⟨w.heap.size+1+1,0,none⟩) (by simp;omega) _).setCell (p:=⟨w.heap.size+1+1,1,none⟩) (by simp;omega) _
  rw[hW7]
  have u0:=R7.cell (k:=0) rfl
  have u1:=R7.cell (k:=1) rfl
  refine bodyPost_ret (v:=.tuple #[pv a c,.bool true]) (by simp[results,Tryz.results124,go_sem,u0,u1]) rfl ?_
  exact⟨rfl,B7⟩
 ·by_cases h2:o=17
  ·subst h2
   obtain⟨W,hW,hbW,hsW,r0,r1,r2⟩:=eM w [.int .i64 P,.int .i64 S,.slice A n cp] [.int .i64 17,.int .i64 a,.int .i64 b,.int .i64 c,.int .u64 m] [.int .i64 0,.int .i64 0] 53 50 127
   have HW:=aa hW
   have HB:=aa hbW
   have HS:=aa hsW
   have R:=aa r2
   have x0:=r1.cell (k:=0) rfl
   have x1:=r1.cell (k:=1) rfl
   have x2:=r1.cell (k:=2) rfl
   have x3:=r1.cell (k:=3) rfl
   have y0:=r2.free 0
   have y1:=r2.free 1
   have z0:=r2.cell (k:=0) rfl
   have z1:=r2.cell (k:=1) rfl
   clear hW hbW hsW r0 r1 r2
   go_enter Tryz.func124,Tryz.ntmps124
   go_upto_region 1 with(fail)
   rw[HW.out]
   clear HW
   go_wp2_with fail
   obtain⟨W7,hW7⟩:∃V,(W.setCell ⟨w.heap.size+1+1,0,none⟩ (.int .i64 a)).setCell ⟨w.heap.size+1+1,1,none⟩ (.int .i64 c)=V:=⟨_,rfl⟩
   have R7:Row W7 (w.heap.size+1+1) 127 [.int .i64 a,.int .i64 c]:=by rw[<-hW7];exact(R.out.set_ 0 _).set_ 1 _
   have B7:Below w.heap.size w W7:=by rw[<-hW7];exact(HB.out.setCell (p:=⟨w.heap.size+1+1,0,none⟩) (by simp;omega) _).setCell (p:=⟨w.heap.size+1+1,1,none⟩) (by simp;omega) _
   rw[hW7]
   have u0:=R7.cell (k:=0) rfl
   have u1:=R7.cell (k:=1) rfl
   refine bodyPost_ret (v:=.tuple #[pv a c,.bool true]) (by simp[results,Tryz.results124,go_sem,u0,u1]) rfl ?_
   exact⟨rfl,B7⟩
  ·have b1:(o==16)=false:=by simpa using h1
   have b2:(o==17)=false:=by simpa using h2
   have d1:(o !=16)=true:=by simpa using h1
   have d2:(o !=17)=true:=by simpa using h2
   have e:=aa (show wrB o=false by simp[wrB,h1,h2])
   have e2:=aa (show wrI ⟨o,a,b,c,m⟩=(0,0) by unfold wrI;rw[show wrB (Ins.op ⟨o,a,b,c,m⟩)=false from e.out];rfl)
   clear h1 h2
   obtain⟨W,hW,hbW,hsW,r0,r1,r2⟩:=eM w [.int .i64 P,.int .i64 S,.slice A n cp] [.int .i64 o,.int .i64 a,.int .i64 b,.int .i64 c,.int .u64 m] [.int .i64 0,.int .i64 0] 53 50 127
   have HW:=aa hW
   have HB:=aa hbW
   have HS:=aa hsW
   have R:=aa r2
   have x0:=r1.cell (k:=0) rfl
   have x1:=r1.cell (k:=1) rfl
   have x2:=r1.cell (k:=2) rfl
   have x3:=r1.cell (k:=3) rfl
   have y0:=r2.free 0
   have y1:=r2.free 1
   have z0:=r2.cell (k:=0) rfl
   have z1:=r2.cell (k:=1) rfl
   clear hW hbW hsW r0 r1 r2
   go_enter Tryz.func124,Tryz.ntmps124
   go_upto_region 1 with(fail)
   rw[HW.out]
   clear HW
   go_wp2_with fail
   obtain⟨W7,hW7⟩:∃V,(W.setCell ⟨w.heap.size+1+1,0,none⟩ (.int .i64 0)).setCell ⟨w.heap.size+1+1,1,none⟩ (.int .i64 0)=V:=⟨_,rfl⟩
   have R7:Row W7 (w.heap.size+1+1) 127 [.int .i64 0,.int .i64 0]:=by rw[<-hW7];exact(R.out.set_ 0 _).set_ 1 _
   have B7:Below w.heap.size w W7:=by rw[<-hW7];exact(HB.out.setCell (p:=⟨w.heap.size+1+1,0,none⟩) (by simp;omega) _).setCell (p:=⟨w.heap.size+1+1,1,none⟩) (by simp;omega) _
   rw[hW7]
   have u0:=R7.cell (k:=0) rfl
   have u1:=R7.cell (k:=1) rfl
   refine bodyPost_ret (v:=.tuple #[pv 0 0,.bool false]) (by simp[results,Tryz.results124,go_sem,u0,u1]) rfl ?_
   exact⟨by rw[e.out,e2.out],B7⟩
theorem sr (P S:Int) (A:Option Addr) (n cp:Nat) (N:Int) (o a b d m:Int) (w:World) (hP:0<=P/\P<=8) (hS:0<=S/\S<=2147483519) :
  Calls Tryz.prog 90 #[xv P S A n cp N,iv o a b d m] w fun e w'=>e=.returned (.bool (el P S ⟨o,a,b,d,m⟩))/\Below w.heap.size w w':=by
 obtain⟨p0,p1⟩:=hP
 obtain⟨q0,q1⟩:=hS
 obtain⟨W2,hW2,hb2,hs2,r0,r1⟩:=fx w [.int .i64 P,.int .i64 S,.slice A n cp,.int .i64 N] [.int .i64 o,.int .i64 a,.int .i64 b,.int .i64 d,.int .u64 m] 130 50
 have HC:=aa (show el P S ⟨o,a,b,d,m⟩=(a9 (rdI ⟨o,a,b,d,m⟩).1 (rdI ⟨o,a,b,d,m⟩).2 (S+16*P)&&a9 (wrI ⟨o,a,b,d,m⟩).1 (wrI ⟨o,a,b,d,m⟩).2 S) from rfl)
 have c1:=tB P S A n cp o a b d m W2
 have c2:=fun W=>qK P S A n cp o a b d m W
 obtain⟨p,hp1⟩:∃p,rdI ⟨o,a,b,d,m⟩=p:=⟨_,rfl⟩
 obtain⟨q,hp2⟩:∃p,wrI ⟨o,a,b,d,m⟩=p:=⟨_,rfl⟩
 rw[hp1] at c1 HC
 rw[hp2] at c2 HC
 obtain⟨s1,s2⟩:=p
 obtain⟨t1,t2⟩:=q
 generalize rdB o=br at c1
 generalize wrB o=bw at c2
 obtain⟨cv,hcv⟩:∃v,el P S ⟨o,a,b,d,m⟩=v:=⟨_,rfl⟩
 rw[hcv] at HC⊢
 have HW2:=aa hW2
 have HB2:=aa hb2
 have HS2:=aa hs2
 have R0:=aa r0
 have R1:=aa r1
 have C2:=aa c2
 have x0:=r0.cell (k:=0) rfl
 have x1:=r0.cell (k:=1) rfl
 have x2:=r0.cell (k:=2) rfl
 have z0:=r1.cell (k:=0) rfl
 have z1:=r1.cell (k:=1) rfl
 have z2:=r1.cell (k:=2) rfl
 have z3:=r1.cell (k:=3) rfl
 have z4:=r1.cell (k:=4) rfl
 clear hW2 hb2 hs2 r0 r1 hp1 hp2 c2 hcv
 go_enter Tryz.func90,Tryz.ntmps90
 go_upto_region 1 with(fail)
 rw[HW2.out]
 clear HW2
 go_upto_region 2 with(go_at_call 123;refine c1.mono ?_;rintro e V1 ⟨rfl,hb0⟩)
 obtain⟨X1,hN⟩:∃V,V1.alloc (.cells #[.int .i64 s1,.int .i64 s2] 127)=V:=⟨_,rfl⟩
 have R3:=aa (show Row X1 w.heap.size 130 [.int .i64 P,.int .i64 S,.slice A n cp,.int .i64 N] by rw[<-hN];exact(R0.out.call hb0).alloc _)
 have R4:=aa (show Row X1 (w.heap.size+1) 50 [.int .i64 o,.int .i64 a,.int .i64 b,.int .i64 d,.int .u64 m] by rw[<-hN];exact(R1.out.call hb0).alloc _)
 have R5:=aa (show Row X1 V1.heap.size 127 [.int .i64 s1,.int .i64 s2] by rw[<-hN];exact Row.new V1 _ _)
 have HB3:=aa (show Below w.heap.size w X1 by rw[<-hN];have h:=ac HB2.out hb0;exact h.alloc h.size _)
 rw[hN]
 obtain⟨g,hg⟩:∃g,V1.heap.size=g:=⟨_,rfl⟩
 rw[hg] at R5⊢
 clear hN hg hb0 c1 x0 x1 x2 z0 z1 z2 z3 z4 R0 R1 HB2 HS2
 have x0:=R3.out.cell (k:=0) rfl
 have x1:=R3.out.cell (k:=1) rfl
 have x2:=R3.out.cell (k:=2) rfl
 have z0:=R4.out.cell (k:=0) rfl
 have z1:=R4.out.cell (k:=1) rfl
 have z2:=R4.out.cell (k:=2) rfl
 have z3:=R4.out.cell (k:=3) rfl
 have z4:=R4.out.cell (k:=4) rfl
 go_upto_region 3 with(go_at_call 124;refine(C2.out _).mono ?_;rintro e V2 ⟨rfl,hb0⟩)
 obtain⟨X2,hN⟩:∃V,V2.alloc (.cells #[.int .i64 t1,.int .i64 t2] 127)=V:=⟨_,rfl⟩
 have R6:=aa (show Row X2 w.heap.size 130 [.int .i64 P,.int .i64 S,.slice A n cp,.int .i64 N] by rw[<-hN];exact(R3.out.call hb0).alloc _)
 have R7:=aa (show Row X2 g 127 [.int .i64 s1,.int .i64 s2] by rw[<-hN];exact(R5.out.call hb0).alloc _)
 have R8:=aa (show Row X2 V2.heap.size 127 [.int .i64 t1,.int .i64 t2] by rw[<-hN];exact Row.new V2 _ _)
 have HB4:=aa (show Below w.heap.size w X2 by rw[<-hN];have h:=ac HB3.out hb0;exact h.alloc h.size _)
 rw[hN]
 obtain⟨g2,hg⟩:∃g,V2.heap.size=g:=⟨_,rfl⟩
 rw[hg] at R8⊢
 clear hN hg hb0 x0 x1 x2 z0 z1 z2 z3 z4 R3 R4 R5 HB3
 have x0:=R6.out.cell (k:=0) rfl
 have x1:=R6.out.cell (k:=1) rfl
 have u0:=R7.out.cell (k:=0) rfl
 have u1:=R7.out.cell (k:=1) rfl
 have c3:=kx s1 s2 (S+16*P) X2
 have c4:=fun W=>kx t1 t2 S W
 obtain⟨b1,hb1⟩:∃v,a9 s1 s2 (S+16*P)=v:=⟨_,rfl⟩
 obtain⟨b2,hb2⟩:∃v,a9 t1 t2 S=v:=⟨_,rfl⟩
 have HV:=aa (show cv=(b1&&b2) by rw[HC.out,<-hb1,<-hb2])
 rw[hb1] at c3
 rw[hb2] at c4
 have C4:=aa c4
 clear hb1 hb2 HC c4
 cases b1 with
 | false=>
  go_wp2_with fail
  refine c3.mono ?_
  rintro e V3 ⟨rfl,hb3⟩
  go_wp2_with fail
  go_ret
  exact⟨aw HV.out.symm,ac HB4.out hb3⟩
 | true=>
  go_wp2_with fail
  refine c3.mono ?_
  rintro e V3 ⟨rfl,hb3⟩
  have R9:=R6.out.call hb3
  have R10:=R8.out.call hb3
  have HB5:=aa (ac HB4.out hb3)
  clear hb3 x0 x1 u0 u1 c3 R6 R7 R8 HB4
  have x1:=R9.cell (k:=1) rfl
  have u0:=R10.cell (k:=0) rfl
  have u1:=R10.cell (k:=1) rfl
  clear R9 R10
  go_wp2_with fail
  refine(C4.out _).mono ?_
  rintro e V4 ⟨rfl,hb4⟩
  go_wp2_with fail
  go_ret
  exact⟨aw (by rw[HV.out];cases b2<;>rfl),ac HB5.out hb4⟩
end Go.Proofs.YtjbgepjdohfhkaaGreat
