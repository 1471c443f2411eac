/- The contract of the reference's Operands (chapter 5): which operands an operation uses. Condition: the operation is one of the 25. -/
import Derived.Test.YtjbgepjdohfhkaaGreatMEpow
set_option linter.unusedVariables false
set_option linter.unusedSimpArgs false
set_option maxHeartbeats 4000000
namespace Go.Proofs.YtjbgepjdohfhkaaGreat
open Go.RowKit
theorem vG (op:Int) (w:World) (h0:0<=op) (h1:op<25) :
  Calls Tryz.prog 132 #[.int .i64 op] w fun e w'=>e=.returned (.tuple #[.bool (qR op),.bool (qQ op),.bool (qP op),.bool (qO op)])/\w=w':=by
 have hc:op=0\/op=1\/op=2\/op=3\/op=4\/op=5\/op=6\/op=7\/op=8\/op=9\/op=10\/op=11\/op=12\/op=13\/op=14\/op=15\/op=16\/op=17\/op=18\/op=19\/op=20\/op=21\/op=22\/op=23\/op=24:=by omega
 clear h0 h1
 rcases hc with rfl|rfl|rfl|rfl|rfl|rfl|rfl|rfl|rfl|rfl|rfl|rfl|rfl|rfl|rfl|rfl|rfl|rfl|rfl|rfl|rfl|rfl|rfl|rfl|rfl
 all_goals
  go_enter Tryz.func132,Tryz.ntmps132
  go_wp2
  refine bodyPost_ret (by simp[results,Tryz.results132,go_sem];decide) rfl ⟨rfl,rfl⟩
theorem az (n m:Int) (w:World):Calls Tryz.prog 68 #[.int .i64 n,.int .i64 m] w fun e w'=>e=.returned (.bool (ax n m))/\w=w':=by
 by_cases h:0<=n
 ·go_enter Tryz.func68,Tryz.ntmps68
  go_wp2_with fail
  go_ret
  exact⟨aw (by simp[ax,h]),rfl⟩
 ·have hd:decide (0<=n)=false:=by simpa using h
  go_enter Tryz.func68,Tryz.ntmps68
  go_wp2_with fail
  go_ret
  exact⟨aw (by simp[ax,hd]),rfl⟩
theorem eQ (o:Int) (w:World):Calls Tryz.prog 107 #[.int .i64 o] w fun e w'=>e=.returned (.bool (dK o))/\w=w':=by
 by_cases h1:o=15
 ·subst h1
  go_enter Tryz.func107,Tryz.ntmps107
  go_wp2_with fail
  go_ret
  exact⟨rfl,rfl⟩
 ·by_cases h2:o=16
  ·subst h2
   go_enter Tryz.func107,Tryz.ntmps107
   go_wp2_with fail
   go_ret
   exact⟨rfl,rfl⟩
  ·have b1:(o==15)=false:=by simpa using h1
   have b2:(o==16)=false:=by simpa using h2
   have HE:=aa (show dK o=(o==17) by unfold dK;rw[decide_eq_false h1,decide_eq_false h2];by_cases h:o=17<;>simp[h])
   clear h1 h2
   go_enter Tryz.func107,Tryz.ntmps107
   go_wp2_with fail
   go_ret
   exact⟨aw HE.out.symm,rfl⟩
theorem zY (o:Int) (h0:0<=o) (h1:o<25) (hm:dK o=false) (hx:exB o=true):muA o=qR o/\muB o=qQ o/\muC o=qP o/\muI o=qO o:=by
 have e:∀k:Fin 25,dK (k.val:Int)=false->exB (k.val:Int)=true->muA (k.val:Int)=qR (k.val:Int)/\muB (k.val:Int)=qQ (k.val:Int)/\muC (k.val:Int)=qP (k.val:Int)/\muI (k.val:Int)=qO (k.val:Int):=by decide
 have:=e ⟨o.toNat,by omega⟩
 simp only at this
 rw[Int.toNat_of_nonneg h0] at this
 exact this hm hx
theorem zZ (o:Int) (h0:0<=o) (h1:o<25) (hm:dK o=true):muA o=true/\muB o=true/\muC o=true/\muI o=false:=by
 have e:∀k:Fin 25,dK (k.val:Int)=true->muA (k.val:Int)=true/\muB (k.val:Int)=true/\muC (k.val:Int)=true/\muI (k.val:Int)=false:=by decide
 have:=e ⟨o.toNat,by omega⟩
 simp only at this
 rw[Int.toNat_of_nonneg h0] at this
 exact this hm
theorem gH (o:Int) (w:World) (h0:0<=o) (h1:o<25) (hx:exB o=true):Calls Tryz.prog 105 #[.int .i64 o] w fun e w'=>e=.returned (.tuple #[.bool (muA o),.bool (muB o),.bool (muC o),.bool (muI o)])/\w=w':=by
 have cm:=eQ o
 have cu:=vG o
 cases hm:dK o with
 | true=>
  obtain⟨e1,e2,e3,e4⟩:=zZ o h0 h1 hm
  rw[hm] at cm
  rw[e1,e2,e3,e4]
  clear e1 e2 e3 e4 hm
  go_enter Tryz.func105,Tryz.ntmps105
  go_wp2_with fail
  refine(cm _).mono ?_
  rintro e w' ⟨rfl,rfl⟩
  go_wp2_with fail
  refine bodyPost_ret (v:=.tuple #[.bool true,.bool true,.bool true,.bool false]) (by simp[results,Tryz.results105,go_sem];first|done|decide) rfl ⟨rfl,rfl⟩
 | false=>
  obtain⟨e1,e2,e3,e4⟩:=zY o h0 h1 hm hx
  rw[hm] at cm
  rw[e1,e2,e3,e4]
  have CU:=aa (fun w=>cu w h0 h1)
  generalize qR o=ua at CU⊢
  generalize qQ o=ub at CU⊢
  generalize qP o=uc at CU⊢
  generalize qO o=ui at CU⊢
  clear e1 e2 e3 e4 hm cu
  go_enter Tryz.func105,Tryz.ntmps105
  go_wp2_with fail
  refine(cm _).mono ?_
  rintro e w' ⟨rfl,rfl⟩
  go_wp2_with fail
  refine(CU.out _).mono ?_
  rintro e w' ⟨rfl,rfl⟩
  go_wp2_with fail
  refine bodyPost_ret (v:=.tuple #[.bool ua,.bool ub,.bool uc,.bool ui]) (by simp[results,Tryz.results105,go_sem];first|done|decide) rfl ⟨rfl,rfl⟩
theorem dv (Al:Int) (A:Option Addr) (n c:Nat) (P S:Int) (A1:Option Addr) (n1 c1:Nat) (f:Fm) (w:World) (hf:Hid (f.params=P/\f.size=S)) :
  Calls Tryz.prog 69 #[tv Al A n c,mv P S A1 n1 c1] w fun e w'=>e=.returned (.bool (shB Al f))/\Below w.heap.size w w':=by
 have HE:=aa (show shB Al f=(aR Al&&(ax P 9&&(ax S 2147483520&&decide (S % Al=0)))) by unfold shB;rw[hf.out.1,hf.out.2])
 have cp:=gZ Al
 cases h1:aR Al with
 | false=>
  rw[h1] at cp HE
  clear h1
  go_enter Tryz.func69,Tryz.ntmps69
  go_wp2_with fail
  refine(cp _).mono ?_
  rintro e w' ⟨rfl,rfl⟩
  go_wp2_with fail
  go_ret
  exact⟨aw (by rw[HE.out];rfl),aP _ _ _⟩
 | true=>
  rw[h1] at cp HE
  obtain⟨a0,a1⟩:=ed h1
  have hane:(Al==0)=false:=by simp;omega
  clear h1
  by_cases g4:0<=P
  rotate_left
  ·have hd:decide (0<=P)=false:=decide_eq_false g4
   have HR:=aa (show shB Al f=false by rw[HE.out,fZ.2 (by omega:¬(0<=P/\P<9))];rfl)
   clear HE
   go_enter Tryz.func69,Tryz.ntmps69
   go_wp2_with fail
   refine(cp _).mono ?_
   rintro e w' ⟨rfl,rfl⟩
   go_wp2_with fail
   go_ret
   exact⟨aw HR.out.symm,aP _ _ _⟩
  by_cases g5:P<=8
  rotate_left
  ·have hd:decide (P<=8)=false:=decide_eq_false g5
   have HR:=aa (show shB Al f=false by rw[HE.out,fZ.2 (by omega:¬(0<=P/\P<9))];rfl)
   clear HE
   go_enter Tryz.func69,Tryz.ntmps69
   go_wp2_with fail
   refine(cp _).mono ?_
   rintro e w' ⟨rfl,rfl⟩
   go_wp2_with fail
   go_ret
   exact⟨aw HR.out.symm,aP _ _ _⟩
  by_cases g6:0<=S
  rotate_left
  ·have hd:decide (0<=S)=false:=decide_eq_false g6
   have HR:=aa (show shB Al f=false by rw[HE.out,fZ.2 (by omega:¬(0<=S/\S<2147483520))];simp)
   clear HE
   go_enter Tryz.func69,Tryz.ntmps69
   go_wp2_with fail
   refine(cp _).mono ?_
   rintro e w' ⟨rfl,rfl⟩
   go_wp2_with fail
   go_ret
   exact⟨aw HR.out.symm,aP _ _ _⟩
  by_cases g7:S<=2147483519
  rotate_left
  ·have hd:decide (S<=2147483519)=false:=decide_eq_false g7
   have HR:=aa (show shB Al f=false by rw[HE.out,fZ.2 (by omega:¬(0<=S/\S<2147483520))];simp)
   clear HE
   go_enter Tryz.func69,Tryz.ntmps69
   go_wp2_with fail
   refine(cp _).mono ?_
   rintro e w' ⟨rfl,rfl⟩
   go_wp2_with fail
   go_ret
   exact⟨aw HR.out.symm,aP _ _ _⟩
  have HR:=aa (show shB Al f=decide (S % Al=0) by rw[HE.out,ai.2 (by omega:0<=P/\P<9),ai.2 (by omega:0<=S/\S<2147483520)];rfl)
  have m0:=Int.emod_nonneg S (show Al≠0 by omega)
  have m1:=Int.emod_lt_of_pos S (show 0<Al by omega)
  go_enter Tryz.func69,Tryz.ntmps69
  go_wp2_with fail
  refine(cp _).mono ?_
  rintro e w' ⟨rfl,rfl⟩
  go_wp2_with fail
  go_ret
  exact⟨aw (by rw[HR.out];by_cases h:S % Al=0<;>simp[h]),aP _ _ _⟩
theorem rK (N n:Int):okM N 0 n=true:=rfl
theorem ng (N n:Int):okM N 1 n=ax n 8:=rfl
theorem zU (N n:Int):okM N 2 n=true:=rfl
theorem zT (N n:Int):okM N 3 n=true:=rfl
theorem Br (N n:Int):okM N 4 n=ax n N:=rfl
theorem Bq (N n:Int):okM N 5 n=true:=rfl
theorem fp {N o a b d m k1 k2 k3:Int} {im:Bool} (h:ap o=(k1,k2,k3,im)):bM N ⟨o,a,b,d,m⟩=(okM N k1 a&&(okM N k2 b&&okM N k3 d)):=by unfold bM;rw[h]
theorem zP (Al:Int) (A:Option Addr) (n c:Nat) (o a b d m:Int) (w:World) (ho:o=0\/o=13\/o=14) :
  Calls Tryz.prog 106 #[tv Al A n c,iv o a b d m] w fun e w'=>e=.returned (.bool (bM n ⟨o,a,b,d,m⟩))/\Below w.heap.size w w':=by
 have c0:=fun W=>az a 8 W
 obtain⟨q0,hq0⟩:∃q,ax a 8=q:=⟨_,rfl⟩
 rw[hq0] at c0
 have HN:Hid (bM n ⟨o,a,b,d,m⟩=(q0)):=by
  show bM n ⟨o,a,b,d,m⟩=_
  have hs:ap o=(1,0,0,(ap o).2.2.2):=by rcases ho with rfl|rfl|rfl<;>rfl
  rw[fp hs]
  simp only[rK,ng,hq0,Bool.true_and,Bool.and_true]
 rw[HN.out]
 clear HN hq0
 rcases ho with rfl|rfl|rfl
 all_goals
  go_enter Tryz.func106,Tryz.ntmps106
  go_wp2_with fail
  refine(c0 _).mono ?_
  rintro e w' ⟨rfl,rfl⟩
  go_wp2_with fail
  go_ret
  exact⟨rfl,aP _ _ _⟩
theorem yi (Al:Int) (A:Option Addr) (n c:Nat) (o a b d m:Int) (w:World) (ho:o=15) :
  Calls Tryz.prog 106 #[tv Al A n c,iv o a b d m] w fun e w'=>e=.returned (.bool (bM n ⟨o,a,b,d,m⟩))/\Below w.heap.size w w':=by
 have c0:=fun W=>az a 8 W
 obtain⟨q0,hq0⟩:∃q,ax a 8=q:=⟨_,rfl⟩
 rw[hq0] at c0
 have HN:Hid (bM n ⟨o,a,b,d,m⟩=(q0)):=by
  show bM n ⟨o,a,b,d,m⟩=_
  have hs:ap o=(1,2,3,(ap o).2.2.2):=by rcases ho with rfl<;>rfl
  rw[fp hs]
  simp only[ng,zU,zT,hq0,Bool.true_and,Bool.and_true]
 rw[HN.out]
 clear HN hq0
 rcases ho with rfl
 all_goals
  go_enter Tryz.func106,Tryz.ntmps106
  go_wp2_with fail
  refine(c0 _).mono ?_
  rintro e w' ⟨rfl,rfl⟩
  go_wp2_with fail
  go_ret
  exact⟨rfl,aP _ _ _⟩
theorem yl (Al:Int) (A:Option Addr) (n c:Nat) (o a b d m:Int) (w:World) (ho:o=21) :
  Calls Tryz.prog 106 #[tv Al A n c,iv o a b d m] w fun e w'=>e=.returned (.bool (bM n ⟨o,a,b,d,m⟩))/\Below w.heap.size w w':=by
 have c0:=fun W=>az a 8 W
 obtain⟨q0,hq0⟩:∃q,ax a 8=q:=⟨_,rfl⟩
 rw[hq0] at c0
 have HN:Hid (bM n ⟨o,a,b,d,m⟩=(q0)):=by
  show bM n ⟨o,a,b,d,m⟩=_
  have hs:ap o=(1,5,0,(ap o).2.2.2):=by rcases ho with rfl<;>rfl
  rw[fp hs]
  simp only[rK,ng,Bq,hq0,Bool.true_and,Bool.and_true]
 rw[HN.out]
 clear HN hq0
 rcases ho with rfl
 all_goals
  go_enter Tryz.func106,Tryz.ntmps106
  go_wp2_with fail
  refine(c0 _).mono ?_
  rintro e w' ⟨rfl,rfl⟩
  go_wp2_with fail
  go_ret
  exact⟨rfl,aP _ _ _⟩
theorem ym (Al:Int) (A:Option Addr) (n c:Nat) (o a b d m:Int) (w:World) (ho:o=1\/o=12) :
  Calls Tryz.prog 106 #[tv Al A n c,iv o a b d m] w fun e w'=>e=.returned (.bool (bM n ⟨o,a,b,d,m⟩))/\Below w.heap.size w w':=by
 have c0:=fun W=>az a 8 W
 obtain⟨q0,hq0⟩:∃q,ax a 8=q:=⟨_,rfl⟩
 rw[hq0] at c0
 have c1:=fun W=>az b 8 W
 obtain⟨q1,hq1⟩:∃q,ax b 8=q:=⟨_,rfl⟩
 rw[hq1] at c1
 have HN:Hid (bM n ⟨o,a,b,d,m⟩=(q0&&q1)):=by
  show bM n ⟨o,a,b,d,m⟩=_
  have hs:ap o=(1,1,0,(ap o).2.2.2):=by rcases ho with rfl|rfl<;>rfl
  rw[fp hs]
  simp only[rK,ng,hq0,hq1,Bool.true_and,Bool.and_true]
 rw[HN.out]
 clear HN hq0 hq1
 rcases ho with rfl|rfl
 all_goals
  go_enter Tryz.func106,Tryz.ntmps106
  go_wp2_with fail
  refine(c0 _).mono ?_
  rintro e w' ⟨rfl,rfl⟩
  cases q0
  ·go_wp2_with fail
   go_ret
   exact⟨rfl,aP _ _ _⟩
  ·go_wp2_with fail
   refine(c1 _).mono ?_
   rintro e w' ⟨rfl,rfl⟩
   go_wp2_with fail
   go_ret
   exact⟨rfl,aP _ _ _⟩
theorem vH (Al:Int) (A:Option Addr) (n c:Nat) (o a b d m:Int) (w:World) (ho:o=2\/o=3\/o=4\/o=5\/o=6\/o=7\/o=8\/o=9\/o=10\/o=11) :
  Calls Tryz.prog 106 #[tv Al A n c,iv o a b d m] w fun e w'=>e=.returned (.bool (bM n ⟨o,a,b,d,m⟩))/\Below w.heap.size w w':=by
 have c0:=fun W=>az a 8 W
 obtain⟨q0,hq0⟩:∃q,ax a 8=q:=⟨_,rfl⟩
 rw[hq0] at c0
 have c1:=fun W=>az b 8 W
 obtain⟨q1,hq1⟩:∃q,ax b 8=q:=⟨_,rfl⟩
 rw[hq1] at c1
 have c2:=fun W=>az d 8 W
 obtain⟨q2,hq2⟩:∃q,ax d 8=q:=⟨_,rfl⟩
 rw[hq2] at c2
 have HN:Hid (bM n ⟨o,a,b,d,m⟩=(q0&&(q1&&q2))):=by
  show bM n ⟨o,a,b,d,m⟩=_
  have hs:ap o=(1,1,1,(ap o).2.2.2):=by rcases ho with rfl|rfl|rfl|rfl|rfl|rfl|rfl|rfl|rfl|rfl<;>rfl
  rw[fp hs]
  simp only[ng,hq0,hq1,hq2,Bool.true_and,Bool.and_true]
 rw[HN.out]
 clear HN hq0 hq1 hq2
 rcases ho with rfl|rfl|rfl|rfl|rfl|rfl|rfl|rfl|rfl|rfl
 all_goals
  go_enter Tryz.func106,Tryz.ntmps106
  go_wp2_with fail
  refine(c0 _).mono ?_
  rintro e w' ⟨rfl,rfl⟩
  cases q0
  ·go_wp2_with fail
   go_ret
   exact⟨rfl,aP _ _ _⟩
  ·go_wp2_with fail
   refine(c1 _).mono ?_
   rintro e w' ⟨rfl,rfl⟩
   cases q1
   ·go_wp2_with fail
    go_ret
    exact⟨rfl,aP _ _ _⟩
   ·go_wp2_with fail
    refine(c2 _).mono ?_
    rintro e w' ⟨rfl,rfl⟩
    go_wp2_with fail
    go_ret
    exact⟨rfl,aP _ _ _⟩
theorem yf (Al:Int) (A:Option Addr) (n c:Nat) (o a b d m:Int) (w:World) (ho:o=16) :
  Calls Tryz.prog 106 #[tv Al A n c,iv o a b d m] w fun e w'=>e=.returned (.bool (bM n ⟨o,a,b,d,m⟩))/\Below w.heap.size w w':=by
 have c0:=fun W=>az b 8 W
 obtain⟨q0,hq0⟩:∃q,ax b 8=q:=⟨_,rfl⟩
 rw[hq0] at c0
 have HN:Hid (bM n ⟨o,a,b,d,m⟩=(q0)):=by
  show bM n ⟨o,a,b,d,m⟩=_
  have hs:ap o=(2,1,3,(ap o).2.2.2):=by rcases ho with rfl<;>rfl
  rw[fp hs]
  simp only[ng,zU,zT,hq0,Bool.true_and,Bool.and_true]
 rw[HN.out]
 clear HN hq0
 rcases ho with rfl
 all_goals
  go_enter Tryz.func106,Tryz.ntmps106
  go_wp2_with fail
  refine(c0 _).mono ?_
  rintro e w' ⟨rfl,rfl⟩
  go_wp2_with fail
  go_ret
  exact⟨rfl,aP _ _ _⟩
theorem yk (Al:Int) (A:Option Addr) (n c:Nat) (o a b d m:Int) (w:World) (ho:o=22) :
  Calls Tryz.prog 106 #[tv Al A n c,iv o a b d m] w fun e w'=>e=.returned (.bool (bM n ⟨o,a,b,d,m⟩))/\Below w.heap.size w w':=by
 have c0:=fun W=>az a n W
 obtain⟨q0,hq0⟩:∃q,ax a n=q:=⟨_,rfl⟩
 rw[hq0] at c0
 have HN:Hid (bM n ⟨o,a,b,d,m⟩=(q0)):=by
  show bM n ⟨o,a,b,d,m⟩=_
  have hs:ap o=(4,0,0,(ap o).2.2.2):=by rcases ho with rfl<;>rfl
  rw[fp hs]
  simp only[rK,Br,hq0,Bool.true_and,Bool.and_true]
 rw[HN.out]
 clear HN hq0
 rcases ho with rfl
 all_goals
  go_enter Tryz.func106,Tryz.ntmps106
  go_wp2_with fail
  refine(c0 _).mono ?_
  rintro e w' ⟨rfl,rfl⟩
  go_wp2_with fail
  go_ret
  exact⟨rfl,aP _ _ _⟩
theorem yh (Al:Int) (A:Option Addr) (n c:Nat) (o a b d m:Int) (w:World) (ho:o=17) :
  Calls Tryz.prog 106 #[tv Al A n c,iv o a b d m] w fun e w'=>e=.returned (.bool (bM n ⟨o,a,b,d,m⟩))/\Below w.heap.size w w':=by
 have HN:Hid (bM n ⟨o,a,b,d,m⟩=(true)):=by
  show bM n ⟨o,a,b,d,m⟩=_
  have hs:ap o=(2,2,3,(ap o).2.2.2):=by rcases ho with rfl<;>rfl
  rw[fp hs]
  rfl
 rw[HN.out]
 clear HN
 rcases ho with rfl
 all_goals
  go_enter Tryz.func106,Tryz.ntmps106
  go_wp2_with fail
  go_ret
  exact⟨rfl,aP _ _ _⟩
theorem yj (Al:Int) (A:Option Addr) (n c:Nat) (o a b d m:Int) (w:World) (ho:o=20) :
  Calls Tryz.prog 106 #[tv Al A n c,iv o a b d m] w fun e w'=>e=.returned (.bool (bM n ⟨o,a,b,d,m⟩))/\Below w.heap.size w w':=by
 have HN:Hid (bM n ⟨o,a,b,d,m⟩=(true)):=by
  show bM n ⟨o,a,b,d,m⟩=_
  have hs:ap o=(5,0,0,(ap o).2.2.2):=by rcases ho with rfl<;>rfl
  rw[fp hs]
  rfl
 rw[HN.out]
 clear HN
 rcases ho with rfl
 all_goals
  go_enter Tryz.func106,Tryz.ntmps106
  go_wp2_with fail
  go_ret
  exact⟨rfl,aP _ _ _⟩
theorem yg (Al:Int) (A:Option Addr) (n c:Nat) (o a b d m:Int) (w:World) (ho:o=23\/o=24) :
  Calls Tryz.prog 106 #[tv Al A n c,iv o a b d m] w fun e w'=>e=.returned (.bool (bM n ⟨o,a,b,d,m⟩))/\Below w.heap.size w w':=by
 have HN:Hid (bM n ⟨o,a,b,d,m⟩=(true)):=by
  show bM n ⟨o,a,b,d,m⟩=_
  have hs:ap o=(0,0,0,(ap o).2.2.2):=by rcases ho with rfl|rfl<;>rfl
  rw[fp hs]
  rfl
 rw[HN.out]
 clear HN
 rcases ho with rfl|rfl
 all_goals
  go_enter Tryz.func106,Tryz.ntmps106
  go_wp2_with fail
  go_ret
  exact⟨rfl,aP _ _ _⟩
theorem fO (Al:Int) (A:Option Addr) (n c:Nat) (o a b d m:Int) (w:World) (h0:0<=o) (h1:o<25) (hx:exB o=true) :
  Calls Tryz.prog 106 #[tv Al A n c,iv o a b d m] w fun e w'=>e=.returned (.bool (bM n ⟨o,a,b,d,m⟩))/\Below w.heap.size w w':=by
 have hc:(o=0\/o=13\/o=14)\/(o=15)\/(o=21)\/(o=1\/o=12)\/(o=2\/o=3\/o=4\/o=5\/o=6\/o=7\/o=8\/o=9\/o=10\/o=11)\/(o=16)\/(o=22)\/(o=17)\/(o=20)\/(o=23\/o=24):=by
  have h18:o≠18:=by rintro rfl;exact absurd hx (by decide)
  have h19:o≠19:=by rintro rfl;exact absurd hx (by decide)
  omega
 rcases hc with h|h|h|h|h|h|h|h|h|h
 ·exact zP Al A n c o a b d m w h
 ·exact yi Al A n c o a b d m w h
 ·exact yl Al A n c o a b d m w h
 ·exact ym Al A n c o a b d m w h
 ·exact vH Al A n c o a b d m w h
 ·exact yf Al A n c o a b d m w h
 ·exact yk Al A n c o a b d m w h
 ·exact yh Al A n c o a b d m w h
 ·exact yj Al A n c o a b d m w h
 ·exact yg Al A n c o a b d m w h
end Go.Proofs.YtjbgepjdohfhkaaGreat
