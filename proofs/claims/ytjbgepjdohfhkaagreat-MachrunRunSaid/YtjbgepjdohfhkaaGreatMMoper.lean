/- The contract of mach's method operandErrors: what is wrong with the operands of an instruction. Condition: the operation is one of the 25. -/
import Derived.Test.YtjbgepjdohfhkaaGreatMMops
import Derived.Test.YtjbgepjdohfhkaaGreatMMfro
import Derived.Test.YtjbgepjdohfhkaaGreatMMrrw
set_option linter.unusedVariables false
set_option linter.unusedSimpArgs false
set_option maxRecDepth 100000
set_option maxHeartbeats 4000000
namespace Go.Proofs.YtjbgepjdohfhkaaGreat
open Go.RowKit
theorem rJ (P S:Int) (A:Option Addr) (n cp:Nat) (N:Int) (o a b d m:Int) (w:World) (h0:0<=o) (h1:o<25) :
  Calls Tryz.prog 88 #[xv P S A n cp N,iv o a b d m] w (pM (eJ N n ⟨o,a,b,d,m⟩) w):=by
 have HF:=aa (show eJ N n ⟨o,a,b,d,m⟩=fH (aB N n (ap o).1 a) (aB N n (ap o).2.1 b) (aB N n (ap o).2.2.1 d) (ap o).2.2.2 m from rfl)
 rw[HF.out]
 clear HF
 obtain⟨W2,hW2,hb2,hs2,r0,r1⟩:=fx w [.int .i64 P,.int .i64 S,.slice A n cp,.int .i64 N] [.int .i64 o,.int .i64 a,.int .i64 b,.int .i64 d,.int .u64 m] 130 50
 have co:=tS o W2 h0 h1
 obtain⟨k,hk⟩:∃k,ap o=k:=⟨_,rfl⟩
 rw[hk] at co⊢
 obtain⟨k1,k2,k3,im⟩:=k
 clear hk
 have HW2:=aa hW2
 have HB2:=aa hb2
 have HS2:=aa hs2
 have R0:=aa r0
 have R1:=aa r1
 have z0:=r1.cell (k:=0) rfl
 clear hW2 hb2 hs2 r0 r1
 go_enter Tryz.func88,Tryz.ntmps88
 go_upto_region 1 with(fail)
 rw[HW2.out]
 clear HW2
 go_upto_region 2 with(go_at_call 120;refine co.mono ?_;rintro e W3 ⟨rfl,hb3⟩)
 obtain⟨W,hW⟩:∃V,W3.alloc (.cells #[.int .i64 k1,.int .i64 k2,.int .i64 k3,.bool im] 179)=V:=⟨_,rfl⟩
 have r0:Row W w.heap.size 130 [.int .i64 P,.int .i64 S,.slice A n cp,.int .i64 N]:=by rw[<-hW];exact(R0.out.call hb3).alloc _
 have r1:Row W (w.heap.size+1) 50 [.int .i64 o,.int .i64 a,.int .i64 b,.int .i64 d,.int .u64 m]:=by rw[<-hW];exact(R1.out.call hb3).alloc _
 have r3:Row W W3.heap.size 179 [.int .i64 k1,.int .i64 k2,.int .i64 k3,.bool im]:=by rw[<-hW];exact Row.new W3 _ _
 have HB:=aa (show Below w.heap.size w W by rw[<-hW];have h:=ac HB2.out hb3;exact h.alloc h.size _)
 rw[hW]
 obtain⟨g,hg⟩:∃g,W3.heap.size=g:=⟨_,rfl⟩
 rw[hg] at r3⊢
 have x0:=r0.cell (k:=0) rfl
 have x1:=r0.cell (k:=1) rfl
 have x2:=r0.cell (k:=2) rfl
 have x3:=r0.cell (k:=3) rfl
 have z1:=r1.cell (k:=1) rfl
 have z2:=r1.cell (k:=2) rfl
 have z3:=r1.cell (k:=3) rfl
 have z4:=r1.cell (k:=4) rfl
 have u0:=r3.cell (k:=0) rfl
 have u1:=r3.cell (k:=1) rfl
 have u2:=r3.cell (k:=2) rfl
 have u3:=r3.cell (k:=3) rfl
 have c':=fun k x W=>sx P S A n cp N k x W
 have C:=aa c'
 clear c' co z0 hb3 R0 R1 HB2 HS2 hW hg r0 r1 r3
 go_region_held3 (fun w'=>w'.cell? ⟨w.heap.size,0,none⟩=some (.int .i64 P)/\w'.cell? ⟨w.heap.size,1,none⟩=some (.int .i64 S)/\w'.cell? ⟨w.heap.size,2,none⟩=some (.slice A n cp)/\w'.cell? ⟨w.heap.size,3,none⟩=some (.int .i64 N) /\
   w'.cell? ⟨w.heap.size+1,1,none⟩=some (.int .i64 a)/\w'.cell? ⟨w.heap.size+1,2,none⟩=some (.int .i64 b)/\w'.cell? ⟨w.heap.size+1,3,none⟩=some (.int .i64 d)/\w'.cell? ⟨w.heap.size+1,4,none⟩=some (.int .u64 m) /\
   w'.cell? ⟨g,0,none⟩=some (.int .i64 k1)/\w'.cell? ⟨g,1,none⟩=some (.int .i64 k2)/\w'.cell? ⟨g,2,none⟩=some (.int .i64 k3)/\w'.cell? ⟨g,3,none⟩=some (.bool im))
  (first|go_keep|(refine⟨aD hb1 ?_,aD hb1 ?_,aD hb1 ?_,aD hb1 ?_,aD hb1 ?_,aD hb1 ?_,aD hb1 ?_,aD hb1 ?_,aD hb1 ?_,aD hb1 ?_,aD hb1 ?_,aD hb1 ?_⟩<;>go_keep))
  (first|(go_at_call 121;refine(C.out _ _ _).mono ?_;rintro e w2 ⟨rfl,hb1⟩))
 rename_i a1 a2 a3 a4 hh
 have hB4:Below W.heap.size W w2:=(Below.refl W.heap.size W).drew.trans (ac (ac a2 a4) hb1)
 have hB0:=aa (HB.out.trans (hB4.mono HB.out.size))
 obtain⟨-,-,-,-,-,-,-,hz4,-,-,-,hu3⟩:=hh
 have ho:=sZ w2 (.int .i64 (aB N n k1 a)) (.int .i64 (aB N n k2 b)) (.int .i64 (aB N n k3 d)) 42 w2.heap.size (Nat.le_refl _)
 have HO:=aa ho
 clear hB4 a2 a4 hb1 x0 x1 x2 x3 z1 z2 z3 z4 u0 u1 u2 u3 C ho
 cases im with
 | true=>
  go_wp2_with fail
  go_ret
  exact⟨some ⟨w2.heap.size,0,none⟩,3,rfl,an.own HO.out,hB0.out.alloc hB0.out.size _⟩
 | false=>
  by_cases hm:m=0
  ·subst hm
   go_wp2_with fail
   go_ret
   exact⟨some ⟨w2.heap.size,0,none⟩,3,rfl,an.own HO.out,hB0.out.alloc hB0.out.size _⟩
  ·have hne:(m !=0)=true:=by simpa using hm
   have HF:=aa (show fH (aB N n k1 a) (aB N n k2 b) (aB N n k3 d) false m=[aB N n k1 a,aB N n k2 b,aB N n k3 d]++[2] by unfold fH;rw[if_pos ⟨rfl,hm⟩])
   clear hm
   go_wp2_with fail
   go_ret
   unfold pM
   simp only
   rw[HF.out]
   refine⟨some ⟨w2.heap.size+1+1,0,none⟩,_,rfl,rc _ [_,_,_,_] _ _ ?_,?_⟩
   ·simp
   exact(((hB0.out.alloc hB0.out.size _).alloc (by have:=hB0.out.size;simp;omega) _).alloc (by have:=hB0.out.size;simp;omega) _).drew
theorem nN {N:Nat} {f:Fm} {x:Ins} (h:exB x.op=false):aC N f x=4:=by unfold aC;rw[if_pos h]
theorem ww {N:Nat} {f:Fm} {x:Ins} (h:exB x.op=true):aC N f x=kq (eJ N f.code.length x) (el f.params f.size x):=by unfold aC;rw[if_neg (by simp[h])]
theorem xC {o:Int} (h:exB o=true):0<=o/\o<25:=by
 unfold exB at h
 simp only[Bool.and_eq_true] at h
 exact ai.1 h.1
theorem rO (N C:Int) (x:Ins):(eJ N C x).length<=4:=by unfold eJ fH;split<;>simp
theorem qg (P S:Int) (A:Option Addr) (n cp:Nat) (N:Nat) (o a b d m:Int) (w:World) (f:Fm) (hf:Hid (f.params=P/\f.size=S/\f.code.length=n)) (hP:0<=P/\P<=8) (hS:0<=S/\S<=2147483519) :
  Calls Tryz.prog 60 #[xv P S A n cp N,iv o a b d m] w fun e w'=>e=.returned (.int .i64 (aC N f ⟨o,a,b,d,m⟩))/\Below w.heap.size w w':=by
 obtain⟨W2,hW2,hb2,hs2,r0,r1⟩:=fx w [.int .i64 P,.int .i64 S,.slice A n cp,.int .i64 N] [.int .i64 o,.int .i64 a,.int .i64 b,.int .i64 d,.int .u64 m] 130 50
 have ce:=p8 o
 have HW2:=aa hW2
 have HB2:=aa hb2
 have R0:=aa r0
 have R1:=aa r1
 have x0:=r0.cell (k:=0) rfl
 have x1:=r0.cell (k:=1) rfl
 have x2:=r0.cell (k:=2) rfl
 have x3:=r0.cell (k:=3) rfl
 have z0:=r1.cell (k:=0) rfl
 have z1:=r1.cell (k:=1) rfl
 have z2:=r1.cell (k:=2) rfl
 have z3:=r1.cell (k:=3) rfl
 have z4:=r1.cell (k:=4) rfl
 clear hW2 hb2 hs2 r0 r1
 cases he:exB o with
 | false=>
  rw[he] at ce
  have HR:=aa (nN (N:=N) (f:=f) (x:=⟨o,a,b,d,m⟩) he)
  clear he
  go_enter Tryz.func60,Tryz.ntmps60
  go_upto_region 1 with(fail)
  rw[HW2.out]
  go_wp2_with fail
  refine(ce _).mono ?_
  rintro e w' ⟨rfl,rfl⟩
  go_wp2_with fail
  go_ret
  exact⟨aj HR.out.symm,HB2.out⟩
 | true=>
  rw[he] at ce
  have ho:=xC he
  have HR0:=aa (ww (N:=N) (f:=f) (x:=⟨o,a,b,d,m⟩) he)
  have HR:Hid (aC N f ⟨o,a,b,d,m⟩=kq (eJ N n ⟨o,a,b,d,m⟩) (el P S ⟨o,a,b,d,m⟩)):=by
   show aC N f ⟨o,a,b,d,m⟩=_
   rw[HR0.out,hf.out.1,hf.out.2.1,hf.out.2.2]
  have HL:=aa (rO N n ⟨o,a,b,d,m⟩)
  clear he HR0
  have co:=rJ P S A n cp N o a b d m W2 ho.1 ho.2
  have cc:=fun W=>sr P S A n cp N o a b d m W hP hS
  obtain⟨es,hes⟩:∃es,eJ N n ⟨o,a,b,d,m⟩=es:=⟨_,rfl⟩
  obtain⟨cv,hcv⟩:∃v,el P S ⟨o,a,b,d,m⟩=v:=⟨_,rfl⟩
  rw[hes] at co HR HL
  rw[hcv] at cc HR
  have CC:=aa cc
  clear hes hcv cc ho
  go_enter Tryz.func60,Tryz.ntmps60
  go_upto_region 1 with(fail)
  rw[HW2.out]
  clear HW2
  go_wp2_with fail
  refine(ce _).mono ?_
  rintro e w' ⟨rfl,rfl⟩
  go_wp2_with fail
  refine co.mono ?_
  rintro e w3 ⟨A',c',rfl,hsee,hb3⟩
  have R3:=R0.out.call hb3
  have R4:=R1.out.call hb3
  have HB3:=aa (ac HB2.out hb3)
  clear hb3 co ce x0 x1 x2 x3 z0 z1 z2 z3 z4 R0 R1 HB2
  have x0:=R3.cell (k:=0) rfl
  have x1:=R3.cell (k:=1) rfl
  have x2:=R3.cell (k:=2) rfl
  have x3:=R3.cell (k:=3) rfl
  have z0:=R4.cell (k:=0) rfl
  have z1:=R4.cell (k:=1) rfl
  have z2:=R4.cell (k:=2) rfl
  have z3:=R4.cell (k:=3) rfl
  have z4:=R4.cell (k:=4) rfl
  have hel:es.length<=4611686018427387904:=by have:=HL.out;omega
  have k2:=jF A' es.length c' es 2 _ w3 (aa rfl) hel (aa hsee)
  have k4:=jF A' es.length c' es 4 _ w3 (aa rfl) hel (aa hsee)
  have k5:=jF A' es.length c' es 5 _ w3 (aa rfl) hel (aa hsee)
  have k6:=fun W (h:Below w3.heap.size w3 W)=>jF A' es.length c' es 6 _ W (aa rfl) hel (aa (hsee.below h))
  obtain⟨q2,hq2⟩:∃q2,es.contains 2=q2:=⟨_,rfl⟩
  obtain⟨q4,hq4⟩:∃q4,es.contains 4=q4:=⟨_,rfl⟩
  obtain⟨q5,hq5⟩:∃q5,es.contains 5=q5:=⟨_,rfl⟩
  obtain⟨q6,hq6⟩:∃q6,es.contains 6=q6:=⟨_,rfl⟩
  rw[hq2] at k2
  rw[hq4] at k4
  rw[hq5] at k5
  rw[hq6] at k6
  have HRR:Hid (aC N f ⟨o,a,b,d,m⟩=if q2 then 2 else if q4 then 4 else if q5 then 5 else if cv=false then 4 else if q6 then 6 else 0):=by
   show aC N f ⟨o,a,b,d,m⟩=_
   rw[HR.out];unfold kq;rw[hq2,hq4,hq5,hq6]
  have K2:=aa k2
  have K4:=aa k4
  have K5:=aa k5
  have K6:=aa k6
  clear hq2 hq4 hq5 hq6 k2 k4 k5 k6 HR R3 R4 hsee hel
  go_wp2_with fail
  refine K2.out.mono ?_
  rintro e w' ⟨rfl,rfl⟩
  cases q2 with
  | true=>
   go_wp2_with fail
   go_ret
   exact⟨aj HRR.out.symm,HB3.out⟩
  | false=>
   go_wp2_with fail
   refine K4.out.mono ?_
   rintro e w' ⟨rfl,rfl⟩
   cases q4 with
   | true=>
    go_wp2_with fail
    go_ret
    exact⟨aj HRR.out.symm,HB3.out⟩
   | false=>
    go_wp2_with fail
    refine K5.out.mono ?_
    rintro e w' ⟨rfl,rfl⟩
    cases q5 with
    | true=>
     go_wp2_with fail
     go_ret
     exact⟨aj HRR.out.symm,HB3.out⟩
    | false=>
     go_wp2_with fail
     refine(CC.out _).mono ?_
     rintro e w5 ⟨rfl,hb5⟩
     have K7:=aa (K6.out w5 hb5)
     have HB5:=aa (ac HB3.out hb5)
     clear hb5 x0 x1 x2 x3 z0 z1 z2 z3 z4
     cases cv with
     | false=>
      go_wp2_with fail
      go_ret
      exact⟨aj HRR.out.symm,HB5.out⟩
     | true=>
      go_wp2_with fail
      refine K7.out.mono ?_
      rintro e w' ⟨rfl,rfl⟩
      cases q6 with
      | true=>
       go_wp2_with fail
       go_ret
       exact⟨aj HRR.out.symm,HB5.out⟩
      | false=>
       go_wp2_with fail
       go_ret
       exact⟨aj HRR.out.symm,HB5.out⟩
theorem nT {Al:Int} {N:Nat} {f:Fm} (h:shB Al f=false):fmE Al N f=4:=by unfold fmE;rw[if_pos h]
theorem pk {Al:Int} {N:Nat} {f:Fm} (h:shB Al f=true) (h2:1024<f.code.length):fmE Al N f=3:=by unfold fmE;rw[if_neg (by simp[h]),if_pos h2]
theorem nU {Al:Int} {N:Nat} {f:Fm} {k:Nat} {e:Int} (h:shB Al f=true) (h2:f.code.length<=1024) (hk:k<f.code.length) (he:aC N f f.code[k]=e) (h0:e≠0) (hb:∀j (hj:j<f.code.length),j<k->aC N f f.code[j]=0):fmE Al N f=e:=by
 have hf:cC (f.code.map (aC N f))=e:=kC (k:=k) (by rw[List.getElem?_map,List.getElem?_eq_getElem hk];simp[he]) h0 fun j hj=>by
  have hl:j<f.code.length:=by omega
  rw[List.getElem?_map,List.getElem?_eq_getElem hl];simp[hb j hl hj]
 unfold fmE
 rw[if_neg (by simp[h]),if_neg (by omega),if_pos (by rw[hf];exact h0),hf]
theorem qy {Al:Int} {N:Nat} {f:Fm} (h:shB Al f=true) (h2:f.code.length<=1024) (hb:∀j (hj:j<f.code.length),aC N f f.code[j]=0):fmE Al N f=if cB f.code=false then 6 else 0:=by
 have hf:cC (f.code.map (aC N f))=0:=du.2 fun e he=>by
  obtain⟨x,hx,rfl⟩:=List.mem_map.1 he
  obtain⟨j,hj,rfl⟩:=List.mem_iff_getElem.1 hx
  exact hb j hj
 unfold fmE
 rw[if_neg (by simp[h]),if_neg (by omega),if_neg (by simpa using hf)]
theorem iH {Al:Int} {f:Fm} (h:shB Al f=true):(0<=f.params/\f.params<=8)/\(0<=f.size/\f.size<=2147483519):=by
 unfold shB at h
 simp only[Bool.and_eq_true] at h
 have h1:=ai.1 h.2.1
 have h2:=ai.1 h.2.2.1
 omega
theorem uO (Al:Int) (A:Option Addr) (n c:Nat) (hs:List Fd) (F:Tg) (lo B i:Nat) (f:Fm) (w:World) (H:Hid (TgAt w lo B A n c hs F)) (hB:B<=w.heap.size) (hf:Hid (F[i]?=some f)) :
  Calls Tryz.prog 40 #[tv Al A n c,.int .i64 (i:Int)] w fun e w'=>e=.returned (.int .i64 (fmE Al n f))/\Below w.heap.size w w':=by
 have hin:i<n:=by rw[<-H.out.len];exact(List.getElem?_eq_some_iff.1 hf.out).1
 obtain⟨b,off,P,S,A1,n1,c1,f',rfl,hb,e1,hh,h,-,-,-⟩:=dk H.out hin
 obtain rfl:f'=f:=by rw[hf.out] at e1;injection e1 with e1;exact e1.symm
 clear e1
 have ho:=fun W (hb:Below w.heap.size w W)=>qd Al (some ⟨b,off,none⟩) n c hs F lo B i P S A1 n1 c1 f' W (aa (H.out.below (hb.mono hB))) (Nat.le_trans hB hb.size) hf (aa hh)
 have HO:=aa ho
 have hP:P=f'.params:=h.p
 have hS:S=f'.size:=h.s
 have hL:f'.code.length=n1:=h.l
 have HL:=aa hL
 have HP:=aa hP
 have HS:=aa hS
 have HC:=aa h.c
 have hn1:n1<=8796093022208:=h.k.2.2
 have R0:=Row.new w 26 [.int .i64 Al,.slice (some ⟨b,off,none⟩) n c]
 have hb1:=ag w (.cells #[.int .i64 Al,.slice (some ⟨b,off,none⟩) n c] 26)
 obtain⟨W1,hW1⟩:∃V,w.alloc (.cells #[.int .i64 Al,.slice (some ⟨b,off,none⟩) n c] 26)=V:=⟨_,rfl⟩
 rw[show([.int .i64 Al,.slice (some ⟨b,off,none⟩) n c]:List Value).toArray=#[.int .i64 Al,.slice (some ⟨b,off,none⟩) n c] from rfl,hW1] at R0
 rw[hW1] at hb1
 have co:=HO.out W1 hb1
 have HW1:=aa hW1
 have HB1:=aa hb1
 have t0:=R0.cell (k:=0) rfl
 have t1:=R0.cell (k:=1) rfl
 clear ho hP hS hL h hh hW1 hb1 R0 HO
 cases hsh:shB Al f' with
 | false=>
  rw[hsh] at co
  have HR:=aa (nT (N:=n) hsh)
  clear hsh
  go_enter Tryz.func40,Tryz.ntmps40
  go_upto_region 1 with(fail)
  rw[HW1.out]
  clear HW1
  go_wp2_with fail
  refine co.mono ?_
  rintro e w2 ⟨rfl,hb2⟩
  have HB2:=aa (ac HB1.out hb2)
  clear hb2 t0 t1
  go_wp2_with fail
  go_ret
  exact⟨aj HR.out.symm,HB2.out.alloc HB2.out.size _⟩
 | true=>
  have hbs:=iH hsh
  rw[<-HP.out,<-HS.out] at hbs
  rw[hsh] at co
  by_cases hlong:1024<n1
  ·have HR:=aa (pk (N:=n) hsh (by rw[HL.out];exact hlong))
   have hz:(1024:Int)<(n1:Int):=by omega
   clear hsh
   go_enter Tryz.func40,Tryz.ntmps40
   go_upto_region 1 with(fail)
   rw[HW1.out]
   clear HW1
   go_wp2_with fail
   refine co.mono ?_
   rintro e w2 ⟨rfl,hb2⟩
   have HB2:=aa (ac HB1.out hb2)
   clear hb2 t0 t1
   go_wp2_with fail
   go_ret
   exact⟨aj HR.out.symm,HB2.out.alloc HB2.out.size _⟩
  ·have hz:(n1:Int)<=1024:=by omega
   have hz':¬(1024:Int)<(n1:Int):=by omega
   have HIN:=aa (fun(k:Nat) (e:Int) hk he h0 hb=>nU (N:=n) (k:=k) (e:=e) hsh (by rw[HL.out];omega) hk he h0 hb)
   have HEN:=aa (fun hb=>qy (N:=n) hsh (by rw[HL.out];omega) hb)
   clear hsh
   go_enter Tryz.func40,Tryz.ntmps40
   go_upto_region 1 with(fail)
   rw[HW1.out]
   clear HW1
   go_upto_region 2 with(go_at_call 59;refine co.mono ?_;rintro e w2 ⟨rfl,hb2⟩)
   obtain⟨W3,hW3⟩:∃V,w2.alloc (.cells #[.int .i64 P,.int .i64 S,.slice A1 n1 c1,.int .i64 (n:Int)] 130)=V:=⟨_,rfl⟩
   have R3:=aa (show Row W3 w2.heap.size 130 [.int .i64 P,.int .i64 S,.slice A1 n1 c1,.int .i64 (n:Int)] by rw[<-hW3];exact Row.new w2 _ _)
   have HB3:=aa (show Below w.heap.size w W3 by rw[<-hW3];have h:=ac HB1.out hb2;exact h.alloc h.size _)
   rw[hW3]
   obtain⟨g,hg⟩:∃g,w2.heap.size=g:=⟨_,rfl⟩
   rw[hg] at R3⊢
   clear hW3 hg hb2 co t0 t1 HB1
   have x2:=R3.out.cell (k:=2) rfl
   go_wp2_with fail
   clear x2
   go_loopw [29] (fun s wr=>∃k:Nat,k<=n1/\s=.int .i64 k/\Hid (∀j (hj:j<f'.code.length),j<k->aC n f' f'.code[j]=0)/\Hid (Below W3.heap.size W3 wr)) (fun s _=>n1-(intOf s).toNat)
   case atStart=>exact⟨0,by omega,rfl,aa (fun j hj h=>by omega),aa (Below.refl _ _)⟩
   case round=>
    obtain⟨k,hk,rfl,hno,hbr⟩:=hrel
    have R4:=aa (R3.out.call hbr.out)
    have HB4:=aa (HB3.out.trans (hbr.out.mono HB3.out.size))
    by_cases hlt:k<n1
    ·have hkl:k<f'.code.length:=by have:=HL.out;omega
     obtain⟨bb,oo,rfl,hbb,x0,x1,x2,x3,x4⟩:=ee (HC.out.below (HB4.out.mono hB)) hkl
     have HIT:=aa (fun h0:aC n f' f'.code[k]≠0=>HIN.out k _ hkl rfl h0 hno.out)
     obtain⟨x,hx⟩:∃x,f'.code[k]=x:=⟨_,rfl⟩
     have HX:=aa hx
     rw[hx] at HIT x0 x1 x2 x3 x4
     obtain⟨o,a,b,d,m⟩:=x
     simp only at x0 x1 x2 x3 x4
     have hkz:(0:Int)<=(k:Int):=by omega
     have hkz':(k:Int)<(n1:Int):=by omega
     clear hx
     go_upto_region 9 with(fail)
     obtain⟨W5,hW5⟩:∃V,wr.alloc (.cells #[.int .i64 o,.int .i64 a,.int .i64 b,.int .i64 d,.int .u64 m] 50)=V:=⟨_,rfl⟩
     have R5:=aa (show Row W5 g 130 [.int .i64 P,.int .i64 S,.slice (some ⟨bb,oo,none⟩) n1 c1,.int .i64 (n:Int)] by rw[<-hW5];exact R4.out.alloc _)
     have Z5:=aa (show Row W5 wr.heap.size 50 [.int .i64 o,.int .i64 a,.int .i64 b,.int .i64 d,.int .u64 m] by rw[<-hW5];exact Row.new wr _ _)
     have HB5:=aa (show Below W3.heap.size W3 W5 by rw[<-hW5];exact hbr.out.alloc hbr.out.size _)
     rw[hW5]
     obtain⟨g2,hg2⟩:∃g,wr.heap.size=g:=⟨_,rfl⟩
     rw[hg2] at Z5⊢
     clear hW5 hg2 x0 x1 x2 x3 x4 R4
     have f0:=R5.out.cell (k:=0) rfl
     have f1:=R5.out.cell (k:=1) rfl
     have f2:=R5.out.cell (k:=2) rfl
     have f3:=R5.out.cell (k:=3) rfl
     have x0:=Z5.out.cell (k:=0) rfl
     have x1:=Z5.out.cell (k:=1) rfl
     have x2:=Z5.out.cell (k:=2) rfl
     have x3:=Z5.out.cell (k:=3) rfl
     have x4:=Z5.out.cell (k:=4) rfl
     have ci:=qg P S (some ⟨bb,oo,none⟩) n1 c1 n o a b d m W5 f' (aa ⟨HP.out.symm,HS.out.symm,HL.out⟩) hbs.1 hbs.2
     obtain⟨ie,hie⟩:∃ie,aC n f' ⟨o,a,b,d,m⟩=ie:=⟨_,rfl⟩
     rw[hie] at ci HIT
     have HIE:=aa hie
     clear hie
     by_cases h0:ie=0
     ·subst h0
      go_wp2_with fail
      refine ci.mono ?_
      rintro e w2 ⟨rfl,hb2⟩
      have HB2:=aa (ac HB5.out hb2)
      clear hb2 f0 f1 f2 f3 x0 x1 x2 x3 x4
      go_wp2_with fail
      go_roundw
      case rel=>
       refine⟨k+1,by omega,by go_num,aa fun j hj hjk=>?_,HB2⟩
       by_cases e:j=k
       ·subst e;rw[HX.out];exact HIE.out
       ·exact hno.out j hj (by omega)
      case measure=>simp[intOf];omega
     ·have hne:(ie !=0)=true:=by rw[bne_iff_ne];exact h0
      have HR':=aa (HIT.out h0)
      clear HIT h0
      go_wp2_with fail
      refine ci.mono ?_
      rintro e w2 ⟨rfl,hb2⟩
      have HB2:=aa (HB3.out.trans ((ac HB5.out hb2).mono HB3.out.size))
      clear hb2 f0 f1 f2 f3 x0 x1 x2 x3 x4
      go_wp2_with fail
      go_ret
      exact⟨aj HR'.out.symm,HB2.out⟩
    ·obtain rfl:k=n1:=by omega
     have HE:=aa (HEN.out (fun j hj=>hno.out j hj (by have:=HL.out;omega)))
     have f0:=R4.out.cell (k:=0) rfl
     have f1:=R4.out.cell (k:=1) rfl
     have f2:=R4.out.cell (k:=2) rfl
     have f3:=R4.out.cell (k:=3) rfl
     have cc:=p9 P S A1 k c1 n f'.code B wr HL (by omega) (aa (HC.out.below (HB4.out.mono hB))) (Nat.le_trans hB HB4.out.size)
     obtain⟨cl,hcl⟩:∃v,cB f'.code=v:=⟨_,rfl⟩
     rw[hcl] at cc HE
     clear hcl
     cases cl with
     | false=>
      go_wp2_with fail
      refine cc.mono ?_
      rintro e w2 ⟨rfl,hb2⟩
      have HB2:=aa (ac HB4.out hb2)
      clear hb2
      go_wp2_with fail
      go_ret
      exact⟨aj HE.out.symm,HB2.out⟩
     | true=>
      go_wp2_with fail
      refine cc.mono ?_
      rintro e w2 ⟨rfl,hb2⟩
      have HB2:=aa (ac HB4.out hb2)
      clear hb2
      go_wp2_with fail
      go_ret
      exact⟨aj HE.out.symm,HB2.out⟩
theorem jH (Al:Int) (A:Option Addr) (n c:Nat) (hs:List Fd) (F:Tg) (lo B:Nat) (w:World) (H:Hid (TgAt w lo B A n c hs F)) (hB:B<=w.heap.size) :
  Calls Tryz.prog 26 #[tv Al A n c] w fun e w'=>e=.returned (.int .i64 (tgE Al F))/\Below w.heap.size w w':=by
 have hn:=m9 H.out.cap
 have HL:=aa H.out.len
 by_cases hmany:80<n
 ·have HR:=aa (show tgE Al F=3 from lP (by rw[HL.out];exact hmany))
  have hz:(80:Int)<(n:Int):=by omega
  go_enter Tryz.func26,Tryz.ntmps26
  go_wp2_with fail
  go_ret
  exact⟨aj HR.out.symm,ag _ _⟩
 ·by_cases hzero:n=0
  ·subst hzero
   have HR:=aa (show tgE Al F=4 by rw[List.eq_nil_of_length_eq_zero HL.out];rfl)
   go_enter Tryz.func26,Tryz.ntmps26
   go_wp2_with fail
   go_ret
   exact⟨aj HR.out.symm,ag _ _⟩
  ·have hpos:0<n:=by omega
   obtain⟨b,off,P,S,A1,n1,c1,f0,rfl,hbB,hf0,_,h,p0,p1,p2⟩:=dk H.out hpos
   have hP:P=f0.params:=h.p
   have hbw:b<w.heap.size:=by omega
   have hle:F.length<=80:=by have:=HL.out;omega
   have hz:¬(80:Int)<(n:Int):=by omega
   have hz0:((n:Int)==0)=false:=by simp;omega
   have hzn:(0:Int)<(n:Int):=by omega
   rw[Nat.zero_mul,Nat.add_zero] at p0
   have cp:=kU Al
   have hHL:=aa hle
   have HF0:=aa hf0
   have HP:=aa hP
   clear h hf0 p1 p2 hP hzero hle
   cases hpw:aR Al with
   | false=>
    rw[hpw] at cp
    have HR:=aa (iP hHL.out HF0.out (.inl hpw))
    clear hpw
    go_enter Tryz.func26,Tryz.ntmps26
    go_wp2_with fail
    refine(cp _).mono ?_
    rintro e w' ⟨rfl,rfl⟩
    go_wp2_with fail
    go_ret
    exact⟨aj HR.out.symm,ag _ _⟩
   | true=>
    rw[hpw] at cp
    by_cases hal:Al<16
    ·have HR:=aa (iP hHL.out HF0.out (.inr hal))
     clear hpw
     go_enter Tryz.func26,Tryz.ntmps26
     go_wp2_with fail
     refine(cp _).mono ?_
     rintro e w' ⟨rfl,rfl⟩
     go_wp2_with fail
     go_ret
     exact⟨aj HR.out.symm,ag _ _⟩
    ·by_cases hp:P=0
     ·subst hp
      have HR:=aa (kh hHL.out HF0.out ⟨hpw,by omega⟩ HP.out.symm)
      have HB0:=aa (ag w (.cells #[.int .i64 Al,.slice (some ⟨b,off,none⟩) n c] 26))
      have R0:=aa (Row.new w 26 [.int .i64 Al,.slice (some ⟨b,off,none⟩) n c])
      clear hpw
      go_enter Tryz.func26,Tryz.ntmps26
      go_wp2_with fail
      refine(cp _).mono ?_
      rintro e w' ⟨rfl,rfl⟩
      go_wp2_with fail
      obtain⟨W1,hW1⟩:∃V,(w.alloc (.cells #[.int .i64 Al,.slice (some ⟨b,off,none⟩) n c] 26))=V:=⟨_,rfl⟩
      rw[show([.int .i64 Al,.slice (some ⟨b,off,none⟩) n c]:List Value).toArray=#[.int .i64 Al,.slice (some ⟨b,off,none⟩) n c] from rfl] at R0
      rw[hW1] at HB0 R0⊢
      clear hW1 p0 cp
      go_loopw [36] (fun s wr=>∃k:Nat,k<=n/\s=.int .i64 k/\Hid (∀j (hj:j<F.length),j<k->fmE Al n F[j]=0)/\Hid (Below W1.heap.size W1 wr)) (fun s _=>n-(intOf s).toNat)
      case atStart=>exact⟨0,by omega,rfl,aa (fun j hj h=>by omega),aa (Below.refl _ _)⟩
      case round=>
       obtain⟨k,hk,rfl,hno,hbr⟩:=hrel
       have v0:=(R0.out.call hbr.out).cell (k:=0) rfl
       have v1:=(R0.out.call hbr.out).cell (k:=1) rfl
       have HBR:=aa (HB0.out.trans (hbr.out.mono HB0.out.size))
       by_cases hlt:k<n
       ·have hkl:k<F.length:=by have:=HL.out;omega
        have hx:=List.getElem?_eq_getElem hkl
        have ci:=uO Al (some ⟨b,off,none⟩) n c hs F lo B k F[k] wr (aa (H.out.below (HBR.out.mono hB))) (Nat.le_trans hB HBR.out.size) (aa hx)
        have HIT:=aa (fun h0:fmE Al n F[k]≠0=>show tgE Al F=fmE Al n F[k] by
         have hf:cC (F.map (fmE Al F.length))=fmE Al n F[k]:=by
          rw[HL.out]
          exact kC (k:=k) (by rw[List.getElem?_map,List.getElem?_eq_getElem hkl];rfl) h0 fun j hj=>by
           have hl:j<F.length:=by omega
           rw[List.getElem?_map,List.getElem?_eq_getElem hl];simp[hno.out j hl hj]
         rw[HR.out,if_pos (by rw[hf];exact h0),hf])
        obtain⟨ie,hie⟩:∃ie,fmE Al n F[k]=ie:=⟨_,rfl⟩
        rw[hie] at ci HIT
        have HIE:=aa hie
        have CI:=aa ci
        clear ci hie hx
        by_cases h0:ie=0
        ·subst h0
         go_wp2_with fail
         refine(CI.out).mono ?_
         rintro e w2 ⟨rfl,hb2⟩
         have HB2:=aa (ac hbr.out hb2)
         clear hb2 v0 v1
         go_wp2_with fail
         go_roundw
         case rel=>
          refine⟨k+1,by omega,by go_num,aa fun j hj hjk=>?_,HB2⟩
          by_cases e:j=k
          ·subst e;exact HIE.out
          ·exact hno.out j hj (by omega)
         case measure=>simp[intOf];omega
        ·have hne:(ie !=0)=true:=by rw[bne_iff_ne];exact h0
         have HR':=aa (HIT.out h0)
         clear HIT h0
         go_wp2_with fail
         refine(CI.out).mono ?_
         rintro e w2 ⟨rfl,hb2⟩
         have HB2:=aa (ac HBR.out hb2)
         clear hb2 v0 v1
         go_wp2_with fail
         go_ret
         exact⟨aj HR'.out.symm,HB2.out⟩
       ·obtain rfl:k=n:=by omega
        have HALL:=aa (show∀j (hj:j<F.length),fmE Al k F[j]=0 from fun j hj=>hno.out j hj (by have:=HL.out;omega))
        have HE:=aa (show tgE Al F=if F.all (dD F) then 0 else 7 by
         have hf:cC (F.map (fmE Al F.length))=0:=by
          rw[du,HL.out]
          intro e he
          obtain⟨x,hx,rfl⟩:=List.mem_map.1 he
          obtain⟨j,hj,rfl⟩:=List.mem_iff_getElem.1 hx
          exact HALL.out j hj
         rw[HR.out,if_neg (by rw[hf];simp)])
        have HPAR:=aa (show∀g∈F,0<=g.params/\g.params<=8 from fun g hg=>by
         obtain⟨j,hj,rfl⟩:=List.mem_iff_getElem.1 hg
         exact(iH (jk (HALL.out j hj)).1).1)
        have hbs:=hbr.out.size
        go_wp2_with fail
        clear v0 v1
        go_loopw [49] (fun s wr=>∃q:Nat,q<=k/\s=.int .i64 q/\Hid (∀j (hj:j<F.length),j<q->dD F F[j]=true)/\Hid (Below W1.heap.size W1 wr)) (fun s _=>k-(intOf s).toNat)
        case atStart=>exact⟨0,by omega,rfl,aa (fun j hj h=>by omega),hbr⟩
        case round=>
         obtain⟨q,hq,rfl,hno2,hbq⟩:=hrel
         have v0:=(R0.out.call hbq.out).cell (k:=0) rfl
         have v1:=(R0.out.call hbq.out).cell (k:=1) rfl
         have HBQ:=aa (HB0.out.trans (hbq.out.mono HB0.out.size))
         by_cases hlt:q<k
         ·have hkl:q<F.length:=by have:=HL.out;omega
          have hx:=List.getElem?_eq_getElem hkl
          have ci:=rD Al (some ⟨b,off,none⟩) k c hs F lo B q F[q] wr (aa (H.out.below (HBQ.out.mono hB))) (Nat.le_trans hB HBQ.out.size) (aa hx) (aa fun x hx h22=>nM ((jk (HALL.out q hkl)).2.2.1 x hx) h22) HPAR
          have HIT:=aa (fun h0:dD F F[q]=false=>show tgE Al F=7 by
           rw[HE.out,if_neg (by
            rw[Bool.not_eq_true,List.all_eq_false]
            exact⟨_,List.getElem_mem hkl,by simp[h0]⟩)])
          obtain⟨rb,hrb⟩:∃v,dD F F[q]=v:=⟨_,rfl⟩
          rw[hrb] at ci HIT
          have HRB:=aa hrb
          have CI:=aa ci
          clear ci hrb hx
          cases rb with
          | true=>
           go_wp2_with fail
           refine(CI.out).mono ?_
           rintro e w2 ⟨rfl,hb2⟩
           have HB2:=aa (ac hbq.out hb2)
           clear hb2 v0 v1
           go_wp2_with fail
           go_roundw
           case rel=>
            refine⟨q+1,by omega,by go_num,aa fun j hj hjk=>?_,HB2⟩
            by_cases e:j=q
            ·subst e;exact HRB.out
            ·exact hno2.out j hj (by omega)
           case measure=>simp[intOf];omega
          | false=>
           have HR':=aa (HIT.out rfl)
           clear HIT
           go_wp2_with fail
           refine(CI.out).mono ?_
           rintro e w2 ⟨rfl,hb2⟩
           have HB2:=aa (ac HBQ.out hb2)
           clear hb2 v0 v1
           go_wp2_with fail
           go_ret
           exact⟨aj HR'.out.symm,HB2.out⟩
         ·obtain rfl:q=k:=by omega
          have HZ:=aa (show tgE Al F=0 by
           rw[HE.out,if_pos]
           rw[List.all_eq_true]
           intro x hx
           obtain⟨j,hj,rfl⟩:=List.mem_iff_getElem.1 hx
           exact hno2.out j hj (by have:=HL.out;omega))
          go_wp2_with fail
          go_ret
          exact⟨aj HZ.out.symm,HBQ.out⟩
     ·have hne:(P !=0)=true:=by rw[bne_iff_ne];exact hp
      have HR:=aa (kP hHL.out HF0.out ⟨hpw,by omega⟩ (by rw[<-HP.out];exact hp))
      clear hpw hp
      go_enter Tryz.func26,Tryz.ntmps26
      go_wp2_with fail
      refine(cp _).mono ?_
      rintro e w' ⟨rfl,rfl⟩
      go_wp2_with fail
      go_ret
      exact⟨aj HR.out.symm,ag _ _⟩
end Go.Proofs.YtjbgepjdohfhkaaGreat
