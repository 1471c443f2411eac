/- The reference's CheckInstr (chapter 10) at an instruction that there is, in a frame of a right shape. Conditions: those of the types. -/
import Derived.Test.YtjbgepjdohfhkaaGreatMMrcia
import Derived.Test.YtjbgepjdohfhkaaGreatMMrcib
set_option linter.unusedVariables false
set_option linter.unusedSimpArgs false
set_option maxRecDepth 100000
set_option maxHeartbeats 4000000
namespace Go.Proofs.YtjbgepjdohfhkaaGreat
open Go.RowKit
theorem uf (o:Int) (h0:0<=o) (h1:o<25):(muA o=true/\muB o=true/\muC o=true/\muI o=false)\/(muA o=true/\muB o=true/\muC o=false/\muI o=false)\/(muA o=true/\muB o=false/\muC o=false/\muI o=false)\/(muA o=true/\muB o=false/\muC o=false/\muI o=true)\/(muA o=false/\muB o=false/\muC o=false/\muI o=true)\/(muA o=false/\muB o=false/\muC o=false/\muI o=false):=by
 have e:∀k:Fin 25,(muA (k.val:Int)=true/\muB (k.val:Int)=true/\muC (k.val:Int)=true/\muI (k.val:Int)=false)\/(muA (k.val:Int)=true/\muB (k.val:Int)=true/\muC (k.val:Int)=false/\muI (k.val:Int)=false)\/(muA (k.val:Int)=true/\muB (k.val:Int)=false/\muC (k.val:Int)=false/\muI (k.val:Int)=false)\/(muA (k.val:Int)=true/\muB (k.val:Int)=false/\muC (k.val:Int)=false/\muI (k.val:Int)=true)\/(muA (k.val:Int)=false/\muB (k.val:Int)=false/\muC (k.val:Int)=false/\muI (k.val:Int)=true)\/(muA (k.val:Int)=false/\muB (k.val:Int)=false/\muC (k.val:Int)=false/\muI (k.val:Int)=false):=by decide
 have:=e ⟨o.toNat,by omega⟩
 simp only at this
 rwa[Int.toNat_of_nonneg h0] at this
theorem oQ (Al:Int) (A:Option Addr) (n c:Nat) (hs:List Fd) (F:Tg) (lo B i k:Nat) (f:Fm) (x:Ins) (w:World) (H:Hid (TgAt w lo B A n c hs F)) (hB:B<=w.heap.size) (hf:Hid (F[i]?=some f)) (hx:Hid (f.code[k]?=some x)) (hsh:Hid (shB Al f=true)) :
  Calls Tryz.prog 70 #[tv Al A n c,.int .i64 (i:Int),.int .i64 (k:Int)] w fun e w'=>e=.returned (.int .i64 (aC n f x))/\Below w.heap.size w w':=by
 cases hx2:exB x.op with
 | false=>exact yo Al A n c hs F lo B i k f x w H hB hf hx hsh (aa hx2)
 | true=>
  have ho:=xC hx2
  rcases uf x.op ho.1 ho.2 with h|h|h|h|h|h
  ·exact tm Al A n c hs F lo B i k f x w H hB hf hx hsh (aa hx2) (aa h)
  ·exact tn Al A n c hs F lo B i k f x w H hB hf hx hsh (aa hx2) (aa h)
  ·exact tp Al A n c hs F lo B i k f x w H hB hf hx hsh (aa hx2) (aa h)
  ·exact toA Al A n c hs F lo B i k f x w H hB hf hx hsh (aa hx2) (aa h)
  ·exact tq Al A n c hs F lo B i k f x w H hB hf hx hsh (aa hx2) (aa h)
  ·exact tu Al A n c hs F lo B i k f x w H hB hf hx hsh (aa hx2) (aa h)
theorem ri (Al:Int) (A:Option Addr) (n c:Nat) (hs:List Fd) (F:Tg) (lo B i:Nat) (f:Fm) (w:World) (H:Hid (TgAt w lo B A n c hs F)) (hB:B<=w.heap.size) (hf:Hid (F[i]?=some f)) :
  Calls Tryz.prog 46 #[tv Al A n c,.int .i64 (i:Int)] w fun e w'=>e=.returned (.int .i64 (fmE Al n f))/\Below w.heap.size w w':=by
 have hin:i<n:=by rw[<-H.out.len];exact(List.getElem?_eq_some_iff.1 hf.out).1
 obtain⟨b,off,P,S,A1,n1,c1,f',rfl,hb,e1,hh,h,p0,p1,p2⟩:=dk H.out hin
 obtain rfl:f'=f:=by rw[hf.out] at e1;injection e1 with e1;exact e1.symm
 clear e1 hh
 have hn:=H.out.cap.2.2
 have HL:=aa (show f'.code.length=n1 from h.l)
 have HP:=aa (show P=f'.params from h.p)
 have HS:=aa (show S=f'.size from h.s)
 have HC:=aa h.c
 have hn1:n1<=8796093022208:=h.k.2.2
 have hbw:b<w.heap.size:=by omega
 have hb1:=ag w (.cells #[.int .i64 Al,.slice (some ⟨b,off,none⟩) n c] 26)
 have R0:=Row.new w 26 [.int .i64 Al,.slice (some ⟨b,off,none⟩) n c]
 obtain⟨W1,hW1⟩:∃V,w.alloc (.cells #[.int .i64 Al,.slice (some ⟨b,off,none⟩) n c] 26)=V:=⟨_,rfl⟩
 rw[show([.int .i64 Al,.slice (some ⟨b,off,none⟩) n c]:List Value).toArray=#[.int .i64 Al,.slice (some ⟨b,off,none⟩) n c] from rfl,hW1] at R0
 rw[hW1] at hb1
 have q0:=(hb1.cell (p:=⟨b,off+i*3,none⟩) hbw).trans p0
 have q1:=(hb1.cell (p:=⟨b,off+i*3+1,none⟩) hbw).trans p1
 have q2:=(hb1.cell (p:=⟨b,off+i*3+2,none⟩) hbw).trans p2
 have t0:=R0.cell (k:=0) rfl
 have t1:=R0.cell (k:=1) rfl
 have HW1:=aa hW1
 have HB1:=aa hb1
 have HR0:=aa R0
 have hiz:(0:Int)<=(i:Int):=by omega
 have hiz':(i:Int)<(n:Int):=by omega
 have t0':=af t0
 have t1':=af t1
 have q0':=af q0
 have q1':=af q1
 have q2':=af q2
 obtain⟨sb,hsb⟩:∃v,shB Al f'=v:=⟨_,rfl⟩
 have cw1:∀p:After W1,Calls Tryz.prog 68 #[.int .i64 (i:Int),.int .i64 (n:Int)] p.w fun e w'=>e=.returned (.bool true)/\p.w=w':=fun p=>by
  have:=az (i:Int) (n:Int) p.w;rwa[ai.2 ⟨by omega,by omega⟩] at this
 have cw3:∀p:After W1,Calls Tryz.prog 69 #[tv Al (some ⟨b,off,none⟩) n c,mv P S A1 n1 c1] p.w fun e w'=>e=.returned (.bool sb)/\Below p.w.heap.size p.w w':=fun p=>by
  have:=dv Al (some ⟨b,off,none⟩) n c P S A1 n1 c1 f' p.w (aa ⟨HP.out.symm,HS.out.symm⟩);rwa[hsb] at this
 have K1:=aa cw1
 have K3:=aa cw3
 have HSB:=aa hsb
 clear hW1 hb1 R0 p0 p1 p2 h cw1 cw3 hsb
 cases sb with
 | false=>
  have HR:=aa (nT (N:=n) HSB.out)
  go_enter Tryz.func46,Tryz.ntmps46
  go_upto_region 1 with(fail)
  rw[HW1.out]
  clear HW1
  refine aJ (by kernel_rfl) (by kernel_rfl) ?_
  repeat(go_big_quiet_step ((first
   | (go_at_call 68;with_reducible exact cI (K1.out _))
   | (go_at_call 69;with_reducible exact bO (K3.out _)))))
  refine wpQuiet_nil ?_
  intro _ hw'
  obtain⟨p1,hw''⟩:=hw'
  subst hw''
  clear K1 K3
  have HBP:=aa (HB1.out.trans (p1.b.mono HB1.out.size))
  go_wp2_with fail
  go_ret
  exact⟨aj HR.out.symm,HBP.out⟩
 | true=>
  go_enter Tryz.func46,Tryz.ntmps46
  go_upto_region 1 with(fail)
  rw[HW1.out]
  clear HW1
  refine aJ (by kernel_rfl) (by kernel_rfl) ?_
  repeat(go_big_quiet_step ((first
   | (go_at_call 68;with_reducible exact cI (K1.out _))
   | (go_at_call 69;with_reducible exact bO (K3.out _)))))
  refine wpQuiet_nil ?_
  intro _ hw'
  obtain⟨p1,hw''⟩:=hw'
  subst hw''
  clear K1 K3
  have HBP:=aa (HB1.out.trans (p1.b.mono HB1.out.size))
  have RP:=aa (HR0.out.call p1.b)
  have t1:=t1' p1
  have q0:=q0' p1
  have q1:=q1' p1
  have q2:=q2' p1
  clear t0' t1' q0' q1' q2' HB1 HR0
  obtain⟨W2,hW2⟩:∃V,p1.w=V:=⟨_,rfl⟩
  rw[hW2] at HBP RP t1 q0 q1 q2⊢
  clear hW2
  go_upto_region 4 with(fail)
  obtain⟨W3,hW3⟩:∃V,W2.alloc (.cells #[.int .i64 P,.int .i64 S,.slice A1 n1 c1] 53)=V:=⟨_,rfl⟩
  have RF3:=aa (show Row W3 W2.heap.size 53 [.int .i64 P,.int .i64 S,.slice A1 n1 c1] by rw[<-hW3];exact Row.new W2 _ _)
  have RT3:=aa (show Row W3 w.heap.size 26 [.int .i64 Al,.slice (some ⟨b,off,none⟩) n c] by rw[<-hW3];exact RP.out.alloc _)
  have HB3:=aa (show Below w.heap.size w W3 by rw[<-hW3];exact HBP.out.alloc HBP.out.size _)
  rw[hW3]
  obtain⟨gf,hgf⟩:∃g,W2.heap.size=g:=⟨_,rfl⟩
  rw[hgf] at RF3⊢
  clear hW3 hgf RP HBP q0 q1 q2 t1
  have g2:=RF3.out.cell (k:=2) rfl
  by_cases hlong:1024<n1
  ·have HR:=aa (pk (N:=n) HSB.out (by rw[HL.out];exact hlong))
   have hz:(1024:Int)<(n1:Int):=by omega
   go_wp2_with fail
   go_ret
   exact⟨aj HR.out.symm,HB3.out⟩
  ·have hz':¬(1024:Int)<(n1:Int):=by omega
   have hzz:(n1:Int)<=1024:=by omega
   have HIN:=aa (fun(k:Nat) (e:Int) hk he h0 hb=>nU (N:=n) (k:=k) (e:=e) HSB.out (by rw[HL.out];omega) hk he h0 hb)
   have HEN:=aa (fun hb=>qy (N:=n) HSB.out (by rw[HL.out];omega) hb)
   go_wp2_with fail
   clear g2
   go_loopw [6] (fun s wr=>∃k:Nat,k<=n1/\s=.int .i64 k/\Hid (∀j (hj:j<f'.code.length),j<k->aC n f' f'.code[j]=0)/\Hid (Below W3.heap.size W3 wr)) (fun s _=>n1-(intOf s).toNat)
   case atStart=>exact⟨0,by omega,rfl,aa (fun j hj h=>by omega),aa (Below.refl _ _)⟩
   case round=>
    obtain⟨k,hk,rfl,hno,hbr⟩:=hrel
    have RF4:=aa (RF3.out.call hbr.out)
    have RT4:=aa (RT3.out.call hbr.out)
    have HB4:=aa (HB3.out.trans (hbr.out.mono HB3.out.size))
    have g2:=RF4.out.cell (k:=2) rfl
    have t0:=RT4.out.cell (k:=0) rfl
    have t1:=RT4.out.cell (k:=1) rfl
    by_cases hlt:k<n1
    ·have hkl:k<f'.code.length:=by have:=HL.out;omega
     have hkz:(0:Int)<=(k:Int):=by omega
     have hkz':(k:Int)<(n1:Int):=by omega
     have ci:=oQ Al (some ⟨b,off,none⟩) n c hs F lo B i k f' f'.code[k] wr (aa (H.out.below (HB4.out.mono hB))) (Nat.le_trans hB HB4.out.size) hf (aa (List.getElem?_eq_getElem hkl)) (aa HSB.out)
     have HIT:=aa (fun h0:aC n f' f'.code[k]≠0=>HIN.out k _ hkl rfl h0 hno.out)
     obtain⟨ie,hie⟩:∃ie,aC n f' f'.code[k]=ie:=⟨_,rfl⟩
     rw[hie] at ci HIT
     have HIE:=aa hie
     have CI:=aa ci
     clear hie ci
     by_cases h0:ie=0
     ·subst h0
      go_wp2_with fail
      refine(CI.out).mono ?_
      rintro e w2 ⟨rfl,hb2⟩
      have HB2:=aa (ac hbr.out hb2)
      clear hb2 g2 t0 t1
      go_wp2_with fail
      go_roundw
      case rel=>
       refine⟨k+1,by omega,by go_num,aa fun j hj hjk=>?_,HB2⟩
       by_cases e:j=k
       ·subst e;exact HIE.out
       ·exact hno.out j hj (by omega)
      case measure=>simp[intOf];omega
     ·have hne:(ie !=0)=true:=by rw[bne_iff_ne];exact h0
      have HR':=aa (HIT.out h0)
      clear HIT h0
      go_wp2_with fail
      refine(CI.out).mono ?_
      rintro e w2 ⟨rfl,hb2⟩
      have HB2:=aa (ac HB4.out hb2)
      clear hb2 g2 t0 t1
      go_wp2_with fail
      go_ret
      exact⟨aj HR'.out.symm,HB2.out⟩
    ·obtain rfl:k=n1:=by omega
     have HE:=aa (HEN.out (fun j hj=>hno.out j hj (by have:=HL.out;omega)))
     by_cases hk0:k=0
     ·subst hk0
      have hc:cB f'.code=false:=by rw[List.eq_nil_of_length_eq_zero HL.out];rfl
      have HZ:=aa (show fmE Al n f'=6 by rw[HE.out,hc];rfl)
      clear hc
      go_wp2_with fail
      go_ret
      exact⟨aj HZ.out.symm,HB4.out⟩
     ·obtain⟨q,rfl⟩:∃q,k=q+1:=⟨k-1,by omega⟩
      have hq:q<f'.code.length:=by have:=HL.out;omega
      have hc:=lM (l:=f'.code) (k:=q) HL.out.symm
      obtain⟨bb,oo,rfl,hbb,x0,-,-,-,-⟩:=ee (HC.out.below (HB4.out.mono hB)) hq
      obtain⟨o,ho⟩:∃o,(f'.code[q]'hq).op=o:=⟨_,rfl⟩
      rw[ho] at x0 hc
      have ct:=ry o
      obtain⟨tb,htb⟩:∃v,em o=v:=⟨_,rfl⟩
      rw[htb] at ct
      rw[htb] at hc
      have HZ:=aa (show fmE Al n f'=if tb=false then 6 else 0 by rw[HE.out,hc])
      have e1:((q+1:Nat):Int)-1=(q:Int):=by omega
      have hz0:(((q+1:Nat):Int)==0)=false:=by simp;omega
      have hqz:(0:Int)<=(q:Int):=by omega
      have hqz':(q:Int)<((q+1:Nat):Int):=by omega
      clear hc ho htb hk0
      cases tb with
      | false=>
       go_wp2_with fail
       refine(ct _).mono ?_
       rintro e w' ⟨rfl,rfl⟩
       go_wp2_with fail
       go_ret
       exact⟨aj HZ.out.symm,HB4.out⟩
      | true=>
       go_wp2_with fail
       refine(ct _).mono ?_
       rintro e w' ⟨rfl,rfl⟩
       go_wp2_with fail
       go_ret
       exact⟨aj HZ.out.symm,HB4.out⟩
theorem fQ (Al:Int) (A:Option Addr) (n c:Nat) (hs:List Fd) (F:Tg) (lo B:Nat) (w:World) (H:Hid (TgAt w lo B A n c hs F)) (hB:B<=w.heap.size) :
  Calls Tryz.prog 29 #[tv Al A n c] w fun e w'=>e=.returned (.int .i64 (tgE Al F))/\Below w.heap.size w w':=by
 have hn:=m9 H.out.cap
 have HL:=aa H.out.len
 by_cases hmany:80<n
 ·have HR:=aa (show tgE Al F=3 from lP (by rw[HL.out];exact hmany))
  have hz:(80:Int)<(n:Int):=by omega
  go_enter Tryz.func29,Tryz.ntmps29
  go_wp2_with fail
  go_ret
  exact⟨aj HR.out.symm,ag _ _⟩
 ·by_cases hzero:n=0
  ·subst hzero
   have HR:=aa (show tgE Al F=4 by rw[List.eq_nil_of_length_eq_zero HL.out];rfl)
   go_enter Tryz.func29,Tryz.ntmps29
   go_wp2_with fail
   go_ret
   exact⟨aj HR.out.symm,ag _ _⟩
  ·have hpos:0<n:=by omega
   obtain⟨b,off,P,S,A1,n1,c1,f0,rfl,hbB,hf0,_,h,p0,p1,p2⟩:=dk H.out hpos
   have hP:P=f0.params:=h.p
   have hbw:b<w.heap.size:=by omega
   have hle:F.length<=80:=by have:=HL.out;omega
   have hz:¬(80:Int)<(n:Int):=by omega
   have hz0:((n:Int)==0)=false:=by simp;omega
   have hzn:(0:Int)<(n:Int):=by omega
   rw[Nat.zero_mul,Nat.add_zero] at p0
   have cp:=gZ Al
   have hHL:=aa hle
   have HF0:=aa hf0
   have HP:=aa hP
   clear h hf0 p1 p2 hP hzero hle
   cases hpw:aR Al with
   | false=>
    rw[hpw] at cp
    have HR:=aa (iP hHL.out HF0.out (.inl hpw))
    clear hpw
    go_enter Tryz.func29,Tryz.ntmps29
    go_wp2_with fail
    refine(cp _).mono ?_
    rintro e w' ⟨rfl,rfl⟩
    go_wp2_with fail
    go_ret
    exact⟨aj HR.out.symm,ag _ _⟩
   | true=>
    rw[hpw] at cp
    by_cases hal:Al<16
    ·have HR:=aa (iP hHL.out HF0.out (.inr hal))
     clear hpw
     go_enter Tryz.func29,Tryz.ntmps29
     go_wp2_with fail
     refine(cp _).mono ?_
     rintro e w' ⟨rfl,rfl⟩
     go_wp2_with fail
     go_ret
     exact⟨aj HR.out.symm,ag _ _⟩
    ·by_cases hp:P=0
     ·subst hp
      have HR:=aa (kh hHL.out HF0.out ⟨hpw,by omega⟩ HP.out.symm)
      have HB0:=aa (ag w (.cells #[.int .i64 Al,.slice (some ⟨b,off,none⟩) n c] 26))
      have R0:=aa (Row.new w 26 [.int .i64 Al,.slice (some ⟨b,off,none⟩) n c])
      clear hpw
      go_enter Tryz.func29,Tryz.ntmps29
      go_wp2_with fail
      refine(cp _).mono ?_
      rintro e w' ⟨rfl,rfl⟩
      go_wp2_with fail
      obtain⟨W1,hW1⟩:∃V,(w.alloc (.cells #[.int .i64 Al,.slice (some ⟨b,off,none⟩) n c] 26))=V:=⟨_,rfl⟩
      rw[show([.int .i64 Al,.slice (some ⟨b,off,none⟩) n c]:List Value).toArray=#[.int .i64 Al,.slice (some ⟨b,off,none⟩) n c] from rfl] at R0
      rw[hW1] at HB0 R0⊢
      clear hW1 p0 cp
      go_loopw [3] (fun s wr=>∃k:Nat,k<=n/\s=.int .i64 k/\Hid (∀j (hj:j<F.length),j<k->fmE Al n F[j]=0)/\Hid (Below W1.heap.size W1 wr)) (fun s _=>n-(intOf s).toNat)
      case atStart=>exact⟨0,by omega,rfl,aa (fun j hj h=>by omega),aa (Below.refl _ _)⟩
      case round=>
       obtain⟨k,hk,rfl,hno,hbr⟩:=hrel
       have v0:=(R0.out.call hbr.out).cell (k:=0) rfl
       have v1:=(R0.out.call hbr.out).cell (k:=1) rfl
       have HBR:=aa (HB0.out.trans (hbr.out.mono HB0.out.size))
       by_cases hlt:k<n
       ·have hkl:k<F.length:=by have:=HL.out;omega
        have hx:=List.getElem?_eq_getElem hkl
        have ci:=ri Al (some ⟨b,off,none⟩) n c hs F lo B k F[k] wr (aa (H.out.below (HBR.out.mono hB))) (Nat.le_trans hB HBR.out.size) (aa hx)
        have HIT:=aa (fun h0:fmE Al n F[k]≠0=>show tgE Al F=fmE Al n F[k] by
         have hf:cC (F.map (fmE Al F.length))=fmE Al n F[k]:=by
          rw[HL.out]
          exact kC (k:=k) (by rw[List.getElem?_map,List.getElem?_eq_getElem hkl];rfl) h0 fun j hj=>by
           have hl:j<F.length:=by omega
           rw[List.getElem?_map,List.getElem?_eq_getElem hl];simp[hno.out j hl hj]
         rw[HR.out,if_pos (by rw[hf];exact h0),hf])
        obtain⟨ie,hie⟩:∃ie,fmE Al n F[k]=ie:=⟨_,rfl⟩
        rw[hie] at ci HIT
        have HIE:=aa hie
        have CI:=aa ci
        clear ci hie hx
        by_cases h0:ie=0
        ·subst h0
         go_wp2_with fail
         refine(CI.out).mono ?_
         rintro e w2 ⟨rfl,hb2⟩
         have HB2:=aa (ac hbr.out hb2)
         clear hb2 v0 v1
         go_wp2_with fail
         go_roundw
         case rel=>
          refine⟨k+1,by omega,by go_num,aa fun j hj hjk=>?_,HB2⟩
          by_cases e:j=k
          ·subst e;exact HIE.out
          ·exact hno.out j hj (by omega)
         case measure=>simp[intOf];omega
        ·have hne:(ie !=0)=true:=by rw[bne_iff_ne];exact h0
         have HR':=aa (HIT.out h0)
         clear HIT h0
         go_wp2_with fail
         refine(CI.out).mono ?_
         rintro e w2 ⟨rfl,hb2⟩
         have HB2:=aa (ac HBR.out hb2)
         clear hb2 v0 v1
         go_wp2_with fail
         go_ret
         exact⟨aj HR'.out.symm,HB2.out⟩
       ·obtain rfl:k=n:=by omega
        have HALL:=aa (show∀j (hj:j<F.length),fmE Al k F[j]=0 from fun j hj=>hno.out j hj (by have:=HL.out;omega))
        have HE:=aa (show tgE Al F=if F.all (dD F) then 0 else 7 by
         have hf:cC (F.map (fmE Al F.length))=0:=by
          rw[du,HL.out]
          intro e he
          obtain⟨x,hx,rfl⟩:=List.mem_map.1 he
          obtain⟨j,hj,rfl⟩:=List.mem_iff_getElem.1 hx
          exact HALL.out j hj
         rw[HR.out,if_neg (by rw[hf];simp)])
        have HPAR:=aa (show∀g∈F,0<=g.params/\g.params<=8 from fun g hg=>by
         obtain⟨j,hj,rfl⟩:=List.mem_iff_getElem.1 hg
         exact(iH (jk (HALL.out j hj)).1).1)
        have hbs:=hbr.out.size
        go_wp2_with fail
        clear v0 v1
        go_loopw [5] (fun s wr=>∃q:Nat,q<=k/\s=.int .i64 q/\Hid (∀j (hj:j<F.length),j<q->dD F F[j]=true)/\Hid (Below W1.heap.size W1 wr)) (fun s _=>k-(intOf s).toNat)
        case atStart=>exact⟨0,by omega,rfl,aa (fun j hj h=>by omega),hbr⟩
        case round=>
         obtain⟨q,hq,rfl,hno2,hbq⟩:=hrel
         have v0:=(R0.out.call hbq.out).cell (k:=0) rfl
         have v1:=(R0.out.call hbq.out).cell (k:=1) rfl
         have HBQ:=aa (HB0.out.trans (hbq.out.mono HB0.out.size))
         by_cases hlt:q<k
         ·have hkl:q<F.length:=by have:=HL.out;omega
          have hx:=List.getElem?_eq_getElem hkl
          obtain⟨bq,oq,Pq,Sq,Aq,nq,cq,fq,eq_,-,hfq,hhq,-,e0,e1,e2⟩:=dk (H.out.below (HBQ.out.mono hB)) (k:=q) (by omega)
          injection eq_ with eq_
          injection eq_ with eqa eqb
          subst eqa eqb
          obtain rfl:fq=F[q]:=by rw[hx] at hfq;injection hfq with hfq;exact hfq.symm
          have ci:∀p:After wr,Calls Tryz.prog 47 #[tv Al (some ⟨b,off,none⟩) k c,mv Pq Sq Aq nq cq] p.w fun e w'=>e=.returned (.bool (dD F F[q]))/\Below p.w.heap.size p.w w':=fun p=>rj Al (some ⟨b,off,none⟩) k c hs F lo B q Pq Sq Aq nq cq F[q] p.w (aa (H.out.below ((HBQ.out.trans (p.b.mono HBQ.out.size)).mono hB))) (Nat.le_trans hB (Nat.le_trans HBQ.out.size p.b.size)) (aa hx) (aa hhq) (aa fun x hx h22=>nM ((jk (HALL.out q hkl)).2.2.1 x hx) h22) HPAR
          have v0':=af v0
          have v1':=af v1
          have e0':=af e0
          have e1':=af e1
          have e2':=af e2
          have hqz:(0:Int)<=(q:Int):=by omega
          have hqz':(q:Int)<(k:Int):=by omega
          have HIT:=aa (fun h0:dD F F[q]=false=>show tgE Al F=7 by
           rw[HE.out,if_neg (by
            rw[Bool.not_eq_true,List.all_eq_false]
            exact⟨_,List.getElem_mem hkl,by simp[h0]⟩)])
          obtain⟨rb,hrb⟩:∃v,dD F F[q]=v:=⟨_,rfl⟩
          rw[hrb] at ci HIT
          have HRB:=aa hrb
          have CI:=aa ci
          clear ci hrb hx hfq hhq e0 e1 e2
          cases rb with
          | true=>
           go_upto_region 18 with(fail)
           refine aJ (by kernel_rfl) (by kernel_rfl) ?_
           repeat(go_big_quiet_step ((go_at_call 47;with_reducible exact bO (CI.out _))))
           refine wpQuiet_nil ?_
           intro _ hw'
           obtain⟨p1,hw''⟩:=hw'
           subst hw''
           have HB2:=aa (ac hbq.out p1.b)
           clear v0 v1 v0' v1' e0' e1' e2'
           go_wp2_with fail
           go_roundw
           case rel=>
            refine⟨q+1,by omega,by go_num,aa fun j hj hjk=>?_,HB2⟩
            by_cases e:j=q
            ·subst e;exact HRB.out
            ·exact hno2.out j hj (by omega)
           case measure=>simp[intOf];omega
          | false=>
           have HR':=aa (HIT.out rfl)
           clear HIT
           go_upto_region 18 with(fail)
           refine aJ (by kernel_rfl) (by kernel_rfl) ?_
           repeat(go_big_quiet_step ((go_at_call 47;with_reducible exact bO (CI.out _))))
           refine wpQuiet_nil ?_
           intro _ hw'
           obtain⟨p1,hw''⟩:=hw'
           subst hw''
           have HB2:=aa (ac HBQ.out p1.b)
           clear v0 v1 v0' v1' e0' e1' e2'
           go_wp2_with fail
           go_ret
           exact⟨aj HR'.out.symm,HB2.out⟩
         ·obtain rfl:q=k:=by omega
          have HZ:=aa (show tgE Al F=0 by
           rw[HE.out,if_pos]
           rw[List.all_eq_true]
           intro x hx
           obtain⟨j,hj,rfl⟩:=List.mem_iff_getElem.1 hx
           exact hno2.out j hj (by have:=HL.out;omega))
          go_wp2_with fail
          go_ret
          exact⟨aj HZ.out.symm,HBQ.out⟩
     ·have hne:(P !=0)=true:=by rw[bne_iff_ne];exact hp
      have HR:=aa (kP hHL.out HF0.out ⟨hpw,by omega⟩ (by rw[<-HP.out];exact hp))
      clear hpw hp
      go_enter Tryz.func29,Tryz.ntmps29
      go_wp2_with fail
      refine(cp _).mono ?_
      rintro e w' ⟨rfl,rfl⟩
      go_wp2_with fail
      go_ret
      exact⟨aj HR.out.symm,ag _ _⟩
end Go.Proofs.YtjbgepjdohfhkaaGreat
