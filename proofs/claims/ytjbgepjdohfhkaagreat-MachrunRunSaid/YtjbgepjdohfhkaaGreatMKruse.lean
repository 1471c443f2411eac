/- The contracts of the reference's right and used (chapter 9). Conditions: those of the types. -/
import Derived.Test.YtjbgepjdohfhkaaGreatMKmw
set_option linter.unusedVariables false
set_option linter.unusedSimpArgs false
set_option maxRecDepth 100000
set_option maxHeartbeats 4000000
namespace Go.Proofs.YtjbgepjdohfhkaaGreat
open Go.RowKit
section
attribute [local go_sem ↓] Go.wp_at_zero Go.wp_at_succ
section
variable {A1 A2:Option Addr} {c1 c2:Nat} {S:Sk}
theorem gW (off n:Int) (w:World) (hS:Hid S.Ok) (ho:isI off) :
  Calls Tryz.prog 110 #[sv A1 c1 A2 c2 S,.int .i64 off,.int .i64 n] w fun e w'=>e=.returned (.bool (bN S off n))/\Below w.heap.size w w':=by
 have hmost:=hS.out.most
 have hsp:=hS.out.sp
 have f0:=(Row.new w 66 [.slice A1 S.bs.length c1,.slice A2 S.bs.length c2,.int .i64 (S.sp:Int)]).cell (k:=0) rfl
 have f2:=(Row.new w 66 [.slice A1 S.bs.length c1,.slice A2 S.bs.length c2,.int .i64 (S.sp:Int)]).cell (k:=2) rfl
 have cz:=eG n
 cases hz:szB n with
 | false=>
  have hr:=aa (show bN S off n=false by simp[bN,hz])
  rw[hz] at cz
  clear hz
  go_enter Tryz.func110,Tryz.ntmps110
  go_wp2_with fail
  refine(cz _).mono ?_
  rintro e w3 ⟨rfl,rfl⟩
  go_wp2_with fail
  go_ret
  exact⟨aw hr.out.symm,ag _ _⟩
 | true=>
  have hn:=of_decide_eq_true (show decide (n=1\/n=2\/n=4\/n=8\/n=16)=true from hz)
  have hn0:1<=n/\n<=16:=by omega
  have hr:=aa (show bN S off n=decide (0<=off/\off<=(S.bs.length:Int)-S.sp-n) by
   rw[Bool.eq_iff_iff,ix,decide_eq_true_eq]
   constructor
   ·rintro⟨_,h1,h4⟩;omega
   ·rintro⟨h1,h4⟩;exact⟨hz,h1,by omega⟩)
  rw[hz] at cz
  clear hz hn
  by_cases h0:0<=off
  ·go_enter Tryz.func110,Tryz.ntmps110
   go_wp2_with fail
   refine(cz _).mono ?_
   rintro e w3 ⟨rfl,rfl⟩
   go_wp2_with fail
   go_ret
   exact⟨aw (by rw[hr.out];simp[h0]),ag _ _⟩
  ·go_enter Tryz.func110,Tryz.ntmps110
   go_wp2_with fail
   refine(cz _).mono ?_
   rintro e w3 ⟨rfl,rfl⟩
   go_wp2_with fail
   go_ret
   exact⟨aw (by rw[hr.out];symm;rw[decide_eq_false_iff_not];omega),ag _ _⟩
theorem ta (off n:Nat) (w:World) (hS:Hid (StkAt w w.heap.size A1 c1 A2 c2 S)) (ha:S.sp+off+n<=S.bs.length) :
  Calls Tryz.prog 111 #[sv A1 c1 A2 c2 S,.int .i64 (off:Int),.int .i64 (n:Int)] w fun e w'=>e=.returned (.bool (dg S (S.sp+off) n))/\Below w.heap.size w w':=by
 have hmost:=hS.out.ok.most
 have hsp:=hS.out.ok.sp
 have hl:=aa hS.out.ok.len
 have hm2:=hS.out.m2
 obtain⟨W1,hW1⟩:∃W1,w.alloc (.cells #[.slice A1 S.bs.length c1,.slice A2 S.bs.length c2,.int .i64 (S.sp:Int)] 66)=W1:=⟨_,rfl⟩
 have HW1:=aa hW1
 have R1:=aa (show Row W1 w.heap.size 66 [.slice A1 S.bs.length c1,.slice A2 S.bs.length c2,.int .i64 (S.sp:Int)] by rw[<-hW1];exact Row.new w _ _)
 have B1:=aa (show Below w.heap.size w W1 by rw[<-hW1];exact ag w _)
 have HS:=aa (hS.out.below B1.out)
 clear hW1
 have f1:=R1.out.cell (k:=1) rfl
 have f2:=R1.out.cell (k:=2) rfl
 go_enter Tryz.func111,Tryz.ntmps111
 go_upto_region 1 with(fail)
 rw[HW1.out]
 go_wp2_with fail
 go_loop [7] (fun i=>∃k:Nat,k<=n/\i=.int .i64 (k:Int)/\Hid (∀j,j<k->S.us[S.sp+off+j]?=some true)) (fun i=>n-(intOf i).toNat)
 case atStart=>exact⟨0,by omega,rfl,aa (fun j h=>by omega)⟩
 case round=>
  obtain⟨k,hk,rfl,hb⟩:=hrel
  by_cases hlt:k<n
  ·have hlb:S.sp+off+k<S.us.length:=by have:=hl.out;omega
   obtain⟨b,o,rfl,hbB,fT⟩:=HS.out.s2 (S.sp+off+k) (.bool S.us[S.sp+off+k]) (la (List.getElem?_eq_getElem hlb))
   obtain⟨z,hz⟩:∃z,S.us[S.sp+off+k]=z:=⟨_,rfl⟩
   rw[hz] at fT
   have HX:=aa (show S.us[S.sp+off+k]?=some z by rw[List.getElem?_eq_getElem hlb,hz])
   clear hz
   cases z with
   | true=>
    have hnext:=aa (show∀j,j<k+1->S.us[S.sp+off+j]?=some true from fun j hj=>by
     rcases Nat.lt_or_ge j k with h|h
     ·exact hb.out j h
     ·rw[show j=k by omega];exact HX.out)
    go_wp2_with fail
    exact⟨⟨k+1,by omega,by go_num,hnext⟩,by simp[intOf];omega⟩
   | false=>
    have hall:dg S (S.sp+off) n=false:=by
     cases hu:dg S (S.sp+off) n with
     | false=>rfl
     | true=>
      have:=(oD (by have:=hl.out;omega)).1 hu k hlt
      rw[HX.out] at this
      cases this
    have HA:=aa hall
    clear hall
    go_wp2_with fail
    go_ret
    exact⟨aw HA.out.symm,B1.out⟩
  ·obtain rfl:k=n:=by omega
   have HA:=aa ((oD (a:=S.sp+off) (n:=k) (by have:=hl.out;omega)).2 hb.out)
   go_wp2_with fail
   go_ret
   exact⟨aw HA.out.symm,B1.out⟩
end
end
theorem Box.set1 {w:World} {g V:Nat} (h:Box w g V) (V':Nat) (e:lo V=lo V'):Box (w.setCell ⟨g,1,none⟩ (.int .u64 (hi V'))) g V':=by
 unfold Box at h⊢
 simp[World.setCell,Array.getElem?_modify,h,e]
def iW (w0:World) (gr gx m:Nat) (zs:List Int) (i:Value) (wr:World):Prop:=
 ∃k:Nat,k<=m/\i=.int .i64 k/\Box wr gr 0/\Box wr gx (aO (zs.take k))/\Below w0.heap.size w0 wr
theorem sh (A:Option Addr) (n c:Nat) (zs:List Int) (B:Nat) (w:World) (hn:Hid (zs.length=n)) (hnc:n<=c) (hm:n<=9223372036854775807) (hs:an w B A (aq zs)) (hB:B<=w.heap.size) (hz:Hid (∀z∈zs,0<=z/\z<=255))
  (hle:n<=16) :
  Calls Tryz.prog 128 #[.slice A n c] w fun e w'=>e=.returned (vv (aO (zs.take n)))/\Below w.heap.size w w':=by
 go_enter Tryz.func128,Tryz.ntmps128
 go_wp2_with fail
 go_loopw [13] (fun i wr=>iW w w.heap.size (w.heap.size+1) n zs i wr) (fun i _=> n-(intOf i).toNat)
 case atStart=>exact⟨0,by omega,rfl,(Box.new w 0).alloc _,((Box.new _ 0).at_ (by simp)).same (by simp[aO]),aP _ _ _⟩
 case round=>
  obtain⟨k,hk,rfl,br,bx,hb⟩:=hrel
  by_cases hlt:k<n
  ·have hk16:k<16:=by omega
   obtain⟨b,off,z,rfl,hbl,hc0,z0,z1,hzz⟩:=kb hs (k:=k) (by have:=hn.out;omega) hz.out
   have hc:wr.cell? ⟨b,off+k,none⟩=some (.int .u8 z):=(hb.cell (p:=⟨b,off+k,none⟩) (by simp;omega)).trans hc0
   clear hc0 hs
   have hVl:=fe zs k (by have:=hn.out;omega) hz.out
   have hT:Hid (∀z,zs[k]?=some z->aO (zs.take k)+z.toNat*2 ^ (8*k)=aO (zs.take (k+1))):=aa fun z h=>(gQ zs k z h).symm
   obtain⟨V,hV⟩:∃V,V=aO (zs.take k):=⟨_,rfl⟩
   rw[<-hV] at bx hT hVl
   clear hV
   obtain⟨x0,x1,xz0,xz1⟩:=bx.facts
   obtain⟨l0,l1⟩:=cM V
   obtain⟨h0,h1⟩:=cQ V
   by_cases h8:k<8
   ·skip
    go_wp2_with fail
    go_region
    obtain⟨e1,e2⟩:=mI V z k h8 hVl z0 z1
    rw[e1]
    obtain⟨V',hV'⟩:∃V',V'=V+z.toNat*2 ^ (8*k):=⟨_,rfl⟩
    rw[<-hV'] at e2⊢
    have hT':=hT.out z hzz.out
    rw[<-hV'] at hT'
    have bx':=bx.set0 V' e2
    have br':=br.far (p:=⟨w.heap.size+1,0,none⟩) (by simp) (.int .u64 (lo V'))
    have hb':=hb.setCell (p:=⟨w.heap.size+1,0,none⟩) (by simp) (.int .u64 (lo V'))
    clear e1 e2 hV' x0 x1 xz0 xz1 hc
    have R:iW w w.heap.size (w.heap.size+1) n zs (.int .i64 ((k:Int)+1)) ((wr.setCell ⟨w.heap.size+1,0,none⟩ (.int .u64 (lo V'))).drew):=⟨k+1,by omega,by go_num,br'.drew,bx'.drew.same hT',hb'.drew⟩
    clear hT' bx' br' hb'
    go_wp2_with fail
    go_roundw
    case rel=>exact R
    case measure=>simp[intOf];omega
   ·skip
    go_wp2_with fail
    go_region
    obtain⟨e1,e2⟩:=mJ V z k (by omega) hk16 hVl z0 z1
    rw[e1]
    obtain⟨V',hV'⟩:∃V',V'=V+z.toNat*2 ^ (8*k):=⟨_,rfl⟩
    rw[<-hV'] at e2⊢
    have hT':=hT.out z hzz.out
    rw[<-hV'] at hT'
    have bx':=bx.set1 V' e2
    have br':=br.far (p:=⟨w.heap.size+1,1,none⟩) (by simp) (.int .u64 (hi V'))
    have hb':=hb.setCell (p:=⟨w.heap.size+1,1,none⟩) (by simp) (.int .u64 (hi V'))
    clear e1 e2 hV' x0 x1 xz0 xz1 hc
    have R:iW w w.heap.size (w.heap.size+1) n zs (.int .i64 ((k:Int)+1)) ((wr.setCell ⟨w.heap.size+1,1,none⟩ (.int .u64 (hi V'))).drew):=⟨k+1,by omega,by go_num,br'.drew,bx'.drew.same hT',hb'.drew⟩
    clear hT' bx' br' hb'
    go_wp2_with fail
    go_roundw
    case rel=>exact R
    case measure=>simp[intOf];omega
  ·obtain rfl:k=n:=by omega
   obtain⟨V,hV⟩:∃V,V=aO (zs.take k):=⟨_,rfl⟩
   rw[<-hV] at bx
   have HV:=aa hV
   clear hV
   obtain⟨x0,x1,xz0,xz1⟩:=bx.facts
   obtain⟨r0,r1,rz0,rz1⟩:=br.facts
   go_wp2_with fail
   clear x0 x1 xz0 xz1 r0 r1 rz0 rz1
   have br:=br.set_ V
   have hb:=aL (g:=w.heap.size) hb (by omega) (.int .u64 (lo V)) (.int .u64 (hi V))
   obtain⟨W9,hW9⟩:∃W,W=(wr.setCell ⟨w.heap.size,0,none⟩ (.int .u64 (lo V))).setCell ⟨w.heap.size,1,none⟩ (.int .u64 (hi V)):=⟨_,rfl⟩
   rw[<-hW9] at br hb⊢
   clear hW9
   obtain⟨r0,r1,rz0,rz1⟩:=br.facts
   exact bodyPost_ret (v:=vv V) (by simp[results,Tryz.results128,go_sem,r0,r1]) rfl ⟨by rw[HV.out],hb⟩
theorem si (A:Option Addr) (n c:Nat) (zs:List Int) (B:Nat) (w:World) (hn:Hid (zs.length=n)) (hnc:n<=c) (hm:n<=9223372036854775807) (hs:an w B A (aq zs)) (hB:B<=w.heap.size) (hz:Hid (∀z∈zs,0<=z/\z<=255))
  (hle:16<n) :
  Calls Tryz.prog 128 #[.slice A n c] w fun e w'=>e=.returned (vv (aO (zs.take 16)))/\Below w.heap.size w w':=by
 go_enter Tryz.func128,Tryz.ntmps128
 go_wp2_with fail
 go_loopw [13] (fun i wr=>iW w w.heap.size (w.heap.size+1) 16 zs i wr) (fun i _=> 16-(intOf i).toNat)
 case atStart=>exact⟨0,by omega,rfl,(Box.new w 0).alloc _,((Box.new _ 0).at_ (by simp)).same (by simp[aO]),aP _ _ _⟩
 case round=>
  obtain⟨k,hk,rfl,br,bx,hb⟩:=hrel
  by_cases hlt:k<16
  ·have hk16:k<16:=by omega
   obtain⟨b,off,z,rfl,hbl,hc0,z0,z1,hzz⟩:=kb hs (k:=k) (by have:=hn.out;omega) hz.out
   have hc:wr.cell? ⟨b,off+k,none⟩=some (.int .u8 z):=(hb.cell (p:=⟨b,off+k,none⟩) (by simp;omega)).trans hc0
   clear hc0 hs
   have hVl:=fe zs k (by have:=hn.out;omega) hz.out
   have hT:Hid (∀z,zs[k]?=some z->aO (zs.take k)+z.toNat*2 ^ (8*k)=aO (zs.take (k+1))):=aa fun z h=>(gQ zs k z h).symm
   obtain⟨V,hV⟩:∃V,V=aO (zs.take k):=⟨_,rfl⟩
   rw[<-hV] at bx hT hVl
   clear hV
   obtain⟨x0,x1,xz0,xz1⟩:=bx.facts
   obtain⟨l0,l1⟩:=cM V
   obtain⟨h0,h1⟩:=cQ V
   by_cases h8:k<8
   ·skip
    go_wp2_with fail
    go_region
    obtain⟨e1,e2⟩:=mI V z k h8 hVl z0 z1
    rw[e1]
    obtain⟨V',hV'⟩:∃V',V'=V+z.toNat*2 ^ (8*k):=⟨_,rfl⟩
    rw[<-hV'] at e2⊢
    have hT':=hT.out z hzz.out
    rw[<-hV'] at hT'
    have bx':=bx.set0 V' e2
    have br':=br.far (p:=⟨w.heap.size+1,0,none⟩) (by simp) (.int .u64 (lo V'))
    have hb':=hb.setCell (p:=⟨w.heap.size+1,0,none⟩) (by simp) (.int .u64 (lo V'))
    clear e1 e2 hV' x0 x1 xz0 xz1 hc
    have R:iW w w.heap.size (w.heap.size+1) 16 zs (.int .i64 ((k:Int)+1)) ((wr.setCell ⟨w.heap.size+1,0,none⟩ (.int .u64 (lo V'))).drew):=⟨k+1,by omega,by go_num,br'.drew,bx'.drew.same hT',hb'.drew⟩
    clear hT' bx' br' hb'
    go_wp2_with fail
    go_roundw
    case rel=>exact R
    case measure=>simp[intOf];omega
   ·skip
    go_wp2_with fail
    go_region
    obtain⟨e1,e2⟩:=mJ V z k (by omega) hk16 hVl z0 z1
    rw[e1]
    obtain⟨V',hV'⟩:∃V',V'=V+z.toNat*2 ^ (8*k):=⟨_,rfl⟩
    rw[<-hV'] at e2⊢
    have hT':=hT.out z hzz.out
    rw[<-hV'] at hT'
    have bx':=bx.set1 V' e2
    have br':=br.far (p:=⟨w.heap.size+1,1,none⟩) (by simp) (.int .u64 (hi V'))
    have hb':=hb.setCell (p:=⟨w.heap.size+1,1,none⟩) (by simp) (.int .u64 (hi V'))
    clear e1 e2 hV' x0 x1 xz0 xz1 hc
    have R:iW w w.heap.size (w.heap.size+1) 16 zs (.int .i64 ((k:Int)+1)) ((wr.setCell ⟨w.heap.size+1,1,none⟩ (.int .u64 (hi V'))).drew):=⟨k+1,by omega,by go_num,br'.drew,bx'.drew.same hT',hb'.drew⟩
    clear hT' bx' br' hb'
    go_wp2_with fail
    go_roundw
    case rel=>exact R
    case measure=>simp[intOf];omega
  ·obtain rfl:k=16:=by omega
   obtain⟨V,hV⟩:∃V,V=aO (zs.take 16):=⟨_,rfl⟩
   rw[<-hV] at bx
   have HV:=aa hV
   clear hV
   obtain⟨x0,x1,xz0,xz1⟩:=bx.facts
   obtain⟨r0,r1,rz0,rz1⟩:=br.facts
   go_wp2_with fail
   clear x0 x1 xz0 xz1 r0 r1 rz0 rz1
   have br:=br.set_ V
   have hb:=aL (g:=w.heap.size) hb (by omega) (.int .u64 (lo V)) (.int .u64 (hi V))
   obtain⟨W9,hW9⟩:∃W,W=(wr.setCell ⟨w.heap.size,0,none⟩ (.int .u64 (lo V))).setCell ⟨w.heap.size,1,none⟩ (.int .u64 (hi V)):=⟨_,rfl⟩
   rw[<-hW9] at br hb⊢
   clear hW9
   obtain⟨r0,r1,rz0,rz1⟩:=br.facts
   exact bodyPost_ret (v:=vv V) (by simp[results,Tryz.results128,go_sem,r0,r1]) rfl ⟨by rw[HV.out],hb⟩
theorem wP (A:Option Addr) (n c:Nat) (zs:List Int) (B:Nat) (w:World) (hn:Hid (zs.length=n)) (hnc:n<=c) (hm:n<=9223372036854775807) (hs:an w B A (aq zs)) (hB:B<=w.heap.size) (hz:Hid (∀z∈zs,0<=z/\z<=255)) :
  Calls Tryz.prog 128 #[.slice A n c] w fun e w'=>e=.returned (vv (aO (zs.take 16)))/\Below w.heap.size w w':=by
 by_cases hle:n<=16
 ·have h:=sh A n c zs B w hn hnc hm hs hB hz hle
  rw[List.take_of_length_le (by have:=hn.out;omega)] at h
  rwa[List.take_of_length_le (by have:=hn.out;omega)]
 ·exact si A n c zs B w hn hnc hm hs hB hz (by omega)
theorem nL (x:Int):∀u∈[Value.int .u8 x],u.oneCell'=true:=by
 intro u hu
 simp only[List.mem_singleton] at hu
 subst hu
 rfl
theorem wa {w:World} {base base':Nat} {e:TypeId} {size n:Nat} {v:Value} {xs:List Value} (h:w.ownsRow base e size v n xs) (hb:base'<=base):w.ownsRow base' e size v n xs:=by
 refine⟨h.1,?_⟩
 rcases h.2 with h2|⟨g,cap,cur,hv,hg,hr⟩
 ·exact .inl h2
 ·exact .inr ⟨g,cap,cur,hv,by omega,hr⟩
theorem Box.grown {w w':World} {g V:Nat} {row:Option Nat} (h:Box w g V) (hb:w.grownBy w' row) (hg:some g≠row):Box w' g V:=(hb.block g h.lt hg).trans h
def nd (w0:World) (gx X m:Nat) (out i:Value) (wr:World):Prop:=
 ∃k:Nat,k<=m/\i=.int .i64 k/\Box wr gx X/\wr.ownsRow (w0.heap.size+1) 5 1 out k (aq (bS X k))/\Below w0.heap.size w0 wr
theorem nd.next {w0:World} {gx X m:Nat} {out:Value} {wr:World} {k:Nat} {b:Int} (hk:k<m) (bx:Box wr gx X) (ho:wr.ownsRow (w0.heap.size+1) 5 1 out (k+1) (aq (bS X k)++[.int .u8 b])) (hb:Below w0.heap.size w0 wr) (e:b=fK X k) :
  nd w0 gx X m out (.int .i64 ((k:Int)+1)) wr:=by
 subst e
 refine⟨k+1,by omega,by go_num,bx,?_,hb⟩
 simpa[bS,aq] using ho
theorem rn (X m:Nat) (w:World) (hX:X<ae) (hm:m<=16) (hs:szB (m:Int)=true) :
  Calls Tryz.prog 113 #[vv X,.int .i64 m] w (gP X m w):=by
 obtain⟨i0,hi0,hz0,hz1,hz2⟩:=info_parts Tryz.binfo5
 obtain⟨l0,l1⟩:=cM X
 obtain⟨h0,h1⟩:=cQ X
 go_enter Tryz.func113,Tryz.ntmps113
 go_wp2_with fail
 go_loopw [5,6] (fun out i wr=>nd w w.heap.size X m out i wr) (fun _ i _=>m-(intOf i).toNat)
 case atStart=>exact⟨0,by omega,rfl,Box.new w X,World.ownsRow_nil _ _ _ _,(Below.refl _ _).alloc (Nat.le_refl _) _⟩
 case round=>
  obtain⟨k,hk,rfl,bx,hown,hb⟩:=hrel
  have hbs:w.heap.size<=wr.heap.size:=hb.size
  by_cases hlt:k<m
  ·have hg:decide ((k:Int)<(m:Int))=true:=by simpa using hlt
   go_wp2_with fail
   refine(eG (m:Int) _).mono ?_
   rw[hs]
   rintro e w' ⟨rfl,rfl⟩
   obtain⟨x0,x1,xz0,xz1⟩:=bx.facts
   have lx:=bx.lt
   by_cases h8:k<8
   ·skip
    go_wp2_with (at_builtin;refine wpList_append_own _ rfl (.tmp 18) (.tmp 25) 22 rfl (w.heap.size+1) 5 i0 (.int .u8 0) 1 1 Tryz.underlying22 hi0 hz0 hz1 hz2 rfl (by decide) _ k (aq (bS X k)) rfl (hown.alloc _) ⟨wr.heap.size,0,none⟩ 1 1 [.int .u8 (lo X / 2 ^ (8*k) % 256)] rfl rfl (lp _ _ _) (nL _) (by unfold maxLen;omega) (by omega) (by simp;omega) ?_)
    intro v' w' hown' hg' _
    have hb':=ii (hb.alloc hbs _) (hown.alloc _) (by omega) hg' (by simp;omega)
    have hR:=nd.next hlt ((bx.alloc _).grown hg' (fun e=>by have:=(hown.lt _ e.symm).1;omega)) hown' hb' (qC X k h8)
    clear hown' hb' hown hb hg' x0 x1 xz0 xz1
    go_wp2_with fail
    go_roundw
    case rel=>exact hR
    case measure=>simp[intOf];omega
   ·skip
    go_wp2_with (at_builtin;refine wpList_append_own _ rfl (.tmp 27) (.tmp 35) 22 rfl (w.heap.size+1) 5 i0 (.int .u8 0) 1 1 Tryz.underlying22 hi0 hz0 hz1 hz2 rfl (by decide) _ k (aq (bS X k)) rfl (hown.alloc _) ⟨wr.heap.size,0,none⟩ 1 1 [.int .u8 (hi X / 2 ^ (8*(k-8)) % 256)] rfl rfl (lp _ _ _) (nL _) (by unfold maxLen;omega) (by omega) (by simp;omega) ?_)
    intro v' w' hown' hg' _
    have hb':=ii (hb.alloc hbs _) (hown.alloc _) (by omega) hg' (by simp;omega)
    have hR:=nd.next hlt ((bx.alloc _).grown hg' (fun e=>by have:=(hown.lt _ e.symm).1;omega)) hown' hb' (qD X k hX (by omega))
    clear hown' hb' hown hb hg' x0 x1 xz0 xz1
    go_wp2_with fail
    go_roundw
    case rel=>exact hR
    case measure=>simp[intOf];omega
  ·obtain rfl:k=m:=by omega
   have hg:decide ((k:Int)<(k:Int))=false:=by simp
   go_wp2_with fail
   refine(eG (k:Int) _).mono ?_
   rw[hs]
   rintro e w' ⟨rfl,rfl⟩
   go_wp2_with fail
   go_ret
   exact⟨_,rfl,wa hown (by omega),hb⟩
theorem tD (X:Nat) (n:Int) (w:World) (hs:szB n=false) :
  Calls Tryz.prog 113 #[vv X,.int .i64 n] w (gP X 0 w):=by
 go_enter Tryz.func113,Tryz.ntmps113
 go_wp2_with fail
 refine wp_loop_rounds 1 ?_
 rw[rounds_succ]
 go_wp2_with fail
 refine(eG n _).mono ?_
 rw[hs]
 rintro e w' ⟨rfl,rfl⟩
 go_wp2_with fail
 go_ret
 exact⟨_,rfl,World.ownsRow_nil _ _ _ _,(Below.refl _ _).alloc (Nat.le_refl _) _⟩
theorem ro (X:Nat) (n:Int) (w:World) (hX:X<ae):Calls Tryz.prog 113 #[vv X,.int .i64 n] w (gP X (szN n) w):=by
 by_cases h:szB n=true
 ·have e:=lk h
  have:=rn X (szN n) w hX (s6 n) (by rw[e];exact h)
  rwa[e] at this
 ·have h:szB n=false:=by simpa using h
  rw[s5 h];exact tD X n w h
theorem pY (A:Option Addr) (n c:Nat) (zs:List Int) (B:Nat) (w:World) (hn:Hid (zs.length=n)) (hnc:n<=c) (hm:n<=9223372036854775807) (hs:an w B A (aq zs)) (hB:B<=w.heap.size) (hz:Hid (∀z∈zs,0<=z/\z<=255))
  (hle:n<=16) :
  Calls Tryz.prog 112 #[.slice A n c] w fun e w'=>e=.returned (vv (aO (zs.take n)))/\Below w.heap.size w w':=by
 go_enter Tryz.func112,Tryz.ntmps112
 go_wp2_with fail
 go_loopw [4] (fun i wr=>iW w w.heap.size (w.heap.size+1) n zs i wr) (fun i _=> n-(intOf i).toNat)
 case atStart=>exact⟨0,by omega,rfl,(Box.new w 0).alloc _,((Box.new _ 0).at_ (by simp)).same (by simp[aO]),aP _ _ _⟩
 case round=>
  obtain⟨k,hk,rfl,br,bx,hb⟩:=hrel
  by_cases hlt:k<n
  ·have hk16:k<16:=by omega
   have q0:decide ((k:Int)<(n:Int))=true:=by simpa using hlt
   have q1:decide ((k:Int)<16)=true:=by simp;omega
   obtain⟨b,off,z,rfl,hbl,hc0,z0,z1,hzz⟩:=kb hs (k:=k) (by have:=hn.out;omega) hz.out
   have hc:wr.cell? ⟨b,off+k,none⟩=some (.int .u8 z):=(hb.cell (p:=⟨b,off+k,none⟩) (by simp;omega)).trans hc0
   clear hc0 hs
   have hVl:=fe zs k (by have:=hn.out;omega) hz.out
   have hT:Hid (∀z,zs[k]?=some z->aO (zs.take k)+z.toNat*2 ^ (8*k)=aO (zs.take (k+1))):=aa fun z h=>(gQ zs k z h).symm
   obtain⟨V,hV⟩:∃V,V=aO (zs.take k):=⟨_,rfl⟩
   rw[<-hV] at bx hT hVl
   clear hV
   obtain⟨x0,x1,xz0,xz1⟩:=bx.facts
   obtain⟨l0,l1⟩:=cM V
   obtain⟨h0,h1⟩:=cQ V
   by_cases h8:k<8
   ·skip
    go_wp2_with fail
    go_region
    obtain⟨e1,e2⟩:=mI V z k h8 hVl z0 z1
    rw[e1]
    obtain⟨V',hV'⟩:∃V',V'=V+z.toNat*2 ^ (8*k):=⟨_,rfl⟩
    rw[<-hV'] at e2⊢
    have hT':=hT.out z hzz.out
    rw[<-hV'] at hT'
    have bx':=bx.set0 V' e2
    have br':=br.far (p:=⟨w.heap.size+1,0,none⟩) (by simp) (.int .u64 (lo V'))
    have hb':=hb.setCell (p:=⟨w.heap.size+1,0,none⟩) (by simp) (.int .u64 (lo V'))
    clear e1 e2 hV' x0 x1 xz0 xz1 hc
    have R:iW w w.heap.size (w.heap.size+1) n zs (.int .i64 ((k:Int)+1)) ((wr.setCell ⟨w.heap.size+1,0,none⟩ (.int .u64 (lo V'))).drew):=⟨k+1,by omega,by go_num,br'.drew,bx'.drew.same hT',hb'.drew⟩
    clear hT' bx' br' hb'
    go_wp2_with fail
    go_roundw
    case rel=>exact R
    case measure=>simp[intOf];omega
   ·skip
    go_wp2_with fail
    go_region
    obtain⟨e1,e2⟩:=mJ V z k (by omega) hk16 hVl z0 z1
    rw[e1]
    obtain⟨V',hV'⟩:∃V',V'=V+z.toNat*2 ^ (8*k):=⟨_,rfl⟩
    rw[<-hV'] at e2⊢
    have hT':=hT.out z hzz.out
    rw[<-hV'] at hT'
    have bx':=bx.set1 V' e2
    have br':=br.far (p:=⟨w.heap.size+1,1,none⟩) (by simp) (.int .u64 (hi V'))
    have hb':=hb.setCell (p:=⟨w.heap.size+1,1,none⟩) (by simp) (.int .u64 (hi V'))
    clear e1 e2 hV' x0 x1 xz0 xz1 hc
    have R:iW w w.heap.size (w.heap.size+1) n zs (.int .i64 ((k:Int)+1)) ((wr.setCell ⟨w.heap.size+1,1,none⟩ (.int .u64 (hi V'))).drew):=⟨k+1,by omega,by go_num,br'.drew,bx'.drew.same hT',hb'.drew⟩
    clear hT' bx' br' hb'
    go_wp2_with fail
    go_roundw
    case rel=>exact R
    case measure=>simp[intOf];omega
  ·obtain rfl:k=n:=by omega
   obtain⟨V,hV⟩:∃V,V=aO (zs.take k):=⟨_,rfl⟩
   rw[<-hV] at bx
   have HV:=aa hV
   clear hV
   have q0:decide ((k:Int)<(k:Int))=false:=by simp
   obtain⟨x0,x1,xz0,xz1⟩:=bx.facts
   obtain⟨r0,r1,rz0,rz1⟩:=br.facts
   go_wp2_with fail
   clear x0 x1 xz0 xz1 r0 r1 rz0 rz1
   have br:=br.set_ V
   have hb:=aL (g:=w.heap.size) hb (by omega) (.int .u64 (lo V)) (.int .u64 (hi V))
   obtain⟨W9,hW9⟩:∃W,W=(wr.setCell ⟨w.heap.size,0,none⟩ (.int .u64 (lo V))).setCell ⟨w.heap.size,1,none⟩ (.int .u64 (hi V)):=⟨_,rfl⟩
   rw[<-hW9] at br hb⊢
   clear hW9
   obtain⟨r0,r1,rz0,rz1⟩:=br.facts
   exact bodyPost_ret (v:=vv V) (by simp[results,Tryz.results112,go_sem,r0,r1]) rfl ⟨by rw[HV.out],hb⟩
theorem pZ (A:Option Addr) (n c:Nat) (zs:List Int) (B:Nat) (w:World) (hn:Hid (zs.length=n)) (hnc:n<=c) (hm:n<=9223372036854775807) (hs:an w B A (aq zs)) (hB:B<=w.heap.size) (hz:Hid (∀z∈zs,0<=z/\z<=255))
  (hle:16<n) :
  Calls Tryz.prog 112 #[.slice A n c] w fun e w'=>e=.returned (vv (aO (zs.take 16)))/\Below w.heap.size w w':=by
 go_enter Tryz.func112,Tryz.ntmps112
 go_wp2_with fail
 go_loopw [4] (fun i wr=>iW w w.heap.size (w.heap.size+1) 16 zs i wr) (fun i _=> 16-(intOf i).toNat)
 case atStart=>exact⟨0,by omega,rfl,(Box.new w 0).alloc _,((Box.new _ 0).at_ (by simp)).same (by simp[aO]),aP _ _ _⟩
 case round=>
  obtain⟨k,hk,rfl,br,bx,hb⟩:=hrel
  by_cases hlt:k<16
  ·have hk16:k<16:=by omega
   have q0:decide ((k:Int)<(n:Int))=true:=by simp;omega
   have q1:decide ((k:Int)<16)=true:=by simp;omega
   obtain⟨b,off,z,rfl,hbl,hc0,z0,z1,hzz⟩:=kb hs (k:=k) (by have:=hn.out;omega) hz.out
   have hc:wr.cell? ⟨b,off+k,none⟩=some (.int .u8 z):=(hb.cell (p:=⟨b,off+k,none⟩) (by simp;omega)).trans hc0
   clear hc0 hs
   have hVl:=fe zs k (by have:=hn.out;omega) hz.out
   have hT:Hid (∀z,zs[k]?=some z->aO (zs.take k)+z.toNat*2 ^ (8*k)=aO (zs.take (k+1))):=aa fun z h=>(gQ zs k z h).symm
   obtain⟨V,hV⟩:∃V,V=aO (zs.take k):=⟨_,rfl⟩
   rw[<-hV] at bx hT hVl
   clear hV
   obtain⟨x0,x1,xz0,xz1⟩:=bx.facts
   obtain⟨l0,l1⟩:=cM V
   obtain⟨h0,h1⟩:=cQ V
   by_cases h8:k<8
   ·skip
    go_wp2_with fail
    go_region
    obtain⟨e1,e2⟩:=mI V z k h8 hVl z0 z1
    rw[e1]
    obtain⟨V',hV'⟩:∃V',V'=V+z.toNat*2 ^ (8*k):=⟨_,rfl⟩
    rw[<-hV'] at e2⊢
    have hT':=hT.out z hzz.out
    rw[<-hV'] at hT'
    have bx':=bx.set0 V' e2
    have br':=br.far (p:=⟨w.heap.size+1,0,none⟩) (by simp) (.int .u64 (lo V'))
    have hb':=hb.setCell (p:=⟨w.heap.size+1,0,none⟩) (by simp) (.int .u64 (lo V'))
    clear e1 e2 hV' x0 x1 xz0 xz1 hc
    have R:iW w w.heap.size (w.heap.size+1) 16 zs (.int .i64 ((k:Int)+1)) ((wr.setCell ⟨w.heap.size+1,0,none⟩ (.int .u64 (lo V'))).drew):=⟨k+1,by omega,by go_num,br'.drew,bx'.drew.same hT',hb'.drew⟩
    clear hT' bx' br' hb'
    go_wp2_with fail
    go_roundw
    case rel=>exact R
    case measure=>simp[intOf];omega
   ·skip
    go_wp2_with fail
    go_region
    obtain⟨e1,e2⟩:=mJ V z k (by omega) hk16 hVl z0 z1
    rw[e1]
    obtain⟨V',hV'⟩:∃V',V'=V+z.toNat*2 ^ (8*k):=⟨_,rfl⟩
    rw[<-hV'] at e2⊢
    have hT':=hT.out z hzz.out
    rw[<-hV'] at hT'
    have bx':=bx.set1 V' e2
    have br':=br.far (p:=⟨w.heap.size+1,1,none⟩) (by simp) (.int .u64 (hi V'))
    have hb':=hb.setCell (p:=⟨w.heap.size+1,1,none⟩) (by simp) (.int .u64 (hi V'))
    clear e1 e2 hV' x0 x1 xz0 xz1 hc
    have R:iW w w.heap.size (w.heap.size+1) 16 zs (.int .i64 ((k:Int)+1)) ((wr.setCell ⟨w.heap.size+1,1,none⟩ (.int .u64 (hi V'))).drew):=⟨k+1,by omega,by go_num,br'.drew,bx'.drew.same hT',hb'.drew⟩
    clear hT' bx' br' hb'
    go_wp2_with fail
    go_roundw
    case rel=>exact R
    case measure=>simp[intOf];omega
  ·obtain rfl:k=16:=by omega
   obtain⟨V,hV⟩:∃V,V=aO (zs.take 16):=⟨_,rfl⟩
   rw[<-hV] at bx
   have HV:=aa hV
   clear hV
   have q0:decide ((16:Int)<(n:Int))=true:=by simp;omega
   obtain⟨x0,x1,xz0,xz1⟩:=bx.facts
   obtain⟨r0,r1,rz0,rz1⟩:=br.facts
   go_wp2_with fail
   clear x0 x1 xz0 xz1 r0 r1 rz0 rz1
   have br:=br.set_ V
   have hb:=aL (g:=w.heap.size) hb (by omega) (.int .u64 (lo V)) (.int .u64 (hi V))
   obtain⟨W9,hW9⟩:∃W,W=(wr.setCell ⟨w.heap.size,0,none⟩ (.int .u64 (lo V))).setCell ⟨w.heap.size,1,none⟩ (.int .u64 (hi V)):=⟨_,rfl⟩
   rw[<-hW9] at br hb⊢
   clear hW9
   obtain⟨r0,r1,rz0,rz1⟩:=br.facts
   exact bodyPost_ret (v:=vv V) (by simp[results,Tryz.results112,go_sem,r0,r1]) rfl ⟨by rw[HV.out],hb⟩
theorem tA (A:Option Addr) (n c:Nat) (zs:List Int) (B:Nat) (w:World) (hn:Hid (zs.length=n)) (hnc:n<=c) (hm:n<=9223372036854775807) (hs:an w B A (aq zs)) (hB:B<=w.heap.size) (hz:Hid (∀z∈zs,0<=z/\z<=255)) :
  Calls Tryz.prog 112 #[.slice A n c] w fun e w'=>e=.returned (vv (aO (zs.take 16)))/\Below w.heap.size w w':=by
 by_cases hle:n<=16
 ·have h:=pY A n c zs B w hn hnc hm hs hB hz hle
  rw[List.take_of_length_le (by have:=hn.out;omega)] at h
  rwa[List.take_of_length_le (by have:=hn.out;omega)]
 ·exact pZ A n c zs B w hn hnc hm hs hB hz (by omega)
section
attribute [local go_sem ↓] Go.wp_at_zero Go.wp_at_succ
theorem kR {A1 A2:Option Addr} {c1 c2:Nat} {S:Sk} (off n:Int) (ho:isI off) (w:World) (hS:Hid (StkAt w w.heap.size A1 c1 A2 c2 S)) :
  Calls Tryz.prog 74 #[sv A1 c1 A2 c2 S,.int .i64 off,.int .i64 n] w (cS S off n w):=by
 have hok:=aa hS.out.ok
 have hmost:=hS.out.ok.most
 have hsp:=hS.out.ok.sp
 have hm1:=hS.out.m1
 have hm2:=hS.out.m2
 obtain⟨W0,hW0⟩:∃W,(w.alloc (.cells #[.slice A1 S.bs.length c1,.slice A2 S.bs.length c2,.int .i64 (S.sp:Int)] 66)).alloc (.cells #[.int .u64 0,.int .u64 0] 38)=W:=⟨_,rfl⟩
 have HW0:=aa hW0
 have RX0:=aa (show Row W0 (w.heap.size) 66 [.slice A1 S.bs.length c1,.slice A2 S.bs.length c2,.int .i64 (S.sp:Int)] by rw[<-hW0];exact((Row.new w 66 [.slice A1 S.bs.length c1,.slice A2 S.bs.length c2,.int .i64 (S.sp:Int)]).alloc _))
 have RZ0:=aa (show Row W0 (w.heap.size+1) 38 [.int .u64 0,.int .u64 0] by rw[<-hW0];exact(Row.new (w.alloc (.cells #[.slice A1 S.bs.length c1,.slice A2 S.bs.length c2,.int .i64 (S.sp:Int)] 66)) 38 [.int .u64 0,.int .u64 0]).at_ (by simp))
 have B0:=aa (show Below w.heap.size w W0 by rw[<-hW0];exact aP w _ _)
 have Z0:=aa (show W0.heap.size=w.heap.size+2 by rw[<-hW0];simp)
 clear hW0
 have S0:=aa ((hS.out.below B0.out).more B0.out.size)
 cases hf:bN S off n with
 | false=>
  obtain⟨hE,hB,hV⟩:=qu hf
  have HE:=aa (show cS S off n w=fun e w'=>e=.returned (.tuple #[.agg #[.int .u64 0,.int .u64 0],.bool false,.int .i64 4])/\Below w.heap.size w w' by unfold cS;rw[hE,hB,hV,kw])
  rw[HE.out]
  clear hE hB hV
  have cf:=fun(W:World) (HS:Hid (StkAt W W.heap.size A1 c1 A2 c2 S))=>gW (A1:=A1) (A2:=A2) (c1:=c1) (c2:=c2) off n W hok ho
  rw[hf] at cf
  clear hf
  go_enter Tryz.func74,Tryz.ntmps74
  go_upto_region 1 with(fail)
  rw[HW0.out]
  have fX0:=RX0.out.cell (k:=0) rfl
  have fX1:=RX0.out.cell (k:=1) rfl
  have fX2:=RX0.out.cell (k:=2) rfl
  go_wp2_with fail
  refine(cf _ S0).mono ?_
  rintro e w1 ⟨rfl,hb1⟩
  have RX2:=aa (RX0.out.call hb1)
  clear RX0
  have RZ2:=aa (RZ0.out.call hb1)
  clear RZ0
  have S12:=aa (S0.out.call hb1)
  clear S0
  have B2:=aa (ac B0.out hb1)
  clear B0
  clear hb1
  clear fX0 fX1 fX2
  have fX0:=RX2.out.cell (k:=0) rfl
  have fX1:=RX2.out.cell (k:=1) rfl
  have fX2:=RX2.out.cell (k:=2) rfl
  have fZ0:=RZ2.out.cell (k:=0) rfl
  have fZ1:=RZ2.out.cell (k:=1) rfl
  have yZ0:=RZ2.out.free 0
  have yZ1:=RZ2.out.free 1
  go_wp2_with fail
  obtain⟨W3,hW3⟩:∃W,(w1.setCell ⟨w.heap.size+1,0,none⟩ (.int .u64 0)).setCell ⟨w.heap.size+1,1,none⟩ (.int .u64 0)=W:=⟨_,rfl⟩
  have HW3:=aa hW3
  have RZ3:=aa (show Row W3 (w.heap.size+1) 38 [.int .u64 0,.int .u64 0] by rw[<-hW3];exact((RZ2.out).set_ 0 _).set_ 1 _)
  have RX3:=aa (show Row W3 (w.heap.size) 66 [.slice A1 S.bs.length c1,.slice A2 S.bs.length c2,.int .i64 (S.sp:Int)] by rw[<-hW3];exact((RX2.out).far (p:=⟨w.heap.size+1,0,none⟩) (by simp) _).far (p:=⟨w.heap.size+1,1,none⟩) (by simp) _)
  clear RX2
  have B3:=aa (show Below w.heap.size w W3 by rw[<-hW3];exact ay (ay (B2.out) (by omega)) (by omega))
  clear hW3 RZ2
  clear fX0 fX1 fX2 fZ0 fZ1 yZ0 yZ1
  have fZ0:=RZ3.out.cell (k:=0) rfl
  have fZ1:=RZ3.out.cell (k:=1) rfl
  rw[HW3.out]
  refine bodyPost_ret (v:=.tuple #[.agg #[.int .u64 0,.int .u64 0],.bool false,.int .i64 4]) (by simp[results,Tryz.results74,go_sem,fZ0,fZ1]) rfl ?_
  exact⟨rfl,B3.out⟩
 | true=>
  obtain⟨o,m,rfl,rfl,hm0,hm16,hfit⟩:=gM hf
  have cf:=fun(W:World) (HS:Hid (StkAt W W.heap.size A1 c1 A2 c2 S))=>gW (A1:=A1) (A2:=A2) (c1:=c1) (c2:=c2) (o:Int) (m:Int) W hok ho
  rw[hf] at cf
  have cu:=fun(W:World) (HS:Hid (StkAt W W.heap.size A1 c1 A2 c2 S))=>ta o m W HS hfit
  cases hu:dg S (S.sp+o) m with
  | false=>
   obtain⟨hE,hB,hV⟩:=eT hf hu
   have HE:=aa (show cS S o m w=fun e w'=>e=.returned (.tuple #[.agg #[.int .u64 0,.int .u64 0],.bool false,.int .i64 0])/\Below w.heap.size w w' by unfold cS;rw[hE,hB,hV,kw])
   rw[HE.out]
   clear hE hB hV hf
   rw[hu] at cu
   clear hu
   go_enter Tryz.func74,Tryz.ntmps74
   go_upto_region 1 with(fail)
   rw[HW0.out]
   have fX0:=RX0.out.cell (k:=0) rfl
   have fX1:=RX0.out.cell (k:=1) rfl
   have fX2:=RX0.out.cell (k:=2) rfl
   go_wp2_with fail
   refine(cf _ S0).mono ?_
   rintro e w1 ⟨rfl,hb1⟩
   have RX2:=aa (RX0.out.call hb1)
   clear RX0
   have RZ2:=aa (RZ0.out.call hb1)
   clear RZ0
   have S12:=aa (S0.out.call hb1)
   clear S0
   have B2:=aa (ac B0.out hb1)
   clear B0
   clear hb1
   clear fX0 fX1 fX2
   have fX0:=RX2.out.cell (k:=0) rfl
   have fX1:=RX2.out.cell (k:=1) rfl
   have fX2:=RX2.out.cell (k:=2) rfl
   go_wp2_with fail
   refine(cu _ S12).mono ?_
   rintro e w3 ⟨rfl,hb3⟩
   have RX4:=aa (RX2.out.call hb3)
   clear RX2
   have RZ4:=aa (RZ2.out.call hb3)
   clear RZ2
   have S14:=aa (S12.out.call hb3)
   clear S12
   have B4:=aa (ac B2.out hb3)
   clear B2
   clear hb3
   clear fX0 fX1 fX2
   have fX0:=RX4.out.cell (k:=0) rfl
   have fX1:=RX4.out.cell (k:=1) rfl
   have fX2:=RX4.out.cell (k:=2) rfl
   have fZ0:=RZ4.out.cell (k:=0) rfl
   have fZ1:=RZ4.out.cell (k:=1) rfl
   have yZ0:=RZ4.out.free 0
   have yZ1:=RZ4.out.free 1
   go_wp2_with fail
   obtain⟨W5,hW5⟩:∃W,(w3.setCell ⟨w.heap.size+1,0,none⟩ (.int .u64 0)).setCell ⟨w.heap.size+1,1,none⟩ (.int .u64 0)=W:=⟨_,rfl⟩
   have HW5:=aa hW5
   have RZ5:=aa (show Row W5 (w.heap.size+1) 38 [.int .u64 0,.int .u64 0] by rw[<-hW5];exact((RZ4.out).set_ 0 _).set_ 1 _)
   have RX5:=aa (show Row W5 (w.heap.size) 66 [.slice A1 S.bs.length c1,.slice A2 S.bs.length c2,.int .i64 (S.sp:Int)] by rw[<-hW5];exact((RX4.out).far (p:=⟨w.heap.size+1,0,none⟩) (by simp) _).far (p:=⟨w.heap.size+1,1,none⟩) (by simp) _)
   clear RX4
   have B5:=aa (show Below w.heap.size w W5 by rw[<-hW5];exact ay (ay (B4.out) (by omega)) (by omega))
   clear hW5 RZ4
   clear fX0 fX1 fX2 fZ0 fZ1 yZ0 yZ1
   have fZ0:=RZ5.out.cell (k:=0) rfl
   have fZ1:=RZ5.out.cell (k:=1) rfl
   rw[HW5.out]
   refine bodyPost_ret (v:=.tuple #[.agg #[.int .u64 0,.int .u64 0],.bool false,.int .i64 0]) (by simp[results,Tryz.results74,go_sem,fZ0,fZ1]) rfl ?_
   exact⟨rfl,B5.out⟩
  | true=>
   obtain⟨hE,hB,hV⟩:=gC hf hu
   obtain⟨V,hVV⟩:∃V,aO ((dz S (S.sp+o) m).take 16)=V:=⟨_,rfl⟩
   rw[hVV] at hV
   have HE:=aa (show cS S o m w=fun e w'=>e=.returned (.tuple #[.agg #[.int .u64 (lo V),.int .u64 (hi V)],.bool true,.int .i64 0])/\Below w.heap.size w w' by unfold cS;rw[hE,hB,hV])
   rw[HE.out]
   clear hE hB hV hf
   rw[hu] at cu
   clear hu
   obtain⟨⟨b,off,hA,hbl⟩,_⟩:=hS.out.place (by omega)
   subst hA
   have hcl:=aa (fV (S:=S) (a:=S.sp+o) (n:=m) hfit)
   have hcb:=aa (iy hok.out (S.sp+o) m)
   have cm:=fun(W:World) (HS:Hid (StkAt W W.heap.size (some ⟨b,off,none⟩) c1 A2 c2 S))=>tA (some ⟨b,off+(S.sp+o),none⟩) m (c1-(S.sp+o)) (dz S (S.sp+o) m) W.heap.size W hcl (by omega) (by omega) (by have:=HS.out.cut (S.sp+o) m;rwa[Option.map_some,WideShapes.add_plain] at this) (Nat.le_refl _) hcb
   rw[hVV] at cm
   clear hVV
   go_enter Tryz.func74,Tryz.ntmps74
   go_upto_region 1 with(fail)
   rw[HW0.out]
   have fX0:=RX0.out.cell (k:=0) rfl
   have fX1:=RX0.out.cell (k:=1) rfl
   have fX2:=RX0.out.cell (k:=2) rfl
   go_wp2_with fail
   refine(cf _ S0).mono ?_
   rintro e w1 ⟨rfl,hb1⟩
   have RX2:=aa (RX0.out.call hb1)
   clear RX0
   have RZ2:=aa (RZ0.out.call hb1)
   clear RZ0
   have S12:=aa (S0.out.call hb1)
   clear S0
   have B2:=aa (ac B0.out hb1)
   clear B0
   clear hb1
   clear fX0 fX1 fX2
   have fX0:=RX2.out.cell (k:=0) rfl
   have fX1:=RX2.out.cell (k:=1) rfl
   have fX2:=RX2.out.cell (k:=2) rfl
   go_wp2_with fail
   refine(cu _ S12).mono ?_
   rintro e w3 ⟨rfl,hb3⟩
   have RX4:=aa (RX2.out.call hb3)
   clear RX2
   have RZ4:=aa (RZ2.out.call hb3)
   clear RZ2
   have S14:=aa (S12.out.call hb3)
   clear S12
   have B4:=aa (ac B2.out hb3)
   clear B2
   clear hb3
   clear fX0 fX1 fX2
   have fX0:=RX4.out.cell (k:=0) rfl
   have fX1:=RX4.out.cell (k:=1) rfl
   have fX2:=RX4.out.cell (k:=2) rfl
   go_wp2_with fail
   refine(cm _ S14).mono ?_
   rintro e w5 ⟨rfl,hb5⟩
   have RX6:=aa (RX4.out.call hb5)
   clear RX4
   have RZ6:=aa (RZ4.out.call hb5)
   clear RZ4
   have S16:=aa (S14.out.call hb5)
   clear S14
   have B6:=aa (ac B4.out hb5)
   clear B4
   clear hb5
   clear fX0 fX1 fX2
   have fX0:=RX6.out.cell (k:=0) rfl
   have fX1:=RX6.out.cell (k:=1) rfl
   have fX2:=RX6.out.cell (k:=2) rfl
   have fZ0:=RZ6.out.cell (k:=0) rfl
   have fZ1:=RZ6.out.cell (k:=1) rfl
   have yZ0:=RZ6.out.free 0
   have yZ1:=RZ6.out.free 1
   go_wp2_with fail
   obtain⟨W7,hW7⟩:∃W,(w5.setCell ⟨w.heap.size+1,0,none⟩ (.int .u64 (lo V))).setCell ⟨w.heap.size+1,1,none⟩ (.int .u64 (hi V))=W:=⟨_,rfl⟩
   have HW7:=aa hW7
   have RZ7:=aa (show Row W7 (w.heap.size+1) 38 [.int .u64 (lo V),.int .u64 (hi V)] by rw[<-hW7];exact((RZ6.out).set_ 0 _).set_ 1 _)
   have RX7:=aa (show Row W7 (w.heap.size) 66 [.slice (some ⟨b,off,none⟩) S.bs.length c1,.slice A2 S.bs.length c2,.int .i64 (S.sp:Int)] by rw[<-hW7];exact((RX6.out).far (p:=⟨w.heap.size+1,0,none⟩) (by simp) _).far (p:=⟨w.heap.size+1,1,none⟩) (by simp) _)
   clear RX6
   have B7:=aa (show Below w.heap.size w W7 by rw[<-hW7];exact ay (ay (B6.out) (by omega)) (by omega))
   clear hW7 RZ6
   clear fX0 fX1 fX2 fZ0 fZ1 yZ0 yZ1
   have fZ0:=RZ7.out.cell (k:=0) rfl
   have fZ1:=RZ7.out.cell (k:=1) rfl
   rw[HW7.out]
   refine bodyPost_ret (v:=.tuple #[.agg #[.int .u64 (lo V),.int .u64 (hi V)],.bool true,.int .i64 0]) (by simp[results,Tryz.results74,go_sem,fZ0,fZ1]) rfl ?_
   exact⟨rfl,B7.out⟩
end
theorem lP {Al:Int} {F:Tg} (h:80<F.length):tgE Al F=3:=by unfold tgE;rw[if_pos h]
theorem iP {Al:Int} {F:Tg} {f:Fm} (h:F.length<=80) (hf:F[0]?=some f) (ha:aR Al=false\/Al<16):tgE Al F=5:=by
 unfold tgE
 rw[if_neg (by omega)]
 cases F with
 | nil=>simp at hf
 | cons g r=>simp only;rw[if_pos ha]
theorem kP {Al:Int} {F:Tg} {f:Fm} (h:F.length<=80) (hf:F[0]?=some f) (ha:aR Al=true/\16<=Al) (hp:f.params≠0):tgE Al F=7:=by
 unfold tgE
 rw[if_neg (by omega)]
 cases F with
 | nil=>simp at hf
 | cons g r=>
  simp at hf;subst hf
  simp only
  rw[if_neg (by rintro(h|h);exact absurd ha.1 (by simp[h]);omega),if_pos hp]
theorem kh {Al:Int} {F:Tg} {f:Fm} (h:F.length<=80) (hf:F[0]?=some f) (ha:aR Al=true/\16<=Al) (hp:f.params=0):tgE Al F=if cC (F.map (fmE Al F.length))≠0 then cC (F.map (fmE Al F.length)) else if F.all (dD F) then 0 else 7:=by
 unfold tgE
 rw[if_neg (by omega)]
 cases F with
 | nil=>simp at hf
 | cons g r=>
  simp at hf;subst hf
  simp only
  rw[if_neg (by rintro(h|h);exact absurd ha.1 (by simp[h]);omega),if_neg (by simpa using hp)]
theorem jk {Al:Int} {N:Nat} {f:Fm} (h:fmE Al N f=0):shB Al f=true/\f.code.length<=1024/\(∀x∈f.code,aC N f x=0)/\cB f.code=true:=by
 unfold fmE at h
 have hf:=@du (f.code.map (aC N f))
 simp only[List.mem_map,forall_exists_index,and_imp,forall_apply_eq_imp_iff₂] at hf
 by_cases h1:shB Al f=true
 ·rw[if_neg (by simp[h1])] at h
  by_cases h2:1024<f.code.length
  ·rw[if_pos h2] at h;omega
  ·rw[if_neg h2] at h
   by_cases h3:cC (f.code.map (aC N f))=0
   ·rw[if_neg (by simpa using h3)] at h
    by_cases h4:cB f.code=true
    ·exact⟨h1,by omega,hf.1 h3,h4⟩
    ·rw[if_pos (by simpa using h4)] at h;omega
   ·rw[if_pos (by simpa using h3)] at h;exact absurd h h3
 ·rw[if_pos (by simpa using h1)] at h;omega
theorem dQ (N C k n:Int):aB N C k n=0\/aB N C k n=2\/aB N C k n=4\/aB N C k n=5\/aB N C k n=6:=by unfold aB;(repeat' split)<;>simp
theorem jR {e1 e2 e3 imm:Int} {m cov:Bool} (c1:e1=0\/e1=2\/e1=4\/e1=5\/e1=6) (c2:e2=0\/e2=2\/e2=4\/e2=5\/e2=6) (c3:e3=0\/e3=2\/e3=4\/e3=5\/e3=6) :
  kq (fH e1 e2 e3 m imm) cov=if e1=2\/e2=2\/e3=2\/(m=false/\imm≠0) then 2 else if e1=4\/e2=4\/e3=4 then 4 else if e1=5\/e2=5\/e3=5 then 5 else if cov=false then 4 else if e1=6\/e2=6\/e3=6 then 6 else 0:=by
 unfold fH
 by_cases h:m=false/\imm≠0
 ·rw[if_pos h]
  simp[kq,h]
 ·rw[if_neg h]
  cases cov<;>rcases c1 with rfl|rfl|rfl|rfl|rfl<;>rcases c2 with rfl|rfl|rfl|rfl|rfl<;>rcases c3 with rfl|rfl|rfl|rfl|rfl<;>simp[kq,h]
theorem nM {N:Nat} {f:Fm} {x:Ins} (h:aC N f x=0) (h22:x.op=22):0<=x.a/\x.a<N:=by
 unfold aC at h
 have he:exB x.op=true:=by rw[h22];rfl
 rw[if_neg (by simp[he])] at h
 unfold eJ at h
 rw[jR (dQ _ _ _ _) (dQ _ _ _ _) (dQ _ _ _ _)] at h
 by_cases hw:ax x.a N=true
 ·exact ai.1 hw
 ·exfalso
  have e1:aB N f.code.length (ap x.op).1 x.a=4:=by
   rw[h22]
   show aB N f.code.length 4 x.a=4
   unfold aB
   simp[hw]
  split at h
  ·omega
  ·rw[if_pos (.inl e1)] at h;omega
theorem iQ {N:Nat} {f:Fm} {x:Ins} (h:aC N f x=0) :
  exB x.op=true/\aB N f.code.length (ap x.op).1 x.a=0/\aB N f.code.length (ap x.op).2.1 x.b=0/\aB N f.code.length (ap x.op).2.2.1 x.c=0/\((ap x.op).2.2.2=true\/x.imm=0)/\el f.params f.size x=true:=by
 unfold aC at h
 by_cases he:exB x.op=true
 ·rw[if_neg (by simp[he])] at h
  unfold eJ at h
  have c1:=dQ N f.code.length (ap x.op).1 x.a
  have c2:=dQ N f.code.length (ap x.op).2.1 x.b
  have c3:=dQ N f.code.length (ap x.op).2.2.1 x.c
  rw[jR c1 c2 c3] at h
  refine⟨he,?_⟩
  generalize aB N f.code.length (ap x.op).1 x.a=e1 at *
  generalize aB N f.code.length (ap x.op).2.1 x.b=e2 at *
  generalize aB N f.code.length (ap x.op).2.2.1 x.c=e3 at *
  generalize(ap x.op).2.2.2=m at *
  generalize el f.params f.size x=cv at *
  by_cases h2:e1=2\/e2=2\/e3=2\/(m=false/\x.imm≠0)
  ·rw[if_pos h2] at h;exact absurd h (by decide)
  ·rw[if_neg h2] at h
   by_cases h4:e1=4\/e2=4\/e3=4
   ·rw[if_pos h4] at h;exact absurd h (by decide)
   ·rw[if_neg h4] at h
    by_cases h5:e1=5\/e2=5\/e3=5
    ·rw[if_pos h5] at h;exact absurd h (by decide)
    ·rw[if_neg h5] at h
     by_cases hc:cv=false
     ·rw[if_pos hc] at h;exact absurd h (by decide)
     ·rw[if_neg hc] at h
      by_cases h6:e1=6\/e2=6\/e3=6
      ·rw[if_pos h6] at h;exact absurd h (by decide)
      ·refine⟨by omega,by omega,by omega,?_,by simpa using hc⟩
       cases m
       ·right
        exact Decidable.not_not.1 fun hh=>h2 (.inr (.inr (.inr ⟨rfl,hh⟩)))
       ·exact .inl rfl
 ·rw[if_pos (by simpa using he)] at h;exact absurd h (by decide)
theorem ly {N C n:Int} (h:aB N C 1 n=0):∃i:Nat,n=(i:Int)/\i<8:=by
 unfold aB at h
 rw[if_neg (by decide),if_pos rfl] at h
 by_cases hw:ax n 8=true
 ·have:=ai.1 hw;exact⟨n.toNat,by omega,by omega⟩
 ·rw[if_neg hw] at h;exact absurd h (by decide)
theorem wq {N C n:Int} (h:aB N C 0 n=0):n=0:=by
 unfold aB at h
 rw[if_pos rfl] at h
 by_cases hw:n=0
 ·exact hw
 ·rw[if_neg hw] at h;exact absurd h (by decide)
theorem wo {N C n:Int} (h:aB N C 3 n=0):szB n=true:=by
 unfold aB at h
 rw[if_neg (by decide),if_neg (by decide),if_neg (by decide),if_pos rfl] at h
 by_cases hw:szB n=true
 ·exact hw
 ·rw[if_neg hw] at h;exact absurd h (by decide)
theorem ul {N C n:Int} (h:aB N C 4 n=0):0<=n/\n<N:=by
 unfold aB at h
 rw[if_neg (by decide),if_neg (by decide),if_pos rfl] at h
 by_cases hw:ax n N=true
 ·exact ai.1 hw
 ·rw[if_neg hw] at h;exact absurd h (by decide)
theorem mP {N C n:Int} (h:aB N C 5 n=0):0<=n/\n<C:=by
 unfold aB at h
 rw[if_neg (by decide),if_neg (by decide),if_neg (by decide),if_neg (by decide),if_pos rfl] at h
 by_cases hw:ax n C=true
 ·exact ai.1 hw
 ·rw[if_neg hw] at h;exact absurd h (by decide)
structure RightT (Al:Int) (F:Tg):Prop where
 n80:F.length<=80
 al:aR Al=true/\16<=Al
 z:∃f,F[0]?=some f/\f.params=0
 f:∀f∈F,shB Al f=true/\f.code.length<=1024/\(∀x∈f.code,aC F.length f x=0)/\cB f.code=true
 room:∀f∈F,∀x∈f.code,dS F f x=true
theorem kT {Al:Int} {F:Tg} (h:tgE Al F=0):RightT Al F:=by
 have h80:F.length<=80:=by
  rcases Nat.lt_or_ge 80 F.length with h1|h1
  ·rw[lP h1] at h;exact absurd h (by decide)
  ·exact h1
 cases hF:F with
 | nil=>subst hF;exact absurd (show(4:Int)=0 from h) (by decide)
 | cons f r=>
  rw[<-hF]
  have hf:F[0]?=some f:=by rw[hF];rfl
  by_cases ha:aR Al=true/\16<=Al
  ·by_cases hp:f.params=0
   ·rw[kh h80 hf ha hp] at h
    by_cases h4:cC (F.map (fmE Al F.length))=0
    ·rw[if_neg (by simpa using h4)] at h
     by_cases h5:F.all (dD F)=true
     ·refine⟨h80,ha,⟨f,hf,hp⟩,fun g hg=>jk (du.1 h4 _ (List.mem_map.2 ⟨g,hg,rfl⟩)),fun g hg x hx=>?_⟩
      have:=List.all_eq_true.1 h5 g hg
      unfold dD at this
      exact List.all_eq_true.1 this x hx
     ·rw[if_neg h5] at h;exact absurd h (by decide)
    ·rw[if_pos h4] at h;exact absurd h h4
   ·rw[kP h80 hf ha hp] at h;exact absurd h (by decide)
  ·rw[iP h80 hf (by
    by_cases h1:aR Al=true
    ·exact .inr (Int.not_le.1 fun h2=>ha ⟨h1,h2⟩)
    ·exact .inl (by simpa using h1))] at h
   exact absurd h (by decide)
theorem j6 {F:Tg} {n:Nat} {f:Fm} (h:F[n]?=some f):fX F n=f:=by unfold fX;rw[List.getD_eq_getElem?_getD,h];rfl
theorem gG {Al:Int} {f:Fm} (h:shB Al f=true):aR Al=true/\(0<=f.params/\f.params<9)/\(0<=f.size/\f.size<2147483520)/\f.size % Al=0:=by
 unfold shB at h
 simp only[Bool.and_eq_true,decide_eq_true_eq] at h
 exact⟨h.1,ai.1 h.2.1,ai.1 h.2.2.1,h.2.2.2⟩
structure StOk (F:Tg) (st:List (Nat×Nat)):Prop where
 fn:∀a∈st,∃f,F[a.1]?=some f/\a.2<f.code.length
 zero:∀a,st[0]?=some a->a.1=0
 chain:∀(k:Nat) (a b:Nat×Nat),st[k]?=some a->st[k+1]?=some b->16*(fX F b.1).params<=(fX F a.1).size
def gT (F:Tg) (st:List (Nat×Nat)):Nat:=(st.map fun a=>fsz F a.1).sum
theorem eC (F:Tg) (l m:List (Nat×Nat)):gT F (l++m)=gT F l+gT F m:=by simp[gT]
theorem dI (F:Tg) (a:Nat×Nat):gT F [a]=fsz F a.1:=by simp[gT]
section
variable {F:Tg} {ys:List (Nat×Nat)} {z:Nat×Nat}
theorem StOk.pop (h:StOk F (ys++[z])):StOk F ys:=by
 refine⟨fun a ha=>h.fn a (List.mem_append_left _ ha),fun a ha=>h.zero a ?_,fun k a b ha hb=>h.chain k a b ?_ ?_⟩
 ·rw[List.getElem?_append_left (List.getElem?_eq_some_iff.1 ha).1];exact ha
 ·rw[List.getElem?_append_left (List.getElem?_eq_some_iff.1 ha).1];exact ha
 ·rw[List.getElem?_append_left (List.getElem?_eq_some_iff.1 hb).1];exact hb
theorem eV (ys:List (Nat×Nat)) (z:Nat×Nat) (k:Nat) (a:Nat×Nat) (h:(ys++[z])[k]?=some a):(k<ys.length/\ys[k]?=some a)\/(k=ys.length/\a=z):=by
 rcases Nat.lt_or_ge k ys.length with h1|h1
 ·rw[List.getElem?_append_left h1] at h;exact .inl ⟨h1,h⟩
 ·rw[List.getElem?_append_right h1] at h
  have hk:k-ys.length=0:=by
   rcases Nat.eq_zero_or_pos (k-ys.length) with h2|h2
   ·exact h2
   ·rw[List.getElem?_eq_none (by simp only[List.length_cons,List.length_nil];omega)] at h;cases h
  rw[hk] at h
  exact .inr ⟨by omega,by simpa using h.symm⟩
theorem StOk.turn (h:StOk F (ys++[z])) {pc:Nat} {f:Fm} (hf:F[z.1]?=some f) (hp:pc<f.code.length):StOk F (ys++[(z.1,pc)]):=by
 refine⟨fun a ha=>?_,fun a ha=>?_,fun k a b ha hb=>?_⟩
 ·rcases List.mem_append.1 ha with ha|ha
  ·exact h.fn a (List.mem_append_left _ ha)
  ·obtain rfl:a=(z.1,pc):=by simpa using ha
   exact⟨f,hf,hp⟩
 ·rcases eV _ _ _ _ ha with⟨h1,h2⟩|⟨h1,rfl⟩
  ·exact h.zero a (by rw[List.getElem?_append_left h1];exact h2)
  ·exact h.zero z (by rw[h1];simp)
 ·rcases eV _ _ _ _ hb with⟨h1,h2⟩|⟨h1,rfl⟩
  ·rcases eV _ _ _ _ ha with⟨h3,h4⟩|⟨h3,rfl⟩
   ·exact h.chain k a b (by rw[List.getElem?_append_left h3];exact h4) (by rw[List.getElem?_append_left h1];exact h2)
   ·omega
  ·rcases eV _ _ _ _ ha with⟨h3,h4⟩|⟨h3,rfl⟩
   ·exact h.chain k a z (by rw[List.getElem?_append_left h3];exact h4) (by rw[h1];simp)
   ·omega
theorem StOk.push (h:StOk F (ys++[z])) {n:Nat} {f:Fm} (hf:F[n]?=some f) (hc:1<=f.code.length) (hr:16*f.params<=(fX F z.1).size):StOk F (ys++[z]++[(n,0)]):=by
 refine⟨fun a ha=>?_,fun a ha=>?_,fun k a b ha hb=>?_⟩
 ·rcases List.mem_append.1 ha with ha|ha
  ·exact h.fn a ha
  ·obtain rfl:a=(n,0):=by simpa using ha
   exact⟨f,hf,hc⟩
 ·rcases eV _ _ _ _ ha with⟨_,h2⟩|⟨h1,rfl⟩
  ·exact h.zero a h2
  ·exact absurd h1 (by simp)
 ·rcases eV _ _ _ _ hb with⟨h1,h2⟩|⟨h1,rfl⟩
  ·rcases eV _ _ _ _ ha with⟨_,h4⟩|⟨h3,rfl⟩
   ·exact h.chain k a b h4 h2
   ·omega
  ·rcases eV _ _ _ _ ha with⟨h3,h4⟩|⟨h3,rfl⟩
   ·rcases eV _ _ _ _ h4 with⟨h5,h6⟩|⟨h5,rfl⟩
    ·simp at h1;omega
    ·rw[show fX F (n,0).1=f from j6 hf];exact hr
   ·omega
theorem StOk.start {f:Fm} (hf:F[0]?=some f) (hc:1<=f.code.length):StOk F [(0,0)]:=
 ⟨fun a ha=>by
         obtain rfl:a=(0,0):=by simpa using ha
         exact⟨f,hf,hc⟩,fun a ha=>by
                          have:(0,0)=a:=by simpa using ha
                          rw[<-this],fun k a b _ hb=>by simp at hb⟩
end
theorem lS {F:Tg} {A:Nat} (hA:∀f∈F,A∣f.size.toNat):∀st,A∣gT F st
 | []=>by simp[gT]
 | a::r=>by
  rw[show a::r=[a]++r from rfl,eC,dI]
  refine Nat.dvd_add ?_ (lS hA r)
  unfold fsz fX
  rw[List.getD_eq_getElem?_getD]
  cases e:F[a.1]? with
  | none=>simp
  | some f=>exact hA f (List.mem_of_getElem? e)
structure DeepOk (F:Tg) (T0:Nat) (s:Tm):Prop where
 dl:s.deep<=T0
 dm:∀A,(∀f∈F,A∣f.size.toNat)->A∣s.deep
structure VT (F:Tg) (T0:Nat) (s:Tm):Prop where
 sm:SmallC s.c
 tl:s.c.trace.length<=s.c.steps
 ok:s.mem.Ok
 st:StOk F s.st
 ne:1<=s.st.length
 stl:s.st.length<=s.c.steps+1
 sum:s.mem.sp+gT F s.st=T0
 len:T0<=s.mem.bs.length
 dp:DeepOk F T0 s
def JT (F:Tg) (T0:Nat) (s:Tm):Prop:=(s.c.ended=true/\s.c.kind≠6/\DeepOk F T0 s)\/(s.c.ended=false/\VT F T0 s)
section
variable {F:Tg} {T0:Nat} {s:Tm} {Al:Int}
theorem VT.split (h:VT F T0 s):∃ys z,s.st=ys++[z]/\s.top=z/\s.st.dropLast=ys:=by
 have hn:s.st≠[]:=by intro e;have:=h.ne;rw[e] at this;simp at this
 obtain⟨ys,z,e⟩:∃ys z,s.st=ys++[z]:=⟨s.st.dropLast,s.st.getLast hn,(List.dropLast_concat_getLast hn).symm⟩
 refine⟨ys,z,e,?_,by rw[e,List.dropLast_concat]⟩
 unfold Tm.top
 rw[e,List.getLastD_concat]
theorem VT.next_at (h:VT F T0 s):∃f,F[s.top.1]?=some f/\s.top.2<f.code.length/\f.code[s.top.2]?=some (s.cur F):=by
 obtain⟨ys,z,e,ht,_⟩:=h.split
 obtain⟨f,h1,h2⟩:=h.st.fn z (by rw[e];simp)
 rw[ht]
 refine⟨f,h1,h2,?_⟩
 unfold Tm.cur sY
 rw[ht,j6 h1,List.getD_eq_getElem?_getD,List.getElem?_eq_getElem h2]
 rfl
theorem VT.room (hR:RightT Al F) (h:VT F T0 s) {f:Fm} (hf:F[s.top.1]?=some f):f.size+16*f.params<=(T0:Int)-s.mem.sp:=by
 obtain⟨ys,z,e,ht,_⟩:=h.split
 rw[ht] at hf
 have hsum:=h.sum
 rw[e,eC,dI] at hsum
 have hz:fsz F z.1=f.size.toNat:=by unfold fsz;rw[j6 hf]
 have hs:=(gG (hR.f f (List.mem_of_getElem? hf)).1).2.2.1
 rcases List.eq_nil_or_concat ys with h0|⟨ws,y,h0⟩
 ·subst h0
  have hz0:=h.st.zero z (by rw[e];rfl)
  obtain⟨f0,hf0,hp0⟩:=hR.z
  rw[hz0,hf0] at hf
  injection hf with hf
  subst hf
  rw[hp0]
  omega
 ·rw[List.concat_eq_append] at h0
  subst h0
  have hc:=h.st.chain ws.length y z (by rw[e];simp) (by rw[e];simp)
  rw[j6 hf] at hc
  rw[eC,dI] at hsum
  have hy:(fX F y.1).size<=(fsz F y.1:Int):=by unfold fsz;omega
  omega
theorem nl {op:Int} (h:exB op=true):0<=op/\op<25/\op≠18/\op≠19:=by
 unfold exB at h
 simp only[Bool.and_eq_true,Bool.not_eq_true',decide_eq_false_iff_not] at h
 have:=ai.1 h.1
 omega
theorem wk {op:Int} (h:2<=op/\op<=11):ap op=(1,1,1,false):=by
 rcases(show op=2\/op=3\/op=4\/op=5\/op=6\/op=7\/op=8\/op=9\/op=10\/op=11 by omega) with rfl|rfl|rfl|rfl|rfl|rfl|rfl|rfl|rfl|rfl<;>rfl
theorem nh {N:Nat} {f:Fm} {x:Ins} {c:Co} {pc:Nat} (hx:f.code[pc]?=some x) (hm:aC N f x=0) (hcl:cB f.code=true) (h23:x.op≠23) (h24:x.op≠24):0<=c.next x (pc:Int)/\(c.next x (pc:Int)).toNat<f.code.length:=by
 obtain⟨_,e1,e2,_⟩:=iQ hm
 unfold Co.next
 by_cases h20:x.op=20
 ·rw[if_pos h20]
  rw[h20] at e1
  have:=mP (show aB N f.code.length 5 x.a=0 from e1)
  omega
 ·rw[if_neg h20]
  have hn:=wj hcl hx (show em x.op=false by unfold em;simp only[Bool.or_eq_false_iff,beq_eq_false_iff_ne];omega)
  by_cases h21:x.op=21/\c.reg x.a % 18446744073709551616≠0
  ·rw[if_pos h21]
   rw[h21.1] at e2
   have:=mP (show aB N f.code.length 5 x.b=0 from e2)
   omega
  ·rw[if_neg h21]
   omega
theorem wW {f:Fm} {x:Ins} (h:el f.params f.size x=true) (hr:rdB x.op=true):0<=x.b/\0<=x.c/\x.b+x.c<=f.size+16*f.params:=by
 unfold el rdI at h
 rw[hr,Bool.and_eq_true] at h
 have h1:=h.1
 unfold a9 at h1
 rw[Bool.and_eq_true,et,decide_eq_true_eq] at h1
 simp at h1
 omega
theorem uL {f:Fm} {x:Ins} (h:el f.params f.size x=true) (hr:wrB x.op=true):0<=x.a/\0<=x.c/\x.a+x.c<=f.size:=by
 unfold el wrI at h
 rw[hr,Bool.and_eq_true] at h
 have h1:=h.2
 unfold a9 at h1
 rw[Bool.and_eq_true,et,decide_eq_true_eq] at h1
 simp at h1
 omega
theorem gS {n:Int} (h:szB n=true):1<=n/\n<=16:=by
 unfold szB at h
 rw[decide_eq_true_eq] at h
 omega
structure AccOk (T0:Nat) (s:Tm) (x:Ins):Prop where
 op:x.op=15\/x.op=16\/x.op=17
 sz:szB x.c=true
 rd:x.op≠16->0<=x.b/\s.mem.sp+x.b.toNat+x.c.toNat<=T0
 wr:x.op≠15->0<=x.a/\s.mem.sp+x.a.toNat+x.c.toNat<=T0
theorem fh {S:Sk} {o n:Int} (hn:szB n=true) (ho:0<=o) (h:S.sp+o.toNat+n.toNat<=S.bs.length):bN S o n=true:=ix.2 ⟨hn,ho,by have:=gS hn;omega⟩
theorem VT.acc (hR:RightT Al F) (h:VT F T0 s) {f:Fm} (hf:F[s.top.1]?=some f) {x:Ins} (hx:x∈f.code) (hop:15<=x.op/\x.op<=17):AccOk T0 s x:=by
 have hfm:=hR.f f (List.mem_of_getElem? hf)
 obtain⟨_,e1,e2,e3,_,hcv⟩:=iQ (hfm.2.2.1 x hx)
 have hroom:=h.room hR hf
 have hsum:=h.sum
 have hp:=(gG hfm.1).2.1
 have hsz:szB x.c=true:=by
  rcases(show x.op=15\/x.op=16\/x.op=17 by omega) with h1|h1|h1<;>rw[h1] at e3<;>exact wo e3
 have hc:=gS hsz
 refine⟨by omega,hsz,fun h16=>?_,fun h15=>?_⟩
 ·have hc:=wW hcv (show rdB x.op=true by unfold rdB;simp;omega)
  exact⟨hc.1,by omega⟩
 ·have hc:=uL hcv (show wrB x.op=true by unfold wrB;simp;omega)
  exact⟨hc.1,by omega⟩
theorem VT.fetched (hR:RightT Al F) (h:VT F T0 s) {f:Fm} (hf:F[s.top.1]?=some f) (hx:f.code[s.top.2]?=some (s.cur F)) (h23:(s.cur F).op≠23) (h24:(s.cur F).op≠24):VT F T0 (s.fetched (s.cur F))/\(s.fetched (s.cur F)).top.1=s.top.1/\(s.fetched (s.cur F)).c.trace.length+1<=(s.fetched (s.cur F)).c.steps/\(s.fetched (s.cur F)).st.length<=(s.fetched (s.cur F)).c.steps:=by
 obtain⟨ys,z,e,ht,hd⟩:=h.split
 have hfm:=hR.f f (List.mem_of_getElem? hf)
 have hn:=nh (c:=s.c.more) hx (hfm.2.2.1 _ (List.mem_of_getElem? hx)) hfm.2.2.2 h23 h24
 have hst:(s.fetched (s.cur F)).st=ys++[(z.1,(s.c.more.next (s.cur F) (s.top.2:Int)).toNat)]:=by show s.st.dropLast++[(s.top.1,_)]=_;rw[hd,ht]
 have hl:(s.fetched (s.cur F)).st.length=s.st.length:=by rw[hst,e];simp
 have h1:=h.stl
 have h2:=h.tl
 rw[ht] at hf
 refine⟨⟨⟨h.sm.r8,h.sm.rv,h.sm.iv⟩,?_,h.ok,?_,by rw[hl];exact h.ne,?_,?_,h.len,⟨h.dp.dl,h.dp.dm⟩⟩,?_,?_,?_⟩
 ·show s.c.trace.length<=s.c.steps+1;omega
 ·rw[hst];exact StOk.turn (by rw[<-e];exact h.st) hf hn.2
 ·rw[hl];show s.st.length<=s.c.steps+1+1;omega
 ·rw[hst,eC,dI]
  have:=h.sum
  rw[e,eC,dI] at this
  exact this
 ·unfold Tm.top;rw[hst,List.getLastD_concat,e,List.getLastD_concat]
 ·show s.c.trace.length+1<=s.c.steps+1;omega
 ·rw[hl];exact h1
theorem VT.core (h:VT F T0 s) {c:Co} (hc:SmallC c) (ht:c.trace.length<=c.steps) (hs:s.st.length<=c.steps+1):VT F T0 { s with c:=c }:=⟨hc,ht,h.ok,h.st,h.ne,hs,h.sum,h.len,⟨h.dp.dl,h.dp.dm⟩⟩
theorem VT.mem (h:VT F T0 s) {S:Sk} (ho:S.Ok) (hsp:S.sp=s.mem.sp) (hl:S.bs.length=s.mem.bs.length):VT F T0 { s with mem:=S }:=⟨h.sm,h.tl,ho,h.st,h.ne,h.stl,by show S.sp+_=_;rw[hsp];exact h.sum,by show T0<=S.bs.length;rw[hl];exact h.len,⟨h.dp.dl,h.dp.dm⟩⟩
theorem VT.access (h:VT F T0 s) (he:s.c.ended=false) {x:Ins} (ha:AccOk T0 s x):JT F T0 (s.access x):=by
 have hsz:=gS ha.sz
 have hlen:=h.len
 have hcore:∀v,v<ae->JT F T0 { s with c:=s.c.setR x.a v }:=fun v hv=>by
  obtain⟨e1,e2,e3⟩:=oM s.c x.a v
  exact .inr ⟨e3.trans he,h.core (h.sm.setR _ hv) (by rw[e1,e2];exact h.tl) (by rw[e1];exact h.stl)⟩
 unfold Tm.access
 rcases ha.op with h1|h1|h1
 ·obtain⟨r1,r2⟩:=ha.rd (by omega)
  have hb:=fh (S:=s.mem) ha.sz r1 (by omega)
  rw[if_pos h1,if_neg (by rw[hb];decide)]
  split
  ·exact .inl ⟨rfl,show¬(3:Int)=6 by decide,⟨h.dp.dl,h.dp.dm⟩⟩
  ·refine hcore _ (nw _ (iy h.ok _ _) ?_)
   rw[fV (by omega)]
   omega
 ·obtain⟨r1,r2⟩:=ha.wr (by omega)
  have hb:=fh (S:=s.mem) ha.sz r1 (by omega)
  rw[if_neg (by omega),if_pos h1,if_neg (by rw[hb];decide)]
  exact .inr ⟨he,h.mem (h.ok.store (by omega)) rfl (iq (by rw[bH];omega))⟩
 ·obtain⟨r1,r2⟩:=ha.wr (by omega)
  have hb:=fh (S:=s.mem) ha.sz r1 (by omega)
  obtain⟨r3,r4⟩:=ha.rd (by omega)
  have hb3:=fh (S:=s.mem) ha.sz r3 (by omega)
  rw[if_neg (by omega),if_neg (by omega),if_neg (by rw[hb,hb3];simp)]
  split
  ·exact .inl ⟨rfl,show¬(3:Int)=6 by decide,⟨h.dp.dl,h.dp.dm⟩⟩
  ·have hl:(dz s.mem (s.mem.sp+x.b.toNat) x.c.toNat).length=x.c.toNat:=fV (by omega)
   exact .inr ⟨he,h.mem (h.ok.put (by rw[hl];omega) (iy h.ok _ _)) rfl (iq (by rw[hl];omega))⟩
theorem VT.enter (h:VT F T0 s) (he:s.c.ended=false) {n:Nat} {f:Fm} (hf:F[n]?=some f) (hc:1<=f.code.length) (hr:16*f.params<=(fX F s.top.1).size) (hs:s.st.length+1<=s.c.steps+1):JT F T0 (s.enter F T0 n):=by
 obtain⟨ys,z,e,ht,hd⟩:=h.split
 unfold Tm.enter
 split
 ·exact .inl ⟨rfl,show¬(5:Int)=6 by decide,⟨h.dp.dl,h.dp.dm⟩⟩
 ·rename_i hsp
  rw[ht] at hr
  have hsum:=h.sum
  have hnew:T0-(s.mem.sp-fsz F n)=gT F s.st+fsz F n:=by omega
  refine .inr ⟨he,⟨h.sm,h.tl,h.ok.push (by omega),?_,?_,?_,?_,h.len,⟨?_,fun A hA=>?_⟩⟩⟩
  ·show StOk F (s.st++[(n,0)])
   rw[e]
   exact StOk.push (by rw[<-e];exact h.st) hf hc hr
  ·show 1<=(s.st++[(n,0)]).length
   simp
  ·show(s.st++[(n,0)]).length<=s.c.steps+1
   rw[List.length_append];exact hs
  ·show s.mem.sp-fsz F n+gT F (s.st++[(n,0)])=T0
   rw[eC,dI]
   show s.mem.sp-fsz F n+(gT F s.st+fsz F n)=T0
   omega
  ·have:=h.dp.dl
   show max s.deep (T0-(s.mem.sp-fsz F n))<=T0
   omega
  ·show A∣max s.deep (T0-(s.mem.sp-fsz F n))
   have h1:=h.dp.dm A hA
   have h2:A∣T0-(s.mem.sp-fsz F n):=by
    rw[hnew]
    have:=lS hA (s.st++[(n,0)])
    rw[eC,dI] at this
    exact this
   rcases Nat.le_total s.deep (T0-(s.mem.sp-fsz F n)) with h3|h3
   ·rw[Nat.max_eq_right h3];exact h2
   ·rw[Nat.max_eq_left h3];exact h1
theorem VT.leave (h:VT F T0 s) (he:s.c.ended=false) {pc:Nat} {t:Tm} (hst:t.st=s.st.dropLast++[(s.top.1,pc)]) (hc:t.c=s.c.more) (hm:t.mem=s.mem) (hd:t.deep=s.deep):JT F T0 (t.leave F):=by
 obtain⟨ys,z,e,ht,hdl⟩:=h.split
 rw[hdl,ht] at hst
 have htop:t.top.1=z.1:=by unfold Tm.top;rw[hst,List.getLastD_concat]
 unfold Tm.leave
 dsimp only
 rw[hst,htop,List.dropLast_concat]
 have hdp:∀u:Tm,u.deep=t.deep->DeepOk F T0 u:=fun u hu=>⟨by rw[hu,hd];exact h.dp.dl,fun A hA=>by rw[hu,hd];exact h.dp.dm A hA⟩
 split
 ·exact .inl ⟨rfl,show¬(0:Int)=6 by decide,hdp _ rfl⟩
 ·rename_i hl
  have hsum:=h.sum
  rw[e,eC,dI] at hsum
  have h1:=h.stl
  have h2:=h.tl
  have hlen:=h.len
  rw[e] at h1
  simp only[List.length_append,List.length_cons,List.length_nil] at hl h1
  refine .inr ⟨by show t.c.ended=false;rw[hc];exact he,⟨by show SmallC t.c;rw[hc];exact⟨h.sm.r8,h.sm.rv,h.sm.iv⟩,?_,by show(dw t.mem _).Ok;rw[hm];exact h.ok.pop (show s.mem.sp+fsz F z.1<=s.mem.bs.length by omega),StOk.pop (by rw[<-e];exact h.st),?_,?_,?_,by show T0<=t.mem.bs.length;rw[hm];exact h.len,hdp _ rfl⟩⟩
  ·show t.c.trace.length<=t.c.steps;rw[hc];show s.c.trace.length<=s.c.steps+1;omega
  ·show 1<=ys.length;omega
  ·show ys.length<=t.c.steps+1;rw[hc];show ys.length<=s.c.steps+1+1;omega
  ·show t.mem.sp+fsz F z.1+gT F ys=T0;rw[hm];omega
inductive StepIs (F:Tg) (T0:Nat) (s:Tm) (f:Fm):Prop
 | acc (h:15<=(s.cur F).op/\(s.cur F).op<=17) (v:VT F T0 (s.fetched (s.cur F))) (a:AccOk T0 (s.fetched (s.cur F)) (s.cur F)) (e:s.step F T0=(s.fetched (s.cur F)).access (s.cur F))
 | call (h:(s.cur F).op=22) (v:VT F T0 (s.fetched (s.cur F))) (g:Fm) (hg:F[(s.cur F).a.toNat]?=some g) (ha:0<=(s.cur F).a) (hc:1<=g.code.length) (hr:16*g.params<=(fX F (s.fetched (s.cur F)).top.1).size) (hs:(s.fetched (s.cur F)).st.length+1<=(s.fetched (s.cur F)).c.steps+1) (e:s.step F T0=(s.fetched (s.cur F)).enter F T0 (s.cur F).a.toNat)
 | ret (h:(s.cur F).op=23) (e:s.step F T0=(s.fetched (s.cur F)).leave F)
 | trap (h:(s.cur F).op=24) (e:s.step F T0={ s.fetched (s.cur F) with c:=({ (s.fetched (s.cur F)).c with code:=(s.cur F).imm }:Co).stop 1 })
 | plain (h:(s.cur F).op<15\/(s.cur F).op=20\/(s.cur F).op=21) (v:VT F T0 (s.fetched (s.cur F))) (ht:(s.fetched (s.cur F)).c.trace.length+1<=(s.fetched (s.cur F)).c.steps) (e:s.step F T0={ s.fetched (s.cur F) with c:=(s.fetched (s.cur F)).c.execC (s.cur F) })
theorem VT.sort (hR:RightT Al F) (h:VT F T0 s) {f:Fm} (hf:F[s.top.1]?=some f) (hx:f.code[s.top.2]?=some (s.cur F)):StepIs F T0 s f:=by
 have hxm:=List.mem_of_getElem? hx
 have hfm:=hR.f f (List.mem_of_getElem? hf)
 obtain⟨hex,e1,e2,e3,e4,hcv⟩:=iQ (hfm.2.2.1 _ hxm)
 have hops:=nl hex
 by_cases h23:(s.cur F).op=23
 ·exact .ret h23 (by unfold Tm.step Tm.exec;rw[if_neg (by omega),if_neg (by omega),if_pos h23])
 ·by_cases h24:(s.cur F).op=24
  ·refine .trap h24 ?_
   unfold Tm.step Tm.exec
   rw[if_neg (by omega),if_neg (by omega),if_neg h23]
   congr 1
   unfold Co.execC
   rw[if_neg (by omega),if_neg (by omega),if_neg (by omega),if_neg (by omega),if_neg (by omega),if_neg (by omega),if_neg (by omega),if_pos h24]
  ·obtain⟨hv,ht1,ht2,ht3⟩:=h.fetched hR hf hx h23 h24
   by_cases hop:15<=(s.cur F).op/\(s.cur F).op<=17
   ·exact .acc hop hv (hv.acc hR (by rw[ht1];exact hf) hxm hop) (by unfold Tm.step Tm.exec;rw[if_pos hop])
   ·by_cases h22:(s.cur F).op=22
    ·rw[h22] at e1
     have hn:=ul (show aB F.length f.code.length 4 (s.cur F).a=0 from e1)
     obtain⟨f2,hf2⟩:∃f2,F[(s.cur F).a.toNat]?=some f2:=⟨_,List.getElem?_eq_getElem (by omega)⟩
     have hcall:=hR.room f (List.mem_of_getElem? hf) _ hxm
     unfold dS at hcall
     rw[h22,hf2] at hcall
     simp only[decide_true,Bool.true_and,Bool.not_eq_true',decide_eq_false_iff_not,Option.map_some,Option.getD_some] at hcall
     exact .call h22 hv f2 hf2 hn.1 (jT (hR.f f2 (List.mem_of_getElem? hf2)).2.2.2) (by rw[ht1,j6 hf];omega) (by omega) (by unfold Tm.step Tm.exec;rw[if_neg hop,if_pos h22])
    ·exact .plain (by omega) hv ht2 (by unfold Tm.step Tm.exec;rw[if_neg hop,if_neg h22,if_neg h23])
theorem ql (hR:RightT Al F) (him:eN F) (h:VT F T0 s) (he:s.c.ended=false):JT F T0 (s.step F T0):=by
 obtain⟨f,hf,hp,hx⟩:=h.next_at
 have hxi:=him f (List.mem_of_getElem? hf) _ (List.mem_of_getElem? hx)
 have hd0:DeepOk F T0 (s.fetched (s.cur F)):=⟨h.dp.dl,h.dp.dm⟩
 rcases h.sort hR hf hx with⟨_,v,a,e⟩|⟨_,v,g,hg,_,hc,hr,hs,e⟩|⟨_,e⟩|⟨_,e⟩|⟨hk,v,ht,e⟩
 ·rw[e];exact v.access he a
 ·rw[e];exact v.enter he hg hc hr hs
 ·rw[e];exact h.leave he (t:=s.fetched (s.cur F)) rfl rfl rfl rfl
 ·rw[e];exact .inl ⟨rfl,show¬(1:Int)=6 by decide,⟨hd0.dl,hd0.dm⟩⟩
 ·rw[e]
  have hm:=mY (s.fetched (s.cur F)).c (s.cur F)
  cases hend:((s.fetched (s.cur F)).c.execC (s.cur F)).ended with
  | true=>
   refine .inl ⟨hend,fun h6=>?_,⟨hd0.dl,hd0.dm⟩⟩
   rcases hm.kind hend with h2|h2
   ·rw[show(s.fetched (s.cur F)).c.ended=s.c.ended from rfl,he] at h2;cases h2
   ·have h6':((s.fetched (s.cur F)).c.execC (s.cur F)).kind=6:=h6
    omega
  | false=>
   have hstl:=v.stl
   exact .inr ⟨hend,v.core (v.sm.execC _ hxi) (by rw[hm.steps];have:=hm.tl;omega) (by rw[hm.steps];omega)⟩
theorem oz (hR:RightT Al F) {inp:List Nat} (hi:∀v∈inp,v<18446744073709551616) {size:Nat} (hs:size<=1048576) {A:Nat}:JT F (aK A size) (fg A F inp size):=by
 obtain⟨f,hf,hp⟩:=hR.z
 have hrl:aK A size<=size:=Nat.sub_le _ _
 unfold fg Tm.enter
 split
 ·exact .inl ⟨rfl,show¬(5:Int)=6 by decide,⟨Nat.zero_le _,fun A _=>Nat.dvd_zero A⟩⟩
 ·rename_i hsp
  have hsp:¬aK A size<fsz F 0:=hsp
  have hnew:aK A size-(aK A size-fsz F 0)=fsz F 0:=by omega
  refine .inr ⟨rfl,⟨⟨by simp[jG,de],fun V hV=>?_,hi⟩,Nat.zero_le _,(j3 hs hrl).push (show fsz F 0<=aK A size by omega),StOk.start hf (jT (hR.f f (List.mem_of_getElem? hf)).2.2.2),Nat.le_refl _,Nat.le_refl _,?_,?_,⟨?_,fun B hB=>?_⟩⟩⟩
  ·have:V=0:=by simpa[de,jG] using hV
   rw[this];decide
  ·show aK A size-fsz F 0+gT F [(0,0)]=aK A size
   rw[dI]
   show aK A size-fsz F 0+fsz F 0=aK A size
   omega
  ·show aK A size<=(List.replicate size (0:Int)).length
   simpa using hrl
  ·show max 0 (aK A size-(aK A size-fsz F 0))<=aK A size
   omega
  ·show B∣max 0 (aK A size-(aK A size-fsz F 0))
   rw[Nat.zero_max,hnew]
   have:=lS hB [(0,0)]
   rwa[dI] at this
end
end Go.Proofs.YtjbgepjdohfhkaaGreat
