/- Plain mathematics of the bytes of values: the bytes of a number, the number of bytes, sizes of slots. No function of the program is named here. -/
import Derived.Test.YtjbgepjdohfhkaaGreatMKit
import Derived.RegionTactic
import Derived.BigRegion
import Derived.Deep.DeepCutAuto
import Derived.Laws.Externs
import Derived.Shelf.Spec.BitsCarry
import Derived.Shelf.Bits.Mul64
import Derived.Outline
import Derived.Laws.StructEq
set_option linter.unusedVariables false
set_option linter.unusedSimpArgs false
set_option maxRecDepth 100000
set_option maxHeartbeats 2000000
namespace Go.Proofs.YtjbgepjdohfhkaaGreat
open Go.RowKit
def szN (n:Int):Nat:=if szB n then n.toNat else 0
theorem s6 (n:Int):szN n<=16:=by
 unfold szN szB
 split
 ·rename_i h;have:=of_decide_eq_true h;omega
 ·omega
theorem lk {n:Int} (h:szB n=true):(szN n:Int)=n:=by
 unfold szN;rw[if_pos h];unfold szB at h;have:=of_decide_eq_true h;omega
theorem s5 {n:Int} (h:szB n=false):szN n=0:=by unfold szN;rw[h];rfl
def fK (X k:Nat):Nat:=X / 2 ^ (8*k) % 256
theorem uS (X k:Nat):fK X k<256:=by unfold fK;omega
def bS (X:Nat):Nat->List Int
 | 0=>[]
 | n+1=>bS X n++[(fK X n:Int)]
theorem bH (X n:Nat):(bS X n).length=n:=by
 induction n with
 | zero=>rfl
 | succ n ih=>simp[bS,ih]
theorem kF (X n:Nat):∀z∈bS X n,0<=z/\z<=255:=by
 induction n with
 | zero=>intro z h;cases h
 | succ n ih=>
  intro z h
  simp only[bS,List.mem_append,List.mem_singleton] at h
  rcases h with h|rfl
  ·exact ih z h
  ·have:=uS X n;omega
def aO:List Int->Nat
 | []=>0
 | z::zs=>z.toNat+256*aO zs
theorem qN (zs:List Int) (z:Int):aO (zs++[z])=aO zs+z.toNat*2 ^ (8*zs.length):=by
 induction zs with
 | nil=>simp[aO]
 | cons y ys ih=>
  simp only[List.cons_append,aO,ih,List.length_cons]
  rw[show 8*(ys.length+1)=8*ys.length+8 by omega,Nat.pow_add,Nat.mul_add,show(2:Nat) ^ 8=256 by decide]
  rw[show 256*(z.toNat*2 ^ (8*ys.length))=z.toNat*(2 ^ (8*ys.length)*256) by rw[Nat.mul_comm 256,Nat.mul_assoc]]
  omega
theorem oB (zs:List Int) (h:∀z∈zs,0<=z/\z<=255):aO zs<2 ^ (8*zs.length):=by
 induction zs with
 | nil=>simp[aO]
 | cons y ys ih=>
  have h1:=ih fun z hz=>h z (List.mem_cons_of_mem _ hz)
  have h2:=h y List.mem_cons_self
  simp only[aO,List.length_cons]
  rw[show 8*(ys.length+1)=8*ys.length+8 by omega,Nat.pow_add,show(2:Nat) ^ 8=256 by decide]
  omega
theorem yt {n:Nat} (h:n<=16):2 ^ (8*n)<=ae:=by
 rw[er];exact Nat.pow_le_pow_right (by omega) (by omega)
theorem nw (zs:List Int) (h:∀z∈zs,0<=z/\z<=255) (hl:zs.length<=16):aO zs<ae:=
 Nat.lt_of_lt_of_le (oB zs h) (yt hl)
theorem p7 (X a b:Nat) (h:a<=b):X % 2 ^ b % 2 ^ a=X % 2 ^ a:=Nat.mod_mod_of_dvd _ (Nat.pow_dvd_pow 2 h)
theorem qC (X k:Nat) (hk:k<8):lo X / 2 ^ (8*k) % 256=(fK X k:Int):=by
 unfold lo fK
 rw[eR,<-Int.natCast_ediv]
 have e:X % 18446744073709551616 / 2 ^ (8*k) % 256=X / 2 ^ (8*k) % 256:=by
  rw[show(18446744073709551616:Nat)=2 ^ (8*k)*2 ^ (64-8*k) by rw[<-Nat.pow_add,show 8*k+(64-8*k)=64 by omega],Nat.mod_mul_right_div_self,show(256:Nat)=2 ^ 8 by decide,p7 _ _ _ (by omega)]
 rw[<-e]
 generalize X % 18446744073709551616 / 2 ^ (8*k)=q
 omega
theorem qD (X k:Nat) (hX:X<ae) (hk:8<=k):hi X / 2 ^ (8*(k-8)) % 256=(fK X k:Int):=by
 unfold hi fK
 have e:=pj X (8*k) hX (by omega)
 rw[show 8*k-64=8*(k-8) by omega] at e
 rw[eR,<-Int.natCast_ediv,e]
 generalize X / 2 ^ (8*k)=q
 omega
theorem mI (V:Nat) (z:Int) (k:Nat) (hk:k<8) (hV:V<2 ^ (8*k)) (z0:0<=z) (z1:z<=255) :
  bits .or .u64 (lo V) (IntKind.u64.wrap (z*2 ^ (8*k)))=lo (V+z.toNat*2 ^ (8*k))/\hi V=hi (V+z.toNat*2 ^ (8*k)):=by
 obtain⟨c,rfl⟩:=Int.eq_ofNat_of_zero_le z0
 have hp:2 ^ (8*k)*256<=18446744073709551616:=by
  rw[show(18446744073709551616:Nat)=2 ^ 64 by decide,show(256:Nat)=2 ^ 8 by decide,<-Nat.pow_add]
  exact Nat.pow_le_pow_right (by omega) (by omega)
 have hm:c*2 ^ (8*k)<=255*2 ^ (8*k):=Nat.mul_le_mul_right _ (by omega)
 have hor:=Nat.two_pow_add_eq_or_of_lt hV c
 rw[Nat.mul_comm] at hor
 rw[eR,<-Int.natCast_mul,IntKind.wrap_u64,Int.toNat_natCast]
 have e1:((c*2 ^ (8*k):Nat):Int) % 18446744073709551616=((c*2 ^ (8*k):Nat):Int):=by omega
 rw[e1]
 generalize c*2 ^ (8*k)=s at *
 generalize 2 ^ (8*k)=p at *
 unfold lo hi
 rw[u64_or_nat _ _ (by omega) (by omega),show V % 18446744073709551616=V by omega,Nat.or_comm,<-hor]
 constructor<;>omega
theorem mJ (V:Nat) (z:Int) (k:Nat) (hk:8<=k) (hk2:k<16) (hV:V<2 ^ (8*k)) (z0:0<=z) (z1:z<=255) :
  bits .or .u64 (hi V) (IntKind.u64.wrap (z*2 ^ (8*(k-8))))=hi (V+z.toNat*2 ^ (8*k))/\lo V=lo (V+z.toNat*2 ^ (8*k)):=by
 obtain⟨c,rfl⟩:=Int.eq_ofNat_of_zero_le z0
 obtain⟨j,rfl⟩:∃j,k=j+8:=⟨k-8,by omega⟩
 have e8:2 ^ (8*(j+8))=18446744073709551616*2 ^ (8*j):=by
  rw[show(18446744073709551616:Nat)=2 ^ 64 by decide,<-Nat.pow_add];congr 1;omega
 have hp:2 ^ (8*j)*256<=18446744073709551616:=by
  rw[show(18446744073709551616:Nat)=2 ^ 64 by decide,show(256:Nat)=2 ^ 8 by decide,<-Nat.pow_add]
  exact Nat.pow_le_pow_right (by omega) (by omega)
 have hm:c*2 ^ (8*j)<=255*2 ^ (8*j):=Nat.mul_le_mul_right _ (by omega)
 rw[e8] at hV⊢
 have hV':V / 18446744073709551616<2 ^ (8*j):=by omega
 have hor:=Nat.two_pow_add_eq_or_of_lt hV' c
 rw[Nat.mul_comm] at hor
 rw[show j+8-8=j by omega,eR,<-Int.natCast_mul,IntKind.wrap_u64,Int.toNat_natCast,show c*(18446744073709551616*2 ^ (8*j))=18446744073709551616*(c*2 ^ (8*j)) by rw[Nat.mul_left_comm]]
 have e1:((c*2 ^ (8*j):Nat):Int) % 18446744073709551616=((c*2 ^ (8*j):Nat):Int):=by omega
 rw[e1]
 generalize c*2 ^ (8*j)=s at *
 generalize 2 ^ (8*j)=p at *
 unfold lo hi
 rw[u64_or_nat _ _ (by omega) (by omega),show V / 18446744073709551616 % 18446744073709551616=V / 18446744073709551616 by omega,Nat.or_comm,<-hor]
 constructor<;>omega
theorem gQ (zs:List Int) (k:Nat) (z:Int) (h:zs[k]?=some z):aO (zs.take (k+1))=aO (zs.take k)+z.toNat*2 ^ (8*k):=by
 have hk:k<zs.length:=by
  rcases Nat.lt_or_ge k zs.length with h1|h1
  ·exact h1
  ·rw[List.getElem?_eq_none h1] at h;simp at h
 rw[nz h,qN,List.length_take,Nat.min_eq_left (by omega)]
theorem fe (zs:List Int) (k:Nat) (hk:k<=zs.length) (h:∀z∈zs,0<=z/\z<=255):aO (zs.take k)<2 ^ (8*k):=by
 have:=oB (zs.take k) fun z hz=>h z (List.mem_of_mem_take hz)
 rwa[List.length_take,Nat.min_eq_left hk] at this
def eS (X Y:Nat):Nat:=X % 18446744073709551616+18446744073709551616*(Y % 18446744073709551616)
def eU (X:Nat):Nat:=X / 18446744073709551616 % 18446744073709551616
theorem qp (X Y:Nat):lo X=lo (eS X Y):=by unfold lo eS;omega
theorem qq (X Y:Nat):lo Y=hi (eS X Y):=by unfold lo hi eS;omega
theorem qw (X:Nat):hi X=lo (eU X):=by unfold lo hi eU;omega
theorem qx (X:Nat):hi (eU X)=0:=by unfold hi eU;omega
structure Co where
 inp:List Nat
 kind:Int
 code:Int
 res:Nat
 trace:List Nat
 steps:Nat
 regs:List Nat
 ended:Bool
def Co.reg (c:Co) (i:Int):Nat:=if 0<=i/\i<8 then c.regs.getD i.toNat 0 else 0
def Co.setR (c:Co) (i:Int) (v:Nat):Co:=if 0<=i/\i<8 then { c with regs:=c.regs.set i.toNat v } else c
def Co.stop (c:Co) (k:Int):Co:={ c with kind:=k,ended:=true }
def Co.asked (fu:Nat) (c:Co):Co:=if c.ended=false/\fu<=c.steps then c.stop 4 else c
def Co.ret (c:Co):Co:=({ c with res:=c.reg 0 }:Co).stop 0
def Co.next (c:Co) (x:Ins) (at_:Int):Int:=if x.op=20 then x.a else if x.op=21/\c.reg x.a % 18446744073709551616≠0 then x.b else at_+1
def Co.applyC (c:Co) (x:Ins):Co:=if cO x.op (c.reg x.c) then c.setR x.a (bJ x.op (c.reg x.b) (c.reg x.c)) else c.stop 2
def Co.execC (c:Co) (x:Ins):Co:=
 if x.op=0 then c.setR x.a x.imm.toNat
 else if x.op=1 then c.setR x.a (c.reg x.b)
 else if x.op=11 then c.setR x.a (eS (c.reg x.b) (c.reg x.c))
 else if x.op=12 then c.setR x.a (eU (c.reg x.b))
 else if x.op=13 then({ c with inp:=c.inp.tail }:Co).setR x.a (c.inp.headD 0)
 else if x.op=14 then { c with trace:=c.trace++[c.reg x.a] }
 else if x.op=20\/x.op=21 then c
 else if x.op=24 then({ c with code:=x.imm }:Co).stop 1
 else c.applyC x
structure SmallC (c:Co):Prop where
 r8:c.regs.length=8
 rv:∀V∈c.regs,V<ae
 iv:∀v∈c.inp,v<18446744073709551616
section
variable {c:Co}
theorem SmallC.reg (h:SmallC c) (i:Int):c.reg i<ae:=by
 unfold Co.reg
 split
 ·rw[List.getD_eq_getElem?_getD]
  cases e:c.regs[i.toNat]? with
  | none=>decide
  | some V=>exact h.rv V (List.mem_of_getElem? e)
 ·decide
theorem Co.setR_in (c:Co) {i:Nat} (h:i<8) (v:Nat):c.setR (i:Int) v={ c with regs:=c.regs.set i v }:=by
 unfold Co.setR;rw[if_pos (by omega),Int.toNat_natCast]
theorem Co.reg_in (c:Co) {i:Nat} (h:i<8):c.reg (i:Int)=c.regs.getD i 0:=by
 unfold Co.reg;rw[if_pos (by omega),Int.toNat_natCast]
theorem Co.setR_out (c:Co) {i:Int} (h:¬(0<=i/\i<8)) (v:Nat):c.setR i v=c:=by unfold Co.setR;rw[if_neg h]
theorem Co.reg_out (c:Co) {i:Int} (h:¬(0<=i/\i<8)):c.reg i=0:=by unfold Co.reg;rw[if_neg h]
theorem Co.setR_keeps (c:Co) (i:Int) (v:Nat):(c.setR i v).inp=c.inp/\(c.setR i v).kind=c.kind/\(c.setR i v).code=c.code/\(c.setR i v).res=c.res/\(c.setR i v).trace=c.trace/\(c.setR i v).steps=c.steps/\(c.setR i v).ended=c.ended:=by
 unfold Co.setR;split<;>exact⟨rfl,rfl,rfl,rfl,rfl,rfl,rfl⟩
theorem Co.setR_len (c:Co) (i:Int) (v:Nat):(c.setR i v).regs.length=c.regs.length:=by
 unfold Co.setR;split
 ·exact List.length_set
 ·rfl
theorem SmallC.setR (h:SmallC c) (i:Int) {v:Nat} (hv:v<ae):SmallC (c.setR i v):=by
 obtain⟨e1,_⟩:=c.setR_keeps i v
 refine⟨by rw[Co.setR_len];exact h.r8,fun V hV=>?_,by rw[e1];exact h.iv⟩
 unfold Co.setR at hV
 split at hV
 ·rcases List.mem_or_eq_of_mem_set hV with h1|h1
  ·exact h.rv V h1
  ·rw[h1];exact hv
 ·exact h.rv V hV
theorem SmallC.stop (h:SmallC c) (k:Int):SmallC (c.stop k):=⟨h.r8,h.rv,h.iv⟩
theorem SmallC.execC (h:SmallC c) (x:Ins) (hm:0<=x.imm/\x.imm<=18446744073709551615):SmallC (c.execC x):=by
 have h64:∀n,n<18446744073709551616->n<ae:=fun n hn=>by unfold ae;omega
 unfold Co.execC
 split
 ·exact h.setR _ (h64 _ (by omega))
 ·split
  ·exact h.setR _ (h.reg _)
  ·split
   ·exact h.setR _ (by unfold eS ae;omega)
   ·split
    ·exact h.setR _ (by unfold eU ae;omega)
    ·split
     ·have h2:SmallC { c with inp:=c.inp.tail }:=⟨h.r8,h.rv,fun v hv=>h.iv v (List.mem_of_mem_tail hv)⟩
      refine h2.setR _ (h64 _ ?_)
      cases e:c.inp with
      | nil=>decide
      | cons v r=>exact h.iv v (by rw[e];simp)
     ·split
      ·exact⟨h.r8,h.rv,h.iv⟩
      ·split
       ·exact h
       ·split
        ·exact(show SmallC { c with code:=x.imm } from⟨h.r8,h.rv,h.iv⟩).stop 1
        ·unfold Co.applyC
         split
         ·exact h.setR _ (wi _ _ _ (h.reg _) (h.reg _))
         ·exact h.stop 2
structure CoMoved (c d:Co):Prop where
 steps:d.steps=c.steps
 trace:∃l,d.trace=c.trace++l
 tl:d.trace.length<=c.trace.length+1
 kind:d.ended=true->c.ended=true\/(0<=d.kind/\d.kind<=3)
theorem CoMoved.of {d:Co} (h1:d.steps=c.steps) (h2:d.trace=c.trace) (h3:d.ended=true->c.ended=true\/(0<=d.kind/\d.kind<=3)):CoMoved c d:=⟨h1,⟨[],by rw[h2,List.append_nil]⟩,by rw[h2];omega,h3⟩
theorem mY (c:Co) (x:Ins):CoMoved c (c.execC x):=by
 have hs:∀(c:Co) i v,CoMoved c (c.setR i v):=fun c i v=>by
  obtain⟨_,_,_,_,e6,e7,e8⟩:=c.setR_keeps i v
  exact CoMoved.of e7 e6 (fun h=>.inl (by rw[<-e8];exact h))
 unfold Co.execC
 split
 ·exact hs _ _ _
 ·split
  ·exact hs _ _ _
  ·split
   ·exact hs _ _ _
   ·split
    ·exact hs _ _ _
    ·split
     ·have h2:=hs ({ c with inp:=c.inp.tail }:Co) x.a (c.inp.headD 0)
      exact⟨h2.steps,h2.trace,h2.tl,h2.kind⟩
     ·split
      ·exact⟨rfl,⟨_,rfl⟩,by show(c.trace++[_]).length<=_;rw[List.length_append];exact Nat.le_refl _,fun h=>.inl h⟩
      ·split
       ·exact CoMoved.of rfl rfl (fun h=>.inl h)
       ·split
        ·exact CoMoved.of rfl rfl (fun _=>.inr ⟨show(0:Int)<=1 by decide,show(1:Int)<=3 by decide⟩)
        ·unfold Co.applyC
         split
         ·exact hs _ _ _
         ·exact CoMoved.of rfl rfl (fun _=>.inr ⟨show(0:Int)<=2 by decide,show(2:Int)<=3 by decide⟩)
end
def bD (fu:Nat) (c:Co) (vi vt:Value):List Value:=
 [vi,.int .i64 (fu:Int),.int .i64 c.kind,.int .u64 c.code,.int .u64 (lo c.res),.int .u64 (hi c.res),vt,.int .i64 (c.steps:Int)]++(ah c.regs++[.bool c.ended])
structure CoAt (w:World) (g base:Nat) (T:TypeId) (fu:Nat) (vi vt:Value) (rest:List Value) (c:Co):Prop where
 row:Row w g T (bD fu c vi vt++rest)
 gb:base<=g
 nt:T≠38
 r8:c.regs.length=8
 inp:cD w base vi c.inp
 tr:w.ownsRow base 38 2 vt c.trace.length (ah c.trace)
section
variable {w w':World} {g base fu:Nat} {T:TypeId} {vi vt:Value} {rest:List Value} {c:Co}
theorem CoAt.gl (h:CoAt w g base T fu vi vt rest c):g<w.heap.size:=h.row.lt
theorem CoAt.bl (h:CoAt w g base T fu vi vt rest c):base<=w.heap.size:=by have:=h.gl;have:=h.gb;omega
theorem CoAt.call (h:CoAt w g base T fu vi vt rest c) (hb:Below w.heap.size w w'):CoAt w' g base T fu vi vt rest c:=⟨h.row.call hb,h.gb,h.nt,h.r8,h.inp.below (hb.mono h.bl),bZ h.tr hb⟩
theorem CoAt.drewN (h:CoAt w g base T fu vi vt rest c) (n:Nat):CoAt (w.drewN n) g base T fu vi vt rest c:=⟨h.row,h.gb,h.nt,h.r8,h.inp,h.tr⟩
theorem CoAt.alloc (h:CoAt w g base T fu vi vt rest c) (o:Obj):CoAt (w.alloc o) g base T fu vi vt rest c:=h.call (ag w o)
theorem CoAt.tlt (h:CoAt w g base T fu vi vt rest c):∀k,vt.ownBlock=some k->base<=k:=fun k hk=>(h.tr.lt k hk).1
theorem CoAt.below (h:CoAt w g base T fu vi vt rest c) {vt':Value} (hk:JKp w w' g vt vt'):Below base w w':=hk.below h.bl h.gb h.tlt
theorem CoAt.far (h:CoAt w g base T fu vi vt rest c) (j:Nat) {v:Value} (hv:(bD fu c vi vt++rest)[j]?=some v):w.cell? ⟨g,j,none⟩=some v:=h.row.cell hv
theorem m8 (r8:c.regs.length=8) {i:Nat} (h8:i<8):(bD fu c vi vt++rest)[8+i*2]?=some (.int .u64 (lo (c.regs.getD i 0)))/\(bD fu c vi vt++rest)[8+i*2+1]?=some (.int .u64 (hi (c.regs.getD i 0))):=by
 have h1:c.regs[i]?=some (c.regs.getD i 0):=by rw[List.getD_eq_getElem?_getD,List.getElem?_eq_getElem (by omega)];rfl
 have h2:=cE h1
 have h3:(ah c.regs).length=16:=by rw[aT,r8]
 unfold bD
 constructor
 ·rw[List.append_assoc,List.getElem?_append_right (by simp),List.append_assoc,List.getElem?_append_left (by simp;omega)]
  rw[show 8+i*2-[vi,.int .i64 (fu:Int),.int .i64 c.kind,.int .u64 c.code,.int .u64 (lo c.res),.int .u64 (hi c.res),vt,.int .i64 (c.steps:Int)].length=i*2 by simp]
  exact h2.1
 ·rw[List.append_assoc,List.getElem?_append_right (by simp;omega),List.append_assoc,List.getElem?_append_left (by simp;omega)]
  rw[show 8+i*2+1-[vi,.int .i64 (fu:Int),.int .i64 c.kind,.int .u64 c.code,.int .u64 (lo c.res),.int .u64 (hi c.res),vt,.int .i64 (c.steps:Int)].length=i*2+1 by simp;omega]
  exact h2.2
theorem fd (r8:c.regs.length=8) (j:Nat):(bD fu c vi vt++rest)[24+j]?=(.bool c.ended::rest)[j]?:=by
 have h3:(ah c.regs).length=16:=by rw[aT,r8]
 unfold bD
 rw[List.append_assoc,List.getElem?_append_right (by simp;omega),List.append_assoc,List.getElem?_append_right (by simp;omega),List.singleton_append]
 congr 1
 simp
 omega
theorem CoAt.reg (h:CoAt w g base T fu vi vt rest c) {i:Nat} (h8:i<8):w.cell? ⟨g,8+i*2,none⟩=some (.int .u64 (lo (c.regs.getD i 0)))/\w.cell? ⟨g,8+i*2+1,none⟩=some (.int .u64 (hi (c.regs.getD i 0))):=
 ⟨h.row.cell (m8 h.r8 h8).1,h.row.cell (m8 h.r8 h8).2⟩
theorem CoAt.ended (h:CoAt w g base T fu vi vt rest c):w.cell? ⟨g,24,none⟩=some (.bool c.ended):=h.row.cell (fd h.r8 0)
theorem oH (h:CoAt w g base T fu vi vt rest c):¬vt.ownBlock=some w.heap.size:=fun e=>by have:=(h.tr.lt _ e).2;omega
theorem CoAt.behind (h:CoAt w g base T fu vi vt rest c) (j:Nat) {v:Value} (hv:rest[j]?=some v):w.cell? ⟨g,25+j,none⟩=some v:=
 h.row.cell (by rw[show 25+j=24+(j+1) by omega,fd h.r8];exact hv)
theorem CoAt.off (h:CoAt w g base T fu vi vt rest c) {w7:World} (hr:Row w7 g T (bD fu c vi vt++rest)):vt.ownBlock=none\/vt.ownBlock≠some g:=gA h.tr h.row h.nt
theorem CoAt.store (h:CoAt w g base T fu vi vt rest c) (k:Nat) (u:Value) {c':Co} {vi':Value} {fu':Nat} {rest':List Value} (hc:(bD fu c vi vt++rest).set k u=bD fu' c' vi' vt++rest') (hin:cD w base vi' c'.inp) (htr:c'.trace=c.trace) (hr:c'.regs.length=8):CoAt (w.setCell ⟨g,k,none⟩ u) g base T fu' vi' vt rest' c':=by
 have hB:Below base w (w.setCell ⟨g,k,none⟩ u):=(Below.refl _ _).setCell h.gb _
 refine⟨?_,h.gb,h.nt,hr,hin.below hB,?_⟩
 ·have:=h.row.set_ k u
  rwa[hc] at this
 ·rw[htr];exact h.tr.kept (jB w g k u) (gA h.tr h.row h.nt)
theorem iB (r8:c.regs.length=8) (j:Nat) (u:Value):(bD fu c vi vt++rest).set (24+j) u=[vi,.int .i64 (fu:Int),.int .i64 c.kind,.int .u64 c.code,.int .u64 (lo c.res),.int .u64 (hi c.res),vt,.int .i64 (c.steps:Int)]++(ah c.regs++(Value.bool c.ended::rest).set j u):=by
 have h3:(ah c.regs).length=16:=by rw[aT,r8]
 unfold bD
 rw[List.append_assoc,List.append_assoc,List.set_append_right _ _ (by simp;omega),List.set_append_right _ _ (by simp;omega),List.singleton_append]
 congr 3
 simp
 omega
theorem CoAt.setRest (h:CoAt w g base T fu vi vt rest c) (j:Nat) (u:Value):CoAt (w.setCell ⟨g,25+j,none⟩ u) g base T fu vi vt (rest.set j u) c:=
 h.store (25+j) u (by rw[show 25+j=24+(j+1) by omega,iB h.r8];unfold bD;simp[List.append_assoc]) h.inp rfl h.r8
theorem qi (r8:c.regs.length=8) {i:Nat} (h8:i<8) (V:Nat):((bD fu c vi vt++rest).set (8+i*2) (.int .u64 (lo V))).set (8+i*2+1) (.int .u64 (hi V))=bD fu { c with regs:=c.regs.set i V } vi vt++rest:=by
 have h3:(ah c.regs).length=16:=by rw[aT,r8]
 unfold bD
 rw[List.append_assoc,List.append_assoc,List.set_append_right _ _ (by simp),List.set_append_right _ _ (by simp;omega)]
 rw[show 8+i*2-[vi,.int .i64 (fu:Int),.int .i64 c.kind,.int .u64 c.code,.int .u64 (lo c.res),.int .u64 (hi c.res),vt,.int .i64 (c.steps:Int)].length=i*2 by simp]
 rw[show 8+i*2+1-[vi,.int .i64 (fu:Int),.int .i64 c.kind,.int .u64 c.code,.int .u64 (lo c.res),.int .u64 (hi c.res),vt,.int .i64 (c.steps:Int)].length=i*2+1 by simp;omega]
 rw[List.set_append_left _ _ (by omega),List.set_append_left _ _ (by rw[List.length_set];omega),iX V c.regs i (by omega)]
 simp[List.append_assoc]
theorem CoAt.setReg (h:CoAt w g base T fu vi vt rest c) {i:Nat} (h8:i<8) (V:Nat):CoAt ((w.setCell ⟨g,8+i*2,none⟩ (.int .u64 (lo V))).setCell ⟨g,8+i*2+1,none⟩ (.int .u64 (hi V))) g base T fu vi vt rest (c.setR (i:Int) V):=by
 rw[c.setR_in h8]
 have hg:=rA w g (8+i*2) (8+i*2+1) (.int .u64 (lo V)) (.int .u64 (hi V))
 have hB:Below base w ((w.setCell ⟨g,8+i*2,none⟩ (.int .u64 (lo V))).setCell ⟨g,8+i*2+1,none⟩ (.int .u64 (hi V))):=(Below.refl _ _).grown hg h.bl (fun k hk=>by injection hk with hk;have:=h.gb;omega)
 refine⟨?_,h.gb,h.nt,by show(c.regs.set i V).length=8;rw[List.length_set];exact h.r8,h.inp.below hB,h.tr.kept hg (gA h.tr h.row h.nt)⟩
 have:=(h.row.set_ (8+i*2) (.int .u64 (lo V))).set_ (8+i*2+1) (.int .u64 (hi V))
 rwa[qi h.r8 h8 V] at this
theorem JKp.set2 (w:World) (g k k2:Nat) (v u u2:Value):JKp w ((w.setCell ⟨g,k,none⟩ u).setCell ⟨g,k2,none⟩ u2) g v v:=(JKp.set w g k v u).trans (JKp.set _ g k2 v u2)
theorem CoAt.stopped (h:CoAt w g base T fu vi vt rest c) (k:Int):CoAt ((w.setCell ⟨g,2,none⟩ (.int .i64 k)).setCell ⟨g,24,none⟩ (.bool true)) g base T fu vi vt rest (c.stop k):=by
 have h1:=h.store 2 (.int .i64 k) (c':={ c with kind:=k }) (fu':=fu) (vi':=vi) (rest':=rest) rfl h.inp rfl h.r8
 exact h1.store 24 (.bool true) (c':=c.stop k) (fu':=fu) (vi':=vi) (rest':=rest) (by rw[show 24=24+0 from rfl,iB h1.r8];unfold bD Co.stop;simp) h1.inp rfl h1.r8
theorem JKp.drew (h:JKp w w' g vt vt) (n:Nat):JKp w (w'.drewN n) g vt vt:=⟨h.os,h.tape,h.output,h.size,h.blk,h.own⟩
end
structure CKp (w w':World) (g base:Nat):Prop where
 os:w'.os=w.os
 tape:w'.tape=w.tape
 output:w'.output=w.output
 size:w.heap.size<=w'.heap.size
 blk:∀k,k<w.heap.size->k≠g->(base<=k->∀cs fr,w.heap[k]?≠some (.cells cs 38 fr))->w'.heap[k]?=w.heap[k]?
section
variable {w w' w'':World} {g base:Nat}
theorem CKp.refl (w:World) (g base:Nat):CKp w w g base:=⟨rfl,rfl,rfl,Nat.le_refl _,fun _ _ _ _=>rfl⟩
theorem CKp.trans (h:CKp w w' g base) (h':CKp w' w'' g base):CKp w w'' g base:=
 ⟨h'.os.trans h.os,h'.tape.trans h.tape,h'.output.trans h.output,Nat.le_trans h.size h'.size,fun k hk h1 h2=>by
  have e:=h.blk k hk h1 h2
  exact(h'.blk k (Nat.lt_of_lt_of_le hk h.size) h1 (fun hb cs fr=>by rw[e];exact h2 hb cs fr)).trans e⟩
theorem CKp.of_below (h:Below w.heap.size w w') (g base:Nat):CKp w w' g base:=⟨h.os,h.tape,h.output,h.size,fun k hk _ _=>h.block k hk⟩
theorem CKp.set (w:World) (g base k:Nat) (u:Value):CKp w (w.setCell ⟨g,k,none⟩ u) g base:=
 have h:=i6 w g k u
 ⟨h.os,h.tape,h.output,h.size,fun j hj h1 _=>h.block j hj (fun e=>h1 (by injection e))⟩
theorem lX {w:World} {base:Nat} {e:TypeId} {size n:Nat} {v:Value} {xs:List Value} (h:w.ownsRow base e size v n xs) {k:Nat} (hk:v.ownBlock=some k):base<=k/\∃cs fr,w.heap[k]?=some (.cells cs e fr):=by
 rcases h.2 with⟨rfl,_⟩|⟨j,cap,cur,rfl,hb,hh,_⟩
 ·cases hk
 ·injection hk with hk
  simp only at hk
  subst hk
  exact⟨hb,_,_,hh⟩
theorem CKp.of_row {v:Value} {n:Nat} {xs:List Value} (h:w.grownBy w' v.ownBlock) (ho:w.ownsRow base 38 2 v n xs) (g:Nat):CKp w w' g base:=
 ⟨h.os,h.tape,h.output,h.size,fun k hk _ h2=>h.block k hk (fun e=>by
  obtain⟨hb,cs,fr,hh⟩:=lX ho (k:=k) (by first|exact e|exact e.symm)
  exact h2 hb cs fr hh)⟩
theorem JKp.weak {v v':Value} {n:Nat} {xs:List Value} (h:JKp w w' g v v') (ho:w.ownsRow base 38 2 v n xs):CKp w w' g base:=
 ⟨h.os,h.tape,h.output,h.size,fun k hk h1 h2=>h.blk k hk h1 (fun e=>by
  obtain⟨hb,cs,fr,hh⟩:=lX ho e
  exact h2 hb cs fr hh)⟩
theorem CKp.row {j t:Nat} {cs:List Value} (h:CKp w w' g base) (r:Row w j t cs) (h1:j≠g) (h2:j<base\/t≠38):Row w' j t cs:=by
 unfold Row
 rw[h.blk j r.lt h1 (fun hb cs' fr e=>by
  unfold Row at r
  rw[r] at e
  injection e with e
  injection e with _ e2
  rcases h2 with h2|h2
  ·omega
  ·exact h2 e2)]
 exact r
theorem CKp.below {B:Nat} (h:CKp w w' g base) (hB:B<=w.heap.size) (h1:B<=g) (h2:B<=base):Below B w w':=
 ⟨h.os,h.tape,h.output,h.size,fun k hk=>h.blk k (by omega) (by omega) (fun e=>by omega)⟩
theorem CKp.own {e:TypeId} {size n:Nat} {v:Value} {xs:List Value} {b2:Nat} (h:CKp w w' g base) (ho:w.ownsRow b2 e size v n xs) (he:e≠38) (hg:v.ownBlock≠some g):w'.ownsRow b2 e size v n xs:=by
 refine⟨ho.1,?_⟩
 rcases ho.2 with h2|⟨j,cap,cur,rfl,hb,hh,hr⟩
 ·exact .inl h2
 ·refine .inr ⟨j,cap,cur,rfl,hb,?_,hr⟩
  rw[h.blk j (Array.getElem?_eq_some_iff.1 hh).1 (fun e=>hg (by rw[e];rfl)) (fun _ cs fr e2=>by
   rw[hh] at e2
   injection e2 with e2
   injection e2 with _ e3
   exact he e3)]
  exact hh
end
def lo2 (V u:Nat):Nat:=V % 18446744073709551616+18446744073709551616*u
theorem uu (V u:Nat):lo (lo2 V u)=lo V:=by unfold lo lo2;omega
theorem Bd (V:Nat):(hi V).toNat<18446744073709551616:=by unfold hi;omega
theorem Am (V W:Nat) (h:(hi W).toNat<18446744073709551616):hi (lo2 V (hi W).toNat)=hi W:=by unfold hi lo2 at *;omega
section
variable {w0:World} {g base fu:Nat} {T:TypeId} {vi vt:Value} {rest:List Value} {c:Co}
theorem gN (k:Int) (w:World) (h:Hid (CoAt w g base T fu vi vt rest c)) :
  Calls Tryz.prog 62 #[.pointer (some ⟨g,0,none⟩),.int .i64 k] w fun e w'=>e=.returned (.tuple #[])/\CoAt w' g base T fu vi vt rest (c.stop k)/\JKp w w' g vt vt:=by
 have c0:=h.out.far 2 rfl
 have c1:=h.out.ended
 have z0:=h.out.row.free 2
 have z1:=h.out.row.free 24
 go_enter Tryz.func62,Tryz.ntmps62
 go_wp2_with fail
 go_end0
 exact⟨rfl,h.out.stopped k,JKp.set2 w g 2 24 vt _ _⟩
theorem i7 (w:World) (h:Hid (CoAt w g base T fu vi vt rest c)) (hf:fu<=1000000) (hs:c.steps<=1000000) :
  Calls Tryz.prog 42 #[.pointer (some ⟨g,0,none⟩)] w fun e w'=>e=.returned (.bool (!(c.asked fu).ended))/\CoAt w' g base T fu vi vt rest (c.asked fu)/\JKp w w' g vt vt:=by
 have c1:=h.out.far 1 rfl
 have c7:=h.out.far 7 rfl
 have ce:=h.out.ended
 cases he:c.ended with
 | true=>
  have ha:c.asked fu=c:=by unfold Co.asked;rw[if_neg (by rw[he];simp)]
  rw[ha,he]
  rw[he] at ce
  clear he ha
  go_enter Tryz.func42,Tryz.ntmps42
  go_wp2_with fail
  go_quiet (fail)
  go_wp2_with fail
  go_ret
  exact⟨rfl,h.out.drewN _,JKp.of_below (am (Below.refl _ _) _) g vt⟩
 | false=>
  rw[he] at ce
  by_cases hlt:fu<=c.steps
  ·have ha:c.asked fu=c.stop 4:=by unfold Co.asked;rw[if_pos ⟨he,hlt⟩]
   rw[ha]
   have hd:decide ((fu:Int)<=(c.steps:Int))=true:=decide_eq_true (by omega)
   have cn:=fun W hW=>gN (g:=g) (base:=base) (T:=T) (fu:=fu) (vi:=vi) (vt:=vt) (rest:=rest) (c:=c) 4 W hW
   clear he ha
   go_enter Tryz.func42,Tryz.ntmps42
   go_wp2_with fail
   go_quiet (fail)
   go_wp2_with fail
   refine(cn _ (aa (h.out.drewN _))).mono ?_
   rintro e w1 ⟨rfl,h1,k1⟩
   have ce1:=h1.ended
   have H1:=aa h1
   have K1:=aa k1
   clear h1 k1 cn c1 c7 ce
   go_wp2_with fail
   go_ret
   exact⟨rfl,H1.out,(JKp.of_below (am (Below.refl _ _) _) g vt).trans K1.out⟩
  ·have ha:c.asked fu=c:=by unfold Co.asked;rw[if_neg (fun h=>hlt h.2)]
   rw[ha,he]
   have hd:decide ((fu:Int)<=(c.steps:Int))=false:=decide_eq_false (by omega)
   clear he ha
   go_enter Tryz.func42,Tryz.ntmps42
   go_wp2_with fail
   go_quiet (fail)
   go_wp2_with fail
   go_ret
   exact⟨rfl,h.out.drewN _,JKp.of_below (am (Below.refl _ _) _) g vt⟩
theorem CoAt.setRes (h:CoAt w0 g base T fu vi vt rest c) (V:Nat):CoAt ((w0.setCell ⟨g,4,none⟩ (.int .u64 (lo V))).setCell ⟨g,5,none⟩ (.int .u64 (hi V))) g base T fu vi vt rest { c with res:=V }:=by
 have h1:=h.store 4 (.int .u64 (lo V)) (c':={ c with res:=lo2 V (hi c.res).toNat }) (fu':=fu) (vi':=vi) (rest':=rest) (by
  unfold bD
  rw[show hi (lo2 V (hi c.res).toNat)=hi c.res from Am _ _ (Bd _),show lo (lo2 V (hi c.res).toNat)=lo V from uu _ _]
  rfl) h.inp rfl h.r8
 exact h1.store 5 (.int .u64 (hi V)) (c':={ c with res:=V }) (fu':=fu) (vi':=vi) (rest':=rest) (by
  unfold bD
  rw[show lo (lo2 V (hi c.res).toNat)=lo V from uu _ _]
  rfl) h1.inp rfl h1.r8
theorem pw (w:World) (h:Hid (CoAt w g base T fu vi vt rest c)) :
  Calls Tryz.prog 100 #[.pointer (some ⟨g,0,none⟩)] w fun e w'=>e=.returned (.tuple #[])/\CoAt w' g base T fu vi vt rest c.ret/\JKp w w' g vt vt:=by
 obtain⟨r0,r1⟩:=h.out.reg (i:=0) (by decide)
 have z0:=h.out.row.free 4
 have z1:=h.out.row.free 5
 have c4:=h.out.far 4 rfl
 have c5:=h.out.far 5 rfl
 obtain⟨V,hV⟩:∃V,c.regs.getD 0 0=V:=⟨_,rfl⟩
 have hc:c.ret=({ c with res:=V }:Co).stop 0:=by unfold Co.ret;rw[show c.reg 0=V by rw[<-hV];exact c.reg_in (i:=0) (by decide)]
 rw[hV] at r0 r1
 rw[hc]
 obtain⟨W1,hW1⟩:∃W,(w.setCell ⟨g,4,none⟩ (.int .u64 (lo V))).setCell ⟨g,5,none⟩ (.int .u64 (hi V))=W:=⟨_,rfl⟩
 have H1:=aa (show CoAt W1 g base T fu vi vt rest { c with res:=V } by rw[<-hW1];exact h.out.setRes V)
 have K1:=aa (show JKp w W1 g vt vt by rw[<-hW1];exact JKp.set2 w g 4 5 vt _ _)
 have cn:=gN 0 W1 H1
 have HW1:=aa hW1
 clear hW1 hV hc
 go_enter Tryz.func100,Tryz.ntmps100
 go_upto_region 1 with(first|go_region)
 rw[HW1.out]
 go_wp2_with fail
 refine cn.mono ?_
 rintro e w2 ⟨rfl,h2,k2⟩
 have H2:=aa h2
 have K2:=aa k2
 clear h2 k2 cn
 go_wp2_with fail
 go_end0
 exact⟨rfl,H2.out,K1.out.trans K2.out⟩
theorem eA (n:Int) (w:World) (h:Hid (CoAt w g base T fu vi vt rest c)) :
  Calls Tryz.prog 93 #[.pointer (some ⟨g,0,none⟩),.int .i64 n] w fun e w'=>e=.returned (vv (c.reg n))/\Below w.heap.size w w':=by
 have hb:=aa (ag w (.cells #[.int .u64 0,.int .u64 0] 38))
 obtain⟨W1,hW1⟩:∃W,w.alloc (.cells #[.int .u64 0,.int .u64 0] 38)=W:=⟨_,rfl⟩
 have HW1:=aa hW1
 have R1:=aa (show Row W1 w.heap.size 38 [.int .u64 0,.int .u64 0] by rw[<-hW1];exact Row.new w _ _)
 have H1:=aa (show CoAt W1 g base T fu vi vt rest c by rw[<-hW1];exact h.out.alloc _)
 rw[hW1] at hb
 have hgl:=h.out.gl
 have x0:=R1.out.cell (k:=0) rfl
 have x1:=R1.out.cell (k:=1) rfl
 have f0:=R1.out.free 0
 have f1:=R1.out.free 1
 have B1:Hid (Below w.heap.size w W1):=hb
 have key:∀a b,Below w.heap.size w ((W1.setCell ⟨w.heap.size,0,none⟩ a).setCell ⟨w.heap.size,1,none⟩ b):=fun a b=>(B1.out.setCell (p:=⟨w.heap.size,0,none⟩) (Nat.le_refl _) a).setCell (p:=⟨w.heap.size,1,none⟩) (Nat.le_refl _) b
 have KEY:=aa key
 clear hW1 key hb
 by_cases hn:0<=n/\n<8
 ·obtain⟨i,rfl⟩:∃i:Nat,n=(i:Int):=⟨n.toNat,by omega⟩
  have hi:i<8:=by omega
  rw[c.reg_in hi]
  obtain⟨r0,r1⟩:=H1.out.reg hi
  obtain⟨V,hV⟩:∃V,c.regs.getD i 0=V:=⟨_,rfl⟩
  rw[hV] at r0 r1⊢
  have d0:decide ((i:Int)<0)=false:=decide_eq_false (by omega)
  have d1:decide ((8:Int)<=(i:Int))=false:=decide_eq_false (by omega)
  clear hV hn
  go_enter Tryz.func93,Tryz.ntmps93
  go_upto_region 1 with(fail)
  rw[HW1.out]
  go_wp2_with (first|go_region)
  exact bodyPost_ret (v:=vv V) (by simp[results,Tryz.results93,go_sem,f0,f1,x0,x1]) rfl ⟨rfl,KEY.out _ _⟩
 ·rw[c.reg_out hn]
  have h0:lo 0=0:=rfl
  have h1:hi 0=0:=rfl
  rcases(show n<0\/(¬n<0/\8<=n) by omega) with d0|⟨d0,d1⟩
  all_goals
   clear hn
   go_enter Tryz.func93,Tryz.ntmps93
   go_upto_region 1 with(fail)
   rw[HW1.out]
   go_wp2_with (first|go_region)
   exact bodyPost_ret (v:=vv 0) (by simp[results,Tryz.results93,go_sem,f0,f1,x0,x1];exact⟨rfl,rfl⟩) rfl ⟨rfl,KEY.out _ _⟩
theorem eP (n:Int) (V:Nat) (w:World) (h:Hid (CoAt w g base T fu vi vt rest c)) :
  Calls Tryz.prog 95 #[.pointer (some ⟨g,0,none⟩),.int .i64 n,vv V] w fun e w'=>e=.returned (.tuple #[])/\CoAt w' g base T fu vi vt rest (c.setR n V)/\JKp w w' g vt vt:=by
 obtain⟨W1,hW1⟩:∃W,w.alloc (.cells #[.int .u64 (lo V),.int .u64 (hi V)] 38)=W:=⟨_,rfl⟩
 have HW1:=aa hW1
 have R1:=aa (show Row W1 w.heap.size 38 [.int .u64 (lo V),.int .u64 (hi V)] by rw[<-hW1];exact Row.new w _ _)
 have H1:=aa (show CoAt W1 g base T fu vi vt rest c by rw[<-hW1];exact h.out.alloc _)
 have K1:=aa (show JKp w W1 g vt vt by rw[<-hW1];exact JKp.of_below (ag w _) g vt)
 have x0:=R1.out.cell (k:=0) rfl
 have x1:=R1.out.cell (k:=1) rfl
 clear hW1
 by_cases hn:0<=n/\n<8
 ·obtain⟨i,rfl⟩:∃i:Nat,n=(i:Int):=⟨n.toNat,by omega⟩
  have hi:i<8:=by omega
  obtain⟨r0,r1⟩:=H1.out.reg hi
  have z0:=H1.out.row.free (8+i*2)
  have z1:=H1.out.row.free (8+i*2+1)
  have d0:decide ((0:Int)<=(i:Int))=true:=decide_eq_true (by omega)
  have d1:decide ((i:Int)<8)=true:=decide_eq_true (by omega)
  clear hn
  go_enter Tryz.func95,Tryz.ntmps95
  go_upto_region 1 with(fail)
  rw[HW1.out]
  go_wp2_with (first|go_region)
  go_end0
  exact⟨rfl,(H1.out.setReg hi V).drewN _,(K1.out.trans (JKp.set2 _ g _ _ vt _ _)).drew _⟩
 ·rw[c.setR_out hn]
  rcases(show(0<=n/\8<=n)\/n<0 by omega) with⟨d0,d1⟩|d0
  all_goals
   clear hn
   go_enter Tryz.func95,Tryz.ntmps95
   go_upto_region 1 with(fail)
   rw[HW1.out]
   go_wp2_with (first|go_region)
   go_end0
   exact⟨rfl,H1.out,K1.out⟩
end
theorem kD (X:Nat) (b:Int) (w:World) (b0:0<=b) (b1:b<=1) :
  Calls Tryz.prog 151 #[vv X,.int .u64 b] w fun e w'=>e=.returned (vv (2*X+b.toNat))/\Below w.heap.size w w':=by
 obtain⟨l0,l1⟩:=cM X
 obtain⟨h0,h1⟩:=cQ X
 go_enter Tryz.func151,Tryz.ntmps151
 go_wp2
 rw[uH X b b0 b1,nV X b b0 b1]
 exact bodyPost_ret (v:=vv (2*X+b.toNat)) (by simp[results,Tryz.results151,go_sem]) rfl ⟨rfl,aP _ _ _⟩
theorem lL (X:Nat) (w:World):Calls Tryz.prog 151 #[vv X,.int .u64 0] w fun e w'=>e=.returned (vv (2*X))/\Below w.heap.size w w':=kD X 0 w (by omega) (by omega)
theorem sn (X:Nat) (w:World):Calls Tryz.prog 151 #[vv X,.int .u64 1] w fun e w'=>e=.returned (vv (2*X+1))/\Below w.heap.size w w':=kD X 1 w (by omega) (by omega)
theorem mc (X Y:Nat) (w:World) (hX:X<ae) (hY:Y<ae) :
  Calls Tryz.prog 145 #[vv X,vv Y] w fun e w'=>e=.returned (.bool (decide (X<Y)))/\Below w.heap.size w w':=by
 obtain⟨l0,l1⟩:=cM X
 obtain⟨h0,h1⟩:=cQ X
 obtain⟨m0,m1⟩:=cM Y
 obtain⟨k0,k1⟩:=cQ Y
 have hl:=aa (pd hX hY)
 go_enter Tryz.func145,Tryz.ntmps145
 go_wp2
 ·have hne:hi X≠hi Y:=by simpa using ‹(hi X !=hi Y)=true›
  go_ret
  exact⟨aw (decide_eq_decide.2 (by rw[hl.out];omega)),aP _ _ _⟩
 ·have he:hi X=hi Y:=by simpa using ‹(hi X !=hi Y)=false›
  go_ret
  exact⟨aw (decide_eq_decide.2 (by rw[hl.out];omega)),aP _ _ _⟩
theorem wF (X Y:Nat) (w:World) (hX:X<ae) (hY:Y<ae) (h:X<Y):Calls Tryz.prog 145 #[vv X,vv Y] w fun e w'=>e=.returned (.bool true)/\Below w.heap.size w w':=
 (mc X Y w hX hY).mono fun _ _ hh=>by rw[decide_eq_true h] at hh;exact hh
theorem yJ (X Y:Nat) (w:World) (hX:X<ae) (hY:Y<ae) (h:Y<=X):Calls Tryz.prog 145 #[vv X,vv Y] w fun e w'=>e=.returned (.bool false)/\Below w.heap.size w w':=
 (mc X Y w hX hY).mono fun _ _ hh=>by rw[decide_eq_false (by omega)] at hh;exact hh
theorem sR:vv 1=.agg #[.int .u64 1,.int .u64 0]:=rfl
theorem i9:vv 0=.agg #[.int .u64 0,.int .u64 0]:=rfl
theorem ny (b:Bool) (w:World) :
  Calls Tryz.prog 144 #[.bool b] w fun e w'=>e=.returned (vv (bn b))/\Below w.heap.size w w':=by
 cases b
 ·go_enter Tryz.func144,Tryz.ntmps144
  go_wp2
  exact bodyPost_ret (v:=vv 0) (by simp[results,Tryz.results144,go_sem,i9]) rfl ⟨rfl,(Below.refl _ _).alloc (Nat.le_refl _) _⟩
 ·go_enter Tryz.func144,Tryz.ntmps144
  go_wp2
  exact bodyPost_ret (v:=vv 1) (by simp[results,Tryz.results144,go_sem,sR]) rfl ⟨rfl,(Below.refl _ _).alloc (Nat.le_refl _) _⟩
theorem vc (x y c:Int) (w:World) (hx:0<=x) (hy:0<=y) (hc0:0<=c) (hc:c<=1) :
  (callFunc 148 #[.int .u64 x,.int .u64 y,.int .u64 c]).run Tryz.prog w =
   .ok (.value (.tuple #[.int .u64 ((x+y+c) % 18446744073709551616),.int .u64 ((x+y+c) / 18446744073709551616)])) w:=by
 rw[run_callFunc_extern Tryz.func148 (by kernel_rfl) (by kernel_rfl) (by kernel_rfl) (e:=add64Entry) (by kernel_rfl),run_add64 x y c hx hy hc0 hc]
 rfl
theorem s8 (x y c:Int) (w:World) (hx:0<=x) (hy:0<=y) (hy1:y<=18446744073709551615) (hc0:0<=c) (hc:c<=1) :
  (callFunc 149 #[.int .u64 x,.int .u64 y,.int .u64 c]).run Tryz.prog w =
   .ok (.value (.tuple #[.int .u64 ((x-y-c) % 18446744073709551616),.int .u64 (brw x y c)])) w:=by
 obtain⟨x,rfl⟩:=Int.eq_ofNat_of_zero_le hx
 obtain⟨y,rfl⟩:=Int.eq_ofNat_of_zero_le hy
 obtain⟨c,rfl⟩:=Int.eq_ofNat_of_zero_le hc0
 rw[run_callFunc_extern Tryz.func149 (by kernel_rfl) (by kernel_rfl) (by kernel_rfl) (e:=sub64Entry) (by kernel_rfl),run_sub64 x y c (by omega)]
 have e1:(((x+18446744073709551616-y-c) % 18446744073709551616:Nat):Int)=((x:Int)-y-c) % 18446744073709551616:=by omega
 have e2:(((if x<y+c then 1 else 0:Nat)):Int)=brw x y c:=by unfold brw;split<;>split<;>omega
 rw[e1,e2]
 rfl
theorem ya (X Y:Nat) (w:World) :
  Calls Tryz.prog 140 #[vv X,vv Y] w fun e w'=>e=.returned (vv (X+Y))/\Below w.heap.size w w':=by
 obtain⟨l0,l1⟩:=cM X
 obtain⟨h0,h1⟩:=cQ X
 obtain⟨m0,m1⟩:=cM Y
 obtain⟨k0,k1⟩:=cQ Y
 go_enter Tryz.func140,Tryz.ntmps140
 go_wp2_with (simp(disch:=omega) only[vc])
 rw[zJ,zK]
 exact bodyPost_ret (v:=vv (X+Y)) (by simp[results,Tryz.results140,go_sem]) rfl ⟨rfl,bi _ _ _ _⟩
theorem pq (X Y:Nat) (w:World) (hY:Y<ae) :
  Calls Tryz.prog 141 #[vv X,vv Y] w fun e w'=>e=.returned (vv (X+ae-Y))/\Below w.heap.size w w':=by
 obtain⟨l0,l1⟩:=cM X
 obtain⟨h0,h1⟩:=cQ X
 obtain⟨m0,m1⟩:=cM Y
 obtain⟨k0,k1⟩:=cQ Y
 obtain⟨b0,b1⟩:=Bj (lo X) (lo Y) 0
 go_enter Tryz.func141,Tryz.ntmps141
 go_wp2_with (simp(disch:=omega) only[s8])
 rw[y8 X Y hY,y9 X Y hY]
 exact bodyPost_ret (v:=vv (X+ae-Y)) (by simp[results,Tryz.results141,go_sem]) rfl ⟨rfl,bi _ _ _ _⟩
def tY:Go.Shelf.Ren:=⟨fun _=>150,fun t=>if t=53 then 36 else 186,fun g=>g⟩
theorem yG:Go.Proofs.Lays.n264 Tryz.prog tY:=by
 refine { mixed:=?_,f264:=?_,t46:=?_,a46:=?_,z46:=?_,v46:=?_,t53:=?_,a53:=?_,z53:=?_,v53:=?_ }
 ·kernel_rfl
 ·kernel_rfl
 ·kernel_rfl
 ·exact fun w=>by kernel_rfl
 ·exact fun w=>by kernel_rfl
 ·exact fun w=>by kernel_rfl
 ·kernel_rfl
 ·exact fun w=>by kernel_rfl
 ·exact fun w=>by kernel_rfl
 ·exact fun w=>by kernel_rfl
theorem ud (x y:Nat) (hx:x<18446744073709551616) (hy:y<18446744073709551616) (w:World) :
  Calls Tryz.prog 150 #[.int .u64 x,.int .u64 y] w fun e w'=>e=.returned (.tuple #[.int .u64 ((x*y / 18446744073709551616:Nat):Int),.int .u64 ((x*y % 18446744073709551616:Nat):Int)])/\w=w':=
 (Any.bits_Mul64 (ρ:=tY) yG x y hx hy w).mono fun _ _ ⟨he,hw⟩=>⟨he,hw.symm⟩
theorem ue (x y:Int) (x0:0<=x) (x1:x<=18446744073709551615) (y0:0<=y) (y1:y<=18446744073709551615) (w:World) :
  Calls Tryz.prog 150 #[.int .u64 x,.int .u64 y] w fun e w'=>e=.returned (.tuple #[.int .u64 (x*y / 18446744073709551616),.int .u64 (x*y % 18446744073709551616)])/\w=w':=by
 have h:=ud x.toNat y.toNat (by omega) (by omega) w
 rwa[Int.natCast_ediv,Int.natCast_emod,Int.natCast_mul,Int.toNat_of_nonneg x0,Int.toNat_of_nonneg y0] at h
theorem p6 (X Y:Nat) (w:World) (hX:X<ae) (hY:Y<ae) :
  Calls Tryz.prog 142 #[vv X,vv Y] w fun e w'=>e=.returned (vv (X*Y))/\Below w.heap.size w w':=by
 obtain⟨l0,l1⟩:=cM X
 obtain⟨h0,h1⟩:=cQ X
 obtain⟨m0,m1⟩:=cM Y
 obtain⟨k0,k1⟩:=cQ Y
 go_enter Tryz.func142,Tryz.ntmps142
 go_wp2_with fail
 refine(ue (lo X) (lo Y) (by omega) (by omega) (by omega) (by omega) _).mono ?_
 rintro e w' ⟨rfl,rfl⟩
 go_wp2
 rw[yq,yr X Y hX hY]
 exact bodyPost_ret (v:=vv (X*Y)) (by simp[results,Tryz.results142,go_sem]) rfl ⟨rfl,bi _ _ _ _⟩
def Bu (w0:World) (gx gy gr gq gt X Y:Nat) (i:Value) (wr:World):Prop:=
 ∃k:Nat,k<=128/\i=.int .i64 k/\Box wr gx (X*2 ^ k % ae)/\Box wr gy Y/\Box wr gr 0/\Box wr gq (X / 2 ^ (128-k) / Y)/\Box wr gt (X / 2 ^ (128-k) % Y)/\Below w0.heap.size w0 wr
theorem oR (X Y:Nat) (w:World) (hX:X<ae) (hY:Y<ae) (h0:0<Y) :
  Calls Tryz.prog 143 #[vv X,vv Y] w fun e w'=>e=.returned (vv (X / Y))/\Below w.heap.size w w':=by
 go_enter Tryz.func143,Tryz.ntmps143
 go_wp2
 go_loopw [9] (fun i wr=>Bu w w.heap.size (w.heap.size+1) (w.heap.size+1+1) (w.heap.size+1+1+1) (w.heap.size+1+1+1+1) X Y i wr) (fun i _=>128-(intOf i).toNat)
 case atStart=>exact⟨0,by omega,rfl,((((Box.new w X).alloc _).alloc _).alloc _).alloc _ |>.same (by rw[Nat.pow_zero,Nat.mul_one,Nat.mod_eq_of_lt hX]),(((Box.new _ Y).alloc _).alloc _).alloc _ |>.at_ (by simp),((Box.new _ 0).alloc _).alloc _ |>.at_ (by simp),((Box.new _ 0).alloc _ |>.at_ (by simp)).same (nJ X Y hX).1.symm,((Box.new _ 0) |>.at_ (by simp)).same (nJ X Y hX).2.symm,((bi w _ _ _).alloc (by simp;omega) _).alloc (by simp;omega) _⟩
 case round=>
  obtain⟨k,hk,rfl,bx,by_,br,bq,bt,hb⟩:=hrel
  by_cases hlt:k<128
  ·obtain⟨xk,hxk⟩:∃V,V=X*2 ^ k % ae:=⟨_,rfl⟩
   obtain⟨qk,hqk⟩:∃V,V=X / 2 ^ (128-k) / Y:=⟨_,rfl⟩
   obtain⟨rk,hrk⟩:∃V,V=X / 2 ^ (128-k) % Y:=⟨_,rfl⟩
   rw[<-hxk] at bx
   rw[<-hqk] at bq
   rw[<-hrk] at bt
   have HS:=aa (tG X Y k hX hlt h0 xk qk rk hxk hqk hrk)
   clear hxk hqk hrk
   obtain⟨x0,x1,xz0,xz1⟩:=bx.facts
   obtain⟨t0,t1,tz0,tz1⟩:=bt.facts
   go_wp2_with fail
   refine(kD rk (hi xk / 9223372036854775808) _ (by have:=cQ xk;omega) (by have:=cQ xk;omega)).mono ?_
   rintro e w1 ⟨rfl,hb1⟩
   clear x0 x1 xz0 xz1 t0 t1 tz0 tz1
   have bx:=bx.call hb1
   have by_:=by_.call hb1
   have br:=br.call hb1
   have bq:=bq.call hb1
   have bt:=bt.call hb1
   have hb:=ac hb hb1
   clear hb1
   generalize 2*rk+(hi xk / 9223372036854775808).toNat=r1 at *
   obtain⟨x0,x1,xz0,xz1⟩:=bx.facts
   obtain⟨t0,t1,tz0,tz1⟩:=bt.facts
   go_wp2_with fail
   clear x0 x1 xz0 xz1 t0 t1 tz0 tz1
   have bx:=bx.far2 (g':=w.heap.size+1+1+1+1) (by omega) (.int .u64 (lo (r1))) (.int .u64 (hi (r1)))
   have by_:=by_.far2 (g':=w.heap.size+1+1+1+1) (by omega) (.int .u64 (lo (r1))) (.int .u64 (hi (r1)))
   have br:=br.far2 (g':=w.heap.size+1+1+1+1) (by omega) (.int .u64 (lo (r1))) (.int .u64 (hi (r1)))
   have bq:=bq.far2 (g':=w.heap.size+1+1+1+1) (by omega) (.int .u64 (lo (r1))) (.int .u64 (hi (r1)))
   have bt:=bt.set_ (r1)
   have hb:=aL (g:=w.heap.size+1+1+1+1) hb (by omega) (.int .u64 (lo (r1))) (.int .u64 (hi (r1)))
   obtain⟨W1,hW1⟩:∃W,W=(w1.setCell ⟨w.heap.size+1+1+1+1,0,none⟩ (.int .u64 (lo (r1)))).setCell ⟨w.heap.size+1+1+1+1,1,none⟩ (.int .u64 (hi (r1))):=⟨_,rfl⟩
   rw[<-hW1] at bx by_ br bq bt hb⊢
   clear hW1
   obtain⟨x0,x1,xz0,xz1⟩:=bx.facts
   refine(lL xk _).mono ?_
   rintro e w2 ⟨rfl,hb1⟩
   clear x0 x1 xz0 xz1
   have bx:=bx.call hb1
   have by_:=by_.call hb1
   have br:=br.call hb1
   have bq:=bq.call hb1
   have bt:=bt.call hb1
   have hb:=ac hb hb1
   clear hb1
   obtain⟨x0,x1,xz0,xz1⟩:=bx.facts
   obtain⟨y0,y1,yz0,yz1⟩:=by_.facts
   obtain⟨t0,t1,tz0,tz1⟩:=bt.facts
   go_wp2_with fail
   clear x0 x1 xz0 xz1 y0 y1 yz0 yz1 t0 t1 tz0 tz1
   have bx:=bx.set_ (2*xk)
   have by_:=by_.far2 (g':=w.heap.size) (by omega) (.int .u64 (lo (2*xk))) (.int .u64 (hi (2*xk)))
   have br:=br.far2 (g':=w.heap.size) (by omega) (.int .u64 (lo (2*xk))) (.int .u64 (hi (2*xk)))
   have bq:=bq.far2 (g':=w.heap.size) (by omega) (.int .u64 (lo (2*xk))) (.int .u64 (hi (2*xk)))
   have bt:=bt.far2 (g':=w.heap.size) (by omega) (.int .u64 (lo (2*xk))) (.int .u64 (hi (2*xk)))
   have hb:=aL (g:=w.heap.size) hb (by omega) (.int .u64 (lo (2*xk))) (.int .u64 (hi (2*xk)))
   obtain⟨W2,hW2⟩:∃W,W=(w2.setCell ⟨w.heap.size,0,none⟩ (.int .u64 (lo (2*xk)))).setCell ⟨w.heap.size,1,none⟩ (.int .u64 (hi (2*xk))):=⟨_,rfl⟩
   rw[<-hW2] at bx by_ br bq bt hb⊢
   clear hW2
   by_cases hless:r1<Y
   ·refine(wF r1 Y _ HS.out.2.1 hY hless).mono ?_
    rintro e w3 ⟨rfl,hb1⟩
    have bx:=bx.call hb1
    have by_:=by_.call hb1
    have br:=br.call hb1
    have bq:=bq.call hb1
    have bt:=bt.call hb1
    have hb:=ac hb hb1
    clear hb1
    obtain⟨q0,q1,qz0,qz1⟩:=bq.facts
    go_wp2_with fail
    refine(lL qk _).mono ?_
    rintro e w4 ⟨rfl,hb1⟩
    clear q0 q1 qz0 qz1
    have bx:=bx.call hb1
    have by_:=by_.call hb1
    have br:=br.call hb1
    have bq:=bq.call hb1
    have bt:=bt.call hb1
    have hb:=ac hb hb1
    clear hb1
    obtain⟨q0,q1,qz0,qz1⟩:=bq.facts
    go_wp2_with fail
    clear q0 q1 qz0 qz1
    have bx:=bx.far2 (g':=w.heap.size+1+1+1) (by omega) (.int .u64 (lo (2*qk))) (.int .u64 (hi (2*qk)))
    have by_:=by_.far2 (g':=w.heap.size+1+1+1) (by omega) (.int .u64 (lo (2*qk))) (.int .u64 (hi (2*qk)))
    have br:=br.far2 (g':=w.heap.size+1+1+1) (by omega) (.int .u64 (lo (2*qk))) (.int .u64 (hi (2*qk)))
    have bq:=bq.set_ (2*qk)
    have bt:=bt.far2 (g':=w.heap.size+1+1+1) (by omega) (.int .u64 (lo (2*qk))) (.int .u64 (hi (2*qk)))
    have hb:=aL (g:=w.heap.size+1+1+1) hb (by omega) (.int .u64 (lo (2*qk))) (.int .u64 (hi (2*qk)))
    refine⟨⟨k+1,by omega,by go_num,bx.congr (by rw[HS.out.1,Nat.mod_mod]),by_,br,bq.same (HS.out.2.2.1 hless).1,bt.same (HS.out.2.2.1 hless).2,hb⟩,by simp[intOf];omega⟩
   ·refine(yJ r1 Y _ HS.out.2.1 hY (by omega)).mono ?_
    rintro e w3 ⟨rfl,hb1⟩
    have bx:=bx.call hb1
    have by_:=by_.call hb1
    have br:=br.call hb1
    have bq:=bq.call hb1
    have bt:=bt.call hb1
    have hb:=ac hb hb1
    clear hb1
    obtain⟨t0,t1,tz0,tz1⟩:=bt.facts
    obtain⟨y0,y1,yz0,yz1⟩:=by_.facts
    go_wp2_with fail
    refine(pq r1 Y _ hY).mono ?_
    rintro e w4 ⟨rfl,hb1⟩
    clear t0 t1 tz0 tz1 y0 y1 yz0 yz1
    have bx:=bx.call hb1
    have by_:=by_.call hb1
    have br:=br.call hb1
    have bq:=bq.call hb1
    have bt:=bt.call hb1
    have hb:=ac hb hb1
    clear hb1
    obtain⟨t0,t1,tz0,tz1⟩:=bt.facts
    obtain⟨q0,q1,qz0,qz1⟩:=bq.facts
    go_wp2_with fail
    clear t0 t1 tz0 tz1 q0 q1 qz0 qz1
    have bx:=bx.far2 (g':=w.heap.size+1+1+1+1) (by omega) (.int .u64 (lo (r1+ae-Y))) (.int .u64 (hi (r1+ae-Y)))
    have by_:=by_.far2 (g':=w.heap.size+1+1+1+1) (by omega) (.int .u64 (lo (r1+ae-Y))) (.int .u64 (hi (r1+ae-Y)))
    have br:=br.far2 (g':=w.heap.size+1+1+1+1) (by omega) (.int .u64 (lo (r1+ae-Y))) (.int .u64 (hi (r1+ae-Y)))
    have bq:=bq.far2 (g':=w.heap.size+1+1+1+1) (by omega) (.int .u64 (lo (r1+ae-Y))) (.int .u64 (hi (r1+ae-Y)))
    have bt:=bt.set_ (r1+ae-Y)
    have hb:=aL (g:=w.heap.size+1+1+1+1) hb (by omega) (.int .u64 (lo (r1+ae-Y))) (.int .u64 (hi (r1+ae-Y)))
    obtain⟨W4,hW4⟩:∃W,W=(w4.setCell ⟨w.heap.size+1+1+1+1,0,none⟩ (.int .u64 (lo (r1+ae-Y)))).setCell ⟨w.heap.size+1+1+1+1,1,none⟩ (.int .u64 (hi (r1+ae-Y))):=⟨_,rfl⟩
    rw[<-hW4] at bx by_ br bq bt hb⊢
    clear hW4
    refine(sn qk _).mono ?_
    rintro e w5 ⟨rfl,hb1⟩
    have bx:=bx.call hb1
    have by_:=by_.call hb1
    have br:=br.call hb1
    have bq:=bq.call hb1
    have bt:=bt.call hb1
    have hb:=ac hb hb1
    clear hb1
    obtain⟨q0,q1,qz0,qz1⟩:=bq.facts
    go_wp2_with fail
    clear q0 q1 qz0 qz1
    have bx:=bx.far2 (g':=w.heap.size+1+1+1) (by omega) (.int .u64 (lo (2*qk+1))) (.int .u64 (hi (2*qk+1)))
    have by_:=by_.far2 (g':=w.heap.size+1+1+1) (by omega) (.int .u64 (lo (2*qk+1))) (.int .u64 (hi (2*qk+1)))
    have br:=br.far2 (g':=w.heap.size+1+1+1) (by omega) (.int .u64 (lo (2*qk+1))) (.int .u64 (hi (2*qk+1)))
    have bq:=bq.set_ (2*qk+1)
    have bt:=bt.far2 (g':=w.heap.size+1+1+1) (by omega) (.int .u64 (lo (2*qk+1))) (.int .u64 (hi (2*qk+1)))
    have hb:=aL (g:=w.heap.size+1+1+1) hb (by omega) (.int .u64 (lo (2*qk+1))) (.int .u64 (hi (2*qk+1)))
    go_roundw
    case rel=>exact⟨k+1,by omega,by go_num,bx.congr (by rw[HS.out.1,Nat.mod_mod]),by_,br,bq.same (HS.out.2.2.2 (by omega)).1,bt.congr (by rw[<-(HS.out.2.2.2 (by omega)).2,qV r1 Y (by omega)]),hb⟩
    case measure=>simp[intOf];omega
  ·obtain rfl:k=128:=by omega
   have bq:=bq.same (show X / 2 ^ (128-128) / Y=X / Y by simp)
   obtain⟨q0,q1,qz0,qz1⟩:=bq.facts
   obtain⟨r0,r1,rz0,rz1⟩:=br.facts
   go_wp2_with fail
   clear q0 q1 qz0 qz1 r0 r1 rz0 rz1
   have bx:=bx.far2 (g':=w.heap.size+1+1) (by omega) (.int .u64 (lo (X / Y))) (.int .u64 (hi (X / Y)))
   have by_:=by_.far2 (g':=w.heap.size+1+1) (by omega) (.int .u64 (lo (X / Y))) (.int .u64 (hi (X / Y)))
   have br:=br.set_ (X / Y)
   have bq:=bq.far2 (g':=w.heap.size+1+1) (by omega) (.int .u64 (lo (X / Y))) (.int .u64 (hi (X / Y)))
   have bt:=bt.far2 (g':=w.heap.size+1+1) (by omega) (.int .u64 (lo (X / Y))) (.int .u64 (hi (X / Y)))
   have hb:=aL (g:=w.heap.size+1+1) hb (by omega) (.int .u64 (lo (X / Y))) (.int .u64 (hi (X / Y)))
   obtain⟨W9,hW9⟩:∃W,W=(wr.setCell ⟨w.heap.size+1+1,0,none⟩ (.int .u64 (lo (X / Y)))).setCell ⟨w.heap.size+1+1,1,none⟩ (.int .u64 (hi (X / Y))):=⟨_,rfl⟩
   rw[<-hW9] at bx by_ br bq bt hb⊢
   clear hW9
   obtain⟨r0,r1,rz0,rz1⟩:=br.facts
   exact bodyPost_ret (v:=vv (X / Y)) (by simp[results,Tryz.results143,go_sem,r0,r1]) rfl ⟨rfl,hb⟩
theorem sS:Tryz.prog.underlying 38=some (.struct (Tryz.prog.fieldsOf 38)):=by kernel_rfl
theorem xP:Tryz.prog.stoodInHeld 38=false:=by kernel_rfl
theorem jS (l h m k:Int) (w:World):(Op.equalIn 10000 38 (.agg #[.int .u64 l,.int .u64 h]) (.agg #[.int .u64 m,.int .u64 k])).run Tryz.prog w=.ok (decide (l=m)&&decide (h=k)) w:=by
 rw[show(10000:Nat)=9999+1 from rfl,run_equalIn_agg w 9999 38 _ _ sS xP]
 have u:=Tryz.underlying36
 have a:=Tryz.isAgg36
 have z:=Tryz.sizeOf36
 simp only[Program.fieldsOf,Tryz.underlying38]
 go_simp
 by_cases h1:l=m<;>by_cases h2:h=k<;>simp[h1,h2]
theorem jA (X Y:Nat) (w:World) (hX:X<ae) (hY:Y<ae):(binOp .eql 38 (.agg #[.int .u64 (lo X),.int .u64 (hi X)]) (.agg #[.int .u64 (lo Y),.int .u64 (hi Y)])).run Tryz.prog w=.ok (.bool (decide (X=Y))) w:=by
 rw[run_eql_struct,jS,Result.andThen_ok,<-Bool.decide_and,decide_eq_decide.2 (mj hX hY)]
theorem td (X Y:Nat) (w:World) (hX:X<ae) (hY:Y<ae):(binOp .neq 38 (.agg #[.int .u64 (lo X),.int .u64 (hi X)]) (.agg #[.int .u64 (lo Y),.int .u64 (hi Y)])).run Tryz.prog w=.ok (.bool (!decide (X=Y))) w:=by
 rw[run_neq_struct,jS,Result.andThen_ok,<-Bool.decide_and,decide_eq_decide.2 (mj hX hY)]
theorem lH (X:Nat) (w:World) (hX:X<ae):(binOp .eql 38 (.agg #[.int .u64 (lo X),.int .u64 (hi X)]) (.agg #[.int .u64 0,.int .u64 0])).run Tryz.prog w=.ok (.bool (decide (X=0))) w:=jA X 0 w hX dO
theorem pV (X Y:Nat) (w:World) (h:X % ae=Y % ae):(binOp .neq 38 (.agg #[.int .u64 (lo X),.int .u64 (hi X)]) (.agg #[.int .u64 (lo Y),.int .u64 (hi Y)])).run Tryz.prog w=.ok (.bool false) w:=by
 rw[run_neq_struct,jS,(fC h).1,(fC h).2];simp[Result.andThen]
end Go.Proofs.YtjbgepjdohfhkaaGreat
