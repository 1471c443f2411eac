/- The contract of machrun.run: a machine whose run has ended, or the error (chapter 12). Conditions: those of the types. -/
import Derived.Test.YtjbgepjdohfhkaaGreatMNent
import Derived.Test.YtjbgepjdohfhkaaGreatMKnw
import Derived.Test.YtjbgepjdohfhkaaGreatMMoper
set_option linter.unusedVariables false
set_option linter.unusedSimpArgs false
set_option maxRecDepth 100000
set_option maxHeartbeats 8000000
namespace Go.Proofs.YtjbgepjdohfhkaaGreat
open Go.RowKit
section
variable {w:World}
theorem fL:(isAgg 71).run Tryz.prog w=.ok true w:=by kernel_rfl
theorem cJ:(sizeOf 71).run Tryz.prog w=.ok 32 w:=by kernel_rfl
theorem le:(isAgg 41).run Tryz.prog w=.ok true w:=by kernel_rfl
theorem iT:(sizeOf 41).run Tryz.prog w=.ok 6 w:=by kernel_rfl
end
def aE (fu T0:Nat) (s:Tm) (vi vt vf:Value) (A1:Option Addr) (c1:Nat) (A2:Option Addr) (c2:Nat) (vs:Value):List Value:=bD fu s.c vi vt++db T0 s vf A1 c1 A2 c2 vs
def bz:Tm:=⟨jG [],[],bg 0 0,0⟩
section
variable {fu T0:Nat} {s:Tm} {vi vt vf vs:Value} {A1 A2:Option Addr} {c1 c2:Nat}
theorem bK (h:s.c.regs.length=8):(aE fu T0 s vi vt vf A1 c1 A2 c2 vs).length=32:=by
 unfold aE bD db
 simp only[List.length_append,aT,h,List.length_cons,List.length_nil]
theorem fM (h1:vi.oneCell'=true) (h2:vt.oneCell'=true) (h3:vf.oneCell'=true) (h4:vs.oneCell'=true):∀v∈aE fu T0 s vi vt vf A1 c1 A2 c2 vs,v.oneCell'=true:=by
 intro v hv
 unfold aE bD db at hv
 rw[List.append_assoc] at hv
 rcases List.mem_append.1 hv with hv|hv
 ·simp only[List.mem_cons,List.not_mem_nil,or_false] at hv
  rcases hv with rfl|rfl|rfl|rfl|rfl|rfl|rfl|rfl<;>first|rfl|assumption
 ·rw[List.append_assoc] at hv
  rcases List.mem_append.1 hv with hv|hv
  ·exact bk _ v hv
  ·simp only[List.singleton_append,List.mem_cons,List.not_mem_nil,or_false] at hv
   rcases hv with rfl|rfl|rfl|rfl|rfl|rfl|rfl|rfl<;>first|rfl|assumption
end
def bL (Al:Int) (F:Tg) (fuel size:Int):Int:=if tgE Al F≠0 then tgE Al F else if(0<=fuel/\fuel<=100000)/\(0<=size/\size<=1048576) then 0 else 4
def aY (Al:Int) (F:Tg) (inp:List Nat) (fuel size:Int):Tm:=if bL Al F fuel size=0 then gU Al.toNat F inp fuel.toNat size.toNat else bz
def gE (Al:Int) (F:Tg) (inp:List Nat) (fuel size:Int) (w:World) (e:Ending) (w':World):Prop:=
 ∃(fu T0:Nat) (vi vt vf:Value) (A1:Option Addr) (c1:Nat) (A2:Option Addr) (c2:Nat) (vs:Value),e=.returned (.tuple #[.agg (aE fu T0 (aY Al F inp fuel size) vi vt vf A1 c1 A2 c2 vs).toArray,.int .i64 (bL Al F fuel size)])/\(aY Al F inp fuel size).c.regs.length=8/\(∀v∈aE fu T0 (aY Al F inp fuel size) vi vt vf A1 c1 A2 c2 vs,v.oneCell'=true) /\
  w'.ownsRow w.heap.size 38 2 vt (aY Al F inp fuel size).c.trace.length (ah (aY Al F inp fuel size).c.trace)/\Below w.heap.size w w'
theorem ip (Al:Int) (F:Tg) (inp:List Nat) (fuel size:Int) (w w':World) (x:Int) (hx:bL Al F fuel size=x) (h0:x≠0) (hb:Below w.heap.size w w') :
  gE Al F inp fuel size w (.returned (.tuple #[.agg (aE 0 0 bz (.slice none 0 0) (.slice none 0 0) (.slice none 0 0) none 0 none 0 (.slice none 0 0)).toArray,.int .i64 x])) w':=by
 have hs:aY Al F inp fuel size=bz:=by unfold aY;rw[if_neg (by rw[hx];exact h0)]
 refine⟨0,0,.slice none 0 0,.slice none 0 0,.slice none 0 0,none,0,none,0,.slice none 0 0,by rw[hs,hx],by rw[hs];rfl,fM rfl rfl rfl rfl,?_,hb⟩
 rw[hs]
 exact World.ownsRow_nil _ _ _ _
theorem wm {lo n c:Nat} {A:Option Addr} {hs:List Fd} (Al:Int) (F:Tg) (inp:List Nat) (fuel size:Int) (Ai:Option Addr) (ni ci:Nat) (w:World) (hE:tgE Al F≠0) (hPg:Hid (TgAt w lo w.heap.size A n c hs F)) :
  Calls Tryz.prog 19 #[tv Al A n c,.slice Ai ni ci,.int .i64 fuel,.int .i64 size] w (gE Al F inp fuel size w):=by
 obtain⟨x,hx⟩:∃x,tgE Al F=x:=⟨_,rfl⟩
 have hb0:=aa (aP w (.cells #[.int .i64 Al,.slice A n c] 26) (.cells (aE 0 0 bz (.slice none 0 0) (.slice none 0 0) (.slice none 0 0) none 0 none 0 (.slice none 0 0)).toArray 71))
 obtain⟨W1,hW1⟩:∃W1,(w.alloc (.cells #[.int .i64 Al,.slice A n c] 26)).alloc (.cells (aE 0 0 bz (.slice none 0 0) (.slice none 0 0) (.slice none 0 0) none 0 none 0 (.slice none 0 0)).toArray 71)=W1:=⟨_,rfl⟩
 rw[hW1] at hb0
 have cc:=jH Al A n c hs F lo w.heap.size W1 (aa (hPg.out.below hb0.out)) hb0.out.size
 have HW1:=aa (show(w.alloc (.cells #[.int .i64 Al,.slice A n c] 26)).alloc (.cells #[.slice none 0 0,.int .i64 0,.int .i64 0,.int .u64 0,.int .u64 0,.int .u64 0,.slice none 0 0,.int .i64 0,.int .u64 0,.int .u64 0,.int .u64 0,.int .u64 0,.int .u64 0,.int .u64 0,.int .u64 0,.int .u64 0,.int .u64 0,.int .u64 0,.int .u64 0,.int .u64 0,.int .u64 0,.int .u64 0,.int .u64 0,.int .u64 0,.bool false,.slice none 0 0,.slice none 0 0,.slice none 0 0,.int .i64 0,.int .i64 0,.slice none 0 0,.int .i64 0] 71)=W1 from hW1)
 clear hW1
 rw[hx] at cc
 have hx0:x≠0:=by rw[<-hx];exact hE
 have HE:=aa (show bL Al F fuel size=x by unfold bL;rw[if_pos hE,hx])
 have hxb:(x==0)=false:=by rw[beq_eq_false_iff_ne];exact hx0
 clear hE hx
 go_enter Tryz.func19,Tryz.ntmps19
 go_upto_region 1 with(fail)
 rw[HW1.out]
 have RZ:=aa (show Row W1 (w.heap.size+1) 71 (aE 0 0 bz (.slice none 0 0) (.slice none 0 0) (.slice none 0 0) none 0 none 0 (.slice none 0 0)) by
  rw[<-HW1.out]
  have:=Row.new (w.alloc (.cells #[.int .i64 Al,.slice A n c] 26)) 71 (aE 0 0 bz (.slice none 0 0) (.slice none 0 0) (.slice none 0 0) none 0 none 0 (.slice none 0 0))
  rw[show(w.alloc (.cells #[.int .i64 Al,.slice A n c] 26)).heap.size=w.heap.size+1 by simp] at this
  exact this)
 have RB:=aa (show Row W1 w.heap.size 26 [.int .i64 Al,.slice A n c] by rw[<-HW1.out];exact(Row.new w _ _).alloc _)
 have x0:=RB.out.cell (k:=0) rfl
 have x1:=RB.out.cell (k:=1) rfl
 clear HW1
 go_wp2_with fail
 refine cc.mono ?_
 rintro e w2 ⟨rfl,hb2⟩
 have B2:=aa (hb0.out.trans (hb2.mono hb0.out.size))
 have R2:=aa (RZ.out.call hb2)
 have RB2:=aa (RB.out.call hb2)
 clear cc hb2 x0 x1 RZ RB
 have hst:=cL (vs:=(aE 0 0 bz (.slice none 0 0) (.slice none 0 0) (.slice none 0 0) none 0 none 0 (.slice none 0 0))) (cJ (w:=w2)) (bK rfl) (bK rfl) (fM rfl rfl rfl rfl) R2.out
 have R3:=aa (bd (vs:=(aE 0 0 bz (.slice none 0 0) (.slice none 0 0) (.slice none 0 0) none 0 none 0 (.slice none 0 0))) R2.out)
 have B3:=aa (show Below w.heap.size w (w2.setRow (w.heap.size+1) (aE 0 0 bz (.slice none 0 0) (.slice none 0 0) (.slice none 0 0) none 0 none 0 (.slice none 0 0)).toArray) from B2.out.grown (aU w2 _ _) B2.out.size (fun k hk=>by injection hk with hk;omega))
 generalize w2.setRow (w.heap.size+1) (aE 0 0 bz (.slice none 0 0) (.slice none 0 0) (.slice none 0 0) none 0 none 0 (.slice none 0 0)).toArray=W3 at hst R3 B3
 have hld:=bG (fL (w:=W3)) (cJ (w:=W3)) (bK rfl) R3.out
 go_wp2_with (first|(refine aI 71 (.tmp 8) (.tmp 18) rfl rfl _ _ rfl rfl hst ?_)|fail)
 exact bodyPost_ret (v:=.tuple #[.agg (aE 0 0 bz (.slice none 0 0) (.slice none 0 0) (.slice none 0 0) none 0 none 0 (.slice none 0 0)).toArray,.int .i64 x]) (dZ (fn:=Tryz.f19) (t:=8) (u:=9) (T:=71) rfl _ W3 _ _ _ rfl hld) rfl (ip Al F inp fuel size w W3 x HE.out hx0 B3.out)
theorem uj {lo n c:Nat} {A:Option Addr} {hs:List Fd} (Al:Int) (F:Tg) (inp:List Nat) (fuel size:Int) (Ai:Option Addr) (ni ci:Nat) (w:World) (hE:tgE Al F=0) (hfu:¬(0<=fuel/\fuel<=100000)) (hPg:Hid (TgAt w lo w.heap.size A n c hs F)) :
  Calls Tryz.prog 19 #[tv Al A n c,.slice Ai ni ci,.int .i64 fuel,.int .i64 size] w (gE Al F inp fuel size w):=by
 have hb0:=aa (aP w (.cells #[.int .i64 Al,.slice A n c] 26) (.cells (aE 0 0 bz (.slice none 0 0) (.slice none 0 0) (.slice none 0 0) none 0 none 0 (.slice none 0 0)).toArray 71))
 obtain⟨W1,hW1⟩:∃W1,(w.alloc (.cells #[.int .i64 Al,.slice A n c] 26)).alloc (.cells (aE 0 0 bz (.slice none 0 0) (.slice none 0 0) (.slice none 0 0) none 0 none 0 (.slice none 0 0)).toArray 71)=W1:=⟨_,rfl⟩
 rw[hW1] at hb0
 have cc:=jH Al A n c hs F lo w.heap.size W1 (aa (hPg.out.below hb0.out)) hb0.out.size
 have HW1:=aa (show(w.alloc (.cells #[.int .i64 Al,.slice A n c] 26)).alloc (.cells #[.slice none 0 0,.int .i64 0,.int .i64 0,.int .u64 0,.int .u64 0,.int .u64 0,.slice none 0 0,.int .i64 0,.int .u64 0,.int .u64 0,.int .u64 0,.int .u64 0,.int .u64 0,.int .u64 0,.int .u64 0,.int .u64 0,.int .u64 0,.int .u64 0,.int .u64 0,.int .u64 0,.int .u64 0,.int .u64 0,.int .u64 0,.int .u64 0,.bool false,.slice none 0 0,.slice none 0 0,.slice none 0 0,.int .i64 0,.int .i64 0,.slice none 0 0,.int .i64 0] 71)=W1 from hW1)
 clear hW1
 rw[hE] at cc
 have HE:=aa (show bL Al F fuel size=4 by unfold bL;rw[if_neg (by rw[hE];decide),if_neg (fun hh=>hfu hh.1)])
 have hx0:(4:Int)≠0:=by decide
 have hcase:fuel<0\/(¬fuel<0/\100000<fuel):=by omega
 clear hE hfu
 go_enter Tryz.func19,Tryz.ntmps19
 go_upto_region 1 with(fail)
 rw[HW1.out]
 have RZ:=aa (show Row W1 (w.heap.size+1) 71 (aE 0 0 bz (.slice none 0 0) (.slice none 0 0) (.slice none 0 0) none 0 none 0 (.slice none 0 0)) by
  rw[<-HW1.out]
  have:=Row.new (w.alloc (.cells #[.int .i64 Al,.slice A n c] 26)) 71 (aE 0 0 bz (.slice none 0 0) (.slice none 0 0) (.slice none 0 0) none 0 none 0 (.slice none 0 0))
  rw[show(w.alloc (.cells #[.int .i64 Al,.slice A n c] 26)).heap.size=w.heap.size+1 by simp] at this
  exact this)
 have RB:=aa (show Row W1 w.heap.size 26 [.int .i64 Al,.slice A n c] by rw[<-HW1.out];exact(Row.new w _ _).alloc _)
 have x0:=RB.out.cell (k:=0) rfl
 have x1:=RB.out.cell (k:=1) rfl
 clear HW1
 go_wp2_with fail
 refine cc.mono ?_
 rintro e w2 ⟨rfl,hb2⟩
 have B2:=aa (hb0.out.trans (hb2.mono hb0.out.size))
 have R2:=aa (RZ.out.call hb2)
 have RB2:=aa (RB.out.call hb2)
 clear cc hb2 x0 x1 RZ RB
 have hst:=cL (vs:=(aE 0 0 bz (.slice none 0 0) (.slice none 0 0) (.slice none 0 0) none 0 none 0 (.slice none 0 0))) (cJ (w:=w2)) (bK rfl) (bK rfl) (fM rfl rfl rfl rfl) R2.out
 have R3:=aa (bd (vs:=(aE 0 0 bz (.slice none 0 0) (.slice none 0 0) (.slice none 0 0) none 0 none 0 (.slice none 0 0))) R2.out)
 have B3:=aa (show Below w.heap.size w (w2.setRow (w.heap.size+1) (aE 0 0 bz (.slice none 0 0) (.slice none 0 0) (.slice none 0 0) none 0 none 0 (.slice none 0 0)).toArray) from B2.out.grown (aU w2 _ _) B2.out.size (fun k hk=>by injection hk with hk;omega))
 generalize w2.setRow (w.heap.size+1) (aE 0 0 bz (.slice none 0 0) (.slice none 0 0) (.slice none 0 0) none 0 none 0 (.slice none 0 0)).toArray=W3 at hst R3 B3
 have hld:=bG (fL (w:=W3)) (cJ (w:=W3)) (bK rfl) R3.out
 rcases hcase with h0|⟨h0,h1⟩
 all_goals
  go_wp2_with (first|(refine aI 71 (.tmp 8) (.tmp 26) rfl rfl _ _ rfl rfl hst ?_)|fail)
  exact bodyPost_ret (v:=.tuple #[.agg (aE 0 0 bz (.slice none 0 0) (.slice none 0 0) (.slice none 0 0) none 0 none 0 (.slice none 0 0)).toArray,.int .i64 4]) (dZ (fn:=Tryz.f19) (t:=8) (u:=9) (T:=71) rfl _ W3 _ _ _ rfl hld) rfl (ip Al F inp fuel size w W3 4 HE.out hx0 B3.out)
theorem ug {lo n c:Nat} {A:Option Addr} {hs:List Fd} (Al:Int) (F:Tg) (inp:List Nat) (fuel size:Int) (Ai:Option Addr) (ni ci:Nat) (w:World) (hE:tgE Al F=0) (hfu:0<=fuel/\fuel<=100000) (hsz:¬(0<=size/\size<=1048576)) (hPg:Hid (TgAt w lo w.heap.size A n c hs F)) :
  Calls Tryz.prog 19 #[tv Al A n c,.slice Ai ni ci,.int .i64 fuel,.int .i64 size] w (gE Al F inp fuel size w):=by
 have hb0:=aa (aP w (.cells #[.int .i64 Al,.slice A n c] 26) (.cells (aE 0 0 bz (.slice none 0 0) (.slice none 0 0) (.slice none 0 0) none 0 none 0 (.slice none 0 0)).toArray 71))
 obtain⟨W1,hW1⟩:∃W1,(w.alloc (.cells #[.int .i64 Al,.slice A n c] 26)).alloc (.cells (aE 0 0 bz (.slice none 0 0) (.slice none 0 0) (.slice none 0 0) none 0 none 0 (.slice none 0 0)).toArray 71)=W1:=⟨_,rfl⟩
 rw[hW1] at hb0
 have cc:=jH Al A n c hs F lo w.heap.size W1 (aa (hPg.out.below hb0.out)) hb0.out.size
 have HW1:=aa (show(w.alloc (.cells #[.int .i64 Al,.slice A n c] 26)).alloc (.cells #[.slice none 0 0,.int .i64 0,.int .i64 0,.int .u64 0,.int .u64 0,.int .u64 0,.slice none 0 0,.int .i64 0,.int .u64 0,.int .u64 0,.int .u64 0,.int .u64 0,.int .u64 0,.int .u64 0,.int .u64 0,.int .u64 0,.int .u64 0,.int .u64 0,.int .u64 0,.int .u64 0,.int .u64 0,.int .u64 0,.int .u64 0,.int .u64 0,.bool false,.slice none 0 0,.slice none 0 0,.slice none 0 0,.int .i64 0,.int .i64 0,.slice none 0 0,.int .i64 0] 71)=W1 from hW1)
 clear hW1
 rw[hE] at cc
 have HE:=aa (show bL Al F fuel size=4 by unfold bL;rw[if_neg (by rw[hE];decide),if_neg (fun hh=>hsz hh.2)])
 have hx0:(4:Int)≠0:=by decide
 obtain⟨hn1,hn2⟩:=kW size Al (fun hh=>hsz ⟨hh.1,hh.2.1⟩)
 have HNE:=aa hn1
 have HNR:=aa hn2
 have hf0:¬fuel<0:=by omega
 have hf1:¬100000<fuel:=by omega
 clear hE hfu hsz hn1 hn2
 go_enter Tryz.func19,Tryz.ntmps19
 go_upto_region 1 with(fail)
 rw[HW1.out]
 have RZ:=aa (show Row W1 (w.heap.size+1) 71 (aE 0 0 bz (.slice none 0 0) (.slice none 0 0) (.slice none 0 0) none 0 none 0 (.slice none 0 0)) by
  rw[<-HW1.out]
  have:=Row.new (w.alloc (.cells #[.int .i64 Al,.slice A n c] 26)) 71 (aE 0 0 bz (.slice none 0 0) (.slice none 0 0) (.slice none 0 0) none 0 none 0 (.slice none 0 0))
  rw[show(w.alloc (.cells #[.int .i64 Al,.slice A n c] 26)).heap.size=w.heap.size+1 by simp] at this
  exact this)
 have RB:=aa (show Row W1 w.heap.size 26 [.int .i64 Al,.slice A n c] by rw[<-HW1.out];exact(Row.new w _ _).alloc _)
 have x0:=RB.out.cell (k:=0) rfl
 have x1:=RB.out.cell (k:=1) rfl
 clear HW1
 go_wp2_with fail
 refine cc.mono ?_
 rintro e w2 ⟨rfl,hb2⟩
 have B2:=aa (hb0.out.trans (hb2.mono hb0.out.size))
 have R2:=aa (RZ.out.call hb2)
 have RB2:=aa (RB.out.call hb2)
 clear cc hb2 x0 x1 RZ RB
 have cn:=mB size Al w2
 rw[HNE.out,HNR.out] at cn
 have y0:=RB2.out.cell (k:=0) rfl
 go_wp2_with fail
 refine cn.mono ?_
 rintro e w3 ⟨A1,c1,A2,c2,rfl,hown,hb3⟩
 have b3a:=(ac (B2.out) hb3).alloc (ac (B2.out) hb3).size (.cells #[.slice A1 0 c1,.slice A2 0 c2,.int .i64 0] 66)
 obtain⟨W4,hW4⟩:∃W4,w3.alloc (.cells #[.slice A1 0 c1,.slice A2 0 c2,.int .i64 0] 66)=W4:=⟨_,rfl⟩
 rw[hW4] at b3a
 have B4:=aa b3a
 have R4:=aa (show Row W4 (w.heap.size+1) 71 (aE 0 0 bz (.slice none 0 0) (.slice none 0 0) (.slice none 0 0) none 0 none 0 (.slice none 0 0)) by rw[<-hW4];exact(R2.out.call hb3).alloc _)
 have HW4:=aa hW4
 clear b3a hW4 hown hb3 cn y0
 go_upto_region 7 with(fail)
 rw[show(bg 0 0).bs.length=0 from rfl,show(((bg 0 0).sp:Nat):Int)=0 from rfl]
 rw[HW4.out]
 have hst:=cL (vs:=(aE 0 0 bz (.slice none 0 0) (.slice none 0 0) (.slice none 0 0) none 0 none 0 (.slice none 0 0))) (cJ (w:=W4)) (bK rfl) (bK rfl) (fM rfl rfl rfl rfl) R4.out
 have R3:=aa (bd (vs:=(aE 0 0 bz (.slice none 0 0) (.slice none 0 0) (.slice none 0 0) none 0 none 0 (.slice none 0 0))) R4.out)
 have B3:=aa (show Below w.heap.size w (W4.setRow (w.heap.size+1) (aE 0 0 bz (.slice none 0 0) (.slice none 0 0) (.slice none 0 0) none 0 none 0 (.slice none 0 0)).toArray) from B4.out.grown (aU W4 _ _) B4.out.size (fun k hk=>by injection hk with hk;omega))
 generalize W4.setRow (w.heap.size+1) (aE 0 0 bz (.slice none 0 0) (.slice none 0 0) (.slice none 0 0) none 0 none 0 (.slice none 0 0)).toArray=W3 at hst R3 B3
 have hld:=bG (fL (w:=W3)) (cJ (w:=W3)) (bK rfl) R3.out
 go_wp2_with (first|(refine aI 71 (.tmp 8) (.tmp 36) rfl rfl _ _ rfl rfl hst ?_)|fail)
 exact bodyPost_ret (v:=.tuple #[.agg (aE 0 0 bz (.slice none 0 0) (.slice none 0 0) (.slice none 0 0) none 0 none 0 (.slice none 0 0)).toArray,.int .i64 4]) (dZ (fn:=Tryz.f19) (t:=8) (u:=9) (T:=71) rfl _ W3 _ _ _ rfl hld) rfl (ip Al F inp fuel size w W3 4 HE.out hx0 B3.out)
theorem Ak:lo 0=0:=rfl
theorem Au:hi 0=0:=rfl
theorem rB (fu Al sz rm:Nat) (inp:List Nat) (Ai A A1 A2:Option Addr) (ni ci n c c1 c2:Nat) (h:aK Al sz=rm):aE fu (aK Al sz) (de Al inp sz) (.slice Ai ni ci) (.slice none 0 0) (.slice A n c) A1 c1 A2 c2 (.slice none 0 0)=[.slice Ai ni ci,.int .i64 (fu:Int),.int .i64 0,.int .u64 0,.int .u64 0,.int .u64 0,.slice none 0 0,.int .i64 0,.int .u64 0,.int .u64 0,.int .u64 0,.int .u64 0,.int .u64 0,.int .u64 0,.int .u64 0,.int .u64 0,.int .u64 0,.int .u64 0,.int .u64 0,.int .u64 0,.int .u64 0,.int .u64 0,.int .u64 0,.int .u64 0,.bool false,.slice A n c,.slice A1 sz c1,.slice A2 sz c2,.int .i64 (rm:Int),.int .i64 (rm:Int),.slice none 0 0,.int .i64 0]:=by
 simp[aE,bD,db,ah,iE,de,jG,bg,h,Ak,Au,List.replicate]
theorem lY {w:World} {base g:Nat} {e:TypeId} {size n:Nat} {v:Value} {xs:List Value} (h:w.ownsRow base e size v n xs) (hn:∀k,base<=k->k<w.heap.size->k≠g):v.ownBlock=none\/v.ownBlock≠some g:=by
 rcases ho:v.ownBlock with _|k
 ·exact .inl rfl
 ·refine .inr fun e=>?_
  injection e with e
  have:=h.lt k ho
  exact hn k (by omega) (by omega) e
theorem uh {lo n c:Nat} {A:Option Addr} {hs:List Fd} (Al:Int) (F:Tg) (inp:List Nat) (fu sz:Nat) (Ai:Option Addr) (ni ci:Nat) (w:World) (hE:tgE Al F=0) (hfu:fu<=100000) (hsz:sz<=1048576) (him:Hid (eN F)) (hI:Hid (cD w w.heap.size (.slice Ai ni ci) inp)) (hIv:Hid (∀v∈inp,v<18446744073709551616)) (hPg:Hid (TgAt w lo w.heap.size A n c hs F)) :
  Calls Tryz.prog 19 #[tv Al A n c,.slice Ai ni ci,.int .i64 (fu:Int),.int .i64 (sz:Int)] w (gE Al F inp (fu:Int) (sz:Int) w):=by
 have hb0:=aa (aP w (.cells #[.int .i64 Al,.slice A n c] 26) (.cells (aE 0 0 bz (.slice none 0 0) (.slice none 0 0) (.slice none 0 0) none 0 none 0 (.slice none 0 0)).toArray 71))
 obtain⟨W1,hW1⟩:∃W1,(w.alloc (.cells #[.int .i64 Al,.slice A n c] 26)).alloc (.cells (aE 0 0 bz (.slice none 0 0) (.slice none 0 0) (.slice none 0 0) none 0 none 0 (.slice none 0 0)).toArray 71)=W1:=⟨_,rfl⟩
 rw[hW1] at hb0
 have cc:=jH Al A n c hs F lo w.heap.size W1 (aa (hPg.out.below hb0.out)) hb0.out.size
 have HW1:=aa (show(w.alloc (.cells #[.int .i64 Al,.slice A n c] 26)).alloc (.cells #[.slice none 0 0,.int .i64 0,.int .i64 0,.int .u64 0,.int .u64 0,.int .u64 0,.slice none 0 0,.int .i64 0,.int .u64 0,.int .u64 0,.int .u64 0,.int .u64 0,.int .u64 0,.int .u64 0,.int .u64 0,.int .u64 0,.int .u64 0,.int .u64 0,.int .u64 0,.int .u64 0,.int .u64 0,.int .u64 0,.int .u64 0,.int .u64 0,.bool false,.slice none 0 0,.slice none 0 0,.slice none 0 0,.int .i64 0,.int .i64 0,.slice none 0 0,.int .i64 0] 71)=W1 from hW1)
 clear hW1
 rw[hE] at cc
 have hR:=aa (kT hE)
 have HE:=aa (show bL Al F (fu:Int) (sz:Int)=0 by unfold bL;rw[if_neg (by rw[hE];decide),if_pos (by omega)])
 have HS:=aa (show aY Al F inp (fu:Int) (sz:Int)=gU Al.toNat F inp fu sz by unfold aY;rw[if_pos HE.out,Int.toNat_natCast,Int.toNat_natCast])
 obtain⟨hn1,hn2⟩:=lr (sz:Int) Al ⟨by omega,by omega,hR.out.al.1⟩
 rw[Int.toNat_natCast] at hn2
 have HNE:=aa hn1
 have HNR:=aa (show jQ (sz:Int) Al=bg sz (aK Al.toNat sz) from hn2)
 obtain⟨rm,hrm⟩:∃rm,aK Al.toNat sz=rm:=⟨_,rfl⟩
 have HRM:=aa hrm
 have hrm2:rm<=sz:=by rw[<-hrm];exact Nat.sub_le _ _
 rw[hrm] at HNR
 have hf0:¬(fu:Int)<0:=by omega
 have hf1:¬(100000:Int)<(fu:Int):=by omega
 clear hE hn1 hn2 hrm
 go_enter Tryz.func19,Tryz.ntmps19
 go_upto_region 1 with(fail)
 rw[HW1.out]
 have RZ:=aa (show Row W1 (w.heap.size+1) 71 (aE 0 0 bz (.slice none 0 0) (.slice none 0 0) (.slice none 0 0) none 0 none 0 (.slice none 0 0)) by
  rw[<-HW1.out]
  have:=Row.new (w.alloc (.cells #[.int .i64 Al,.slice A n c] 26)) 71 (aE 0 0 bz (.slice none 0 0) (.slice none 0 0) (.slice none 0 0) none 0 none 0 (.slice none 0 0))
  rw[show(w.alloc (.cells #[.int .i64 Al,.slice A n c] 26)).heap.size=w.heap.size+1 by simp] at this
  exact this)
 have RB:=aa (show Row W1 w.heap.size 26 [.int .i64 Al,.slice A n c] by rw[<-HW1.out];exact(Row.new w _ _).alloc _)
 have x0:=RB.out.cell (k:=0) rfl
 have x1:=RB.out.cell (k:=1) rfl
 clear HW1
 go_wp2_with fail
 refine cc.mono ?_
 rintro e w2 ⟨rfl,hb2⟩
 have B2:=aa (hb0.out.trans (hb2.mono hb0.out.size))
 have R2:=aa (RZ.out.call hb2)
 have RB2:=aa (RB.out.call hb2)
 clear cc hb2 x0 x1 RZ RB
 have cn:=mB (sz:Int) Al w2
 rw[HNE.out,HNR.out] at cn
 have y0:=RB2.out.cell (k:=0) rfl
 go_wp2_with fail
 refine cn.mono ?_
 rintro e w3 ⟨A1,c1,A2,c2,rfl,hown,hb3⟩
 have hl1:(bg sz rm).bs.length=sz:=by simp[bg]
 have hl2:(bg sz rm).sp=rm:=rfl
 obtain⟨W4,hW4⟩:∃W4,w3.alloc (.cells #[.slice A1 sz c1,.slice A2 sz c2,.int .i64 (rm:Int)] 66)=W4:=⟨_,rfl⟩
 have b34:Below w3.heap.size w3 W4:=by rw[<-hW4];exact ag w3 _
 have B4:=aa (ac (ac B2.out hb3) b34)
 have R4:=aa ((R2.out.call hb3).call b34)
 have RB4:=aa ((RB2.out.call hb3).call b34)
 have RS4:=aa (show Row W4 w3.heap.size 66 [.slice A1 sz c1,.slice A2 sz c2,.int .i64 (rm:Int)] by rw[<-hW4];exact Row.new w3 _ _)
 have OW4:=aa (hown.below b34)
 have hw23:w.heap.size+2<=w2.heap.size:=by have:=R2.out.lt;have h2:=hb0.out.size;have h3:=RB2.out.lt;omega
 have HL1:=aa hl1
 have HW4:=aa hW4
 clear hW4 hown hb3 cn y0 b34 hl2
 go_upto_region 7 with(fail)
 try rw[hl1]
 try rw[show(bg sz rm).sp=rm from rfl]
 clear hl1
 obtain⟨P,hP⟩:∃P,w3.heap.size=P:=⟨_,rfl⟩
 have HP:=aa hP
 rw[hP] at RS4
 rw[HW4.out,HP.out]
 clear HW4 HP hP
 have x1:=RB4.out.cell (k:=1) rfl
 have z0:=RS4.out.cell (k:=0) rfl
 have z1:=RS4.out.cell (k:=1) rfl
 have z2:=RS4.out.cell (k:=2) rfl
 have RN:=aa (show Row (W4.alloc (.cells #[.slice none 0 0,.int .i64 0,.int .i64 0,.int .u64 0,.int .u64 0,.int .u64 0,.slice none 0 0,.int .i64 0,.int .u64 0,.int .u64 0,.int .u64 0,.int .u64 0,.int .u64 0,.int .u64 0,.int .u64 0,.int .u64 0,.int .u64 0,.int .u64 0,.int .u64 0,.int .u64 0,.int .u64 0,.int .u64 0,.int .u64 0,.int .u64 0,.bool false,.slice none 0 0,.slice none 0 0,.slice none 0 0,.int .i64 0,.int .i64 0,.slice none 0 0,.int .i64 0] 71)) W4.heap.size 71 (aE 0 0 bz (.slice none 0 0) (.slice none 0 0) (.slice none 0 0) none 0 none 0 (.slice none 0 0)) from Row.new W4 71 (aE 0 0 bz (.slice none 0 0) (.slice none 0 0) (.slice none 0 0) none 0 none 0 (.slice none 0 0)))
 have hst:=cL (vs:=(aE fu (aK Al.toNat sz) (de Al.toNat inp sz) (.slice Ai ni ci) (.slice none 0 0) (.slice A n c) A1 c1 A2 c2 (.slice none 0 0))) (cJ (w:=W4.alloc (.cells #[.slice none 0 0,.int .i64 0,.int .i64 0,.int .u64 0,.int .u64 0,.int .u64 0,.slice none 0 0,.int .i64 0,.int .u64 0,.int .u64 0,.int .u64 0,.int .u64 0,.int .u64 0,.int .u64 0,.int .u64 0,.int .u64 0,.int .u64 0,.int .u64 0,.int .u64 0,.int .u64 0,.int .u64 0,.int .u64 0,.int .u64 0,.int .u64 0,.bool false,.slice none 0 0,.slice none 0 0,.slice none 0 0,.int .i64 0,.int .i64 0,.slice none 0 0,.int .i64 0] 71))) (bK rfl) (bK rfl) (fM rfl rfl rfl rfl) RN.out
 have RM:=aa (bd (vs:=(aE fu (aK Al.toNat sz) (de Al.toNat inp sz) (.slice Ai ni ci) (.slice none 0 0) (.slice A n c) A1 c1 A2 c2 (.slice none 0 0))) RN.out)
 have GM:=aa (aU (W4.alloc (.cells #[.slice none 0 0,.int .i64 0,.int .i64 0,.int .u64 0,.int .u64 0,.int .u64 0,.slice none 0 0,.int .i64 0,.int .u64 0,.int .u64 0,.int .u64 0,.int .u64 0,.int .u64 0,.int .u64 0,.int .u64 0,.int .u64 0,.int .u64 0,.int .u64 0,.int .u64 0,.int .u64 0,.int .u64 0,.int .u64 0,.int .u64 0,.int .u64 0,.bool false,.slice none 0 0,.slice none 0 0,.slice none 0 0,.int .i64 0,.int .i64 0,.slice none 0 0,.int .i64 0] 71)) W4.heap.size (aE fu (aK Al.toNat sz) (de Al.toNat inp sz) (.slice Ai ni ci) (.slice none 0 0) (.slice A n c) A1 c1 A2 c2 (.slice none 0 0)).toArray)
 obtain⟨W5,hW5⟩:∃W5,(W4.alloc (.cells #[.slice none 0 0,.int .i64 0,.int .i64 0,.int .u64 0,.int .u64 0,.int .u64 0,.slice none 0 0,.int .i64 0,.int .u64 0,.int .u64 0,.int .u64 0,.int .u64 0,.int .u64 0,.int .u64 0,.int .u64 0,.int .u64 0,.int .u64 0,.int .u64 0,.int .u64 0,.int .u64 0,.int .u64 0,.int .u64 0,.int .u64 0,.int .u64 0,.bool false,.slice none 0 0,.slice none 0 0,.slice none 0 0,.int .i64 0,.int .i64 0,.slice none 0 0,.int .i64 0] 71)).setRow W4.heap.size (aE fu (aK Al.toNat sz) (de Al.toNat inp sz) (.slice Ai ni ci) (.slice none 0 0) (.slice A n c) A1 c1 A2 c2 (.slice none 0 0)).toArray=W5:=⟨_,rfl⟩
 rw[hW5] at hst RM GM
 obtain⟨g,hg⟩:∃g,W4.heap.size=g:=⟨_,rfl⟩
 have hgN:=aa (show g<(W4.alloc (.cells #[.slice none 0 0,.int .i64 0,.int .i64 0,.int .u64 0,.int .u64 0,.int .u64 0,.slice none 0 0,.int .i64 0,.int .u64 0,.int .u64 0,.int .u64 0,.int .u64 0,.int .u64 0,.int .u64 0,.int .u64 0,.int .u64 0,.int .u64 0,.int .u64 0,.int .u64 0,.int .u64 0,.int .u64 0,.int .u64 0,.int .u64 0,.int .u64 0,.bool false,.slice none 0 0,.slice none 0 0,.slice none 0 0,.int .i64 0,.int .i64 0,.slice none 0 0,.int .i64 0] 71)).heap.size by rw[<-hg];simp)
 have hwg:w.heap.size<=g:=by rw[<-hg];exact B4.out.size
 have hZg:w.heap.size+1<g:=by have:=R4.out.lt;have h2:=RS4.out.lt;have h3:=R2.out.lt;have h4:=OW4.out;rw[<-hg];have h5:=R4.out.lt;omega
 have B5:=aa (show Below w.heap.size w W5 from(B4.out.alloc B4.out.size _).grown GM.out (by have:=hgN.out;omega) (fun k hk=>by injection hk with hk;omega))
 have R5:=aa (show Row W5 (w.heap.size+1) 71 (aE 0 0 bz (.slice none 0 0) (.slice none 0 0) (.slice none 0 0) none 0 none 0 (.slice none 0 0)) from(R4.out.alloc _).grown GM.out (fun e=>by injection e with e;omega))
 have OW5:=aa (show StkOwn W5 (w.heap.size+2) A1 c1 A2 c2 (bg sz rm) 5 4 from by
  have h1:=OW4.out.below (ag W4 (.cells #[.slice none 0 0,.int .i64 0,.int .i64 0,.int .u64 0,.int .u64 0,.int .u64 0,.slice none 0 0,.int .i64 0,.int .u64 0,.int .u64 0,.int .u64 0,.int .u64 0,.int .u64 0,.int .u64 0,.int .u64 0,.int .u64 0,.int .u64 0,.int .u64 0,.int .u64 0,.int .u64 0,.int .u64 0,.int .u64 0,.int .u64 0,.int .u64 0,.bool false,.slice none 0 0,.slice none 0 0,.slice none 0 0,.int .i64 0,.int .i64 0,.slice none 0 0,.int .i64 0] 71))
  exact⟨h1.ok,dW (h1.o1.kept GM.out (bV h1.o1 RN.out (by decide))) hw23,dW (h1.o2.kept GM.out (bV h1.o2 RN.out (by decide))) hw23⟩)
 rw[hg] at RM
 have HT5:=aa (show TmAt W5 g (w.heap.size+2) fu (aK Al.toNat sz) (.slice Ai ni ci) (.slice none 0 0) (.slice A n c) A1 c1 A2 c2 (.slice none 0 0) (de Al.toNat inp sz) from
  ⟨⟨RM.out,by omega,by decide,rfl,(hI.out.below B5.out).more (by omega),World.ownsRow_nil _ _ _ _⟩,by show StkOwn W5 _ A1 c1 A2 c2 (bg sz (aK Al.toNat sz)) _ _;rw[HRM.out];exact OW5.out,World.ownsRow_nil _ _ _ _⟩)
 rw[rB fu Al.toNat sz rm inp Ai A A1 A2 ni ci n c c1 c2 HRM.out] at hst
 have HG:=aa hg
 have hst:=aa hst
 clear hg hW5 R4 RB4 RS4 OW4 OW5 RN RM
 go_upto_region 9 with fail
 have hst:=hst.out
 go_upto_region 10 with(first|(refine aI 71 (.tmp 13) (.tmp 47) rfl rfl _ _ rfl rfl hst ?_)|fail)
 clear hst x1 z0 z1 z2 GM
 rw[HG.out]
 have cr:=vx (A:=Al.toNat) (nF:=n) (cF:=c) (AF:=A) W5 hR him hIv hfu hsz rfl (aa (show TgAt W5 lo (w.heap.size+2) A n c hs F from((hPg.out.below B5.out).more (by omega) (Nat.le_refl _)))) HT5
 go_wp2_with fail
 go_fit cr
 rintro e w6 ⟨rfl,⟨vi6,vt6,A16,c16,A26,c26,vs6,h6⟩,b6⟩
 have H6:=aa h6
 have B6:=aa (B5.out.trans (b6.mono (by omega)))
 have R6:=aa (R5.out.below b6 (by omega))
 rw[<-HS.out] at H6
 have h8:=H6.out.core.r8
 clear h6 b6 cr HT5 B5 R5
 have hld:=bG (fL (w:=w6)) (cJ (w:=w6)) (bK h8) (show Row w6 g 71 (aE fu (aK Al.toNat sz) (aY Al F inp (fu:Int) (sz:Int)) vi6 vt6 (.slice A n c) A16 c16 A26 c26 vs6) from H6.out.core.row)
 have hone:=fM (fu:=fu) (T0:=aK Al.toNat sz) (s:=aY Al F inp (fu:Int) (sz:Int)) (vi:=vi6) (vt:=vt6) (vf:=.slice A n c) (vs:=vs6) (A1:=A16) (A2:=A26) (c1:=c16) (c2:=c26) (rY H6.out.core.inp) (jN H6.out.core.tr) rfl (jN H6.out.st)
 have hst:=cL (vs:=aE fu (aK Al.toNat sz) (aY Al F inp (fu:Int) (sz:Int)) vi6 vt6 (.slice A n c) A16 c16 A26 c26 vs6) (cJ (w:=w6)) (bK h8) (bK rfl) hone R6.out
 have R7:=aa (bd (vs:=aE fu (aK Al.toNat sz) (aY Al F inp (fu:Int) (sz:Int)) vi6 vt6 (.slice A n c) A16 c16 A26 c26 vs6) R6.out)
 have G7:=aa (aU w6 (w.heap.size+1) (aE fu (aK Al.toNat sz) (aY Al F inp (fu:Int) (sz:Int)) vi6 vt6 (.slice A n c) A16 c16 A26 c26 vs6).toArray)
 generalize w6.setRow (w.heap.size+1) (aE fu (aK Al.toNat sz) (aY Al F inp (fu:Int) (sz:Int)) vi6 vt6 (.slice A n c) A16 c16 A26 c26 vs6).toArray=W7 at hst R7 G7
 have hld2:=bG (fL (w:=W7)) (cJ (w:=W7)) (bK h8) R7.out
 have HPO:=aa (show gE Al F inp (fu:Int) (sz:Int) w (.returned (.tuple #[.agg (aE fu (aK Al.toNat sz) (aY Al F inp (fu:Int) (sz:Int)) vi6 vt6 (.slice A n c) A16 c16 A26 c26 vs6).toArray,.int .i64 0])) W7 from
  ⟨_,_,_,_,_,_,_,_,_,_,by rw[HE.out],h8,hone,nK (H6.out.core.tr.kept G7.out (lY H6.out.core.tr (fun k hk _=>by omega))) (by omega),B6.out.grown G7.out B6.out.size (fun k hk=>by injection hk with hk;omega)⟩)
 generalize(aE fu (aK Al.toNat sz) (aY Al F inp (fu:Int) (sz:Int)) vi6 vt6 (.slice A n c) A16 c16 A26 c26 vs6).toArray=X at hld hst hld2 HPO
 clear hone h8 R7 G7 R6 H6 B6
 go_wp2_with (first|(refine bu 71 (.tmp 13) rfl rfl _ _ rfl hld ?_)|(refine aI 71 (.tmp 8) (.tmp 49) rfl rfl _ _ rfl rfl hst ?_)|fail)
 exact bodyPost_ret (v:=.tuple #[.agg X,.int .i64 0]) (dZ (fn:=Tryz.f19) (t:=8) (u:=9) (T:=71) rfl _ W7 _ _ _ rfl hld2) rfl HPO.out
theorem oY {lo n c:Nat} {A:Option Addr} {hs:List Fd} (Al:Int) (F:Tg) (inp:List Nat) (fuel size:Int) (Ai:Option Addr) (ni ci:Nat) (w:World) (him:Hid (eN F)) (hI:Hid (cD w w.heap.size (.slice Ai ni ci) inp)) (hIv:Hid (∀v∈inp,v<18446744073709551616)) (hPg:Hid (TgAt w lo w.heap.size A n c hs F)) :
  Calls Tryz.prog 19 #[tv Al A n c,.slice Ai ni ci,.int .i64 fuel,.int .i64 size] w (gE Al F inp fuel size w):=by
 by_cases hE:tgE Al F=0
 ·by_cases hf:0<=fuel/\fuel<=100000
  ·by_cases hs:0<=size/\size<=1048576
   ·have e1:fuel=((fuel.toNat:Nat):Int):=by omega
    have e2:size=((size.toNat:Nat):Int):=by omega
    rw[e1,e2]
    exact uh Al F inp fuel.toNat size.toNat Ai ni ci w hE (by omega) (by omega) him hI hIv hPg
   ·exact ug Al F inp fuel size Ai ni ci w hE hf hs hPg
  ·exact uj Al F inp fuel size Ai ni ci w hE hf hPg
 ·exact wm Al F inp fuel size Ai ni ci w hE hPg
def cK (c:Co) (vt:Value):List Value:=[.int .i64 c.kind,.int .u64 c.code,.int .u64 (lo c.res),.int .u64 (hi c.res),vt,.int .i64 (c.steps:Int)]
theorem qT {fu T0:Nat} {s:Tm} {vi vt vf vs:Value} {A1 A2:Option Addr} {c1 c2:Nat}:∀(j:Nat) (v:Value),(cK s.c vt)[j]?=some v->(aE fu T0 s vi vt vf A1 c1 A2 c2 vs)[2+j]?=some v:=by
 intro j v hj
 rcases j with _|_|_|_|_|_|j
 all_goals first|exact hj|(simp[cK] at hj)
theorem pQ {c:Co} {vt:Value} (h:vt.oneCell'=true):∀v∈cK c vt,v.oneCell'=true:=by
 intro v hv
 simp only[cK,List.mem_cons,List.not_mem_nil,or_false] at hv
 rcases hv with rfl|rfl|rfl|rfl|rfl|rfl<;>first|rfl|assumption
def sG (Al:Int) (F:Tg) (inp:List Nat) (fuel size:Int) (w:World) (e:Ending) (w':World):Prop:=
 ∃vt,e=.returned (.tuple #[.agg (cK (aY Al F inp fuel size).c vt).toArray,.int .i64 (bL Al F fuel size)]) /\
  w'.ownsRow w.heap.size 38 2 vt (aY Al F inp fuel size).c.trace.length (ah (aY Al F inp fuel size).c.trace)/\Below w.heap.size w w'
theorem oJ {lo n c:Nat} {A:Option Addr} {hs:List Fd} (Al:Int) (F:Tg) (inp:List Nat) (fuel size:Int) (Ai:Option Addr) (ni ci:Nat) (w:World) (him:Hid (eN F)) (hI:Hid (cD w w.heap.size (.slice Ai ni ci) inp)) (hIv:Hid (∀v∈inp,v<18446744073709551616)) (hPg:Hid (TgAt w lo w.heap.size A n c hs F)) :
  Calls Tryz.prog 8 #[tv Al A n c,.slice Ai ni ci,.int .i64 fuel,.int .i64 size] w (sG Al F inp fuel size w):=by
 obtain⟨W1,hW1⟩:∃W1,(w.alloc (.cells #[.int .i64 Al,.slice A n c] 26)).alloc (.cells #[.int .i64 0,.int .u64 0,.int .u64 0,.int .u64 0,.slice none 0 0,.int .i64 0] 41)=W1:=⟨_,rfl⟩
 have HW1:=aa hW1
 have hb0:=aa (show Below w.heap.size w W1 by rw[<-hW1];exact aP w _ _)
 have hsz:=aa (show W1.heap.size=w.heap.size+2 by rw[<-hW1];simp)
 have RB:=aa (show Row W1 w.heap.size 26 [.int .i64 Al,.slice A n c] by rw[<-HW1.out];exact(Row.new w _ _).alloc _)
 have RZ:=aa (show Row W1 (w.heap.size+1) 41 [.int .i64 0,.int .u64 0,.int .u64 0,.int .u64 0,.slice none 0 0,.int .i64 0] by
  rw[<-HW1.out]
  have:=Row.new (w.alloc (.cells #[.int .i64 Al,.slice A n c] 26)) 41 [.int .i64 0,.int .u64 0,.int .u64 0,.int .u64 0,.slice none 0 0,.int .i64 0]
  rw[show(w.alloc (.cells #[.int .i64 Al,.slice A n c] 26)).heap.size=w.heap.size+1 by simp] at this
  exact this)
 have cr:=oY Al F inp fuel size Ai ni ci W1 him (aa ((hI.out.below hb0.out).more hb0.out.size)) hIv (aa ((hPg.out.below hb0.out).more hb0.out.size (Nat.le_refl _)))
 clear hW1
 go_enter Tryz.func8,Tryz.ntmps8
 go_upto_region 1 with(fail)
 rw[HW1.out]
 have x0:=RB.out.cell (k:=0) rfl
 have x1:=RB.out.cell (k:=1) rfl
 clear HW1
 go_wp2_with fail
 refine cr.mono ?_
 rintro e w2 ⟨fu,T0,vi,vt,vf,A1,c1,A2,c2,vs,rfl,h8,h1,hto,hb2⟩
 have B2:=aa (hb0.out.trans (hb2.mono hb0.out.size))
 obtain⟨cs,hcs⟩:∃cs,aE fu T0 (aY Al F inp fuel size) vi vt vf A1 c1 A2 c2 vs=cs:=⟨_,rfl⟩
 have hlen:=bK (fu:=fu) (T0:=T0) (vi:=vi) (vt:=vt) (vf:=vf) (vs:=vs) (A1:=A1) (A2:=A2) (c1:=c1) (c2:=c2) h8
 have hoc:=fun j v hj=>qT (fu:=fu) (T0:=T0) (s:=aY Al F inp fuel size) (vi:=vi) (vt:=vt) (vf:=vf) (vs:=vs) (A1:=A1) (A2:=A2) (c1:=c1) (c2:=c2) j v hj
 rw[hcs] at h1 hlen⊢
 simp only[hcs] at hoc
 have RN:=aa (show Row (w2.alloc (.cells #[.slice none 0 0,.int .i64 0,.int .i64 0,.int .u64 0,.int .u64 0,.int .u64 0,.slice none 0 0,.int .i64 0,.int .u64 0,.int .u64 0,.int .u64 0,.int .u64 0,.int .u64 0,.int .u64 0,.int .u64 0,.int .u64 0,.int .u64 0,.int .u64 0,.int .u64 0,.int .u64 0,.int .u64 0,.int .u64 0,.int .u64 0,.int .u64 0,.bool false,.slice none 0 0,.slice none 0 0,.slice none 0 0,.int .i64 0,.int .i64 0,.slice none 0 0,.int .i64 0] 71)) w2.heap.size 71 (aE 0 0 bz (.slice none 0 0) (.slice none 0 0) (.slice none 0 0) none 0 none 0 (.slice none 0 0)) from Row.new w2 71 (aE 0 0 bz (.slice none 0 0) (.slice none 0 0) (.slice none 0 0) none 0 none 0 (.slice none 0 0)))
 have hst:=cL (vs:=cs) (cJ (w:=w2.alloc (.cells #[.slice none 0 0,.int .i64 0,.int .i64 0,.int .u64 0,.int .u64 0,.int .u64 0,.slice none 0 0,.int .i64 0,.int .u64 0,.int .u64 0,.int .u64 0,.int .u64 0,.int .u64 0,.int .u64 0,.int .u64 0,.int .u64 0,.int .u64 0,.int .u64 0,.int .u64 0,.int .u64 0,.int .u64 0,.int .u64 0,.int .u64 0,.int .u64 0,.bool false,.slice none 0 0,.slice none 0 0,.slice none 0 0,.int .i64 0,.int .i64 0,.slice none 0 0,.int .i64 0] 71))) hlen (bK rfl) h1 RN.out
 have RM:=aa (bd (vs:=cs) RN.out)
 have GM:=aa (aU (w2.alloc (.cells #[.slice none 0 0,.int .i64 0,.int .i64 0,.int .u64 0,.int .u64 0,.int .u64 0,.slice none 0 0,.int .i64 0,.int .u64 0,.int .u64 0,.int .u64 0,.int .u64 0,.int .u64 0,.int .u64 0,.int .u64 0,.int .u64 0,.int .u64 0,.int .u64 0,.int .u64 0,.int .u64 0,.int .u64 0,.int .u64 0,.int .u64 0,.int .u64 0,.bool false,.slice none 0 0,.slice none 0 0,.slice none 0 0,.int .i64 0,.int .i64 0,.slice none 0 0,.int .i64 0] 71)) w2.heap.size cs.toArray)
 obtain⟨W3,hW3⟩:∃W3,(w2.alloc (.cells #[.slice none 0 0,.int .i64 0,.int .i64 0,.int .u64 0,.int .u64 0,.int .u64 0,.slice none 0 0,.int .i64 0,.int .u64 0,.int .u64 0,.int .u64 0,.int .u64 0,.int .u64 0,.int .u64 0,.int .u64 0,.int .u64 0,.int .u64 0,.int .u64 0,.int .u64 0,.int .u64 0,.int .u64 0,.int .u64 0,.int .u64 0,.int .u64 0,.bool false,.slice none 0 0,.slice none 0 0,.slice none 0 0,.int .i64 0,.int .i64 0,.slice none 0 0,.int .i64 0] 71)).setRow w2.heap.size cs.toArray=W3:=⟨_,rfl⟩
 rw[hW3] at hst RM GM
 have B3:=aa (show Below w.heap.size w W3 from(B2.out.alloc B2.out.size _).grown GM.out (by have:=RN.out.lt;have:=B2.out.size;omega) (fun k hk=>by injection hk with hk;have:=B2.out.size;omega))
 have hw2:w.heap.size+1<w2.heap.size:=by have:=hb2.size;have:=hsz.out;omega
 have RZ3:=aa (show Row W3 (w.heap.size+1) 41 [.int .i64 0,.int .u64 0,.int .u64 0,.int .u64 0,.slice none 0 0,.int .i64 0] from((RZ.out.call hb2).alloc _).grown GM.out (fun e=>by injection e with e;omega))
 have hto3:=aa ((bZ hto (ag w2 _)).kept GM.out (lY hto (fun k _ hk=>by have:=hk;omega)))
 have hld:=l9 (w:=W3) (g:=w2.heap.size) (o:=2) (le (w:=W3)) (iT (w:=W3)) (cs:=cK (aY Al F inp fuel size).c vt) rfl (fun j v hj=>RM.out.cell (hoc j v hj))
 generalize cs.toArray=X at hst
 clear cr hb2 hto h1 h8 RN RM GM hW3 x0 x1 hcs hlen hoc
 have hs2:=cL (vs:=cK (aY Al F inp fuel size).c vt) (iT (w:=W3)) rfl rfl (pQ (jN hto3.out)) RZ3.out
 have R5:=aa (bd (vs:=cK (aY Al F inp fuel size).c vt) RZ3.out)
 have G5:=aa (aU W3 (w.heap.size+1) (cK (aY Al F inp fuel size).c vt).toArray)
 generalize W3.setRow (w.heap.size+1) (cK (aY Al F inp fuel size).c vt).toArray=W5 at hs2 R5 G5
 have hld2:=bG (le (w:=W5)) (iT (w:=W5)) rfl R5.out
 have HP:Hid (sG Al F inp fuel size w (.returned (.tuple #[.agg (cK (aY Al F inp fuel size).c vt).toArray,.int .i64 (bL Al F fuel size)])) W5):=aa ⟨vt,rfl,nK (hto3.out.kept G5.out (lY hto3.out (fun k hk _=>by have:=hsz.out;omega))) (by have:=hsz.out;omega),B3.out.grown G5.out B3.out.size (fun k hk=>by injection hk with hk;omega)⟩
 generalize(cK (aY Al F inp fuel size).c vt).toArray=Y at hld hs2 hld2 HP
 clear R5 G5 hto3 RZ3 B3
 go_wp2_with (first|(refine aI 71 (.tmp 10) (.tmp 18) rfl rfl _ _ rfl rfl hst ?_)|(refine bu 41 (.tmp 21) rfl rfl _ _ rfl hld ?_)|(refine aI 41 (.tmp 8) (.tmp 22) rfl rfl _ _ rfl rfl hs2 ?_)|fail)
 exact bodyPost_ret (v:=.tuple #[.agg Y,.int .i64 (bL Al F fuel size)]) (dZ (fn:=Tryz.f8) (t:=8) (u:=9) (T:=41) rfl _ W5 _ _ _ rfl hld2) rfl HP.out
theorem s4 {lo n c:Nat} {A:Option Addr} {hs:List Fd} (Al:Int) (F:Tg) (inp:List Nat) (fuel size:Int) (Ai:Option Addr) (ni ci:Nat) (w:World) (him:Hid (eN F)) (hI:Hid (cD w w.heap.size (.slice Ai ni ci) inp)) (hIv:Hid (∀v∈inp,v<18446744073709551616)) (hPg:Hid (TgAt w lo w.heap.size A n c hs F)) :
  Calls Tryz.prog 10 #[tv Al A n c,.slice Ai ni ci,.int .i64 fuel,.int .i64 size] w fun e w'=>e=.returned (.tuple #[.int .i64 ((aY Al F inp fuel size).deep:Int),.int .i64 (bL Al F fuel size)])/\Below w.heap.size w w':=by
 obtain⟨W1,hW1⟩:∃W1,w.alloc (.cells #[.int .i64 Al,.slice A n c] 26)=W1:=⟨_,rfl⟩
 have HW1:=aa hW1
 have hb0:=aa (show Below w.heap.size w W1 by rw[<-hW1];exact ag w _)
 have hsz:=aa (show W1.heap.size=w.heap.size+1 by rw[<-hW1];simp)
 have RB:=aa (show Row W1 w.heap.size 26 [.int .i64 Al,.slice A n c] by rw[<-HW1.out];exact Row.new w _ _)
 have cr:=oY Al F inp fuel size Ai ni ci W1 him (aa ((hI.out.below hb0.out).more hb0.out.size)) hIv (aa ((hPg.out.below hb0.out).more hb0.out.size (Nat.le_refl _)))
 clear hW1
 go_enter Tryz.func10,Tryz.ntmps10
 go_upto_region 1 with(fail)
 rw[HW1.out]
 have x0:=RB.out.cell (k:=0) rfl
 have x1:=RB.out.cell (k:=1) rfl
 clear HW1
 go_wp2_with fail
 refine cr.mono ?_
 rintro e w2 ⟨fu,T0,vi,vt,vf,A1,c1,A2,c2,vs,rfl,h8,h1,hto,hb2⟩
 have B2:=aa (hb0.out.trans (hb2.mono hb0.out.size))
 obtain⟨cs,hcs⟩:∃cs,aE fu T0 (aY Al F inp fuel size) vi vt vf A1 c1 A2 c2 vs=cs:=⟨_,rfl⟩
 have hlen:=bK (fu:=fu) (T0:=T0) (vi:=vi) (vt:=vt) (vf:=vf) (vs:=vs) (A1:=A1) (A2:=A2) (c1:=c1) (c2:=c2) h8
 have hoc:(aE fu T0 (aY Al F inp fuel size) vi vt vf A1 c1 A2 c2 vs)[24+7]?=some (.int .i64 ((aY Al F inp fuel size).deep:Int)):=by unfold aE;rw[fd h8];rfl
 rw[hcs] at h1 hlen hoc⊢
 have RN:=aa (show Row (w2.alloc (.cells #[.slice none 0 0,.int .i64 0,.int .i64 0,.int .u64 0,.int .u64 0,.int .u64 0,.slice none 0 0,.int .i64 0,.int .u64 0,.int .u64 0,.int .u64 0,.int .u64 0,.int .u64 0,.int .u64 0,.int .u64 0,.int .u64 0,.int .u64 0,.int .u64 0,.int .u64 0,.int .u64 0,.int .u64 0,.int .u64 0,.int .u64 0,.int .u64 0,.bool false,.slice none 0 0,.slice none 0 0,.slice none 0 0,.int .i64 0,.int .i64 0,.slice none 0 0,.int .i64 0] 71)) w2.heap.size 71 (aE 0 0 bz (.slice none 0 0) (.slice none 0 0) (.slice none 0 0) none 0 none 0 (.slice none 0 0)) from Row.new w2 71 (aE 0 0 bz (.slice none 0 0) (.slice none 0 0) (.slice none 0 0) none 0 none 0 (.slice none 0 0)))
 have hst:=cL (vs:=cs) (cJ (w:=w2.alloc (.cells #[.slice none 0 0,.int .i64 0,.int .i64 0,.int .u64 0,.int .u64 0,.int .u64 0,.slice none 0 0,.int .i64 0,.int .u64 0,.int .u64 0,.int .u64 0,.int .u64 0,.int .u64 0,.int .u64 0,.int .u64 0,.int .u64 0,.int .u64 0,.int .u64 0,.int .u64 0,.int .u64 0,.int .u64 0,.int .u64 0,.int .u64 0,.int .u64 0,.bool false,.slice none 0 0,.slice none 0 0,.slice none 0 0,.int .i64 0,.int .i64 0,.slice none 0 0,.int .i64 0] 71))) hlen (bK rfl) h1 RN.out
 have RM:=aa (bd (vs:=cs) RN.out)
 have GM:=aa (aU (w2.alloc (.cells #[.slice none 0 0,.int .i64 0,.int .i64 0,.int .u64 0,.int .u64 0,.int .u64 0,.slice none 0 0,.int .i64 0,.int .u64 0,.int .u64 0,.int .u64 0,.int .u64 0,.int .u64 0,.int .u64 0,.int .u64 0,.int .u64 0,.int .u64 0,.int .u64 0,.int .u64 0,.int .u64 0,.int .u64 0,.int .u64 0,.int .u64 0,.int .u64 0,.bool false,.slice none 0 0,.slice none 0 0,.slice none 0 0,.int .i64 0,.int .i64 0,.slice none 0 0,.int .i64 0] 71)) w2.heap.size cs.toArray)
 obtain⟨W3,hW3⟩:∃W3,(w2.alloc (.cells #[.slice none 0 0,.int .i64 0,.int .i64 0,.int .u64 0,.int .u64 0,.int .u64 0,.slice none 0 0,.int .i64 0,.int .u64 0,.int .u64 0,.int .u64 0,.int .u64 0,.int .u64 0,.int .u64 0,.int .u64 0,.int .u64 0,.int .u64 0,.int .u64 0,.int .u64 0,.int .u64 0,.int .u64 0,.int .u64 0,.int .u64 0,.int .u64 0,.bool false,.slice none 0 0,.slice none 0 0,.slice none 0 0,.int .i64 0,.int .i64 0,.slice none 0 0,.int .i64 0] 71)).setRow w2.heap.size cs.toArray=W3:=⟨_,rfl⟩
 rw[hW3] at hst RM GM
 have B3:=aa (show Below w.heap.size w W3 from(B2.out.alloc B2.out.size _).grown GM.out (by have:=RN.out.lt;have:=B2.out.size;omega) (fun k hk=>by injection hk with hk;have:=B2.out.size;omega))
 have x31:=RM.out.cell (k:=31) hoc
 generalize cs.toArray=X at hst
 clear cr hb2 hto h1 h8 RN RM GM hW3 x0 x1 hcs hlen hoc
 go_wp2_with (first|(refine aI 71 (.tmp 10) (.tmp 18) rfl rfl _ _ rfl rfl hst ?_)|fail)
 go_ret2
 exact⟨rfl,B3.out⟩
structure ValsC (c:Co):Prop where
 t:∀v∈c.trace,v<ae
 r:c.res<ae
theorem ValsC.of {c d:Co} (h:ValsC c) (h1:d.trace=c.trace) (h2:d.res=c.res):ValsC d:=⟨by rw[h1];exact h.t,by rw[h2];exact h.r⟩
theorem ValsC.setR {c:Co} (h:ValsC c) (i:Int) (v:Nat):ValsC (c.setR i v):=by
 obtain⟨_,_,_,e4,e5,_,_⟩:=c.setR_keeps i v
 exact h.of e5 e4
theorem sk {c:Co} (hs:SmallC c) (h:ValsC c) (x:Ins):ValsC (c.execC x):=by
 unfold Co.execC
 split
 ·exact h.setR _ _
 ·split
  ·exact h.setR _ _
  ·split
   ·exact h.setR _ _
   ·split
    ·exact h.setR _ _
    ·split
     ·exact(show ValsC { c with inp:=c.inp.tail } from⟨h.t,h.r⟩).setR _ _
     ·split
      ·refine⟨fun v hm=>?_,h.r⟩
       rcases List.mem_append.1 (show v∈c.trace++[c.reg x.a] from hm) with hm|hm
       ·exact h.t v hm
       ·rw[List.mem_singleton.1 hm];exact hs.reg _
      ·split
       ·exact h
       ·split
        ·exact h.of rfl rfl
        ·unfold Co.applyC
         split
         ·exact h.setR _ _
         ·exact h.of rfl rfl
theorem qX {F:Tg} {T0:Nat} {s:Tm} (h:VT F T0 s) (hv:ValsC s.c):ValsC (s.step F T0).c:=by
 have hsm:SmallC (s.fetched (s.cur F)).c:=⟨h.sm.r8,h.sm.rv,h.sm.iv⟩
 have hf:ValsC (s.fetched (s.cur F)).c:=hv.of rfl rfl
 unfold Tm.step Tm.exec
 generalize s.cur F=x at hsm hf
 generalize s.fetched x=u at hsm hf
 split
 ·unfold Tm.access
  split
  ·split
   ·exact(hf.setR _ _).of rfl rfl
   ·split
    ·exact(hf.setR _ _).of rfl rfl
    ·exact hf.setR _ _
  ·split
   ·split
    ·exact hf.of rfl rfl
    ·exact hf
   ·split
    ·exact hf.of rfl rfl
    ·split
     ·exact hf.of rfl rfl
     ·exact hf
 ·split
  ·unfold Tm.enter
   split
   ·exact hf.of rfl rfl
   ·exact hf
  ·split
   ·unfold Tm.leave
    dsimp only
    split
    ·exact⟨hf.t,hsm.reg 0⟩
    ·exact hf
   ·exact sk hsm hf x
theorem mS {Al:Int} {F:Tg} {T0:Nat} (hR:RightT Al F) (him:eN F):∀(k:Nat) (s:Tm),JT F T0 s->ValsC s.c->ValsC (cZ F T0 k s).c
 | 0,_,_,hv=>hv
 | k+1,s,h,hv=>by
  rw[cZ]
  by_cases he:s.c.ended=true
  ·rw[if_pos he];exact hv
  ·rw[if_neg he]
   rcases h with h|h
   ·exact absurd h.1 he
   ·exact mS hR him k _ (ql hR him h.2 h.1) (qX h.2 hv)
theorem tc {Al:Int} {F:Tg} (hR:RightT Al F) (him:eN F) {inp:List Nat} (hi:∀v∈inp,v<18446744073709551616) {size:Nat} (hs:size<=1048576) (A n:Nat):ValsC (gU A F inp n size).c:=by
 have hz:ValsC (jG inp):=⟨(fun v hm=>by cases hm),show(0:Nat)<ae by decide⟩
 by_cases h0:n=0
 ·subst h0
  exact hz.of rfl rfl
 ·rw[jd h0]
  have h1:ValsC (fg A F inp size).c:=by
   unfold fg Tm.enter
   split
   ·exact hz.of rfl rfl
   ·exact hz
  have h:=mS hR him n _ (oz hR hi hs (A:=A)) h1
  unfold Tm.fuelled
  split
  ·exact h
  ·exact h.of rfl rfl
end Go.Proofs.YtjbgepjdohfhkaaGreat
