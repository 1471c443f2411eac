/- The contract of spillframedraw's OddTarget: a target with one thing changed. Condition: the receiver is a list of choices; each frame has 1 to 1024 instructions. -/
import Derived.Test.YtjbgepjdohfhkaaGreatMDprog
set_option linter.unusedVariables false
set_option linter.unusedSimpArgs false
set_option maxRecDepth 100000
set_option maxHeartbeats 8000000
namespace Go.Proofs.YtjbgepjdohfhkaaGreat
open Go.RowKit
def ju (ys:List Ins):Prop:=∀x∈ys,0<=x.imm/\x.imm<=18446744073709551615
theorem ju.take {ys:List Ins} (h:ju ys) (k:Nat):ju (ys.take k):=fun x hx=>h x (List.mem_of_mem_take hx)
theorem ju.set {ys:List Ins} (h:ju ys) (k:Nat) {y:Ins} (hy:0<=y.imm/\y.imm<=18446744073709551615):ju (ys.set k y):=fun x hx=>by
 rcases List.mem_or_eq_of_mem_set hx with h1|rfl
 ·exact h x h1
 ·exact hy
def qH (G0:Tg) (g lo:Nat) (n:Nat) (w:World) (e:Ending) (w':World):Prop:=
 ∃(Al:Int) (A:Option Addr) (c:Nat) (hh:List Fd) (G:Tg),e=.returned (tv Al A n c)/\TgAt w' lo w'.heap.size A n c hh G/\ar w' g/\w.grownBy w' (some g)/\((∀f∈G0,ju f.code)->∀f∈G,ju f.code)
theorem Az (hs:List Fd) (i:Nat) (h h':Fd) (hx:hs[i]?=some h):(((aV hs).set (i*3) (.int .i64 h'.p)).set (i*3+1) (.int .i64 h'.s)).set (i*3+2) (.slice h'.a h'.n h'.c)=aV (hs.set i h'):=by
 have hk:i<hs.length:=(List.getElem?_eq_some_iff.1 hx).1
 have s0:=eh fa hs i h ⟨h'.p,h.s,h.a,h.n,h.c⟩ hx 0 (by omega) (.int .i64 h'.p) rfl
 have s1:=eh fa (hs.set i ⟨h'.p,h.s,h.a,h.n,h.c⟩) i ⟨h'.p,h.s,h.a,h.n,h.c⟩ ⟨h'.p,h'.s,h.a,h.n,h.c⟩ (by rw[List.getElem?_set_self hk]) 1 (by omega) (.int .i64 h'.s) rfl
 have s2:=eh fa (hs.set i ⟨h'.p,h'.s,h.a,h.n,h.c⟩) i ⟨h'.p,h'.s,h.a,h.n,h.c⟩ h' (by rw[List.getElem?_set_self hk]) 2 (by omega) (.slice h'.a h'.n h'.c) rfl
 rw[List.set_set] at s1 s2
 unfold aV
 rw[Nat.add_zero] at s0
 rw[s0,s1,s2]
theorem oc {w:World} {B k:Nat} {A:Option Addr} {l:List Ins} (h:an w B A (au l)) (hk:k<=l.length):an w B A (au (l.take k)):=fun j u hu=>h j u (by
 have hl:j<(au (l.take k)).length:=by
  rcases Nat.lt_or_ge j (au (l.take k)).length with h1|h1
  ·exact h1
  ·rw[List.getElem?_eq_none h1] at hu;cases hu
 rw[show au l=au (l.take k)++au (l.drop k) by rw[<-dL,List.take_append_drop],List.getElem?_append_left hl]
 exact hu)
theorem TgAt.set {w w':World} {lo lo' B B' n c c' i:Nat} {A A':Option Addr} {hs:List Fd} {F:Tg} {h:Fd} {f:Fm} (H:TgAt w lo B A n c hs F) (hk:∀p:Addr,lo<=p.block->p.block<B->w'.cell? p=w.cell? p) (hB:B<=B') (hlo:lo'<=lo) (hcap:Cap A' n c') (hfar:Far lo' A') (hs':an w' B' A' (aV (hs.set i h))) (hh:FdAt w' lo' B' h f):TgAt w' lo' B' A' n c' (hs.set i h) (F.set i f):=by
 refine⟨by rw[List.length_set];exact H.len,hcap,hfar,hs',⟨by rw[List.length_set,List.length_set];exact H.hd.len,fun k h2 f2 e1 e2=>?_⟩⟩
 by_cases e:i=k
 ·subst e
  have l1:i<hs.length:=by
   rcases Nat.lt_or_ge i hs.length with h1|h1
   ·exact h1
   ·rw[List.getElem?_eq_none (by rw[List.length_set];exact h1)] at e1;cases e1
  have l2:i<F.length:=by rw[<-H.hd.len];exact l1
  rw[List.getElem?_set_self l1] at e1
  rw[List.getElem?_set_self l2] at e2
  injection e1 with e1
  injection e2 with e2
  subst e1 e2
  exact hh
 ·rw[List.getElem?_set_ne e] at e1 e2
  exact((H.hd.at_ k h2 f2 e1 e2).keep hk).more hB hlo
structure OdN (w:World) (g g7 Gf Gc B1:Nat):Prop where
 a:g<w.heap.size
 b:w.heap.size+1<B1
 c:B1<=Gf
 d:Gf<g7
 e:g7<Gc
structure OdS (w:World) (g g7 Gf Gc B1 n c8:Nat) (hh:List Fd) (Al:Int) (A:Option Addr) (c:Nat) (W:World) (P S:Int) (m cc:Nat) (ys:List Ins):Prop where
 fr:W.ownsRow B1 53 3 (.slice (some ⟨Gf,0,none⟩) n c8) n (aV hh)
 r7:Row W g7 53 [.int .i64 P,.int .i64 S,.slice (some ⟨Gc,0,none⟩) m cc]
 rt:Row W w.heap.size 26 [.int .i64 Al,.slice A n c]
 rr:Row W (w.heap.size+1) 26 [.int .i64 0,.slice none 0 0]
 cs:an W W.heap.size (some ⟨Gc,0,none⟩) (au ys)
 ln:ys.length=m
 cap:m<=cc/\m<=8796093022208
 C:ar W g
 G:w.grownBy W (some g)
structure OdP (w:World) (g g7 Gf Gc B1 n c8:Nat) (hh:List Fd) (Al:Int) (A:Option Addr) (c:Nat) (W:World) (P S:Int) (m cc:Nat) (ys:List Ins):Prop where
 fr:W.ownsRow B1 53 3 (.slice (some ⟨Gf,0,none⟩) n c8) n (aV hh)
 r7:Row W g7 53 [.int .i64 P,.int .i64 S,.slice (some ⟨Gc,0,none⟩) m cc]
 rt:Row W w.heap.size 26 [.int .i64 Al,.slice A n c]
 rr:Row W (w.heap.size+1) 26 [.int .i64 0,.slice none 0 0]
 own:W.ownsRow B1 50 5 (.slice (some ⟨Gc,0,none⟩) m cc) m (au ys)
 ln:ys.length=m
 cap:m<=cc/\m<=8796093022208
 C:ar W g
 G:w.grownBy W (some g)
theorem dP {W:World} {Gc:Nat} {xs:List Value} (h:an W W.heap.size (some ⟨Gc,0,none⟩) xs) {b:Nat} (hb:b≠Gc) (j:Nat) (u:Value):an (W.setCell ⟨b,j,none⟩ u) (W.setCell ⟨b,j,none⟩ u).heap.size (some ⟨Gc,0,none⟩) xs:=fun q v hv=>by
 obtain⟨b2,off,e,hl,hc⟩:=h q v hv
 injection e with e
 injection e with e1 e2
 subst e1 e2
 exact⟨Gc,0,rfl,by simpa[World.setCell] using hl,(World.cell?_setCell_other _ _ _ _ (fun e=>hb (show b=Gc from congrArg Addr.block e))).trans hc⟩
theorem fF {W:World} {base G n c:Nat} {t:TypeId} {size:Nat} {xs:List Value} (h:W.ownsRow base t size (.slice (some ⟨G,0,none⟩) n c) n xs) {b:Nat} (hb:b≠G) (j:Nat) (u:Value):(W.setCell ⟨b,j,none⟩ u).ownsRow base t size (.slice (some ⟨G,0,none⟩) n c) n xs:=
 h.kept (aM W b j u) (.inr (fun e=>hb (by simpa[Value.ownBlock] using e.symm)))
section
variable {w W W2:World} {g g7 Gf Gc B1 n c8 c m cc i k:Nat} {hh:List Fd} {Al P S:Int} {A:Option Addr} {ys:List Ins}
theorem OdP.s (h:OdP w g g7 Gf Gc B1 n c8 hh Al A c W P S m cc ys):OdS w g g7 Gf Gc B1 n c8 hh Al A c W P S m cc ys:=by
 obtain⟨A',c',e,_,_,_,hs⟩:=aW h.own
 injection e with e1 _ _
 rw[<-e1] at hs
 exact⟨h.fr,h.r7,h.rt,h.rr,hs,h.ln,h.cap,h.C,h.G⟩
theorem OdP.stay (h:OdP w g g7 Gf Gc B1 n c8 hh Al A c W P S m cc ys) (N:OdN w g g7 Gf Gc B1) (hC:ar W2 g) (hG:W.grownBy W2 (some g)):OdP w g g7 Gf Gc B1 n c8 hh Al A c W2 P S m cc ys:=by
 obtain⟨a,b,c,d,e⟩:=N
 exact⟨cj h.fr (by omega) hG,h.r7.grown hG (fun e=>by injection e with e;omega),h.rt.grown hG (fun e=>by injection e with e;omega),h.rr.grown hG (fun e=>by injection e with e;omega),cj h.own (by omega) hG,h.ln,h.cap,hC,h.G.trans hG⟩
theorem OdS.stay (h:OdS w g g7 Gf Gc B1 n c8 hh Al A c W P S m cc ys) (N:OdN w g g7 Gf Gc B1) (hC:ar W2 g) (hG:W.grownBy W2 (some g)):OdS w g g7 Gf Gc B1 n c8 hh Al A c W2 P S m cc ys:=by
 obtain⟨a,b,c,d,e⟩:=N
 refine⟨cj h.fr (by omega) hG,h.r7.grown hG (fun e=>by injection e with e;omega),h.rt.grown hG (fun e=>by injection e with e;omega),h.rr.grown hG (fun e=>by injection e with e;omega),fun q v hv=>?_,h.ln,h.cap,hC,h.G.trans hG⟩
 obtain⟨b2,off,e,hl,hc⟩:=h.cs q v hv
 injection e with e
 injection e with e1 e2
 subst e1 e2
 exact⟨Gc,0,rfl,Nat.lt_of_lt_of_le hl hG.size,(World.cell?_of_block (hG.block Gc hl (fun e=>by injection e with e;omega))).trans hc⟩
theorem OdP.draw (h:OdP w g g7 Gf Gc B1 n c8 hh Al A c W P S m cc ys) (N:OdN w g g7 Gf Gc B1) (q:Nat):OdP w g g7 Gf Gc B1 n c8 hh Al A c (W.drewN q) P S m cc ys:=h.stay N (h.C.drewN q) (be (World.grownBy.refl W (some g)) q)
theorem OdS.draw (h:OdS w g g7 Gf Gc B1 n c8 hh Al A c W P S m cc ys) (N:OdN w g g7 Gf Gc B1) (q:Nat):OdS w g g7 Gf Gc B1 n c8 hh Al A c (W.drewN q) P S m cc ys:=h.stay N (h.C.drewN q) (be (World.grownBy.refl W (some g)) q)
theorem OdP.code {ys2:List Ins} (h:OdP w g g7 Gf Gc B1 n c8 hh Al A c W P S m cc ys) (N:OdN w g g7 Gf Gc B1) (j:Nat) (u:Value) (hset:(au ys).set j u=au ys2) (hl:ys2.length=ys.length):OdS w g g7 Gf Gc B1 n c8 hh Al A c (W.setCell ⟨Gc,j,none⟩ u) P S m cc ys2:=by
 obtain⟨a,b,c,d,e⟩:=N
 have ho:=(h.own.stored j u).1
 rw[hset] at ho
 exact OdP.s ⟨fF h.fr (by omega) j u,h.r7.far (p:=⟨Gc,j,none⟩) (by simp;omega) u,h.rt.far (p:=⟨Gc,j,none⟩) (by simp;omega) u,h.rr.far (p:=⟨Gc,j,none⟩) (by simp;omega) u,ho,hl.trans h.ln,h.cap,h.C.kept (aM W Gc j u) (fun q hq=>by injection hq with hq;omega),h.G.andThen (aM W Gc j u) (fun q hq=>.inl (by injection hq with hq;omega))⟩
theorem OdS.num0 (h:OdS w g g7 Gf Gc B1 n c8 hh Al A c W P S m cc ys) (N:OdN w g g7 Gf Gc B1) (P':Int):OdS w g g7 Gf Gc B1 n c8 hh Al A c (W.setCell ⟨g7,0,none⟩ (.int .i64 P')) P' S m cc ys:=by
 obtain⟨a,b,c,d,e⟩:=N
 exact⟨fF h.fr (by omega) _ _,h.r7.set_ 0 _,h.rt.far (p:=⟨g7,0,none⟩) (by simp;omega) _,h.rr.far (p:=⟨g7,0,none⟩) (by simp;omega) _,dP h.cs (by omega) _ _,h.ln,h.cap,h.C.kept (aM W g7 0 _) (fun q hq=>by injection hq with hq;omega),h.G.andThen (aM W g7 0 _) (fun q hq=>.inl (by injection hq with hq;omega))⟩
theorem OdS.num1 (h:OdS w g g7 Gf Gc B1 n c8 hh Al A c W P S m cc ys) (N:OdN w g g7 Gf Gc B1) (S':Int):OdS w g g7 Gf Gc B1 n c8 hh Al A c (W.setCell ⟨g7,1,none⟩ (.int .i64 S')) P S' m cc ys:=by
 obtain⟨a,b,c,d,e⟩:=N
 exact⟨fF h.fr (by omega) _ _,h.r7.set_ 1 _,h.rt.far (p:=⟨g7,1,none⟩) (by simp;omega) _,h.rr.far (p:=⟨g7,1,none⟩) (by simp;omega) _,dP h.cs (by omega) _ _,h.ln,h.cap,h.C.kept (aM W g7 1 _) (fun q hq=>by injection hq with hq;omega),h.G.andThen (aM W g7 1 _) (fun q hq=>.inl (by injection hq with hq;omega))⟩
theorem OdS.cut (h:OdS w g g7 Gf Gc B1 n c8 hh Al A c W P S m cc ys) (N:OdN w g g7 Gf Gc B1) (hk:k<=m):OdS w g g7 Gf Gc B1 n c8 hh Al A c (W.setCell ⟨g7,2,none⟩ (.slice (some ⟨Gc,0,none⟩) k cc)) P S k cc (ys.take k):=by
 obtain⟨a,b,c,d,e⟩:=N
 have h1:=h.cap
 have h2:=h.ln
 exact⟨fF h.fr (by omega) _ _,h.r7.set_ 2 _,h.rt.far (p:=⟨g7,2,none⟩) (by simp;omega) _,h.rr.far (p:=⟨g7,2,none⟩) (by simp;omega) _,dP (oc h.cs (by omega)) (by omega) _ _,by simp;omega,by omega,h.C.kept (aM W g7 2 _) (fun q hq=>by injection hq with hq;omega),h.G.andThen (aM W g7 2 _) (fun q hq=>.inl (by injection hq with hq;omega))⟩
theorem OdS.put {x:Fd} (h:OdS w g g7 Gf Gc B1 n c8 hh Al A c W P S m cc ys) (N:OdN w g g7 Gf Gc B1) (hx:hh[i]?=some x):OdS w g g7 Gf Gc B1 n c8 (hh.set i ⟨P,S,some ⟨Gc,0,none⟩,m,cc⟩) Al A c (((W.setCell ⟨Gf,i*3,none⟩ (.int .i64 P)).setCell ⟨Gf,i*3+1,none⟩ (.int .i64 S)).setCell ⟨Gf,i*3+2,none⟩ (.slice (some ⟨Gc,0,none⟩) m cc)) P S m cc ys:=by
 obtain⟨a,b,c,d,e⟩:=N
 have o1:=(h.fr.stored (i*3) (.int .i64 P)).1
 have o2:=(o1.stored (i*3+1) (.int .i64 S)).1
 have o3:=(o2.stored (i*3+2) (.slice (some ⟨Gc,0,none⟩) m cc)).1
 rw[Az hh i x ⟨P,S,some ⟨Gc,0,none⟩,m,cc⟩ hx] at o3
 have K:=fun(W:World) (j:Nat) (u:Value) (hC:ar W g)=>hC.kept (aM W Gf j u) (fun q hq=>by injection hq with hq;omega)
 have L:=fun(W:World) (j:Nat) (u:Value) (hG:w.grownBy W (some g))=>hG.andThen (aM W Gf j u) (fun q hq=>.inl (by injection hq with hq;omega))
 exact⟨o3,((h.r7.far (p:=⟨Gf,i*3,none⟩) (by simp;omega) _).far (p:=⟨Gf,i*3+1,none⟩) (by simp;omega) _).far (p:=⟨Gf,i*3+2,none⟩) (by simp;omega) _,((h.rt.far (p:=⟨Gf,i*3,none⟩) (by simp;omega) _).far (p:=⟨Gf,i*3+1,none⟩) (by simp;omega) _).far (p:=⟨Gf,i*3+2,none⟩) (by simp;omega) _,((h.rr.far (p:=⟨Gf,i*3,none⟩) (by simp;omega) _).far (p:=⟨Gf,i*3+1,none⟩) (by simp;omega) _).far (p:=⟨Gf,i*3+2,none⟩) (by simp;omega) _,dP (dP (dP h.cs (by omega) _ _) (by omega) _ _) (by omega) _ _,h.ln,h.cap,K _ _ _ (K _ _ _ (K _ _ _ h.C)),L _ _ _ (L _ _ _ (L _ _ _ h.G))⟩
theorem OdS.al (h:OdS w g g7 Gf Gc B1 n c8 hh Al A c W P S m cc ys) (N:OdN w g g7 Gf Gc B1) (Al':Int):OdS w g g7 Gf Gc B1 n c8 hh Al' A c (W.setCell ⟨w.heap.size,0,none⟩ (.int .i64 Al')) P S m cc ys:=by
 obtain⟨a,b,c,d,e⟩:=N
 exact⟨fF h.fr (by omega) _ _,h.r7.far (p:=⟨w.heap.size,0,none⟩) (by simp;omega) _,h.rt.set_ 0 _,h.rr.far (p:=⟨w.heap.size,0,none⟩) (by simp) _,dP h.cs (by omega) _ _,h.ln,h.cap,h.C.kept (aM W w.heap.size 0 _) (fun q hq=>by injection hq with hq;omega),h.G.andThen (aM W w.heap.size 0 _) (fun q hq=>.inl (by injection hq with hq;omega))⟩
theorem OdS.fin {lo:Nat} {G:Tg} {hh0:List Fd} {c0:Nat} {A0:Option Addr} (h:OdS w g g7 Gf Gc B1 n c8 (hh0.set i ⟨P,S,some ⟨Gc,0,none⟩,m,cc⟩) Al A c W P S m cc ys) (N:OdN w g g7 Gf Gc B1) (H:TgAt w lo w.heap.size A0 n c0 hh0 G) (hlo:g<lo) (hlw:lo<=w.heap.size) (hn:n<=80) (him:(∀f∈G,ju f.code)->ju ys) :
  qH G g lo n w (.returned (tv Al (some ⟨Gf,0,none⟩) n c8)) ((W.setCell ⟨w.heap.size+1,0,none⟩ (.int .i64 Al)).setCell ⟨w.heap.size+1,1,none⟩ (.slice (some ⟨Gf,0,none⟩) n c8)):=by
 obtain⟨a,b,c,d,e⟩:=N
 have o2:=fF (fF h.fr (b:=w.heap.size+1) (by omega) 0 (.int .i64 Al)) (b:=w.heap.size+1) (by omega) 1 (.slice (some ⟨Gf,0,none⟩) n c8)
 have s2:=dP (dP h.cs (b:=w.heap.size+1) (by omega) 0 (.int .i64 Al)) (b:=w.heap.size+1) (by omega) 1 (.slice (some ⟨Gf,0,none⟩) n c8)
 have g2:=(h.G.andThen (aM W (w.heap.size+1) 0 (.int .i64 Al)) (fun q hq=>.inl (by injection hq with hq;omega))).andThen (aM _ (w.heap.size+1) 1 (.slice (some ⟨Gf,0,none⟩) n c8)) (fun q hq=>.inl (by injection hq with hq;omega))
 have c2:=(h.C.kept (aM W (w.heap.size+1) 0 (.int .i64 Al)) (fun q hq=>by injection hq with hq;omega)).kept (aM _ (w.heap.size+1) 1 (.slice (some ⟨Gf,0,none⟩) n c8)) (fun q hq=>by injection hq with hq;omega)
 obtain⟨A',c',e',_,hcc,_,hs⟩:=aW o2
 injection e' with e1 _ e2
 subst e1 e2
 refine⟨Al,_,c8,_,G.set i ⟨P,S,ys⟩,rfl,TgAt.set H (fun p h1 h2=>World.cell?_of_block (g2.block p.block h2 (fun e=>by injection e with e;omega))) g2.size (Nat.le_refl _) ⟨(fun h=>by cases h),hcc,by omega⟩ (fun a ha=>by injection ha with ha;subst ha;simp;omega) hs ⟨rfl,rfl,h.ln,⟨(fun h=>by cases h),h.cap⟩,(fun a ha=>by injection ha with ha;subst ha;simp;omega),s2⟩,c2,g2,fun hg f hf=>by
  rcases List.mem_or_eq_of_mem_set hf with h1|rfl
  ·exact hg f h1
  ·exact him hg⟩
end
theorem wg (g lo:Nat) (Al:Int) (A:Option Addr) (n c:Nat) (hh:List Fd) (G:Tg) (w:World) (h:Hid (ar w g)) (H:Hid (TgAt w lo w.heap.size A n c hh G)) (hn1:1<=n) (hn2:n<=80) (hlen:Hid (∀q∈G,1<=q.code.length/\q.code.length<=1024)) (hlo:g<lo) (hlw:lo<=w.heap.size) :
  Calls Tryz.prog 6 #[.pointer (some ⟨g,0,none⟩),tv Al A n c] w (qH G g lo n w):=by
 obtain⟨i0,hi,hz0,hz1,hz2⟩:=info_parts Tryz.info53
 obtain⟨j0,ji,jz0,jz1,jz2⟩:=info_parts Tryz.info50''
 have hgw:=h.out.lt
 obtain⟨W2,hW2,hb2,hs2,r0,r1⟩:=fx w [.int .i64 Al,.slice A n c] [.int .i64 0,.slice none 0 0] 26 26
 have HW2:=aa hW2
 have HB2:=aa hb2
 have HS2:=aa hs2
 have R0:=aa r0
 have R1:=aa r1
 have HC2:=aa (h.out.below hb2)
 have t1:=r0.cell (k:=1) rfl
 have HT2:=aa (H.out.below hb2)
 have HCA:=aa H.out.cap.1
 have HCN:=aa H.out.cap.2.1
 have HCL:=aa (show(aV hh).length=n*3 by rw[j7,H.out.hd.len,H.out.len])
 have HCS:=aa HT2.out.see
 clear hW2 hb2 hs2 r0 r1
 go_enter Tryz.func6,Tryz.ntmps6
 go_upto_region 1 with(fail)
 rw[HW2.out]
 clear HW2
 go_wp2_with (at_builtin;refine bE rfl (.const (.slice none 0 0)) (.tmp 10) 24 rfl W2.heap.size 53 i0 (.agg #[.int .i64 0,.int .i64 0,.slice none 0 0]) 3 40 Tryz.underlying24 hi hz0 hz1 hz2 rfl (by decide) (.slice none 0 0) 0 [] rfl (World.ownsRow_nil _ _ _ _) w.heap.size A n c (aV hh) rfl HCA HCL HCS HCN (fB _) (by unfold maxLen;omega) (by omega) (Nat.le_refl _) ?_)
 intro v1 W3 ho0 hG3
 have ho1:W3.ownsRow W2.heap.size 53 3 v1 n (aV hh):=by simpa using ho0
 obtain⟨A8,c8,rfl,-,-,-,-⟩:=aW ho1
 obtain⟨Gf,rfl,hgf1,hgf2⟩:=mM ho1 (by omega)
 have HO3:=aa ho1
 have HC3:=aa (HC2.out.kept hG3 (fun k hk=>by cases hk))
 have RT3:=aa (R0.out.grown hG3 (fun e=>by cases e))
 have RR3:=aa (R1.out.grown hG3 (fun e=>by cases e))
 have HG3:Hid (w.grownBy W3 (some g)):=aa ((aG HB2.out (some g)).andThen hG3 (fun k hk=>by cases hk))
 have hs3:=hG3.size
 have hs2:=HS2.out
 clear ho0 ho1 hG3 t1 HCA HCN HCL HCS HT2 HC2 HB2 R0 R1
 go_wp2_with fail
 refine(a6 g n _ HC3 (by omega) (by omega)).mono ?_
 rintro e W4 ⟨iz,rfl,iz0,iz1,hC4,hG4,-⟩
 have hs4:=hG4.size
 obtain⟨i,rfl⟩:=Int.eq_ofNat_of_zero_le iz0
 have hin:i<n:=by omega
 obtain⟨b0,o0,P,S,Ah,m,ch,q,-,-,hq,hhi,hfd,-,-,-⟩:=dk H.out hin
 have HHI:=aa hhi
 have HQ:=aa hq
 have HIQ:=aa (fun(hg:∀f∈G,ju f.code)=>hg q (List.mem_of_getElem? hq))
 have hql:=hlen.out q (List.mem_of_getElem? hq)
 have hmq:q.code.length=m:=hfd.l
 have hm1:1<=m/\m<=1024:=by omega
 have hgl:g<W2.heap.size:=by omega
 have HO4:=aa (cj HO3.out hgl hG4)
 have HC4:=aa hC4
 have RT4:=aa (RT3.out.grown hG4 (fun e=>by injection e with e;omega))
 have RR4:=aa (RR3.out.grown hG4 (fun e=>by injection e with e;omega))
 have HG4:=aa (HG3.out.trans hG4)
 have hcode:an W4 w.heap.size Ah (au q.code):=hfd.c.keepF hfd.fr (fun p h1 h2=>World.cell?_of_block (HG4.out.block p.block h2 (fun e=>by injection e with e;(try simp at h1);omega)))
 have HCODE:=aa hcode
 have HK:=aa hfd.k
 have HCL:=aa (show(au q.code).length=m*5 by rw[iV,hmq])
 have HMQ:=aa hmq
 obtain⟨⟨f0,f1,f2⟩,-⟩:=ez HO4.out hhi
 simp only at f0 f1 f2
 clear hq hhi hfd hql hmq hC4 hG4 HO3 HC3 RT3 RR3 HG3 hcode
 go_upto_region 4 with(fail)
 obtain⟨W5,hW5⟩:∃V,W4.alloc (.cells #[.int .i64 P,.int .i64 S,.slice Ah m ch] 53)=V:=⟨_,rfl⟩
 have hb45:Below W4.heap.size W4 W5:=by rw[<-hW5];exact ag _ _
 have R75:=aa (show Row W5 W4.heap.size 53 [.int .i64 P,.int .i64 S,.slice Ah m ch] by rw[<-hW5];exact Row.new W4 _ _)
 have HO5:=aa (dJ HO4.out hb45)
 have HC5:=aa (HC4.out.below hb45)
 have RT5:=aa (RT4.out.call hb45)
 have RR5:=aa (RR4.out.call hb45)
 have HG5:=aa (HG4.out.andThen (aG hb45 none) (fun k hk=>by cases hk))
 have HCODE5:=aa (HCODE.out.below (hb45.mono (by omega)))
 have hs5:=hb45.size
 rw[hW5]
 obtain⟨g7,hg7⟩:∃q,W4.heap.size=q:=⟨_,rfl⟩
 rw[hg7] at R75⊢
 have hg7a:W3.heap.size<=g7:=by omega
 have hgg7:g<g7:=by omega
 have hg7l:g7<W5.heap.size:=R75.out.lt
 have hg7f:Gf<g7:=by omega
 clear hW5 hb45 hg7 f0 f1 f2 HO4 HC4 RT4 RR4 HG4 HCODE
 have k2:=R75.out.cell (k:=2) rfl
 have k2f:=R75.out.free 2
 have hmz:((m:Int)==0)=false:=by simp;omega
 have HK1:=aa HK.out.1
 have HK2:=aa HK.out.2.1
 go_wp2_with (at_builtin;refine bE rfl (.const (.slice none 0 0)) (.tmp 26) 51 rfl W5.heap.size 50 j0 (.agg #[.int .i64 0,.int .i64 0,.int .i64 0,.int .i64 0,.int .u64 0]) 5 40 Tryz.underlying51 ji jz0 jz1 jz2 rfl (by decide) (.slice none 0 0) 0 [] rfl (World.ownsRow_nil _ _ _ _) w.heap.size Ah m ch (au q.code) rfl HK1 HCL HCODE5 HK2 (eL _) (by unfold maxLen;omega) (by omega) (Nat.le_refl _) ?_)
 intro v1 W6 ho0 hG6
 have ho1:W6.ownsRow W5.heap.size 50 5 v1 m (au q.code):=by simpa using ho0
 obtain⟨A9,cc,rfl,-,hcc,-,-⟩:=aW ho1
 obtain⟨Gc,rfl,hgc1,hgc2⟩:=mM ho1 (by omega)
 have R76:=aa (R75.out.grown hG6 (fun e=>by cases e))
 have k2:=R76.out.cell (k:=2) rfl
 have k2f:=R76.out.free 2
 have HY6:=aa ho1
 have HO6:=aa (HO5.out.kept hG6 (by
  rcases ho:(Value.slice (some ⟨Gf,0,none⟩) n c8).ownBlock with _|k
  ·exact .inl rfl
  ·exact .inr (fun e=>by cases e)))
 have HC6:=aa (HC5.out.kept hG6 (fun k hk=>by cases hk))
 have RT6:=aa (RT5.out.grown hG6 (fun e=>by cases e))
 have RR6:=aa (RR5.out.grown hG6 (fun e=>by cases e))
 have HG6:=aa (HG5.out.andThen hG6 (fun k hk=>by cases hk))
 have hs6:=hG6.size
 clear ho0 ho1 hG6 HO5 HC5 RT5 RR5 HG5 HCODE5 R75 HK1 HK2 HCL
 go_upto_region 7 with(fail)
 obtain⟨W7,hW7⟩:∃V,W6.setCell ⟨g7,2,none⟩ (.slice (some ⟨Gc,0,none⟩) m cc)=V:=⟨_,rfl⟩
 have R77:=aa (show Row W7 g7 53 [.int .i64 P,.int .i64 S,.slice (some ⟨Gc,0,none⟩) m cc] by rw[<-hW7];exact R76.out.set_ 2 _)
 have HY7:=aa (show W7.ownsRow W5.heap.size 50 5 (.slice (some ⟨Gc,0,none⟩) m cc) m (au q.code) by rw[<-hW7];exact ownsRow_setCell_below HY6.out (a:=⟨g7,2,none⟩) (by simp;omega) _)
 have HO7:=aa (show W7.ownsRow W2.heap.size 53 3 (.slice (some ⟨Gf,0,none⟩) n c8) n (aV hh) by
  rw[<-hW7]
  exact HO6.out.kept (aM W6 g7 2 _) (.inr (fun e=>by simp[Value.ownBlock] at e;omega)))
 have HC7:=aa (show ar W7 g by rw[<-hW7];exact HC6.out.kept (aM W6 g7 2 _) (fun k hk=>by injection hk with hk;omega))
 have RT7:=aa (show Row W7 w.heap.size 26 [.int .i64 Al,.slice A n c] by rw[<-hW7];exact RT6.out.far (p:=⟨g7,2,none⟩) (by simp;omega) _)
 have RR7:=aa (show Row W7 (w.heap.size+1) 26 [.int .i64 0,.slice none 0 0] by rw[<-hW7];exact RR6.out.far (p:=⟨g7,2,none⟩) (by simp;omega) _)
 have HG7:=aa (show w.grownBy W7 (some g) by rw[<-hW7];exact HG6.out.andThen (aM W6 g7 2 _) (fun k hk=>.inl (by injection hk with hk;omega)))
 have hs7:W7.heap.size=W6.heap.size:=by rw[<-hW7];simp[World.setCell]
 rw[hW7]
 obtain⟨Bc,hBc⟩:∃b,W5.heap.size=b:=⟨_,rfl⟩
 obtain⟨Bf,hBf⟩:∃b,W2.heap.size=b:=⟨_,rfl⟩
 rw[hBc] at HY7 hgc1 hg7l
 rw[hBf] at HO7 hgf1 hgl
 have hgfc:Gf<Bc:=by omega
 have hgtc:w.heap.size+1<Bf:=by omega
 have hbfc:Bf<=Bc:=by omega
 clear hW7 k2 k2f R76 HY6 HO6 HC6 RT6 RR6 HG6 hBc hBf hs2 hs3 hs5 hs6 hs7 hgf2 hgc2 hs4
 have k2:=R77.out.cell (k:=2) rfl
 go_wp2_with fail
 refine(a6 g m _ HC7 (by omega) (by omega)).mono ?_
 rintro e W8 ⟨kz,rfl,kz0,kz1,hC8,hG8,-⟩
 obtain⟨k,rfl⟩:=Int.eq_ofNat_of_zero_le kz0
 have hkm:k<m:=by omega
 have hC8':=aa hC8
 go_wp2_with fail
 refine(a6 g 9 _ hC8' (by omega) (by omega)).mono ?_
 rintro e W9 ⟨v,rfl,v0,v1,hC9,hG9,-⟩
 have hG79:=hG8.trans hG9
 have R7:=aa (R77.out.grown hG79 (fun e=>by injection e with e;omega))
 have HY:=aa (cj HY7.out (show g<Bc by omega) hG79)
 have HO:=aa (cj HO7.out hgl hG79)
 have HC:=aa hC9
 have RT:=aa (RT7.out.grown hG79 (fun e=>by injection e with e;omega))
 have RR:=aa (RR7.out.grown hG79 (fun e=>by injection e with e;omega))
 have HG:=aa (HG7.out.trans hG79)
 have HL:=aa (show q.code.length=m from HMQ.out)
 have hkl:k<q.code.length:=by have:=HL.out;omega
 have HX:=aa (List.getElem?_eq_getElem hkl)
 obtain⟨x,hxe⟩:∃x,q.code[k]=x:=⟨_,rfl⟩
 rw[hxe] at HX
 clear hxe hC8 hC8' hG8 hC9 hG9 hG79 k2 R77 HY7 HO7 HC7 RT7 RR7 HG7
 have k0:=R7.out.cell (k:=0) rfl
 have k1:=R7.out.cell (k:=1) rfl
 have k2:=R7.out.cell (k:=2) rfl
 have hkz:(0:Int)<=(k:Int):=by omega
 have hkz':(k:Int)<(m:Int):=by omega
 have hvc:v=0\/v=1\/v=2\/v=3\/v=4\/v=5\/v=6\/v=7\/v=8:=by omega
 have N:Hid (OdN w g g7 Gf Gc Bf):=aa ⟨hgw,hgtc,hgf1,hg7f,by omega⟩
 have HP:=aa (show OdP w g g7 Gf Gc Bf n c8 hh Al A c W9 P S m cc q.code from⟨HO.out,R7.out,RT.out,RR.out,cY HY.out hbfc,HL.out,⟨hcc,by omega⟩,HC.out,HG.out⟩)
 clear R7 HY HO HC RT RR HG HK HMQ
 rcases hvc with rfl|rfl|rfl|rfl|rfl|rfl|rfl|rfl|rfl
 ·go_upto_region 10 with(fail)
  have HPD:=aa (HP.out.draw N.out 1)
  have HCD:=aa HPD.out.C
  have cn:=fun W (hc:Hid (ar W g))=>a6 g 28 W hc (by omega) (by omega)
  have CN:=aa cn
  clear cn
  go_region_law
   (first
    | (go_simp;go_at_call 7;refine(CN.out W9.drew HCD).mono ?_;rintro e w5 ⟨t,rfl,t0,t1,hC5,hG5,-⟩;have hp5:=HPD.out.stay N.out hC5 hG5;have hcc5:=(dX hp5.own HX.out).1;have hff5:=(dX hp5.own HX.out).2 (k*5);obtain⟨hq0,hq1,hq2,hq3,hq4⟩:=hcc5;have kk2:=hp5.r7.cell (k:=2) rfl;have e1:IntKind.i64.wrap (t-1)=t-1:=wrap_i64 _ (by omega) (by omega)))
  all_goals
   have HS:=aa (hp5.code N.out (k*5) (.int .i64 (t-1)) (Bb HX.out (t-1)) (by rw[List.length_set]))
   clear hp5 hq0 hq1 hq2 hq3 hq4 hff5 kk2 hC5 hG5 k0 k1 k2
   go_upto_region 27 with(fail)
   obtain⟨W,hW⟩:∃V,w5.setCell ⟨Gc,k*5,none⟩ (.int .i64 (t-1))=V:=⟨_,rfl⟩
   rw[hW] at HS⊢
   clear hW
   have k0:=HS.out.r7.cell (k:=0) rfl
   have k1:=HS.out.r7.cell (k:=1) rfl
   have k2:=HS.out.r7.cell (k:=2) rfl
   obtain⟨⟨d0,d1,d2⟩,df⟩:=ez HS.out.fr HHI.out
   try simp only at d0 d1 d2
   have df0:=df (i*3)
   have df1:=df (i*3+1)
   have df2:=df (i*3+2)
   clear df
   go_upto_region 28 with(fail)
   have HT:=aa (HS.out.put N.out HHI.out)
   clear k0 k1 k2 d0 d1 d2 df0 df1 df2 HS
   obtain⟨Wp,hWp⟩:∃V,((W.setCell ⟨Gf,i*3,none⟩ (.int .i64 P)).setCell ⟨Gf,i*3+1,none⟩ (.int .i64 S)).setCell ⟨Gf,i*3+2,none⟩ (.slice (some ⟨Gc,0,none⟩) m cc)=V:=⟨_,rfl⟩
   rw[hWp] at HT⊢
   clear hWp
   have hCp:=aa HT.out.C
   go_wp2_with fail
   refine(a6 g 10 _ hCp (by omega) (by omega)).mono ?_
   rintro e Wq ⟨v2,rfl,-,-,hCq,hGq,-⟩
   have HU:=aa (HT.out.stay N.out hCq hGq)
   clear HT hCp hCq hGq
   by_cases h9:v2=9
   ·have b9:(v2==9)=true:=by simpa using h9
    clear h9
    have hCu:=aa HU.out.C
    have rt0:=HU.out.rt.cell (k:=0) rfl
    have rt0f:=HU.out.rt.free 0
    go_wp2_with fail
    refine(dE g _ hCu).mono ?_
    rintro e Wr ⟨a2,rfl,hCr,hGr⟩
    have HV:=aa (HU.out.stay N.out hCr hGr)
    clear HU hCu hCr hGr rt0 rt0f
    have rt0:=HV.out.rt.cell (k:=0) rfl
    have rt0f:=HV.out.rt.free 0
    go_upto_region 30 with(fail)
    have HZ:=aa (HV.out.al N.out a2)
    obtain⟨Ws,hWs⟩:∃V,Wr.setCell ⟨w.heap.size,0,none⟩ (.int .i64 a2)=V:=⟨_,rfl⟩
    rw[hWs] at HZ⊢
    clear hWs HV rt0 rt0f
    have rt0:=HZ.out.rt.cell (k:=0) rfl
    have v0:=HZ.out.rr.cell (k:=0) rfl
    have v1:=HZ.out.rr.cell (k:=1) rfl
    have z0:=HZ.out.rr.free 0
    have z1:=HZ.out.rr.free 1
    go_wp2_with fail
    have RF:=(HZ.out.rr.set_ 0 (.int .i64 a2)).set_ 1 (.slice (some ⟨Gf,0,none⟩) n c8)
    have PO:=HZ.out.fin N.out H.out hlo hlw hn2 (fun hg=>by first|exact HIQ.out hg|exact(HIQ.out hg).take _|exact(HIQ.out hg).set _ ((HIQ.out hg) x (List.mem_of_getElem? HX.out))|exact(HIQ.out hg).set _ htb)
    obtain⟨Wt,hWt⟩:∃V,(Ws.setCell ⟨w.heap.size+1,0,none⟩ (.int .i64 a2)).setCell ⟨w.heap.size+1,1,none⟩ (.slice (some ⟨Gf,0,none⟩) n c8)=V:=⟨_,rfl⟩
    rw[hWt] at RF PO⊢
    have u0:=RF.cell (k:=0) rfl
    have u1:=RF.cell (k:=1) rfl
    exact bodyPost_ret (v:=tv a2 (some ⟨Gf,0,none⟩) n c8) (by simp[results,Tryz.results6,go_sem,u0,u1]) rfl PO
   ·have b9:(v2==9)=false:=by simpa using h9
    clear h9
    have rt0:=HU.out.rt.cell (k:=0) rfl
    have v0:=HU.out.rr.cell (k:=0) rfl
    have v1:=HU.out.rr.cell (k:=1) rfl
    have z0:=HU.out.rr.free 0
    have z1:=HU.out.rr.free 1
    go_wp2_with fail
    have RF:=(HU.out.rr.set_ 0 (.int .i64 Al)).set_ 1 (.slice (some ⟨Gf,0,none⟩) n c8)
    have PO:=HU.out.fin N.out H.out hlo hlw hn2 (fun hg=>by first|exact HIQ.out hg|exact(HIQ.out hg).take _|exact(HIQ.out hg).set _ ((HIQ.out hg) x (List.mem_of_getElem? HX.out))|exact(HIQ.out hg).set _ htb)
    obtain⟨Wt,hWt⟩:∃V,(Wq.setCell ⟨w.heap.size+1,0,none⟩ (.int .i64 Al)).setCell ⟨w.heap.size+1,1,none⟩ (.slice (some ⟨Gf,0,none⟩) n c8)=V:=⟨_,rfl⟩
    rw[hWt] at RF PO⊢
    have u0:=RF.cell (k:=0) rfl
    have u1:=RF.cell (k:=1) rfl
    exact bodyPost_ret (v:=tv Al (some ⟨Gf,0,none⟩) n c8) (by simp[results,Tryz.results6,go_sem,u0,u1]) rfl PO
 ·go_upto_region 12 with(fail)
  have HPD:=aa (HP.out.draw N.out 1)
  have HCD:=aa HPD.out.C
  have cn:=fun W (hc:Hid (ar W g))=>dE g W hc
  have CN:=aa cn
  clear cn
  go_region_law
   (first
    | (go_simp;go_at_call 16;refine(CN.out W9.drew HCD).mono ?_;rintro e w5 ⟨t,rfl,hC5,hG5⟩;have hp5:=HPD.out.stay N.out hC5 hG5;have hcc5:=(dX hp5.own HX.out).1;have hff5:=(dX hp5.own HX.out).2 (k*5+1);obtain⟨hq0,hq1,hq2,hq3,hq4⟩:=hcc5;have kk2:=hp5.r7.cell (k:=2) rfl))
  all_goals
   have HS:=aa (hp5.code N.out (k*5+1) (.int .i64 (t)) (xz HX.out (t)) (by rw[List.length_set]))
   clear hp5 hq0 hq1 hq2 hq3 hq4 hff5 kk2 hC5 hG5 k0 k1 k2
   go_upto_region 27 with(fail)
   obtain⟨W,hW⟩:∃V,w5.setCell ⟨Gc,k*5+1,none⟩ (.int .i64 (t))=V:=⟨_,rfl⟩
   rw[hW] at HS⊢
   clear hW
   have k0:=HS.out.r7.cell (k:=0) rfl
   have k1:=HS.out.r7.cell (k:=1) rfl
   have k2:=HS.out.r7.cell (k:=2) rfl
   obtain⟨⟨d0,d1,d2⟩,df⟩:=ez HS.out.fr HHI.out
   try simp only at d0 d1 d2
   have df0:=df (i*3)
   have df1:=df (i*3+1)
   have df2:=df (i*3+2)
   clear df
   go_upto_region 28 with(fail)
   have HT:=aa (HS.out.put N.out HHI.out)
   clear k0 k1 k2 d0 d1 d2 df0 df1 df2 HS
   obtain⟨Wp,hWp⟩:∃V,((W.setCell ⟨Gf,i*3,none⟩ (.int .i64 P)).setCell ⟨Gf,i*3+1,none⟩ (.int .i64 S)).setCell ⟨Gf,i*3+2,none⟩ (.slice (some ⟨Gc,0,none⟩) m cc)=V:=⟨_,rfl⟩
   rw[hWp] at HT⊢
   clear hWp
   have hCp:=aa HT.out.C
   go_wp2_with fail
   refine(a6 g 10 _ hCp (by omega) (by omega)).mono ?_
   rintro e Wq ⟨v2,rfl,-,-,hCq,hGq,-⟩
   have HU:=aa (HT.out.stay N.out hCq hGq)
   clear HT hCp hCq hGq
   by_cases h9:v2=9
   ·have b9:(v2==9)=true:=by simpa using h9
    clear h9
    have hCu:=aa HU.out.C
    have rt0:=HU.out.rt.cell (k:=0) rfl
    have rt0f:=HU.out.rt.free 0
    go_wp2_with fail
    refine(dE g _ hCu).mono ?_
    rintro e Wr ⟨a2,rfl,hCr,hGr⟩
    have HV:=aa (HU.out.stay N.out hCr hGr)
    clear HU hCu hCr hGr rt0 rt0f
    have rt0:=HV.out.rt.cell (k:=0) rfl
    have rt0f:=HV.out.rt.free 0
    go_upto_region 30 with(fail)
    have HZ:=aa (HV.out.al N.out a2)
    obtain⟨Ws,hWs⟩:∃V,Wr.setCell ⟨w.heap.size,0,none⟩ (.int .i64 a2)=V:=⟨_,rfl⟩
    rw[hWs] at HZ⊢
    clear hWs HV rt0 rt0f
    have rt0:=HZ.out.rt.cell (k:=0) rfl
    have v0:=HZ.out.rr.cell (k:=0) rfl
    have v1:=HZ.out.rr.cell (k:=1) rfl
    have z0:=HZ.out.rr.free 0
    have z1:=HZ.out.rr.free 1
    go_wp2_with fail
    have RF:=(HZ.out.rr.set_ 0 (.int .i64 a2)).set_ 1 (.slice (some ⟨Gf,0,none⟩) n c8)
    have PO:=HZ.out.fin N.out H.out hlo hlw hn2 (fun hg=>by first|exact HIQ.out hg|exact(HIQ.out hg).take _|exact(HIQ.out hg).set _ ((HIQ.out hg) x (List.mem_of_getElem? HX.out))|exact(HIQ.out hg).set _ htb)
    obtain⟨Wt,hWt⟩:∃V,(Ws.setCell ⟨w.heap.size+1,0,none⟩ (.int .i64 a2)).setCell ⟨w.heap.size+1,1,none⟩ (.slice (some ⟨Gf,0,none⟩) n c8)=V:=⟨_,rfl⟩
    rw[hWt] at RF PO⊢
    have u0:=RF.cell (k:=0) rfl
    have u1:=RF.cell (k:=1) rfl
    exact bodyPost_ret (v:=tv a2 (some ⟨Gf,0,none⟩) n c8) (by simp[results,Tryz.results6,go_sem,u0,u1]) rfl PO
   ·have b9:(v2==9)=false:=by simpa using h9
    clear h9
    have rt0:=HU.out.rt.cell (k:=0) rfl
    have v0:=HU.out.rr.cell (k:=0) rfl
    have v1:=HU.out.rr.cell (k:=1) rfl
    have z0:=HU.out.rr.free 0
    have z1:=HU.out.rr.free 1
    go_wp2_with fail
    have RF:=(HU.out.rr.set_ 0 (.int .i64 Al)).set_ 1 (.slice (some ⟨Gf,0,none⟩) n c8)
    have PO:=HU.out.fin N.out H.out hlo hlw hn2 (fun hg=>by first|exact HIQ.out hg|exact(HIQ.out hg).take _|exact(HIQ.out hg).set _ ((HIQ.out hg) x (List.mem_of_getElem? HX.out))|exact(HIQ.out hg).set _ htb)
    obtain⟨Wt,hWt⟩:∃V,(Wq.setCell ⟨w.heap.size+1,0,none⟩ (.int .i64 Al)).setCell ⟨w.heap.size+1,1,none⟩ (.slice (some ⟨Gf,0,none⟩) n c8)=V:=⟨_,rfl⟩
    rw[hWt] at RF PO⊢
    have u0:=RF.cell (k:=0) rfl
    have u1:=RF.cell (k:=1) rfl
    exact bodyPost_ret (v:=tv Al (some ⟨Gf,0,none⟩) n c8) (by simp[results,Tryz.results6,go_sem,u0,u1]) rfl PO
 ·go_upto_region 14 with(fail)
  have HPD:=aa (HP.out.draw N.out 1)
  have HCD:=aa HPD.out.C
  have cn:=fun W (hc:Hid (ar W g))=>dE g W hc
  have CN:=aa cn
  clear cn
  go_region_law
   (first
    | (go_simp;go_at_call 16;refine(CN.out W9.drew HCD).mono ?_;rintro e w5 ⟨t,rfl,hC5,hG5⟩;have hp5:=HPD.out.stay N.out hC5 hG5;have hcc5:=(dX hp5.own HX.out).1;have hff5:=(dX hp5.own HX.out).2 (k*5+2);obtain⟨hq0,hq1,hq2,hq3,hq4⟩:=hcc5;have kk2:=hp5.r7.cell (k:=2) rfl))
  all_goals
   have HS:=aa (hp5.code N.out (k*5+2) (.int .i64 (t)) (Ba HX.out (t)) (by rw[List.length_set]))
   clear hp5 hq0 hq1 hq2 hq3 hq4 hff5 kk2 hC5 hG5 k0 k1 k2
   go_upto_region 27 with(fail)
   obtain⟨W,hW⟩:∃V,w5.setCell ⟨Gc,k*5+2,none⟩ (.int .i64 (t))=V:=⟨_,rfl⟩
   rw[hW] at HS⊢
   clear hW
   have k0:=HS.out.r7.cell (k:=0) rfl
   have k1:=HS.out.r7.cell (k:=1) rfl
   have k2:=HS.out.r7.cell (k:=2) rfl
   obtain⟨⟨d0,d1,d2⟩,df⟩:=ez HS.out.fr HHI.out
   try simp only at d0 d1 d2
   have df0:=df (i*3)
   have df1:=df (i*3+1)
   have df2:=df (i*3+2)
   clear df
   go_upto_region 28 with(fail)
   have HT:=aa (HS.out.put N.out HHI.out)
   clear k0 k1 k2 d0 d1 d2 df0 df1 df2 HS
   obtain⟨Wp,hWp⟩:∃V,((W.setCell ⟨Gf,i*3,none⟩ (.int .i64 P)).setCell ⟨Gf,i*3+1,none⟩ (.int .i64 S)).setCell ⟨Gf,i*3+2,none⟩ (.slice (some ⟨Gc,0,none⟩) m cc)=V:=⟨_,rfl⟩
   rw[hWp] at HT⊢
   clear hWp
   have hCp:=aa HT.out.C
   go_wp2_with fail
   refine(a6 g 10 _ hCp (by omega) (by omega)).mono ?_
   rintro e Wq ⟨v2,rfl,-,-,hCq,hGq,-⟩
   have HU:=aa (HT.out.stay N.out hCq hGq)
   clear HT hCp hCq hGq
   by_cases h9:v2=9
   ·have b9:(v2==9)=true:=by simpa using h9
    clear h9
    have hCu:=aa HU.out.C
    have rt0:=HU.out.rt.cell (k:=0) rfl
    have rt0f:=HU.out.rt.free 0
    go_wp2_with fail
    refine(dE g _ hCu).mono ?_
    rintro e Wr ⟨a2,rfl,hCr,hGr⟩
    have HV:=aa (HU.out.stay N.out hCr hGr)
    clear HU hCu hCr hGr rt0 rt0f
    have rt0:=HV.out.rt.cell (k:=0) rfl
    have rt0f:=HV.out.rt.free 0
    go_upto_region 30 with(fail)
    have HZ:=aa (HV.out.al N.out a2)
    obtain⟨Ws,hWs⟩:∃V,Wr.setCell ⟨w.heap.size,0,none⟩ (.int .i64 a2)=V:=⟨_,rfl⟩
    rw[hWs] at HZ⊢
    clear hWs HV rt0 rt0f
    have rt0:=HZ.out.rt.cell (k:=0) rfl
    have v0:=HZ.out.rr.cell (k:=0) rfl
    have v1:=HZ.out.rr.cell (k:=1) rfl
    have z0:=HZ.out.rr.free 0
    have z1:=HZ.out.rr.free 1
    go_wp2_with fail
    have RF:=(HZ.out.rr.set_ 0 (.int .i64 a2)).set_ 1 (.slice (some ⟨Gf,0,none⟩) n c8)
    have PO:=HZ.out.fin N.out H.out hlo hlw hn2 (fun hg=>by first|exact HIQ.out hg|exact(HIQ.out hg).take _|exact(HIQ.out hg).set _ ((HIQ.out hg) x (List.mem_of_getElem? HX.out))|exact(HIQ.out hg).set _ htb)
    obtain⟨Wt,hWt⟩:∃V,(Ws.setCell ⟨w.heap.size+1,0,none⟩ (.int .i64 a2)).setCell ⟨w.heap.size+1,1,none⟩ (.slice (some ⟨Gf,0,none⟩) n c8)=V:=⟨_,rfl⟩
    rw[hWt] at RF PO⊢
    have u0:=RF.cell (k:=0) rfl
    have u1:=RF.cell (k:=1) rfl
    exact bodyPost_ret (v:=tv a2 (some ⟨Gf,0,none⟩) n c8) (by simp[results,Tryz.results6,go_sem,u0,u1]) rfl PO
   ·have b9:(v2==9)=false:=by simpa using h9
    clear h9
    have rt0:=HU.out.rt.cell (k:=0) rfl
    have v0:=HU.out.rr.cell (k:=0) rfl
    have v1:=HU.out.rr.cell (k:=1) rfl
    have z0:=HU.out.rr.free 0
    have z1:=HU.out.rr.free 1
    go_wp2_with fail
    have RF:=(HU.out.rr.set_ 0 (.int .i64 Al)).set_ 1 (.slice (some ⟨Gf,0,none⟩) n c8)
    have PO:=HU.out.fin N.out H.out hlo hlw hn2 (fun hg=>by first|exact HIQ.out hg|exact(HIQ.out hg).take _|exact(HIQ.out hg).set _ ((HIQ.out hg) x (List.mem_of_getElem? HX.out))|exact(HIQ.out hg).set _ htb)
    obtain⟨Wt,hWt⟩:∃V,(Wq.setCell ⟨w.heap.size+1,0,none⟩ (.int .i64 Al)).setCell ⟨w.heap.size+1,1,none⟩ (.slice (some ⟨Gf,0,none⟩) n c8)=V:=⟨_,rfl⟩
    rw[hWt] at RF PO⊢
    have u0:=RF.cell (k:=0) rfl
    have u1:=RF.cell (k:=1) rfl
    exact bodyPost_ret (v:=tv Al (some ⟨Gf,0,none⟩) n c8) (by simp[results,Tryz.results6,go_sem,u0,u1]) rfl PO
 ·go_upto_region 16 with(fail)
  have HPD:=aa (HP.out.draw N.out 1)
  have HCD:=aa HPD.out.C
  have cn:=fun W (hc:Hid (ar W g))=>dE g W hc
  have CN:=aa cn
  clear cn
  go_region_law
   (first
    | (go_simp;go_at_call 16;refine(CN.out W9.drew HCD).mono ?_;rintro e w5 ⟨t,rfl,hC5,hG5⟩;have hp5:=HPD.out.stay N.out hC5 hG5;have hcc5:=(dX hp5.own HX.out).1;have hff5:=(dX hp5.own HX.out).2 (k*5+3);obtain⟨hq0,hq1,hq2,hq3,hq4⟩:=hcc5;have kk2:=hp5.r7.cell (k:=2) rfl))
  all_goals
   have HS:=aa (hp5.code N.out (k*5+3) (.int .i64 (t)) (AZ HX.out (t)) (by rw[List.length_set]))
   clear hp5 hq0 hq1 hq2 hq3 hq4 hff5 kk2 hC5 hG5 k0 k1 k2
   go_upto_region 27 with(fail)
   obtain⟨W,hW⟩:∃V,w5.setCell ⟨Gc,k*5+3,none⟩ (.int .i64 (t))=V:=⟨_,rfl⟩
   rw[hW] at HS⊢
   clear hW
   have k0:=HS.out.r7.cell (k:=0) rfl
   have k1:=HS.out.r7.cell (k:=1) rfl
   have k2:=HS.out.r7.cell (k:=2) rfl
   obtain⟨⟨d0,d1,d2⟩,df⟩:=ez HS.out.fr HHI.out
   try simp only at d0 d1 d2
   have df0:=df (i*3)
   have df1:=df (i*3+1)
   have df2:=df (i*3+2)
   clear df
   go_upto_region 28 with(fail)
   have HT:=aa (HS.out.put N.out HHI.out)
   clear k0 k1 k2 d0 d1 d2 df0 df1 df2 HS
   obtain⟨Wp,hWp⟩:∃V,((W.setCell ⟨Gf,i*3,none⟩ (.int .i64 P)).setCell ⟨Gf,i*3+1,none⟩ (.int .i64 S)).setCell ⟨Gf,i*3+2,none⟩ (.slice (some ⟨Gc,0,none⟩) m cc)=V:=⟨_,rfl⟩
   rw[hWp] at HT⊢
   clear hWp
   have hCp:=aa HT.out.C
   go_wp2_with fail
   refine(a6 g 10 _ hCp (by omega) (by omega)).mono ?_
   rintro e Wq ⟨v2,rfl,-,-,hCq,hGq,-⟩
   have HU:=aa (HT.out.stay N.out hCq hGq)
   clear HT hCp hCq hGq
   by_cases h9:v2=9
   ·have b9:(v2==9)=true:=by simpa using h9
    clear h9
    have hCu:=aa HU.out.C
    have rt0:=HU.out.rt.cell (k:=0) rfl
    have rt0f:=HU.out.rt.free 0
    go_wp2_with fail
    refine(dE g _ hCu).mono ?_
    rintro e Wr ⟨a2,rfl,hCr,hGr⟩
    have HV:=aa (HU.out.stay N.out hCr hGr)
    clear HU hCu hCr hGr rt0 rt0f
    have rt0:=HV.out.rt.cell (k:=0) rfl
    have rt0f:=HV.out.rt.free 0
    go_upto_region 30 with(fail)
    have HZ:=aa (HV.out.al N.out a2)
    obtain⟨Ws,hWs⟩:∃V,Wr.setCell ⟨w.heap.size,0,none⟩ (.int .i64 a2)=V:=⟨_,rfl⟩
    rw[hWs] at HZ⊢
    clear hWs HV rt0 rt0f
    have rt0:=HZ.out.rt.cell (k:=0) rfl
    have v0:=HZ.out.rr.cell (k:=0) rfl
    have v1:=HZ.out.rr.cell (k:=1) rfl
    have z0:=HZ.out.rr.free 0
    have z1:=HZ.out.rr.free 1
    go_wp2_with fail
    have RF:=(HZ.out.rr.set_ 0 (.int .i64 a2)).set_ 1 (.slice (some ⟨Gf,0,none⟩) n c8)
    have PO:=HZ.out.fin N.out H.out hlo hlw hn2 (fun hg=>by first|exact HIQ.out hg|exact(HIQ.out hg).take _|exact(HIQ.out hg).set _ ((HIQ.out hg) x (List.mem_of_getElem? HX.out))|exact(HIQ.out hg).set _ htb)
    obtain⟨Wt,hWt⟩:∃V,(Ws.setCell ⟨w.heap.size+1,0,none⟩ (.int .i64 a2)).setCell ⟨w.heap.size+1,1,none⟩ (.slice (some ⟨Gf,0,none⟩) n c8)=V:=⟨_,rfl⟩
    rw[hWt] at RF PO⊢
    have u0:=RF.cell (k:=0) rfl
    have u1:=RF.cell (k:=1) rfl
    exact bodyPost_ret (v:=tv a2 (some ⟨Gf,0,none⟩) n c8) (by simp[results,Tryz.results6,go_sem,u0,u1]) rfl PO
   ·have b9:(v2==9)=false:=by simpa using h9
    clear h9
    have rt0:=HU.out.rt.cell (k:=0) rfl
    have v0:=HU.out.rr.cell (k:=0) rfl
    have v1:=HU.out.rr.cell (k:=1) rfl
    have z0:=HU.out.rr.free 0
    have z1:=HU.out.rr.free 1
    go_wp2_with fail
    have RF:=(HU.out.rr.set_ 0 (.int .i64 Al)).set_ 1 (.slice (some ⟨Gf,0,none⟩) n c8)
    have PO:=HU.out.fin N.out H.out hlo hlw hn2 (fun hg=>by first|exact HIQ.out hg|exact(HIQ.out hg).take _|exact(HIQ.out hg).set _ ((HIQ.out hg) x (List.mem_of_getElem? HX.out))|exact(HIQ.out hg).set _ htb)
    obtain⟨Wt,hWt⟩:∃V,(Wq.setCell ⟨w.heap.size+1,0,none⟩ (.int .i64 Al)).setCell ⟨w.heap.size+1,1,none⟩ (.slice (some ⟨Gf,0,none⟩) n c8)=V:=⟨_,rfl⟩
    rw[hWt] at RF PO⊢
    have u0:=RF.cell (k:=0) rfl
    have u1:=RF.cell (k:=1) rfl
    exact bodyPost_ret (v:=tv Al (some ⟨Gf,0,none⟩) n c8) (by simp[results,Tryz.results6,go_sem,u0,u1]) rfl PO
 ·go_upto_region 18 with(fail)
  have HPD:=aa (HP.out.draw N.out 1)
  have HCD:=aa HPD.out.C
  have cn:=fun W (hc:Hid (ar W g))=>iR g W hc
  have CN:=aa cn
  clear cn
  go_region_law
   (first
    | (go_simp;go_at_call 17;refine(CN.out W9.drew HCD).mono ?_;rintro e w5 ⟨t,rfl,htb,hC5,hG5,-⟩;have hp5:=HPD.out.stay N.out hC5 hG5;have hcc5:=(dX hp5.own HX.out).1;have hff5:=(dX hp5.own HX.out).2 (k*5+4);obtain⟨hq0,hq1,hq2,hq3,hq4⟩:=hcc5;have kk2:=hp5.r7.cell (k:=2) rfl))
  all_goals
   have HS:=aa (hp5.code N.out (k*5+4) (.int .u64 (t)) (AY HX.out (t)) (by rw[List.length_set]))
   clear hp5 hq0 hq1 hq2 hq3 hq4 hff5 kk2 hC5 hG5 k0 k1 k2
   go_upto_region 27 with(fail)
   obtain⟨W,hW⟩:∃V,w5.setCell ⟨Gc,k*5+4,none⟩ (.int .u64 (t))=V:=⟨_,rfl⟩
   rw[hW] at HS⊢
   clear hW
   have k0:=HS.out.r7.cell (k:=0) rfl
   have k1:=HS.out.r7.cell (k:=1) rfl
   have k2:=HS.out.r7.cell (k:=2) rfl
   obtain⟨⟨d0,d1,d2⟩,df⟩:=ez HS.out.fr HHI.out
   try simp only at d0 d1 d2
   have df0:=df (i*3)
   have df1:=df (i*3+1)
   have df2:=df (i*3+2)
   clear df
   go_upto_region 28 with(fail)
   have HT:=aa (HS.out.put N.out HHI.out)
   clear k0 k1 k2 d0 d1 d2 df0 df1 df2 HS
   obtain⟨Wp,hWp⟩:∃V,((W.setCell ⟨Gf,i*3,none⟩ (.int .i64 P)).setCell ⟨Gf,i*3+1,none⟩ (.int .i64 S)).setCell ⟨Gf,i*3+2,none⟩ (.slice (some ⟨Gc,0,none⟩) m cc)=V:=⟨_,rfl⟩
   rw[hWp] at HT⊢
   clear hWp
   have hCp:=aa HT.out.C
   go_wp2_with fail
   refine(a6 g 10 _ hCp (by omega) (by omega)).mono ?_
   rintro e Wq ⟨v2,rfl,-,-,hCq,hGq,-⟩
   have HU:=aa (HT.out.stay N.out hCq hGq)
   clear HT hCp hCq hGq
   by_cases h9:v2=9
   ·have b9:(v2==9)=true:=by simpa using h9
    clear h9
    have hCu:=aa HU.out.C
    have rt0:=HU.out.rt.cell (k:=0) rfl
    have rt0f:=HU.out.rt.free 0
    go_wp2_with fail
    refine(dE g _ hCu).mono ?_
    rintro e Wr ⟨a2,rfl,hCr,hGr⟩
    have HV:=aa (HU.out.stay N.out hCr hGr)
    clear HU hCu hCr hGr rt0 rt0f
    have rt0:=HV.out.rt.cell (k:=0) rfl
    have rt0f:=HV.out.rt.free 0
    go_upto_region 30 with(fail)
    have HZ:=aa (HV.out.al N.out a2)
    obtain⟨Ws,hWs⟩:∃V,Wr.setCell ⟨w.heap.size,0,none⟩ (.int .i64 a2)=V:=⟨_,rfl⟩
    rw[hWs] at HZ⊢
    clear hWs HV rt0 rt0f
    have rt0:=HZ.out.rt.cell (k:=0) rfl
    have v0:=HZ.out.rr.cell (k:=0) rfl
    have v1:=HZ.out.rr.cell (k:=1) rfl
    have z0:=HZ.out.rr.free 0
    have z1:=HZ.out.rr.free 1
    go_wp2_with fail
    have RF:=(HZ.out.rr.set_ 0 (.int .i64 a2)).set_ 1 (.slice (some ⟨Gf,0,none⟩) n c8)
    have PO:=HZ.out.fin N.out H.out hlo hlw hn2 (fun hg=>by first|exact HIQ.out hg|exact(HIQ.out hg).take _|exact(HIQ.out hg).set _ ((HIQ.out hg) x (List.mem_of_getElem? HX.out))|exact(HIQ.out hg).set _ htb)
    obtain⟨Wt,hWt⟩:∃V,(Ws.setCell ⟨w.heap.size+1,0,none⟩ (.int .i64 a2)).setCell ⟨w.heap.size+1,1,none⟩ (.slice (some ⟨Gf,0,none⟩) n c8)=V:=⟨_,rfl⟩
    rw[hWt] at RF PO⊢
    have u0:=RF.cell (k:=0) rfl
    have u1:=RF.cell (k:=1) rfl
    exact bodyPost_ret (v:=tv a2 (some ⟨Gf,0,none⟩) n c8) (by simp[results,Tryz.results6,go_sem,u0,u1]) rfl PO
   ·have b9:(v2==9)=false:=by simpa using h9
    clear h9
    have rt0:=HU.out.rt.cell (k:=0) rfl
    have v0:=HU.out.rr.cell (k:=0) rfl
    have v1:=HU.out.rr.cell (k:=1) rfl
    have z0:=HU.out.rr.free 0
    have z1:=HU.out.rr.free 1
    go_wp2_with fail
    have RF:=(HU.out.rr.set_ 0 (.int .i64 Al)).set_ 1 (.slice (some ⟨Gf,0,none⟩) n c8)
    have PO:=HU.out.fin N.out H.out hlo hlw hn2 (fun hg=>by first|exact HIQ.out hg|exact(HIQ.out hg).take _|exact(HIQ.out hg).set _ ((HIQ.out hg) x (List.mem_of_getElem? HX.out))|exact(HIQ.out hg).set _ htb)
    obtain⟨Wt,hWt⟩:∃V,(Wq.setCell ⟨w.heap.size+1,0,none⟩ (.int .i64 Al)).setCell ⟨w.heap.size+1,1,none⟩ (.slice (some ⟨Gf,0,none⟩) n c8)=V:=⟨_,rfl⟩
    rw[hWt] at RF PO⊢
    have u0:=RF.cell (k:=0) rfl
    have u1:=RF.cell (k:=1) rfl
    exact bodyPost_ret (v:=tv Al (some ⟨Gf,0,none⟩) n c8) (by simp[results,Tryz.results6,go_sem,u0,u1]) rfl PO
 ·have HCD:=aa HP.out.C
  go_wp2_with fail
  refine(dE g _ HCD).mono ?_
  rintro e w5 ⟨t,rfl,hC5,hG5⟩
  have hp5:=HP.out.stay N.out hC5 hG5
  have kk:=hp5.r7.cell (k:=0) rfl
  have kf:=hp5.r7.free 0
  have HS:=aa (hp5.s.num0 N.out t)
  clear k0 k1 k2 hp5
  go_upto_region 27 with(fail)
  clear kk kf hC5 hG5
  obtain⟨W,hW⟩:∃V,w5.setCell ⟨g7,0,none⟩ (.int .i64 t)=V:=⟨_,rfl⟩
  rw[hW] at HS⊢
  clear hW
  have k0:=HS.out.r7.cell (k:=0) rfl
  have k1:=HS.out.r7.cell (k:=1) rfl
  have k2:=HS.out.r7.cell (k:=2) rfl
  obtain⟨⟨d0,d1,d2⟩,df⟩:=ez HS.out.fr HHI.out
  try simp only at d0 d1 d2
  have df0:=df (i*3)
  have df1:=df (i*3+1)
  have df2:=df (i*3+2)
  clear df
  go_upto_region 28 with(fail)
  have HT:=aa (HS.out.put N.out HHI.out)
  clear k0 k1 k2 d0 d1 d2 df0 df1 df2 HS
  obtain⟨Wp,hWp⟩:∃V,((W.setCell ⟨Gf,i*3,none⟩ (.int .i64 t)).setCell ⟨Gf,i*3+1,none⟩ (.int .i64 S)).setCell ⟨Gf,i*3+2,none⟩ (.slice (some ⟨Gc,0,none⟩) m cc)=V:=⟨_,rfl⟩
  rw[hWp] at HT⊢
  clear hWp
  have hCp:=aa HT.out.C
  go_wp2_with fail
  refine(a6 g 10 _ hCp (by omega) (by omega)).mono ?_
  rintro e Wq ⟨v2,rfl,-,-,hCq,hGq,-⟩
  have HU:=aa (HT.out.stay N.out hCq hGq)
  clear HT hCp hCq hGq
  by_cases h9:v2=9
  ·have b9:(v2==9)=true:=by simpa using h9
   clear h9
   have hCu:=aa HU.out.C
   have rt0:=HU.out.rt.cell (k:=0) rfl
   have rt0f:=HU.out.rt.free 0
   go_wp2_with fail
   refine(dE g _ hCu).mono ?_
   rintro e Wr ⟨a2,rfl,hCr,hGr⟩
   have HV:=aa (HU.out.stay N.out hCr hGr)
   clear HU hCu hCr hGr rt0 rt0f
   have rt0:=HV.out.rt.cell (k:=0) rfl
   have rt0f:=HV.out.rt.free 0
   go_upto_region 30 with(fail)
   have HZ:=aa (HV.out.al N.out a2)
   obtain⟨Ws,hWs⟩:∃V,Wr.setCell ⟨w.heap.size,0,none⟩ (.int .i64 a2)=V:=⟨_,rfl⟩
   rw[hWs] at HZ⊢
   clear hWs HV rt0 rt0f
   have rt0:=HZ.out.rt.cell (k:=0) rfl
   have v0:=HZ.out.rr.cell (k:=0) rfl
   have v1:=HZ.out.rr.cell (k:=1) rfl
   have z0:=HZ.out.rr.free 0
   have z1:=HZ.out.rr.free 1
   go_wp2_with fail
   have RF:=(HZ.out.rr.set_ 0 (.int .i64 a2)).set_ 1 (.slice (some ⟨Gf,0,none⟩) n c8)
   have PO:=HZ.out.fin N.out H.out hlo hlw hn2 (fun hg=>by first|exact HIQ.out hg|exact(HIQ.out hg).take _|exact(HIQ.out hg).set _ ((HIQ.out hg) x (List.mem_of_getElem? HX.out))|exact(HIQ.out hg).set _ htb)
   obtain⟨Wt,hWt⟩:∃V,(Ws.setCell ⟨w.heap.size+1,0,none⟩ (.int .i64 a2)).setCell ⟨w.heap.size+1,1,none⟩ (.slice (some ⟨Gf,0,none⟩) n c8)=V:=⟨_,rfl⟩
   rw[hWt] at RF PO⊢
   have u0:=RF.cell (k:=0) rfl
   have u1:=RF.cell (k:=1) rfl
   exact bodyPost_ret (v:=tv a2 (some ⟨Gf,0,none⟩) n c8) (by simp[results,Tryz.results6,go_sem,u0,u1]) rfl PO
  ·have b9:(v2==9)=false:=by simpa using h9
   clear h9
   have rt0:=HU.out.rt.cell (k:=0) rfl
   have v0:=HU.out.rr.cell (k:=0) rfl
   have v1:=HU.out.rr.cell (k:=1) rfl
   have z0:=HU.out.rr.free 0
   have z1:=HU.out.rr.free 1
   go_wp2_with fail
   have RF:=(HU.out.rr.set_ 0 (.int .i64 Al)).set_ 1 (.slice (some ⟨Gf,0,none⟩) n c8)
   have PO:=HU.out.fin N.out H.out hlo hlw hn2 (fun hg=>by first|exact HIQ.out hg|exact(HIQ.out hg).take _|exact(HIQ.out hg).set _ ((HIQ.out hg) x (List.mem_of_getElem? HX.out))|exact(HIQ.out hg).set _ htb)
   obtain⟨Wt,hWt⟩:∃V,(Wq.setCell ⟨w.heap.size+1,0,none⟩ (.int .i64 Al)).setCell ⟨w.heap.size+1,1,none⟩ (.slice (some ⟨Gf,0,none⟩) n c8)=V:=⟨_,rfl⟩
   rw[hWt] at RF PO⊢
   have u0:=RF.cell (k:=0) rfl
   have u1:=RF.cell (k:=1) rfl
   exact bodyPost_ret (v:=tv Al (some ⟨Gf,0,none⟩) n c8) (by simp[results,Tryz.results6,go_sem,u0,u1]) rfl PO
 ·go_upto_region 22 with(fail)
  have HPD:=aa (HP.out.draw N.out 1)
  have HCD:=aa HPD.out.C
  have cn:=fun W (hc:Hid (ar W g))=>a6 g 4 W hc (by omega) (by omega)
  have CN:=aa cn
  clear cn
  go_region_law
   (first
    | (go_simp;go_at_call 7;refine(CN.out W9.drew HCD).mono ?_;rintro e w5 ⟨t,rfl,t0,t1,hC5,hG5,-⟩;have hp5:=HPD.out.stay N.out hC5 hG5;have kk1:=hp5.r7.cell (k:=1) rfl;have kf:=hp5.r7.free 1;have e1:IntKind.i64.wrap (t-2)=t-2:=wrap_i64 _ (by omega) (by omega);have e2:IntKind.i64.wrap (16*(t-2))=16*(t-2):=wrap_i64 _ (by omega) (by omega)))
  all_goals
   have HS:=aa (hp5.s.num1 N.out (IntKind.i64.wrap (S+16*(t-2))))
   clear hp5 kk1 kf hC5 hG5 k0 k1 k2
   go_upto_region 27 with(fail)
   obtain⟨sv,hsv⟩:∃v,IntKind.i64.wrap (S+16*(t-2))=v:=⟨_,rfl⟩
   rw[hsv] at HS⊢
   clear hsv
   obtain⟨W,hW⟩:∃V,w5.setCell ⟨g7,1,none⟩ (.int .i64 sv)=V:=⟨_,rfl⟩
   rw[hW] at HS⊢
   clear hW
   have k0:=HS.out.r7.cell (k:=0) rfl
   have k1:=HS.out.r7.cell (k:=1) rfl
   have k2:=HS.out.r7.cell (k:=2) rfl
   obtain⟨⟨d0,d1,d2⟩,df⟩:=ez HS.out.fr HHI.out
   try simp only at d0 d1 d2
   have df0:=df (i*3)
   have df1:=df (i*3+1)
   have df2:=df (i*3+2)
   clear df
   go_upto_region 28 with(fail)
   have HT:=aa (HS.out.put N.out HHI.out)
   clear k0 k1 k2 d0 d1 d2 df0 df1 df2 HS
   obtain⟨Wp,hWp⟩:∃V,((W.setCell ⟨Gf,i*3,none⟩ (.int .i64 P)).setCell ⟨Gf,i*3+1,none⟩ (.int .i64 sv)).setCell ⟨Gf,i*3+2,none⟩ (.slice (some ⟨Gc,0,none⟩) m cc)=V:=⟨_,rfl⟩
   rw[hWp] at HT⊢
   clear hWp
   have hCp:=aa HT.out.C
   go_wp2_with fail
   refine(a6 g 10 _ hCp (by omega) (by omega)).mono ?_
   rintro e Wq ⟨v2,rfl,-,-,hCq,hGq,-⟩
   have HU:=aa (HT.out.stay N.out hCq hGq)
   clear HT hCp hCq hGq
   by_cases h9:v2=9
   ·have b9:(v2==9)=true:=by simpa using h9
    clear h9
    have hCu:=aa HU.out.C
    have rt0:=HU.out.rt.cell (k:=0) rfl
    have rt0f:=HU.out.rt.free 0
    go_wp2_with fail
    refine(dE g _ hCu).mono ?_
    rintro e Wr ⟨a2,rfl,hCr,hGr⟩
    have HV:=aa (HU.out.stay N.out hCr hGr)
    clear HU hCu hCr hGr rt0 rt0f
    have rt0:=HV.out.rt.cell (k:=0) rfl
    have rt0f:=HV.out.rt.free 0
    go_upto_region 30 with(fail)
    have HZ:=aa (HV.out.al N.out a2)
    obtain⟨Ws,hWs⟩:∃V,Wr.setCell ⟨w.heap.size,0,none⟩ (.int .i64 a2)=V:=⟨_,rfl⟩
    rw[hWs] at HZ⊢
    clear hWs HV rt0 rt0f
    have rt0:=HZ.out.rt.cell (k:=0) rfl
    have v0:=HZ.out.rr.cell (k:=0) rfl
    have v1:=HZ.out.rr.cell (k:=1) rfl
    have z0:=HZ.out.rr.free 0
    have z1:=HZ.out.rr.free 1
    go_wp2_with fail
    have RF:=(HZ.out.rr.set_ 0 (.int .i64 a2)).set_ 1 (.slice (some ⟨Gf,0,none⟩) n c8)
    have PO:=HZ.out.fin N.out H.out hlo hlw hn2 (fun hg=>by first|exact HIQ.out hg|exact(HIQ.out hg).take _|exact(HIQ.out hg).set _ ((HIQ.out hg) x (List.mem_of_getElem? HX.out))|exact(HIQ.out hg).set _ htb)
    obtain⟨Wt,hWt⟩:∃V,(Ws.setCell ⟨w.heap.size+1,0,none⟩ (.int .i64 a2)).setCell ⟨w.heap.size+1,1,none⟩ (.slice (some ⟨Gf,0,none⟩) n c8)=V:=⟨_,rfl⟩
    rw[hWt] at RF PO⊢
    have u0:=RF.cell (k:=0) rfl
    have u1:=RF.cell (k:=1) rfl
    exact bodyPost_ret (v:=tv a2 (some ⟨Gf,0,none⟩) n c8) (by simp[results,Tryz.results6,go_sem,u0,u1]) rfl PO
   ·have b9:(v2==9)=false:=by simpa using h9
    clear h9
    have rt0:=HU.out.rt.cell (k:=0) rfl
    have v0:=HU.out.rr.cell (k:=0) rfl
    have v1:=HU.out.rr.cell (k:=1) rfl
    have z0:=HU.out.rr.free 0
    have z1:=HU.out.rr.free 1
    go_wp2_with fail
    have RF:=(HU.out.rr.set_ 0 (.int .i64 Al)).set_ 1 (.slice (some ⟨Gf,0,none⟩) n c8)
    have PO:=HU.out.fin N.out H.out hlo hlw hn2 (fun hg=>by first|exact HIQ.out hg|exact(HIQ.out hg).take _|exact(HIQ.out hg).set _ ((HIQ.out hg) x (List.mem_of_getElem? HX.out))|exact(HIQ.out hg).set _ htb)
    obtain⟨Wt,hWt⟩:∃V,(Wq.setCell ⟨w.heap.size+1,0,none⟩ (.int .i64 Al)).setCell ⟨w.heap.size+1,1,none⟩ (.slice (some ⟨Gf,0,none⟩) n c8)=V:=⟨_,rfl⟩
    rw[hWt] at RF PO⊢
    have u0:=RF.cell (k:=0) rfl
    have u1:=RF.cell (k:=1) rfl
    exact bodyPost_ret (v:=tv Al (some ⟨Gf,0,none⟩) n c8) (by simp[results,Tryz.results6,go_sem,u0,u1]) rfl PO
 ·have kf:=HP.out.r7.free 2
  have HS:=aa (HP.out.s.cut N.out (k:=k) (by omega))
  have hkcc:k<=cc:=by omega
  go_upto_region 27 with(fail)
  clear k0 k1 k2 kf
  obtain⟨W,hW⟩:∃V,W9.setCell ⟨g7,2,none⟩ (.slice (some ⟨Gc,0,none⟩) k cc)=V:=⟨_,rfl⟩
  rw[hW] at HS⊢
  clear hW
  have k0:=HS.out.r7.cell (k:=0) rfl
  have k1:=HS.out.r7.cell (k:=1) rfl
  have k2:=HS.out.r7.cell (k:=2) rfl
  obtain⟨⟨d0,d1,d2⟩,df⟩:=ez HS.out.fr HHI.out
  try simp only at d0 d1 d2
  have df0:=df (i*3)
  have df1:=df (i*3+1)
  have df2:=df (i*3+2)
  clear df
  go_upto_region 28 with(fail)
  have HT:=aa (HS.out.put N.out HHI.out)
  clear k0 k1 k2 d0 d1 d2 df0 df1 df2 HS
  obtain⟨Wp,hWp⟩:∃V,((W.setCell ⟨Gf,i*3,none⟩ (.int .i64 P)).setCell ⟨Gf,i*3+1,none⟩ (.int .i64 S)).setCell ⟨Gf,i*3+2,none⟩ (.slice (some ⟨Gc,0,none⟩) k cc)=V:=⟨_,rfl⟩
  rw[hWp] at HT⊢
  clear hWp
  have hCp:=aa HT.out.C
  go_wp2_with fail
  refine(a6 g 10 _ hCp (by omega) (by omega)).mono ?_
  rintro e Wq ⟨v2,rfl,-,-,hCq,hGq,-⟩
  have HU:=aa (HT.out.stay N.out hCq hGq)
  clear HT hCp hCq hGq
  by_cases h9:v2=9
  ·have b9:(v2==9)=true:=by simpa using h9
   clear h9
   have hCu:=aa HU.out.C
   have rt0:=HU.out.rt.cell (k:=0) rfl
   have rt0f:=HU.out.rt.free 0
   go_wp2_with fail
   refine(dE g _ hCu).mono ?_
   rintro e Wr ⟨a2,rfl,hCr,hGr⟩
   have HV:=aa (HU.out.stay N.out hCr hGr)
   clear HU hCu hCr hGr rt0 rt0f
   have rt0:=HV.out.rt.cell (k:=0) rfl
   have rt0f:=HV.out.rt.free 0
   go_upto_region 30 with(fail)
   have HZ:=aa (HV.out.al N.out a2)
   obtain⟨Ws,hWs⟩:∃V,Wr.setCell ⟨w.heap.size,0,none⟩ (.int .i64 a2)=V:=⟨_,rfl⟩
   rw[hWs] at HZ⊢
   clear hWs HV rt0 rt0f
   have rt0:=HZ.out.rt.cell (k:=0) rfl
   have v0:=HZ.out.rr.cell (k:=0) rfl
   have v1:=HZ.out.rr.cell (k:=1) rfl
   have z0:=HZ.out.rr.free 0
   have z1:=HZ.out.rr.free 1
   go_wp2_with fail
   have RF:=(HZ.out.rr.set_ 0 (.int .i64 a2)).set_ 1 (.slice (some ⟨Gf,0,none⟩) n c8)
   have PO:=HZ.out.fin N.out H.out hlo hlw hn2 (fun hg=>by first|exact HIQ.out hg|exact(HIQ.out hg).take _|exact(HIQ.out hg).set _ ((HIQ.out hg) x (List.mem_of_getElem? HX.out))|exact(HIQ.out hg).set _ htb)
   obtain⟨Wt,hWt⟩:∃V,(Ws.setCell ⟨w.heap.size+1,0,none⟩ (.int .i64 a2)).setCell ⟨w.heap.size+1,1,none⟩ (.slice (some ⟨Gf,0,none⟩) n c8)=V:=⟨_,rfl⟩
   rw[hWt] at RF PO⊢
   have u0:=RF.cell (k:=0) rfl
   have u1:=RF.cell (k:=1) rfl
   exact bodyPost_ret (v:=tv a2 (some ⟨Gf,0,none⟩) n c8) (by simp[results,Tryz.results6,go_sem,u0,u1]) rfl PO
  ·have b9:(v2==9)=false:=by simpa using h9
   clear h9
   have rt0:=HU.out.rt.cell (k:=0) rfl
   have v0:=HU.out.rr.cell (k:=0) rfl
   have v1:=HU.out.rr.cell (k:=1) rfl
   have z0:=HU.out.rr.free 0
   have z1:=HU.out.rr.free 1
   go_wp2_with fail
   have RF:=(HU.out.rr.set_ 0 (.int .i64 Al)).set_ 1 (.slice (some ⟨Gf,0,none⟩) n c8)
   have PO:=HU.out.fin N.out H.out hlo hlw hn2 (fun hg=>by first|exact HIQ.out hg|exact(HIQ.out hg).take _|exact(HIQ.out hg).set _ ((HIQ.out hg) x (List.mem_of_getElem? HX.out))|exact(HIQ.out hg).set _ htb)
   obtain⟨Wt,hWt⟩:∃V,(Wq.setCell ⟨w.heap.size+1,0,none⟩ (.int .i64 Al)).setCell ⟨w.heap.size+1,1,none⟩ (.slice (some ⟨Gf,0,none⟩) n c8)=V:=⟨_,rfl⟩
   rw[hWt] at RF PO⊢
   have u0:=RF.cell (k:=0) rfl
   have u1:=RF.cell (k:=1) rfl
   exact bodyPost_ret (v:=tv Al (some ⟨Gf,0,none⟩) n c8) (by simp[results,Tryz.results6,go_sem,u0,u1]) rfl PO
 ·have HCD:=aa HP.out.C
  go_wp2_with fail
  refine(dE g _ HCD).mono ?_
  rintro e w5 ⟨t,rfl,hC5,hG5⟩
  have hp5:=HP.out.stay N.out hC5 hG5
  have kk:=hp5.r7.cell (k:=1) rfl
  have kf:=hp5.r7.free 1
  have HS:=aa (hp5.s.num1 N.out t)
  clear k0 k1 k2 hp5
  go_upto_region 27 with(fail)
  clear kk kf hC5 hG5
  obtain⟨W,hW⟩:∃V,w5.setCell ⟨g7,1,none⟩ (.int .i64 t)=V:=⟨_,rfl⟩
  rw[hW] at HS⊢
  clear hW
  have k0:=HS.out.r7.cell (k:=0) rfl
  have k1:=HS.out.r7.cell (k:=1) rfl
  have k2:=HS.out.r7.cell (k:=2) rfl
  obtain⟨⟨d0,d1,d2⟩,df⟩:=ez HS.out.fr HHI.out
  try simp only at d0 d1 d2
  have df0:=df (i*3)
  have df1:=df (i*3+1)
  have df2:=df (i*3+2)
  clear df
  go_upto_region 28 with(fail)
  have HT:=aa (HS.out.put N.out HHI.out)
  clear k0 k1 k2 d0 d1 d2 df0 df1 df2 HS
  obtain⟨Wp,hWp⟩:∃V,((W.setCell ⟨Gf,i*3,none⟩ (.int .i64 P)).setCell ⟨Gf,i*3+1,none⟩ (.int .i64 t)).setCell ⟨Gf,i*3+2,none⟩ (.slice (some ⟨Gc,0,none⟩) m cc)=V:=⟨_,rfl⟩
  rw[hWp] at HT⊢
  clear hWp
  have hCp:=aa HT.out.C
  go_wp2_with fail
  refine(a6 g 10 _ hCp (by omega) (by omega)).mono ?_
  rintro e Wq ⟨v2,rfl,-,-,hCq,hGq,-⟩
  have HU:=aa (HT.out.stay N.out hCq hGq)
  clear HT hCp hCq hGq
  by_cases h9:v2=9
  ·have b9:(v2==9)=true:=by simpa using h9
   clear h9
   have hCu:=aa HU.out.C
   have rt0:=HU.out.rt.cell (k:=0) rfl
   have rt0f:=HU.out.rt.free 0
   go_wp2_with fail
   refine(dE g _ hCu).mono ?_
   rintro e Wr ⟨a2,rfl,hCr,hGr⟩
   have HV:=aa (HU.out.stay N.out hCr hGr)
   clear HU hCu hCr hGr rt0 rt0f
   have rt0:=HV.out.rt.cell (k:=0) rfl
   have rt0f:=HV.out.rt.free 0
   go_upto_region 30 with(fail)
   have HZ:=aa (HV.out.al N.out a2)
   obtain⟨Ws,hWs⟩:∃V,Wr.setCell ⟨w.heap.size,0,none⟩ (.int .i64 a2)=V:=⟨_,rfl⟩
   rw[hWs] at HZ⊢
   clear hWs HV rt0 rt0f
   have rt0:=HZ.out.rt.cell (k:=0) rfl
   have v0:=HZ.out.rr.cell (k:=0) rfl
   have v1:=HZ.out.rr.cell (k:=1) rfl
   have z0:=HZ.out.rr.free 0
   have z1:=HZ.out.rr.free 1
   go_wp2_with fail
   have RF:=(HZ.out.rr.set_ 0 (.int .i64 a2)).set_ 1 (.slice (some ⟨Gf,0,none⟩) n c8)
   have PO:=HZ.out.fin N.out H.out hlo hlw hn2 (fun hg=>by first|exact HIQ.out hg|exact(HIQ.out hg).take _|exact(HIQ.out hg).set _ ((HIQ.out hg) x (List.mem_of_getElem? HX.out))|exact(HIQ.out hg).set _ htb)
   obtain⟨Wt,hWt⟩:∃V,(Ws.setCell ⟨w.heap.size+1,0,none⟩ (.int .i64 a2)).setCell ⟨w.heap.size+1,1,none⟩ (.slice (some ⟨Gf,0,none⟩) n c8)=V:=⟨_,rfl⟩
   rw[hWt] at RF PO⊢
   have u0:=RF.cell (k:=0) rfl
   have u1:=RF.cell (k:=1) rfl
   exact bodyPost_ret (v:=tv a2 (some ⟨Gf,0,none⟩) n c8) (by simp[results,Tryz.results6,go_sem,u0,u1]) rfl PO
  ·have b9:(v2==9)=false:=by simpa using h9
   clear h9
   have rt0:=HU.out.rt.cell (k:=0) rfl
   have v0:=HU.out.rr.cell (k:=0) rfl
   have v1:=HU.out.rr.cell (k:=1) rfl
   have z0:=HU.out.rr.free 0
   have z1:=HU.out.rr.free 1
   go_wp2_with fail
   have RF:=(HU.out.rr.set_ 0 (.int .i64 Al)).set_ 1 (.slice (some ⟨Gf,0,none⟩) n c8)
   have PO:=HU.out.fin N.out H.out hlo hlw hn2 (fun hg=>by first|exact HIQ.out hg|exact(HIQ.out hg).take _|exact(HIQ.out hg).set _ ((HIQ.out hg) x (List.mem_of_getElem? HX.out))|exact(HIQ.out hg).set _ htb)
   obtain⟨Wt,hWt⟩:∃V,(Wq.setCell ⟨w.heap.size+1,0,none⟩ (.int .i64 Al)).setCell ⟨w.heap.size+1,1,none⟩ (.slice (some ⟨Gf,0,none⟩) n c8)=V:=⟨_,rfl⟩
   rw[hWt] at RF PO⊢
   have u0:=RF.cell (k:=0) rfl
   have u1:=RF.cell (k:=1) rfl
   exact bodyPost_ret (v:=tv Al (some ⟨Gf,0,none⟩) n c8) (by simp[results,Tryz.results6,go_sem,u0,u1]) rfl PO
end Go.Proofs.YtjbgepjdohfhkaaGreat
