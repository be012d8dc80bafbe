import Derived.Test.YtjnbhiamaabbgaaGreatDoorM10
set_option linter.all false
set_option maxRecDepth 100000
set_option maxHeartbeats 8000000
namespace Go.Proofs.YtjnbhiamaabbgaaGreatDoor
open Bool renaming false->bK,true->bL
open Go renaming Goroutine->aS,MapEntry->aK,Oper->aD,Program->aV,execOp->bG,stepG->aZ,undef->bJ,unwind->aI
open Go.Conc renaming Deaf_other->aG,stepG_region_end->bB,stepG_seq->aO
open Go.Frame renaming enter->bF
open Go.GStep renaming after->bA
open Go.MemAct renaming touch?->aR
open Go.Proofs.Tryz renaming prog->bM
open Go.Region renaming wanted->aX
open Go.World renaming cell?->aQ,setCell->aF
open Go.stepG renaming apply->bH
open Option renaming none->bN,some->bO
open _root_.Array renaming replicate->aW
namespace A
open Go Go.Conc Go.RowKit Go.Conc.Lib
variable [pn:Pn] [py:Go.ConcR.Payload]
section
variable {o:aD} {a:Act} {w:Zy}
noncomputable def Va:Array aD:=match vF with| .seq _ (.seq (.region _ ops _) _)=>ops|_=>#[]
section
variable {Lb Bd:Nat} {bs ls:Int} {cp:Nat} {E:Event->Prop}
def El(hw:IntKind.i64.wrap (ls-bs)=(cp:Int))(hop:o.op= .binOp .sub 3 (.tmp 10) (.tmp 14) 3)(h:a.eval (.tmp 10)=zi ls)(c:a.eval (.tmp 14)=zi bs):Ox E a o (zi cp) w:=by
 constructor
 ·unfold bG;simp only[hop,h,c];simp[go_sem,hw]
 intro e d;have b:=mem_listed d;unfold bG at b;simp only[hop,h,c]at b;simp[go_sem,hw]at b
def E3:(((Tryz.prog.info? 248).getD default).bytes:Int)=24:=by kernel_rfl
abbrev mQ(cp:Nat):Obj:= .chan cp #[] bK 0 0 bK
abbrev lQ(v:Zv):Obj:= .cells #[v] 235
def xue(g:cp<=1000000000)(hop:o.op=Op.makeChan 235 (Operand.tmp 15))(b:a.eval (.tmp 15)=zi cp)(w:Zy):(bG a.eval o).run bM w= .ok (.value<|.chan<|bO w.heap.size) (w.alloc<|mQ cp)/\DE E w (w.alloc<|mQ cp) (listed bM 106 a o w):=by
 have f:=E3;have d:=run_makeChan (w:=w) Tryz.underlying235 (by kernel_rfl) .i64 cp (by omega) (by rw[f];omega);have i:=events_makeChan (w:=w) Tryz.underlying235 (by kernel_rfl) .i64 cp (by omega) (by rw[f];omega) #[];constructor;unfold bG;simp only[hop,b];simp[d];intro e h;have c:=mem_listed h;unfold bG at c;simp only[hop,b]at c;simp[d,i,Xr]at c
def xrx(hop:o.op=Op.alloc 235)(w:Zy):(bG a.eval o).run bM w= .ok (.value<|zo w.heap.size) (w.alloc<|lQ<|.chan bN)/\DE E w (w.alloc<|lQ<|.chan bN) (listed bM 106 a o w):=by
 constructor
 ·unfold bG
  simp only[hop];simp[go_sem]
 intro e c;have b:=mem_listed c;unfold bG at b;simp only[hop]at b;simp[go_sem]at b
def Ei{C Bs:Nat}(h:E ⟨.cell<|zq Bs 0,bL,bK⟩)(hop:o.op=Op.store 235 (Operand.tmp 4) (Operand.tmp 16))(d:a.eval (.tmp 4)=zo Bs)(b:a.eval (.tmp 16)= .chan (bO C))(f:w.cell? (zq Bs 0)=bO (.chan bN))(g:w.frozen? (zq Bs 0)=bK):
  (bG a.eval o).run bM w= .ok .skip (w.setCell (zq Bs 0)<|.chan<|bO C)/\DE E w (w.setCell (zq Bs 0)<|.chan<|bO C) (listed bM 106 a o w):=by
 constructor
 ·unfold bG
  simp only[hop,d,b];simp[go_sem,stored,f,g]
 intro e i;have c:=mem_listed i;unfold bG at c;simp only[hop,d,b]at c;simp[go_sem,storedEv,f,g]at c;subst c;exact h
def UN(N:Nat)(y:Zv):Nat->Zv
 |3|5|7=> .chan (bO N)
 |6|8=> .chan (bO<|N+1)
 |_=>y
def bx1(N:Nat)(y:Zv):Nat->Zv
 |1|4|6|8=>zo N
 |5|7=>zo<|N+1
 |_=>y
def w1(w₀:Zy)(cp:Nat):Nat->Zy
 |1|4=>w₀.alloc<|lQ<|.chan bN
 |3=>w₀.alloc<|mQ cp
 |5=>(w₀.alloc<|mQ cp).alloc<|lQ<|.chan bN
 |6=>(w₀.alloc<|lQ<|.chan bN).alloc<|mQ cp
 |7=>((w₀.alloc<|mQ cp).alloc<|lQ<|.chan bN).setCell (zq (w₀.heap.size+1) 0)<|.chan<|bO w₀.heap.size
 |8=>((w₀.alloc<|lQ<|.chan bN).alloc<|mQ cp).setCell (zq w₀.heap.size 0)<|.chan<|bO<|w₀.heap.size+1
 |_=>w₀
def n1:Nat->Nat
 |0=>0|1=>1|2=>1|3=>2|4=>2|5=>3|6=>3|_=>4
abbrev l1(p q c:Nat):Array Bool:=#[decide (1<=p),decide (2<=p),decide (3<=p),decide (4<=p),decide (1<=q),decide (2<=q),decide (3<=q),decide (4<=q),decide (2<=c),decide (c=3\/5<=c),decide (c=1\/4<=c),decide (7<=c)]
def VB(p:Nat)(f:p<5)(q:Nat)(g:q<5)(c:Nat)(b:c<9)(a:2<=c->p=4/\q=4):(Region.ready .any Va (l1 p q c)=[]->7<=c)/\(7<=c->Region.ready .any Va (l1 p q c)=[])/\∀i∈Region.ready .any Va (l1 p q c),(p=i/\p<4)\/(i=q+4/\q<4)\/(i=8/\(c=0\/c=1)/\p=4/\q=4)\/(i=9/\(c=2\/c=4))\/(i=10/\(c=0\/c=2\/c=3))\/(i=11/\(c=5\/c=6)):=by
 have h:∀(p q:_root_.Fin 5) (c:_root_.Fin 9),(decide (2<=c.val/\¬(p.val=4/\q.val=4))||((Region.ready .any Va<|l1 p q c).isEmpty==decide (7<=c.val))&&(Region.ready .any Va<|l1 p q c).all fun i=>decide ((p.val=i/\p.val<4)\/(i=q+4/\q.val<4)\/(i=8/\(c.val=0\/c.val=1)/\p.val=4/\q.val=4)\/(i=9/\(c.val=2\/c.val=4))\/(i=10/\(c.val=0\/c.val=2\/c.val=3))\/(i=11/\(c.val=5\/c.val=6))))=bL:=by decide+kernel
 have:=h ⟨p,f⟩ ⟨q,g⟩ ⟨c,b⟩;rw[Yk,xl,PY,Ju]at this;rcases this with h|⟨h,k⟩
 exact absurd (a (Xj h).1) (Xj h).2;exact⟨fun e=>(by rw[e]at h;exact Xj h.symm),fun e=>List.isEmpty_iff.mp<|h.trans<|decide_eq_true e,fun i d=>Xj<|k i d⟩
def xt8:∀c<9,n1 c<=4/\(n1 c=4->7<=c):=by decide
def SL.w1(h:SL Lb bs ls w)(c:Nat):SL Lb bs ls<|w1 w cp c:=by
 have b:Lb<w.heap.size:=Wb h.base;have a:∀{w:Zy} (o:Obj),SL Lb bs ls w->SL Lb bs ls (w.alloc o):=fun {w} o h=>by
  have b:Lb<w.heap.size:=Wb h.base;exact⟨(Zm<|qy _ _ _ b).trans h.base,(Zm<|qy _ _ _ b).trans h.last⟩
 have st:∀{w:Zy} (x:Addr) (v:Zv),x.block≠Lb->SL Lb bs ls w->SL Lb bs ls (w.setCell x v):=fun {w} x v d h=>
  ⟨(Zm<|(aside_setCell w x v).block Lb fun e=>d<|by rw[e]).trans h.base,(Zm<|(aside_setCell w x v).block Lb fun e=>d<|by rw[e]).trans h.last⟩
 unfold A.w1;split;exact a _ h;exact a _ h;exact a _ h;exact a _<|a _ h;exact a _<|a _ h;exact st _ _ (by simp;omega)<|a _<|a _ h;exact st _ _ (by simp;omega)<|a _<|a _ h;exact h
section
variable (y1 y2 y4 y5 y6 y7 y8 y9 nY y11 y12 y13 y14 y15 y16 y17 y18 y19 y20 y21 y22 y23 y24 y25 y26 y27 y28 y29 y30 y31 y32 gV y34:Value) (ds:List Deferred)
def PE(Lb Bd:Nat)(bs ls:Int)(cp N p q c:Nat):Act:=⟨#[zo Lb,y1,y2,zo Bd,(bx1 N y4 c),y5,y6,(if 1<=p then zo Lb else y7),(if 2<=p then zo Lb else y8),(if 3<=p then zk Lb 12 else y9),(if 4<=p then zi ls else nY),(if 1<=q then zo Lb else y11),(if 2<=q then zo Lb else y12),(if 3<=q then zk Lb 11 else y13),(if 4<=q then zi bs else y14),(if 2<=c then zi cp else y15),(UN N y16 c),y17,y18,y19,y20,y21,y22,y23,y24,y25,y26,y27,y28,y29,y30,y31,y32,gV,y34],ds⟩
def I1(Lb Bd:Nat)(bs ls:Int)(cp:Nat)(w₀:Zy)(m:Nat)(l:Array Bool)(a:Act)(w:Zy):Prop:=
 ∃p q c:Nat,p<5/\q<5/\c<9/\(2<=c->p=4/\q=4)/\l=l1 p q c/\m+(p+q+n1 c)=12/\a=PE y1 y2 y4 y5 y6 y7 y8 y9 nY y11 y12 y13 y14 y15 y16 y17 y18 y19 y20 y21 y22 y23 y24 y25 y26 y27 y28 y29 y30 y31 y32 gV y34 ds Lb Bd bs ls cp w₀.heap.size p q c/\∃d,w=(w1 w₀ cp c).at d
end
end
section
variable {Lb Bd:Nat} {bs ls:Int} {cp:Nat} {E:Event->Prop}
def Ej(c:cp<=1000000000)(hop:o.op= .makeChan 235 (.tmp 15))(b:a.eval (.tmp 15)=zi cp){N:Nat}(d:w.heap.size=N):(bG a.eval o).run bM w= .ok (.value<|.chan<|bO N) (w.alloc<|mQ cp)/\DE E w (w.alloc<|mQ cp) (listed bM 106 a o w):=by
 subst d;exact xue c hop b w
def M9(hop:o.op= .alloc 235){N:Nat}(b:w.heap.size=N):(bG a.eval o).run bM w= .ok (.value<|zo N) (w.alloc<|lQ<|.chan bN)/\DE E w (w.alloc<|lQ<|.chan bN) (listed bM 106 a o w):=by
 subst b;exact xrx hop w
def MZ(w₀:Zy)(o:Obj)(d:Nat):((w₀.alloc o).at d).heap.size=w₀.heap.size+1:=xh _ _
def Fp(w₀:Zy)(d:Nat):(((w₀.alloc<|mQ cp).alloc<|lQ<|.chan bN).at d).cell? (zq (w₀.heap.size+1) 0)=bO (.chan bN)/\(((w₀.alloc<|mQ cp).alloc<|lQ<|.chan bN).at d).frozen? (zq (w₀.heap.size+1) 0)=bK:=by
 have h:(((w₀.alloc<|mQ cp).alloc<|lQ<|.chan bN).at d).heap[w₀.heap.size+1]?=bO (lQ<|.chan bN):=by
  have:=jw (w₀.alloc<|mQ cp)<|lQ<|.chan bN;rw[xh]at this;exact this
 exact⟨by simp[aQ,h],by simp[World.frozen?,h]⟩
def Fq(w₀:Zy)(d:Nat):(((w₀.alloc<|lQ<|.chan bN).alloc<|mQ cp).at d).cell? (zq w₀.heap.size 0)=bO (.chan bN)/\(((w₀.alloc<|lQ<|.chan bN).alloc<|mQ cp).at d).frozen? (zq w₀.heap.size 0)=bK:=by
 have h:(((w₀.alloc<|lQ<|.chan bN).alloc<|mQ cp).at d).heap[w₀.heap.size]?=bO (lQ<|.chan bN):=
  (qy _ _ _<|by rw[xh];omega).trans (jw w₀ _)
 exact⟨by simp[aQ,h],by simp[World.frozen?,h]⟩
def I0(M:∀x:Addr,x.block=Lb->E ⟨.cell x,bK,bK⟩)(hw:IntKind.i64.wrap (ls-bs)=(cp:Int))(z:cp<=1000000000){k:List Item}{cs:List Zf}{Stop:Zg->Zy->Prop}{n:Nat}{y1 y2 y4 y5 y6 y7 y8 y9 nY y11 y12 y13 y14 y15 y16 y17 y18 y19 y20 y21 y22 y23 y24 y25 y26 y27 y28 y29 y30 y31 y32 gV y34:Zv}{ds:List Deferred}{w₀:Zy}
  (y:∀x:Addr,w₀.heap.size<=x.block->x.block<w₀.heap.size+2->E ⟨.cell x,bL,bK⟩)(Q:SL Lb bs ls w₀)
  (f:∀c,c=7\/c=8->∀d,Goes bM bL AtRel (DE E) Stop n (G ((base 106).at (PE y1 y2 y4 y5 y6 y7 y8 y9 nY y11 y12 y13 y14 y15 y16 y17 y18 y19 y20 y21 y22 y23 y24 y25 y26 y27 y28 y29 y30 y31 y32 gV y34 ds Lb Bd bs ls cp w₀.heap.size 4 4 c) (.inRegion Va []::k)) cs)<|(w1 w₀ cp c).at d):
  Goes bM bL AtRel (DE E) Stop (n+12+1) (G ((base 106).at ⟨#[zo Lb,y1,y2,zo Bd,y4,y5,y6,y7,y8,y9,nY,y11,y12,y13,y14,y15,y16,y17,y18,y19,y20,y21,y22,y23,y24,y25,y26,y27,y28,y29,y30,y31,y32,gV,y34],ds⟩ (.code (.region 1 Va bL)::k)) cs) w₀:=by
 refine zt4 (I:=I1 y1 y2 y4 y5 y6 y7 y8 y9 nY y11 y12 y13 y14 y15 y16 y17 y18 y19 y20 y21 y22 y23 y24 y25 y26 y27 y28 y29 y30 y31 y32 gV y34 ds Lb Bd bs ls cp w₀) Bu (by kernel_rfl) ?_ ?_ ?_ ?_ ?_ ?_;rintro m l a w g ⟨p,q,c,r,b,j,s,H,J,F,d,rfl⟩ ⟨O,rfl⟩;exact⟨p,q,c,r,b,j,s,H,J,F,O,rfl⟩;rintro m l a w ⟨p,q,c,r,b,j,s,H,J,F,d,rfl⟩;exact⟨p,q,c,r,b,j,s,H,J,F,d+1,rfl⟩;rintro m l a w ⟨p,q,c,B,C,t,b,rfl,e,rfl,d,rfl⟩ T;have F:=(VB p B q C c t b).1 T;obtain⟨rfl,rfl⟩:=b (by omega);exact f c (by omega) d;rintro l a w ⟨p,q,c,B,C,t,b,rfl,e,rfl,d,rfl⟩;have S:=xt8 c t;exact(VB p B q C c t b).2.1 (S.2<|by omega);rintro m l a w ⟨p,q,c,B,C,t,b,rfl,e,rfl,d,rfl⟩ i R;have N:∀c,SL Lb bs ls<|(w1 w₀ cp c).at d:=fun c=>(Q.w1 c).at ⟨d,rfl⟩;have V:∀(d op) {a:Act} {v w g} {K:Act->Zy->Prop},(Va[i]?.map fun o=>(o.guard.isNone,o.dst,o.op))=bO (bL,d,op)->(∀o,o.op=op->(bG a.eval o).run bM w= .ok (.value v) g/\DE E w g (listed bM 106 a o w))->K (a.put d v) g->vL bM bL (DE E) (base 106) k cs Va i a w K:=by
  intro d op a v w g K h D L;obtain⟨o,r,rfl,j,s⟩:=CZ.get h;exact vL.value (by decide) r (s _) (D o j).1 (D o j).2 L
 have U:∀(d op) {a:Act} {w g} {K:Act->Zy->Prop},(Va[i]?.map fun o=>(o.guard.isNone,o.dst,o.op))=bO (bL,d,op)->(∀o,o.op=op->(bG a.eval o).run bM w= .ok .skip g/\DE E w g (listed bM 106 a o w))->K (a.put d bJ) g->vL bM bL (DE E) (base 106) k cs Va i a w K:=by
  intro d op a w g K h D L;obtain⟨o,r,rfl,j,s⟩:=CZ.get h;exact vL.none (by decide) r (s _) (D o j).1 (D o j).2 L
 clear f;rcases(VB p B q C c t b).2.2 i R with⟨rfl,h⟩|⟨rfl,h⟩|⟨rfl,h,rfl,rfl⟩|⟨rfl,h⟩|⟨rfl,h⟩|⟨rfl,h⟩
 obtain rfl|rfl|rfl|rfl:p=0\/p=1\/p=2\/p=3:=by omega
 exact V (bO 7) (.move<|.tmp 0) (by kernel_rfl) (fun o h=>OH h rfl) ⟨1,q,c,by omega,by omega,by omega,by omega,rfl,by omega,rfl,d,rfl⟩;exact V (bO 8) (.nilCheck<|.tmp 7) (by kernel_rfl) (fun o h=>OJ h rfl) ⟨2,q,c,by omega,by omega,by omega,by omega,rfl,by omega,rfl,d,rfl⟩;exact V (bO 9) (.fieldAddr 122 (.tmp 8) 8) (by kernel_rfl) (fun o h=>OD (.inr rfl) h rfl) ⟨3,q,c,by omega,by omega,by omega,by omega,rfl,by omega,rfl,d,rfl⟩;exact V (bO 10) (.load 3<|.tmp 9) (by kernel_rfl) (fun o h=>OG M h rfl (N c).last) ⟨4,q,c,by omega,by omega,by omega,by omega,rfl,by omega,rfl,d,rfl⟩;obtain rfl|rfl|rfl|rfl:q=0\/q=1\/q=2\/q=3:=by omega
 exact V (bO 11) (.move<|.tmp 0) (by kernel_rfl) (fun o h=>OH h rfl) ⟨p,1,c,by omega,by omega,by omega,by omega,rfl,by omega,rfl,d,rfl⟩;exact V (bO 12) (.nilCheck<|.tmp 11) (by kernel_rfl) (fun o h=>OJ h rfl) ⟨p,2,c,by omega,by omega,by omega,by omega,rfl,by omega,rfl,d,rfl⟩;exact V (bO 13) (.fieldAddr 122 (.tmp 12) 7) (by kernel_rfl) (fun o h=>OD (.inl rfl) h rfl) ⟨p,3,c,by omega,by omega,by omega,by omega,rfl,by omega,rfl,d,rfl⟩;exact V (bO 14) (.load 3<|.tmp 13) (by kernel_rfl) (fun o h=>OG M h rfl (N c).base) ⟨p,4,c,by omega,by omega,by omega,by omega,rfl,by omega,rfl,d,rfl⟩;rcases h with rfl|rfl
 exact V (bO 15) _ (by kernel_rfl) (fun o h=>El hw h rfl rfl) ⟨4,4,2,by omega,by omega,by omega,by omega,rfl,by simp[n1]at e⊢;omega,rfl,d,rfl⟩;exact V (bO 15) _ (by kernel_rfl) (fun o h=>El hw h rfl rfl) ⟨4,4,4,by omega,by omega,by omega,by omega,rfl,by simp[n1]at e⊢;omega,rfl,d,rfl⟩;obtain⟨rfl,rfl⟩:=b (by omega);rcases h with rfl|rfl
 exact V (bO 16) _ (by kernel_rfl) (fun o h=>Ej z h rfl rfl) ⟨4,4,3,by omega,by omega,by omega,by omega,rfl,by simp[n1]at e⊢;omega,rfl,d,rfl⟩;exact V (bO 16) _ (by kernel_rfl) (fun o h=>Ej z h rfl<|MZ w₀ _ d) ⟨4,4,6,by omega,by omega,by omega,by omega,rfl,by simp[n1]at e⊢;omega,rfl,d,rfl⟩;rcases h with rfl|rfl|rfl
 exact V (bO 4) _ (by kernel_rfl) (fun o h=>M9 h rfl) ⟨p,q,1,by omega,by omega,by omega,by omega,rfl,by simp[n1]at e⊢;omega,rfl,d,rfl⟩;exact V (bO 4) _ (by kernel_rfl) (fun o h=>M9 h rfl) ⟨p,q,4,by omega,by omega,by omega,by omega,rfl,by simp[n1]at e⊢;omega,rfl,d,rfl⟩;exact V (bO 4) _ (by kernel_rfl) (fun o h=>M9 h<|MZ w₀ _ d) ⟨p,q,5,by omega,by omega,by omega,by omega,rfl,by simp[n1]at e⊢;omega,rfl,d,rfl⟩;obtain⟨rfl,rfl⟩:=b (by omega);rcases h with rfl|rfl
 exact U bN _ (by kernel_rfl) (fun o h=>Ei (y _ (by simp)<|by simp) h rfl rfl (Fp w₀ d).1 (Fp w₀ d).2) ⟨4,4,7,by omega,by omega,by omega,by omega,rfl,by simp[n1]at e⊢;omega,rfl,d,rfl⟩;exact U bN _ (by kernel_rfl) (fun o h=>Ei (y _ (by simp)<|by simp) h rfl rfl (Fq w₀ d).1 (Fq w₀ d).2) ⟨4,4,8,by omega,by omega,by omega,by omega,rfl,by simp[n1]at e⊢;omega,rfl,d,rfl⟩;exact⟨0,0,0,by decide,by decide,by decide,by decide,rfl,rfl,rfl,w₀.drawn,rfl⟩
end
section
variable {P:aV} {E:Event->Prop} {Stop:aS->World->Prop} {m:Nat} {b:Frame} {a:Act} {k:List Item} {cs:List Frame} {w w':World}
def Lg(P:Zp)(E:Event->Prop)(Stop:Zg->Zy->Prop)(m:Nat)(g:Zg)(w:Zy):Prop:=∀d,Goes P bL AtRel (DE E) Stop m g<|w.at d
theorem Lg.ctl{g g':Zg}(f:g.status= .running)(h:∀w,aZ P bL g w= .go g' w)(c:Lg P E Stop m g' w):Lg P E Stop (m+1) g w:=fun d=>Goes.step f fun j i=>by
 obtain⟨a,rfl⟩:=i;rw[h];exact⟨fun e b=>by simp at b,c a⟩
def Lg.value{ops:Array aD}{i:Nat}{rest:List Nat}{op:aD}(v:Zv)(ho:ops[i]?=bO op)(hw:aX op (yielded ops a.tmps)=bL)(hk:b.kind≠ .early)
  (j:∀d,(bG a.eval op).run P (w.at d)= .ok (.value v) (w'.at d))(f:∀d,∀e∈(bG a.eval op).events P (w.at d) #[],E e)
  (g:Lg P E Stop m (G (b.at (a.put op.dst v) (.inRegion ops rest::k)) cs) w'):Lg P E Stop (m+1) (G (b.at a (.inRegion ops (i::rest)::k)) cs) w:=fun d=>Goes.step rfl fun n l=>by
 obtain⟨c,rfl⟩:=l;change(aZ P bL _<|w.at c).goes _;rw[stepG_value (w':=w'.at c) ho hw hk<|j c];exact⟨fun e h=>f c e<|mem_listed h,g c⟩
end
noncomputable def K1:=Qb<|Qb vF
noncomputable def K5:=Qn 4 K1
abbrev wN:Obj:= .cells #[.int .u64 0,zu 0] 245
section
variable {Lb Bd Bs C Wg:Nat} {bs ls:Int} {cp X0:Nat} [Go.ConcX.Shy Wg Bd] {Stop:aS->World->Prop}
def H5(s:∀x:Addr,x.block=Lb->Go.ConcX.EvS Wg Bd ⟨.cell x,bK,bK⟩)(hw:IntKind.i64.wrap (bs+1)=bs+1){cs:List Zf}{y1 y2 y5 y6 y17 y18 y19 y20 y21 y22 y23 y24 y25 y26 y27 y28 y29 y30 y31 y32 gV y34:Zv}{wB:Zy}(q:wB.heap.size=Wg)(h:SL Lb bs ls wB)
  (b:∀d,Stop (G ((base 106).at ⟨#[zo Lb,y1,y2,zo Bd,zo Bs,zo Wg,y6,zo Lb,zo Lb,zk Lb 12,zi ls,zo Lb,zo Lb,zk Lb 11,zi bs,zi cp,.chan<|bO C,.tuple #[],.func (.func 169) #[] #[zo Wg,zo Bs,zo Bd],zo Lb,zo Lb,zk Lb 11,zi bs,zi<|bs+1,zo Lb,zo Lb,zk Lb 12,zi ls,y28,y29,y30,y31,y32,gV,y34],[dcall 167 #[zo Wg]]⟩ [.inRegion nO [10],.code K5]) cs)<|((wB.alloc wN).setCell (zq Wg 0)<|.int .u64 4294967296).at d):
  Lg bM (Go.ConcX.EvS Wg Bd) (Go.ConcX.AtMkS bM .disable fun a w=>∃n,Goes bM bL AtRel (DE<|Go.ConcX.EvS Wg Bd) (Go.ConcX.AtMkS bM .enable fun a w=>∃n,Goes bM bL AtRel (DE<|Go.ConcX.EvS Wg Bd) Stop n a w) n a w) 24
   (G ((base 106).at ⟨#[zo Lb,y1,y2,zo Bd,zo Bs,y5,y6,zo Lb,zo Lb,zk Lb 12,zi ls,zo Lb,zo Lb,zk Lb 11,zi bs,zi cp,.chan<|bO C,y17,y18,y19,y20,y21,y22,y23,y24,y25,y26,y27,y28,y29,y30,y31,y32,gV,y34],[]⟩ [.inRegion Va [],.code K1]) cs) wB:=by
 have f:Lb<wB.heap.size:=Wb h.base;have i:SL Lb bs ls<|(wB.alloc wN).setCell (zq Wg 0)<|.int .u64 4294967296:=by
  have p:SL Lb bs ls<|wB.alloc wN:=⟨(Zm<|qy _ _ _ f).trans h.base,(Zm<|qy _ _ _ f).trans h.last⟩;exact⟨(Zm<|(aside_setCell _ _ _).block Lb<|by simp;omega).trans p.base,(Zm<|(aside_setCell _ _ _).block Lb<|by simp;omega).trans p.last⟩
 have m:(wB.alloc wN).heap[Wg]?=bO wN:=by subst q;exact jw _ _
 simp only[K1,vF,Tryz.f106,jv];refine Lg.ctl rfl (fun _=>bB) ?_;refine Lg.ctl rfl (fun _=>aO) ?_;refine Lg.ctl rfl (fun _=>stepG_region) ?_;refine Lg.value (w':=wB.alloc wN) (zo Wg) rfl rfl (by decide) (fun d=>by subst q;simp[bG,go_sem];exact⟨rfl,rfl⟩) (fun d e j=>by simp[bG,go_sem]at j) ?_
 walk_nrm
 refine Lg.ctl rfl (fun _=>bB) ?_;refine Lg.ctl rfl (fun _=>aO) ?_;refine Lg.ctl rfl (fun _=>stepG_region) ?_;refine Lg.ctl rfl (fun _=>stepG_defer rfl rfl (by decide) rfl) ?_
 walk_nrm
 refine Lg.ctl rfl (fun _=>bB) ?_;refine Lg.ctl rfl (fun _=>aO) ?_;refine Lg.ctl rfl (fun _=>stepG_region) ?_;intro d;refine Goes.step rfl fun z t=>?_;obtain⟨o,rfl⟩:=t;refine goes_call (c:=Go.ConcX.Gen.body_add ED) rfl rfl (by decide) rfl Tryz.func168 (by kernel_rfl) rfl ⟨fun e j=>by simp at j, ?_⟩
 walk_nrmf Tryz.f168
 refine Goes.mono (Go.ConcX.Gen.addPos (mT:=14) OM _ m ?_) (by omega);change Goes _ _ _ _ _ 14 _ (((wB.alloc wN).setCell (zq Wg 0)<|.int .u64 4294967296).at o)
 walk_nrm
 revert o;change Lg _ _ _ 14 _ ((wB.alloc wN).setCell (zq Wg 0)<|.int .u64 4294967296);refine Lg.ctl rfl (fun _=>bB) ?_;refine Lg.ctl rfl (fun _=>aO) ?_;intro d;refine S5 (n:=0) (k:=[.code K5]) s hw (fun w' l=>?_)<|i.at ⟨d,rfl⟩;refine Goes.stop fun v g=>?_;obtain⟨y,rfl⟩:=l;obtain⟨r,rfl⟩:=g;exact b r
end
noncomputable def pF(Lb D Bd Bs C Wg:Nat)(bs ls:Int)(cp:Nat):Act:=⟨#[zo Lb,zo D,bJ,zo Bd,zo Bs,zo Wg,bJ,zo Lb,zo Lb,zk Lb 12,zi ls,zo Lb,zo Lb,zk Lb 11,zi bs,zi cp,.chan<|bO C,.tuple #[],.func (.func 169) #[] #[zo Wg,zo Bs,zo Bd],zo Lb,zo Lb,zk Lb 11,zi bs,zi<|bs+1,zo Lb,zo Lb,zk Lb 12,zi ls,bJ,bJ,bJ,bJ,bJ,bJ,bJ],[dcall 167 #[zo Wg]]⟩
abbrev nT(D:Nat):Obj:= .cells #[zo D] 76
def eH(w₀:Zy)(D cp c:Nat):Zy:=((w1 (w₀.alloc<|nT D) cp c).alloc wN).setCell (zq (w₀.heap.size+3) 0)<|.int .u64 4294967296
def gF(N c:Nat):Nat:=if c=7 then N+1 else N+2
def iD(N c:Nat):Nat:=if c=7 then N+2 else N+1
def RO(w:Zy)(cp:Nat){c:Nat}(a:c=7\/c=8):(w1 w cp c).heap.size=w.heap.size+2:=by
 have b:∀(w:Zy) (x:Addr) (v:Zv),(w.setCell x v).heap.size=w.heap.size:=fun w x v=>by
  unfold aF;split<;>simp
 rcases a with rfl|rfl<;>simp[w1,b,xh]
section
variable {Lb D:Nat} {bs ls:Int} {cp:Nat} {w₀:World} [Go.ConcX.Shy (w₀.heap.size+3) w₀.heap.size] {Stop:aS->World->Prop} {cs:List Frame}
def Hp(r:∀x:Addr,x.block=Lb->Go.ConcX.EvS (w₀.heap.size+3) w₀.heap.size ⟨.cell x,bK,bK⟩)(l:∀x:Addr,w₀.heap.size+1<=x.block->x.block<w₀.heap.size+3->Go.ConcX.EvS (w₀.heap.size+3) w₀.heap.size ⟨.cell x,bL,bK⟩)
  (hw:IntKind.i64.wrap (ls-bs)=(cp:Int))(p:cp<=1000000000)(q:IntKind.i64.wrap (bs+1)=bs+1)(m:SL Lb bs ls w₀)
  (f:∀c,c=7\/c=8->∀d,Stop (G ((base 106).at (pF Lb D w₀.heap.size (iD w₀.heap.size c) (gF w₀.heap.size c) (w₀.heap.size+3) bs ls cp) [.inRegion nO [10],.code K5]) cs)<|(eH w₀ D cp c).at d):
  Lg bM (Go.ConcX.EvS (w₀.heap.size+3) w₀.heap.size) (Go.ConcX.AtMkS bM .disable fun a w=>∃n,Goes bM bL AtRel (DE<|Go.ConcX.EvS (w₀.heap.size+3) w₀.heap.size) (Go.ConcX.AtMkS bM .enable fun a w=>∃n,Goes bM bL AtRel (DE<|Go.ConcX.EvS (w₀.heap.size+3) w₀.heap.size) Stop n a w) n a w) 42
   (G ((base 106).at ⟨#[zo Lb,zo D,bJ,bJ,bJ,bJ,bJ,bJ,bJ,bJ,bJ,bJ,bJ,bJ,bJ,bJ,bJ,bJ,bJ,bJ,bJ,bJ,bJ,bJ,bJ,bJ,bJ,bJ,bJ,bJ,bJ,bJ,bJ,bJ,bJ],[]⟩ [.code vF]) cs) w₀:=by
 have i:Lb<w₀.heap.size:=Wb m.base;have h:SL Lb bs ls<|w₀.alloc<|nT D:=⟨(Zm<|qy _ _ _ i).trans m.base,(Zm<|qy _ _ _ i).trans m.last⟩;have g:(w₀.alloc<|nT D).heap.size=w₀.heap.size+1:=xh _ _;have y:vF= .seq (.region 0 #[{dst:=bO 3,op:=Op.box 76<|Operand.tmp 1,type:=0,pos:= "look.go:75",after:=#[],guard:=bN}] bK) (.seq (.region 1 Va bL) K1):=by kernel_rfl
 rw[y];refine Lg.ctl rfl (fun _=>aO) ?_
 (refine Lg.ctl rfl (fun _=>stepG_region) ?_;simp only[jg,zh,jn,Nat.reduceAdd,jy,List.range,List.range.loop])
 refine Lg.value (w':=w₀.alloc<|nT D) (zo w₀.heap.size) rfl rfl (by decide) (fun d=>by simp[bG,go_sem];exact⟨rfl,rfl⟩) (fun d e B=>by simp[bG,go_sem]at B) ?_
 walk_nrm
 refine Lg.ctl rfl (fun _=>bB) ?_;refine Lg.ctl rfl (fun _=>aO) ?_;intro d;refine Goes.mono (I0 (n:=24) (w₀:=(w₀.alloc<|nT D).at d) (k:=[.code K1]) r hw p (fun x t v=>l x (by rw[<-g];exact t)<|by have j:x.block<(w₀.alloc<|nT D).heap.size+2:=v;rw[g]at j;omega) (h.at ⟨d,rfl⟩) ?_) (by omega);intro c o s;have z:(w1 (w₀.alloc<|nT D) cp c).heap.size=w₀.heap.size+3:=by rw[RO _ _ o,g]
 have b:=H5 (Lb:=Lb) (Bd:=w₀.heap.size) (Bs:=iD w₀.heap.size c) (C:=gF w₀.heap.size c) (Wg:=w₀.heap.size+3) (bs:=bs) (ls:=ls) (cp:=cp) (Stop:=Stop) r q (cs:=cs) (y1:=zo D) (y2:=bJ) (y5:=bJ) (y6:=bJ) (y17:=bJ) (y18:=bJ) (y19:=bJ) (y20:=bJ) (y21:=bJ) (y22:=bJ) (y23:=bJ) (y24:=bJ) (y25:=bJ) (y26:=bJ) (y27:=bJ) (y28:=bJ) (y29:=bJ) (y30:=bJ) (y31:=bJ) (y32:=bJ) (gV:=bJ) (y34:=bJ)
  (wB:=w1 (w₀.alloc<|nT D) cp c) z (h.w1 c) (fun d=>f c o d) s
 rcases o with rfl|rfl;simp only[PE,UN,bx1,iD,gF,g,show((w₀.alloc<|nT D).at d).heap.size=w₀.heap.size+1 from g,if_true,ze,Nat.reduceLeDiff,↓reduceIte]at b⊢;exact b;simp only[PE,UN,bx1,iD,gF,g,show((w₀.alloc<|nT D).at d).heap.size=w₀.heap.size+1 from g,if_true,ze,Nat.reduceLeDiff,Nat.reduceEqDiff,↓reduceIte]at b⊢;exact b
end
end
end A
namespace A
open Go Go.Conc
open Go.ConcN (sumTo upd sumTo_upd upd_ne upd_same)
variable [pn:Pn]
section
variable {P:aV} {X X0:Nat->Prop} {Th:Loc->Prop} {Wg C c p B:Nat} {a0:Addr} {T t:Trace}
def Zw(Wg C:Nat)(a:Touch):Prop:=(qX Wg a.loc->a.kind≠ .plain)/\(a.loc= .obj C->a.write=bK)
def TP.uK(h:We X0 B (Zw Wg C) 0 T)(n:∀x,X0 x->X x)(z:¬X0 Wg)(f:∀l,Th l->¬oI X0 l/\¬rZ X0 l)(m:∀l,Th l->l.isMemory=bL):TP X Th Wg C 0 a0 T.size B T:=by
 have s:∀i a,touchAt T i=bO a->Th a.loc->Knows T 0 i:=fun i a c d=>by
  rcases h.known i a c (m _ d)with x|x|x;exact x;exact absurd x.1 (f _ d).1;exact absurd x.1 (f _ d).2
 refine⟨h.clean,fun i a c y=>?_,fun i a c d _=>s i a c d,fun i a c d=> .inl (s i a c d),fun i a c d=>(h.EE i a c).2 d,fun i a c q=>⟨(h.EE i a c).1 q,fun p=>?_⟩,fun i g v j t=> .inl (h.over i g v j t),h.seen,fun i D w=>?_⟩;rcases h.known i a c y with x|⟨⟨b,e,o⟩,hk⟩|⟨⟨r,e,k⟩,hk⟩
 exact .inl x;exact .inr<|.inl ⟨⟨b,e,n _ o⟩,hk⟩;exact .inr<|.inr<|.inr ⟨⟨r,e,n _ k⟩,fun d=>(f _ d).2 ⟨r,e,k⟩,hk⟩;obtain⟨b,e,o⟩:=q;rcases h.known i a c (by rw[e];rfl)with x|⟨⟨b',e',hb'⟩,hk⟩|⟨⟨r,e',k⟩,hk⟩
 exact x;rw[hk]at p;cases p;rw[e]at e';cases e';have:=lt_of_act? w;omega
def Ks{Z:Touch->Prop}{g g' child:Zg}(l:g.status= .running){q:Nat->Nat}{gs:Array Zg}{v:Zy}{sl:Option<|Nat×Nat}(I:gs[0]?=bO g)(C:Leavers P t gs q)(V:We X B Z 0 t)
  (h:∀d,aZ P bL g (v.at d)= .spawn g' child (v.at d) #[]):
  ∃N gs' d sl' t' q' x y,runNT P N (crowd gs v sl) t=(.next<|crowd (gs'.push child) (v.at d) sl',t'++#[x,y])/\gs'[0]?=bO g'/\gs'.size=gs.size/\Leavers P t' gs' q'/\We X B Z 0 t'/\(x.g=0/\x.act= .go gs.size)/\(y.g=gs.size/\y.act= .start):=by
 induction hk:sumTo gs.size q using Nat.strongRecOn generalizing gs q v sl t with
 |_ k ih=>
  have M:∀g∈gs,awake g:=by
   intro c b;obtain⟨i,m,rfl⟩:=Z1.1 b;rcases jl i with rfl|f
   have:gs[0]=g:=by simpa[xg m]using I
   rw[this];exact awake_of<|.inl l;exact awake_of<|(C.old i _ f<|xg m).status.elim .inl fun x=> .inr (.inr x)
  obtain⟨i,c,d,sl',m,b,E⟩:=crowd_pick (P:=P) (w:=v) (sl:=sl) M ⟨0,g,I,l⟩;have p:i<gs.size:=(za.1 m).1;rcases jl i with rfl|f
  obtain rfl:c=g:=by rw[I]at m;exact(jf m).symm
  have a:=runT_crowd_spawn (sl:=sl') m (show aZ P _ c _=_ from h d);refine⟨1,gs.setIfInBounds 0 g',d,sl',t,q,{g:=0,fn:=c.frame.fn,pos:=c.frame.place,act:= .go gs.size},{g:=gs.size,fn:=child.frame.fn,pos:=c.frame.place,act:= .start}, ?_,by simp[p],by simp,⟨fun j z o Y=>?_,fun j o=>C.above j<|by simpa using o⟩,V,⟨rfl,rfl⟩,rfl,rfl⟩;simp only[runNT,E,a];rfl;have r:0≠j:=by omega
  rw[zd r]at Y;exact C.old j z o Y;have J:=C.old i c f m;have O:(i==0)=bK:=by simp;omega
  cases hqi:q i with
  |zero=>rw[hqi]at J;rw[J.1]at b;cases b
  |succ k'=>
   rw[hqi]at J;rcases J with⟨hf,_⟩|⟨_,H,es,hm,F,Q⟩
   rw[hf]at b;cases b;have a:=runT_crowd_go (sl:=sl') m (by rw[O];exact F<|v.at d);have G:((gs.map<|woken P c H<|v.at d).setIfInBounds i H).size=gs.size:=by simp
   have W:sumTo gs.size (upd q i k')+(k'+1)=sumTo gs.size q+k':=by
    have:=sumTo_upd q k' id p;simpa[hqi]using this
   obtain⟨N,L,d2,R,t2,q2,x,y,b1,b2,S,b4,b5,T,U⟩:=ih (sumTo gs.size<|upd q i k') (by omega) (q:=upd q i k') (t:=t++MemOp.ofEvents i c.frame.fn c.frame.place es) (gs:=(gs.map<|woken P c H<|v.at d).setIfInBounds i H) (v:=v.at d) (sl:=sl')
    (by
     have r:i≠0:=by omega
     rw[zd r,jj,I];simp[woken_run l])
    ⟨fun j z o K=>by
     by_cases n:i=j;subst n;rw[zx<|by simpa using p]at K;obtain rfl:=jf K;rw[upd_same,Deaf_own];exact Q;rw[zd n,jj]at K;obtain⟨y,hy,rfl⟩:=zt.1 K;have D:=C.old j y o hy;rw[woken_quitsD D,upd_ne q k'<|Ne.symm n,aG t n _ fun op s=>by obtain⟨e,_,rfl⟩:=zy s;rfl];exact D,fun j o=>by
     rw[aG t (g':=i) (by simp at o;omega) _ fun op s=>by obtain⟨e,_,rfl⟩:=zy s;rfl];exact C.above j<|by simpa using o⟩
    (V.mute (by omega) hm) (fun d'=>h d') (by rw[G])
   rw[G]at S T U;exact⟨1+N,L,d2,R,t2,q2,x,y,ql (by simp only[runNT,E,a]) b1,b2,S,b4,b5,T,U⟩
end
end A
namespace A
open Go Go.Conc Go.RowKit Go.Conc.Lib
variable [pn:Pn] [py:Go.ConcR.Payload]
section
variable {Lb D Bd Bs C Wg:Nat} {bs ls:Int} {cp:Nat} {cs:List Frame}
def MM:aD:={dst:=bN,op:=Op.go {callee:=Callee.value<|Operand.tmp 18,args:=#[Operand.tmp 23,Operand.tmp 27],argTypes:=#[3,3]},type:=0,pos:= "look.go:80",after:=#[{on:=0,ground:=Ground.data},{on:=5,ground:=Ground.data},{on:=9,ground:=Ground.data}],guard:=bN}
def xp5:nO[10]?=bO MM:=by kernel_rfl
def xmx(w:Zy):aZ bM bL (G ((base 106).at (pF Lb D Bd Bs C Wg bs ls cp) [.inRegion nO [10],.code K5]) cs) w= .spawn (G ((base 106).at (pF Lb D Bd Bs C Wg bs ls cp) [.inRegion nO [],.code K5]) cs) (born bM<|za5 Bd Bs Wg (bs+1) ls) w #[]:=by
 have b:(bG (pF Lb D Bd Bs C Wg bs ls cp).eval MM).run bM w= .ok (.spawn<|za5 Bd Bs Wg (bs+1) ls) w:=by
  unfold bG;simp only[MM];simp[pF,Act.eval,go_sem,za5]
 have a:(bG (pF Lb D Bd Bs C Wg bs ls cp).eval MM).events bM w #[]=#[]:=by
  unfold bG;simp only[MM];simp[pF,Act.eval,go_sem]
 rw[stepG_spawn (w':=w) xp5 rfl (by decide) b rfl];unfold listed;rw[a,seen_none];rfl
end
def eX(es:Array aK):∀(k:Nat) (n:Int),(dY es n k).length=k
 |0,_=>rfl
 |k+1,n=>by simp[dY,eX es k]
def uQ(w₀:Zy)(D cp:Nat){c:Nat}(f:c=7\/c=8){r:Nat}(g:r<w₀.heap.size)(d:Nat):((eH w₀ D cp c).at d).heap[r]?=w₀.heap[r]?:=by
 have a:∀(w:Zy) (o:Obj) {r:Nat},r<w.heap.size->(w.alloc o).heap[r]?=w.heap[r]?:=fun w o r h=>qy _ _ _ h;have b:(w₀.alloc<|nT D).heap.size=w₀.heap.size+1:=xh _ _;have e:(w1 (w₀.alloc<|nT D) cp c).heap[r]?=w₀.heap[r]?:=by
  rcases f with rfl|rfl;simp only[w1];rw[(aside_setCell _ _ _).block r<|by simp;omega,a _ _<|by simp only[xh];omega,a _ _<|by rw[b];omega,a _ _ g];simp only[w1];rw[(aside_setCell _ _ _).block r<|by simp;omega,a _ _<|by simp only[xh];omega,a _ _<|by rw[b];omega,a _ _ g]
 show(eH w₀ D cp c).heap[r]?=_;unfold eH;rw[(aside_setCell _ _ _).block r<|by simp;omega,a _ _<|by rw[RO _ _ f,b];omega,e]
def D9(w₀:Zy)(D cp:Nat){c:Nat}(a:c=7\/c=8)(d:Nat):((eH w₀ D cp c).at d).heap.size=w₀.heap.size+4:=by
 have b:∀(w:Zy) (x:Addr) (v:Zv),(w.setCell x v).heap.size=w.heap.size:=fun w x v=>by
  unfold aF;split<;>simp
 show(eH w₀ D cp c).heap.size=_;unfold eH;rw[b,xh,RO _ _ a,xh]
def L_(w₀:Zy)(D cp:Nat){c:Nat}(k:c=7\/c=8)(d:Nat):((eH w₀ D cp c).at d).heap[w₀.heap.size]?=bO (nT D)/\((eH w₀ D cp c).at d).heap[gF w₀.heap.size c]?=bO (mQ cp)/\
  ((eH w₀ D cp c).at d).heap[iD w₀.heap.size c]?=bO (lQ<|.chan<|bO<|gF w₀.heap.size c)/\((eH w₀ D cp c).at d).heap[w₀.heap.size+3]?=bO (.cells #[.int .u64 4294967296,zu 0] 245):=by
 show(eH w₀ D cp c).heap[w₀.heap.size]?=_/\(eH w₀ D cp c).heap[gF w₀.heap.size c]?=_/\(eH w₀ D cp c).heap[iD w₀.heap.size c]?=_/\(eH w₀ D cp c).heap[w₀.heap.size+3]?=_;have n1:w₀.heap.size≠w₀.heap.size+1:=by omega
 have j:∀(w:Zy) (o:Obj) {r:Nat},r<w.heap.size->(w.alloc o).heap[r]?=w.heap[r]?:=fun w o r h=>qy _ _ _ h;have i:∀(w:Zy) (o:Obj) {r:Nat},w.heap.size=r->(w.alloc o).heap[r]?=bO o:=fun w o r h=>by subst h;exact jw _ _
 have f:∀(w:Zy) (x:Addr) (v:Zv) {r:Nat},x.block≠r->(w.setCell x v).heap[r]?=w.heap[r]?:=fun w x v r h=>(aside_setCell w x v).block r fun e=>h e.symm;have st:∀(w:Zy) (r:Nat) (v:Zv) (l:Za) (e:Zt),w.heap[r]?=bO (.cells l e (0,0))->(w.setCell (zq r 0) v).heap[r]?=bO (.cells (l.setIfInBounds 0 v) e (0,0)):=fun w r v l e h=>by
  unfold aF;simp only;rw[modify_eq_set _ _ _ _ h];simp[(za.1 h).1]
 have a:(w₀.alloc<|nT D).heap.size=w₀.heap.size+1:=xh _ _;have g:=RO (w₀.alloc<|nT D) cp k;rw[a]at g;have b:∀{r:Nat},r<w₀.heap.size+3->(eH w₀ D cp c).heap[r]?=(w1 (w₀.alloc<|nT D) cp c).heap[r]?:=fun {r} h=>by
  unfold eH;rw[f _ _ _<|by simp;omega,j _ _<|by rw[g];omega]
 refine⟨?_, ?_, ?_, ?_⟩;rw[b<|by omega];rcases k with rfl|rfl<;>simp only[w1]<;>rw[f _ _ _<|by simp only[a];omega,j _ _<|by simp only[xh];omega,j _ _<|by simp only[xh];omega,i _ _ rfl]
 rcases k with rfl|rfl;rw[show gF w₀.heap.size 7=w₀.heap.size+1 from rfl,b<|by omega];simp only[w1];rw[f _ _ _<|by simp only[a];omega,j _ _<|by simp only[xh];omega,i _ _ a];rw[show gF w₀.heap.size 8=w₀.heap.size+2 from rfl,b<|by omega];simp only[w1];rw[f _ _ _<|by simp only[a];omega,i _ _<|by simp only[xh]];rcases k with rfl|rfl;rw[show iD w₀.heap.size 7=w₀.heap.size+2 from rfl,show gF w₀.heap.size 7=w₀.heap.size+1 from rfl,b<|by omega];simp only[w1,a];exact st _ _ _ _ _ (i _ _<|by simp only[xh]);rw[show iD w₀.heap.size 8=w₀.heap.size+1 from rfl,show gF w₀.heap.size 8=w₀.heap.size+2 from rfl,b<|by omega];simp only[w1,a];exact st _ _ _ _ _<|(j _ _<|by simp only[xh];omega).trans<|i _ _ a;unfold eH;exact st _ _ _ _ _<|i _ _ g
section
variable {X:Nat->Prop} {gs:Array aS} {v:World} {sl:Option<|Nat×Nat} {t:Trace} {k:Nat×Nat} {Lb D M clock:Nat} {es:Array aK} {rm nx:Value} {bs ls:Int} {cp:Nat} {cs:List Frame}
def Sx(N D c:Nat)(x:Nat):Prop:=x=D\/x=N\/x=iD N c
def Xx(X:ZP)(N D M:Nat)(x:Nat):Prop:=X x\/x=D\/x=M\/(N<=x/\x<N+4)
def ox(v:Zy)(x:Nat):Obj:=(v.heap[x]?).getD<|.cells #[] 0
def Uh{B Wg C:Nat}(n:Wg<B)(m:C<B)(o:¬X C){e:Event}(h:@Go.ConcX.EvS Wg C (Ie X B Wg C n m o) e):xR X B e/\∀x,(MemAct.ofEvent e).touch?=bO x->(∀c,Zw Wg c x):=by
 obtain⟨i,q,r,j,k,g⟩:=h;refine⟨⟨fun x d=>⟨(g x d).1,(g x d).2.1,(g x d).2.2.1⟩,fun f=>j ?_,fun f=>k ?_⟩,fun x d c=>⟨fun p=>(i x d).1<|.inl p,fun f=>absurd f<|(g x d).2.2.2 c⟩⟩;cases e with
 |mk l a b=>cases f;rfl
 cases e with
 |mk l a b=>cases f;rfl
def xq4(hJ:JL bM X k gs v t)(h0:gs[0]?=bO (G ((base 106).at ⟨#[zo Lb,zo D,bJ,bJ,bJ,bJ,bJ,bJ,bJ,bJ,bJ,bJ,bJ,bJ,bJ,bJ,bJ,bJ,bJ,bJ,bJ,bJ,bJ,bJ,bJ,bJ,bJ,bJ,bJ,bJ,bJ,bJ,bJ,bJ,bJ],[]⟩ [.code vF]) cs))(B:¬X Lb)(L:SL Lb bs ls v)(f:∀x,X x->x<v.heap.size)
  (hw:IntKind.i64.wrap (ls-bs)=(cp:Int))(F:cp<=1000000000)(I:IntKind.i64.wrap (bs+1)=bs+1):
  ∃N gs' d sl' t' q c x y,(c=7\/c=8)/\runNT bM N (crowd gs v sl) t=(.next<|crowd (gs'.push<|born bM<|za5 v.heap.size (iD v.heap.size c) (v.heap.size+3) (bs+1) ls) ((eH v D cp c).at d) sl',t'++#[x,y])/\
   gs'[0]?=bO (G ((base 106).at (pF Lb D v.heap.size (iD v.heap.size c) (gF v.heap.size c) (v.heap.size+3) bs ls cp) [.inRegion nO [],.code K5]) cs)/\gs'.size=gs.size/\Leavers bM t' gs' q/\
   We X (v.heap.size+4) (fun a=>∀C,v.heap.size<=C->Zw (v.heap.size+3) C a) 0 t'/\(x.g=0/\x.act= .go gs.size)/\(y.g=gs.size/\y.act= .start):=by
 obtain⟨q,hL,hP,rfl⟩:=hJ;have bb:Lb<v.heap.size:=Wb L.base;have z:¬X v.heap.size:=fun h=>by have:=f _ h;omega
 letI:=Ie X (v.heap.size+4) (v.heap.size+3) v.heap.size (by omega) (by omega) z
 have hE:∀x:Addr,x.block=Lb->Go.ConcX.EvS (v.heap.size+3) v.heap.size ⟨.cell x,bK,bK⟩:=fun x l=>Go.ConcX.Gen.evS_cell x bK bK (by omega) (by omega) (fun y i=>by
  simp only[aR,zp]at i;subst i;exact⟨fun⟨r,e,n⟩=>by cases e;rw[l]at n;exact absurd n B,fun⟨r,e,_⟩=>(by cases e),(by simp only[Loc.low];omega),fun r e=>(by cases e)⟩)
 have p:∀x:Addr,v.heap.size+1<=x.block->x.block<v.heap.size+3->Go.ConcX.EvS (v.heap.size+3) v.heap.size ⟨.cell x,bL,bK⟩:=fun x h1 h2=>Go.ConcX.Gen.evS_cell x bL bK (by omega) (by omega) (fun y i=>by
  simp only[aR,zp]at i;subst i;exact⟨fun⟨r,e,n⟩=>by cases e;have:=f _ n;omega,fun⟨r,e,_⟩=>(by cases e),(by simp only[Loc.low];omega),fun r e=>(by cases e)⟩)
 have s:We X (v.heap.size+4) (fun a=>∀C,v.heap.size<=C->Zw (v.heap.size+3) C a) 0 t:=(hP.mL fun a m C hC=>⟨fun⟨b,e,hb⟩=>by
   rw[e]at m;have:b.block<v.heap.size:=m;omega,fun e=>by
   rw[e]at m;have:C<v.heap.size:=m;omega⟩).mono<|by omega
 have j:=Hp (Stop:=fun g w=>∃c d,(c=7\/c=8)/\g=G ((base 106).at (pF Lb D _ (iD _ c) (gF _ c) _ bs ls cp) _) cs/\w=(eH v D cp c).at d) hE p hw F I L
  (fun c E d=>⟨c,d,E,rfl,rfl⟩) v.drawn
 obtain⟨T,ba,O,J,t1,q1,a1,r1,Y,s1,R,V,z1⟩:=xpz (sl:=sl) (fun e M=>⟨(Uh _ _ _ M).1,fun x l C _=>(Uh _ _ _ M).2 x l C⟩) j h0 hL s;obtain⟨c,d,E,rfl,hv⟩:=s1 O.drawn;have H:O=(eH v D cp c).at d:=hv;subst H;obtain⟨U,o,d2,K,t2,q2,x,y,r2,Z,Q,S,W,l,i⟩:=Ks (sl:=J) rfl Y R V fun d=>xmx _;rw[z1]at Q l i;exact⟨T+U,o,d2,K,t2,q2,c,x,y,E,ql r1 r2,Z,Q,S,W,l,i⟩
end
end A
namespace A
open Go Go.Conc Go.RowKit Go.Conc.Lib
open Go.ConcR (stA)
open Go.ConcN (sumTo)
variable [pn:Pn] [py:Go.ConcR.Payload]
def QO{t:Trace}{x y:MemOp}{n:Nat}(hx:x.act= .go n)(hy:y.act= .start)(i:Nat):Deaf (t++#[x,y]) i=Deaf t i:=by
 have a:(t++#[x,y])[t.size]?=bO x:=by simp
 have b:(t++#[x,y])[t.size+1]?=bO y:=by simp
 show(t++#[x,y]).deaf i (t++#[x,y]).size=t.deaf i t.size;rw[show(t++#[x,y]).size=t.size+1+1 by simp,deaf_succ b,deaf_succ a,deaf_old<|ze _];simp[deafStep,hx,hy]
section
variable {X:Nat->Prop} {gs:Array aS} {v:World} {t:Trace} {Lb D M clock:Nat} {es:Array aK} {rm nx:Value} {bs ls:Int} {cp:Nat} {cs:List Frame}
def xms{gs':Array Zg}{d c:Nat}{q:Nat->Nat}{x y:MemOp}(F:c=7\/c=8)(w:0<gs.size)(z:gs'.size=gs.size)(B:Leavers bM t gs' q)(n:We X (v.heap.size+4) (fun a=>∀C,v.heap.size<=C->Zw (v.heap.size+3) C a) 0 t)(hx:x.g=0/\x.act= .go gs.size)(hy:y.g=gs.size/\y.act= .start)
  (p:∀x,X x->x<v.heap.size)(hD:v.heap[D]?=bO (.cells #[rm,.map<|bO M,nx] py.ety))(hM:v.heap[M]?=bO (.map es clock))(N:¬X D)(O:¬X M)(Y:∀e∈es.toList,eZ e)
  (V:ls<9223372036854775807)(S:-9223372036854775808<=bs+1)(hn:bs+1+(cp:Int)=ls+1):
  ∃k,JC bM 245 (v.heap.size+3) (gF v.heap.size c) (Sx v.heap.size D c) D M gs.size (dY es (bs+1) cp) (ox<|(eH v D cp c).at d) (Xx X v.heap.size D M) t.size 0 0 k (gs'.push<|born bM<|za5 v.heap.size (iD v.heap.size c) (v.heap.size+3) (bs+1) ls) ((eH v D cp c).at d)<|t++#[x,y]:=by
 have H:D<v.heap.size:=(za.1 hD).1;have I:M<v.heap.size:=(za.1 hM).1;obtain⟨n1,n2,n3,n4⟩:=L_ v D cp F d;have Z:=(uQ v D cp F H d).trans hD;have oM:=(uQ v D cp F I d).trans hM;have hS:iD v.heap.size c=v.heap.size+1\/iD v.heap.size c=v.heap.size+2:=by unfold iD;split<;>simp
 have hC:gF v.heap.size c=v.heap.size+1\/gF v.heap.size c=v.heap.size+2:=by unfold gF;split<;>simp
 have ba:gF v.heap.size c≠iD v.heap.size c:=by unfold iD gF;split<;>omega
 have ox_of:∀{r:Nat} {o:Obj},((eH v D cp c).at d).heap[r]?=bO o->ox ((eH v D cp c).at d) r=o:=fun {r o} h=>by unfold ox;rw[h];rfl
 have kc:Kc (Sx v.heap.size D c) M (ox<|(eH v D cp c).at d)<|(eH v D cp c).at d:=by
  intro r s;have:∃o,((eH v D cp c).at d).heap[r]?=bO o:=by
   rcases s with(rfl|rfl|rfl)|rfl;exact⟨_,Z⟩;exact⟨_,n1⟩;exact⟨_,n3⟩;exact⟨_,oM⟩
  obtain⟨o,ho⟩:=this;rw[ho,ox_of ho]
 have K:Kn D M v.heap.size (iD v.heap.size c) (gF v.heap.size c) es (Sx v.heap.size D c)<|ox<|(eH v D cp c).at d:=⟨.inl rfl,.inr<|.inl rfl,.inr<|.inr rfl,⟨rm,nx,ox_of Z⟩,ox_of n1,ox_of n3,⟨clock,ox_of oM⟩,Y⟩;have G:=zwm (Wg:=v.heap.size+3) K V S cp hn kc;have W:=eX es cp<|bs+1;have tp:TP (Xx X v.heap.size D M) (pK (Sx v.heap.size D c) M) (v.heap.size+3) (gF v.heap.size c) gs.size (stA<|v.heap.size+3) t.size ((eH v D cp c).at d).heap.size<|t++#[x,y]:=by
  rw[D9 v D cp F d];have J:We X (v.heap.size+4) (Zw (v.heap.size+3)<|gF v.heap.size c) 0 t:=⟨n.clean,n.known,n.over,n.deaf,n.seen,fun i a E=>n.EE i a E _<|by omega⟩;have nX:∀r,Sx v.heap.size D c r\/r=M->¬X r:=fun r s L=>by
   have:=p r L;rcases s with(rfl|rfl|rfl)|rfl
   exact N L;omega;omega;exact O L
  refine TP.fork (TP.uK J (fun _ h=> .inl h) (fun h=>by have:=p _ h;omega) (fun l R=>?_) fun l R=>?_) (by omega) n.deaf (B.above _<|by omega) hx hy;rcases R with⟨a,rfl,E⟩|⟨r,rfl,s⟩
  exact⟨fun⟨b,e,hb⟩=>by cases e;exact nX _ E hb,fun⟨r,e,_⟩=>by cases e⟩;exact⟨fun⟨b,e,hb⟩=>(by cases e),fun⟨r',e,U⟩=>by cases e;exact nX _ s U⟩;rcases R with⟨a,rfl,E⟩|⟨r,rfl,s⟩<;>rfl
 have f:∀st m,9<=st->Ch bM 245 (v.heap.size+3) (gF v.heap.size c) (Sx v.heap.size D c) D M (ox<|(eH v D cp c).at d) 0 st m (dY es (bs+1) cp) (born bM<|za5 v.heap.size (iD v.heap.size c) (v.heap.size+3) (bs+1) ls) ((eH v D cp c).at d)->
   dU bM 245 (v.heap.size+3) (gF v.heap.size c) (Sx v.heap.size D c) D M gs.size (dY es (bs+1) cp) (ox<|(eH v D cp c).at d) (Xx X v.heap.size D M) t.size 0 0 0 st m (dY es (bs+1) cp) (born bM<|za5 v.heap.size (iD v.heap.size c) (v.heap.size+3) (bs+1) ls) q (gs'.push<|born bM<|za5 v.heap.size (iD v.heap.size c) (v.heap.size+3) (bs+1) ls) ((eH v D cp c).at d) (t++#[x,y]):=by
  intro st m bc Q;refine⟨w,by simp[z],by rw[<-z];simp,fun i g hi bb hg=>?_,fun j hj=>?_,Q,kc,⟨_,Z,rfl⟩, ?_,Vj _,by simp, ?_,fun _ _=>by omega,fun h=>absurd rfl h.1,tp, ?_, ?_,fun h=>by omega,by simp⟩;rw[QO hx.2 hy.2];refine B.old i g hi ?_;rw[jh,aB<|by omega]at hg;exact hg;rw[QO hx.2 hy.2];exact B.above j (by omega);rw[n2,W];simp[show¬st<=8 by omega];show _=_;rw[n4];have h1:iE 0 st=4294967296:=by unfold iE;rw[aA<|.inl rfl,aB<|by omega];rfl
  have h2:gM 0 st=0:=by unfold gM;rw[aB<|by omega]
  rw[h1,h2];rfl;rw[QO hx.2 hy.2,n.deaf];rfl;rw[QO hx.2 hy.2];exact B.above _<|by omega
 cases hv:dY es (bs+1) cp with
 |nil=>
  rw[hv]at G f;obtain⟨m,T⟩:=G;exact⟨_,_,_,_,_,_,_,f 9 m (by omega)<|.cls T,rfl⟩
 |cons a vs=>
  rw[hv]at G f;obtain⟨m,T⟩:=G;exact⟨_,_,_,_,_,_,_,f _ m (by omega)<|.send T,rfl⟩
end
end A
namespace A
open Go Go.Conc
variable [pn:Pn] [py:Go.ConcR.Payload]
theorem zwz{X:ZP}{N D M c:Nat}(t:D<N)(v:M<N)(w:Pn.N<=N):q9 (Xx X N D M) (N+3) (gF N c) (Sx N D c) D M:=by
 have y:iD N c=N+1\/iD N c=N+2:=by unfold iD;split<;>simp
 have s:gF N c=N+1\/gF N c=N+2:=by unfold gF;split<;>simp
 have i:gF N c≠iD N c:=by unfold iD gF;split<;>omega
 have n:∀x,Sx N D c x\/x=M->Xx X N D M x:=fun x f=>by
  rcases f with(rfl|rfl|rfl)|rfl;exact .inr<|.inl rfl;exact .inr<|.inr<|.inr ⟨by omega,by omega⟩;exact .inr<|.inr<|.inr ⟨by omega,by omega⟩;exact .inr<|.inr<|.inl rfl
 have o:Xx X N D M<|N+3:= .inr (.inr<|.inr ⟨by omega,by omega⟩);have m:Xx X N D M<|gF N c:= .inr (.inr<|.inr ⟨by omega,by omega⟩);have j:∀x,Sx N D c x\/x=M->x≠gF N c:=fun x f=>by
  rcases f with(rfl|rfl|rfl)|rfl;omega;omega;exact i.symm;omega
 have k:∀x,Sx N D c x\/x=M->x≠N+3:=fun x f=>by
  rcases f with(rfl|rfl|rfl)|rfl<;>omega
 refine⟨⟨fun l d=>?_,o,fun l d q=>?_,fun d=>?_,m⟩,m,o,.inl rfl,j,by omega,k,by omega,by omega⟩;rcases d with⟨a,rfl,g⟩|⟨r,rfl,h⟩
 exact .inl ⟨a,rfl,n _ g⟩;exact .inr ⟨r,rfl,n _ h⟩;obtain⟨b,e,p⟩:=q;rcases d with⟨a,rfl,g⟩|⟨r,rfl,h⟩
 cases e;exact k _ g p;cases e;rcases d with⟨a,e,g⟩|⟨r,e,h⟩
 cases e;cases e;exact j _ h rfl
def MI:Obj:= .chan 0 #[] bK 0 0 bK
def CE(c:Nat):Nat->Obj
 |0=> .cells #[] 76
 |1=>if c=7 then MI else .cells #[] 235
 |2=>if c=7 then .cells #[] 235 else MI
 |_=> .cells #[] 245
def wF(w:Zy)(D M c:Nat):Zy:={w with heap:=((((((w.heap.setIfInBounds D<|.cells #[] py.ety).setIfInBounds M MI).push<|CE c 0).push<|CE c 1).push<|CE c 2).push<|CE c 3)}
def fE(w:Zy)(D M c:Nat):(wF w D M c).heap.size=w.heap.size+4:=by simp[wF]
def iP(w:Zy){D M c r:Nat}(d:r<w.heap.size)(a:r≠D)(b:r≠M):(wF w D M c).heap[r]?=w.heap[r]?:=by
 simp only[wF,jh,Xe,Xf];rw[aB<|by omega,aB<|by omega,aB<|by omega,aB<|by omega,zd<|Ne.symm b,zd<|Ne.symm a]
def Hq(w:Zy){D M c:Nat}(b:D<w.heap.size)(a:D≠M):(wF w D M c).heap[D]?=bO (.cells #[] py.ety):=by
 simp only[wF,jh,Xe,Xf];rw[aB<|by omega,aB<|by omega,aB<|by omega,aB<|by omega,zd<|Ne.symm a,zx b]
def Hr(w:Zy){D M c:Nat}(a:M<w.heap.size):(wF w D M c).heap[M]?=bO MI:=by
 simp only[wF,jh,Xe,Xf];rw[aB<|by omega,aB<|by omega,aB<|by omega,aB<|by omega,zx<|by simpa using a]
def BJ(w:Zy){D M c i:Nat}(a:i<4):(wF w D M c).heap[w.heap.size+i]?=bO (CE c i):=by
 simp only[wF,jh,Xe,Xf];have:i=0\/i=1\/i=2\/i=3:=by omega
 rcases this with rfl|rfl|rfl|rfl;rw[aB<|by omega,aB<|by omega,aB<|by omega,aA<|by omega];rw[aB<|by omega,aB<|by omega,aA<|by omega];rw[aB<|by omega,aA<|by omega];rw[aA<|by omega]
def Ue{P:Zp}:dL P<|bO MI:=⟨fun _ _ h=>(by cases h),fun _ h=>(by cases h),fun _ h=>(by cases h)⟩
def CM{P:Zp}(c i:Nat):dL P<|bO<|CE c i:=by
 unfold CE;split<;>(try split)<;>first|exact Ue|exact dL.cells
section
variable {P:aV} {X:Nat->Prop} {w v:World} {D M clock cp c d:Nat} {es:Array aK} {cs:Array Value}
theorem xof(h:Sm P X w v)(k:c=7\/c=8)(n:v.heap[D]?=bO (.cells cs py.ety))(m:v.heap[M]?=bO (.map es clock))(C:¬X D)(E:¬X M)(I:Pn.V D=v.heap[D]?)(J:Pn.V M=v.heap[M]?):
  Sm P (Xx X v.heap.size D M) (re (wF w D M c) v.tape d) ((eH v D cp c).at d):=by
 have p:D<v.heap.size:=(za.1 n).1;have q:M<v.heap.size:=(za.1 m).1;have l:D≠M:=by rintro rfl;rw[n]at m;cases m
 have j:=h.size;obtain⟨n1,x,y,H⟩:=L_ v D cp k d;refine⟨?_,fun r a=>?_,fun r a=>?_,fun r=>?_, ?_,rfl, ?_, ?_,⟨?_,fun r a F=>?_⟩⟩
 case refine_8=>show _<=(wF w D M c).heap.size;have:=h.pin.1;rw[fE];omega
 case refine_9=>
  have L:=h.pin.1;show _\/_=(wF w D M c).heap[r]?;rw[uQ v D cp k (by omega) d];by_cases b:r=D;subst b;exact .inl I.symm;by_cases f:r=M;subst f;exact .inl J.symm;rw[iP w (by omega) b f];rcases a with a|a|a|⟨z,B⟩
  exact h.pin.2 r a F;exact absurd a b;exact absurd a f;omega
 rw[D9 v D cp k d];show _=(wF w D M c).heap.size;rw[fE,j];show _=(wF w D M c).heap[r]?;by_cases g:r<v.heap.size;rw[uQ v D cp k g d,iP w (by omega) (fun e=>a<|.inr<|.inl e) fun e=>a<|.inr<|.inr<|.inl e];exact h.out r fun G=>a<|.inl G;have t:v.heap.size+4<=r:=by
  apply jr;intro K;exact a<|.inr<|.inr<|.inr ⟨by omega,by omega⟩
 rw[ju<|by rw[D9 v D cp k d];exact t,ju<|by rw[fE];omega];show∃o o',(wF w D M c).heap[r]?=bO o/\_;by_cases b:r=D;subst b;exact⟨_,_,Hq w (by omega) l,(uQ v r cp k p d).trans n,.inr ⟨_,_,rfl,rfl⟩⟩;by_cases f:r=M;subst f;exact⟨_,_,Hr w<|by omega,(uQ v D cp k q d).trans m,.inl ⟨rfl,rfl⟩⟩;rcases a with a|a|a|⟨z,B⟩
 have g:=h.low r a;rw[iP w g b f,uQ v D cp k (by omega) d];exact h.dead r a;exact absurd a b;exact absurd a f;have s:r=v.heap.size+0\/r=v.heap.size+1\/r=v.heap.size+2\/r=v.heap.size+3:=by omega
 rcases s with rfl|rfl|rfl|rfl;exact⟨_,_,by rw[j];exact BJ w<|by omega,n1,.inr ⟨_,_,rfl,rfl⟩⟩;rcases k with rfl|rfl;exact⟨_,_,by rw[j];exact BJ w<|by omega,x,.inl ⟨rfl,rfl⟩⟩;exact⟨_,_,by rw[j];exact BJ w<|by omega,y,.inr ⟨_,_,rfl,rfl⟩⟩;rcases k with rfl|rfl;exact⟨_,_,by rw[j];exact BJ w<|by omega,y,.inr ⟨_,_,rfl,rfl⟩⟩;exact⟨_,_,by rw[j];exact BJ w<|by omega,x,.inl ⟨rfl,rfl⟩⟩;exact⟨_,_,by rw[j];exact BJ w<|by omega,H,.inr ⟨_,_,rfl,rfl⟩⟩;show dL P (wF w D M c).heap[r]?;by_cases g:r<w.heap.size;by_cases f:r=M;subst f;rw[Hr w g];exact Ue;by_cases b:r=D;subst b;rw[Hq w g l];exact dL.cells;rw[iP w g b f];exact h.oks r;by_cases t:r<w.heap.size+4;obtain⟨i,s,rfl⟩:∃i,i<4/\r=w.heap.size+i:=⟨r-w.heap.size,by omega,by omega⟩;rw[BJ w s];exact CM c i;rw[ju<|by rw[fE];omega];exact dL.none;rcases k with rfl|rfl<;>rfl
 have e:((eH v D cp c).at d).os=v.os:=by rcases k with rfl|rfl<;>rfl
 rw[e];exact h.os;have e:((eH v D cp c).at d).output=v.output:=by rcases k with rfl|rfl<;>rfl
 rw[e];exact h.output
end
end A
namespace A
open Go Go.Conc
open Go.ConcN (sumTo WgLive PayAt)
open Go.ConcR (WgAt stA Payload)
variable [pn:Pn]
section
variable [Payload] {P:aV} {ty:TypeId} {Wg C:Nat} {S:Nat->Prop} {D M c:Nat} {vals:List Value} {o:Nat->Obj} {X:Nat->Prop} {p rg r:Nat}
variable {d st m:Nat} {left:List Value} {b g0:aS} {q:Nat->Nat} {gs:Array aS} {v:World} {t:Trace}
def xur(B:q9 X Wg C S D M)(h:dU P ty Wg C S D M c vals o X p rg r d st m left b q gs v t)(h0:gs[0]?=bO g0){g':Zg}{a:Addr}(O:S a.block){f:Zg->Zg}(Q:f=woken P g0 g' v\/f=id):
  dU P ty Wg C S D M c vals o X p rg r d st m left b q ((gs.map f).setIfInBounds 0 g') v (t++MemOp.ofEvents 0 g0.frame.fn g0.frame.place #[⟨.cell a,bK,bK⟩]):=by
 have k:c≠0:=Xh h.pos;have F:a.block<v.heap.size:=(za.1<|h.kc _<|.inl O).1;have E:∀{n d} {x:Zg},QuitsD P n d x->f x=x:=fun s=>by
  rcases Q with rfl|rfl;exact woken_quitsD s;rfl
 have I:∀{x:Zg},x.status= .running->f x=x:=fun s=>by
  rcases Q with rfl|rfl;exact woken_run s;rfl
 refine⟨h.pos,by simp[h.size], ?_,fun i g R J H=>?_,fun j V=>?_,h.ch,h.kc,h.pay,h.chan,h.nV,h.lefts,h.wg,h.kH,h.kG, ?_, ?_, ?_,fun U=>?_,by have:=h.pt;simp;omega⟩;rw[zd<|Ne.symm k,jj,h.hb];simp only[js,zp];rcases h.ch.awake with e|e
 exact I e;cases h.ch with
 |out hq2=>exact E hq2
 |_=>
  rename_i hG
  first
   |(have:=qr (fun _ _ x=>x.1) (fun _ x=>x) hG;rw[e]at this;cases this)
   |(have:=qr (fun _ _ x=>x.1) Y9 hG;rw[e]at this;cases this)
 rw[zd<|by omega,jj]at H;obtain⟨y,Z,rfl⟩:=zt.1 H;have s:=h.old i y R J Z;rw[E s,aG t (g':=0) (by omega) _ fZ];exact s;rw[aG t (g':=0) (by omega) _ fZ];exact h.above j V
 ·have K:pK S M<|.cell a:= .inl ⟨a,rfl,.inl O⟩
  refine h.tp.app B.apart (.inl rfl) fZ (fun T l x G hm=>?_) (fun T l x G=>?_) (fun T l e=>?_) BI
  all_goals obtain⟨ev,w,rfl⟩:=zy l
  all_goals (rw[Array.mem_singleton]at w;subst w)
  simp only[ofEvent_cell0,aR,zp]at G;subst G;exact .inl ⟨rfl,.inr K,fun _=> .inl rfl,fun⟨r1,e,_⟩ _=>rfl⟩;simp only[ofEvent_cell0,aR,zp]at G;subst G;exact F;cases e
 rw[Deaf_own,deafBehind_still fun e w=>by rw[Array.mem_singleton]at w;subst w;exact⟨by simp,by simp⟩];exact h.deaf0;rw[aG t (g':=0) (Ne.symm k) _ fZ];exact h.eD;obtain⟨rr,W,Y⟩:=h.rel U;refine⟨rr,W,Y.app fun i R H _=>?_⟩;obtain⟨z,hz,L⟩:=zt.1 H;rcases getElem?_append_cases hz with⟨F,_⟩|⟨_,N⟩
 omega;exact k<|L.symm.trans<|fZ z N
end
end A
namespace A
open Go Go.Conc
open Go.ConcN (sumTo)
open Go.ConcR (Payload)
variable [pn:Pn]
section
variable {G:Zg→Zy→Nat→Prop}
section
variable {P:aV} {X:Nat->Prop} {J:Nat×Nat->Array aS->World->Trace->Prop}
def Cj(c:BD P X J){g g':Zg}{w:Zy}{es:Array Event}(b:g.status= .running)(x:g.dying=bN)
  (l:∀k gs v t,J k gs v t->aZ P bL g v= .go g' v es)
  (o:∀k gs v t,J k gs v t->gs[0]?=bO g->J k ((gs.map<|woken P g g' v).setIfInBounds 0 g') v (t++MemOp.ofEvents 0 g.frame.fn g.frame.place es))
  {k:Nat×Nat}{gs:Array Zg}{v:Zy}{sl:Option<|Nat×Nat}{t:Trace}(D:J k gs v t)(m:gs[0]?=bO g)(G:Sm P X (re w v.tape v.drawn) v):
  ∃N gs' v' sl' t' k',runNT P N (crowd gs v sl) t=(.next<|crowd gs' v' sl',t')/\J k' gs' v' t'/\gs'[0]?=bO g'/\Sm P X (re w v'.tape v'.drawn) v':=by
 induction k using BO.induction generalizing gs v sl t with
 |_ k ih=>
  have s:∀g∈gs,awake g:=by
   intro q f;obtain⟨i,h,rfl⟩:=Z1.1 f;rcases jl i with rfl|a
   have:gs[0]=g:=by simpa[xg h]using m
   rw[this];exact awake_of<|.inl b;exact c.awake k gs v t D i _ a<|xg h
  obtain⟨i,q,d,sl',h,f,p⟩:=crowd_pick (P:=P) (w:=v) (sl:=sl) s ⟨0,g,m,b⟩;have e:=c.drawn k gs v t d D;have n:Sm P X (re w v.tape d)<|v.at d:=G.re _ d;rcases jl i with rfl|a
  obtain rfl:q=g:=by rw[m]at h;exact(jf h).symm
  have j:=runT_crowd_go (sl:=sl') h (show aZ P _ q _=_ from l _ _ _ _ e);have y:0<gs.size:=(za.1 m).1;exact⟨1,_,v.at d,sl',_,k,by simp only[runNT,p,j],o _ _ _ _ e m,by simp[y],n⟩;obtain⟨gs',v',B,z,k',I,K,L,M,O⟩:=c.other k gs (v.at d) t i q g sl' e a h f m b x;obtain⟨N,r,R,C,Q,H,E,F⟩:=ih k' K (t:=t++z) (sl:=B) M L<|O w n;exact⟨1+N,r,R,C,Q,H,ql (by simp only[runNT,p,I]) E,F⟩
end
section
variable [Payload] {P:aV} {ty:TypeId} {Wg C:Nat} {S:Nat->Prop} {D M c:Nat} {vals:List Value} {o:Nat->Obj} {X:Nat->Prop} {p rg r:Nat} {g g':aS} {w:World}
def RC(P:Zp)(ty:Zt)(Wg C:Nat)(S:ZP)(D M c:Nat)(vals:Ze)(o:Nat->Obj)(X:ZP)(p rg r:Nat)(g:Zg)(w:Zy)(G:Zg->Zy->Nat->Prop):Prop:=
 ∀k gs v sl t,JC P ty Wg C S D M c vals o X p rg r k gs v t->gs[0]?=bO g->Sm P X (re w v.tape v.drawn) v->
  ∃N gs' v' sl' t' k' g' w' r',runNT P N (crowd gs v sl) t=(.next<|crowd gs' v' sl',t')/\JC P ty Wg C S D M c vals o X p rg r' k' gs' v' t'/\gs'[0]?=bO g'/\Sm P X (re w' v'.tape v'.drawn) v'/\G g' w' r'
theorem RC.refl(h:G g w r):RC P ty Wg C S D M c vals o X p rg r g w G:=fun k a v f t d b e=>⟨0,a,v,f,t,k,g,w,r,rfl,d,b,e,h⟩
def RC.trans{G G':Zg->Zy->Nat->Prop}(h:RC P ty Wg C S D M c vals o X p rg r g w G)(k:∀g' w' r',G g' w' r'->RC P ty Wg C S D M c vals o X p rg r' g' w' G'):RC P ty Wg C S D M c vals o X p rg r g w G':=fun F y v K t B z E=>by
 obtain⟨N,a,Q,d,L,H,U,w1,V,i,j,l,m,n⟩:=h F y v K t B z E;obtain⟨f,b,R,e,O,I,x,T,J,q,s⟩:=k _ _ _ n H a Q d L j l m;exact⟨N+f,b,R,e,O,I,x,T,J,ql i q,s⟩
theorem RC.ctl(B:q9 X Wg C S D M)(a:g.status= .running)(l:g.dying=bN)(R:∀v,aZ P bL g v= .go g' v)(Q:RC P ty Wg C S D M c vals o X p rg r g' w G):RC P ty Wg C S D M c vals o X p rg r g w G:=fun k K v sl t L j O=>by
 obtain⟨N,f,Z,n,W,T,y,z,E,F⟩:=Cj (sl:=sl) (Yi B) a l (fun _ _ v _ _=>R v) (fun k K v t ⟨d,st,m,left,b,q,h,e⟩ j=>⟨d,st,m,left,b,q,Fv B h j (fun _ _=>rfl) (by simp) (ze _)<|.inl rfl,e⟩) L j O;obtain⟨x,i,v2,s,Y,U,J,w2,V,H,I⟩:=Q T f Z n W z E F;exact⟨N+x,i,v2,s,Y,U,J,w2,V,ql y H,I⟩
def RC.read(B:q9 X Wg C S D M)(f:g.status= .running)(n:g.dying=bN){a:Addr}(R:S a.block)(U:∀v,Kc S M o v->aZ P bL g v= .go g' v #[⟨.cell a,bK,bK⟩])(T:RC P ty Wg C S D M c vals o X p rg r g' w G):RC P ty Wg C S D M c vals o X p rg r g w G:=fun k L v sl t O l Q=>by
 obtain⟨N,i,v1,s,Z,V,z,E,F,H⟩:=Cj (sl:=sl) (Yi B) f n (fun _ _ v _ ⟨d,st,m,left,b,q,h,e⟩=>U v h.kc) (fun k L v t ⟨d,st,m,left,b,q,h,e⟩ l=>⟨d,st,m,left,b,q,xur B h l R<|.inl rfl,e⟩) O l Q;obtain⟨y,j,v2,x,t2,W,K,w2,Y,I,J⟩:=T V i v1 s Z E F H;exact⟨N+y,j,v2,x,t2,W,K,w2,Y,ql z I,J⟩
end
end
end A
namespace A
open Go Go.Conc
open Go.ConcR (Payload)
variable [pn:Pn]
section
variable {P:aV} {C:Nat} {z:Value} {b:Frame} {a:Act} {k:List Item} {cs:List Frame} {ops:Array aD} {i:Nat} {rest:List Nat} {op:aD} {t e:TypeId} {x:Operand} {dir:ChanDir}
def So(ho:ops[i]?=bO op)(hw:aX op (yielded ops a.tmps)=bL)(hk:b.kind≠ .early)(hop:op.op= .recv t x bL)(hx:a.eval x= .chan (bO C))(c:P.underlying t=bO (.chan dir e))(g:∀v,(zeroValue e).run P v= .ok z v):
  xJ P C z (G (b.at a (.inRegion ops (i::rest)::k)) cs) (G (b.at a (.inRegion ops (i::rest)::k)) cs):=by
 refine⟨rfl,rfl,fun v=>?_⟩;have f:(bG a.eval op).run P v= .ok (.comm #[rcase C z] bL<|.recv bL) v:=by
  unfold bG;simp only[hop,hx];simp[xm c,g,rcase]
 have d:(bG a.eval op).events P v #[]=#[]:=by
  unfold bG;simp only[hop,hx];simp[xm c,Xr]
 rw[stepG_comm ho hw hk f];unfold listed;rw[d,seen_none]
def xJ.parked{fr:Zf}(h:xJ P C z (G fr cs)<|G fr cs):xJ P C z (G fr cs) {Conc.parked (G fr cs) #[rcase C z] (.recv bL)with status:= .running}:=
 ⟨rfl,rfl,fun v=>h.st v⟩
end
section
variable [Payload] {P:aV} {ty:TypeId} {Wg C:Nat} {S:Nat->Prop} {D M c:Nat} {vals:List Value} {o:Nat->Obj} {X:Nat->Prop} {p rg r:Nat} {w:World} {z:Value} {fr:Frame} {cs:List Frame}
def RC.recv(B:q9 X Wg C S D M){G':Zg->Zy->Nat->Prop}(h:xJ P C z (G fr cs)<|G fr cs)(F:RC P ty Wg C S D M c vals o X p rg (vO vals r) (Conc.served (G fr cs)<|got vals z r) w G'):RC P ty Wg C S D M c vals o X p rg r (G fr cs) w G':=fun k s v K t y x E=>by
 obtain⟨N,a,Q,d,L,H,g,i,j,l⟩:=(Fc B h.parked k).1 s v K t _ h y x E;obtain⟨f,b,R,e,O,I,q,T,J,m,n⟩:=F H a Q d L i j l;exact⟨N+f,b,R,e,O,I,q,T,J,ql g m,n⟩
end
end A
namespace A
open Go Go.Conc
open Go.ConcN (sumTo)
open Go.ConcR (Payload)
variable [pn:Pn]
section
variable {G':Zg→Zy→Nat→Prop}
section
variable {P:aV} {X:Nat->Prop} {J:Nat×Nat->Array aS->World->Trace->Prop}
def O6(c:BD P X J){g g':Zg}{w w':Zy}(a:g.status= .running)(j:g'.status= .running)(B:g.dying=bN)
  (m:∀v,Sm P X (re w v.tape v.drawn) v->∃v' es,aZ P bL g v= .go g' v' es/\Sm P X (re w' v'.tape v'.drawn) v'/\(∀x,X x->v'.heap[x]?=v.heap[x]?)/\(∀e∈es,qI X v'.heap.size e)/\v.heap.size<=v'.heap.size)
  {k:Nat×Nat}{gs:Array Zg}{v:Zy}{sl:Option<|Nat×Nat}{t:Trace}(I:J k gs v t)(n:gs[0]?=bO g)(O:Sm P X (re w v.tape v.drawn) v):
  ∃N gs' v' sl' t' k',runNT P N (crowd gs v sl) t=(.next<|crowd gs' v' sl',t')/\J k' gs' v' t'/\gs'[0]?=bO g'/\Sm P X (re w' v'.tape v'.drawn) v':=by
 induction k using BO.induction generalizing gs v sl t with
 |_ k ih=>
  have z:∀g∈gs,awake g:=by
   intro o f;obtain⟨i,h,rfl⟩:=Z1.1 f;rcases jl i with rfl|b
   have:gs[0]=g:=by simpa[xg h]using n
   rw[this];exact awake_of<|.inl a;exact c.awake k gs v t I i _ b<|xg h
  obtain⟨i,o,d,sl',h,f,r⟩:=crowd_pick (P:=P) (w:=v) (sl:=sl) z ⟨0,g,n,a⟩;have p:=c.drawn k gs v t d I;have q:Sm P X (re w v.tape d)<|v.at d:=O.re _ d;rcases jl i with rfl|b
  obtain rfl:o=g:=by rw[n]at h;exact(jf h).symm
  obtain⟨v',es,K,y,hk,C,E⟩:=m (v.at d) q;have l:=runT_crowd_go (sl:=sl') h (show aZ P _ o _=_ from K);have D:0<gs.size:=(za.1 n).1;exact⟨1,_,v',sl',_,k,by simp only[runNT,r,l],c.own k gs _ t o g' v' es p n K a j hk C E,by simp[D],y⟩;obtain⟨gs',v',G,F,k',R,S,T,U,V⟩:=c.other k gs (v.at d) t i o g sl' p b h f n a B;obtain⟨N,s,Y,H,W,Q,L,M⟩:=ih k' S (t:=t++F) (sl:=G) U T<|V w q;exact⟨1+N,s,Y,H,W,Q,ql (by simp only[runNT,r,R]) L,M⟩
end
section
variable [Payload] {P:aV} {F:Array Func} {ty:TypeId} {Wg C:Nat} {S:Nat->Prop} {D M c:Nat} {vals:List Value} {o:Nat->Obj} {X:Nat->Prop} {p rg r:Nat} {w w':World} {b:Frame} {a:Act} {k:List Item} {cs:List Frame} {ops:Array aD} {i:Nat} {rest:List Nat} {op:aD}
def RC.value(B:q9 X Wg C S D M)(K:J0 P F){val:Zv}(ho:ops[i]?=bO op)(hw:aX op (yielded ops a.tmps)=bL)(hk:b.kind≠ .early)(y:qM P op.op=bL)
  (m:∀t d,(bG a.eval op).run (wf P F) (re w t d)= .ok (.value val) (re w' t d))(hn:RC P ty Wg C S D M c vals o X p rg r (G (b.at (a.put op.dst val) (.inRegion ops rest::k)) cs) w' G'):
  RC P ty Wg C S D M c vals o X p rg r (G (b.at a (.inRegion ops (i::rest)::k)) cs) w G':=fun k0 gs v sl t hJ Y x=>by
 obtain⟨N,q,v1,z,t1,k1,H,L,O,Q⟩:=O6 (w':=w') (sl:=sl) (Yi B) (g':=G (b.at (a.put op.dst val) (.inRegion ops rest::k)) cs) rfl rfl rfl (fun v x=>by
  obtain⟨n,ba,g⟩:=(EF (K.fit X) a.eval op y).gJ (re w v.tape v.drawn) v #[] x (by rw[m];trivial) (fun f H w1 h=>by rw[m]at h;cases h);obtain⟨I,Z⟩:=g.run;rw[m]at I;have l:=g.sm;rw[m]at l;have j:Sm P X (re w' v.tape v.drawn) n:=l;refine⟨n,listed P b.fn a op v,stepG_value ho hw hk I, ?_,g.kept,fun e he=>?_,g.grows⟩;have U:n.tape=v.tape:=j.tape;have V:n.drawn=v.drawn:=j.drawn;rw[U,V];exact j;have:=mem_listed he;rw[Z]at this;exact g.evs e this) hJ Y x
 obtain⟨J,s,v2,E,t2,k2,W,w2,r2,R,T⟩:=hn k1 q v1 z t1 L O Q;exact⟨N+J,s,v2,E,t2,k2,W,w2,r2,ql H R,T⟩
def RC.none(B:q9 X Wg C S D M)(K:J0 P F)(ho:ops[i]?=bO op)(hw:aX op (yielded ops a.tmps)=bL)(hk:b.kind≠ .early)(y:qM P op.op=bL)
  (m:∀t d,(bG a.eval op).run (wf P F) (re w t d)= .ok .skip (re w' t d))(hn:RC P ty Wg C S D M c vals o X p rg r (G (b.at (a.put op.dst bJ) (.inRegion ops rest::k)) cs) w' G'):
  RC P ty Wg C S D M c vals o X p rg r (G (b.at a (.inRegion ops (i::rest)::k)) cs) w G':=fun k0 gs v sl t hJ Y x=>by
 obtain⟨N,q,v1,z,t1,k1,H,L,O,Q⟩:=O6 (w':=w') (sl:=sl) (Yi B) (g':=G (b.at (a.put op.dst bJ) (.inRegion ops rest::k)) cs) rfl rfl rfl (fun v x=>by
  obtain⟨n,ba,g⟩:=(EF (K.fit X) a.eval op y).gJ (re w v.tape v.drawn) v #[] x (by rw[m];trivial) (fun f H w1 h=>by rw[m]at h;cases h);obtain⟨I,Z⟩:=g.run;rw[m]at I;have l:=g.sm;rw[m]at l;have j:Sm P X (re w' v.tape v.drawn) n:=l;refine⟨n,listed P b.fn a op v,stepG_none ho hw hk I, ?_,g.kept,fun e he=>?_,g.grows⟩;have U:n.tape=v.tape:=j.tape;have V:n.drawn=v.drawn:=j.drawn;rw[U,V];exact j;have:=mem_listed he;rw[Z]at this;exact g.evs e this) hJ Y x
 obtain⟨J,s,v2,E,t2,k2,W,w2,r2,R,T⟩:=hn k1 q v1 z t1 L O Q;exact⟨N+J,s,v2,E,t2,k2,W,w2,r2,ql H R,T⟩
end
end
end A
namespace A
open Go Go.Conc
open Go.ConcR (Payload)
variable [pn:Pn]
section
variable {G':Zg→Zy→Nat→Prop}
section
variable [Payload] {P:aV} {F:Array Func} {dm:Frame} {ty:TypeId} {Wg C:Nat} {S:Nat->Prop} {D M c:Nat} {vals:List Value} {o:Nat->Obj} {X:Nat->Prop} {p rg r:Nat} {w:World}
def RC.lift(B:q9 X Wg C S D M)(K:J0 P F)(j:gN P dm){End:Zg->Zy->Prop}(n:∀g w t d,End g (A.re w t d)↔End g w)(h:∀g w,End g w->¬sW P g)
  {fr:Zf}{cs:List Zf}(m:Xv P fr\/∃f a,Ys P F f/\Mc P f/\fr=bF (wf P F) f a .normal)(i:∀x∈cs,fK P x)(hk:fr.kind= .normal)(b:∀t d,∃fr' cs' w',Steps (wf P F) (lone fr [dm]<|A.re w t d) (lone fr' cs' w')/\End (Z0 fr' cs') w'):
  RC P ty Wg C S D M c vals o X p rg r (Z0 fr cs) w (fun g2 w' r'=>r'=r/\∃g' l,End g' w'/\g'.callers=l++[dm]/\g2={g' with callers:=l++cs}):=fun k U v sl t G E H=>by
 obtain⟨N,e,T,q,R,I,g',w',g2,J,L,O,Q,s⟩:=A.lift (sl:=sl) K j (Yi B) n h m hk b i G E H;obtain⟨l,y,z,_⟩:=s.top;exact⟨N,e,T,q,R,I,g2,w',r,J,L,O,s.sm,rfl,g',l,Q,y,z⟩
def RC.calls(B:q9 X Wg C S D M)(K:J0 P F)(y:gN P dm){f:FuncId}{args:Za}{cs:List Zf}{R:(Nat->Question->Nat)->Nat->Ending->Zy->Prop}(I:Ys P F f)(s:∀x∈cs,fK P x)(H:∀t d w',¬R t d .outgrown w')
  (h:∀t d,Calls (wf P F) f args (A.re w t d)<|R t d):
  RC P ty Wg C S D M c vals o X p rg r (Z0 (bF P f args .normal) cs) w (fun g' w' r'=>r'=r/\∃e fr,(∃t d t1 d1,R t d e<|A.re w' t1 d1)/\g'=Z0 fr cs/\fr.fn=f/\zK P F fr w' e):=by
 have z:bF (wf P F) f args .normal=bF P f args .normal:=zdt I.1 args _;have G:Xv P (bF P f args .normal)\/∃f' a,Ys P F f'/\Mc P f'/\bF P f args .normal=bF (wf P F) f' a .normal:=by
  by_cases J:Mc P f;exact .inr ⟨f,args,I,J,z.symm⟩;left;rw[<-z];exact j_ K.codes I J args ⟨by simp,by simp⟩
 refine(RC.lift B K y
  (End:=fun g' w'=>∃e fr t d t1 d1,R t d e (A.re w' t1 d1)/\e≠ .outgrown/\g'=Z0 fr [dm]/\fr.fn=f/\fr.leaving (wf P F) (A.re w' t1 d1) e) (fun g' w' t d=>Iff.rfl) ?_ G s rfl ?_).trans ?_
 rintro g' w' ⟨e,fr,t,d,t1,d1,_,i,rfl,_,k⟩ ⟨_,hd⟩;cases e with
 |outgrown=>exact i rfl
 |returned v=>
  obtain⟨a,b,_⟩:=k;rcases hd with⟨j,_⟩|⟨_,j,_⟩
  have g:fr.mode= .run:=j;rw[a]at g;cases g;have g:fr.defers=[_]:=j;rw[b]at g;cases g
 |panicked c=>
  obtain⟨a,b,_⟩:=k;rcases hd with⟨j,_⟩|⟨_,j,_⟩
  have g:fr.mode= .run:=j;rw[a]at g;cases g;have g:fr.defers=[_]:=j;rw[b]at g;cases g
 intro t d;obtain⟨e,w',fr,n,q,E,k⟩:=h t d [dm];rw[z]at q;have i:e≠ .outgrown:=by rintro rfl;exact H _ _ _ n
 refine⟨fr,[dm],w', ?_,e,fr,t,d,w'.tape,w'.drawn,n,i,rfl,E,k⟩;cases e with
 |outgrown=>exact absurd rfl i
 |returned v=>exact q
 |panicked c=>exact q
 rintro O w' r' ⟨rfl,g',l,⟨e,fr,t,d,t1,d1,n,i,rfl,E,k⟩,m,rfl⟩;have:l=[]:=by
  have L:[dm]=l++[dm]:=m;have:=congrArg List.length L;simp only[zj,jd]at this;exact xa<|by omega
 subst this;exact .refl ⟨rfl,e,fr,⟨t,d,t1,d1,n⟩,rfl,E,i,t1,d1,k⟩
end
section
variable [Payload] {P:aV} {F:Array Func} {ty:TypeId} {Wg C:Nat} {S:Nat->Prop} {D M c:Nat} {vals:List Value} {o:Nat->Obj} {X:Nat->Prop} {p rg r:Nat} {w:World} {fr c0:Frame} {cs:List Frame}
def RC.ret(B:q9 X Wg C S D M){val:Zv}(hp:Ys P F fr.fn)(h:zK P F fr w<|.returned val)(hn:RC P ty Wg C S D M c vals o X p rg r (Z0 (c0.finish val) cs) w G'):RC P ty Wg C S D M c vals o X p rg r (Z0 fr (c0::cs)) w G':=fun k0 gs v sl t hJ Z i=>by
 obtain⟨_,t0,d0,G,H,I,fn,J,K⟩:=h;have j:P.funcs[fr.fn]?=bO fn:=by rw[<-hp.1];exact J
 obtain⟨N,k,v1,x,t1,k1,L,O,Q,R⟩:=O6 (w':=w) (sl:=sl) (Yi B) (g:=Z0 fr (c0::cs)) (g':=Z0 (c0.finish val) cs) rfl rfl rfl (fun v i=>by
  have q:Sm P X w w:=i.self.re _ _;have n:=Oo q K v.tape v.drawn;obtain⟨f,s,a⟩:=(QM (P:=P) (F:=F) (X:=X) fn fr.tmps).gJ (re w v.tape v.drawn) v #[] i (by rw[n];trivial);obtain⟨z,h2⟩:=a.run;rw[n]at z;have d:=a.sm;rw[n]at d;have b:Sm P X (re w v.tape v.drawn) f:=d;refine⟨f,seen P fr.fn s, ?_, ?_,a.kept,fun e he=>a.evs e<|mem_seen he,a.grows⟩;have m:(results fn fr.tmps).run P v= .ok val f:=z;simp only[aZ,Z0,aI,doReturn,G,H,I,j,zg,m,h2];rfl;have V:f.tape=v.tape:=b.tape;have W:f.drawn=v.drawn:=b.drawn;rw[V,W];exact b) hJ Z i
 obtain⟨E,l,v2,y,t2,k2,Y,w2,r2,T,U⟩:=hn k1 k v1 x t1 O Q R;exact⟨N+E,l,v2,y,t2,k2,Y,w2,r2,ql L T,U⟩
def RC.raise(B:q9 X Wg C S D M){chain:List PanicEntry}(h:zK P F fr w<|.panicked chain)(a:∃fn,P.funcs[fr.fn]?=bO fn)(e:RC P ty Wg C S D M c vals o X p rg r (Z0 (c0.raise chain) cs) w G'):RC P ty Wg C S D M c vals o X p rg r (Z0 fr (c0::cs)) w G':=by
 obtain⟨_,g,f,b,d,_⟩:=h;obtain⟨fn,a⟩:=a;refine RC.ctl B rfl rfl (fun v=>?_) e;simp[aZ,Z0,aI,Frame.catches,b,d,a]
end
end
end A
namespace A
open Go Go.Conc Go.RowKit Go.Conc.Lib
variable [pn:Pn] [py:Go.ConcR.Payload]
section
variable {a:Act} {sv:Zv}
noncomputable def LB:=Ql<|Qk<|Qb K5
noncomputable def xC(Lb D Bd Bs C Wg:Nat)(bs ls:Int)(cp:Nat)(y6 y29 y30 y31 y32 gV y34:Zv):Act:=⟨#[zo Lb,zo D,bJ,zo Bd,zo Bs,zo Wg,y6,zo Lb,zo Lb,zk Lb 12,zi ls,zo Lb,zo Lb,zk Lb 11,zi bs,zi cp,.chan<|bO C,.tuple #[],.func (.func 169) #[] #[zo Wg,zo Bs,zo Bd],zo Lb,zo Lb,zk Lb 11,zi bs,zi<|bs+1,zo Lb,zo Lb,zk Lb 12,zi ls,.chan<|bO C,y29,y30,y31,y32,gV,y34],[dcall 167 #[zo Wg]]⟩
section
variable {S:Nat->Prop} {o:Nat->Obj} {X:Nat->Prop} {D M Bd Bs C Wg c p r Lb cp:Nat} {es:Array aK} {vals:List Value} {w:World} {bs ls:Int} {cs:List Frame} {G':aS->World->Nat->Prop}
def RC.pure(B:q9 X Wg C S D M){b:Zf}{k:List Item}{ops:Array aD}{i:Nat}{rest:List Nat}{op:aD}(v:Zv)(ho:ops[i]?=bO op)(hw:aX op (yielded ops a.tmps)=bL)(hk:b.kind≠ .early)
  (f:∀w,(bG a.eval op).run bM w= .ok (.value v) w)(d:∀w,(bG a.eval op).events bM w #[]=#[])
  (e:RC bM 245 Wg C S D M c vals o X p 0 r (G (b.at (a.put op.dst v) (.inRegion ops rest::k)) cs) w G'):RC bM 245 Wg C S D M c vals o X p 0 r (G (b.at a (.inRegion ops (i::rest)::k)) cs) w G':=
 RC.ctl B rfl rfl (fun v=>by rw[stepG_value ho hw hk<|f v];unfold listed;rw[d v,seen_none]) e
theorem xm8(B:q9 X Wg C S D M)(K:Kn D M Bd Bs C es S o)
  (f:RC bM 245 Wg C S D M c vals o X p 0 r (G ((base 106).at (xC Lb D Bd Bs C Wg bs ls cp bJ bJ bJ bJ bJ bJ bJ) [.code LB,.inLoop LB,.inBlock 0]) cs) w G'):
  RC bM 245 Wg C S D M c vals o X p 0 r (G ((base 106).at (pF Lb D Bd Bs C Wg bs ls cp) [.inRegion nO [],.code K5]) cs) w G':=by
 have d:K5= .seq (.region 6 #[{dst:=bO 28,op:=Op.load 235<|Operand.tmp 4,type:=235,pos:= "look.go:84",after:=#[],guard:=bN}] bK) (.block 0<|.loop LB):=by kernel_rfl
 rw[d];refine RC.ctl B rfl rfl (fun _=>bB) ?_;refine RC.ctl B rfl rfl (fun _=>aO) ?_
 (refine RC.ctl B rfl rfl (fun _=>stepG_region) ?_;simp only[jg,zh,jn,Nat.reduceAdd,jy,List.range,List.range.loop])
 refine RC.read B (g':=G ((base 106).at (xC Lb D Bd Bs C Wg bs ls cp bJ bJ bJ bJ bJ bJ bJ) [.inRegion #[{dst:=bO 28,op:=Op.load 235<|Operand.tmp 4,type:=235,pos:= "look.go:84",after:=#[],guard:=bN}] [],.code<|.block 0<|.loop LB]) cs) (a:=zq Bs 0) rfl rfl K.ss (fun v hk=>?_) ?_
 ·have b:=K.oL hk
  have g:(bG (pF Lb D Bd Bs C Wg bs ls cp).eval {dst:=bO 28,op:=Op.load 235<|Operand.tmp 4,type:=235,pos:= "look.go:84",after:=#[],guard:=bN}).run bM v= .ok (.value<|.chan<|bO C) v:=by
   unfold bG;simp only[pF];simp[go_sem,b]
  have e:(bG (pF Lb D Bd Bs C Wg bs ls cp).eval {dst:=bO 28,op:=Op.load 235<|Operand.tmp 4,type:=235,pos:= "look.go:84",after:=#[],guard:=bN}).events bM v #[]=#[⟨.cell<|zq Bs 0,bK,bK⟩]:=by
   unfold bG;simp only[pF];simp[go_sem,b]
  rw[stepG_value rfl rfl (by decide) g];unfold listed;rw[e,seen_eq (by kernel_rfl)<|by simp];rfl
 refine RC.ctl B rfl rfl (fun _=>bB) ?_;refine RC.ctl B rfl rfl (fun _=>stepG_block) ?_;refine RC.ctl B rfl rfl (fun _=>stepG_loop) ?_;exact f
end
def WS:Array aD:=#[{dst:=bO 29,op:=Op.recv 235 (Operand.tmp 28) bL,type:=0,pos:= "look.go:84",after:=#[],guard:=bN},{dst:=bO 30,op:=Op.extract (Operand.tmp 29) 1,type:=4,pos:= "look.go:84",after:=#[{on:=0,ground:=Ground.data}],guard:=bN}]
def xxe:aD:={dst:=bO 30,op:=Op.extract (Operand.tmp 29) 1,type:=4,pos:= "look.go:84",after:=#[{on:=0,ground:=Ground.data}],guard:=bN}
def Gz{op:aD}{tt:Bool}(hop:op.op=Op.extract (Operand.tmp 29) 1)(h:a.eval (.tmp 29)= .tuple #[sv,.bool tt])(w:Zy):(bG a.eval op).run bM w= .ok (.value<|.bool tt) w/\(bG a.eval op).events bM w #[]=#[]:=by
 unfold bG;simp only[hop,h];exact⟨by simp[go_sem],by simp[go_sem]⟩
noncomputable def MQ:=Qk<|Qb<|Qb LB
def xs9:LB= .seq (.region 7 WS bK) (.seq (.cond (.tmp 30) .skip<|.exit 0)<|.block 1 MQ):=by kernel_rfl
abbrev Gp:Zv:= .agg #[zi 0,.string ⟨#[]⟩]
section
variable {S:Nat->Prop} {o:Nat->Obj} {X:Nat->Prop} {D M Bd Bs C Wg c p r Lb cp:Nat} {vals:List Value} {w:World} {bs ls:Int} {cs:List Frame} {G':aS->World->Nat->Prop} {y6 y29 y30 y31 y32 gV y34:Value}
def Rs(B:q9 X Wg C S D M){tt:Bool}(b:got vals Gp r= .tuple #[sv,.bool tt])
  (d:RC bM 245 Wg C S D M c vals o X p 0 (vO vals r) (G ((base 106).at (xC Lb D Bd Bs C Wg bs ls cp y6 (.tuple #[sv,.bool tt]) (.bool tt) y31 y32 gV y34) [.code<|.cond (.tmp 30) .skip<|.exit 0,.code<|.block 1 MQ,.inLoop LB,.inBlock 0]) cs) w G'):
  RC bM 245 Wg C S D M c vals o X p 0 r (G ((base 106).at (xC Lb D Bd Bs C Wg bs ls cp y6 y29 y30 y31 y32 gV y34) [.code LB,.inLoop LB,.inBlock 0]) cs) w G':=by
 have a:∀k,RC bM 245 Wg C S D M c vals o X p 0 r (G ((base 106).at (xC Lb D Bd Bs C Wg bs ls cp y6 y29 y30 y31 y32 gV y34) (.code (.seq (.region 7 WS bK)<|.seq (.cond (.tmp 30) .skip<|.exit 0)<|.block 1 MQ)::k)) cs) w G'->RC bM 245 Wg C S D M c vals o X p 0 r (G ((base 106).at (xC Lb D Bd Bs C Wg bs ls cp y6 y29 y30 y31 y32 gV y34) (.code LB::k)) cs) w G':=fun k h=>by rw[xs9];exact h
 refine a _ ?_;refine RC.ctl B rfl rfl (fun _=>aO) ?_;refine RC.ctl B rfl rfl (fun _=>stepG_region) ?_;rw[show List.range WS.size=[0,1]from rfl];refine RC.recv B (So rfl rfl (by decide) rfl rfl Tryz.underlying235 Tryz.zeroValue248) ?_;rw[b,served_G];refine RC.pure B (op:=xxe) _ rfl rfl (by decide) (fun w=>(Gz rfl rfl w).1) (fun w=>(Gz rfl rfl w).2) ?_;refine RC.ctl B rfl rfl (fun _=>bB) ?_;refine RC.ctl B rfl rfl (fun _=>aO) ?_;exact d
def Ds(B:q9 X Wg C S D M)(b:vals.length<=r)
  (a:RC bM 245 Wg C S D M c vals o X p 0 r (G {(base 106).at (xC Lb D Bd Bs C Wg bs ls cp y6 (.tuple #[Gp,.bool bK]) (.bool bK) y31 y32 gV y34) []with mode:= .returning} cs) w G'):
  RC bM 245 Wg C S D M c vals o X p 0 r (G ((base 106).at (xC Lb D Bd Bs C Wg bs ls cp y6 y29 y30 y31 y32 gV y34) [.code LB,.inLoop LB,.inBlock 0]) cs) w G':=by
 refine Rs B (by unfold got;rw[aB<|by omega]) ?_;rw[show vO vals r=r by unfold vO;rw[aB<|by omega]];refine RC.ctl B rfl rfl (fun _=>stepG_cond rfl) ?_;refine RC.ctl B rfl rfl (fun _=>stepG_exit rfl) ?_;exact RC.ctl B rfl rfl (fun _=>stepG_end) a
end
def GN:aD:={dst:=bO 31,op:=Op.extract (Operand.tmp 29) 0,type:=248,pos:= "look.go:84",after:=#[],guard:=bN}
def OW:aD:={dst:=bO 6,op:=Op.alloc 248,type:=0,pos:= "look.go:84",after:=#[],guard:=bN}
def OX:aD:={dst:=bN,op:=Op.store 248 (Operand.tmp 6)<|Operand.tmp 31,type:=0,pos:= "look.go:84",after:=#[{on:=1,ground:=Ground.data},{on:=0,ground:=Ground.data},{on:=0,ground:=Ground.phase},{on:=1,ground:=Ground.phase}],guard:=bN}
def Hf:Array aD:=#[GN,OW,OX]
def GQ:aD:={dst:=bO 32,op:=Op.move<|Operand.tmp 0,type:=187,pos:= "look.go:85",after:=#[],guard:=bN}
def OY:aD:={dst:=bO 33,op:=Op.load 248<|Operand.tmp 6,type:=248,pos:= "look.go:85",after:=#[],guard:=bN}
def GU:aD:={dst:=bO 34,op:=Op.call {callee:=Callee.value<|Operand.func 172,args:=#[Operand.tmp 32,Operand.tmp 33],argTypes:=#[187,248]},type:=0,pos:= "look.go:85",after:=#[{on:=0,ground:=Ground.data},{on:=1,ground:=Ground.data}],guard:=bN}
def Hg:Array aD:=#[GQ,OY,GU]
def xpu:MQ= .seq (.region 8 Hf bK) (.region 9 Hg bK):=by kernel_rfl
abbrev oU(x:Int)(y:ByteArray):Obj:= .cells #[zi x,.string y] 248
abbrev pX(x:Int)(y:ByteArray):Zv:= .agg #[zi x,.string y]
section
variable {F:Array Func} {x:Int} {y:ByteArray}
def xwo(w:Zy):(zeroValue 248).run (wf bM F) w= .ok (pX 0 ⟨#[]⟩) w:=by kernel_rfl
def WI(w:Zy):(sizeOf 248).run (wf bM F) w= .ok 2 w:=by kernel_rfl
def VT(w:Zy):(isAgg 248).run (wf bM F) w= .ok bL w:=by kernel_rfl
def xuf(w:Zy):(bG a.eval OW).run (wf bM F) w= .ok (.value<|zo w.heap.size) (w.alloc<|oU 0 ⟨#[]⟩):=by
 unfold bG;simp only[OW];simp[go_sem,xwo,WI,VT]
def xug{N:Nat}(c:a.eval (.tmp 6)=zo N)(b:a.eval (.tmp 31)=pX x y){w:Zy}(d:w.heap.size=N):(bG a.eval OX).run (wf bM F) (w.alloc<|oU 0 ⟨#[]⟩)= .ok .skip (w.alloc<|oU x y):=by
 subst d;unfold bG;simp only[OX,c,b];simp[go_sem,WI,VT]
def xuh{N:Nat}(b:a.eval (.tmp 6)=zo N){w:Zy}(c:w.heap.size=N):(bG a.eval OY).run (wf bM F) (w.alloc<|oU x y)= .ok (.value<|pX x y) (w.alloc<|oU x y):=by
 subst c;unfold bG;simp only[OY,b];simp[go_sem,WI,VT]
def Gy{tt:Bool}(h:a.eval (.tmp 29)= .tuple #[sv,.bool tt])(w:Zy):(bG a.eval GN).run bM w= .ok (.value sv) w/\(bG a.eval GN).events bM w #[]=#[]:=by
 unfold bG;simp only[GN,h];exact⟨by simp[go_sem],by simp[go_sem]⟩
def Aj(h:a.eval (.tmp 0)=sv)(w:Zy):(bG a.eval GQ).run bM w= .ok (.value sv) w/\(bG a.eval GQ).events bM w #[]=#[]:=by
 unfold bG;simp only[GQ,h];exact⟨by simp[go_sem],by simp[go_sem]⟩
def U7{u v:Zv}(h:a.eval (.tmp 32)=u)(b:a.eval (.tmp 33)=v)(w:Zy):(bG a.eval GU).run bM w= .ok (.enter 172 #[u,v]) w/\(bG a.eval GU).events bM w #[]=#[]:=by
 subst h b;refine⟨?_,events_call_body rfl Tryz.func172 (by kernel_rfl) (by kernel_rfl) #[]⟩;have h:=run_call_body (a:=a) (w:=w) (o:=GU) (args:=#[Operand.tmp 32,Operand.tmp 33]) (ats:=#[187,248]) rfl Tryz.func172 (by kernel_rfl) (by kernel_rfl);rw[h];simp
def NZ:Mc bM 106:=⟨Tryz.f106,_,Tryz.func106,rfl,by decide+kernel⟩
end
section
variable {F:Array Func} {dm:Frame} {S:Nat->Prop} {o:Nat->Obj} {X:Nat->Prop} {D M Bd Bs C Wg c p Lb cp:Nat} {vals:List Value} {bs ls:Int} {cs:List Frame} {G':aS->World->Nat->Prop}
theorem Dg(B:q9 X Wg C S D M)(K:J0 bM F)(k:gN bM dm)(b:Ys bM F 172)(j:∀x∈cs,fK bM x){I:Nat->Zy->Prop}{J:List PanicEntry->Zy->Prop}(l:∀r w t d,I r (A.re w t d)->I r w)(m:∀ch w t d,J ch (A.re w t d)->J ch w)
  (U:∀r,r<vals.length->∃x y,vals[r]?=bO (pX x y)/\∀w,I r w->∀t d,Calls (wf bM F) 172 #[zo Lb,pX x y] (A.re (w.alloc<|oU x y) t d) fun e w'=>match e with| .returned _=>I (r+1) w'| .panicked ch=>J ch w'| .outgrown=>False)
  (Q:∀a w',I vals.length w'->a.defers=[dcall 167 #[zo Wg]]->RC bM 245 Wg C S D M c vals o X p 0 vals.length (G {(base 106).at a []with mode:= .returning} cs) w' G')
  (O:∀r a todo ch w',J ch w'->a.defers=[dcall 167 #[zo Wg]]->RC bM 245 Wg C S D M c vals o X p 0 r (G {(base 106).at a todo with mode:= .panicking ch} cs) w' G'):
  ∀n r w,r+n=vals.length->I r w->∀y6 y29 y30 y31 y32 gV y34,RC bM 245 Wg C S D M c vals o X p 0 r (G ((base 106).at (xC Lb D Bd Bs C Wg bs ls cp y6 y29 y30 y31 y32 gV y34) [.code LB,.inLoop LB,.inBlock 0]) cs) w G':=by
 intro n;induction n with
 |zero=>
  intro r w T g y6 y29 y30 y31 y32 gV y34;obtain rfl:r=vals.length:=by omega
  exact Ds B (ze _)<|Q _ _ g rfl
 |succ n ih=>
  intro r w T g y6 y29 y30 y31 y32 gV y34;obtain⟨x,y,q,L⟩:=U r (by omega);refine Rs B (sv:=pX x y) (tt:=bL) (by unfold got;rw[aA<|by omega,Xo,q];rfl) ?_;rw[show vO vals r=r+1 by unfold vO;rw[aA<|by omega]];refine RC.ctl B rfl rfl (fun _=>stepG_cond (t:=bL) rfl) ?_;refine RC.ctl B rfl rfl (fun _=>stepG_skip) ?_;refine RC.ctl B rfl rfl (fun _=>stepG_block) ?_;rw[xpu];refine RC.ctl B rfl rfl (fun _=>aO) ?_;refine RC.ctl B rfl rfl (fun _=>stepG_region) ?_;rw[show List.range Hf.size=[0,1,2]from rfl];refine RC.pure B (op:=GN) (pX x y) rfl rfl (by decide) (fun w=>(Gy rfl w).1) (fun w=>(Gy rfl w).2) ?_;refine RC.value (F:=F) (w':=w.alloc<|oU 0 ⟨#[]⟩) B K (op:=OW) (val:=zo w.heap.size) rfl rfl (by decide) (by decide+kernel) (fun t d=>xuf _) ?_;refine RC.none (F:=F) (w':=w.alloc<|oU x y) B K (op:=OX) rfl rfl (by decide) (by decide+kernel) (fun t d=>xug (w:=A.re w t d) (N:=w.heap.size) rfl rfl rfl) ?_;refine RC.ctl B rfl rfl (fun _=>bB) ?_;refine RC.ctl B rfl rfl (fun _=>stepG_region) ?_;rw[show List.range Hg.size=[0,1,2]from rfl];refine RC.pure B (op:=GQ) (zo Lb) rfl rfl (by decide) (fun w=>(Aj rfl w).1) (fun w=>(Aj rfl w).2) ?_;refine RC.value (F:=F) (w':=w.alloc<|oU x y) B K (op:=OY) (val:=pX x y) rfl rfl (by decide) (by decide+kernel) (fun t d=>xuh (w:=A.re w t d) (N:=w.heap.size) rfl rfl) ?_;refine RC.ctl B rfl rfl (fun v=>by
   rw[stepG_enter (o:=GU) (f:=172) (args:=#[zo Lb,pX x y]) rfl rfl (by decide) (U7 rfl rfl v).1];unfold listed;rw[(U7 rfl rfl v).2,seen_none]) ?_
  refine(RC.calls (dm:=dm) (R:=fun t d e w'=>match e with| .returned _=>I (r+1) w'| .panicked ch=>J ch w'| .outgrown=>False) B K k b ?_ (fun _ _ _ h=>h)<|L w g).trans ?_;intro z s;rcases xf.1 s with rfl|s
  exact .inl NZ;exact j z s;rintro Y w' Z ⟨rfl,e,W,⟨t,d,t1,V,i⟩,rfl,E,H⟩;cases e with
  |outgrown=>exact i.elim
  |returned val=>
   refine RC.ret (F:=F) B (by rw[E];exact b) H ?_;rw[IB];refine RC.ctl B rfl rfl (fun _=>bB) ?_;refine RC.ctl B rfl rfl (fun _=>stepG_inBlock) ?_;refine RC.ctl B rfl rfl (fun _=>stepG_inLoop) ?_;exact ih (r+1) w' (by omega) (l _ _ _ _ i) _ _ _ _ _ _ _
  |panicked ch=>
   refine RC.raise (F:=F) B H ⟨_,by rw[E];exact Tryz.func172⟩ ?_;rw[Frame.raise_at];exact O _ _ _ _ _ (m _ _ _ _ i) rfl
end
end
end A
namespace A
open Go Go.Conc Go.RowKit Go.Conc.Lib
open Go.ConcN (sumTo WgLive)
open Go.ConcR.Gen (body_wait)
variable [pn:Pn] [py:Go.ConcR.Payload]
section
variable {J:List PanicEntry→Zy→Prop} {w v:Zy} {I:Nat→Zy→Prop}
def AG{P:Zp}{b:Zf}{a:Act}{todo:List Item}{cs:List Zf}{w:Zy}{f:FuncId}{fn:Func}{args:Za}{c:Code}(hd:a.defers=[dcall f args])(g:P.funcs[f]?=bO fn)(d:(fn.name== "runtime.NumGoroutine")=bK)(e:fn.body=bO c){m:FrameMode}(i:m= .returning\/∃ch,m= .panicking ch):
  aZ P bL (G {b.at a todo with mode:=m} cs) w=
   .go (G ((baseD f).at {tmps:=args++aW (fn.ntmps-args.size) bJ,defers:=[]} [.code c]) ({b.at ⟨a.tmps,[]⟩ todo with mode:=m}::cs)) w #[]:=by
 have h:¬fn.name= "runtime.NumGoroutine":=by simpa using d
 rw[<-enter_atD args g e];rcases i with rfl|⟨ch,rfl⟩
 simp[G,aZ,aI,callDeferred,Frame.at,hd,dcall,invoke,callFunc,g,h,e,bA,seen_none];simp[G,aZ,aI,callDeferred,Frame.at,hd,dcall,invoke,callFunc,g,h,e,bA,seen_none]
def e_:(Go.Proofs.Tryz.f167.name== "runtime.NumGoroutine")=bK:=by kernel_rfl
def AH:Go.Proofs.Tryz.f167.ntmps=84:=by kernel_rfl
def c_:Go.Proofs.Tryz.f167.body=bO (body_wait ED):=by kernel_rfl
def SL.of_heap{Lb:Nat}{bs ls:Int}(h:SL Lb bs ls w)(e:v.heap[Lb]?=w.heap[Lb]?):SL Lb bs ls v:=by
 have:=h.base;have:=h.last;exact⟨by rw[<-h.base];simp only[aQ,e],by rw[<-h.last];simp only[aQ,e]⟩
def Lh{P:Zp}{X:ZP}(f:Sm P X w v){r:Nat}{cs:Za}{e:Zt}{i:Nat×Nat}(h:w.heap[r]?=bO (.cells cs e i))(b:cs≠#[]):¬X r:=by
 intro g;obtain⟨o,k,d,_,a⟩:=f.dead r g;rw[h]at d;cases d;rcases a with⟨a,_⟩|⟨c,j,a,_⟩
 simp[Obj.isChan]at a;cases a;exact b rfl
def zxj{P:Zp}{X:ZP}(d:Sm P X w v){r:Nat}{es:Array aK}{k:Nat}(h:w.heap[r]?=bO (.map es k)):¬X r:=by
 intro e;obtain⟨o,g,b,_,a⟩:=d.dead r e;rw[h]at b;cases b;rcases a with⟨a,_⟩|⟨c,f,a,_⟩
 simp[Obj.isChan]at a;cases a
theorem cells_of_cell{w:Zy}{a:Addr}{v:Zv}(h:w.cell? a=bO v):∃cs e i,w.heap[a.block]?=bO (.cells cs e i)/\cs≠#[]:=by
 unfold aQ at h;split at h
 rename_i cs e i hb
 refine⟨cs,e,i,hb, ?_⟩;rintro rfl;simp at h;cases h
def iI(w1:Zy)(D M:Nat)(oD oM:Obj):Zy:={w1 with heap:=(w1.heap.setIfInBounds D oD).setIfInBounds M oM}
section
variable {F:Array Func} {dm:Frame} {w:World} {Lb D M clock:Nat} {es:Array aK} {rm nx:Value} {bs ls:Int} {cp:Nat} {c0:Frame} {cs:List Frame}
def xmt{v:Zy}{c d:Nat}(f:c=7\/c=8)(i:v.heap[D]?=bO (.cells #[rm,.map<|bO M,nx] py.ety))(j:v.heap[M]?=bO (.map es clock))(g:∀e∈es.toList,eZ e):Kn D M v.heap.size (iD v.heap.size c) (gF v.heap.size c) es (Sx v.heap.size D c)<|ox<|(eH v D cp c).at d:=by
 have a:D<v.heap.size:=(za.1 i).1;have b:M<v.heap.size:=(za.1 j).1;obtain⟨n1,n,k,p⟩:=L_ v D cp f d;have l:=(uQ v D cp f a d).trans i;have m:=(uQ v D cp f b d).trans j;have ox_of:∀{r:Nat} {o:Obj},((eH v D cp c).at d).heap[r]?=bO o->ox ((eH v D cp c).at d) r=o:=fun {r o} h=>by unfold ox;rw[h];rfl
 exact⟨.inl rfl,.inr<|.inl rfl,.inr<|.inr rfl,⟨rm,nx,ox_of l⟩,ox_of n1,ox_of k,⟨clock,ox_of m⟩,g⟩
def Sh(x y:Zv):(#[x,y]++aW (35-#[x,y].size) bJ:Za)=#[x,y,bJ,bJ,bJ,bJ,bJ,bJ,bJ,bJ,bJ,bJ,bJ,bJ,bJ,bJ,bJ,bJ,bJ,bJ,bJ,bJ,bJ,bJ,bJ,bJ,bJ,bJ,bJ,bJ,bJ,bJ,bJ,bJ,bJ]:=by
 rw[show 35-#[x,y].size=33 from rfl];apply Array.ext';simp[List.replicate]
def q_(x y:Zv):bF bM 106 #[x,y] .normal=(base 106).at ⟨#[x,y,bJ,bJ,bJ,bJ,bJ,bJ,bJ,bJ,bJ,bJ,bJ,bJ,bJ,bJ,bJ,bJ,bJ,bJ,bJ,bJ,bJ,bJ,bJ,bJ,bJ,bJ,bJ,bJ,bJ,bJ,bJ,bJ,bJ],[]⟩ [.code vF]:=by
 rw[enter_at (c:=vF) _ Tryz.func106<|by kernel_rfl,Tryz.ntmps106,Sh]
end
section
variable {F:Array Func} {dm:Frame} {w:World} {Lb D M clock:Nat} {es:Array aK} {rm nx:Value} {bs ls:Int} {cp:Nat} {c0:Frame} {cs:List Frame}
def S9(c0:Zf)(cs:List Zf)(I:Zy->Prop)(J:List PanicEntry->Zy->Prop)(g:Zg)(w:Zy):Prop:=
 ∃a todo,a.defers=[]/\((I w/\g=G {(base 106).at a todo with mode:= .returning} (c0::cs))\/∃ch,J ch w/\g=G {(base 106).at a todo with mode:= .panicking ch} (c0::cs))
def xwr(Wg:Nat)(c0:Zf)(cs:List Zf)(I:Zy->Prop)(J:List PanicEntry->Zy->Prop)(g:Zg)(w:Zy)(_r:Nat):Prop:=
 ∃c:Zf,g=G ((baseD 167).at ⟨#[zo Wg]++aW 83 bJ,[]⟩ [.code<|body_wait ED]) (c::c0::cs)/\S9 c0 cs I J (G {c with mode:=settle c.mode} (c0::cs)) w
def PC{I:Zy->Prop}{w1 w':Zy}{g:Zg}(h:S9 c0 cs I J g w1):RX bM g w' fun g' w2=>w2=w'/\((I w1/\g'=Z0 (c0.finish<|.tuple #[]) cs)\/∃ch,J ch w1/\g'=Z0 (c0.raise ch) cs):=by
 obtain⟨a,d,hd,h⟩:=h;have e:Tryz.f106.results=#[]:=by kernel_rfl
 rcases h with⟨f,rfl⟩|⟨ch,i,rfl⟩;refine(RX.move (es:=#[]) (g':=Z0 (c0.finish<|.tuple #[]) cs) (fun v=>?_) (fun b=>⟨?_,fun x c=>b.2 x<|by simp[G,Z0]at c⊢;exact .inr c⟩) rfl rfl<|by simp).mono ?_;exact stepG_leave rfl hd Tryz.func106 (results_none e _ _ _)<|events_results_none e _ _;exact(b.2 c0<|by simp[G]).finish _;rintro g' w2 ⟨rfl,rfl⟩;exact⟨rfl,.inl ⟨f,rfl⟩⟩;refine(RX.move (es:=#[]) (g':=Z0 (c0.raise ch) cs) (fun v=>?_) (fun b=>⟨(b.2 c0<|by simp[G]).raise _,fun x c=>b.2 x<|by simp[G,Z0]at c⊢;exact .inr c⟩) rfl rfl<|by simp).mono ?_;have j:({(base 106).at a d with mode:= .panicking ch}:Zf).defers=[]:=hd;simp[aZ,G,Z0,aI,Frame.catches,Frame.at,hd,base,Tryz.func106];rintro g' w2 ⟨rfl,rfl⟩;exact⟨rfl,.inr ⟨ch,i,rfl⟩⟩
def Mv{Wg:Nat}{a:Act}{todo:List Item}{m:FrameMode}(b:m= .returning\/∃ch,m= .panicking ch)(hd:a.defers=[dcall 167 #[zo Wg]]){fs:List Zf}(v:Zy):
  aZ bM bL (G {(base 106).at a todo with mode:=m} fs) v= .go (G ((baseD 167).at ⟨#[zo Wg]++aW 83 bJ,[]⟩ [.code<|body_wait ED]) ({(base 106).at ⟨a.tmps,[]⟩ todo with mode:=m}::fs)) v:=by
 rw[AG hd Tryz.func167 e_ c_ b,AH];rfl
abbrev qH(v:Zy)(D M:Nat):Pn:=⟨⟨Pn.N,fun r=>if r=D\/r=M then v.heap[r]?else Pn.V r⟩⟩
def Sm.yA{p1 p2:Pn}{P:Zp}{X:ZP}(h:Sm (pn:=p1) P X w v)(a:@Pn.N p2= @Pn.N p1)(c:∀r,X r-> @Pn.V p2 r= @Pn.V p1 r):Sm (pn:=p2) P X w v:=by
 obtain⟨g,i,j,k,l,m,n,o,e,f⟩:=h;exact @Sm.mk p2 P X w v g i j k l m n o ⟨by rw[a];exact e,fun r b d=>by rw[c r b];exact f r b<|by rw[<-a];exact d⟩
def tP(K:∀p:Pn,J0 (pn:=p) bM F)(bl:gN bM dm)(br:Ys bM F 172)(Q:SL Lb bs ls w)(hD:w.heap[D]?=bO (.cells #[rm,.map<|bO M,nx] py.ety))(hM:w.heap[M]?=bO (.map es clock))(Y:∀e∈es.toList,eZ e)
  (bx:IntKind.i64.wrap (ls-bs)=(cp:Int))(bk:cp<=1000000000)(bw:IntKind.i64.wrap (bs+1)=bs+1)(bv:ls<9223372036854775807)(bo:-9223372036854775808<=bs+1)(hn:bs+1+(cp:Int)=ls+1)
(bt:∀r w t d,I r (A.re w t d)->I r w)(bu:∀ch w t d,J ch (A.re w t d)->J ch w)(bn:∀ch w,J ch w->settle (.panicking ch)= .panicking ch)
  (bh:∀c,c=7\/c=8->I 0 (wF w D M c))
  (hv:∀r,r<(dY es (bs+1) cp).length->∃x y,(dY es (bs+1) cp)[r]?=bO (pX x y)/\∀w,I r w->∀t d,Calls (wf bM F) 172 #[zo Lb,pX x y] (A.re (w.alloc<|oU x y) t d) fun e w'=>match e with| .returned _=>I (r+1) w'| .panicked ch=>J ch w'| .outgrown=>False):
  RX bM (Z0 (bF bM 106 #[zo Lb,zo D] .normal) (c0::cs)) w
   (fun g' w'=>∃w1,w'=iI w1 D M (.cells #[rm,.map<|bO M,nx] py.ety) (.map es clock)/\((I cp w1/\g'=Z0 (c0.finish<|.tuple #[]) cs)\/∃ch,J ch w1/\g'=Z0 (c0.raise ch) cs)):=by
 rintro X m t ⟨⟨gs,v,sl,k,rfl,h0,hJ,f⟩,bq,b7,cb⟩;have S:∀x∈c0::cs,fK bM x:=bq.2;have Z:¬X D:=Lh f hD (by simp);have nM:¬X M:=zxj f hM;obtain⟨cl,b8,b9,bi,bp⟩:=cells_of_cell Q.base;have nL:¬X Lb:=Lh f bi bp;have C:=(f.out D Z).trans hD;have z:=(f.out M nM).trans hM;have vS:SL Lb bs ls v:=Q.of_heap<|f.out Lb nL;have V:v.heap.size=w.heap.size:=f.size;have n:∀x,X x->x<v.heap.size:=fun x l=>by rw[V];exact f.low x l
 have W:=eX es cp<|bs+1;have H:D<v.heap.size:=(za.1 C).1;have O:M<v.heap.size:=(za.1 z).1;have ca:D≠M:=by rintro rfl;rw[C]at z;cases z
 have bg:gs[0]?=bO (G ((base 106).at ⟨#[zo Lb,zo D,bJ,bJ,bJ,bJ,bJ,bJ,bJ,bJ,bJ,bJ,bJ,bJ,bJ,bJ,bJ,bJ,bJ,bJ,bJ,bJ,bJ,bJ,bJ,bJ,bJ,bJ,bJ,bJ,bJ,bJ,bJ,bJ,bJ],[]⟩ [.code vF]) (c0::cs)):=by rw[h0,q_];rfl
 obtain⟨N1,be,i,b5,t1,q1,c,x,y,s,r1,g1,z1,L1,P1,l,hy⟩:=xq4 (sl:=sl) hJ bg nL vS n bx bk bw;have T:0<gs.size:=(za.1 h0).1;obtain⟨k1,J1⟩:=xms (cp:=cp) (d:=i) s T z1 L1 P1 l hy n C z Z nM Y bv bo hn;have S0:Sm (pn:=qH v D M) bM X (re w v.tape v.drawn) v:=f.yA rfl fun r U=>aB fun h=>h.elim (fun e=>Z<|e▸U) fun e=>nM<|e▸U;have S1:Sm (pn:=qH v D M) bM (Xx X v.heap.size D M) (re (wF w D M c) ((eH v D cp c).at i).tape ((eH v D cp c).at i).drawn)<|(eH v D cp c).at i:=by
  have h1:=xof (pn:=qH v D M) (cp:=cp) (d:=i) S0 s C z Z nM (aA<|.inl rfl)<|aA<|.inr rfl;have e1:((eH v D cp c).at i).tape=v.tape:=by rcases s with rfl|rfl<;>rfl
  have e2:((eH v D cp c).at i).drawn=i:=rfl;rw[e1,e2];exact h1
 have B:=zwz (pn:=qH v D M) (X:=X) (c:=c) H O (by rw[V];exact f.pin.1);have Kk:=xmt (cp:=cp) (d:=i) s C z Y;have bd:(be.push<|born bM<|za5 v.heap.size (iD v.heap.size c) (v.heap.size+3) (bs+1) ls)[0]?=bO (G ((base 106).at (pF Lb D v.heap.size (iD v.heap.size c) (gF v.heap.size c) (v.heap.size+3) bs ls cp) [.inRegion nO [],.code K5]) (c0::cs)):=by
  rw[jh,aB<|by omega];exact g1
 have bj:=xm8 (pn:=qH v D M) (c:=gs.size) (p:=t1.size) (r:=0) (cs:=c0::cs) (Lb:=Lb) (bs:=bs) (ls:=ls) (cp:=cp)
  (G':=xwr (v.heap.size+3) c0 cs (I cp) J) B Kk (Dg (pn:=qH v D M) (dm:=dm) B (K _) bl br S bt bu hv
   (fun a w' hI hd=>RC.ctl (pn:=qH v D M) B rfl rfl (Mv (.inl rfl) hd)<|RC.refl (pn:=qH v D M) ⟨_,rfl,⟨a.tmps,[]⟩,[],rfl,.inl ⟨by rw[W]at hI;exact hI,rfl⟩⟩)
   (fun r a o ch w' hJ hd=>RC.ctl (pn:=qH v D M) B rfl rfl (Mv (.inr ⟨ch,rfl⟩) hd) (RC.refl (pn:=qH v D M) ⟨_,rfl,⟨a.tmps,[]⟩,o,rfl,.inr ⟨ch,hJ,by
    have:=bn ch w' hJ;simp only[this]⟩⟩))
   cp 0 _ (by rw[W];omega) (bh c s) _ _ _ _ _ _ _)
 obtain⟨N2,bf,v2,b6,t2,k2,g2,w2,r2,e2,J2,a2,S2,j,rfl,L⟩:=bj k1 _ _ b5 _ J1 bd S1;obtain⟨d,st,mm,left,b,q,J2,-⟩:=J2;have hG:=i_ (Out:=fun g=>g=G _ (c0::cs)) (c:=j) OM rfl v2 ⟨_,_,J2.wg⟩;have hW:=Hv (pn:=qH v D M) B _ bf v2 b6 t2
  ⟨9,3,1,0,d,st,mm,left,b,q,_,J2,by simpa using a2,.inl rfl,.kd hG,fun h=>by omega,rfl⟩ S2
 obtain⟨N3,E,v3,ba,t3,d3,m3,bz,b3,q3,g3,e3,J3,a3,rfl,bm,S3⟩:=hW;obtain⟨k3,bb⟩:=zyz (pn:=qH v D M) B (X':=fun x=>(Xx X v.heap.size D M x/\x≠D)/\x≠M) (fun x l hs=>⟨⟨l,fun e=>hs<|.inl<|e▸ .inl rfl⟩,fun e=>hs<|.inr e⟩) J3 bm ⟨_,a3⟩;have b1:ox ((eH v D cp c).at i) D= .cells #[rm,.map<|bO M,nx] py.ety:=by unfold ox;rw[uQ v D cp s H i,C];rfl
 have b2:ox ((eH v D cp c).at i) M= .map es clock:=by unfold ox;rw[uQ v D cp s O i,z];rfl
 have kD:v3.heap[D]?=bO (.cells #[rm,.map<|bO M,nx] py.ety):=(J3.kc D<|.inl<|.inl rfl).trans (by rw[b1]);have kM:v3.heap[M]?=bO (.map es clock):=(J3.kc M<|.inr rfl).trans (by rw[b2]);have b0:dL bM<|bO<|.map es clock:=by have:=f.oks M;rw[show(re w v.tape v.drawn).heap[M]?=bO (.map es clock)from hM]at this;exact this
 have bc:=Sm.FW (pn:=qH v D M) (Sm.FW (pn:=qH v D M) S3 kD dL.cells) kM b0;have S4:=Sm.yA (p2:=pn) bc rfl fun r U=>(aB fun h=>h.elim (fun e=>U.1.2 e) fun e=>U.2 e).symm;have R:vR bM (fun x=>(Xx X v.heap.size D M x/\x≠D)/\x≠M) (G {j with mode:=settle j.mode} (c0::cs)) (iI w2 D M (.cells #[rm,.map<|bO M,nx] py.ety)<|.map es clock) (crowd E v3 ba) t3:=by
  refine⟨⟨E,v3,ba,k3,rfl,a3,bb,S4⟩,⟨.inl ?_,S⟩,rfl,rfl⟩;obtain⟨a,o,_,⟨_,e⟩|⟨ch,_,e⟩⟩:=L<;>(rw[show j.fn=106 by have:=congrArg (fun g=>g.frame.fn) e;exact this];exact NZ)
 obtain⟨N4,m4,t4,X4,g4,w4,e4,x4,b4,rfl,h4⟩:=PC (w':=iI w2 D M (.cells #[rm,.map<|bO M,nx] py.ety)<|.map es clock) L _ _ _ R;refine⟨N1+(N2+(N3+N4)),m4,t4,X4,g4,_,ql r1<|ql e2<|ql e3 e4,fun x l=>x4 x ⟨⟨.inl l,fun e=>Z<|e▸l⟩,fun e=>nM<|e▸l⟩,b4,w2,rfl,h4⟩
end
section
variable {F:Array Func} {dm:Frame} {w:World} {Lb D M clock:Nat} {es:Array aK} {rm nx:Value} {bs ls:Int} {cp:Nat} {c0:Frame} {cs:List Frame}
def oP(K:∀p:Pn,J0 (pn:=p) bM F)(g:gN bM dm)(k:Ys bM F 172)(b:SL Lb bs ls w)(z:w.heap[D]?=bO (.cells #[rm,.map<|bO M,nx] py.ety))(E:w.heap[M]?=bO (.map es clock))(s:∀e∈es.toList,eZ e)
  (q:IntKind.i64.wrap (ls-bs)=(cp:Int))(f:cp<=1000000000)(o:IntKind.i64.wrap (bs+1)=bs+1)(n:ls<9223372036854775807)(j:-9223372036854775808<=bs+1)(G:bs+1+(cp:Int)=ls+1)
(l:∀r w t d,I r (A.re w t d)->I r w)(m:∀ch w t d,J ch (A.re w t d)->J ch w)(i:∀ch w,J ch w->settle (.panicking ch)= .panicking ch)
  (a:∀c,c=7\/c=8->I 0 (wF w D M c))
  (H:∀r,r<(dY es (bs+1) cp).length->∃x y,(dY es (bs+1) cp)[r]?=bO (pX x y)/\∀w,I r w->∀t d,Calls (wf bM F) 172 #[zo Lb,pX x y] (A.re (w.alloc<|oU x y) t d) fun e w'=>match e with| .returned _=>I (r+1) w'| .panicked ch=>J ch w'| .outgrown=>False):
  CC bM 106 #[zo Lb,zo D] w
   (fun e w'=>∃w1,w'=iI w1 D M (.cells #[rm,.map<|bO M,nx] py.ety) (.map es clock)/\((e= .returned (.tuple #[])/\I cp w1)\/∃ch,e= .panicked ch/\J ch w1)):=fun L O=>by
 refine(tP K g k b z E s q f o n j G l m i a H).mono ?_;rintro Q w' ⟨w1,v,⟨B,h⟩|⟨ch,C,h⟩⟩;exact⟨.returned _,⟨w1,v,.inl ⟨rfl,B⟩⟩,h⟩;exact⟨.panicked ch,⟨w1,v,.inr ⟨ch,rfl,C⟩⟩,h⟩
end
end
end A
namespace A
open Go Go.Conc
variable [pn:Pn]
section
variable {I:Zf→Zy→Prop}
section
variable {P:aV} {F:Array Func} {X:Nat->Prop}
def Mx{p:Zp}{fr:Zf}{cs:List Zf}{a b:Sem Next}{u:Zy}(h:a.runT p u #[]=b.runT p u #[]):bH p bL fr cs bN a u=bH p bL fr cs bN b u:=by
 unfold bH;simp only[if_true,h]
def C9{fr fr':Zf}{w:Zy}(h:∀p cs u,aZ p bL (Z0 fr cs) u= .go (Z0 fr' cs) u #[])(hk:fr'.kind=fr.kind)(c:I fr' w\/Xv P fr'):zA P F X I fr w:=by
 refine .inr<|.inr ⟨fr',w,c,hk,fun cs=>?_,⟨#[],fun cs=>h _ _ _⟩,fun v b=>⟨v,#[],fun cs=>h _ _ _,.still b⟩⟩;intro f g a e hd;dsimp only at e;rw[h]at e;cases e;exact⟨ze _,rfl,fun t d _=>⟨#[],by dsimp only;rw[h];simp⟩⟩
def C8{fr:Zf}{ops:Array aD}{i:Nat}{rest:List Nat}{k:List Item}{o:aD}{s:Sem Next}{w:Zy}(J:Sm P X w w)(ht:fr.todo= .inRegion ops (i::rest)::k)(hm:fr.mode= .run)(ho:ops[i]?=bO o)
  (hg:aX o (yielded ops fr.tmps)=bL)(hr:fr.roundOf=bN)(W:fr.kind≠ .early)(R:BN P F X s)
  (h1:∀t d,(bG fr.eval o).runT (wf P F) (re w t d) #[]=s.runT (wf P F) (re w t d) #[])(h2:∀v,Sm P X w v->(bG fr.eval o).runT P v #[]=s.runT P v #[])
  (hv:∀n x,s.run (wf P F) w= .ok n x->∃a,(n= .value a\/n= .skip/\a=bJ)/\(I (fr.finish a) x\/Xv P (fr.finish a)))
  (hp:∀y x,s.run (wf P F) w= .halt (.panic y) x->I (fr.raise [{v:=y,recovered:=bK}]) x):zA P F X I fr w:=by
 have j:(fr.kind==CallKind.early)=bK:=by cases hq:fr.kind<;>simp_all
 have L:∀p c u,aZ p bL (Z0 fr c) u=bH p bL fr c bN (bG fr.eval o) u:=fun p c u=>by
  simp only[aZ,Z0,hm,stepG.exec,ht,ho,js,jv,hg,if_true,stepG.oper,Frame.oper?,hr]
 have O:∀c t d,aZ (wf P F) bL (Z0 fr c) (re w t d)=bH (wf P F) bL fr c bN s (re w t d):=fun c t d=>by
  rw[L];exact Mx<|h1 t d
 have l:∀c,aZ (wf P F) bL (Z0 fr c) w=bH (wf P F) bL fr c bN s w:=fun c=>O c _ _;have M:∀c v,Sm P X w v->aZ P bL (Z0 fr c) v=bH P bL fr c bN s v:=fun c v B=>by
  rw[L];exact Mx<|h2 v B
 have hn:∀n x,s.run (wf P F) w= .ok n x->Nx n:=fun n x e=>by
  obtain⟨a,h|⟨h,_⟩,_⟩:=hv n x e<;>rw[h]<;>trivial
 have z:∀c,DD w<|aZ (wf P F) bL<|Z0 fr c:=fun c g' r H e hd=>by
  have Z:aZ (wf P F) bL (Z0 fr c) w= .go g' r H:=e;rw[l]at Z;obtain⟨l1,l2,l3⟩:=Pz R J W hn g' r H Z hd;exact⟨l1,l2,fun t d ha=>by
   obtain⟨S,h⟩:=l3 t d ha;exact⟨S,by
    show aZ (wf P F) bL (Z0 fr c) (A.re w t d)=_;rw[O];exact h⟩⟩
 have D:=R.dZ w J;cases hq:s.run (wf P F) w with
 |ok n x=>
  obtain⟨a,C,hI⟩:=hv n x hq;have U:jK<|s.run (wf P F) w:=by rw[hq];trivial
  have T:∀f b r,s.run (wf P F) w= .ok (.enter f b) r->¬Ref F f:=fun f b r e=>by
   rw[hq]at e;cases e;rcases C with h|⟨h,_⟩<;>cases h
  refine .inr<|.inr ⟨fr.finish a,x,hI,Vm fr a,z, ?_,fun v B=>?_⟩;rcases C with rfl|⟨rfl,rfl⟩
  exact⟨_,fun c=>by rw[l];simp only[bH,zg,if_true,hq,j];rfl⟩;exact⟨_,fun c=>by rw[l];simp only[bH,zg,if_true,hq,j];rfl⟩;obtain⟨Y,E,K⟩:=R.gJ w v #[] B U T;obtain⟨G,Q⟩:=K.run;rw[hq]at G;have q:=K.af;rw[hq]at q;refine⟨Y,seen P fr.fn E,fun c=>?_,q.sub fun e V=>mem_seen V⟩;rw[M c v B];rcases C with rfl|⟨rfl,rfl⟩
  simp only[bH,zg,if_true,G,Q,j,Ww,bA,xu,if_false];simp[Z0];simp only[bH,zg,if_true,G,Q,j,Ww,bA,xu,if_false];simp[Z0]
 |halt h x=>
  have ended:(∀c,∃oo r S,bH (wf P F) bL fr c bN s w= .ended oo r S)->zA P F X I fr w:=fun h=> .inl fun c=>by rw[l];exact h c
  rw[hq]at D;cases h with
  |panic y=>
   have U:jK<|s.run (wf P F) w:=by rw[hq];trivial
   have T:∀f b r,s.run (wf P F) w= .ok (.enter f b) r->¬Ref F f:=fun f b r e=>by
    rw[hq]at e;cases e
   refine .inr<|.inr ⟨fr.raise [{v:=y,recovered:=bK}],x,.inl<|hp y x hq,IR _ _,z, ?_,fun v B=>?_⟩;exact⟨_,fun c=>by rw[l];simp only[bH,zg,if_true,hq,j];rfl⟩;obtain⟨Y,E,K⟩:=R.gJ w v #[] B U T;obtain⟨G,Q⟩:=K.run;rw[hq]at G;have q:=K.af;rw[hq]at q;refine⟨Y,seen P fr.fn E,fun c=>?_,q.sub fun e V=>mem_seen V⟩;rw[M c v B];simp only[bH,zg,if_true,G,Q,j,Ww,bA,xu,if_false];simp[Z0]
  |stuck m=>exact ended fun c=>⟨_,_,_,by simp only[bH,zg,if_true,hq,j,bA];rfl⟩
  |exit m=>exact ended fun c=>⟨_,_,_,by simp only[bH,zg,if_true,hq,j,bA];rfl⟩
  |unsupported m=>
   cases m with
   |initOrder g=>exact D.elim
   |_=>exact ended fun c=>⟨_,_,_,by simp only[bH,zg,if_true,hq,j,bA];rfl⟩
  |_=>exact D.elim
def cD(H:Fit P F X){fr:Zf}{ops:Array aD}{i:Nat}{rest:List Nat}{k:List Item}{o:aD}{w:Zy}(b:Sm P X w w)(h:fr.todo= .inRegion ops (i::rest)::k)(e:fr.mode= .run)(ho:ops[i]?=bO o)
  (d:aX o (yielded ops fr.tmps)=bL)(g:fr.roundOf=bN)(c:fr.kind≠ .early)(hop:qM P o.op=bL)
  (j:∀n x,(bG fr.eval o).run (wf P F) w= .ok n x->∃a,(n= .value a\/n= .skip/\a=bJ)/\(I (fr.finish a) x\/Xv P (fr.finish a)))
  (f:∀y x,(bG fr.eval o).run (wf P F) w= .halt (.panic y) x->I (fr.raise [{v:=y,recovered:=bK}]) x):zA P F X I fr w:=
 C8 b h e ho d g c (EF H fr.eval o hop) (fun _ _=>rfl) (fun _ _=>rfl) j f
end
namespace Odd160
noncomputable def parts:Option<|Array aD×Array aD×Code:=match Tryz.f160.body with
 |some (.seq (.region _ a _)<|.cond _ (.region _ b _) c)=>bO (a,b,c)
 |_=>bN
noncomputable def lM:Array aD:=match parts with
 |some (a,_,_)=>a
 |none=>#[]
noncomputable def Va:Array aD:=match parts with
 |some (_,b,_)=>b
 |none=>#[]
noncomputable def WR:Code:=match parts with
 |some (_,_,c)=>c
 |none=> .skip
noncomputable def xW:Code:= .region 0 lM bK
noncomputable def cC:Code:= .cond (.tmp 6) (.region 1 Va bK) WR
def body160:Tryz.f160.body=bO (.seq xW cC):=by kernel_rfl
def ntmps160:Tryz.f160.ntmps=20:=by kernel_rfl
def xuc:qn bM bL WR=bL:=by kernel_rfl
def xly:qn bM bL (.seq xW cC)=bK:=by kernel_rfl
def uI:Mc bM 160:=⟨_,_,Tryz.func160,body160,xly⟩
def qK(ops:Array aD)(i:Nat)(op:Op)(d:Option Nat):Prop:=∃o,ops[i]?=bO o/\o.op=op/\o.dst=d/\o.guard=bN
def hH:qK lM 0 (.move<|.tmp 0)<|bO 2:=⟨lM[0]!,by kernel_rfl,by kernel_rfl,by kernel_rfl,by kernel_rfl⟩
def hO:qK lM 1 (.nilCheck<|.tmp 2)<|bO 3:=⟨lM[1]!,by kernel_rfl,by kernel_rfl,by kernel_rfl,by kernel_rfl⟩
def hU:qK lM 2 (.fieldAddr 179 (.tmp 3) 0)<|bO 4:=⟨lM[2]!,by kernel_rfl,by kernel_rfl,by kernel_rfl,by kernel_rfl⟩
def hY:qK lM 3 (.load 177<|.tmp 4)<|bO 5:=⟨lM[3]!,by kernel_rfl,by kernel_rfl,by kernel_rfl,by kernel_rfl⟩
def hZ:qK lM 4 (.binOp .eql 177 (.tmp 5) (.const<|.pointer bN) 177)<|bO 6:=⟨lM[4]!,by kernel_rfl,by kernel_rfl,by kernel_rfl,by kernel_rfl⟩
def iS:qK Va 0 (.move<|.tmp 0)<|bO 7:=⟨Va[0]!,by kernel_rfl,by kernel_rfl,by kernel_rfl,by kernel_rfl⟩
def kA:qK Va 1 (.move<|.tmp 0)<|bO 8:=⟨Va[1]!,by kernel_rfl,by kernel_rfl,by kernel_rfl,by kernel_rfl⟩
def kB:qK Va 2 (.convert 177 283<|.tmp 8)<|bO 9:=⟨Va[2]!,by kernel_rfl,by kernel_rfl,by kernel_rfl,by kernel_rfl⟩
def kO:qK Va 3 (.call {callee:= .value (.func 209),args:=#[.tmp 9],argTypes:=#[283]})<|bO 10:=⟨Va[3]!,by kernel_rfl,by kernel_rfl,by kernel_rfl,by kernel_rfl⟩
def lA:qK Va 4 (.convert 283 177<|.tmp 10)<|bO 11:=⟨Va[4]!,by kernel_rfl,by kernel_rfl,by kernel_rfl,by kernel_rfl⟩
def lB:qK Va 5 (.nilCheck<|.tmp 7)<|bO 12:=⟨Va[5]!,by kernel_rfl,by kernel_rfl,by kernel_rfl,by kernel_rfl⟩
def o16:qK Va 6 (.fieldAddr 179 (.tmp 12) 0)<|bO 13:=⟨Va[6]!,by kernel_rfl,by kernel_rfl,by kernel_rfl,by kernel_rfl⟩
def lE:qK Va 7 (.store 177 (.tmp 13)<|.tmp 11) bN:=⟨Va[7]!,by kernel_rfl,by kernel_rfl,by kernel_rfl,by kernel_rfl⟩
def xvn:lM.size=5:=by kernel_rfl
def xvo:Va.size=8:=by kernel_rfl
def Ij:Tryz.prog.underlying 177=bO (.pointer 179):=by kernel_rfl
def Il:Tryz.prog.underlying 283=bO .unsafePointer:=by kernel_rfl
noncomputable def MH:Array Field:=match Tryz.prog.underlying 179 with
 |some (.struct fs)=>fs
 |_=>#[]
def Ik:Tryz.prog.underlying 179=bO (.struct MH):=by kernel_rfl
noncomputable def NT:Field:=MH[0]!
def eK:MH[0]?=bO NT:=by kernel_rfl
def xq1:NT.offset=0:=by kernel_rfl
def xmq:NT.type=177:=by kernel_rfl
def Ia:(Tryz.prog.info? 177).map (·.size)=bO 1:=by kernel_rfl
def Ib:(Tryz.prog.info? 179).map (·.size)=bO 2:=by kernel_rfl
end Odd160
end
end A
end Go.Proofs.YtjnbhiamaabbgaaGreatDoor
