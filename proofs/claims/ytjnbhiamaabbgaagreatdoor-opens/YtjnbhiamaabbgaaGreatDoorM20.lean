import Derived.Test.YtjnbhiamaabbgaaGreatDoorM6
import Derived.Test.YtjnbhiamaabbgaaGreatDoorM5
import Derived.Test.YtjnbhiamaabbgaaGreatDoorM7
import Derived.Deep.Upon
set_option linter.all false
set_option maxRecDepth 100000
set_option maxHeartbeats 8000000
section
variable{P:Prop}
def Ř(h:P:=by simp[Lk.G,Value.oneCell']):P:=h
def Í(h:P:=by show(aL _ _).run prog _=_;simp[aL,go_sem,nD,fe]):P:=h
def Õ(h:P:=by show(aL _ _).run prog _=_;simp[aL,go_sem,fe]):P:=h
def ä(h:P:=by first|exact zj.refl _ _|exact(zj.refl _ _).U):P:=h
def ê(h:P:=by simp[bP];omega):P:=h
def ú(h:P:=by have:=Rf.eY HH x;have:=S5.o g D;omega):P:=h
def û(h:P:=by subst h;obtain⟨k,hk⟩:=Pg;exact⟨a,_,k,_,_,_,_,by rw[hk],_,_,_,rfl⟩):P:=h
def ÿ(h:P:=by simpa using o):P:=h
def ā(h:P:=by have:=Rf.eY HH x;have:=NB.o;omega):P:=h
def ą(h:P:=by rw[h.bO.i 11 rfl];simp[Rf.G,ho]):P:=h
def Ċ(h:P:=by show _=_;rw[Nat.add_comm];simp):P:=h
def ē(h:P:=by simp[bF,Xh,Frame.at,aD]):P:=h
def ę(h:P:=by have:=M.o;omega):P:=h
def ĝ(h:P:=by show _=_;rw[b.go,Bh<|by rw[p.o,if_neg hk]];rfl):P:=h
def Ġ(h:P:=by simp[Sr.G,Sr.nz,b]):P:=h
def Ħ(h:P:=by show(aL _ _).run prog _=_;simp[aL,go_sem]):P:=h
def Ĳ(h:P:=by rw[E.o];simp only[Y8];rw[B.o];omega):P:=h
def ķ(h:P:=by simp[go_sem,gD]):P:=h
def ŋ(h:P:=by have:=bb.o;omega):P:=h
def ō(h:P:=by show _=_;unfold Sr.eV;rw[hs];rfl):P:=h
end
namespace Go.Proofs.YtjnbhiamaabbgaaGreatDoor
open Go renaming Act->jG,Calls->aG,Code->nW,Ending->kU,Frame->fk,Func->jE,MapEntry->dP,Oper->fj,Program->bT,Value->dL,World->cY,callFunc->nE,execOp->aL,heap_alloc_new->xn,invoke->ol,resolve->nD,results->dX,stepG->bF,undef->aC,Deferred->lY,Goroutine->cA
open Go.Act renaming eval->iH,put->fe
open Go.CallKind renaming early->dY,normal->cJ,report->oA
open Go.Calls renaming quiet_of_same->oz
open Go.Code renaming region->eU,seq->fO
open Go.Departure renaming mixedOrders->mV
open Go.Ending renaming outgrown->iE,returned->ah,panicked->gU
open Go.Exit renaming normal->dM,panic->lT
open Go.Extern renaming find->mU,findNext->jP
open Go.Frame renaming enter->aT
open Go.FrameMode renaming panicking->eW,returning->dN
open Go.GStep renaming ended->gq,go->gj
open Go.Ground renaming data->eM
open Go.IntKind renaming i64->aU,wrap_i64->zh
open Go.Item renaming code->cD,inRegion->aM
open Go.Next renaming value->fA,enter->mo
open Go.Obj renaming cells->aq
open Go.Operand renaming tmp->bZ
open Go.Outcome renaming stuck->hY
open Go.Proofs renaming intOf->bP
open Go.Proofs.Tryz renaming f36->gy,f67->ip,func106->mP,prog->au,func34->ov,results34->oq
open Go.Region renaming ready->aW,wanted->bC
open Go.Region.Mode renaming any->ff
open Go.Result renaming ok->cT
open Go.RowKit renaming Below->aN,Hid->aK
open Go.Sem renaming runT_bind'->Yf,run_bind->zc9,run_pure->zda
open Go.Value renaming agg->bM,bool->aX,int->aH,map->eK,pointer->aR,slice->az,string->aj,func->nV,tuple->bU
open Go.World renaming alloc->aB,cell?->ae,setCell->ai,setCells->dZ,size_alloc->xp,frozen?->aQ
open Go.stepG renaming exec->aD
open _root_.Array renaming replicate->bV,setIfInBounds->ay,size->ak,toList->ej
open _root_.Bool renaming false->ao,true->aw
open _root_.Decidable renaming decide->bI
open _root_.Int renaming toNat->bB
open _root_.List renaming length->aa,length_take->xf,range->gO,toArray->aV,drop_drop->zbd,drop_take->Xb,take->dU,take_of_length_le->qp,take_succ_eq_append_getElem->zp
open _root_.Nat renaming reduceAdd->iJ,reduceSub->jV
open _root_.Option renaming none->ar,some->ac
open _root_.Or renaming inl->aF,inr->aE
open _root_.Pure renaming pure->fX
open _root_.UInt8 renaming toNat->aI
namespace A
open Tryq Go Go.Conc
section
variable [pn:Pn]
section
variable {k:List Item} {ops:Array fj} {rest:List Nat}
namespace Odd160
structure Bs(fr:Zf):Prop where
 fn:fr.fn=160
 ke:fr.kind≠ dY/\fr.kind≠ oA
 de:fr.defers=[]
 ro:fr.roundOf=ar
 sz:20<=ak fr.tmps
def un(X:ZP)(fr:Zf)(w:Zy):Prop:=∃a c e f,fr.tmps.getD 0 aC=aR (ac a)/\w.heap[a.block]?=ac (aq c e f)/\a.off<ak c/\¬X a.block
def At(X:ZP)(fr:Zf)(w:Zy):Nat->Prop
 |0=>fr.todo=[cD<|fO Al cC]
 |1=>fr.todo=[cD Al,cD cC]|2=>fr.todo=[aM qP [0,1,2,3,4],cD cC]
 |3=>fr.todo=[aM qP [1,2,3,4],cD cC]/\fr.tmps.getD 2 aC=fr.tmps.getD 0 aC|4=>fr.todo=[aM qP [2,3,4],cD cC]/\fr.tmps.getD 3 aC=fr.tmps.getD 0 aC
 |5=>fr.todo=[aM qP [3,4],cD cC]/\∃a,fr.tmps.getD 0 aC=aR (ac a)/\fr.tmps.getD 4 aC=aR (ac a)|6=>fr.todo=[aM qP [4],cD cC]/\(Am (fr.tmps.getD 5 aC)=aw->un X fr w)
 |7=>fr.todo=[aM qP [],cD cC]/\un X fr w|8=>fr.todo=[cD cC]/\un X fr w
 |9=>fr.todo=[cD<|eU 1 V8 ao]/\un X fr w
 |10=>fr.todo=[aM V8 [0,1,2,3,4,5,6,7]]/\un X fr w|11=>fr.todo=[aM V8 [1,2,3,4,5,6,7]]/\un X fr w
 |12=>fr.todo=[aM V8 [2,3,4,5,6,7]]/\un X fr w/\fr.tmps.getD 8 aC=fr.tmps.getD 0 aC|13=>fr.todo=[aM V8 [3,4,5,6,7]]/\un X fr w/\fr.tmps.getD 9 aC=fr.tmps.getD 0 aC
 |14=>fr.todo=[aM V8 [4,5,6,7]]/\un X fr w/\fr.tmps.getD 10 aC=fr.tmps.getD 0 aC|15=>fr.todo=[aM V8 [5,6,7]]
 |16=>fr.todo=[aM V8 [6,7]]|17=>fr.todo=[aM V8 [7]]
 |18=>fr.todo=[aM V8 []]|_=>False
def I(X:ZP)(fr:Zf)(w:Zy):Prop:=Bs fr/\((∃ch ops r k,fr.mode=eW ch/\fr.todo=aM ops r::k)\/(fr.mode= .run/\∃n,At X fr w n))
theorem At.re{X:ZP}{fr:Zf}{w:Zy}{n:Nat}(t:Nat->Question->Nat)(d:Nat)(h:At X fr w n):At X fr (re w t d) n:=by
 match n,h with
 |0,h|1,h|2,h|3,h|4,h|5,h|6,h|7,h|8,h|9,h|10,h|11,h|12,h|13,h|14,h|15,h|16,h|17,h|18,h=>exact h
 |_+19,h=>exact h.elim
theorem Dw{b:Za}{d j a}(h:d≠j):(ay b d a).getD j aC=b.getD j aC:=Ë
theorem Cb{b:Za}{d a}(h:d<ak b):(ay b d a).getD d aC=a:=Ë
section
variable {X:Nat->Prop} {fr:fk} {w:cY}
theorem Bs.put(h:Bs fr)(d a k):Bs {fr with tmps:=ay fr.tmps d a,todo:=k}:=⟨h.fn,h.ke,h.de,h.ro,by simpa using h.sz⟩
def Bs.to(h:Bs fr)(k):Bs {fr with todo:=k}:=⟨h.fn,h.ke,h.de,h.ro,h.sz⟩
theorem un.put(h:un X fr w){d}(hd:d≠0)(a k):un X {fr with tmps:=ay fr.tmps d a,todo:=k} w:=by obtain⟨q,c,e,f,g,b⟩:=h;exact⟨q,c,e,f,Ë,b⟩
def fin{i:Nat}{op:Op}{d:Nat}{o:fj}(b:fr.todo=aM ops (i::rest)::k)(ho:ops[i]?=ac o)(hd:o.dst=ac d)(a:Zv):fr.finish a={fr with tmps:=ay fr.tmps d a,todo:=aM ops rest::k}:=ć
def je2{i:Nat}{op:Op}{o:fj}(b:fr.todo=aM ops (i::rest)::k)(ho:ops[i]?=ac o)(hd:o.dst=ar)(a:Zv):fr.finish a={fr with todo:=aM ops rest::k}:=ć
theorem I.gV{ops r k}(h:Bs fr)(a:fr.todo=aM ops r::k)(b x):I X (fr.raise b) x:=by unfold Frame.raise;split;exact⟨⟨h.fn,h.ke,h.de,h.ro,h.sz⟩,aF ⟨_,_,_,_,rfl,a⟩⟩;exact⟨⟨h.fn,h.ke,h.de,h.ro,h.sz⟩,aF ⟨_,_,_,_,rfl,a⟩⟩
theorem qQ{o y}(h:o.guard=ar):bC o y=aw:=by simp[bC,h]
def wX(H:ma au cP X)(p:Sm au X w w)(b:Bs fr)(q:fr.mode= .run){i:Nat}(c:fr.todo=aM ops (i::rest)::k){op:Op}{d:Nat}(hop:tK ops i op<|some d)(r:sW au op=aw)
  (s:∀o n x,o.op=op->(aL fr.eval o).run (wf au cP) w=cT n x->∃a,n=fA a/\I X {fr with tmps:=ay fr.tmps d a,todo:=aM ops rest::k} x):zB au cP X (I X) fr w:=by
 obtain⟨o,f,j,l,m⟩:=hop;refine YI H p c q f (qQ m) b.ro b.ke.1 Â (λn x e=>?_) λy x _=>I.gV b c _ _;obtain⟨a,g,h⟩:=s o n x j e;exact⟨a,aF g,aF<|by rw[fin (op:=op) c f l];exact h⟩
def FQ{s p x n}(h:(do fX (fA<|<-s):Sem Next).run p w=cT n x):∃a,n=fA a/\s.run p w=cT a x:=by obtain⟨a,d,b,c⟩:=jr h;simp_all
def O0{o ρ y p x n}(ho:o.op= .move y)(h:(aL ρ o).run p w=cT n x):n=fA (ρ y)/\x=w:=by unfold aL at h;simp_all
def YT{o ρ y p x n}(ho:o.op= .nilCheck y)(h:(aL ρ o).run p w=cT n x):n=fA (ρ y):=by
 unfold aL at h;rw[ho]at h;dsimp only at h;split at h;exact absurd h<|Vg _ _ _ _ _;exact absurd h<|Vg _ _ _ _ _;exact absurd h<|Vg _ _ _ _ _;rename_i name first captured hy
 rw[hy];split at h;exact absurd h<|Vg _ _ _ _ _;obtain⟨p,e,c,a⟩:=jr h;obtain⟨y,f,d,b⟩:=jr a;split at b;simp_all;simp_all;simp_all;simp_all
end
end Odd160
namespace Odd160
section
variable {X:Nat->Prop} {fr:fk} {w:cY}
def OY(fr:Zf)(j):fr.eval (bZ j)=fr.tmps.getD j aC:=rfl
def FR(a:Bs fr)(b:fr.mode= .run)(h:∀p cs u,bF p aw (Xh fr cs) u=gj (Xh {fr with todo:=k} cs) u #[]){n:Nat}(c:At X {fr with todo:=k} w n):zB au cP X (I X) fr w:=
 OT h rfl (aF ⟨a.to k,aE ⟨b,n,c⟩⟩)
def YU(a:Bs fr){k}(hk:∀it∈k,Vt au aw it):Jy au {fr with todo:=k}:=
 ⟨λit b=>by simp only[a.ro,Option.isNone_none];grind,λd hd=>(by simp only[a.de]at hd;cases hd),a.ke,(by rw[show({fr with todo:=k}:Zf).fn=160 from a.fn];simp)⟩
def OZ{a:Addr}{c}{e:Zt}{f}(g:Sm au X w w)(d:w.heap[a.block]?=ac (aq c e f))(l:a.off<ak c):¬X a.block:=λi=>by obtain⟨o,m,b,_,⟨h,_⟩|⟨j,k,h,_⟩⟩:=g.iz _ i;rw[d]at b;cases b;cases h;grind
def xsx{o:fj}(ho:o.op= .call {callee:= .value (.func 209),args:=#[bZ 9],argTypes:=#[283]}):aL fr.eval o=nE 209 #[fr.eval<|bZ 9]:=by
 have a:nD fr.eval {callee:= .value (.func 209),args:=#[bZ 9],argTypes:=#[283]} o.type=fX {target:= .fn (.func 209) #[],args:=#[fr.eval<|bZ 9]}:=by simp[nD,Deferred.ofValue,Frame.eval]
 unfold aL;rw[ho];grind [ol]
theorem yD(H:ma au cP X)(l:Sm au X w w)(g:Bs fr)(i:fr.mode= .run){n}(h:At X fr w n):zB au cP X (I X) fr w:=by
 have sz:=g.sz
 match n,h with
 |0,h=>exact FR g i (k:=[cD Al,cD cC]) (λp m u=>by simp[bF,Xh,i,aD,show fr.todo=[cD<|fO Al cC]from h]) (n:=1) rfl
 |1,h=>exact FR g i (k:=[aM qP [0,1,2,3,4],cD cC]) (λp m u=>by simp[bF,Xh,i,aD,show fr.todo=[cD Al,cD cC]from h,Al,jdg];rfl) (n:=2) rfl
 |2,h=>
  refine wX H l g i h o00 rfl λo n x j e=>?_;obtain⟨rfl,rfl⟩:=O0 j e;exact⟨_,rfl,g.put _ _ _,aE ⟨i,3,rfl,by show(ay fr.tmps 2 _).getD 2 aC=(ay fr.tmps 2 _).getD 0 aC;rw[Cb À,Dw À];rfl⟩⟩
 |3,⟨h,h2⟩=>
  refine wX H l g i h o01 rfl λo n x j e=>?_;obtain rfl:=YT j e;exact⟨_,rfl,g.put _ _ _,aE ⟨i,4,rfl,by show(ay fr.tmps 3 _).getD 3 aC=(ay fr.tmps 3 _).getD 0 aC;rw[Cb À,Dw À];exact h2⟩⟩
 |4,⟨h,h2⟩=>
  refine wX H l g i h o02 rfl λo n x j e=>?_;unfold aL at e;rw[j]at e;obtain⟨a,rfl,B⟩:=FQ e;obtain⟨rfl,b,C,rfl⟩:=zwh FH B;exact⟨_,rfl,g.put _ _ _,aE ⟨i,5,rfl,b,by
   show(ay fr.tmps 4 _).getD 0 aC=_;rw[Dw À,<-h2];exact C,by
   grind [Cb]⟩⟩
 |5,⟨h,a0,h2,h3⟩=>
  refine wX H l g i h o03 rfl λo n x j e=>?_;unfold aL at e;rw[j]at e;obtain⟨a,rfl,B⟩:=FQ e;obtain⟨rfl,b,C,R⟩:=xdk FH B;rw[OY,h3]at C;cases C;exact⟨_,rfl,g.put _ _ _,aE ⟨i,6,rfl,λS=>by
   have E:Am ((ay fr.tmps 5 a).getD 5 aC)=aw:=S;rw[Cb À]at E;obtain⟨c,D,f,r,z⟩:=R E;exact un.put ⟨a0,c,D,f,h2,r,z,OZ l r z⟩ À _ _⟩⟩
 |6,⟨h,h2⟩=>
  refine wX H l g i h o04 rfl λo n x j e=>?_;unfold aL at e;rw[j]at e;obtain⟨a,rfl,B⟩:=FQ e;obtain⟨rfl,C⟩:=xst FH B;exact⟨_,rfl,g.put _ _ _,aE ⟨i,7,rfl,(h2 C).put À _ _⟩⟩
 |7,⟨h,h2⟩=>exact FR g i (k:=[cD cC]) (λp m u=>by grind [bF,Xh,aD]) (n:=8) ⟨rfl,h2⟩
 |8,⟨h,h2⟩=>
  have M:∀p m u,bF p aw (Xh fr m) u=(match fr.eval (bZ 6)with
    | aX b=>gj (Xh {fr with todo:=[cD (if b then eU 1 V8 ao else OM)]} m) u #[]
    |_=>gq (hY "cond: bool expected" (fr.pos p)) u):=λp m u=>by
   grind [bF,Xh,aD,cC]
  by_cases N:∃b,fr.eval (bZ 6)=aX b;obtain⟨b,N⟩:=N;rw[N]at M;cases b with|true=>exact FR g i (λp m u=>M p m u) (n:=9) ⟨rfl,h2⟩|false=>exact OT (λp m u=>M p m u) rfl (aE (YU g λV K=>by simp only[ju]at K;subst K;exact jb3))
  refine aF λm=>⟨hY "cond: bool expected" (fr.pos<|wf au cP),w,#[], ?_⟩;grind
 |9,⟨h,h2⟩=>exact FR g i (k:=[aM V8 [0,1,2,3,4,5,6,7]]) (λp m u=>by simp[bF,Xh,i,aD,show fr.todo=[cD<|eU 1 V8 ao]from h,jdh];rfl) (n:=10) ⟨rfl,h2⟩
 |10,⟨h,h2⟩=>
  refine wX H l g i h o10 rfl λo n x j e=>?_;obtain⟨rfl,rfl⟩:=O0 j e;exact⟨_,rfl,g.put _ _ _,aE ⟨i,11,rfl,h2.put À _ _⟩⟩
 |11,⟨h,h2⟩=>
  refine wX H l g i h o11 rfl λo n x j e=>?_;obtain⟨rfl,rfl⟩:=O0 j e;exact⟨_,rfl,g.put _ _ _,aE ⟨i,12,rfl,h2.put À _ _,by show(ay fr.tmps 8 _).getD 8 aC=(ay fr.tmps 8 _).getD 0 aC;rw[Cb À,Dw À];rfl⟩⟩
 |12,⟨h,h2,h3⟩=>
  obtain⟨o,r,z,F,G⟩:=o12;obtain⟨a,c,D,f,Q,J,r3,L⟩:=id h2;have q:∀{p:Zp} {u:Zy},Tb p->u.heap[a.block]?=ac (aq c D f)->(aL fr.eval o).runT p u #[]=(fX (fA<|aR<|some a):Sem Next).runT p u #[]:=λ{p u} T U=>by unfold aL;rw[z];dsimp only;rw[OY,h3,Q];show((convert 177 283<|aR<|some a).bind _).runT p u #[]=_;grind [Yf,ja7]
  refine OS l h i r (qQ G) g.ro g.ke.1 (s:=fX<|fA<|aR<|some a) (Bl.dQ<|xr _) (λt d=>q FH J) (λv O=>q XW<|by rw[O.out _ L];exact J) (λn x e=>?_) (λy x e=>Ç);cases e;refine⟨_,aF rfl,aF ?_⟩;rw[fin (op:= .move (bZ 0)) h r F];exact⟨g.put _ _ _,aE ⟨i,13,rfl,h2.put À _ _,by show(ay fr.tmps 9 _).getD 9 aC=(ay fr.tmps 9 _).getD 0 aC;grind [Cb,Dw]⟩⟩
 |13,⟨h,h2,h3⟩=>
  refine wX H l g i h o13 rfl λo n x j e=>?_;rw[xsx j,xse]at e;cases e;exact⟨_,rfl,g.put _ _ _,aE ⟨i,14,rfl,h2.put À _ _,by show(ay fr.tmps 10 _).getD 10 aC=(ay fr.tmps 10 _).getD 0 aC;rw[Cb À,Dw À];exact h3⟩⟩
 |14,⟨h,h2,h3⟩=>
  obtain⟨o,r,z,F,G⟩:=o14;obtain⟨a,c,D,f,Q,J,r3,L⟩:=id h2;have q:∀{p:Zp} {u:Zy},Tb p->u.heap[a.block]?=ac (aq c D f)->(aL fr.eval o).runT p u #[]=(do fX (fA<|<-lX a):Sem Next).runT p u #[]:=λ{p u} T U=>by unfold aL;rw[z];dsimp only;rw[OY,h3,Q];show((convert 283 177<|aR<|some a).bind _).runT p u #[]=((lX a).bind _).runT p u #[];grind [Yf,ja8]
  refine OS l h i r (qQ G) g.ro g.ke.1 (s:=do fX (fA<|<-lX a)) (Bl.dQ<|xq (xxb L) λ_=>xr _) (λt d=>q FH J) (λv O=>q XW<|by rw[O.out _ L];exact J) (λn x e=>?_) λy x e=>I.gV g h _ _;obtain⟨b,rfl,_⟩:=FQ e;refine⟨_,aF rfl,aF ?_⟩;rw[fin (op:= .move (bZ 0)) h r F];exact⟨g.put _ _ _,aE ⟨i,15,rfl⟩⟩
 |15,h=>
  refine wX H l g i h o15 rfl λo n x j e=>?_;obtain rfl:=YT j e;exact⟨_,rfl,g.put _ _ _,aE ⟨i,16,rfl⟩⟩
 |16,h=>
  refine wX H l g i h o16 rfl λo n x j e=>?_;unfold aL at e;rw[j]at e;obtain⟨a,rfl,B⟩:=FQ e;exact⟨_,rfl,g.put _ _ _,aE ⟨i,17,rfl⟩⟩
 |17,h=>
  obtain⟨o,r,z,F,G⟩:=o17;refine YI H l h i r (qQ G) g.ro g.ke.1 (by rw[z];rfl) (λn x e=>?_) λy x _=>I.gV g h _ _;unfold aL at e;rw[z]at e;obtain⟨u,Y,W,B⟩:=jr e;cases B;refine⟨_,aE ⟨rfl,rfl⟩,aF ?_⟩;rw[je2 (op:= .move (bZ 0)) h r F];exact⟨g.to _,aE ⟨i,18,rfl⟩⟩
 |18,h=>
  refine OT (fr':={fr with todo:=[]}) (λp m u=>?_) rfl<|aE<|YU g λV K=>(by cases K);simp[bF,Xh,i,aD,show fr.todo=[aM V8 []]from h]
 |_+19,h=>exact h.elim
end
end Odd160
def je8(i:Nat):(cP[i]?).map (·.results)=(Tryz.prog.funcs[i]?).map (·.results):=by rw[wo];cases h:Tryz.prog.funcs[i]?with|none=>rfl|some f=>simp only[Xl,wj];split<;>rfl
def Pa(i):cP[i]?=Tryz.prog.funcs[i]?\/sT cP i:=by
 cases h:Tryz.prog.funcs[i]?with
 |none=>left;rw[wo,h];rfl
 |some f=>cases hb:qx i with|true=>grind [Ro,Es]|false=>left;rw[wo,h];grind [wj]
def O7(i:Nat)(fn)(h:cP[i]?=ac fn):(fn.name== "runtime.NumGoroutine")=ao:=by obtain⟨f,a,⟨_,rfl⟩|⟨_,rfl⟩⟩:=Rr h;have:=Es a;unfold wk;omega;exact Es a
theorem Ao(P F):(wf P F).funcs=F:=rfl
def O9(i:Nat)(fn)(h:cP[i]?=ac fn)(a:fn.body.isNone=aw):jP fn=ar:=by grind [Rt,n71,Ei,Rm,je4,Ej]
def xxd{P F X}(a):B P F X<|Extern.AbiNoEscape.same a:=match a with
 |⟨[]⟩=>(xz _:B P F X<|stuck _)
 |⟨[x]⟩=>(xr x:B P F X<|pure x)
 |⟨_::_::_⟩=>(xz _:B P F X<|stuck _)
def O'{P F X}(i:Nat)(fn)(h:cP[i]?=ac fn)(c:fn.body.isNone=aw)(e)(b:mU fn=ac e)(a):B P F X<|e a:=by obtain⟨_,rfl⟩|⟨_,rfl⟩|⟨_,rfl⟩|⟨_,rfl⟩|⟨_,rfl⟩:=Rt h c;rw[x71]at b;cases b;exact xr3 a;rw[Ek]at b;cases b;exact xmy a;rw[Rn]at b;cases b;exact xxd a;rw[jfe]at b;cases b;exact zv1 _ _ a;rw[Em]at b;cases b;exact zvx a
theorem xy8:Tryz.prog.inits=#[2]:=Tryz.inits_eq
theorem xuk{i f}(h:qx i=aw)(a:Tryz.prog.funcs[i]?=ac f):sT cP i:=Ro h a<|Es a
def YZ{i}(h:i≠2):Tryz.prog.inits.idxOf? i=ar:=by grind [xy8]
theorem YY{f}(a:¬sT cP f){x}(hx:Tryz.prog.funcs[f]?=ac x):qx f=ao:=by grind [xuk]
def Dy{f}(a:¬sT cP f):Tryz.prog.inits.idxOf? f=ar/\(f≠160->∀fn c,cP[f]?=ac fn->fn.body=ac c->q9 au aw c=aw):=by refine⟨YZ ?_,λe fn c b d=>?_⟩;rintro rfl;have:=YY a Tryz.func2;revert this;decide;rw[(Pa f).resolve_right a]at b;grind [Rp,YY]
theorem YX(X):ma au cP X:=⟨λf=>(Pa f).imp id aF,je8,O7,O9,λf b h c e d a=>O' f b h c e d a⟩
def jcm(X):ma (wf au cP) cP X:=⟨λf=>aF (by rw[Ao]),λf=>(by rw[Ao]),O7,O9,λf b h c e d a=>O' f b h c e d a⟩
def xy6:sx au cP:=λf a=>⟨(Dy a.2).1,by by_cases h:f=160;grind [Odd160.vJ];exact aE<|(Dy a.2).2 h⟩
def O3(i:Nat)(f:jE):jE:=if i=160 then wk f else wj i f
noncomputable def Tryo.cP:Zc:=Tryz.prog.funcs.mapIdx O3
def YV(i):Tryo.cP[i]?=(Tryz.prog.funcs[i]?).map (O3 i):=by unfold Tryo.cP;simp
theorem JM{i}(h:i≠160):Tryo.cP[i]?=cP[i]?:=by rw[YV,wo];grind [O3]
def JN:Tryo.cP[160]?=ac (wk Tryz.f160):=by rw[YV,Tryz.func160];rfl
def JO:cP[160]?=ac Tryz.f160:=by rw[wo,Tryz.func160];rfl
def xp0(f):(wk f).name=f.name:=rfl
theorem xuq(f):(wk f).results=f.results:=rfl
theorem Pb(f):(wk f).body=ac (.refuse ""):=rfl
def je6(X:ZP):ma (wf au Tryo.cP) cP X where
 fV f:=by rw[Ao];by_cases h:f=160;subst h;exact aE<|aE ⟨_,_,JN,JO,xp0 _,by rw[Pb];rfl,by rw[Odd160.oW];rfl⟩;grind [JM]
 PY f:=by rw[Ao];by_cases h:f=160;subst h;rw[JN,JO];grind [xuq];rw[JM h]
 DK:=O7
 dQ:=O9
 PW f fn h hb e he a:=O' f fn h hb e he a
def xy2{f}(a:Vi (wf au Tryo.cP) cP f):f≠160:=by rintro rfl;have h:=a.1;rw[Ao,JO,JN,xj]at h;grind [Pb,Odd160.oW]
def xyx:sx (wf au Tryo.cP) cP:=λf a=>⟨(Dy a.2).1,aE λb c d e=>by rw[Jo];exact(Dy a.2).2 (xy2 a) b c d e⟩
def jb4(f):¬Mc (wf au Tryo.cP) f:=by rintro⟨j,c,a,d,b⟩;rw[Ao]at a;rw[Jo]at b;by_cases h:f=160;subst h;rw[JN]at a;cases a;rw[Pb]at d;cases d;cases b;rw[JM h]at a;by_cases i:sT cP f;obtain⟨k,s,e,g,_⟩:=i;rw[a]at e;cases e;rw[d]at g;cases g;cases b;rw[(Dy i).2 h j c a d]at b;cases b
def xtt{f}(d:Vi au cP f)(i:Mc au f):f=160:=by by_cases h:f=160;exact h;obtain⟨e,c,a,g,b⟩:=i;rw[<-d.1]at a;rw[(Dy d.2).2 h e c a g]at b;cases b
def je7:AS au cP Odd160.I Tryo.cP where
 uX X f a k w hp hM hk:=by
  obtain rfl:=xtt hp hM;have e:(wf au cP).funcs[160]?=ac Tryz.f160:=by rw[Ao];exact JO
  refine⟨⟨rfl,hk,rfl,rfl, ?_⟩,aE ⟨rfl,0, ?_⟩⟩;simp only[aT,e,Xl,qt,Odd160.ntmps160,Array.size_append,Array.size_replicate];omega;show(aT (wf au cP) 160 a k).todo=_;simp only[aT,e,D4,Odd160.oW,qt]
 mc X fr w h:=by rw[h.1.fn];exact Odd160.vJ
 re X fr w t d h:=⟨h.1,h.2.imp id λ⟨c,n,g⟩=>⟨c,n,Odd160.At.re t d g⟩⟩
 step X fr w hS h:=by obtain⟨i,⟨ch,j,r,k,b,m⟩|⟨b,n,l⟩⟩:=h;refine aE<|aF ⟨ch,b,i.de,λp=>?_⟩;grind [Frame.catches];grind [Odd160.yD,YX]
 zA:=je6
 na:=xyx
 nY f hp hM:=⟨by grind [Ao,Odd160.vJ,JM],hp.2⟩
 AT:=jb4
theorem bL:Yk au cP where
 zA:=YX
 va:=jcm
 na:=xy6
 tY:=Pa
 ro:=Á
 DO:=⟨_,_,je7⟩
def qR:mF au<|Rl 3:=xx3<|YZ Ã
def O6(f:jE):Bool:=match f.body with
 |some (.refuse _)=>ao|_=>aw
theorem fF{i f}(h:qx i=ao)(a:Tryz.prog.funcs[i]?=ac f)(hw:O6 f=aw):Vi au cP i:=by refine⟨?_, ?_⟩;rw[wo,a];grind [wj];rintro⟨c,s,b,d,_⟩;rw[wo,a]at b;grind [wj,O6]
def wY{i f}(h:qx i=ao)(g:i≠160)(j:Tryz.prog.funcs[i]?=ac f):¬Mc au i:=by rintro⟨a,c,b,d,e⟩;grind [Rp]
def YW:Op->Option Operand
 | .move x=>ac x| .assign x=>ac x
 |_=>ar
def sN{fn ops Q rest o a w val}(c:¬Mc au fn)(b:o.guard=ar/\(YW o.op).map a.eval=ac val)(h:Vh au fn ops Q rest (a.put o.dst val) w):Vh au fn ops Q (o::rest) a w:=by obtain⟨d,p,j,i,f,g⟩:=o;obtain⟨rfl,b⟩:=b;refine Vh.ea bL c rfl (λt e=>⟨t,e, ?_⟩) h;cases p<;>simp[YW]at b<;>subst b<;>simp[aL,go_sem]
def p5{fn:FuncId}{Q:Exit->jG->Zy->Prop}{a:jG}{w:Zy}{x y:nW}(b:¬Mc au fn)(c:pm Q)(h:∀(w0:Zy) (Po:Exit->jG->Zy->Prop),qK w w0->aK (∀a' w',Yp au fn y Q a' w'->Po dM a' w')->aK (∀e a' w',e≠ dM->Q e a' w'->Po e a' w')->x.wp prog Po a w0)(hy:ul [cD y]:=by exact trivial):Yp au fn (fO x y) Q a w:=Yp.wS bL qR b c hy h
def Dz{fn Q a w x}(b:¬Mc au fn)(c:pm Q)(h:∀(w0:Zy) (Po:Exit->jG->Zy->Prop),qK w w0->aK (∀e a' w',Q e a' w'->Po e a' w')->x.wp prog Po a w0):Yp au fn x Q a w:=Yp.vF bL qR b c h
end
end
end A
namespace P
open A.Tryq Go.RowKit
section
variable [pn:A.Pn]
section
variable {tv:dL} {b D M n cp clock:Nat} {k:Lk} {L:KV} {w:cY} {es:Array dP} {rm nx:dL}
def uq(es:Array dP)(i:Nat):Zl:=ej (A.fH (i:Int) (ej es)).data
def xvd(i):st (uq es i)=A.fH (i:Int) (ej es):=by simp[st,uq]
def ZU(es):∀(k n r:Nat),r<k->(A.lc es (n:Int) k)[r]?=ac (A.tL ((n+r:Nat):Int)<|st<|uq es<|n+r)
 |0,n,r,h=>absurd h<|Nat.not_lt_zero _
 |k+1,n,0,h=>by simp[A.lc,xvd]
 |k+1,n,r+1,h=>by
  have:=ZU es k (n+1) r À
  grind [A.lc]
def yY(b D M n:Nat)(k:Lk)(L:KV)(es:Array dP)(w:Zy)(r:Nat)(w1:Zy):Prop:=
 ∃c k' L',(c=7\/c=8)/\mJ (uq es) n k L r=ac (k',L')/\zj (λx=>x=b\/x=k.mp) (A.wF (py:=⟨132⟩) w D M c) w1/\Jh w1 b k'/\Je w1 k.mp L'
def pc(tv:Zv)(b D M n cp:Nat)(k:Lk)(L:KV)(es:Array dP)(w:Zy)(ch:List PanicEntry)(w1:Zy):Prop:=
 ∃c,(c=7\/c=8)/\ch=[{v:=tv,recovered:=ao}]/\mJ (uq es) n k L cp=ar/\zj (λx=>x=b\/x=k.mp) (A.wF (py:=⟨132⟩) w D M c) w1
def š{c:Nat}{w1:Zy}(f:w.heap[D]?=ac (aq #[rm,eK<|some M,nx] 132))(i:w.heap[M]?=ac (.map es clock))(h:zj (λx=>x=b\/x=k.mp) (A.wF (py:=⟨132⟩) w D M c) w1):
  zj (λx=>x=b\/x=k.mp) w (A.np w1 D M (aq #[rm,eK<|some M,nx] 132)<|.map es clock):=by
 have g:D<ak w.heap:=(za.1 f).1;have j:M<ak w.heap:=(za.1 i).1;have e:=h.J;rw[A.ld (py:=⟨132⟩)]at e;refine⟨h.os,h.cM, ?_,λx m l=>?_⟩;grind [A.np];simp only[A.np];by_cases d:x=M;grind;rw[zl<|Ne.symm d];by_cases a:x=D;grind;rw[zl<|Ne.symm a,h.dB x (by rw[A.ld (py:=⟨132⟩)];omega) l,A.nR (py:=⟨132⟩) w m a d]
def Ţ{w1 x a b}(c:x≠D)(d:x≠M):(A.np w1 D M a b).heap[x]?=w1.heap[x]?:=by grind [A.np]
theorem ř{x}(a:-9223372036854775808<=x)(b:x<9223372036854775808):IntKind.i64.wrap x=x:=by grind [zh]
def xd8(hk:k.ok)(H:Jh w b k)(hs:Je w k.mp L)(hT:gG w)(hG:fU tv w)
  (U:w.heap[D]?=ac (aq #[rm,eK<|some M,nx] 132))(W:w.heap[M]?=ac (.map es clock))(bg:∀e∈ej es,A.kr e)
  (Z:b≠1)(ba:b≠4)(hm1:k.mp≠1)(bk:k.mp≠4)(bj:b≠k.mp)(a:∀x,x=1\/x=4\/x=b\/x=k.mp->x≠D/\x≠M)
  (q:k.bE+1=(n:Int))(bd:k.aP+1=(n:Int)+cp)(bc:cp<=1000000000)(hn:n<=1000000000000)(B:∀i,aa (uq es i)<=100000):
  A.CC au 106 #[zo b,zo D] w (zS tv b k.mp (mJ (uq es) n k L cp) w):=by
 have bi:1<ak w.heap:=by obtain⟨t,x,_,h⟩:=hG;exact js h
 have bl:=hT.gX;have bb:b<ak w.heap:=H.lt;have be:=hs.lt;have v:∀c x,(x=1\/x=4\/x=b\/x=k.mp)->x<ak w.heap->(A.wF (py:=⟨132⟩) w D M c).heap[x]?=w.heap[x]?:=λc x hx hl=>A.nR (py:=⟨132⟩) w hl (a x hx).1 (a x hx).2;refine(A.sK (py:=⟨132⟩) (I:=yY b D M n k L es w) (J:=pc tv b D M n cp k L es w) (λp=>A.bL) A.qR (A.fF Ã Tryz.func172 rfl) ⟨H.i 11 rfl,H.i 12 rfl⟩ U W bg ?_ bc ?_ À À À ?_ ?_ ?_ ?_ ?_).W ?_;grind [ř];grind [ř];rintro r O t d⟨c,K,G,j,f,g,o,y⟩;exact⟨c,K,G,j,f,g.re,o,y⟩;rintro ch O t d⟨c,j,f,g,o⟩;exact⟨c,j,f,g,o.re⟩;rintro ch O⟨c,j,rfl,_⟩;rfl;intro c j;refine⟨c,k,L,j,rfl,zj.refl _ _, ?_, ?_⟩;exact(v c b Ä bb).trans H;obtain⟨m,Q,f,g⟩:=hs;exact⟨m,Q,(v c k.mp Ä be).trans f,g⟩;intro r hr;rw[A.j6]at hr;refine⟨((n+r:Nat):Int),st _,by rw[q];exact ZU es cp n r hr, ?_⟩;rintro w1⟨c,K,G,j,f,g,o,y⟩ t d;obtain⟨bh,F,_⟩:=MQ hk r f;have Y:zj (λx=>x=b\/x=k.mp) w1<|A.re (aB w1<|A.sL ((n+r:Nat):Int)<|st<|uq es<|n+r) t d:=by have l:zj (λx=>x=b\/x=k.mp) w1<|aB w1<|A.sL ((n+r:Nat):Int)<|st<|uq es<|n+r:=zj.E _;exact⟨l.os,l.cM,l.J,l.dB⟩
 have C:zj (λ_=>False) w1<|A.re (aB w1<|A.sL ((n+r:Nat):Int)<|st<|uq es<|n+r) t d:=by have l:zj (λ_=>False) w1<|aB w1<|A.sL ((n+r:Nat):Int)<|st<|uq es<|n+r:=zj.E _;exact⟨l.os,l.cM,l.J,l.dB⟩
 have z:=g.aA Y;have bf:=z.J;rw[A.ld (py:=⟨132⟩)]at bf;have X:gG<|A.wF (py:=⟨132⟩) w D M c:=λi hi=>by have:=hT i hi;grind [ae]
 have V:fU tv<|A.wF (py:=⟨132⟩) w D M c:=by obtain⟨t',x,R,h⟩:=hG;refine⟨t',x,R, ?_⟩;simp only[ae]at h⊢;rw[v c 1 Ä bi];exact h
 have R:¬(1=b\/1=k.mp):=À
 have e4:¬(4=b\/4=k.mp):=À
 refine(zpp b K bh G _ _ (B _) _ À À Z ba À À À (o.y C id) (by rw[F];exact y.y C id) (X.y z e4)<|V.y z R).mono ?_;intro e O E;rw[F,<-Up f]at E;cases hq:mJ (uq es) n k L (r+1)with
 |none=>
  rw[hq]at E;obtain⟨rfl,s⟩:=E;refine⟨c,j,rfl, ?_,z.aA s⟩;have:=MR hq<|cp-(r+1);rwa[show r+1+(cp-(r+1))=cp by omega]at this
 |some p=>obtain⟨k2,L2⟩:=p;rw[hq]at E;obtain⟨rfl,s,S,T⟩:=E;exact⟨c,k2,L2,j,hq,z.aA s,S,T⟩
 rintro e O⟨w1,rfl,⟨rfl,c,K,G,j,f,g,o,y⟩|⟨ch,rfl,c,j,rfl,f,g⟩⟩;refine De f (š U W g) ?_ ?_;exact(Ţ (a b Ä).1 (a b Ä).2).trans o;obtain⟨m,Q,S,T⟩:=y;exact⟨m,Q,(Ţ (a k.mp Ä).1 (a k.mp Ä).2).trans S,T⟩;exact Jl f<|š U W g
end
def ş:∀{es:List dP} {L:Xv},oG es L->∀e∈es,A.kr e
 |[],_,_,e,he=>by cases he
 |e0::es,[],h,e,he=>by cases Mr h
 |e0::es,(k,v)::L,h,e,he=>by replace h:=C' h;obtain rfl|a:=jc.1 he;exact⟨k,v.2,st v.1,h.1,h.2.1.trans rfl⟩;exact ş h.2.2 e a
def Z'(n):∀{es:List dP} {L:Xv},oG es L->ej (A.fH n es).data=jp L n
 |[],_::_,h=>(H8 h).elim|e0::es,[],h=>by cases Mr h
 |[],[],_=>by simp[A.fH,A.gQ,A.qO,jp,Xm]|e0::es,(k,v)::L,h=>by replace h:=C' h;have c:=Z' n h.2.2;have hk:e0.key=zi k:=h.1;have b:e0.val=bM #[zs v.1,zi v.2]:=h.2.1.trans rfl;by_cases a:n=k;subst a;simp[A.fH,A.gQ,A.qO,hk,b,jp,Xm,st];grind [A.fH,A.gQ,jp,Xm]
def xd7{tv}{b D n cp:Nat}{k L d w}(hk:k.ok)(z:Jh w b k)(C:Je w k.mp L)(y:gG w)(v:fU tv w)(hd:Jt w D d)
  (h:b≠1)(j:b≠4)(hm1:k.mp≠1)(o:k.mp≠4)(l:b≠k.mp)(f:∀x,x=1\/x=4\/x=b\/x=k.mp->¬d.cO D x)
  (a:k.bE+1=(n:Int))(c:k.aP+1=(n:Int)+cp)(m:cp<=1000000000)(B:n<=1000000000000)(q:∀i,aa (jp d.L i)<=100000):
  A.CC au 106 #[zo b,zo D] w (zS tv b k.mp (mJ (λi=>jp d.L (i:Int)) n k L cp) w):=by
 obtain⟨s,g,t,p,_⟩:=hd.iQ;have E:uq s=λi:Nat=>jp d.L (i:Int):=funext λi=>Z' _ p;have:=xd8 hk z C y v (show w.heap[D]?=ac _ from hd.bO) t (ş p) h j hm1 o l (λx r=>⟨λe=>f x r<|aF e,λe=>f x r<|aE<|aF e⟩) a c m B λi=>Â
 grind
end
section
open A
variable [pn:A.Pn]
attribute [local go_sem] zn zg
def xm(v0 v3 v4 v5:Zv)(a:jG):Prop:=∃x1 x2 x6 x7 x8 x9 x10 x11 x12 x13 x14 x15 x16 x17 x18 x19 x20 x21 x22 x23 x24 x25 x26 x27 x28 x29 x30 x31 x32 x33 x34 x35 x36 x37 x38 x39 x40 x41 x42 x43,a=⟨#[v0,x1,x2,v3,v4,v5,x6,x7,x8,x9,x10,x11,x12,x13,x14,x15,x16,x17,x18,x19,x20,x21,x22,x23,x24,x25,x26,x27,x28,x29,x30,x31,x32,x33,x34,x35,x36,x37,x38,x39,x40,x41,x42,x43],[]⟩
noncomputable def uN:=Qf Tryz.f67.body
noncomputable def ZK:=Qb<|Qb uN
noncomputable def ZF:=Qa ZK
noncomputable def ZL:=Qb ZK
noncomputable def ZG:=Qa ZL
noncomputable def ZM:=Qb ZL
noncomputable def ZH:=Qa ZM
noncomputable def ZN:=Qb ZM
noncomputable def ZI:=Qa ZN
noncomputable def ZO:=Qb ZN
def p8:¬Mc au 67:=wY Ã Ã Tryz.func67
def JF:Mc au 106:=⟨_,_,mP,rfl,Á⟩
def tP:Za:=#[aj ⟨#[]⟩,aH aU 0,aj ⟨#[]⟩,aH aU 0,eK ar,aH aU 0,aj ⟨#[]⟩,aj ⟨#[]⟩,aH aU 0,aj ⟨#[]⟩,aj ⟨#[]⟩,aH aU 0,aH aU 0,aH aU 0,aH aU 0,aX ao,aH aU 0]
def lkV(k:Lk)(ck tk:Zl):Zv:=bM (k.G ck tk)
def xrc(k:Lk)(a b):(ay (ay (ay (ay (ay (ay (ay (ay (ay (ay (ay (ay (ay (ay (ay (ay (ay tP 0<|zs k.m) 1<|zi k.tc) 2<|zs k.bJ) 3<|zi k.op) 4<|eK<|some k.mp) 5<|zi k.ep) 6<|zs a) 7<|zs b) 8<|zi k.bA) 9<|zs k.dO) 10<|zs k.eS) 11<|zi k.bE) 12<|zi k.aP) 13<|zi k.eJ) 14<|zi k.fQ) 15<|aX k.cE) 16<|zi k.cN)=k.G a b:=by simp[tP,Lk.G]
def xra{w1 a}(k:Lk)(c d)(b:xh w1 a tP 122):xh (ai (ai (ai (ai (ai (ai (ai (ai (ai (ai (ai (ai (ai (ai (ai (ai (ai w1 (zq a 0)<|zs k.m) (zq a 1)<|zi k.tc) (zq a 2)<|zs k.bJ) (zq a 3)<|zi k.op) (zq a 4)<|eK<|some k.mp) (zq a 5)<|zi k.ep) (zq a 6)<|zs c) (zq a 7)<|zs d) (zq a 8)<|zi k.bA) (zq a 9)<|zs k.dO) (zq a 10)<|zs k.eS) (zq a 11)<|zi k.bE) (zq a 12)<|zi k.aP) (zq a 13)<|zi k.eJ) (zq a 14)<|zi k.fQ) (zq a 15)<|aX k.cE) (zq a 16)<|zi k.cN) a (k.G c d) 122:=by have h:=(((((((((((((((((b.H 0<|zs k.m).H 1<|zi k.tc).H 2<|zs k.bJ).H 3<|zi k.op).H 4<|eK<|some k.mp).H 5<|zi k.ep).H 6<|zs c).H 7<|zs d).H 8<|zi k.bA).H 9<|zs k.dO).H 10<|zs k.eS).H 11<|zi k.bE).H 12<|zi k.aP).H 13<|zi k.eJ).H 14<|zi k.fQ).H 15<|aX k.cE).H 16<|zi k.cN);rw[xrc]at h;exact h
def xrb{w1 a}(k:Lk)(b c):zj (λx=>x=a) w1<|ai (ai (ai (ai (ai (ai (ai (ai (ai (ai (ai (ai (ai (ai (ai (ai (ai w1 (zq a 0)<|zs k.m) (zq a 1)<|zi k.tc) (zq a 2)<|zs k.bJ) (zq a 3)<|zi k.op) (zq a 4)<|eK<|some k.mp) (zq a 5)<|zi k.ep) (zq a 6)<|zs b) (zq a 7)<|zs c) (zq a 8)<|zi k.bA) (zq a 9)<|zs k.dO) (zq a 10)<|zs k.eS) (zq a 11)<|zi k.bE) (zq a 12)<|zi k.aP) (zq a 13)<|zi k.eJ) (zq a 14)<|zi k.fQ) (zq a 15)<|aX k.cE) (zq a 16)<|zi k.cN:=((((((((((((((((((zj.refl _ w1).aA<|zj.H _ (zq a 0) _).aA<|zj.H _ (zq a 1) _).aA<|zj.H _ (zq a 2) _).aA<|zj.H _ (zq a 3) _).aA<|zj.H _ (zq a 4) _).aA<|zj.H _ (zq a 5) _).aA<|zj.H _ (zq a 6) _).aA<|zj.H _ (zq a 7) _).aA<|zj.H _ (zq a 8) _).aA<|zj.H _ (zq a 9) _).aA<|zj.H _ (zq a 10) _).aA<|zj.H _ (zq a 11) _).aA<|zj.H _ (zq a 12) _).aA<|zj.H _ (zq a 13) _).aA<|zj.H _ (zq a 14) _).aA<|zj.H _ (zq a 15) _).aA<|zj.H _ (zq a 16) _)
def xou{m}{k:Lk}{c n b}(o:xh b m (k.G c n) 122)(tm)(C:tm[4]?=ac (zo m))(t d):
  (dX ip tm).run (wf au cP) (re b t d)=cT (bM<|k.G c n) (re b t d):=by
 show(dX ip tm).run prog _=_;have a:xh (re b t d) m (k.G c n) 122:=o;generalize re b t d=w3 at*;have p:=a.i 0 rfl;have q:=a.i 1 rfl;have r:=a.i 2 rfl;have s:=a.i 3 rfl;have v:=a.i 4 rfl;have w:=a.i 5 rfl;have x:=a.i 6 rfl;have y:=a.i 7 rfl;have z:=a.i 8 rfl;have B:=a.i 9 rfl;have e:=a.i 10 rfl;have f:=a.i 11 rfl;have g:=a.i 12 rfl;have h:=a.i 13 rfl;have i:=a.i 14 rfl;have j:=a.i 15 rfl;have l:=a.i 16 rfl;simp[dX,Tryz.results67,go_sem,C,p,q,r,s,v,w,x,y,z,B,e,f,g,h,i,j,l];rfl
def xj5{tv v0 v3 b f k w R C a}(Y:xm v0 v3 (zo f) (zo b) a)
  (E:Jh w b k)(F:xh w f tP 122)(D:fU tv w)(y:b≠f)(X:0<=k.tc)(Z:k.tc<=1000000000000)
  (p:aK<|∀e a' w',qM au cP ip R e a' w'->C e a' w')
  (q:aK<|∀w',pg k->zj (λx=>x=f) w w'->R (ah<|lkV k (Ji k.m k.ep)<|Y7 k.m k.ep) w')
  (v:aK<|∀w',¬pg k->zj (λx=>x=f) w w'->R (jM tv) w'):
  ZO.wp prog C a w:=by
 obtain⟨x1,x2,x6,x7,x8,x9,bb,bc,bd,be,bf,bg,bh,bi,bj,bk,bl,bm,bn,bo,bp,bq,br,bs,bt,bu,bv,bw,bx,bz,ca,cb,cc,cd,ce,cf,cg,ch,ci,cj,rfl⟩:=Y;have s:=xe E;have z:=xe D;have B:=xe F;clear E D F;conv=>arg 2;whnf
 go_wp2;refine(ztr b k _ s.o X Z z.o).mono ?_;rintro e w1⟨h,⟨rfl,i⟩|⟨rfl,i⟩⟩;rotate_left;refine p.o _ _ _ ⟨rfl, ?_⟩;exact v.o _ i.o<|h.W λ_ x=>x.elim;obtain⟨n,j⟩:∃n,Ji k.m k.ep=n:=⟨_,rfl⟩;obtain⟨o,l⟩:∃o,Y7 k.m k.ep=o:=⟨_,rfl⟩;have g:xh w1 b (k.G n o) 122:=by have:=xh.y s.o h id;rw[<-j,<-l];exact this
 rw[j,l]at q;clear j l;have c:=B.o.y h id;have b0:ae w1 (zq b 0)=ac (zs k.m):=g.i 0 rfl;have b1:ae w1 (zq b 1)=ac (zi k.tc):=g.i 1 rfl;have b2:ae w1 (zq b 2)=ac (zs k.bJ):=g.i 2 rfl;have b3:ae w1 (zq b 3)=ac (zi k.op):=g.i 3 rfl;have b4:ae w1 (zq b 4)=ac (eK<|some k.mp):=g.i 4 rfl;have b5:ae w1 (zq b 5)=ac (zi k.ep):=g.i 5 rfl;have b6:ae w1 (zq b 6)=ac (zs n):=g.i 6 rfl;have b7:ae w1 (zq b 7)=ac (zs o):=g.i 7 rfl;have b8:ae w1 (zq b 8)=ac (zi k.bA):=g.i 8 rfl;have b9:ae w1 (zq b 9)=ac (zs k.dO):=g.i 9 rfl;have H:ae w1 (zq b 10)=ac (zs k.eS):=g.i 10 rfl;have I:ae w1 (zq b 11)=ac (zi k.bE):=g.i 11 rfl;have J:ae w1 (zq b 12)=ac (zi k.aP):=g.i 12 rfl;have K:ae w1 (zq b 13)=ac (zi k.eJ):=g.i 13 rfl;have L:ae w1 (zq b 14)=ac (zi k.fQ):=g.i 14 rfl;have M:ae w1 (zq b 15)=ac (aX k.cE):=g.i 15 rfl;have N:ae w1 (zq b 16)=ac (zi k.cN):=g.i 16 rfl;have z0:ae w1 (zq f 0)=ac (aj ⟨#[]⟩):=c.i 0 rfl;have f0:=c.dG 0;have z1:ae w1 (zq f 1)=ac (zi 0):=c.i 1 rfl;have f1:=c.dG 1;have z2:ae w1 (zq f 2)=ac (aj ⟨#[]⟩):=c.i 2 rfl;have f2:=c.dG 2;have z3:ae w1 (zq f 3)=ac (zi 0):=c.i 3 rfl;have f3:=c.dG 3;have z4:ae w1 (zq f 4)=ac (eK ar):=c.i 4 rfl;have f4:=c.dG 4;have z5:ae w1 (zq f 5)=ac (zi 0):=c.i 5 rfl;have f5:=c.dG 5;have z6:ae w1 (zq f 6)=ac (aj ⟨#[]⟩):=c.i 6 rfl;have f6:=c.dG 6;have z7:ae w1 (zq f 7)=ac (aj ⟨#[]⟩):=c.i 7 rfl;have f7:=c.dG 7;have z8:ae w1 (zq f 8)=ac (zi 0):=c.i 8 rfl;have f8:=c.dG 8;have z9:ae w1 (zq f 9)=ac (aj ⟨#[]⟩):=c.i 9 rfl;have f9:=c.dG 9;have cl:ae w1 (zq f 10)=ac (aj ⟨#[]⟩):=c.i 10 rfl;have O:=c.dG 10;have cm:ae w1 (zq f 11)=ac (zi 0):=c.i 11 rfl;have Q:=c.dG 11;have cn:ae w1 (zq f 12)=ac (zi 0):=c.i 12 rfl;have S:=c.dG 12;have co:ae w1 (zq f 13)=ac (zi 0):=c.i 13 rfl;have T:=c.dG 13;have cp:ae w1 (zq f 14)=ac (zi 0):=c.i 14 rfl;have U:=c.dG 14;have cq:ae w1 (zq f 15)=ac (aX ao):=c.i 15 rfl;have V:=c.dG 15;have cr:ae w1 (zq f 16)=ac (zi 0):=c.i 16 rfl;have W:=c.dG 16;have ba:¬f=b:=λe=>y e.symm;have G:=xe h;have r:=xe c;clear h g c s z B;go_wp2;exact p.o _ _ _ ⟨rfl,bM _,λt d=>⟨t,d,xou (xra k n o r.o) _ rfl t d⟩,q.o _ i.o<|(G.o.W λ_ x=>x.elim).aA<|xrb k n o⟩
def Jh.aP{w b k}(h:Jh w b k)(l):Jh (ai w (zq b 12)<|zi l) b {k with aP:=l}:=by have:=xh.H h 12<|zi l;exact this
def xtn{v0 e f:Zv}{b:Nat}{k:Lk}{w:Zy}{d:Exit->jG->Zy->Prop}{a:jG}(m:xm v0 e f (zo b) a)(c:Jh w b k)
  (l:aK (∀a' w',xm v0 e f (zo b) a'->zj (·=b) w w'->Jh w' b {k with aP:=k.bE}->d dM a' w')):ZG.wp prog d a w:=by
 obtain⟨Z,x2,x6,x7,x8,x9,n,o,p,q,r,s,t,v,x,y,z,B,C,D,E,F,G,H,I,J,K,L,M,N,O,Q,R,S,T,U,V,W,X,Y,rfl⟩:=m;have h:ae w (zq b 11)=ac (zi k.bE):=c.i 11 rfl;have i:ae w (zq b 12)=ac (zi k.aP):=c.i 12 rfl;have j:=c.dG 12;have g:=Jh.aP c k.bE;conv=>arg 2;whnf
 go_wp2;exact l.o _ _ ⟨_,_,_,_,_,_,_,_,_,_,_,_,_,_,_,_,_,_,_,_,_,_,_,_,_,_,_,_,_,_,_,_,_,_,_,_,_,_,_,_,rfl⟩ (zj.H w (zq b 12) _) g
def Pc(b:Nat)(w:Zy):Nat:=bB (9999-bP ((ae w<|zq b 12).getD aC))
def Ş{w b k}(h:Jh w b k):Pc b w=bB (9999-k.aP):=by unfold Pc;rw[h.i 12 rfl];rfl
def xj4{B C:Zv}{b D n:Nat}{d:Dk}{k:Lk}{w:Zy}{v:Exit->jG->Zy->Prop}{a:jG}(M:xm (zo D) B C (zo b) a)(N:Jh w b k)(hd:Jt w D d)(r:¬d.cO D b)(Q:k.aP=(n:Int))(R:n<=1000000000000)
  (z:aK (∀a' w',xm (zo D) B C (zo b) a'->zj (·=b) w w'->Jh w' b {k with aP:=(Z7 d.L n:Int)}->v dM a' w')):ZH.wp prog v a w:=by
 obtain⟨x1,x2,x6,x7,x8,x9,T,U,V,W,X,Y,Z,ba,bb,bc,bd,be,bf,bg,bh,bi,bj,bk,bl,bm,bn,bo,bp,bq,br,bs,bt,bu,bv,bw,bx,bz,b0,b1,rfl⟩:=M;have HB:=N;have G:=hd;have o:=r;have H:=Q;conv=>arg 2;whnf
 go_wp2;go_loopw [39] (λ_ wr=>∃i:Nat,i<=1000000000000/\Z7 d.L n=Z7 d.L i/\zj (·=b) w wr/\Jh wr b {k with aP:=(i:Int)}) (λ_ wr=>Pc b wr)
 case atStart=>
  refine⟨n,R,rfl,zj.refl _ _, ?_⟩;have e:({k with aP:=(n:Int)}:Lk)=k:=by rw[<-H]
  grind
 case round=>
  obtain⟨i,hi,O,g,c⟩:=hrel;have p:=O;have m:=g;have q:=c;have F:=xe<|Ş c;have E:=G.y g (λx t e=>o Â);have J:ae wr (zq b 12)=ac (zi i):=c.i 12 rfl;have K:=c.dG 12;by_cases y:i<9999
  ·have S:(i:Int)<9999:=by omega
   go_wp2;refine(Dg D d _ _ E).mono ?_;rintro e w1⟨rfl,rfl⟩;obtain⟨x,t⟩:∃x,jp d.L ((i:Int)+1)=x:=⟨_,rfl⟩;rw[t];have f:=t;by_cases l:x=[]
   ·have j:=p.trans (IH λh=>h.2<|(f).trans l);have s:=xl [];subst l;go_wp2;refine z.o _ _ ⟨_,_,_,_,_,_,_,_,_,_,_,_,_,_,_,_,_,_,_,_,_,_,_,_,_,_,_,_,_,_,_,_,_,_,_,_,_,_,_,_,rfl⟩ m ?_;rw[j];exact q
   have j:=p.trans<|Fd y λh=>l<|f.symm.trans h;have s:(st x).toList.isEmpty=ao:=by rw[xl];simpa using l
   go_wp2;have I:=Jh.aP q<|(i:Int)+1;have BS:=m.aA<|zj.H w1 (zq b 12)<|zi<|(i:Int)+1;go_roundw
   case rel=>grind
   case measure=>rw[Ş I,F.o];grind
  have S:¬(i:Int)<9999:=À
  have j:=p.trans<|IH λh=>y h.1;go_wp2;refine z.o _ _ ⟨_,_,_,_,_,_,_,_,_,_,_,_,_,_,_,_,_,_,_,_,_,_,_,_,_,_,_,_,_,_,_,_,_,_,_,_,_,_,_,_,rfl⟩ m ?_;rw[j];exact q
def Pe(l:Zl):qi (l.take 4)<4294967296:=by
 have h:=xV<|l.take 4;have:aa (l.take 4)<=4:=Ă
 have:256^aa (l.take 4)<=256^4:=J7 Ã this;omega
theorem ZY{k F}(a:jp F 0≠[])(h:¬tu k.m k.tc (jp F 0)):Xc k F=ar:=by grind [Xc]
def ZZ{k F}(a:jp F 0≠[])(h:tu k.m k.tc<|jp F 0):Xc k F=(Y6 (Ym<|jp F 0) F<|Ji k.m (Ym<|jp F 0).ep).map λL=>(k.ga (Ym<|jp F 0) k.mp,L):=by grind [Xc]
theorem Ŝ{k F}(a:jp F 0=[]):Xc k F=ac (k,[]):=by grind [Xc]
def xov{tv X:Zv}{b D r3 lo:Nat}{d:Dk}{k:Lk}{w:Zy}{q:Exit->jG->Zy->Prop}{a:jG}(ha:xm (zo D) (zo r3) X (zo b) a)(hb:Jh w b k)(hs:Je w k.mp [])(hd:Jt w D d)(J:¬d.cO D b)(I:4<b)
  (r:xh w r3 #[zs k.m,zi k.tc,zs k.bJ,zi k.op] 78)(hG:fU tv w)(hT:gG w)(hm:aa k.m=32)(hl:aa (jp d.L 0)<=1000000)(O:lo<=k.mp)(ba:lo<=ak w.heap)(K:k.bE=0)
  (hN:aK (∀a' w' k1 L1,xm (zo D) (zo r3) X (zo b) a'->zj (·=b) w w'->Xc {k with mp:=k1.mp} d.L=ac (k1,L1)->Jh w' b k1->Je w' k1.mp L1->lo<=k1.mp->(∃n:Nat,k1.bE=(n:Int)/\n<=4294967296)->q dM a' w'))
  (hX:aK (∀a' w',a'.defers=[]->(∀mp,Xc {k with mp:=mp} d.L=ar)->zj (·=b) w w'->q (lT [{v:=tv,recovered:=ao}]) a' w')):ZF.wp prog q a w:=by
 obtain⟨x1,x2,x6,x7,x8,x9,bd,be,bf,bg,bh,bi,bj,bk,bl,bm,bn,bo,bp,bq,br,bs,bt,bu,bv,bw,bx,bz,b0,b1,b2,b3,b4,b5,b6,b7,b8,b9,ca,cb,rfl⟩:=ha;have Z:=hb;have HS:=hs;have HD:=hd;have y:=J;have HG:=hG;have HT:=hT;have HM:=hm;have z:=K;have c0:ae w (zq r3 0)=ac (zs k.m):=r.i 0 rfl;have c1:ae w (zq r3 1)=ac (zi k.tc):=r.i 1 rfl;have c2:ae w (zq r3 2)=ac (zs k.bJ):=r.i 2 rfl;have c3:ae w (zq r3 3)=ac (zi k.op):=r.i 3 rfl;obtain⟨x,U⟩:∃x,jp d.L 0=x:=⟨_,rfl⟩;have g:=U;have CB:aG prog 76 #[zo D,zi 0] w λe w'=>e=ah (zs x)/\w'=w:=by have:=Dg D d 0 w hd;rw[U]at this;exact this
 rw[U]at hl;have H:1<ak w.heap:=by have:=hT.gX;omega
 conv=>arg 2;whnf
 go_wp2;refine CB.mono ?_;rintro e w1⟨rfl,rfl⟩;by_cases l:x=[]
 ·have i:=g.trans l;have R:=xl [];subst l;go_wp2;refine hN.o _ _ k [] ⟨_,_,_,_,_,_,_,_,_,_,_,_,_,_,_,_,_,_,_,_,_,_,_,_,_,_,_,_,_,_,_,_,_,_,_,_,_,_,_,_,rfl⟩ (zj.refl _ _) (Ŝ i) Z HS O ⟨0,z,À⟩
 have i:jp d.L 0≠[]:=λh=>l<|g.symm.trans h;have R:(st x).toList.isEmpty=ao:=by rw[xl];simpa using l
 go_wp2;refine(zti k.m _ k.tc k.op x HM hl _ H HT HG).mono ?_;rintro e Y⟨f,⟨rfl,S⟩|⟨rfl,bc⟩⟩
 ·have E:tu k.m k.tc<|jp d.L 0:=by show tu _ _ _;rw[g];exact S
  have G:=f;have B2:=xh.y Z f id;have D2:=HD.y f λ_ _=>id;have G2:=HG.y f id;have T2:=HT.y f id;obtain⟨c,j⟩:∃c,Ym x=c:=⟨_,rfl⟩;have C:aK<|Ym (jp d.L 0)=c:=by show _=_;rw[g];exact j
  have Q:c.gp<=100000000000:=by have:=Pe<|vw x;rw[<-j];show qi _<=_;omega
  have B:c.bE<=4294967296:=by have:=Pe<|vv x;show c.bE<=_;rw[<-j];show qi _<=_;omega
  rw[j];obtain⟨W,p⟩:∃W,c.V=W:=⟨_,rfl⟩;have t:aG prog 104 #[zo b,W,zo D] Y<|wQ tv b k c (Y6 c d.L<|Ji k.m c.ep) Y:=by have:=xmz b k c D d HM Q Y B2 D2 y I G2 T2;rw[p]at this;exact this
  rw[p];go_wp2;refine t.mono ?_;rintro e w3⟨o,s⟩;have F:∀mp,Xc {k with mp:=mp} d.L=(Y6 c d.L<|Ji k.m c.ep).map λL=>(k.ga c mp,L):=λmp=>by have:=ZZ (k:={k with mp:=mp}) i E;rw[C.o]at this;exact this
  cases hq:Y6 c d.L (Ji k.m c.ep)with
  |none=>rw[hq]at s;subst s;exact hX.o _ _ rfl (λmp=>Â)<|(G.W λ_ x=>x.elim).aA o
  |some L1=>rw[hq]at s;obtain⟨rfl,mp,bb,T,M⟩:=s;have HF:aK<|∀a',xm (zo D) (zo r3) X (zo b) a'->q dM a' w3:=λa' h=>hN.o a' w3 _ L1 h ((G.W λ_ x=>x.elim).aA o) (by have:=F mp;rw[hq]at this;exact this) M T (by have:=G.J;show lo<=mp;omega) ⟨c.bE,rfl,B⟩;go_wp2;exact HF.o _ ⟨_,_,_,_,_,_,_,_,_,_,_,_,_,_,_,_,_,_,_,_,_,_,_,_,_,_,_,_,_,_,_,_,_,_,_,_,_,_,_,_,rfl⟩
 refine hX.o _ _ rfl (λmp=>ZY i ?_)<|f.W λ_ x=>x.elim;grind
end
end P
namespace A
open Tryq Go Go.Conc Go.RowKit
section
variable [pn:Pn]
section
variable {P:bT} {F:Array jE} {dm:fk} {w w':cY} {a:jG} {Q:Exit->jG->cY->Prop} {fn:FuncId} {ops:Array fj}
theorem p6{l i}(h:i∈aW ff ops l):∃o,ops[i]?=ac o/\l[i]?=ac ao/\∀e∈o.after,Region.binds ff e=aw->l[e.on]?=ac aw:=by unfold aW at h;obtain⟨j,c⟩:=Ja.1 h;simp only[jy,Bool.not_eq_true']at c;obtain⟨d,a⟩:=c;cases ho:ops[i]?with|none=>grind|some o=>rw[ho]at a;simp only[Xl,qt]at a;refine⟨o,rfl, ?_,λe g f=>?_⟩;rw[Jj]at d;grind;have b:=jn.1 a e g;rw[f]at b;simp only[Bool.not_true,Bool.false_or]at b;rw[Jj]at b;grind
def JP(ops:Array fj):Bool:=(gO (ak ops)).all λi=>match ops[i]?with
 |some o=>o.after.all λe=>bI (e.on<i)|none=>aw
def ZA{l}(hd:JP ops=aw)(j:ak l=ak ops)(h:aW ff ops l=[]):∀i,i<ak ops->l[i]?=ac aw:=by
 intro i;induction i using Nat.strongRecOn with
 |_ i ih=>
  intro a;have d:ops[i]?=ac ops[i]:=xy a;have g:l[i]?=ac l[i]:=xy À;cases hb:l[i]with
  |true=>grind
  |false=>
   exfalso;have:i∈aW ff ops l:=by
    unfold aW;refine Ja.2 ⟨List.mem_range.2 a, ?_⟩;rw[d];simp only[jy,Bool.not_eq_true',Xl,qt];refine⟨Ë,jn.2 λe f=>?_⟩;have b:e.on<i:=by have c:=D3.1 hd i<|List.mem_range.2 a;rw[d]at c;exact Xt<|jn.1 c e f
    rw[Jj,ih _ b À];simp
   grind
def yE(l:List Bool):Nat:=aa (l.filter (! ·))
def Y':∀{l:List Bool} {i:Nat},l[i]?=ac ao->yE (l.set i aw)+1=yE l
 |[],i,h=>Ê
 |b::l,0,h=>by
  cases h;simp[yE]
 |b::l,i+1,h=>by have:=Y' (l:=l) h;grind [yE]
def Y2:∀{l:List Bool} {i:Nat},yE l=0->l[i]?≠ac ao
 |[],i,h,e=>Ç
 |b::l,0,h,e=>by grind [yE]|b::l,i+1,h,e=>by refine Y2 (l:=l) ?_ e;grind [yE]
def Yp.yY(K:Yk P F){id}(x:¬Mc P fn)(y:P.follows mV=aw)(c:JP ops=aw)(J:Array Bool->jG->Zy->Prop)(s:J (bV (ak ops) ao) a w)
  (b:∀l a w,J l a w->(∀i,i<ak ops->l[i]?=ac aw)->Q dM a w)
  (d:∀l a w i o,J l a w->ak l=ak ops->ops[i]?=ac o->l[i]?=ac ao->(∀e∈o.after,Region.binds ff e=aw->l[e.on]?=ac aw)->oX P fn ops Q i (J<|ay l i aw) a w):Yp P fn (eU id ops aw) Q a w:=by
 have p:∀(m:Nat) (l:Array Bool) (a:jG) (w:Zy),ak l=ak ops->yE (ej l)=m->J l a w->IY P fn ff ops Q m l a w:=by
  intro m;induction m with
  |zero=>
   intro l a w j q g;have h:aW ff ops l=[]:=by refine List.eq_nil_iff_forall_not_mem.2 λi n=>?_;obtain⟨o,_,f,_⟩:=p6 n;exact Y2 q<|by simpa using f
   exact⟨h,b l a w g<|ZA c j h⟩
  |succ m ih=>
   intro l a w j q g;refine⟨λh=>b l a w g<|ZA c j h,λi n=>?_⟩;obtain⟨o,t,f,v⟩:=p6 n;refine(d l a w i o g j t f v).W λr z k=>ih _ r z Â ?_ k;have:=Y' (l:=ej l)<|by simpa using f
   grind
 refine Yp.Fp K x y<|p _ _ a w Ä ?_ s;simp[yE]
def Dx{l:Array Bool}{i j}(h:(ay l i aw)[j]?=ac aw):j=i\/l[j]?=ac aw:=Â
end
section
variable {P:bT} {F:Array jE} {dm:fk} {w w':cY}
def RX.vN(K:Yk P F)(x:mF P dm){f fnc u r cs R}(hk:f.kind=cJ)(H:¬Mc P f.fn)(L:∃fn,P.funcs[f.fn]?=ac fn)(y:(wf P F).funcs[f.fn]?=ac fnc)(I:f.mode=u)
  (B:∀e w t d,R e (A.re w t d)->R e w)(z:∀w',¬R iE w')(G:∀t d,Leaves (wf P F) fnc f.tmps R f.defers u<|A.re w t d):
  RX P (Xh f (r::cs)) w (λg' w'=>∃e,R e w'/\Oa r cs e g'):=by
 refine(RX.rA K x
  (End:=λg' w'=>∃e g q n,R e (A.re w' q n)/\e≠ iE/\g'=Xh g [dm]/\g.fn=f.fn/\g.leaving (wf P F) (A.re w' q n) e) (λg' w' t d=>Iff.rfl) ?_ H hk ?_).aA ?_
 rintro g' w'⟨e,g,q,n,_,h,rfl,_,m⟩ ⟨_,hd⟩;cases e with
 |outgrown=>grind
 |returned v=>
  obtain⟨a,b,_⟩:=m;obtain⟨j,_⟩|⟨_,j,_⟩:=hd;have k:g.mode= .run:=j;grind;have k:g.defers=[_]:=j;grind
 |panicked c=>obtain⟨a,b,_⟩:=m;obtain⟨j,_⟩|⟨_,j,_⟩:=hd;have k:g.mode= .run:=j;grind;have k:g.defers=[_]:=j;grind
 intro t d;obtain⟨e,w',g,i,D,o,m⟩:=leaves_steps (P:=wf P F) f.defers u (A.re w t d) f [dm] I rfl rfl y hk<|G t d;have h:e≠ iE:=by rintro rfl;exact z _ i
 refine⟨g,[dm],w', ?_,e,g,w'.tape,w'.drawn,i,h,rfl,o,m⟩;cases e with
 |outgrown=>grind|returned v=>exact D
 |panicked c=>exact D
 rintro C w'⟨g',l,⟨e,g,q,n,i,h,rfl,o,m⟩,s,rfl⟩;have:l=[]:=by have E:[dm]=l++[dm]:=s;have:=congrArg aa E;simp only[zx,Zr]at this;exact jv À
 subst this;have i:=B _ _ _ _ i;have p:AR P F g w' e:=⟨h,q,n,m⟩;show RX P (Xh g (r::cs)) w' _;cases e with
 |outgrown=>grind
 |returned v=>
  refine(RX.wi K Â p).aA ?_;rintro C J⟨t,d,rfl,rfl⟩;exact(RX.refl ⟨_,i,rfl⟩).pG
 |panicked ch=>refine(RX.gV p Â).aA ?_;rintro C J⟨rfl,rfl⟩;exact .refl ⟨_,i,rfl⟩
end
end
section
variable [pn:Pn]
section
variable {w w':cY} {a:jG} {l:Array Bool} {i j:Nat} {p p':Prop}
def JK{f args R fn}(g:qx f=ao)(i:f≠160)(a:Tryz.prog.funcs[f]?=ac fn)(hw:O6 fn=aw)(c:∀e w t d,R e (re w t d)->R e w)(b:∀w',¬R iE w')
  (h:∀t d,aG prog f args (re w t d) R):CC au f args w R:=CC.o0 bL qR (fF g a hw) (wY g i a) ⟨_,a⟩ c b h
def At(a:jG)(t:Nat)(v:Zv):Prop:=a.tmps[t]?=ac v
def At.ev{t v}(h:At a t v):a.eval (bZ t)=v:=by unfold At at h;simp[iH,h]
theorem At.put{t s v}(h:At a t v)(b:t≠s)(u):At (a.put (ac s) u) t v:=by grind [At,fe]
theorem At.dT{t n v}(b:ak a.tmps=n)(h:t<n):At (a.put (ac t) v) t v:=by grind [At,fe]
def Cc{s n u}(h:ak a.tmps=n):ak (a.put (ac s) u).tmps=n:=by simpa[fe]using h
def Li(l:Array Bool)(j:Nat)(p:Prop):Prop:=l[j]?=ac aw->p
theorem Li.kZ{n}:Li (bV n ao) j p:=λh=>Â
theorem Li.dQ(h:Li l j p)(a:j≠i)(k:p->p'):Li (ay l i aw) j p':=λb=>k<|h<|(Dx b).resolve_left a
theorem Li.j5(k:p):Li l i p:=λ_=>k
end
end
end A
namespace P
open A.Tryq Go.RowKit A
section
variable [pn:A.Pn]
def FT(cs:Za):Nat->Ze->Za
 |_,[]=>cs|o,v::vs=>FT (ay cs o v) (o+1) vs
theorem ZS:∀(vs:Ze) (cs:Za) (o j:Nat),o+aa vs<=ak cs->(FT cs o vs)[j]?=if o<=j/\j<o+aa vs then vs[j-o]?else cs[j]?
 |[],cs,o,j,h=>by rw[if_neg Ä];rfl
 |v::vs,cs,o,j,h=>by simp only[xg]at h;rw[FT,ZS vs _ (o+1) j Â];simp only[xg];by_cases a:o+1<=j/\j<o+1+aa vs;grind;rw[if_neg a];grind
theorem xk0(cs cs')(h:ak cs=ak cs'):FT cs 0 (ej cs')=cs':=by apply Vn;grind [ZS]
def xh.ik{t:Zt}{b}:∀(vs:Ze) {cs:Za} {w:Zy} (o:Nat),xh w b cs t->xh (dZ w b o vs) b (FT cs o vs) t
 |[],cs,w,o,h=>h|v::vs,cs,w,o,h=>by have a:=xh.ik vs (o+1)<|h.H o v;exact a
def zj.ik{b}:∀(vs:Ze) (w:Zy) (o:Nat),zj (·=b) w (dZ w b o vs)
 |[],w,o=>zj.refl _ _|v::vs,w,o=>(zj.H w (zq b o) v).aA<|zj.ik vs _<|o+1
theorem xh.Cd{w b cs}{t ty:Zt}{d:TypeDesc}(h:xh w b cs t)(a:prog.underlying ty=ac d)(hd:d.isRow=aw)(c:(prog.info? ty).map (·.size)=ac (ak cs)):(loadVar ty<|zq b 0).run prog w=cT (bM cs) w:=by have:=run_loadVar_mid w b 0 ty (ej cs) d (λj v e=>by rw[j7];exact h.i j Â) a hd À;omega
def xh.Ar{w b cs cs'}{t ty:Zt}(h:xh w b cs t)(k:ak cs=ak cs')(g:(prog.info? ty).map (·.size)=ac (ak cs'))(f:cs'.all (·.oneCell')=aw):
  ∃w',(storeVar ty (zq b 0)<|bM cs').run prog w=cT () w'/\xh w' b cs' t/\zj (·=b) w w'/\∀t d,(storeVar ty (zq b 0)<|bM cs').run prog (re w t d)=cT () (re w' t d):=by
 have c:∀w,xh w b cs t->(storeVar ty (zq b 0)<|bM cs').run prog w=cT () (dZ w b 0 (ej cs')):=λw h=>run_storeVar_mid w b 0 ty cs' (λj i=>by rw[j7];refine⟨?_,h.dG j⟩;rw[h.i j (v:=cs[j]' À)<|xy À];rfl) g f;have e:∀(a:Ze) (w:Zy) (o:Nat) (t:Nat->Question->Nat) (d:Nat),dZ (re w t d) b o a=re (dZ w b o a) t d:=by intro a;induction a with|nil=>intro w o t d;rfl|cons v a ih=>intro w o t d;show(ai (re w t d) (zq b o) v).setCells b (o+1) a=re (dZ (ai w (zq b o) v) b (o+1) a) t d;rw[<-ih];congr 1
 refine⟨_,c w h, ?_,zj.ik _ _ _,λt d=>?_⟩;have:=xh.ik (ej cs') 0 h;grind [xk0];rw[c (re w t d) h,e]
end
section
variable [pn:A.Pn]
attribute [local go_sem] zn zg
noncomputable def tO:Array fj:=match uN with
 | fO _ (fO (eU _ ops _) _)=>ops|_=>#[]
theorem ś:ak tO=8:=Á
def Aq:Tryz.prog.follows mV=aw:=Á
def jcg:JP tO=aw:=Á
def oj(m mark:Zl)(tc op:Int):Za:=#[aj<|st m,aH aU tc,aj<|st mark,aH aU op]
def ZX{ρ o}{ty:Zt}{x w b cs}{t:Zt}{d:TypeDesc}(ho:o.op= .load ty x)(hx:ρ x=zo b)(h:xh w b cs t)(c:prog.underlying ty=ac d)(hd:d.isRow=aw)(a:(prog.info? ty).map (·.size)=ac (ak cs)):
  (aL ρ o).run prog w=cT (fA<|bM cs) w:=by
 unfold aL;simp only[ho,hx,Instr.loadAt,Instr.sureAddr,zc9,zda,Result.andThen_ok,h.Cd c hd a]
def ZW{ρ o}{ty:Zt}{x y w w' b cs'}(ho:o.op= .store ty x y)(hx:ρ x=zo b)(hy:ρ y=bM cs')(h:(storeVar ty (zq b 0)<|bM cs').run prog w=cT () w'):
  (aL ρ o).run prog w=cT .skip w':=by
 unfold aL;simp only[ho,hx,hy,Instr.storeAt,Instr.sureAddr,zc9,zda,Result.andThen_ok,h]
def ZQ:∃d,prog.underlying 78=ac d/\d.isRow=aw:=⟨_,(ex 78).trans Tryz.underlying78,rfl⟩
def ZD:(prog.info? 122).map (·.size)=ac 17:=Á
def ZB:(prog.info? 78).map (·.size)=ac 4:=Á
def Tb(T:List<|Nat×Nat×Zv)(l:Array Bool)(a:jG):Prop:=∀x∈T,Li l x.1<|At a x.2.1 x.2.2
theorem Tb.put{T l a}(h:Tb T l a){n i s v}(f:ak a.tmps=n)(d:s<n)(c:∀x∈T,(x.2.1≠s/\x.1≠i)\/x=(i,s,v)):Tb T (ay l i aw)<|a.put (ac s) v:=λx b=>(c x b).elim (λe=>(h x b).dQ e.2 λy=>y.put e.1 _) λe=>by subst e;exact .j5<|.dT f d
def Tb.pJ{T l a}(h:Tb T l a){i}(c:∀x∈T,x.1≠i):Tb T (ay l i aw) a:=λx b=>(h x b).dQ (c x b) id
theorem Tb.kZ{T n a}:Tb T (bV n ao) a:=λ_ _=> .kZ
structure uo(w:Zy)(v0:Zv)(r3:Nat)(v4:Zv)(m mark:Zl)(tc op:Int)(mp b:Nat)(l:Array Bool)(a:jG)(w':Zy):Prop where
 df:a.defers=[]
 sz:ak a.tmps=44
 nw:Nw w w'
 s0:At a 0 v0
 s3:At a 3<|zo r3
 s4:At a 4 v4
 T:Tb [(0,7,bM<|oj m mark tc op),(2,9,bM<|oj m mark tc op),(3,10,bM #[zs<|Ji m 0,zs<|Y7 m 0]),(4,11,zs Yn)] l a
 l1:Li l 1<|At a 8 (eK<|some mp)/\ak w.heap<=mp/\Je w' mp []
 l5:Li l 5<|l[1]?=ac aw/\At a 12 (bM<|(jB m mark tc op mp).G (Ji m 0)<|Y7 m 0)
 l6:Li l 6<|At a 5 (zo b)/\ak w.heap<=b/\(l[7]?=ac ao->xh w' b tP 122)
 l7:Li l 7<|(l[1]?=ac aw/\l[6]?=ac aw)/\Jh w' b (jB m mark tc op mp)
def FU{l:Array Bool}{i j}(h:(ay l i aw)[j]?=ac ao)(a:i≠j):l[j]?=ac ao:=Â
def Wp{l:Array Bool}{i j:Nat}(h:l[j]?=ac aw):(ay l i aw)[j]?=ac aw:=Â
def xh.nw{w w' b cs}{t:Zt}(h:xh w b cs t)(k:Nw w w'):xh w' b cs t:=h.y k id
def Je.nw{w w' b L}(h:Je w b L)(k:Nw w w'):Je w' b L:=h.y k id
def Jh.nw{w w' b k}(h:Jh w b k)(a:Nw w w'):Jh w' b k:=xh.y h a id
def Nw.E(w o):Nw w<|aB w o:=zj.E _
theorem Nw.kO{w w'}(h:Nw w w')(t d):Nw w<|re w' t d:=⟨h.os,h.cM,h.J,h.dB⟩
def Nw.Q{w w' t d}(h:aN (ak (A.re w t d).heap) (A.re w t d) w'):Nw w w':=⟨h.os,h.output,h.size,λk hk _=>h.block k hk⟩
def gG.nw{w w'}(h:gG w)(k:Nw w w'):gG w':=h.y k id
def fU.nw{tv w w'}(h:fU tv w)(k:Nw w w'):fU tv w':=h.y k id
section
variable {w:cY} {v0 v4:dL} {r3:Nat} {m mark:List UInt8} {tc op:Int} {mp b:Nat} {l:Array Bool} {a:jG} {w1:cY} {Q:Exit->jG->cY->Prop}
def Ap(w:Zy)(v0:Zv)(r3:Nat)(v4:Zv)(m mark:Zl)(tc op:Int)(l:Array Bool)(a:jG)(w1:Zy)(Q:Exit->jG->Zy->Prop)(i:Nat):Prop:=∀o:fj,ak l=ak tO->tO[i]?=ac o->l[i]?=ac ao->(∀e∈o.after,Region.binds ff e=aw->l[e.on]?=ac aw)->oX au 67 tO Q i (λa w1=>∃mp b,uo w v0 r3 v4 m mark tc op mp b (ay l i aw) a w1) a w1
def uo.go(J:uo w v0 r3 v4 m mark tc op mp b l a w1){e:Zy}(d:Nw w1 e){i s:Nat}{v:Zv}(f:i=0\/i=2\/i=3\/i=4)(g:s=i+7)(c:∀x∈[(0,7,bM<|oj m mark tc op),(2,9,bM<|oj m mark tc op),(3,10,bM #[zs<|Ji m 0,zs<|Y7 m 0]),(4,11,zs Yn)],(x.2.1≠s/\x.1≠i)\/x=(i,s,v)):∃mp b,uo w v0 r3 v4 m mark tc op mp b (ay l i aw) (a.put (ac s) v) e:=
 ⟨mp,b,J.df,Cc J.sz,J.nw.aA d,J.s0.put À _,J.s3.put À _,J.s4.put À _,J.T.put J.sz À c,J.l1.dQ À λx=>⟨x.1.put À _,x.2.1,x.2.2.nw d⟩,J.l5.dQ À λx=>⟨Wp x.1,x.2.put À _⟩,J.l6.dQ À λx=>⟨x.1.put À _,x.2.1,λh=>(x.2.2<|FU h À).nw d⟩,J.l7.dQ À λx=>⟨⟨Wp x.1.1,Wp x.1.2⟩,Jh.nw x.2 d⟩⟩
def jcy(g:xh w r3 (oj m mark tc op) 78)(J:uo w v0 r3 v4 m mark tc op mp b l a w1):Ap w v0 r3 v4 m mark tc op l a w1 Q 0:=λo k c j hd=>by have e:=c;simp[tO,uN,ip,Qf]at c;subst c;obtain⟨d,i,h⟩:=ZQ;refine oX.ea bL p8 e rfl (λt f=>⟨t,f,ZX rfl J.s3.ev (g.nw<|J.nw.kO t f) i h ZB⟩)<|J.go (zj.refl _ _) Ä rfl Ä
def jc0(g:xh w r3 (oj m mark tc op) 78)(J:uo w v0 r3 v4 m mark tc op mp b l a w1):Ap w v0 r3 v4 m mark tc op l a w1 Q 2:=λo k c j hd=>by have e:=c;simp[tO,uN,ip,Qf]at c;subst c;obtain⟨d,i,h⟩:=ZQ;refine oX.ea bL p8 e rfl (λt f=>⟨t,f,ZX rfl J.s3.ev (g.nw<|J.nw.kO t f) i h ZB⟩)<|J.go (zj.refl _ _) Ä rfl Ä
def jcz(J:uo w v0 r3 v4 m mark tc op mp b l a w1):Ap w v0 r3 v4 m mark tc op l a w1 Q 1:=λo j c i hd=>by
 have d:=c;simp[tO,uN,ip,Qf]at c;subst c;have f:¬l[5]?=ac aw:=λh=>by have:=(J.l5 h).1;grind
 have g:¬l[7]?=ac aw:=λh=>by have:=(J.l7 h).1.1;grind
 refine oX.ea bL p8 d rfl (λt e=>⟨t,e, ?_⟩) ⟨ak w1.heap,b,⟨J.df,Cc J.sz,J.nw.aA<|Nw.E _ _,(J.s0.put Ã _),(J.s3.put Ã _),(J.s4.put Ã _),J.T.put J.sz Ã Ä,.j5 ⟨.dT J.sz Ã,J.nw.J,#[],0,xn _ _,rfl,MapKept.stamped_empty 0⟩,λh=>absurd ((Dx h).resolve_left Ã) f,J.l6.dQ Ã λx=>⟨(x.1.put Ã _),x.2.1,λh=>(x.2.2<|FU h Ã).nw<|Nw.E _ _⟩,λh=>absurd ((Dx h).resolve_left Ã) g⟩⟩;rfl
def jc1(k:aa m=32)(j:gG w)(J:uo w v0 r3 v4 m mark tc op mp b l a w1):Ap w v0 r3 v4 m mark tc op l a w1 Q 3:=λo q c p hd=>by
 have f:=c;simp[tO,uN,ip,Qf]at c;subst c;have i:a.tmps[9]?=ac _:=J.T (2,9,bM<|oj m mark tc op) Ä<|hd ⟨2,eM⟩ Ä rfl;refine oX.kN (R:=λe g=>e=ah (bM #[zs<|Ji m 0,zs<|Y7 m 0])/\Nw w1 g) bL p8 J.df f rfl (args:=#[bM<|oj m mark tc op,zi 0]) (λv=>?_) (fF rfl Tryz.func103 rfl) (JK rfl Ã Tryz.func103 rfl (λe w t d h=>⟨h.1,h.2.re⟩) (λg h=>by cases h.1) λt d=>(Id m mark tc op 0 k (re w1 t d)<|j.nw<|J.nw.kO t d).mono λe g h=>⟨h.1,Nw.Q h.2⟩) ?_ ?_
 ·show(aL a.eval _).run prog v=_;simp[aL,go_sem,nD,i]
 rintro v r⟨e,n⟩;cases e;exact J.go n Ä rfl Ä
 grind
def jc2(J:uo w v0 r3 v4 m mark tc op mp b l a w1):Ap w v0 r3 v4 m mark tc op l a w1 Q 4:=λo k c j hd=>by
 have f:=c;simp[tO,uN,ip,Qf]at c;subst c;refine oX.kN (R:=λe g=>e=ah (zs Yn)/\Nw w1 g) bL p8 J.df f rfl (λv=>?_) (fF rfl Tryz.func58 rfl) (JK rfl Ã Tryz.func58 rfl (λe w t d h=>⟨h.1,h.2.re⟩) (λg h=>by cases h.1) λt d=>(Uw<|re w1 t d).mono λe g h=>⟨h.1,Nw.Q h.2⟩) ?_ ?_
 ·show(aL a.eval _).run prog v=_;simp[aL,go_sem,nD]
 rintro v n⟨e,i⟩;cases e;exact J.go i Ä rfl Ä
 grind
def jc3(J:uo w v0 r3 v4 m mark tc op mp b l a w1):Ap w v0 r3 v4 m mark tc op l a w1 Q 5:=λo n e k hd=>by have f:=e;simp[tO,uN,ip,Qf]at e;subst e;have i:=hd ⟨1,eM⟩ Ä rfl;have j:a.tmps[7]?=ac _:=J.T (0,7,bM<|oj m mark tc op) Ä<|hd ⟨0,eM⟩ Ä rfl;have e8:a.tmps[8]?=ac _:=(J.l1 i).1;have c:a.tmps[10]?=ac _:=J.T (3,10,bM #[zs<|Ji m 0,zs<|Y7 m 0]) Ä<|hd ⟨3,eM⟩ Ä rfl;have d:a.tmps[11]?=ac _:=J.T (4,11,zs Yn) Ä<|hd ⟨4,eM⟩ Ä rfl;refine oX.ea bL p8 f rfl (λt g=>⟨t,g, ?_⟩) ⟨mp,b,⟨J.df,Cc J.sz,J.nw,(J.s0.put Ã _),(J.s3.put Ã _),(J.s4.put Ã _),J.T.put J.sz Ã Ä,J.l1.dQ Ã λx=>⟨(x.1.put Ã _),x.2.1,x.2.2⟩,.j5 ⟨Wp i,.dT J.sz Ã⟩,J.l6.dQ Ã λx=>⟨(x.1.put Ã _),x.2.1,λh=>x.2.2<|FU h Ã⟩,J.l7.dQ Ã λx=>⟨⟨Wp x.1.1,Wp x.1.2⟩,x.2⟩⟩⟩;show(aL a.eval _).run prog (re w1 t g)=_;simp[aL,go_sem,j,e8,c,d,oj];rfl
def jc4(J:uo w v0 r3 v4 m mark tc op mp b l a w1):Ap w v0 r3 v4 m mark tc op l a w1 Q 6:=λo i c g hd=>by
 have d:=c;simp[tO,uN,ip,Qf]at c;subst c;have f:¬l[7]?=ac aw:=λh=>by have:=(J.l7 h).1.2;grind
 refine oX.ea bL p8 d rfl (λt e=>⟨t,e, ?_⟩) ⟨mp,ak w1.heap,⟨J.df,Cc J.sz,J.nw.aA<|Nw.E _ _,(J.s0.put Ã _),(J.s3.put Ã _),(J.s4.put Ã _),J.T.put J.sz Ã Ä,J.l1.dQ Ã λx=>⟨(x.1.put Ã _),x.2.1,x.2.2.nw<|Nw.E _ _⟩,J.l5.dQ Ã λx=>⟨Wp x.1,(x.2.put Ã _)⟩,.j5 ⟨.dT J.sz Ã,J.nw.J,λ_=>xh.dT _ _ _⟩,λh=>absurd ((Dx h).resolve_left Ã) f⟩⟩;show(aL a.eval _).run prog (re w1 t e)=_;simp[aL,go_sem];exact⟨rfl,rfl⟩
def jc5(J:uo w v0 r3 v4 m mark tc op mp b l a w1):Ap w v0 r3 v4 m mark tc op l a w1 Q 7:=λo L k F hd=>by
 have n:=k;simp[tO,uN,ip,Qf]at k;subst k;have B:=(J.l5<|hd ⟨5,eM⟩ Ä rfl).1;have s:=hd ⟨6,eM⟩ Ä rfl;have g:=(J.l5<|hd ⟨5,eM⟩ Ä rfl).2.ev;obtain⟨z,G,f⟩:=J.l6 s;have C:=z.ev;have y:=f F;obtain⟨H,K,E,d,p⟩:=y.Ar (cs':=(jB m mark tc op mp).G (Ji m 0)<|Y7 m 0) (ty:=122) rfl ZD Ř;have j:∀{mp},Je w1 mp []->¬mp=b:=λh e=>by obtain⟨I,c,D⟩:=h.bO;exact y.gu D e.symm
 have q:Nw w H:=⟨d.os.trans J.nw.os,d.cM.trans J.nw.cM,xa J.nw.J d.J,λi v _=>(d.dB i (zm v J.nw.J) À).trans<|J.nw.dB i v id⟩;refine oX.pJ bL p8 n rfl (λt r=>⟨t,r,ZW rfl C g<|p t r⟩) ⟨mp,b,⟨J.df,J.sz,q,J.s0,J.s3,J.s4,J.T.pJ Ä,J.l1.dQ Ã λx=>⟨x.1,x.2.1,x.2.2.y d<|j x.2.2⟩,J.l5.dQ Ã λx=>⟨Wp x.1,x.2⟩,J.l6.dQ Ã λx=>⟨x.1,x.2.1,λh=>absurd h Â⟩,.j5 ⟨⟨Wp B,Wp s⟩,E⟩⟩⟩
noncomputable def Pd:=Qa<|Qb uN
def xvy:Pd=eU 1 tO aw:=Á
def xtm(t:aa m=32)(q:gG w)(k:xh w r3 (oj m mark tc op) 78)(g:a.defers=[])(j:ak a.tmps=44)(s0:At a 0 v0)(s3:At a 3<|zo r3)(s4:At a 4 v4)
  (p:∀a' w' mp b,a'.defers=[]->ak a'.tmps=44->At a' 0 v0->At a' 3 (zo r3)->At a' 4 v4->At a' 5 (zo b)->Nw w w'->ak w.heap<=mp->ak w.heap<=b->Je w' mp []->Jh w' b (jB m mark tc op mp)->Q dM a' w'):Yp au 67 Pd Q a w:=by
 rw[xvy];refine Yp.yY bL p8 Aq jcg (λl a w1=>∃mp b,uo w v0 r3 v4 m mark tc op mp b l a w1) ⟨0,0,g,j,zj.refl _ _,s0,s3,s4,.kZ,.kZ,.kZ,.kZ,.kZ⟩ ?_ ?_;rintro l a' w'⟨mp,b,J⟩ f;have c:∀i,i<8->l[i]?=ac aw:=λi s=>f i (by grind [ś]);obtain⟨n,r,_⟩:=J.l6 (c 6 Ã);obtain⟨_,h,d⟩:=J.l1 (c 1 Ã);exact p a' w' mp b J.df J.sz J.s0 J.s3 J.s4 n J.nw h r d (J.l7<|c 7 Ã).2;rintro l a' w' i o⟨mp,b,J⟩ d e c hd;have s:i<8:=by have:=(za.1 e).1;rwa[ś]at this
 have:i=0\/i=1\/i=2\/i=3\/i=4\/i=5\/i=6\/i=7:=À
 obtain rfl|rfl|rfl|rfl|rfl|rfl|rfl|rfl:=this;exact jcy k J o d e c hd;exact jcz J o d e c hd;exact jc0 k J o d e c hd;exact jc1 t q J o d e c hd;exact jc2 J o d e c hd;exact jc3 J o d e c hd;exact jc4 J o d e c hd;exact jc5 J o d e c hd
noncomputable def ZJ:=Qa uN
def xtl{a}(f:aK<|∀a' w',a'.defers=[]->ak a'.tmps=44->At a' 0 v0->At a' 3 (zo (ak w.heap))->At a' 4 (zo<|ak w.heap+1)->Nw w w'->ak w'.heap=ak w.heap+2->xh w' (ak w.heap) (oj m mark tc op) 78->xh w' (ak w.heap+1) tP 122->a dM a' w'):
  ZJ.wp prog a ⟨#[v0,bM<|oj m mark tc op]++bV (44-2) aC,[]⟩ w:=by
 have b:=(xh.dT w (oj m mark tc op) 78).E<|aq tP 122;have c:xh (aB (aB w<|aq (oj m mark tc op) 78)<|aq tP 122) (ak w.heap+1) tP 122:=by have:=xh.dT (aB w<|aq (oj m mark tc op) 78) tP 122;rw[xp]at this;exact this
 have e:Nw w<|aB (aB w<|aq (oj m mark tc op) 78)<|aq tP 122:=(Nw.E _ _).aA<|Nw.E _ _;have d:aK<|ak (aB (aB w<|aq (oj m mark tc op) 78)<|aq tP 122).heap=ak w.heap+2:=by show _=_;simp
 simp only[jd,xg,qy,iJ,jV,qu,qw,Xa,Zh,qj,qg];conv=>arg 2;whnf
 unfold oj at*;go_wp2;exact f.o _ _ rfl rfl rfl rfl rfl e d.o b c
end
end
section
variable [pn:A.Pn]
def xul{k k' L L' kind a body tag ep cnt}(h:rZ k L kind ep cnt a body tag=ac (k',L')):k'.tc=k.tc:=by unfold rZ at h;split at h;cases h;split at h;split at h;rw[ET h];grind;split at h;split at h;rw[ET h];grind;grind
def ZR:∀(n:Nat) {k k':Lk} {L L':KV} {l r:Zl},qE n k L l=ac (k',L',r)->k'.tc=k.tc
 |0,k,k',L,L',l,r,h=>by grind [qE]
 |n+1,k,k',L,L',l,r,h=>by
  unfold qE at h;by_cases a:J5 l=aw;rw[if_pos a]at h;cases hr:Jv k L l with|none=>grind|some p=>obtain⟨b,L1⟩:=p;rw[hr]at h;exact(ZR n h).trans<|xul hr
  grind
def ŝ{k k' L L' num len whole}(h:Vd k L num len whole=ac (k',L')):k'.tc=k.tc:=by grind [Vd]
def xu3{k k' L L' num x}(h:lQ k L num x=ac (k',L')):k'.tc=k.tc:=by unfold lQ at h;split at h;split at h;cases h;split at h;rename_i k1 L1 r hr;exact(ŝ h).trans<|ZR _ (show qE _ k L _=ac _ from hr);grind;exact ŝ h
def ZT{fs n k L}:∀(r:Nat) {k':Lk} {L':KV},mJ fs n k L r=ac (k',L')->k'.tc=k.tc
 |0,k',L',h=>by grind [mJ]
 |r+1,k',L',h=>by unfold mJ at h;cases hr:mJ fs n k L r with|none=>grind|some p=>obtain⟨a,L1⟩:=p;rw[hr]at h;exact(xu3 h).trans<|ZT r hr
def xk2{k b F L1}(h:Xc k F=ac (b,L1))(hk:k.ok):b.ok/\b.tc=k.tc:=by by_cases d:jp F 0=[];grind [Ŝ];by_cases a:tu k.m k.tc<|jp F 0;rw[ZZ d a]at h;obtain⟨L,_,c⟩:=zv.1 h;simp only[Ea]at c;rw[<-c.1];refine⟨⟨hk.m, ?_, ?_, ?_⟩,rfl⟩;show(Ym<|jp F 0).ep<=255;have:=a.ep;omega;exact Pe _;show((uF<|jp F 0).take 32).length=32;have:=(Nh a.gp).j.1;grind;grind [ZY]
section
variable {k k1 k2:Lk} {F:Xv} {L1 L2:KV} {n:Nat}
def xdm(b:Xc k F=ac (k1,L1))(c:k1.bE=(n:Int))(a:mJ (λi=>jp F (i:Int)) (n+1) {k1 with aP:=(Z7 F n:Int)} L1 (Z7 F n-n)=ac (k2,L2))(d:pg k2):Xr k F=ac (k2,L2):=by grind [Xr]
def xot(b:Xc k F=ac (k1,L1))(c:k1.bE=(n:Int))(a:mJ (λi=>jp F (i:Int)) (n+1) {k1 with aP:=(Z7 F n:Int)} L1 (Z7 F n-n)=ac (k2,L2))(d:¬pg k2):Xr k F=ar:=by grind [Xr]
def xdl(b:Xc k F=ac (k1,L1))(c:k1.bE=(n:Int))(a:mJ (λi=>jp F (i:Int)) (n+1) {k1 with aP:=(Z7 F n:Int)} L1 (Z7 F n-n)=ar):Xr k F=ar:=by grind [Xr]
end
def xdu:aa Yn=32:=by simp[Yn]
def xxv:Tryz.f67.body=ac (fO ZJ<|fO Pd<|fO ZF<|fO ZG<|fO ZH<|fO ZI ZO):=Á
def xvz:ZI=eU 8 [⟨ac 40,.move<|bZ 0,76,"look.go:52",#[],ar⟩,⟨ac 41,.call ⟨.value<|.func 106,#[bZ 5,bZ 40],#[122,76]⟩,0,"look.go:52",#[⟨0,eM⟩],ar⟩].toArray ao:=Á
def qm{w w'}(h:qK w w'):Nw w w':=by obtain⟨t,d,rfl⟩:=h;grind [Nw.kO,zj.refl]
def Š{w w'}(h:qK w w'):ak w'.heap=ak w.heap:=by obtain⟨t,d,rfl⟩:=h;rfl
def zz9{tv X w w' e t d}:Fe tv X w e (re w' t d)↔Fe tv X w e w':=by constructor;rintro⟨h,c,a,b⟩;exact⟨zj.re h,c,a,b⟩;rintro⟨h,c,a,b⟩;exact⟨Nw.kO h t d,c,a,b⟩
def xs6{a v0 c d e}(b:a.defers=[])(f:ak a.tmps=44)(l:At a 0 v0)(m:At a 3 c)(n:At a 4 d)(o:At a 5 e):xm v0 c d e a:=by
 obtain⟨x,g⟩:=a;cases b;have h:x=aV ((gO 44).map λ|0=>v0|3=>c|4=>d|5=>e|i=>x[i]?.getD aC):=by unfold At at*;refine Array.ext Ë λi j k=>?_;simp;split<;>simp_all
 rw[h];exact⟨_,_,_,_,_,_,_,_,_,_,_,_,_,_,_,_,_,_,_,_,_,_,_,_,_,_,_,_,_,_,_,_,_,_,_,_,_,_,_,_,rfl⟩
def zr1{tv D d m mark tc op w}(hd:Jt w D d)(dq:∀x,d.cO D x->4<x)(hG:fU tv w)(hT:gG w)(hm:aa m=32)(h0:0<=tc)(hc:tc<=1000000000000)(be:∀i,aa (jp d.L i)<=100000):
  CC au 67 #[zo D,bM<|oj m mark tc op] w (Fe tv (λmp=>Xr (jB m mark tc op mp) d.L) w):=by
 have hQ:pm<|qM au cP ip<|Fe tv (λmp=>Xr (jB m mark tc op mp) d.L) w:=Aj λe w t d=>zz9;have dr:=hT.gX;have d3:∀x,d.cO D x->x<ak w.heap:=λx U=>Dk.eY hd U;refine CC.jK bL p8 (fF rfl Tryz.func67 rfl).1 Tryz.func67 xxv ?_;rw[show Tryz.f67.ntmps=44 from rfl];refine Yp.wS bL qR p8 hQ trivial λw0 Po hE hN hX=>?_;have n0:=qm hE;have z0:=Š hE;refine xtl (m:=m) (mark:=mark) (tc:=tc) (op:=op) (v0:=zo D) λa1 w1 bl sz1 cd s13 ce n1 z1 b3 b4=>hN.o _ _ ?_;have J:Nw w w1:=n0.aA n1;refine Yp.tI bL p8 trivial (xtm (w:=w1) hm (hT.nw J) b3 bl sz1 cd s13 ce λa2 w2 mp b bm cl cf cg ci cj n2 d1 hb cb b6=>?_);have a:Nw w w2:=J.aA n2;have bx:=xs6 bm cl cf cg ci cj;refine Yp.wS bL qR p8 hQ trivial λcm dt r bp bu=>?_;have g:Nw w cm:=a.aA<|qm r;have G:¬d.cO D b:=λh=>Â
 refine xov (lo:=ak w.heap) (k:=jB m mark tc op mp) bx (Jh.nw b6<|qm r) (cb.nw<|qm r) (hd.y g λ_ _=>id) G À (b3.nw<|n2.aA<|qm r) (hG.nw g) (hT.nw g) hm Â (by have:=J.J;show _<=mp;omega) g.J rfl (λa3 w3 j L1 bz o B bd bg z⟨n,H,hn⟩=>bp.o _ _ ?_) λa3 w3 bn d2 o=>bu.o _ _ _ Ä ⟨bn, ?_⟩;have q:=xk2 B ⟨hm,Zz _,by show(0:Nat)<_;omega,xdu⟩;have dn:j.mp=mp\/True:=aE trivial;have V:b≠j.mp:=λe=>by obtain⟨es,c,h1⟩:=bg.bO;exact xh.gu bd h1 e
 have dz:4<b:=by have:=J.J;omega
 have dp:4<j.mp:=À
 refine Yp.wS bL qR p8 hQ trivial λd5 du N bq dx=>?_;refine xtn bz (Jh.nw bd<|qm N) λa4 w4 b0 ba b7=>bq.o _ _ ?_;refine Yp.wS bL qR p8 hQ trivial λd6 dv O br dy=>?_;have X:=((((qm r).W λ_ x=>x.elim).aA o).aA<|((qm N).W λ_ x=>x.elim).aA ba).aA<|(qm O).W λ_ x=>x.elim;have bv:=(hd.y a λ_ _=>id).y X λx U e=>G Â;refine xj4 (n:=n) b0 (Jh.nw b7<|qm O) bv G H À λC w5 bb K b8=>br.o _ _ ?_;have l:=X.aA K;have W:=((((qm N).W λ_ x=>x.elim).aA ba).aA<|(qm O).W λ_ x=>x.elim).aA K;have bw:=(hd.y a λ_ _=>id).y l λx U e=>G Â;have Z:=(hG.nw a).y l À;have bt:=(hT.nw a).y l À;have bh:=bg.y W λe=>V e.symm;have z5:=(b4.nw n2).y l À;have d0:=Fc d.L n;have ca:∀x,Xc (jB m mark tc op j.mp) d.L=x->x=ac (j,L1):=λx h=>h.symm.trans B;rw[xvz];refine Yp.tI bL p8 trivial (Yp.gv bL p8 ?_);obtain⟨Y,T,ck,S⟩:C.defers=[]/\ak C.tmps=44/\At C 0 (zo D)/\At C 5 (zo b):=by obtain⟨x1,x2,x6,x7,x8,x9,co,cq,cr,cs,ct,cu,cv,cw,cx,cy,cz,c0,c1,c2,c3,c4,c5,c6,c7,c8,c9,da,db,dc,dd,de,df,dg,dh,di,dj,dk,dl,dm,rfl⟩:=bb;exact⟨rfl,rfl,rfl,rfl⟩
 refine Vh.ea (val:=zo D) (w':=w5) bL p8 rfl (λt d'=>⟨t,d', ?_⟩) ?_
 ·show(aL C.eval _).run prog _=_;have bo:C.tmps[0]?=ac _:=ck;simp[aL,go_sem,bo]
 have d4:At (C.put (ac 40)<|zo D) 5<|zo b:=S.put Ã _;have ds:At (C.put (ac 40)<|zo D) 40<|zo D:= .dT T Ã;have bc:({j with aP:=(Z7 d.L n:Int)}:Lk).ok:=⟨q.1.m,q.1.ep,q.1.bA,q.1.dO⟩;have Q:=xd7 (n:=n+1) (cp:=Z7 d.L n-n) bc b8 bh bt Z bw À À (show j.mp≠1 by omega) (show j.mp≠4 by omega) V
  (λx U h=>Â)
  Â Â À À be
 refine Vh.rL (f:=106) (args:=#[zo b,zo D]) Y rfl (λv=>?_) (λv=>?_) JF Q ?_ ?_
 ·simp[aL,go_sem,nD,T];exact(za.1 S).2
 ·have e5:C.tmps[5]?=ac _:=S;refine Conc.listed_nil ?_;simp[aL,go_sem,nD,T];simp[nE,go_sem,mP];intro _ h;cases h
 intro v w6 I;refine Vh.nil bL p8 ?_;cases hlog:mJ (λi=>jp d.L (i:Int)) (n+1) {j with aP:=(Z7 d.L n:Int)} L1 (Z7 d.L n-n)with
 |none=>rw[hlog]at I;cases I.1
 |some p=>
  obtain⟨k2,L2⟩:=p;rw[hlog]at I;obtain⟨_,y,b9,cc⟩:=I;have b5:=MQ bc _ hlog;have bi:=ZT _ hlog;have bf:k2.mp=j.mp:=b5.2.1;refine Yp.vF bL qR p8 hQ λcn dw s bs=>?_;have b2:xm (zo D) (zo (ak w0.heap)) (zo<|ak w0.heap+1) (zo b)<|(C.put (ac 40)<|zo D).put (ac 41) v:=by obtain⟨x1,x2,x6,x7,x8,x9,co,cq,cr,cs,ct,cu,cv,cw,cx,cy,cz,c0,c1,c2,c3,c4,c5,c6,c7,c8,c9,da,db,dc,dd,de,df,dg,dh,di,dj,dk,dl,dm,rfl⟩:=bb;exact⟨_,_,_,_,_,_,_,_,_,_,_,_,_,_,_,_,_,_,_,_,_,_,_,_,_,_,_,_,_,_,_,_,_,_,_,_,_,_,_,_,rfl⟩
  have bj:∀x,x=b\/x=j.mp->x≠ak w0.heap+1:=λx U e=>by obtain rfl|rfl:=U;omega;obtain⟨es,c,h1⟩:=bh.bO;exact z5.gu h1 e.symm
  have z6:=(z5.y y λh=>bj _ h rfl).nw<|qm s;have bk:∀w',zj (λx=>x=ak w0.heap+1) cn w'->Nw w w':=λw' h=>by have E:zj (λx=>x=b\/x=j.mp\/x=ak w0.heap+1) w2 w':=((l.W λ_ h=>aF h).aA<|y.W λ_ h=>h.elim aF λh=>aE (aF h)).aA<|((qm s).W λ_ h=>h.elim).aA<|h.W λ_ h=>aE (aE h);refine⟨E.os.trans a.os,E.cM.trans a.cM,xa a.J E.J,λi M _=>(E.dB i (zm M a.J) λh=>?_).trans<|a.dB i M id⟩;omega
  refine xj5 (tv:=tv) (R:=Fe tv (λmp=>Xr (jB m mark tc op mp) d.L) w) b2 (Jh.nw b9<|qm s) z6 ((Z.y y À).nw<|qm s) À (by have:=q.2;show 0<=k2.tc;rw[bi];show 0<=j.tc;rw[this];exact h0) (by have:=q.2;show k2.tc<=_;rw[bi];show j.tc<=_;rw[this];exact hc) bs (λw' he F=>?_) λw' he F=>?_;refine⟨bk w' F,j.mp,z, ?_⟩;simp only;rw[xdm (k:=jB m mark tc op j.mp) B H hlog he];refine⟨rfl,bf, ?_⟩;refine(Je.nw cc<|qm s).y F λe=>bj _ (aE rfl) e;refine⟨bk w' F,j.mp,z, ?_⟩;simp only;rw[xot (k:=jB m mark tc op j.mp) B H hlog he];trivial
 intro ch w6 I;cases hlog:mJ (λi=>jp d.L (i:Int)) (n+1) {j with aP:=(Z7 d.L n:Int)} L1 (Z7 d.L n-n)with
 |some p=>obtain⟨k2,L2⟩:=p;rw[hlog]at I;cases I.1
 |none=>rw[hlog]at I;obtain⟨he,y⟩:=I;cases he;refine⟨Y, ?_,j.mp,z, ?_⟩;have E:zj (λx=>x=b\/x=j.mp) w2 w6:=(l.W λ_ h=>aF h).aA y;refine⟨E.os.trans a.os,E.cM.trans a.cM,xa a.J E.J,λi M _=>(E.dB i (zm M a.J) λh=>?_).trans<|a.dB i M id⟩;omega;simp only;rw[xdl (k:=jB m mark tc op j.mp) B H hlog];trivial
 refine⟨?_,mp,À, ?_⟩;refine⟨o.os.trans g.os,o.cM.trans g.cM,xa g.J o.J,λi M _=>(o.dB i (zm M g.J) λh=>?_).trans<|g.dB i M id⟩;omega;grind [Xr,jB]
end
section
variable [pn:A.Pn]
attribute [local go_sem] zn zg
noncomputable def tN:=Qf Tryz.f36.body
noncomputable def ZE:=Qa tN
noncomputable def sO:=Qa<|Qb tN
noncomputable def ZV:=Qb<|Qb tN
noncomputable def rQ:Array fj:=match sO with
 | eU _ ops _=>ops|_=>#[]
def xvx:sO=eU 1 rQ aw:=Á
theorem Ś:ak rQ=11:=Á
def jcf:JP rQ=aw:=Á
def sr:¬Mc au 36:=wY Ã Ã Tryz.func36
structure sq(w:Zy)(B:Nat)(v2:Zv)(r:Sr)(mp b:Nat)(k:Lk)(L:KV)(l:Array Bool)(a:jG)(w':Zy):Prop where
 df:a.defers=[]
 sz:ak a.tmps=45
 nw:Nw w w'
 s0:At a 0<|zo B
 s2:At a 2 v2
 T:Tb [(0,4,zo B),(1,5,zo B),(2,6,zk B 2),(3,7,zo r.D),(4,8,zo B),(5,9,zo B),(6,10,zk B 3),(7,11,bM<|oj r.m r.bJ r.bA r.op)] l a
 l8:Li l 8<|At a 12 (bM<|k.G (Ji k.m k.ep)<|Y7 k.m k.ep)/\ak w.heap<=mp/\Xr (jB r.m r.bJ r.bA r.op mp) r.d.L=ac (k,L)/\k.mp=mp/\Je w' mp L
 l9:Li l 9<|At a 3 (zo b)/\ak w.heap<=b/\(l[10]?=ac ao->xh w' b tP 122)
 JQ:Li l 10<|(l[8]?=ac aw/\l[9]?=ac aw)/\Jh w' b k
section
variable {cv tv:dL} {w:cY} {B:Nat} {v2:dL} {r:Sr} {mp b:Nat} {k:Lk} {L:KV} {l:Array Bool} {a:jG} {w1:cY} {Q:Exit->jG->cY->Prop}
def sq.mv(J:sq w B v2 r mp b k L l a w1){i s:Nat}{v:Zv}(d:i<8)(e:s=i+4)(c:∀x∈[(0,4,zo B),(1,5,zo B),(2,6,zk B 2),(3,7,zo r.D),(4,8,zo B),(5,9,zo B),(6,10,zk B 3),(7,11,bM<|oj r.m r.bJ r.bA r.op)],(x.2.1≠s/\x.1≠i)\/x=(i,s,v)):∃mp b k L,sq w B v2 r mp b k L (ay l i aw) (a.put (ac s) v) w1:=
 ⟨mp,b,k,L,J.df,Cc J.sz,J.nw,J.s0.put À _,J.s2.put À _,J.T.put J.sz À c,J.l8.dQ À λx=>⟨x.1.put À _,x.2⟩,J.l9.dQ À λx=>⟨x.1.put À _,x.2.1,λh=>x.2.2<|FU h À⟩,J.JQ.dQ À λx=>⟨⟨Wp x.1.1,Wp x.1.2⟩,x.2⟩⟩
def vO(w:Zy)(B:Nat)(v2:Zv)(r:Sr)(l:Array Bool)(a:jG)(w1:Zy)(Q:Exit->jG->Zy->Prop)(i:Nat):Prop:=∀o:fj,ak l=ak rQ->rQ[i]?=ac o->l[i]?=ac ao->(∀e∈o.after,Region.binds ff e=aw->l[e.on]?=ac aw)->oX au 36 rQ Q i (λa w1=>∃mp b k L,sq w B v2 r mp b k L (ay l i aw) a w1) a w1
def jco(J:sq w B v2 r mp b k L l a w1):vO w B v2 r l a w1 Q 0:=λo g c f hd=>by have d:=c;simp[rQ,sO,tN,gy,Qf,Qa,Qb]at c;subst c;have e0:a.tmps[0]?=ac _:=J.s0;refine oX.ea (val:=zo B) (w':=w1) bL sr d rfl (λt e=>⟨t,e, ?_⟩) (J.mv Ã rfl Ä);show(aL a.eval _).run prog (re w1 t e)=_;simp[aL,go_sem,e0]
def jcs(J:sq w B v2 r mp b k L l a w1):vO w B v2 r l a w1 Q 4:=λo g c f hd=>by have d:=c;simp[rQ,sO,tN,gy,Qf,Qa,Qb]at c;subst c;have e0:a.tmps[0]?=ac _:=J.s0;refine oX.ea (val:=zo B) (w':=w1) bL sr d rfl (λt e=>⟨t,e, ?_⟩) (J.mv Ã rfl Ä);show(aL a.eval _).run prog (re w1 t e)=_;simp[aL,go_sem,e0]
def jcp(J:sq w B v2 r mp b k L l a w1):vO w B v2 r l a w1 Q 1:=λo g c f hd=>by have d:=c;simp[rQ,sO,tN,gy,Qf,Qa,Qb]at c;subst c;have e0:a.tmps[4]?=ac _:=J.T (0,4,zo B) Ä<|hd ⟨0,eM⟩ Ä rfl;refine oX.ea (val:=zo B) (w':=w1) bL sr d rfl (λt e=>⟨t,e, ?_⟩) (J.mv Ã rfl Ä);show(aL a.eval _).run prog (re w1 t e)=_;simp[aL,go_sem,e0]
def jct(J:sq w B v2 r mp b k L l a w1):vO w B v2 r l a w1 Q 5:=λo g c f hd=>by have d:=c;simp[rQ,sO,tN,gy,Qf,Qa,Qb]at c;subst c;have e0:a.tmps[8]?=ac _:=J.T (4,8,zo B) Ä<|hd ⟨4,eM⟩ Ä rfl;refine oX.ea (val:=zo B) (w':=w1) bL sr d rfl (λt e=>⟨t,e, ?_⟩) (J.mv Ã rfl Ä);show(aL a.eval _).run prog (re w1 t e)=_;simp[aL,go_sem,e0]
def jcq(J:sq w B v2 r mp b k L l a w1):vO w B v2 r l a w1 Q 2:=λo g c f hd=>by have d:=c;simp[rQ,sO,tN,gy,Qf,Qa,Qb]at c;subst c;have e0:a.tmps[5]?=ac _:=J.T (1,5,zo B) Ä<|hd ⟨1,eM⟩ Ä rfl;refine oX.ea (val:=zk B 2) (w':=w1) bL sr d rfl (λt e=>⟨t,e, ?_⟩) (J.mv Ã rfl Ä);show(aL a.eval _).run prog (re w1 t e)=_;simp[aL,go_sem,e0]
def jcu(J:sq w B v2 r mp b k L l a w1):vO w B v2 r l a w1 Q 6:=λo g c f hd=>by have d:=c;simp[rQ,sO,tN,gy,Qf,Qa,Qb]at c;subst c;have e0:a.tmps[9]?=ac _:=J.T (5,9,zo B) Ä<|hd ⟨5,eM⟩ Ä rfl;refine oX.ea (val:=zk B 3) (w':=w1) bL sr d rfl (λt e=>⟨t,e, ?_⟩) (J.mv Ã rfl Ä);show(aL a.eval _).run prog (re w1 t e)=_;simp[aL,go_sem,e0]
def jcr(g:xh w B r.G 81)(J:sq w B v2 r mp b k L l a w1):vO w B v2 r l a w1 Q 3:=λo i d h hd=>by have e:=d;simp[rQ,sO,tN,gy,Qf,Qa,Qb]at d;subst d;have e0:a.tmps[6]?=ac _:=J.T (2,6,zk B 2) Ä<|hd ⟨2,eM⟩ Ä rfl;refine oX.ea (val:=zo r.D) (w':=w1) bL sr e rfl (λt c=>⟨t,c, ?_⟩) (J.mv Ã rfl Ä);show(aL a.eval _).run prog (re w1 t c)=_;have f:ae (re w1 t c) (zq B 2)=ac (zo r.D):=(g.nw J.nw).i 2 rfl;simp[aL,go_sem,e0,f]
def jcv(j:xh w B r.G 81)(J:sq w B v2 r mp b k L l a w1):vO w B v2 r l a w1 Q 7:=λo p e n hd=>by have f:=e;simp[rQ,sO,tN,gy,Qf,Qa,Qb]at e;subst e;have e0:a.tmps[10]?=ac _:=J.T (6,10,zk B 3) Ä<|hd ⟨6,eM⟩ Ä rfl;refine oX.ea (val:=bM (oj r.m r.bJ r.bA r.op)) (w':=w1) bL sr f rfl (λt d=>⟨t,d, ?_⟩) (J.mv Ã rfl Ä);show(aL a.eval _).run prog (re w1 t d)=_;have c:=j.nw J.nw;have c3:ae (re w1 t d) (zq B 3)=ac (zs r.m):=c.i 3 rfl;have g:ae (re w1 t d) (zq B 4)=ac (zi r.bA):=c.i 4 rfl;have h:ae (re w1 t d) (zq B 5)=ac (zs r.bJ):=c.i 5 rfl;have i:ae (re w1 t d) (zq B 6)=ac (zi r.op):=c.i 6 rfl;simp[aL,go_sem,e0,c3,g,h,i,oj]
def jcw(H:Jt w r.D r.d)(n:∀x,r.d.cO r.D x->4<x)(I:fU tv w)(K:gG w)(N:aa r.m=32)(S:r.bA<=1000000000000)(j:∀i,aa (jp r.d.L i)<=100000)
  (M:∀a' w' mp,a'.defers=[]->Nw w w'->ak w.heap<=mp->Xr (jB r.m r.bJ r.bA r.op mp) r.d.L=ar->Q (lT [{v:=tv,recovered:=ao}]) a' w')(J:sq w B v2 r mp b k L l a w1):vO w B v2 r l a w1 Q 8:=λo V y U hd=>by
 have z:=y;simp[rQ,sO,tN,gy,Qf,Qa,Qb]at y;subst y;have E:¬l[10]?=ac aw:=λh=>by have:=(J.JQ h).1.1;grind
 have G:a.tmps[7]?=ac _:=J.T (3,7,zo r.D) Ä<|hd ⟨3,eM⟩ Ä rfl;have s:a.tmps[11]?=ac _:=J.T (7,11,bM<|oj r.m r.bJ r.bA r.op) Ä<|hd ⟨7,eM⟩ Ä rfl;refine oX.kN bL sr J.df z rfl (f:=67) (args:=#[zo r.D,bM<|oj r.m r.bJ r.bA r.op]) (λv=>?_) (fF rfl Tryz.func67 rfl) (zr1 (tv:=tv) (w:=w1) (H.y J.nw λ_ _=>id) n (I.nw J.nw) (K.nw J.nw) N À À j) ?_ ?_
 ·show(aL a.eval _).run prog v=_;simp[aL,go_sem,nD,G,s]
 ·rintro v R⟨q,c,g,h⟩;cases hq:Xr (jB r.m r.bJ r.bA r.op c) r.d.L with|none=>grind|some p=>obtain⟨O,F⟩:=p;simp only[hq]at h;obtain⟨e,t,C⟩:=h;cases e;exact⟨c,b,O,F,⟨J.df,Cc J.sz,J.nw.aA q,(J.s0.put Ã _),(J.s2.put Ã _),J.T.put J.sz Ã Ä,.j5 ⟨.dT J.sz Ã,xa J.nw.J g,hq,t,C⟩,J.l9.dQ Ã λx=>⟨(x.1.put Ã _),x.2.1,λh=>(x.2.2<|FU h Ã).nw q⟩,λh=>absurd ((Dx h).resolve_left Ã) E⟩⟩
 rintro ch R⟨q,c,g,h⟩;cases hq:Xr (jB r.m r.bJ r.bA r.op c) r.d.L with
 |none=>
  simp only[hq]at h;cases h;exact M _ _ c J.df (J.nw.aA q) (xa J.nw.J g) hq
 |some p=>grind
def jcx(J:sq w B v2 r mp b k L l a w1):vO w B v2 r l a w1 Q 9:=λo i c g hd=>by
 have d:=c;simp[rQ,sO,tN,gy,Qf,Qa,Qb]at c;subst c;have e:¬l[10]?=ac aw:=λh=>by have:=(J.JQ h).1.2;grind
 refine oX.ea (val:=zo (ak w1.heap)) (w':=aB w1<|aq tP 122) bL sr d rfl (λt f=>⟨t,f, ?_⟩) ⟨mp,ak w1.heap,k,L,⟨J.df,Cc J.sz,J.nw.aA<|Nw.E _ _,(J.s0.put Ã _),(J.s2.put Ã _),J.T.put J.sz Ã Ä,J.l8.dQ Ã λx=>⟨(x.1.put Ã _),x.2.1,x.2.2.1,x.c.1,x.d.nw<|Nw.E _ _⟩,.j5 ⟨.dT J.sz Ã,J.nw.J,λ_=>xh.dT _ _ _⟩,λh=>absurd ((Dx h).resolve_left Ã) e⟩⟩;show(aL a.eval _).run prog (re w1 t f)=_;simp[aL,go_sem];exact⟨rfl,rfl⟩
def xza(J:sq w B v2 r mp b k L l a w1):vO w B v2 r l a w1 Q 10:=λo R n I hd=>by
 have p:=n;simp[rQ,sO,tN,gy,Qf,Qa,Qb]at n;subst n;have y:l[8]?=ac aw:=hd ⟨8,eM⟩ Ä rfl;have z:l[9]?=ac aw:=hd ⟨9,eM⟩ Ä rfl;have g:=(J.l8 y).1.ev;obtain⟨E,K,f⟩:=J.l9 z;have F:=E.ev;have D:=f I;obtain⟨M,O,H,d,q⟩:=D.Ar (cs':=k.G (Ji k.m k.ep)<|Y7 k.m k.ep) (ty:=122) rfl ZD Ř;have j:∀{mp L},Je w1 mp L->¬mp=b:=λh e=>by obtain⟨N,c,G⟩:=h.bO;exact D.gu G e.symm
 have s:Nw w M:=⟨d.os.trans J.nw.os,d.cM.trans J.nw.cM,xa J.nw.J d.J,λi C _=>(d.dB i (zm C J.nw.J) À).trans<|J.nw.dB i C id⟩;refine oX.pJ bL sr p rfl (λt v=>⟨t,v,ZW rfl F g<|q t v⟩) ⟨mp,b,k,L,⟨J.df,J.sz,s,J.s0,J.s2,J.T.pJ Ä,J.l8.dQ Ã λx=>⟨x.1,x.2.1,x.2.2.1,x.c.1,x.d.y d<|j x.d⟩,J.l9.dQ Ã λx=>⟨x.1,x.2.1,λh=>absurd h Â⟩,.j5 ⟨⟨Wp y,Wp z⟩,H⟩⟩⟩
def xuc(t:xh w B r.G 81)(z:Jt w r.D r.d)(j:∀x,r.d.cO r.D x->4<x)(C:fU tv w)(F:gG w)(M:aa r.m=32)(I:r.bA<=1000000000000)(h:∀i,aa (jp r.d.L i)<=100000)
  (n:a.defers=[])(s:ak a.tmps=45)(s0:At a 0<|zo B)(s2:At a 2 v2)
  (G:∀a' w' mp,a'.defers=[]->Nw w w'->ak w.heap<=mp->Xr (jB r.m r.bJ r.bA r.op mp) r.d.L=ar->Q (lT [{v:=tv,recovered:=ao}]) a' w')
  (E:∀a' w' mp b k L,a'.defers=[]->ak a'.tmps=45->At a' 0 (zo B)->At a' 2 v2->At a' 3 (zo b)->Nw w w'->ak w.heap<=mp->ak w.heap<=b->Xr (jB r.m r.bJ r.bA r.op mp) r.d.L=ac (k,L)->k.mp=mp->Je w' mp L->Jh w' b k->Q dM a' w'):Yp au 36 sO Q a w:=by
 rw[xvx];refine Yp.yY bL sr Aq jcf (λl a w1=>∃mp b k L,sq w B v2 r mp b k L l a w1) ⟨0,0,jB [] [] 0 0 0,[],n,s,zj.refl _ _,s0,s2,.kZ,.kZ,.kZ,.kZ⟩ ?_ ?_;rintro l a' w'⟨mp,b,k,L,J⟩ g;have c:∀i,i<11->l[i]?=ac aw:=λi K=>g i (by grind [Ś]);obtain⟨y,H,_⟩:=J.l9 (c 9 Ã);obtain⟨_,q,N,p,e⟩:=J.l8 (c 8 Ã);exact E a' w' mp b k L J.df J.sz J.s0 J.s2 y J.nw q H N p e (J.JQ<|c 10 Ã).2;rintro l a' w' i o⟨mp,b,k,L,J⟩ e f c hd;have K:i<11:=by have:=(za.1 f).1;rwa[Ś]at this
 have:i=0\/i=1\/i=2\/i=3\/i=4\/i=5\/i=6\/i=7\/i=8\/i=9\/i=10:=À
 obtain rfl|rfl|rfl|rfl|rfl|rfl|rfl|rfl|rfl|rfl|rfl:=this;exact jco J o e f c hd;exact jcp J o e f c hd;exact jcq J o e f c hd;exact jcr t J o e f c hd;exact jcs J o e f c hd;exact jct J o e f c hd;exact jcu J o e f c hd;exact jcv t J o e f c hd;exact jcw z j C F M I h G J o e f c hd;exact jcx J o e f c hd;exact xza J o e f c hd
end
def ZC(B:Nat)(v2:Zv)(b:Nat)(a:jG):Prop:=∃x1 x4 x5 x6 x7 x8 x9 x10 x11 x12 x13 x14 x15 x16 x17 x18 x19 x20 x21 x22 x23 x24 x25 x26 x27 x28 x29 x30 x31 x32 x33 x34 x35 x36 x37 x38 x39 x40 x41 x42 x43 x44,a=⟨#[zo B,x1,v2,zo b,x4,x5,x6,x7,x8,x9,x10,x11,x12,x13,x14,x15,x16,x17,x18,x19,x20,x21,x22,x23,x24,x25,x26,x27,x28,x29,x30,x31,x32,x33,x34,x35,x36,x37,x38,x39,x40,x41,x42,x43,x44],[]⟩
def xs5{a B b v2}(c:a.defers=[])(d:ak a.tmps=45)(j:At a 0<|zo B)(k:At a 2 v2)(l:At a 3<|zo b):ZC B v2 b a:=by
 obtain⟨x,e⟩:=a;cases c;have h:x=aV ((gO 45).map λ|0=>zo B|2=>v2|3=>zo b|i=>x[i]?.getD aC):=by unfold At at*;refine Array.ext Ë λi f g=>?_;simp;split<;>simp_all
 rw[h];exact⟨_,_,_,_,_,_,_,_,_,_,_,_,_,_,_,_,_,_,_,_,_,_,_,_,_,_,_,_,_,_,_,_,_,_,_,_,_,_,_,_,_,_,rfl⟩
def wZ(S:Nat)(k:Lk)(L:KV):kV:=⟨S,k.mp,L,az ar 0 0,[],k.ep,k.bE,k.aP,k.eJ,0⟩
def xtu(k d):(Zb k d).2.1.mp=k.mp/\(Zb k d).2.1.m=k.m/\(Zb k d).2.1.ep=k.ep:=by unfold Zb;split;split;grind;exact⟨rfl,rfl,rfl⟩;split;split;grind;exact⟨rfl,rfl,rfl⟩;exact⟨rfl,rfl,rfl⟩
def JR(cv tv:Zv)(B:Nat)(r:Sr)(w:Zy)(e:kU)(w':Zy):Prop:=∃mp,ak w.heap<=mp/\match Xr (jB r.m r.bJ r.bA r.op mp) r.d.L with
 |none=>e=jM tv/\Zd B r w r w'|some (k,L)=>((Zb k r.d).1=aw/\e=ah (zi 0)/\∃S,Zd B r w {r with bA:=k.bA,bJ:=k.dO,d:=(Zb k r.d).2.2,sn:=ac<|wZ S (Zb k r.d).2.1 L} w')\/((Zb k r.d).1=ao/\e=jM cv/\Zd B r w {r with bA:=k.bA,bJ:=k.dO,d:=(Zb k r.d).2.2} w')
def xy1{B b r w0 w z f}{k:Lk}{L k' d'}(o:Vq w0 B r)(W:r.sn=ar)(l:Nw w0 w)(hb:ak w0.heap<=b)(S:ak w0.heap<=k'.mp)(V:Je w k'.mp L)(R:b≠k'.mp)
  (t:z=ai (ai w (zq B 4)<|zi k.bA) (zq B 5) (zs k.dO))(j:zj (λy=>y=b\/r.d.cO r.D y) z f)(p:Jt f r.D d')(ho:∀y,d'.cO r.D y->r.d.cO r.D y):
  Zd B r w0 {r with bA:=k.bA,bJ:=k.dO,d:=d'} f/\Zd B r w0 {r with bA:=k.bA,bJ:=k.dO,d:=d',sn:=ac<|wZ (ak f.heap) k' L} (ai (aB f<|aq (wZ (ak f.heap) k' L).G 97) (zq B 7)<|zo (ak f.heap)):=by
 have U:=λx (g:r.d.cO r.D x)=>Dk.eY o.fh g;have Q:=o.bO.lt;have O:=o.bO.nw l;have E:zj (·=B) w z:=by rw[t];exact(zj.H w (zq B 4) _).aA<|zj.H _ (zq B 5) _
 have K:xh z B ({r with bA:=k.bA,bJ:=k.dO,d:=d'}:Sr).G 81:=by have M:=(O.H 4<|zi k.bA).H 5<|zs k.dO;rw[t];exact M
 have H:=K.y j (by rintro(e|e);omega;exact o.ko e);have T:=l.J;have Y:=E.J;have Z:=j.J;have m:∀C,zj (λy=>y=B\/ak f.heap<=y) f C->zj (r.cO B) w0 C:=λC N=>by have v:zj (λy=>y=B\/y=b\/r.d.cO r.D y\/ak f.heap<=y) w C:=((E.W λ_ h=>aF h).aA<|j.W λ_ h=>h.elim (λe=>aE (aF e)) λe=>aE (aE<|aF e)).aA<|N.W λ_ h=>h.elim aF λe=>aE (aE<|aE e);refine⟨v.os.trans l.os,v.cM.trans l.cM,xa l.J v.J,λi I g=>(v.dB i (zm I l.J) λh=>?_).trans<|l.dB i I id⟩;obtain e|e|e|e:=h;exact g<|aF e;omega;exact g<|aE<|aF e;omega
 refine⟨⟨m f<|zj.refl _ _,⟨H,p,λs e=>Â⟩,λx g=>?_⟩, ?_⟩;obtain e|e|⟨s,e,_⟩:=g;exact aF<|aF e;exact aF<|aE<|aF<|ho x e;grind;have F:zj (λy=>y=B\/ak f.heap<=y) f<|ai (aB f<|aq (wZ (ak f.heap) k' L).G 97) (zq B 7)<|zo (ak f.heap):=((Nw.E f _).W λ_ h=>h.elim).aA<|(zj.H _ _ _).W λ_ h=>aF h;have G:¬r.d.cO r.D k'.mp:=λh=>Â
 have q:=(V.y E À).y j Â;have J:=q.lt;refine⟨m _ F,⟨?_, ?_,λs e=>?_⟩,λx g=>?_⟩;exact(H.E _).H 7 _;exact p.y F λx g=>by
  rintro(e|e);exact o.ko Â
  grind
 cases e;refine⟨⟨?_, ?_, ?_⟩, ?_⟩;exact(xh.dT f _ 97).dE Â _;exact q.y F À;exact jk _ _ _ _;intro e;have e:=e;exact G<|ho _<|aE<|aF e;obtain e|e|⟨s,e,g⟩:=g;exact aF<|aF e;exact aF<|aE<|aF<|ho x e;cases e;obtain e|e|⟨a,n,c,X,e⟩:=g;have e:x=ak f.heap:=e;omega;have e:x=k'.mp:=e;omega;cases X
def xke{cv tv v2:Zv}{B b:Nat}{r:Sr}{w0 w:Zy}{k:Lk}{L:KV}{R:kU->Zy->Prop}{Po:Exit->jG->Zy->Prop}{a:jG}(ha:ZC B v2 b a)(s:Vq w0 B r)(bb:r.sn=ar)(hn:Nw w0 w)(hb:ak w0.heap<=b)(Z:ak w0.heap<=k.mp)
  (X:Jh w b k)(hs:Je w k.mp L)(ba:vq B r)(hG:oe cv tv w)(hw:k.cE=aw->0<=k.cN/\k.cN<=(aa (jp r.d.L k.aP):Nat))(Y:-1000000000000<=k.aP/\k.aP<=1000000000000)
  (y:aK<|∀e a' w',qM au cP gy R e a' w'->Po e a' w')
  (Q:aK<|∀w' S,(Zb k r.d).1=aw->Zd B r w0 {r with bA:=k.bA,bJ:=k.dO,d:=(Zb k r.d).2.2,sn:=ac<|wZ S (Zb k r.d).2.1 L} w'->R (ah<|zi 0) w')
  (O:aK<|∀w',(Zb k r.d).1=ao->Zd B r w0 {r with bA:=k.bA,bJ:=k.dO,d:=(Zb k r.d).2.2} w'->R (jM cv) w'):
  ZV.wp prog Po a w:=by
 obtain⟨x1,x4,x5,x6,x7,x8,x9,bg,bh,bi,bj,bk,bl,bm,bn,bo,bp,bq,br,bs,bt,bu,bv,bw,bx,bz,b0,b1,b2,b3,b4,b5,b6,b7,b8,b9,ca,cb,cc,cd,ce,cf,rfl⟩:=ha;have o:=s.bO.nw hn;have HD:=s.fh.y hn λ_ _=>id;have HL:=X;have HS:=hs;have HG:=hG;have H:=ba;have G:=s;have HN:=hn;have m:=bb;have HW:=hw;have bc:=s.bO.lt;have U:¬b=B:=À
 have N:¬B=b:=À
 have V:¬r.d.cO r.D b:=λh=>by have:=Dk.eY s.fh h;omega
 have c2:=o.i 2 rfl;have c4:=o.i 4 rfl;have c5:=o.i 5 rfl;have f4:=o.dG 4;have f5:=o.dG 5;have l8:ae w (zq b 8)=ac (zi k.bA):=X.i 8 rfl;have l9:ae w (zq b 9)=ac (zs k.dO):=X.i 9 rfl;conv=>arg 2;whnf
 go_wp2;obtain⟨F,i⟩:∃F,F=ai (ai w (zq B 4)<|zi k.bA) (zq B 5) (zs k.dO):=⟨_,rfl⟩;rw[<-i];have I:=i;have l:aK (zj (·=B) w F):=by show zj _ _ _;rw[i];exact(zj.H w (zq B 4) _).aA<|zj.H _ (zq B 5) _
 have X2:xh F B ({r with bA:=k.bA,bJ:=k.dO}:Sr).G 81:=by have M:=(o.H 4<|zi k.bA).H 5<|zs k.dO;show xh _ _ _ _;rw[i];exact M
 have L2:=xh.y HL l.o U;have D2:=HD.y l.o λx hx e=>G.ko (by have e:x=B:=e;rw[<-e];exact hx);have T:b≠0:=À
 have C2:=HG.In.y l.o (by have:=H.cO B<|aF rfl;show¬0=B;omega);refine(xtv b k r.D r.d _ L2 D2 H.MO H.MP C2 V T HW Y).mono ?_;rintro e j⟨E,n,f,z,C⟩;have g:=xtu k r.d;have W:b≠k.mp:=λe=>by obtain⟨es,c,M⟩:=HS.bO;exact xh.gu HL M e
 have J:=xy1 G m HN hb (by rw[g.1];exact Z) (by rw[g.1];exact HS) (by rw[g.1];exact W) I n z C;cases hm:(Zb k r.d).1 with
 |false=>rw[hm]at E;subst E;refine y.o _ _ _ ⟨rfl,O.o _ hm J.1⟩
 |true=>
  rw[hm]at E;subst E;have K:=X2.y n (by rintro(e|e);exact N e;exact G.ko e);have q:=J.2;generalize(Zb k r.d).2.1=k' at*;have p:∀S,S=ak j.heap->Zd B r w0 {r with bA:=k.bA,bJ:=k.dO,d:=(Zb k r.d).2.2,sn:=ac<|wZ S k' L} (ai (aB j<|aq (wZ S k' L).G 97) (zq B 7)<|zo S):=λS e=>by subst e;exact q
  have HM:=hm;have d7:ae j (zq B 7)=ac (aR ar):=by have:=K.i 7 (v:=Sr.nz _) rfl;rw[this];simp[Sr.nz,m]
  have k4:ae j (zq b 4)=ac (eK<|some k'.mp):=f.i 4 rfl;have k5:ae j (zq b 5)=ac (zi k'.ep):=f.i 5 rfl;have bd:ae j (zq b 11)=ac (zi k'.bE):=f.i 11 rfl;have be:ae j (zq b 12)=ac (zi k'.aP):=f.i 12 rfl;have bf:ae j (zq b 13)=ac (zi k'.eJ):=f.i 13 rfl;have e7:ae (aB j<|aq #[eK<|some k'.mp,az ar 0 0,zi k'.ep,zi k'.bE,zi k'.aP,zi k'.eJ,zi 0] 97) (zq B 7)=ac (aR ar):=((K.E _).i 7 (v:=Sr.nz _) rfl).trans (by simp[Sr.nz,m]);have h7:=(K.E<|aq #[eK<|some k'.mp,az ar 0 0,zi k'.ep,zi k'.bE,zi k'.aP,zi k'.eJ,zi 0] 97).dG 7;clear J q n f z C hm g;go_wp2;refine y.o _ _ _ ⟨rfl,zi 0,λt d=>⟨t,d, ?_⟩,Q.o _ _ HM<|p _ rfl⟩;show(dX gy _).run prog _=_;simp[dX,Tryz.results36,go_sem]
end
section
variable [pn:A.Pn]
def xxt:Tryz.f36.body=ac (fO ZE<|fO sO ZV):=Á
theorem Zd.re{B:Nat}{r b:Sr}{w w':Zy}{t:Nat->Question->Nat}{d:Nat}(h:Zd B r w b<|re w' t d):Zd B r w b w':=⟨zj.re h.y,⟨h.dS.bO,⟨h.dS.fh.bO,h.dS.fh.iQ,h.dS.fh.iU⟩,λs a=>⟨⟨(h.dS.fW s a).1.bO,(h.dS.fW s a).1.iQ,(h.dS.fW s a).1.iy⟩,(h.dS.fW s a).2⟩⟩,h.cO⟩
theorem Zd.kO{B r b w w'}(h:Zd B r w b w')(t d):Zd B r w b<|A.re w' t d:=⟨⟨h.y.os,h.y.cM,h.y.J,h.y.dB⟩,⟨h.dS.bO,⟨h.dS.fh.bO,h.dS.fh.iQ,h.dS.fh.iU⟩,λs a=>⟨⟨(h.dS.fW s a).1.bO,(h.dS.fW s a).1.iQ,(h.dS.fW s a).1.iy⟩,(h.dS.fW s a).2⟩⟩,h.cO⟩
def xan{cv tv B r w w' e t d}:JR cv tv B r w e (re w' t d)↔JR cv tv B r w e w':=by
 constructor;rintro⟨a,b,h⟩;refine⟨a,b, ?_⟩;cases hq:Xr (jB r.m r.bJ r.bA r.op a) r.d.L with|none=>grind [Zd.re]|some p=>grind [Zd.re]
 rintro⟨a,b,h⟩;refine⟨a,b, ?_⟩;cases hq:Xr (jB r.m r.bJ r.bA r.op a) r.d.L with|none=>grind [Zd.kO]|some p=>grind [Zd.kO]
def xub{cv tv B r w}(h:Vq w B r)(E:r.sn=ar)(a:vq B r)(p:oe cv tv w)(g:∀i,aa (jp r.d.L i)<=100000)
  (y:∀mp k L,Xr (jB r.m r.bJ r.bA r.op mp) r.d.L=ac (k,L)->(k.cE=aw->0<=k.cN/\k.cN<=(aa (jp r.d.L k.aP):Nat))/\ -1000000000000<=k.aP/\k.aP<=1000000000000):
  CC au 36 #[zo B] w (JR cv tv B r w):=by
 have J:pm<|qM au cP gy<|JR cv tv B r w:=Aj λe w t d=>xan;have j:∀x,r.d.cO r.D x->4<x:=λx W=>a.cO x<|aE<|aF W;refine CC.jK bL sr (fF rfl Tryz.func36 rfl).1 Tryz.func36 xxt ?_;rw[show Tryz.f36.ntmps=45 from rfl];refine Yp.wS bL qR sr J trivial λw0 M Q R hX=>?_;have f:=qm Q;have G:ZE.wp prog M ⟨#[zo B]++bV (45-1) aC,[]⟩ w0:=by
  simp only[jd,xg,qy,iJ,jV,qu,qw,Xa,Zh,qj,qg];conv=>arg 2;whnf
  go_wp2;refine R.o _ _ ?_;have I:=h.y f λ_ _=>id;refine Yp.tI bL sr trivial (xuc (tv:=tv) (r:=r) (B:=B) (v2:=zi 0) I.bO I.fh j (p.T8.nw f) (p.vo.nw f) a.m (by have:=a.bA;omega) g rfl rfl rfl rfl (λO H mp c C z n=>?_) λO H mp b k L c F X Y Z C z hb n s U T=>?_);refine⟨c,mp,by have:=f.J;omega, ?_⟩;rw[n];exact⟨rfl,Zd.nw h<|f.aA C⟩;have nw:=f.aA C;have ba:=f.J;refine Yp.vF bL qR sr J λw1 N o q=>?_;have n1:=qm o;obtain⟨V,v⟩:=y mp k L n;refine xke (cv:=cv) (tv:=tv) (k:=k) (L:=L) (r:=r) (xs5 c F X Y Z) h E (nw.aA n1) À À (Jh.nw T n1) (by rw[s];exact U.nw n1) a (p.y (S:=λ_=>False) (nw.aA n1) λ_ x=>x.elim) V v q (λH S K l=>?_) λH K l=>?_;refine⟨mp,À, ?_⟩;rw[n];exact aF ⟨K,rfl,S,l⟩;refine⟨mp,À, ?_⟩;simp_all
 exact G
end
end P
namespace P
open A.Tryq Go.RowKit
section
open A
variable [pn:A.Pn]
noncomputable def Pj:=Qa<|Qf Tryz.f34.body
noncomputable def Pk:=Qa<|Qb<|Qf Tryz.f34.body
noncomputable def JT:Array fj:=match Tryz.f34.body with
 |some (fO _<|fO _<|fO (eU _ ops _) _)=>ops
 |_=>#[]
def xxs:Tryz.f34.body=ac (fO Pj<|fO Pk<|fO (eU 2 JT ao) .ret):=Á
def jb0:¬Mc au 34:=wY Ã Ã ov
def xye{a v0 b w}(c:aK<|a dM ⟨#[v0,b,zo (ak w.heap),aC,zo<|ak w.heap+1,aC,aC,aC],[]⟩<|aB (aB w<|aq #[v0] 26)<|aq #[zi 0] 33)(d:v0.oneCell'=aw):
  Pj.wp prog a ⟨#[v0,b,aC,aC,aC,aC,aC,aC],[]⟩ w:=by
 conv=>arg 2;whnf
 go_wp2;exact c.o
def xyf{a v0 b p q w}(c:aK<|a dM ⟨#[v0,b,p,aC,q,nV (.func 63) #[] #[p,q],aC,aC],[⟨.fn (.func 63) #[p,q],#[]⟩]⟩ w):
  Pk.wp prog a ⟨#[v0,b,p,aC,q,aC,aC,aC],[]⟩ w:=by
 have d:∀(fn:Fn) (first cap:Za) (w:Zy),(Instr.makeFunc fn first cap).run prog w=cT (nV fn first cap) w:=λ_ _ _ _=>rfl;conv=>arg 2;whnf
 go_wp2;exact c.o
def gW(B:Nat)(w:Zy):Zy:=aB (aB w<|aq #[zo B] 26)<|aq #[zi 0] 33
def gD(w:Zy):lY:=⟨.fn (.func 63) #[zo (ak w.heap),zo<|ak w.heap+1],#[]⟩
def Ph{b:Zf}{a x y k cs w G'}(c:¬Mc au b.fn)(h:RX au (Xh (b.at a (cD x:: cD y::k)) cs) w G'):RX au (Xh (b.at a (cD (fO x y)::k)) cs) w G':=
 RX.eO bL (g':=Xh (b.at a (cD x:: cD y::k)) cs) c (λv=>ē) rfl rfl rfl h
section
variable {b:fk} {a:jG} {k:List Item} {cs:List fk} {w:cY} {G':cA->cY->Prop} {ops:Array fj} {id:Nat}
def xku(c:¬Mc au b.fn)(h:RX au (Xh (b.at a (aM ops (gO (ak ops))::k)) cs) w G'):RX au (Xh (b.at a (cD (eU id ops ao)::k)) cs) w G':=
 RX.eO bL (g':=Xh (b.at a (aM ops (gO (ak ops))::k)) cs) c (λv=>ē) rfl rfl rfl h
def xzw(c:¬Mc au b.fn)(h:RX au (Xh (b.at a k) cs) w G'):RX au (Xh (b.at a (aM ops []::k)) cs) w G':=
 RX.eO bL (g':=Xh (b.at a k) cs) c (λv=>ē) rfl rfl rfl h
def xzx(c:¬Mc au b.fn)(h:RX au (Xh {b.at a (cD .ret::k)with mode:=dN} cs) w G'):RX au (Xh (b.at a (cD .ret::k)) cs) w G':=
 RX.eO bL (g':=Xh {b.at a (cD .ret::k)with mode:=dN} cs) c (λv=>ē) rfl rfl rfl h
end
def xd3:ak JT=3:=Á
def Pm:JT=#[⟨ac 6,.move<|bZ 1,34,"coffer.go:236",#[],ar⟩,⟨ac 7,.call ⟨.value<|bZ 6,#[],#[]⟩,33,"coffer.go:236",#[⟨0,eM⟩],ar⟩,⟨ar,.store 33 (bZ 4)<|bZ 7,0,"coffer.go:236",#[⟨1,eM⟩,⟨1,.chain⟩,⟨0,.phase⟩,⟨1,.phase⟩],ar⟩]:=Á
def xde{f B w Rw R}(O:Vi au cP f)(l:∀args w,(nE f args).run prog w=cT (mo f args) w)(M:CC au f #[zo B] (gW B w) Rw)
  (o:∀e w t d,R e (re w t d)->R e w)(H:∀e w t d,R e w->R e (re w t d))(m:∀w',¬R iE w')
  (p:∀v w',Rw (ah v) w'->∃x,v=zi x/\xh w' (ak w.heap+1) #[zi 0] 33/\R (ah v) (ai w' (zq (ak w.heap+1) 0) v))
  (n:∀ch w',Rw (gU ch) w'->∀tm:Za,tm[4]?=ac (zo<|ak w.heap+1)->∀t d,Leaves prog Tryz.f34 tm R [gD w] (eW ch)<|re w' t d):
  CC au 34 #[zo B,nV (.func f) #[zo B] #[]] w R:=by
 intro U V;obtain⟨b,E⟩:∃b,b=aT au 34 #[zo B,nV (.func f) #[zo B] #[]] cJ:=⟨_,rfl⟩;have N:aT au 34 #[zo B,nV (.func f) #[zo B] #[]] cJ=b.at ⟨#[zo B,nV (.func f) #[zo B] #[],aC,aC,aC,aC,aC,aC],[]⟩ [cD<|fO Pj<|fO Pk<|fO (eU 2 JT ao) .ret]:=by rw[E];simp only[aT,Frame.at,ov,Xl,qt,D4,xxs];rfl
 have c:b.fn=34:=by rw[E];rfl
 have g:b.kind=cJ:=by rw[E];rfl
 have a:¬Mc au b.fn:=by rw[c];exact jb0
 rw[N];refine Ph a<|RX.wp bL qR a g (Post:=λe i w'=>e=dM/\i=⟨#[zo B,nV (.func f) #[zo B] #[],zo (ak w.heap),aC,zo<|ak w.heap+1,aC,aC,aC],[]⟩/\qK (gW B w) w') ?_ ?_ (λt d=>?_) ?_;rintro e i w' t d;constructor;rintro⟨j,k,F,r,L⟩;exact⟨j,k,w'.tape,w'.drawn,by grind [re,DW]⟩;rintro⟨j,k,F,r,rfl⟩;exact⟨j,k,t,d,by rw[yP]⟩;rintro e i w'⟨rfl,_⟩;trivial;exact xye ⟨rfl,rfl,t,d,rfl⟩ rfl;rintro e S w1 W⟨rfl,rfl,z⟩ ⟨_,rfl⟩;refine z.rx ?_;refine Ph a<|RX.wp bL qR a g (Post:=λe i w'=>e=dM/\i=⟨#[zo B,nV (.func f) #[zo B] #[],zo (ak w.heap),aC,zo<|ak w.heap+1,nV (.func 63) #[] #[zo (ak w.heap),zo<|ak w.heap+1],aC,aC],[gD w]⟩/\qK (gW B w) w') ?_ ?_ (λt d=>?_) ?_;rintro e i w' t d;constructor;rintro⟨j,k,F,r,L⟩;exact⟨j,k,w'.tape,w'.drawn,by grind [re,DW]⟩;rintro⟨j,k,F,r,rfl⟩;exact⟨j,k,t,d,by rw[yP]⟩;rintro e i w'⟨rfl,_⟩;trivial;exact xyf ⟨rfl,rfl,t,d,rfl⟩;rintro e T Z X⟨rfl,rfl,C⟩ ⟨_,rfl⟩;refine C.rx ?_;refine Ph a<|xku a ?_;rw[xd3,show gO 3=[0,1,2]from rfl];refine RX.ea bL a (val:=nV (.func f) #[zo B] #[]) (w':=gW B w) (by rw[Pm];rfl) rfl Â (λt d=>⟨t,d,Ħ⟩) ?_;refine RX.kN bL a (f:=f) (args:=#[zo B]) (by rw[Pm];rfl) rfl Â (λv=>?_) O M ?_ ?_
 ·show(aL _ _).run prog _=_;simp[aL,go_sem,nD,fe,l]
 ·intro v h D;obtain⟨x,rfl,y,G⟩:=p v h D;have q:ae h (zq (ak w.heap+1) 0)=ac (zi 0):=y.i 0 rfl;have s:=y.dG 0;refine RX.pJ bL a (w':=ai h (zq (ak w.heap+1) 0)<|zi x) (by rw[Pm];rfl) rfl Â (λt d=>⟨t,d, ?_⟩) ?_
  ·have I:ae (re h t d) (zq (ak w.heap+1) 0)=ac (zi 0):=q;have K:aQ (re h t d) (zq (ak w.heap+1) 0)=ao:=s;show(aL _ _).run prog _=_;simp[aL,go_sem,fe,I,K];rfl
  refine xzw a<|xzx a ?_;refine RX.vN bL qR (fnc:=Tryz.f34) (u:=dN) g a ⟨_,by rw[show({b.at _ _ with mode:=dN}:Zf).fn=34 from c];exact ov⟩ (by rw[show({b.at _ _ with mode:=dN}:Zf).fn=34 from c];exact func34.1) rfl o m λt d=>?_;show Leaves prog _ _ _ _ _ _;refine leaves_cons (f:=63) (args:=#[zo (ak w.heap),zo<|ak w.heap+1]) Ä ķ ?_;refine(VU _ _ _).mono ?_;rintro e Y Q⟨rfl,rfl,rfl⟩;have J:ae (re (ai h (zq (ak w.heap+1) 0)<|zi x) t d) (zq (ak w.heap+1) 0)=ac (zi x):=(y.H 0 _).i 0 rfl;simp[Leaves,settle,dX,oq,go_sem,fe,Frame.at,J];grind
 intro ch h D;refine RX.vN bL qR (fnc:=Tryz.f34) (u:=eW ch) g a ⟨_,by rw[show({b.at _ _ with mode:=eW ch}:Zf).fn=34 from c];exact ov⟩ (by rw[show({b.at _ _ with mode:=eW ch}:Zf).fn=34 from c];exact func34.1) rfl o m λt d=>?_;exact n ch h D _ rfl t d
end
section
open A
variable [pn:A.Pn]
attribute [local go_sem] zn zg
noncomputable def JS:=Qf Tryz.f13.body
noncomputable def Ũ:=Qa JS
noncomputable def ũ:=Qa<|Qb JS
noncomputable def Ŧ:=Qa<|Qb<|Qb JS
noncomputable def ŧ:=Qa<|Qn 3 JS
noncomputable def je9:=Qa<|Qn 4<|Qf Tryz.f13.body
def xxp:Tryz.f13.body=ac (fO Ũ<|fO ũ<|fO Ŧ<|fO ŧ<|fO je9 .ret):=Á
def tQ:¬Mc au 13:=wY Ã Ã Tryz.func13
def Cj(B:Nat)(a:jG):Prop:=∃v2 x1 x3 x4 x5 x6 x7 x8 x9 x10 x11 x12 x13 x14 x15 x16 x17 x18 x19 x20 x21 x22 x23 x24 x25 x26,a=⟨#[zo B,x1,v2,x3,x4,x5,x6,x7,x8,x9,x10,x11,x12,x13,x14,x15,x16,x17,x18,x19,x20,x21,x22,x23,x24,x25,x26],[]⟩
section
variable {B:Nat} {r:Sr} {w:cY} {Po:Exit->jG->cY->Prop} {a:jG}
def jb9(a:aK<|∀a',Cj B a'->Po dM a' w):Ũ.wp prog Po ⟨#[zo B]++bV (27-1) aC,[]⟩ w:=by
 simp only[jd,xg,qy,iJ,jV,qu,qw,Xa,Zh,qj,qg];conv=>arg 2;whnf
 go_wp2;exact a.o _ ⟨_,_,_,_,_,_,_,_,_,_,_,_,_,_,_,_,_,_,_,_,_,_,_,_,_,_,rfl⟩
def jca(d:Cj B a)(h:xh w B r.G 81)(b:r.sn=ar)(c:aK<|∀a',Cj B a'->Po dM a' w):ũ.wp prog Po a w:=by
 obtain⟨C,D,E,F,G,H,I,J,K,e,f,g,i,j,k,l,m,n,o,p,q,s,t,v,x,y,rfl⟩:=d;have z:ae w (zq B 7)=ac (aR ar):=(h.i 7 rfl).trans Ġ;clear h b;conv=>arg 2;whnf
 go_wp2;exact c.o _ ⟨_,_,_,_,_,_,_,_,_,_,_,_,_,_,_,_,_,_,_,_,_,_,_,_,_,_,rfl⟩
def jcb(c:Cj B a)(h:xh w B r.G 81)(hop:r.op<999)(b:aK<|∀a',Cj B a'->Po dM a' w):Ŧ.wp prog Po a w:=by
 obtain⟨C,D,E,F,G,H,I,J,K,d,e,f,g,i,j,k,l,m,n,o,p,q,s,t,v,x,rfl⟩:=c;have y:ae w (zq B 6)=ac (zi r.op):=h.i 6 rfl;have z:¬(r.op:Int)=999:=À
 clear h hop;conv=>arg 2;whnf
 go_wp2;exact b.o _ ⟨_,_,_,_,_,_,_,_,_,_,_,_,_,_,_,_,_,_,_,_,_,_,_,_,_,_,rfl⟩
def jcc(c:Cj B a)(h:xh w B r.G 81)(hop:r.op<999)(b:aK<|∀a' w',Cj B a'->w'=ai w (zq B 6) (zi (r.op+1:Nat))->Po dM a' w'):ŧ.wp prog Po a w:=by
 obtain⟨D,E,F,G,H,I,J,K,L,d,e,f,g,i,j,k,l,m,n,o,p,q,s,t,v,x,rfl⟩:=c;have y:ae w (zq B 6)=ac (zi r.op):=h.i 6 rfl;have z:=h.dG 6;have C:IntKind.i64.wrap ((r.op:Int)+1)=(r.op:Int)+1:=Ì
 clear h hop;conv=>arg 2;whnf
 go_wp2;exact b.o _ _ ⟨_,_,_,_,_,_,_,_,_,_,_,_,_,_,_,_,_,_,_,_,_,_,_,_,_,_,rfl⟩ rfl
end
def ů(r:Sr)(k:Lk)(S:Nat)(L:KV):Sr:={r with op:=r.op+1,bA:=k.bA,bJ:=k.dO,d:=(Zb k r.d).2.2,sn:=ac<|wZ S (Zb k r.d).2.1 L}
def Zd.gA{B r w}(h:Vq w B r)(b:r.sn=ar):Zd B r w {r with op:=r.op+1}<|ai w (zq B 6)<|zi (r.op+1:Nat):=by
 refine⟨(zj.H w (zq B 6) _).W λx a=>aF a,⟨h.bO.H 6 _, ?_,λs e=>?_⟩,λx a=>?_⟩;exact h.fh.y (zj.H w _ _) λx a e=>h.ko Â
 grind;obtain e|e|⟨s,e,_⟩:=a;exact aF<|aF e;exact aF<|aE<|aF e;grind
def xh9{B:Nat}{r:Sr}{w:Zy}{C:Int->Zy->Prop}(h:Vq w B r)(g:r.sn=ar)(hop:r.op<999)(G:∀n w' t d,C n (re w' t d)↔C n w')
  (s:∀w5,Zd B r w {r with op:=r.op+1} w5->CC au 34 #[zo B,nV (.func 36) #[zo B] #[]] w5 λe w'=>∃n,e=ah (zi n)/\C n w'):
  CC au 13 #[zo B] w λe w'=>∃n,e=ah (zi n)/\C n w':=by
 have i:pm (qM au cP Tryz.f13 λe w'=>∃n,e=ah (zi n)/\C n w'):=Aj λe w' t d=>exists_congr λn=>and_congr_right λ_=>G n w' t d;apply CC.jK bL tQ (fF rfl Tryz.func13 rfl).1 Tryz.func13 xxp;rw[show Tryz.f13.ntmps=27 from rfl];refine Yp.wS bL qR tQ i trivial λw1 Po a H hX=>jb9 λa1 m=>H.o _ _ ?_;refine Yp.wS bL qR tQ i trivial λw2 z b j J=>jca m ((h.bO.nw<|qm a).nw<|qm b) g λa2 o=>j.o _ _ ?_;refine Yp.wS bL qR tQ i trivial λw3 D c k K=>jcb o (((h.bO.nw<|qm a).nw<|qm b).nw<|qm c) hop λa3 p=>k.o _ _ ?_;refine Yp.wS bL qR tQ i trivial λw4 E f l L=>jcc p ((((h.bO.nw<|qm a).nw<|qm b).nw<|qm c).nw<|qm f) hop λa4 w5 q x=>l.o _ _ ?_;have y:=(((qm a).aA<|qm b).aA<|qm c).aA<|qm f;have F:Zd B r w {r with op:=r.op+1} w5:=by rw[x];exact(Zd.nw h y).aA<|Zd.gA (h.y y λ_ _=>id) g
 obtain⟨v2,x1,x3,x4,x5,x6,x7,x8,x9,O,Q,R,S,T,U,V,W,X,Y,Z,ba,bb,bc,bd,be,bf,rfl⟩:=q;refine Yp.tI bL tQ trivial ?_;conv=>arg 3;whnf
 apply Yp.gv bL tQ;apply Vh.ea (val:=zo B) (w':=w5) bL tQ rfl λt d=>⟨t,d,Ħ⟩;apply sN tQ ⟨rfl,rfl⟩;apply Vh.ea (val:=nV (.func 36) #[zo B] #[]) (w':=w5) bL tQ rfl λt d=>⟨t,d,Õ⟩;refine Vh.kN bL tQ rfl rfl (λv=>Í) (fF rfl ov rfl) (s _ F) ?_ ?_
 ·rintro v w6 I;obtain⟨n,M,N⟩:=I;cases M;apply sN tQ ⟨rfl,rfl⟩;apply Vh.nil bL tQ;refine Yp.wi bL tQ rfl ⟨rfl,zi n,λt d=>⟨t,d, ?_⟩,n,rfl,N⟩;simp[dX,Tryz.results13,go_sem,fe]
 grind
def Ce(r:Sr)(mp:Nat)(a:Int)(r':Sr):Prop:=match Xr (jB r.m r.bJ r.bA ((r.op+1:Nat):Int) mp) r.d.L with
 |none=>a=11/\r'={r with op:=r.op+1}
 |some (k,L)=>((Zb k r.d).1=aw/\a=0/\∃S,r'=ů r k S L)\/((Zb k r.d).1=ao/\a=12/\r'=Sr.jJ {r with op:=r.op+1,bA:=k.bA,bJ:=k.dO,d:=(Zb k r.d).2.2})
def Cf(r:Sr)(mp:Nat)(a:Int)(r':Sr):Prop:=if r.sn.isSome then a=4/\r'=r else if r.op=999 then a=10/\r'=r else Ce r mp a r'
def yG(r:Sr)(a:Int)(r':Sr):Prop:=∃mp,Cf r mp a r'
def ţ(B:Nat)(r:Sr)(w:Zy)(e:kU)(w':Zy):Prop:=∃a,e=ah (zi a)/\∃r',Zd B r w r' w'/\yG r a r'
def xh8(B r w)(h:Vq w B r)(ho:r.sn.isSome=aw\/(r.sn=ar/\r.op=999)):aG prog 13 #[zo B] w<|ţ B r w:=by
 have c:=h;obtain ho|⟨b,ho⟩:=ho
 ·obtain⟨s,b⟩:=Wr.1 ho;have d:ae w (zq B 7)=ac (zo s.S):=(h.bO.i 7 rfl).trans Ġ;have a:yG r 4 r:=⟨0,by grind [Cf]⟩;go_enter func13.1,Tryz.ntmps13;go_wp2;go_ret;exact⟨4,rfl,r,Zd.nw c<|zj.refl _ _,a⟩
 have d:ae w (zq B 7)=ac (aR ar):=(h.bO.i 7 rfl).trans Ġ;have e:ae w (zq B 6)=ac (zi 999):=(h.bO.i 6 rfl).trans (by simp[Sr.G,ho]);have a:yG r 10 r:=⟨0,by grind [Cf]⟩;go_enter func13.1,Tryz.ntmps13;go_wp2;go_ret;exact⟨10,rfl,r,Zd.nw c<|zj.refl _ _,a⟩
def ű{cv tv B lo r w}(h:Vq w B r)(hop:r.op<=999)(o:vq B r)(hG:oe cv tv w)(Q:pj lo cv tv w)(K:∀x,r.cO B x->lo<=x)(T:∀i,aa (jp r.d.L i)<=100000)
  (bb:∀mp k L,Xr (jB r.m r.bJ r.bA ((r.op+1:Nat):Int) mp) r.d.L=ac (k,L)->(k.cE=aw->0<=k.cN/\k.cN<=(aa (jp r.d.L k.aP):Nat))/\ -1000000000000<=k.aP/\k.aP<=1000000000000):
  CC au 13 #[zo B] w (ţ B r w):=by
 by_cases ho:r.sn.isSome=aw\/(r.sn=ar/\r.op=999);exact JK rfl Ã Tryz.func13 rfl (λe g t d⟨a,h1,l,Q,h3⟩=>⟨a,h1,l,Zd.re Q,h3⟩) (λg⟨_,y,_⟩=>by cases y) λt d=>(xh8 B r _ (h.y (Nw.kO (zj.refl _ _) t d) λ_ _=>id) ho).mono λe g⟨a,h1,l,Q,h3⟩=>⟨a,h1,l,(Zd.nw h<|Nw.kO (zj.refl _ _) t d).aA Q,h3⟩;have N:r.sn=ar:=by cases hs:r.sn with|none=>rfl|some s=>simp_all
 have h9:r.op≠999:=λe=>ho<|aE ⟨N,e⟩;have hC:∀(n:Int) g t d,(∃l,Zd B r w l (re g t d)/\yG r n l)↔(∃l,Zd B r w l g/\yG r n l):=λn g t d=>exists_congr λl=>and_congr_left λ_=>⟨Zd.re,λh=>Zd.kO h t d⟩;have hR:∀mp a l,Ce r mp a l->yG r a l:=λmp a l x=>⟨mp,by unfold Cf;simp_all⟩;refine xh9 (C:=λn g=>∃l,Zd B r w l g/\yG r n l) h N À hC λj I=>?_;have z:vq B {r with op:=r.op+1}:=⟨o.m,o.bJ,o.bA,by show r.op+1<1000000;omega,o.bS,o.gY,o.MP,o.nx,λx H=>o.cO x H,λs e=>o.fW s e⟩;have X:Nw j<|gW B j:=(Nw.E _ _).aA<|Nw.E _ _;have J:=(hG.y I.y o.cO).y X λ_ x=>x.elim;have h6:=(Q.y I.y K).y X λ_ x=>x.elim;have M:=xub (I.dS.y X λ_ _=>id) N z J T bb;have G:∀{x:Nat},({r with op:=r.op+1}:Sr).cO B x->x<ak j.heap:=λH=>Sr.eY I.dS H;have bf:ak (gW B j).heap=ak j.heap+2:=by simp[gW]
 have ba:xh (gW B j) (ak j.heap+1) #[zi 0] 33:=by have:=xh.dT (aB j<|aq #[zo B] 26) #[zi 0] 33;rw[xp]at this;exact this
 have F:∀{l:Sr} {g:Zy} (v:Zv),Zd B {r with op:=r.op+1} (gW B j) l g->Zd B r w l (ai g (zq (ak j.heap+1) 0) v)/\xh g (ak j.heap+1) #[zi 0] 33/\xh g (ak j.heap) #[zo B] 26:=λ{l g} v c=>
  ⟨Zd.cR (I.aA<|(Zd.nw I.dS X).aA c) (b:=ak j.heap+1) (by have:=I.y.J;omega) (λH=>by obtain h4|h4:=c.cO _ H;have:=G h4;omega;omega)<|zj.H g (zq (ak j.heap+1) 0) v,ba.y c.y λH=>(by have:=G H;omega),((xh.dT j _ _).E _).y c.y λH=>(by have:=G H;omega)⟩
 refine xde (R:=λe g=>∃n,e=ah (zi n)/\∃l,Zd B r w l g/\yG r n l) (fF rfl Tryz.func36 rfl) (λargs w=>func36.2 args w) M (λe g t d⟨n,hn,y⟩=>⟨n,hn,(hC n g t d).1 y⟩) (λe g t d⟨n,hn,y⟩=>⟨n,hn,(hC n g t d).2 y⟩) (λg⟨_,y,_⟩=>by cases y) ?_ ?_;rintro v g⟨mp,bc,y⟩;cases hl:Xr (jB r.m r.bJ r.bA ((r.op+1:Nat):Int) mp) r.d.L with
 |none=>rw[show Xr _ _=ar from hl]at y;cases y.1
 |some p=>obtain⟨k,L⟩:=p;rw[show Xr _ _=ac (k,L)from hl]at y;obtain⟨U,E,S,c⟩|⟨U,E,_⟩:=y;cases E;obtain⟨O,D,-⟩:=F (zi 0) c;refine⟨0,rfl,D,0,rfl,_,O,hR mp _ _ ?_⟩;unfold Ce;rw[hl];exact aF ⟨U,rfl,S,rfl⟩;cases E
 rintro ch g⟨mp,bc,y⟩ tm V t d;cases hl:Xr (jB r.m r.bJ r.bA ((r.op+1:Nat):Int) mp) r.d.L with
 |none=>
  rw[show Xr _ _=ar from hl]at y;obtain⟨E,c⟩:=y;cases E;obtain⟨O,D,W⟩:=F (zi 11) c;obtain⟨⟨_,_,_,Y⟩,⟨_,_,_,c1⟩,_⟩:=J.y c.y z.cO;have h7:=h6.y c.y K;refine leaves_cons (f:=63) (args:=#[zo (ak j.heap),zo<|ak j.heap+1]) Ä ķ ?_;refine(xi9 (re g t d) h7 Y c1 (W.i 0 rfl) (D.i 0 rfl)<|D.dG 0).mono ?_;rintro e u' bd⟨rfl,rfl,rfl⟩;have Z:ae (ai (re g t d) (zq (ak j.heap+1) 0)<|zi 11) (zq (ak j.heap+1) 0)=ac (zi 11):=(D.H 0 _).i 0 rfl;simp[Leaves,settle,dX,oq,go_sem,V,Z];refine⟨_,Zd.kO O t d,hR mp _ _ ?_⟩;unfold Ce;simp_all
 |some p=>obtain⟨k,L⟩:=p;rw[show Xr _ _=ac (k,L)from hl]at y;obtain⟨U,E,_⟩|⟨U,E,c⟩:=y;cases E;cases E;obtain⟨O,D,W⟩:=F (zi 12) c.jJ;obtain⟨-,D,W⟩:=F (zi 12) c;obtain⟨⟨_,_,_,Y⟩,_,_⟩:=J.y c.y z.cO;have h7:=h6.y c.y K;have be:B<ak j.heap:=G<|aF rfl;refine leaves_cons (f:=63) (args:=#[zo (ak j.heap),zo<|ak j.heap+1]) Ä ķ ?_;refine(VW (q:=ak j.heap+1) (re g t d) h7 Y (c.dS.bO.i 7 rfl) (c.dS.bO.dG 7) (W.i 0 rfl) D À).mono ?_;rintro e u' bd⟨rfl,rfl,rfl⟩;have Z:ae (ai (ai (re g t d) (zq B 7)<|aR ar) (zq (ak j.heap+1) 0)<|zi 12) (zq (ak j.heap+1) 0)=ac (zi 12):=((D.y (zj.H g (zq B 7)<|aR ar) (show ak j.heap+1≠B by omega)).H 0 _).i 0 rfl;simp[Leaves,settle,dX,oq,go_sem,V,Z];refine⟨_,Zd.kO O t d,hR mp _ _ ?_⟩;unfold Ce;rw[hl];exact aE ⟨U,rfl,rfl⟩
end
section
attribute [local go_sem] zn zg zO
section
variable {Q:Exit→jG→Zy→Prop}
theorem Ű(a b r):Wy (a::b::r)=if(0<aI a/\aI a<=16)/\aI b<=32/\aI a+aI b<=aa r then ac ((r.take (aI a),(r.drop (aI a)).take (aI b)),r.drop<|aI a+aI b)else ar:=by unfold Wy;rw[if_pos Ä];simp only[List.take_succ_cons,List.take_zero,List.drop_succ_cons,List.drop_zero,EP,Zn,zbd];grind
theorem Ų(c d r):mI (80::c::d::r)=if(0<aI c/\aI c<=16)/\aI d<=32/\aI c+aI d<=aa r then ac (.put (r.take (aI c))<|(r.drop (aI c)).take (aI d),r.drop<|aI c+aI d)else ar:=by grind [mI,Ű]
def ur(l:Zl)(w:Zy)(e:kU)(w':Zy):Prop:=match Wl l with
 |some D=>∃v,e=ah (bU #[v,aX aw])/\eD w w' 147 3 rI v D|none=>∃v,e=ah (bU #[v,aX ao])/\Nw w w'
def ur.pc{l w w'}(h:ln (aa l) l=ar)(v)(n:Nw w w'):ur l w (ah<|bU #[v,aX ao]) w':=by grind [ur,Wl]
structure OpI(w:Zy)(l:Zl)(s v:Zv)(wr:Zy)(r:Zl)(D:List Vk):Prop where
 s:s=zs r
 go:ln (aa l) l=(ln (aa r) r).map (D++·)
 gp:aa D+aa r<=aa l
 ou:eD w wr 147 3 rI v D
def eD.As{α:Type}{w0 w:Zy}{t e k:Nat}{f:α->Ze}{v:Zv}{l:List α}{ops:Array fj}{rest:List fj}{o:fj}{a:jG}{s x:Operand}{cs:Za}{X:Obj}(E:El t e k)(b:α)(h:eD w0 w e k f v l)(j:aa l<=1000000000000)(i:f b=ej cs)(hk:aa (f b)=k)(d:∀u∈f b,u.oneCell'=aw)
  (m:a.eval s=v)(hx:a.eval x=az (ac ⟨ak w.heap+1,0,ar⟩) 1 1)(c:o.guard=ar)(ho:o.op= .call {callee:= .builtin .append,args:=#[s,x],argTypes:=#[t,t]})
  (K:∀g cap w',eD w0 w' e k f (az (ac ⟨g,0,ar⟩) (aa l+1) cap) (l++[b])->wpList prog ops Q rest (a.put o.dst<|az (ac ⟨g,0,ar⟩) (aa l+1) cap) w'):wpList prog ops Q (o::rest) a<|aB (aB w X)<|aq cs e:=
 eD.iB E b (h.gl<|zj.E _) j i hk d m Ë c ho K
def Pi{P:Zp}{ops:Array fj}{rest:List fj}{o:fj}{a:jG}{W:Zy}{A:Array Operand}{T:Array Zt}(_:o.op= .call {callee:= .builtin .append,args:=A,argTypes:=T})(h:wpList P ops Q (o::rest) a W):wpList P ops Q (o::rest) a W:=h
def Ŭ(c):∀u∈rI c,u.oneCell'=aw:=by intro u a;simp[rI]at a;obtain rfl|rfl|rfl:=a<;>rfl
def xue(l)(hl:aa l<=100000)(w):aG prog 276 #[zs l] w<|ur l w:=by
 go_enter func276.1,Tryz.ntmps276;go_wp2;go_loopw [0,4] (λs v wr=>∃r D,OpI w l s v wr r D) (λs _ _=>match s with| aj x=>x.size|_=>0)
 case atStart=>exact⟨l,[],rfl,Ä,Ä,eD.nil _⟩
 case round=>
  obtain⟨r,D,t⟩:=hrel;obtain rfl:=t.s;have b:=t;have L:=t.gp;obtain⟨Y,Z,rfl⟩:=t.ou.dC;clear t
  match r with
  |[]=>
   have f:aK<|ln (aa l) l=ac D:=by show _=_;rw[b.go];simp[ln]
   by_cases B:1<=aa D/\aa D<=20
   case pos=>
    have S:(1:Int)<=(aa D:Nat):=À
    have T:(aa D:Int)<=20:=À
    have k:aK<|Wl l=ac D:=by show _=_;unfold Wl;rw[f.o];simp only;rw[if_pos B]
    clear B;go_wp2;go_ret2;unfold ur;rw[k.o];exact⟨_,rfl,b.ou⟩
   case neg=>
    have k:aK<|Wl l=ar:=by show _=_;unfold Wl;rw[f.o];simp only;rw[if_neg B]
    by_cases S:(1:Int)<=(aa D:Nat)
    case' pos=>have T:¬(aa D:Int)<=20:=À
    all_goals
     clear B;go_wp2;go_ret2;unfold ur;rw[k.o];exact⟨_,rfl,b.ou.nw⟩
  |a::r=>
   have g0:∀h,(st (a::r))[0]'h=a:=λ_=>rfl;have ha:=a.toNat_lt;by_cases j:a=68
   case pos=>
    subst j
    match r with
    |[]=>
     have f:aK<|ln (aa l) l=ar:=by show _=_;rw[b.go,Bh à];rfl
     go_wp2;go_ret2;exact ur.pc f.o _<|b.ou.nw.aA<|zj.E _
    |c::r=>
     have O:∀h,(st (68::c::r))[1]'h=c:=λ_=>rfl;have R:=c.toNat_lt;have p:aK<|mI (68::c::r)=if 0<aI c/\aI c<=16/\aI c<=aa r then ac (.del<|r.take (aI c),r.drop (aI c))else ar:=by show _=_;simp[mI]
     by_cases hk:0<aI c/\aI c<=16/\aI c<=aa r
     case neg=>
      have f:aK<|ln (aa l) l=ar:=ĝ
      have i:((aI c:Nat):Int)<1\/(1<=((aI c:Nat):Int)/\16<((aI c:Nat):Int))\/(1<=((aI c:Nat):Int)/\((aI c:Nat):Int)<=16/\(aa r:Int)<((aI c:Nat):Int)):=À
      clear hk;obtain i|⟨i,z⟩|⟨i,z,K⟩:=i;all_goals
       go_wp2;go_ret2;exact ur.pc f.o _<|b.ou.nw.aA<|zj.E _
     case pos=>
      obtain⟨E,F,G⟩:=hk;have U:(aI c:Int)<=(aa r:Nat):=À
      have C:aK<|List.drop 2 (dU (2+aI c) (68::c::r))=r.take (aI c):=Ċ
      have k:aK (ln (aa l) l=(ln (aa (r.drop (aI c)))<|r.drop (aI c)).map ((D++[.del<|r.take (aI c)])++·)):=by show _=_;rw[b.go,Mn<|by rw[p.o,if_pos ⟨E,F,G⟩],Option.map_map];congr 1;funext y;simp
      go_wp2_with (refine Pi rfl ?_;refine eD.As MN (.del<|r.take (aI c)) b.ou À (by show [_,_,_]=[_,_,_];rw[C.o];rfl) rfl (Ŭ _) rfl rfl rfl rfl ?_);intro Q q X g;have m:=g;clear g;go_wp2;go_roundw
      case rel=>exact⟨r.drop (aI c),_,Â,k.o,Â,m⟩
      grind [zn]
   case neg=>
    have o:¬(aI a:Int)=68:=λe=>j (D9.1 Â);have J:((aI a:Int)==68)=ao:=ÿ
    have I:((aI a:Int) != 68)=aw:=ÿ
    by_cases n:a=80
    case neg=>
     have H:¬(aI a:Int)=80:=λe=>n (D9.1 Â);have W:((aI a:Int) != 80)=aw:=by simpa using H
     have f:aK<|ln (aa l) l=ar:=by show _=_;rw[b.go,Bh<|by simp[mI,j,n]];rfl
     go_wp2;go_ret2;exact ur.pc f.o _<|b.ou.nw.aA<|zj.E _
    subst n;clear o J I j
    match r with
    |[]=>
     have f:aK<|ln (aa l) l=ar:=by show _=_;rw[b.go,Bh à];rfl
     go_wp2;go_ret2;exact ur.pc f.o _<|b.ou.nw.aA<|zj.E _
    |[c]=>
     have f:aK<|ln (aa l) l=ar:=by show _=_;rw[b.go,Bh<|by simp[mI,Wy]];rfl
     go_wp2;go_ret2;exact ur.pc f.o _<|b.ou.nw.aA<|zj.E _
    |c::d::r=>
     have O:∀h,(st (80::c::d::r))[1]'h=c:=λ_=>rfl;have g2:∀h,(st (80::c::d::r))[2]'h=d:=λ_=>rfl;have R:=c.toNat_lt;have hd:=d.toNat_lt;have p:aK<|mI (80::c::d::r)=if(0<aI c/\aI c<=16)/\aI d<=32/\aI c+aI d<=aa r then ac (.put (r.take (aI c))<|(r.drop (aI c)).take (aI d),r.drop<|aI c+aI d)else ar:=by exact Ų c d r
     by_cases hk:(0<aI c/\aI c<=16)/\aI d<=32/\aI c+aI d<=aa r
     case neg=>
      have f:aK<|ln (aa l) l=ar:=ĝ
      have i:((aI c:Nat):Int)<1\/(1<=((aI c:Nat):Int)/\16<((aI c:Nat):Int))\/(1<=((aI c:Nat):Int)/\((aI c:Nat):Int)<=16/\32<((aI d:Nat):Int))\/(1<=((aI c:Nat):Int)/\((aI c:Nat):Int)<=16/\((aI d:Nat):Int)<=32/\(aa r:Int)<((aI c:Nat):Int)+((aI d:Nat):Int)):=À
      clear hk;obtain i|⟨i,z⟩|⟨i,z,K⟩|⟨i,z,K,h6⟩:=i;all_goals
       go_wp2;go_ret2;exact ur.pc f.o _<|b.ou.nw.aA<|zj.E _
     case pos=>
      obtain⟨⟨E,F⟩,G,V⟩:=hk;have U:(aI c:Int)+(aI d:Int)<=(aa r:Nat):=À
      have j2:(aI c:Int)<=(aa r:Nat):=À
      have C:aK<|List.drop 3 (dU (3+aI c) (80::c::d::r))=r.take (aI c):=Ċ
      have M:aK<|List.drop (3+aI c) (dU (3+aI c+aI d) (80::c::d::r))=(r.drop (aI c)).take (aI d):=by show _=_;rw[show 3+aI c+aI d=aI c+aI d+3 by omega,show 3+aI c=aI c+3 by omega];simp[Xb]
      have k:aK (ln (aa l) l=(ln (aa (r.drop<|aI c+aI d))<|r.drop<|aI c+aI d).map ((D++[.put (r.take (aI c))<|(r.drop (aI c)).take (aI d)])++·)):=by show _=_;rw[b.go,Mn<|by rw[p.o,if_pos ⟨⟨E,F⟩,G,V⟩],Option.map_map];congr 1;funext y;simp
      go_wp2_with (refine Pi rfl ?_;refine eD.As MN (.put (r.take (aI c))<|(r.drop (aI c)).take (aI d)) b.ou À (by show [_,_,_]=[_,_,_];rw[C.o,M.o];rfl) rfl (Ŭ _) rfl rfl rfl rfl ?_);intro Q q X g;have m:=g;clear g;go_wp2;go_roundw
      case rel=>exact⟨r.drop<|aI c+aI d,_,Â,k.o,Â,m⟩
      grind [zn]
def ų{L k v}(h:∀p∈L,p.1≠k):gt L k v=L++[(k,v)]:=by induction L with|nil=>rfl|cons p L ih=>grind [gt]
def uO(l:Zl)(w:Zy)(e:kU)(w':Zy):Prop:=match Yo l with
 |some L=>∃v,e=ah (bU #[v,aX aw])/\eD w w' 157 2 jT v L|none=>e=ah (bU #[az ar 0 0,aX ao])/\Nw w w'
def uO.pc{l w w'}(h:Yo l=ar)(n:Nw w w'):uO l w (ah<|bU #[az ar 0 0,aX ao]) w':=by grind [uO]
def uO.xN{l w w' L v}(h:Yo l=ac L)(n:eD w w' 157 2 jT v L):uO l w (ah<|bU #[v,aX aw]) w':=by grind [uO]
structure PrI(w:Zy)(l:Zl)(s v:Zv)(wr:Zy)(r ab:Zl)(D:KV):Prop where
 s:s=zs r
 go:Yo l=vy r ab D
 lo:∀p∈D,p.1<=ab
 la:D=[]\/∃D0 x,D=D0++[(ab,x)]
 nil:D=[]->ab=[]
 gp:aa D+aa r<=aa l
 ou:eD w wr 157 2 jT v D
def xki(l)(hl:aa l<=100000)(w):aG prog 245 #[zs l] w<|uO l w:=by
 go_enter func245.1,Tryz.ntmps245;go_wp2;go_loopw [0,4] (λs v wr=>∃r k D,PrI w l s v wr r k D) (λs _ _=>match s with| aj x=>x.size|_=>0)
 case atStart=>exact⟨l,[],[],rfl,rfl,Ä,aF rfl,λ_=>rfl,Ä,eD.nil _⟩
 case round=>
  obtain⟨r,k,D,E⟩:=hrel;obtain rfl:=E.s;have j:=E;have W:=E.gp;obtain⟨av,cv,rfl⟩:=E.ou.dC
  match r with
  |[]=>go_wp2;go_ret2;exact uO.xN (by rw[j.go];rfl) j.ou
  |[a]=>
   have m:aK<|Yo l=ar:=by show _=_;rw[j.go,Iy Ä];simp[Wy]
   go_wp2;go_ret2;exact uO.pc m.o j.ou.nw
  |a::b::r=>
   have O:=Ű a b r;have g0:∀h,(st (a::b::r))[0]'h=a:=λ_=>rfl;have g1:∀h,(st (a::b::r))[1]'h=b:=λ_=>rfl;have hb:=b.toNat_lt;have ha:=a.toNat_lt;by_cases U:(0<aI a/\aI a<=16)/\aI b<=32/\aI a+aI b<=aa r
   case neg=>
    have m:aK<|Yo l=ar:=by show _=_;rw[j.go,Iy Ä,O,if_neg U]
    have o:((aI a:Nat):Int)<1\/(1<=((aI a:Nat):Int)/\16<((aI a:Nat):Int))\/(1<=((aI a:Nat):Int)/\((aI a:Nat):Int)<=16/\32<((aI b:Nat):Int))\/(1<=((aI a:Nat):Int)/\((aI a:Nat):Int)<=16/\((aI b:Nat):Int)<=32/\(aa r:Int)<((aI a:Nat):Int)+((aI b:Nat):Int)):=À
    obtain o|⟨o,T⟩|⟨o,T,h5⟩|⟨o,T,h5,h6⟩:=o;all_goals
     go_wp2;go_ret2;exact uO.pc m.o j.ou.nw
   case pos=>
    obtain⟨⟨k1,k2⟩,k3,k4⟩:=U;have j1:(aI a:Int)+(aI b:Int)<=(aa r:Nat):=À
    have j2:(aI a:Int)<=(aa r:Nat):=À
    have Y:aK<|List.drop 2 (dU (2+aI a) (a::b::r))=r.take (aI a):=Ċ
    have Z:aK<|List.drop (2+aI a) (dU (2+aI a+aI b) (a::b::r))=(r.drop (aI a)).take (aI b):=by show _=_;rw[show 2+aI a+aI b=aI a+aI b+2 by omega,show 2+aI a=aI a+2 by omega];simp[Xb]
    have G:aK<|Yo l=if k<r.take (aI a) then vy (r.drop<|aI a+aI b) (r.take (aI a)) (gt D (r.take (aI a))<|(r.drop (aI a)).take (aI b))else ar:=by show _=_;rw[j.go,Iy Ä,O,if_pos ⟨⟨k1,k2⟩,k3,k4⟩]
    go_wp2;go_region;rw[Y.o,Z.o];have X:r.take (aI a)≠[]:=by show _≠_;intro e;have:=congrArg aa e;rw[xf]at this;simp only[qy]at this;omega
    generalize r.take (aI a)=ky at*;generalize(r.drop (aI a)).take (aI b)=vl at*;have d:eD w (aB wr<|aq #[zs ky,zs vl] 157).drew 157 2 jT (az av (aa D) cv) D:=j.ou.gl (zj.E _).U;have K:xh (aB wr<|aq #[zs ky,zs vl] 157).drew (ak wr.heap) #[zs ky,zs vl] 157:=xh.dT _ _ _;generalize(aB wr<|aq #[zs ky,zs vl] 157).drew=w1 at*;generalize ak wr.heap=P at*;have S1:ae w1 (zq P 0)=ac (zs ky):=K.i 0 rfl;have y:(!Op.bytesLess (st k).toList (st ky).toList)=bI (¬k<ky):=by rw[xl,xl,bytesLess_eq];simp only[decide_not]
    have z:=j.la;have n:=j.lo;have B:=j.nil;by_cases c:k<ky
    case neg=>
     have m:aK<|Yo l=ar:=by show _=_;rw[G.o,if_neg c]
     rw[jm c]at y;obtain rfl|⟨f,x,rfl⟩:=z;rw[B rfl]at c;cases ky;exact(X rfl).elim;simp_all;obtain⟨g,rfl,F⟩:=d.rw.kq (λ_=>rfl) (i:=aa f) Ä rfl;have e0:ae w1 (zq g<|aa f*2)=ac (zs k):=by rw[show aa f*2=aa f*2+0 from rfl,F 0 À];simp[jT]
     simp only[zx,Zr]at*;go_wp2;go_quiet (fail);go_wp2;go_ret2;exact uO.pc m.o<|d.nw.aA (zj.refl _ _).eg
    case pos=>
     rw[jo λh=>h c]at y;have M:aK<|gt D ky vl=D++[(ky,vl)]:=ų λp L e=>absurd (e▸c)<|List.not_lt.2<|n p L;have m:aK<|Yo l=vy (r.drop<|aI a+aI b) ky (D++[(ky,vl)]):=by show _=_;rw[G.o,if_pos c,M.o]
     have H:∀p∈D++[(ky,vl)],p.1<=ky:=by intro p L;obtain h|h:=je.1 L;exact List.le_of_lt<|List.lt_of_le_of_lt (n p h) c;simp_all
     clear c G M n;obtain q|⟨f,x,q⟩:=z
     case' inr=>
      have t:aa D=aa f+1:=by rw[q];simp
      have V:D[aa f]' À=(k,x):=by simp[q]
      obtain⟨g,rfl,F⟩:=d.rw.kq (λ_=>rfl) (i:=aa f) À rfl;have e0:ae w1 (zq g<|aa f*2)=ac (zs k):=by rw[show aa f*2=aa f*2+0 from rfl,F 0 À,V];rfl
      clear F V
     case' inl=>have t:aa D=0:=by rw[q];rfl
     all_goals
      have ba:aa D<=100000:=À
      rw[t]at d⊢;clear q B;go_wp2;go_quiet (fail);have I:=d.gl (zj.refl _ _).eg (w':=w1.drewN nq);have Q:=K.y (S:=λ_=>False) (zj.refl _ _).eg (w':=w1.drewN nq) id;generalize w1.drewN nq=w2 at*;clear d K;have T0:ae w2 (zq P 0)=ac (zs ky):=Q.i 0 rfl;have T1:ae w2 (zq P 1)=ac (zs vl):=Q.i 1 rfl;go_wp2_with (refine Pi rfl ?_;refine eD.iB Io (ky,vl) I À rfl rfl æ rfl rfl rfl rfl ?_);intro g3 R w3 C;have J:=C;clear C;go_wp2;go_roundw
      case rel=>exact⟨r.drop<|aI a+aI b,ky,_,Â,m.o,H,aE ⟨_,_,rfl⟩,Ä,Â,J⟩
      grind [zn]
end
end
section
attribute [local go_sem] zn zg te
def ť(n:Nat)(a:Int)(h:0<=a/\a<=8)(w:Zy):aG prog 140 #[zi n,zi a] w λe w'=>e=ah (zs<|nb n (bB a))/\aN (ak w.heap) w w':=by obtain⟨k,rfl⟩:∃k:Nat,a=(k:Int):=⟨bB a,À⟩;grind [ED]
def Yq.nw{w w':Zy}(h:Yq w)(a:Nw w w'):Yq w':=λi b=>a.i id<|h i b
def Rf.sP(f:Rf):Bool:=bI (f.od<=(aa (jp f.F f.sg):Nat))
def Rf.cH(f:Rf):Int×Zl:=if f.sg=0 then(f.bE+1,Vb (bB (f.bE+1))<|f.bA+1)else if f.sP=aw then(f.sg+1,Vb (bB (f.sg+1))<|f.bA+1)else(f.sg,[])
def Rf.Au(f:Rf)(n:Int)(T:Zl):Rf:={f with sg:=n,bA:=f.bA+1,bJ:=T,dO:=T}
def Xf.Au{C:Nat}{f:Rf}{w:Zy}(h:Ju w C f)(n:Int)(T:Zl):Xf C f w (f.Au n T)<|ai (ai (ai (ai w (zq C 17)<|zi n) (zq C 8)<|zi<|(f.bA:Int)+1) (zq C 10)<|zs T) (zq C 15)<|zs T:=by have a:Xf C f w {f with sg:=n} _:=Xf.H h 17 (zi n) (by simp[Rf.G]) rfl rfl rfl;have b:Xf C _ _ {f with sg:=n,bA:=f.bA+1} _:=Xf.H a.dS 8 (zi<|(f.bA:Int)+1) (by simp[Rf.G]) rfl rfl rfl;have c:Xf C _ _ {f with sg:=n,bA:=f.bA+1,bJ:=T} _:=Xf.H b.dS 10 (zs T) (by simp[Rf.G]) rfl rfl rfl;have d:Xf C _ _ (f.Au n T) _:=Xf.H c.dS 15 (zs T) (by simp[Rf.G,Rf.Au]) rfl rfl rfl;grind [aA]
def Pf(C:Nat)(f:Rf)(d:Dk)(n:Int)(Y T:Zl)(w:Zy)(e:kU)(w':Zy):Prop:=
 (f.bS<bK d.L+(aa Y:Int)/\e=ah (zi 9)/\Xf C f w f w')\/
 (¬f.bS<bK d.L+(aa Y:Int)/\(d.ic n Y).1=ao/\e=ah (zi 12)/\∃v F a k,Xf C f w (f.dk v F a k ao) w'/\Tw (d.ic n Y).2 (f.dk v F a k ao))\/
 (¬f.bS<bK d.L+(aa Y:Int)/\(d.ic n Y).1=aw/\e=ah (zi 0)/\∃v F a k,Xf C f w ((f.dk v F a k f.gA).Au n T) w'/\Tw (d.ic n Y).2 ((f.dk v F a k f.gA).Au n T))
def xle(C:Nat)(f:Rf)(d:Dk)(kind plain:Zl)(ep:Nat)(w:Zy)(h:Ju w C f)(ht:Tw d f)(Q:Yq w)(hm:aa f.m=32)(bw:aa f.dO=32)(hk:aa kind=1)(hp:aa plain<=1100)(hc:f.bA<=1000000)(bf:¬(f.bA:Int)=f.my)(hu:bK d.L<=390000)(bv:0<=f.sg/\f.sg<=1000000000000)(bu:0<=f.bE/\f.bE<=1000000000000):aG prog 132 #[zo C,zs kind,zi ep,zs plain] w<|Pf C f d f.cH.1 (f.cH.2++oU f.m f.dO kind ep f.op f.bA plain) (sH f.m f.dO kind ep f.op f.bA plain) w:=by
 have o:=h;have HT:=Q;have c8:ae w (zq C 8)=ac (zi f.bA):=h.bO.i 8 rfl;have c2:ae w (zq C 2)=ac (zi f.my):=h.bO.i 2 rfl;have s:∀c,Nw w c->ae c (zq C 8)=ac (zi f.bA)/\ae c (zq C 9)=ac (zi f.op)/\ae c (zq C 15)=ac (zs f.dO):=λc R=>⟨(o.y R).bO.i 8 rfl,(o.y R).bO.i 9 rfl,(o.y R).bO.i 15 rfl⟩;have q0:((f.bA:Int)==f.my)=ao:=by simpa using bf
 have bx:IntKind.i64.wrap ((f.bA:Int)+1)=(f.bA:Int)+1:=Ì
 have l1:=Z2 ep 1;have l2:=Z2 f.op 2;have l3:=Z2 (f.bA+1) 4;have l4:=Z2 (aa plain) 2;have HE:aK<|st kind++st (nb ep 1)++st (nb f.op 2)++st (nb (f.bA+1) 4)++st (nb (aa plain) 2)=st (wG kind ep f.op f.bA (aa plain)):=by show _=_;rw[zg,zg,zg,zg];simp[wG]
 have m1:¬9223372036854775807<aa kind+1:=À
 clear h Q;go_enter func132.1,Tryz.ntmps132;go_wp2;go_quiet (fail);have N1:Nw w<|w.drewN nq:=(zj.refl _ _).eg;generalize w.drewN nq=w1 at*;clear c8 c2;go_wp2;have l:=s _ N1;have b:Nw w w1.drew:=N1.U;go_region_held3 (λc=>ae c (zq C 8)=ac (zi f.bA)/\ae c (zq C 9)=ac (zi f.op)/\ae c (zq C 15)=ac (zs f.dO)) (first|exact l|exact i)
  (first
   |(go_at_call 140;refine(ť _ _ Ã _).mono ?_;rintro e w3⟨rfl,g⟩;replace b:=b.aA<|zj.Q g;have i:=s _ b)
   |(go_at_call 140;refine(ub _ _ (f.bA+1) 4 À rfl Ã _).mono ?_;rintro e w3⟨rfl,g⟩;replace b:=b.aA<|zj.Q g;have i:=s _ b))
 clear l HE m1 l1 l2 l3 l4 N1;clear i;try clear hHeld
 obtain⟨H,hH⟩:∃H,kind++(nb ep 1++(nb f.op 2++(nb (f.bA+1) 4++nb (aa plain) 2)))=H:=⟨_,rfl⟩;have G:aK<|wG kind ep f.op f.bA (aa plain)=H:=hH;have bk:aa H=10:=by rw[<-hH];simp[Z2,hk]
 rw[hH];clear hH;have V:aK<|aa (Ji f.m ep)=16:=EU _ _;have bb:aK<|aa (Y7 f.m ep)=32:=EV _ _;have h8:(8:Int)<=(aa H:Nat):=À
 have l:=s _ b;replace b:=b.U;go_wp2;go_region_held3 (λc=>ae c (zq C 8)=ac (zi f.bA)/\ae c (zq C 9)=ac (zi f.op)/\ae c (zq C 15)=ac (zs f.dO)) (first|exact l|exact i)
  (first
   |(go_at_call 198;refine(NS C f ep _ (o.y b) (HT.nw b) hm).mono ?_;rintro e w4⟨rfl,g⟩;replace b:=b.aA<|zj.Q g;have i:=s _ b)
   |(go_at_call 197;refine(NP _ _ plain V.o Æ À _).mono ?_;rintro e w4⟨rfl,g⟩;replace b:=b.aA<|zj.Q g;have i:=s _ b))
 clear l i;clear V;obtain⟨S,z⟩:∃S,me (Ji f.m ep) (dU 8 H) plain=S:=⟨_,rfl⟩;have E:aK<|me (Ji f.m ep) (dU 8 H) plain=S:=z;have bj:aa S=aa plain:=by rw[<-z,ye]
 rw[z];clear z;have m2:¬9223372036854775807<42+aa plain:=À
 have m3:¬9223372036854775807<10+aa plain:=À
 have l:=s _ b;replace b:=b.U;go_wp2;go_region_held3 (λc=>ae c (zq C 8)=ac (zi f.bA)/\ae c (zq C 9)=ac (zi f.op)/\ae c (zq C 15)=ac (zs f.dO)) (first|exact l|exact i)
  (first
   |(go_at_call 143;refine(NT C f ep _ (o.y b) (HT.nw b) hm).mono ?_;rintro e w5⟨rfl,g⟩;replace b:=b.aA<|zj.Q g;have i:=s _ b)
   |(go_at_call 142;refine(EG _ _ (by rw[bb.o];decide) Æ _<|HT.nw b).mono ?_;rintro e w5⟨rfl,g⟩;replace b:=b.aA<|zj.Q g;have i:=s _ b))
 clear l i;obtain⟨T,Q⟩:∃T,Wu (Y7 f.m ep) (f.dO++(H++S))=T:=⟨_,rfl⟩;have bc:aK<|sH f.m f.dO kind ep f.op f.bA plain=T:=by show _=_;rw[<-Q,<-E.o];unfold sH zV;rw[G.o,jq]
 have bs:aa T=32:=by rw[<-Q];exact wu _ _
 rw[Q];clear Q m2 m3 bb
 rename Zy=>w5
 have O:ae w5 (zq C 17)=ac (zi f.sg):=(o.y b).bO.i 17 rfl;go_wp2;clear O;obtain⟨X,hX⟩:∃X,H++(S++T)=X:=⟨_,rfl⟩;have HX:aK<|oU f.m f.dO kind ep f.op f.bA plain=X:=by show _=_;rw[<-hX,<-E.o,<-bc.o];unfold oU zV;rw[G.o,jq]
 have bt:aa X=42+aa plain:=by rw[<-hX];simp;omega
 rw[hX];clear hX E G bk bj h8;have HN:=o.y b;have ba:aa f.F<=1000000:=by have j:=vA ht.gF.ne;rw[ht.yr]at j;show _<=_;omega
 have J:∀c,Nw w c->ae c (zq C 1)=ac (zi f.od):=λc R=>(o.y R).bO.i 1 rfl;have l:=J _ b;replace b:=b.U;go_region_held3 (λc=>ae c (zq C 1)=ac (zi f.od)) (first|exact l|exact i)
  (first|(go_at_call 137;refine(xj2 C f _ _ (o.y b) ba).mono ?_;rintro e w6⟨rfl,rfl⟩;have i:=J _ b))
 clear l i J HN;generalize w5.drew=w6 at*;have q:aK<|∀c,Nw w c->ae c (zq C 8)=ac (zi f.bA):=λc R=>(s c R).1;clear s;have O:ae w6 (zq C 17)=ac (zi f.sg):=(o.y b).bO.i 17 rfl;have bi:ae w6 (zq C 16)=ac (zi f.bE):=(o.y b).bO.i 16 rfl;have bm:IntKind.i64.wrap (f.bE+1)=f.bE+1:=Ì
 have bn:IntKind.i64.wrap (f.sg+1)=f.sg+1:=Ì
 have m4:¬9223372036854775807<9+aa X:=À
 have m5:¬9223372036854775807<aa X+9:=À
 have m6:¬9223372036854775807<9+(42+aa plain):=À
 have m7:¬9223372036854775807<51+aa plain:=À
 have bh:aK<|f.sP=bI (f.od<=(aa (jp f.F f.sg):Nat)):=rfl;rw[<-bh.o];have I:aK<|f.cH=if f.sg=0 then(f.bE+1,Vb (bB (f.bE+1))<|f.bA+1)else if f.sP=aw then(f.sg+1,Vb (bB (f.sg+1))<|f.bA+1)else(f.sg,[]):=rfl;have l4:=Z2 (f.bA+1) 4;have D:aK<|∀n:Nat,({data:=#[83]}:ByteArray)++st (nb n 4)++st (nb (f.bA+1) 4)++st X=st (Vb n (f.bA+1)++X):=by intro n;rw[show({data:=#[83]}:ByteArray)=st [83]from rfl,zg,zg,zg];simp[Vb]
 have HW:aK<|∀n Y,(f.cH.1,f.cH.2++X)=(n,Y)->∀e c,Pf C f d n Y T w e c->Pf C f d f.cH.1 (f.cH.2++oU f.m f.dO kind ep f.op f.bA plain) (sH f.m f.dO kind ep f.op f.bA plain) w e c:=by intro n Y hp e c k;cases hp;rw[HX.o,bc.o];exact k
 have h3:f.sg=0\/(¬f.sg=0/\f.sP=aw)\/(¬f.sg=0/\f.sP=ao):=by cases f.sP<;>by_cases f.sg=0<;>simp[*]
 obtain B|⟨B,be⟩|⟨B,be⟩:=h3;focus
  have q1:(f.sg==0)=aw:=by simpa using B
  have l5:=Z2 (bB (f.bE+1)) 4;have y:aK<|(f.cH.1,f.cH.2++X)=(f.bE+1,Vb (bB (f.bE+1)) (f.bA+1)++X):=by show _=_;rw[I.o,if_pos B]
  go_wp2;have l:=q.o _ b;replace b:=b.U;go_region_held3 (λc=>ae c (zq C 8)=ac (zi f.bA)) (first|exact l|exact i)
   (first
    |(go_at_call 140;refine(ub _ _ (bB (f.bE+1)) 4 À rfl Ã _).mono ?_;rintro e w7⟨rfl,g⟩;replace b:=b.aA<|zj.Q g;have i:=q.o _ b)
    |(go_at_call 140;refine(ub _ _ (f.bA+1) 4 À rfl Ã _).mono ?_;rintro e w7⟨rfl,g⟩;replace b:=b.aA<|zj.Q g;have i:=q.o _ b))
  clear l i;go_wp2;rw[D.o];generalize r:Vb (bB (f.bE+1)) (f.bA+1)++X=Y;have bd:aa Y<=9+aa X/\42<=aa Y:=by rw[<-r];simp[Vb,Z2];omega
  replace y:aK<|(f.cH.1,f.cH.2++X)=(f.bE+1,Y):=by show _=_;rw[y.o,r]
  have bg:0<=f.bE+1/\f.bE+1<=1000000000001:=À
  clear r bm l5;generalize f.bE+1=n at*
 rotate_left;focus
  have q1:(f.sg==0)=ao:=by simpa using B
  have l5:=Z2 (bB (f.sg+1)) 4;have y:aK<|(f.cH.1,f.cH.2++X)=(f.sg+1,Vb (bB (f.sg+1)) (f.bA+1)++X):=by show _=_;rw[I.o,if_neg B,if_pos be]
  go_wp2;have l:=q.o _ b;replace b:=b.U;go_region_held3 (λc=>ae c (zq C 8)=ac (zi f.bA)) (first|exact l|exact i)
   (first
    |(go_at_call 140;refine(ub _ _ (bB (f.sg+1)) 4 À rfl Ã _).mono ?_;rintro e w7⟨rfl,g⟩;replace b:=b.aA<|zj.Q g;have i:=q.o _ b)
    |(go_at_call 140;refine(ub _ _ (f.bA+1) 4 À rfl Ã _).mono ?_;rintro e w7⟨rfl,g⟩;replace b:=b.aA<|zj.Q g;have i:=q.o _ b))
  clear l i;go_wp2;rw[D.o];generalize r:Vb (bB (f.sg+1)) (f.bA+1)++X=Y;have bd:aa Y<=9+aa X/\42<=aa Y:=by rw[<-r];simp[Vb,Z2];omega
  replace y:aK<|(f.cH.1,f.cH.2++X)=(f.sg+1,Y):=by show _=_;rw[y.o,r]
  have bg:0<=f.sg+1/\f.sg+1<=1000000000001:=À
  clear r bn l5;generalize f.sg+1=n at*
 rotate_left;focus
  have q1:(f.sg==0)=ao:=by simpa using B
  have y:aK<|(f.cH.1,f.cH.2++X)=(f.sg,X):=by show _=_;rw[I.o,if_neg B,if_neg Ë];rfl
  go_wp2;obtain⟨Y,r⟩:∃Y,X=Y:=⟨_,rfl⟩;obtain⟨n,hn⟩:∃n,f.sg=n:=⟨_,rfl⟩;replace y:aK<|(f.cH.1,f.cH.2++X)=(n,Y):=by show _=_;rw[y.o,r,hn]
  have bd:aa Y<=9+aa X/\42<=aa Y:=by rw[<-r];omega
  have bg:0<=n/\n<=1000000000001:=À
  rw[hn,r];clear r hn
 all_goals
  clear O bi B q1 m4 m5 m6 m7 l4
  rename Zy=>W
  have HV:=HW.o n Y y.o;have M:aK<|bK f.F=bK d.L:=ht.yr;have bl:0<=bK f.F/\bK f.F<=390000:=by rw[M.o];exact⟨Uf _,hu⟩
  have bo:IntKind.i64.wrap (bK f.F+(aa Y:Int))=bK f.F+(aa Y:Int):=Ì
  have Z:aK<|∀p∈f.F,aa p.2.1<=1000000:=λp hp=>(ht.tB p hp).c;refine(xvs C f _ (o.y b) ba Z.o).mono ?_;rintro e w8⟨rfl,rfl⟩;have c0:ae w8 (zq C 0)=ac (zi f.bS):=(o.y b).bO.i 0 rfl;by_cases hr:f.bS<bK f.F+(aa Y:Int);focus
   have HR:aK<|f.bS<bK d.L+(aa Y:Int):=by show _<_;rw[<-M.o];exact hr
   go_wp2;go_ret;exact HV _ _<|aF ⟨HR.o,rfl,Xf.nw o b⟩
  have HR:aK<|¬f.bS<bK d.L+(aa Y:Int):=by show¬_;rw[<-M.o];exact hr
  go_wp2;refine(xw5 C f d n Y _ (o.y b) ht À (by unfold jS;omega) Â).mono ?_;rintro e w9⟨rfl,v,F,a,k,j,U⟩;replace j:=(Xf.nw o b).aA j;clear c0 hr bo bl Z;cases g:(d.ic n Y).1;focus
   rw[g,Vo]at j U;have HB:=g;have x:=j;have K:=U;clear j U g;go_wp2;go_ret;exact HV _ _<|aE<|aF ⟨Int.not_lt.2 HR.o,HB,rfl,v,F,a,k,x,K⟩
  rw[g,CF]at j U;have HB:=g;have br:ae w9 (zq C 17)=ac (zi f.sg):=j.dS.bO.i 17 rfl;have g8:ae w9 (zq C 8)=ac (zi f.bA):=j.dS.bO.i 8 rfl;have bp:ae w9 (zq C 10)=ac (zs f.bJ):=j.dS.bO.i 10 rfl;have bq:ae w9 (zq C 15)=ac (zs f.dO):=j.dS.bO.i 15 rfl;have b1:=j.dS.bO.dG 17;have k8:=j.dS.bO.dG 8;have bz:=j.dS.bO.dG 10;have b0:=j.dS.bO.dG 15;have x:=j;have K:=U;clear j U g;go_wp2;go_ret;have t:=K;exact HV _ _<|aE<|aE ⟨Int.not_lt.2 HR.o,HB,rfl,v,F,a,k,x.aA<|Xf.Au x.dS n T,⟨t.bS,t.gF,t.gL,t.nA,t.nk,t.fV,t.nx,t.cE,t.jN⟩⟩
def xe6(C:Nat)(f:Rf)(kind plain:Zl)(ep:Nat)(w:Zy)(h:Ju w C f)(a:(f.bA:Int)=f.my):aG prog 132 #[zo C,zs kind,zi ep,zs plain] w λe w'=>e=ah (zi 10)/\Xf C f w f w':=by have b:=h;have c8:ae w (zq C 8)=ac (zi f.bA):=h.bO.i 8 rfl;have c:ae w (zq C 2)=ac (zi f.my):=h.bO.i 2 rfl;rw[<-a]at c;go_enter func132.1,Tryz.ntmps132;go_wp2;go_quiet (fail);go_wp2;go_ret;exact⟨rfl,Xf.nw b (zj.refl _ _).eg⟩
end
def xjy(c s q):se c s q=ui (cK c) (cV c) s q:=by grind [se,ui]
def xj0(l c):vr l c=zX l (cK c) (cV c) (cG c):=by
 have e:rh l c=Bw l (cK c) (cV c) (cG c):=by unfold rh Bw;rw[show se c=ui (cK c) (cV c)from funext λs=>funext λq=>xjy c s q]
 grind [vr,zX]
def xqd{L}(h:Nd L)(c):fR (lE L c)=vr (fR L) c:=by rw[xj0];cases c with|put k v=>exact xvc h k v|del k=>exact xvb h k []
theorem Pq(D):∀{L:KV},Nd L->fR (fE L D)=rf (fR L) D:=by induction D with|nil=>intro L _;rfl|cons c D ih=>intro L h;show fR (fE (lE L c) D)=rf (vr (fR L) c) D;rw[ih<|h.lE c,xqd h]
section
attribute [local go_sem] zn zg zO te
def LV(b:Bool)(sv:Zv)(k:Lk)(last:Int)(torn:Bool)(good recs:Int):Za:=#[aX b,sv,aH aU (k.ep:Int),aH aU (k.bA:Int),aj<|st k.dO,aj<|st k.eS,aH aU k.bE,aH aU k.eJ,aH aU k.fQ,aH aU last,aX torn,aH aU good,aH aU recs]
def mA(b:Bool):Za:=#[aX b,az ar 0 0,aH aU 0,aH aU 0,aj ⟨#[]⟩,aj ⟨#[]⟩,aH aU 0,aH aU 0,aH aU 0,aH aU 0,aX ao,aH aU 0,aH aU 0]
def Ci(w0:Zy)(o:Option<|Lk×KV)(last:Int)(torn:Bool)(good recs:Int)(w:Zy)(e:kU)(w':Zy):Prop:=match o with
 |some (k,L)=>∃v,e=ah (bM<|LV ao v k last torn good recs)/\Nw w w'/\eD w0 w' 157 2 jT v (fR L)
 |none=>e=ah (bM<|mA aw)/\Nw w w'
structure pd(f:Rf)(k:Lk)(L:KV):Prop where
 m:k.m=f.m
 ml:aa f.m=32
 ep:k.ep<=5
 bA:k.bA<4294967296
 dO:aa k.dO=32
 nd:Nd L
 gp:aa L<=6000+20*k.bA
 ks:∀x∈L.map (·.1),aa x<=16
def Ů{k L b}(a:b.take 1=[82]):Jv k L b=if qi ((b.drop 4).take 4)=k.bA+1/\qi ((b.drop 1).take 1)=k.ep then oH k L aw (k.bA+1) (b.take 10) ((b.drop 10).take<|ii b) ((b.drop<|10+ii b).take 32)else ar:=by grind [Jv,rZ]
def ŭ{k L b}(a:b.take 1=[75])(c:10+ii b<=aa b):Jv k L b=if qi ((b.drop 4).take 4)=k.bA+1/\qi ((b.drop 1).take 1)=k.ep+1/\k.ep+1<=5/\ii b=0 then oH {k with ep:=k.ep+1} L ao (k.bA+1) (b.take 10) ((b.drop 10).take<|ii b) ((b.drop<|10+ii b).take 32)else ar:=by
 have d:(b.drop 10).take (ii b)=[]↔ii b=0:=by rw[<-List.length_eq_zero_iff,xf,Zn];omega
 unfold Jv rZ;grind
def Ū{k L b}(a:b.take 1≠[82])(c:b.take 1≠[75]):Jv k L b=ar:=by grind [Jv,rZ]
def xsf{l r c}(h:mI l=ac (c,r)):aa l<=aa r+51/\aa (cK c)<=16:=by
 match l with
 |[]=>cases h
 |[a]=>simp[mI,Wy]at h
 |a::c'::l=>
  by_cases b:a=80;subst b
  match l with
  |[]=>simp[mI,Wy]at h|d::l=>grind [Ų,cK]
  grind [mI,cK]
def ū:∀(n:Nat) (l:Zl) (D:List Vk),ln n l=ac D->aa l<=51*aa D/\∀c∈D,aa (cK c)<=16
 |n,[],D,h=>by grind [ln]|0,a::l,D,h=>Ê
 |n+1,a::l,D,h=>by simp only[ln]at h;cases hc:mI (a::l)with|none=>grind|some q=>obtain⟨c,r⟩:=q;rw[hc]at h;obtain⟨E,b,rfl⟩:=zv.1 h;have d:=ū n r E b;have e:=xsf hc;grind
theorem Pl{l D}(h:Wl l=ac D):aa l<=1020/\aa D<=20/\∀c∈D,aa (cK c)<=16:=by unfold Wl at h;split at h;split at h;rename_i h1 h2;cases h;have:=ū _ _ _ h1;grind;grind;grind
def xum{k L r cnt a body tag}(b:aa k.dO=32)(c:aa a=10)(d:r=ao->aa body<=1020):oH k L r cnt a body tag=if tag=Wu (Y7 k.m k.ep) (k.dO++a++body)then(if r then(Wl<|me (Ji k.m k.ep) (a.take 8) body).map λD=>({k with bA:=cnt,eS:=k.dO,dO:=tag},fE L D)else ac ({k with bA:=cnt,eS:=k.dO,dO:=tag},L))else ar:=by grind [oH,Wl,Pl,ye]
structure qS(w v:Zy)(cs:Za):Prop where
 l:xh v (ak w.heap) cs 207
 z:xh v (ak w.heap+1) (mA ao) 207
 b:xh v (ak w.heap+1+1) (mA aw) 207
 n:Nw w v
def qS.gl{w v v' cs}(h:qS w v cs)(a:Nw v v'):qS w v' cs:=⟨h.l.y a id,h.z.y a id,h.b.y a id,h.n.aA a⟩
abbrev yI(x:Zy)(r:Nat)(b0 b1 b2 b3 b4 b5 b6 b7 b8 b9 b10 b11 b12:Zv):Zy:=ai (ai (ai (ai (ai (ai (ai (ai (ai (ai (ai (ai (ai x (zq r 0) b0) (zq r 1) b1) (zq r 2) b2) (zq r 3) b3) (zq r 4) b4) (zq r 5) b5) (zq r 6) b6) (zq r 7) b7) (zq r 8) b8) (zq r 9) b9) (zq r 10) b10) (zq r 11) b11) (zq r 12) b12
def xh.vP{x r}{t:Zt}{a0 d e f g i j l m n a b c b0 b1 b2 b3 b4 b5 b6 b7 b8 b9 b10 b11 b12}(h:xh x r #[a0,d,e,f,g,i,j,l,m,n,a,b,c] t):xh (yI x r b0 b1 b2 b3 b4 b5 b6 b7 b8 b9 b10 b11 b12) r #[b0,b1,b2,b3,b4,b5,b6,b7,b8,b9,b10,b11,b12] t:=by have k:=(((((((((((((h.H 0 b0).H 1 b1).H 2 b2).H 3 b3).H 4 b4).H 5 b5).H 6 b6).H 7 b7).H 8 b8).H 9 b9).H 10 b10).H 11 b11).H 12 b12);simp_all
def xh.dJ{x r}{t:Zt}{a0 d e f g i j k l m a b c}(h:xh x r #[a0,d,e,f,g,i,j,k,l,m,a,b,c] t):ae x (zq r 0)=ac a0/\ae x (zq r 1)=ac d/\ae x (zq r 2)=ac e/\ae x (zq r 3)=ac f/\ae x (zq r 4)=ac g/\ae x (zq r 5)=ac i/\ae x (zq r 6)=ac j/\ae x (zq r 7)=ac k/\ae x (zq r 8)=ac l/\ae x (zq r 9)=ac m/\ae x (zq r 10)=ac a/\ae x (zq r 11)=ac b/\ae x (zq r 12)=ac c:=⟨h.i 0 rfl,h.i 1 rfl,h.i 2 rfl,h.i 3 rfl,h.i 4 rfl,h.i 5 rfl,h.i 6 rfl,h.i 7 rfl,h.i 8 rfl,h.i 9 rfl,h.i 10 rfl,h.i 11 rfl,h.i 12 rfl⟩
def xh.fN{x r}{t:Zt}{a0 d e f g i j k l m a b c}(h:xh x r #[a0,d,e,f,g,i,j,k,l,m,a,b,c] t):aQ x (zq r 0)=ao/\aQ x (zq r 1)=ao/\aQ x (zq r 2)=ao/\aQ x (zq r 3)=ao/\aQ x (zq r 4)=ao/\aQ x (zq r 5)=ao/\aQ x (zq r 6)=ao/\aQ x (zq r 7)=ao/\aQ x (zq r 8)=ao/\aQ x (zq r 9)=ao/\aQ x (zq r 10)=ao/\aQ x (zq r 11)=ao/\aQ x (zq r 12)=ao:=⟨h.dG 0,h.dG 1,h.dG 2,h.dG 3,h.dG 4,h.dG 5,h.dG 6,h.dG 7,h.dG 8,h.dG 9,h.dG 10,h.dG 11,h.dG 12⟩
def zj.JU(x){r b0 b1 b2 b3 b4 b5 b6 b7 b8 b9 b10 b11 b12}:zj (·=r) x<|yI x r b0 b1 b2 b3 b4 b5 b6 b7 b8 b9 b10 b11 b12:=by
 iterate 13 refine zj.aA ?_<|zj.H _ (zq r _) _
 exact zj.refl _ _
def rl{f R a x r q a0 l m o p s t w y z b c d b0 b1 b2 b3 b4 b5 b6 b7 b8 b9 b10 b11 b12}(h:xh x r #[a0,l,m,o,p,s,t,w,y,z,b,c,d] 207)(C:f.results=#[.cell q 207])(j:a.tmps.getD q aC=zo r)(hd:a.defers=[])(B:∀v,zj (·=r) x v->R (ah<|bM #[b0,b1,b2,b3,b4,b5,b6,b7,b8,b9,b10,b11,b12]) v):bodyPost prog f R .ret a<|yI x r b0 b1 b2 b3 b4 b5 b6 b7 b8 b9 b10 b11 b12:=by have k:=(xh.vP (b0:=b0) (b1:=b1) (b2:=b2) (b3:=b3) (b4:=b4) (b5:=b5) (b6:=b6) (b7:=b7) (b8:=b8) (b9:=b9) (b10:=b10) (b11:=b11) (b12:=b12) h).dJ;have n:zj (·=r) x<|yI x r b0 b1 b2 b3 b4 b5 b6 b7 b8 b9 b10 b11 b12:=zj.JU x;generalize(yI x r b0 b1 b2 b3 b4 b5 b6 b7 b8 b9 b10 b11 b12)=v at*;refine ji ?_ hd<|B v n;obtain⟨D,E,F,G,H,I,J,K,L,M,e,g,i⟩:=k;rw[Jj]at j;simp[dX,C,j,go_sem,D,E,F,G,H,I,J,K,L,M,e,g,i]
def xud(l)(c:aa l<=100000)(w):aG prog 276 #[zs l] w λe w'=>∃v bo,e=ah (bU #[v,aX bo])/\Nw w w'/\(∀D,Wl l=ac D->bo=aw/\eD w w' 147 3 rI v D)/\(Wl l=ar->bo=ao):=by refine(xue l c w).mono λe w' h=>?_;unfold ur at h;cases hc:Wl l with|none=>grind|some D=>rw[hc]at h;obtain⟨v,a,b⟩:=h;exact⟨v,aw,a,b.nw,λ_ e=>Â,λe=>Ç⟩
def zj.rN(x){r i j l m a b c d}:zj (·=r) x<|ai (ai (ai (ai x (zq r i) a) (zq r j) b) (zq r l) c) (zq r m) d:=(((zj.H x (zq r i) a).aA<|zj.H _ (zq r j) b).aA<|zj.H _ (zq r l) c).aA<|zj.H _ (zq r m) d
def eD.y{α:Type}{w0 w w' e k f v}{l:List α}{S}(h:eD w0 w e k f v l)(i:zj S w w')(n:∀g,v.ownBlock=ac g->¬S g)(m:Nw w0 w'):eD w0 w' e k f v l:=by refine⟨m,⟨h.cO.1, ?_⟩,h.nl⟩;obtain e|⟨g,a,b,d,j,c,r⟩:=h.cO.2;grind;exact aE ⟨g,a,b,d,j,(i.dB g (za.1 c).1<|n g Ŕ).trans c,r⟩
structure FV(w0 w wr:Zy)(k:Lk)(L:KV)(D:List Vk)(v s:Zv)(last:Int)(torn:Bool)(good recs:Int)(j:Nat):Prop where
 g3:qS w wr<|LV ao s k last torn good recs
 IA:Rw wr 147 3 rI v D
 st:eD w0 wr 157 2 jT s<|rf (fR L)<|D.take j
theorem FV.dQ{w0 w i w' d k L D v s s' last torn a recs j}(h:FV w0 w i k L D v s last torn a recs j)(e:Nw w0 w)(m:j<aa D)(hw:Nw i w')(ho:eD w' d 157 2 jT s'<|vr (rf (fR L)<|D.take j) D[j]):FV w0 w (ai d (zq (ak w.heap) 1) s') k L D v s' last torn a recs<|j+1:=by
 have c:=h.g3.gl<|hw.aA ho.nw;have b:=zj.H d (zq (ak w.heap) 1) s';have g:=h.IA.y (hw.aA ho.nw) λ_ _=>id;have f:eD w0 d 157 2 jT s'<|rf (fR L)<|D.take<|j+1:=by rw[zp m,rf,Gy];exact ho.bE<|(e.aA h.g3.n).aA hw
 refine⟨⟨c.l.H 1 s',c.z.y b Â,c.b.y b Â,c.n.cR (zd _) b⟩,g.y b<|g.gH c.l Ã,f.y b (f.rw.gH c.l Ã)<|e.aA<|c.n.cR (zd _) b⟩
def xee(C f k L sv last torn g recs b)(F:aa b=42+ii b)(w0 w)(h:Ju w C f)(hT:Yq w)(ho:pd f k L)(hO:eD w0 w 157 2 jT sv<|fR L):aG prog 246 #[zo C,bM<|LV ao sv k last torn g recs,zs b] w<|Ci w0 (Jv k L b) last torn g recs w:=by
 have HH:=xe h;have HT:=xe hT;have W:=xe ho;have HS:=xe hO;obtain⟨av,bc,rfl⟩:=hO.dC
 match b,F with
 |b0::b1::b2,F=>
 obtain⟨b,I⟩:∃b,b0::b1::b2=b:=⟨_,rfl⟩;have g0:∀h,(st b)[0]'h=b0:=by rw[<-I];exact λ_=>rfl
 have g1:∀h,(st b)[1]'h=b1:=by rw[<-I];exact λ_=>rfl
 have H1:aK<|b.take 1=[b0]/\qi ((b.drop 1).take 1)=aI b1:=by rw[<-I];exact⟨rfl,EP b1⟩
 rw[I]at F⊢;clear I;have ck:=b0.toNat_lt;have cl:=b1.toNat_lt;have H:aK<|List.drop 8 (dU 10 b)=(b.drop 8).take 2:=by show _=_;rw[Xb]
 have bj:aK<|List.drop 4 (dU 8 b)=(b.drop 4).take 4:=by show _=_;rw[Xb]
 have cp:=ML b;have N3:aK<|qS w (aB (aB (aB w<|aq (LV ao (az av (aa (fR L)) bc) k last torn g recs) 207)<|aq (mA ao) 207)<|aq (mA aw) 207)<|LV ao (az av (aa (fR L)) bc) k last torn g recs:=
  ⟨((xh.dT _ _ _).E _).E _,by have:=(xh.dT (aB w<|aq (LV ao (az av (aa (fR L)) bc) k last torn g recs) 207) (mA ao) 207).E<|aq (mA aw) 207;simp_all,by grind [xh.dT,xp],((zj.E _).aA<|zj.E _).aA<|zj.E _⟩
 unfold LV mA at N3;unfold LV;clear h hT ho hO;have i1:(10:Int)<=(aa b:Nat):=À
 have i2:(8:Int)<=(aa b:Nat):=À
 have i3:(1:Int)<(aa b:Nat):=À
 have i4:(0:Int)<(aa b:Nat):=À
 go_enter func246.1,Tryz.ntmps246;go_wp2;generalize(aB (aB (aB w<|aq _ 207)<|aq _ 207)<|aq _ 207)=w3 at*;rw[H.o];refine(EF _ Æ _).mono ?_;rintro e w4⟨rfl,rfl⟩;have HZ:aK<|qi ((b.drop 8).take 2)=ii b:=rfl;rw[HZ.o];generalize hz:ii b=z at*;clear H HZ;have bb:=xe F;have cm:=W.o.bA;have cn:=W.o.ep;have bi:IntKind.i64.wrap ((k.bA:Int)+1)=(k.bA:Int)+1:=Ì
 have ce:IntKind.i64.wrap ((k.ep:Int)+1)=(k.ep:Int)+1:=Ì
 have ba:aK<|∀w,aG prog 244 #[zs<|List.drop 4<|List.take 8 b] w λe p=>e=ah (zi (qi ((b.drop 4).take 4):Nat))/\p=w:=by rw[bj.o];exact λw=>EF _ Æ w
 have x:aK<|b0=82->Jv k L b=_:=λe=>Ů (k:=k) (L:=L)<|e▸H1.o.1;have t:aK<|b0=75->Jv k L b=_:=λe=>ŭ (k:=k) (L:=L) (e▸H1.o.1) À;rw[H1.o.2,hz]at x t;generalize qi ((b.drop 4).take 4)=cv at*;have hx:(b0≠82/\b0≠75)\/((b0=82\/b0=75)/\cv≠k.bA+1)\/((b0=82\/b0=75)/\cv=k.bA+1/\5<aI b1)\/(b0=82/\cv=k.bA+1/\aI b1<=5/\aI b1≠k.ep)\/(b0=75/\cv=k.bA+1/\aI b1<=5/\aI b1≠k.ep+1)\/(b0=75/\cv=k.bA+1/\aI b1<=5/\aI b1=k.ep+1/\0<z)\/(b0=82/\cv=k.bA+1/\aI b1=k.ep)\/(b0=75/\cv=k.bA+1/\aI b1=k.ep+1/\k.ep+1<=5/\z=0):=by
  by_cases bu:b0=82;have:¬b0=75:=by rw[bu];decide
  simp only[bu,true_and,true_or,ne_eq,not_true,false_and,false_or];omega;by_cases ca:b0=75;simp only[ca,true_and,or_true,ne_eq,not_true,and_false,false_or];rw[show((75:Z8)=82)=False by decide];simp only[false_and,or_false,false_or];omega;simp_all
 obtain⟨d,q⟩|⟨d,q⟩|⟨d,q,B⟩|⟨d,q,B,h4⟩|⟨d,q,B,h4⟩|⟨d,q,B,h4,h5⟩|hx:=hx
 case' inl=>
  have V:aK<|Jv k L b=ar:=Ū (by rw[H1.o.1];simp_all) (by rw[H1.o.1];simp_all);have n1:¬(aI b0:Int)=82:=λe=>d (D9.1<|by show aI b0=82;omega);have n2:¬(aI b0:Int)=75:=λe=>q (D9.1<|by show aI b0=75;omega);have p1:((aI b0:Int) != 82)=aw:=by simpa using n1
  have p2:((aI b0:Int)==75)=ao:=by simpa using n2
 case' inr.inl=>
  have V:aK<|Jv k L b=ar:=by obtain rfl|rfl:=d;exact(x.o rfl).trans (if_neg À);exact(t.o rfl).trans<|if_neg À
  have n1:¬(cv:Int)=(k.bA:Int)+1:=À
  have p1:((cv:Int) != (k.bA:Int)+1)=aw:=by simpa using n1
  obtain rfl|rfl:=d
 case' inr.inr.inl=>
  have V:aK<|Jv k L b=ar:=by obtain rfl|rfl:=d;exact(x.o rfl).trans (if_neg À);exact(t.o rfl).trans<|if_neg À
  have n1:(cv:Int)=(k.bA:Int)+1:=À
  have n2:(5:Int)<(aI b1:Nat):=À
  obtain rfl|rfl:=d
 case' inr.inr.inr.inl=>
  subst d;have V:aK<|Jv k L b=ar:=(x.o rfl).trans (if_neg À);have n1:(cv:Int)=(k.bA:Int)+1:=À
  have n2:¬(5:Int)<(aI b1:Nat):=À
  have n3:¬(aI b1:Int)=(k.ep:Int):=À
  have p3:((aI b1:Int) != (k.ep:Int))=aw:=by simpa using n3
 case' inr.inr.inr.inr.inl=>
  subst d;have V:aK<|Jv k L b=ar:=(t.o rfl).trans (if_neg À);have n1:(cv:Int)=(k.bA:Int)+1:=À
  have n2:¬(5:Int)<(aI b1:Nat):=À
  have n3:¬(aI b1:Int)=(k.ep:Int)+1:=À
  have p3:((aI b1:Int) != (k.ep:Int)+1)=aw:=by simpa using n3
 case' inr.inr.inr.inr.inr.inl=>
  subst d;have V:aK<|Jv k L b=ar:=(t.o rfl).trans (if_neg À);have n1:(cv:Int)=(k.bA:Int)+1:=À
  have n2:¬(5:Int)<(aI b1:Nat):=À
  have n3:(aI b1:Int)=(k.ep:Int)+1:=À
  have n4:(0:Int)<(z:Int):=À
 case inr.inr.inr.inr.inr.inr=>
  obtain⟨kk,r,bw,bz,bh,be,bf,bv,bd⟩:∃(kk:Lk) (r:Bool),aK (Jv k L b=oH kk L r (k.bA+1) (b.take 10) ((b.drop 10).take z) ((b.drop<|10+z).take 32))/\(r=ao->z=0)/\aK (b0=if r then 82 else 75)/\aK (kk.ep=aI b1/\aI b1=if r then k.ep else k.ep+1)/\aK (kk={k with ep:=aI b1})/\aK (cv=k.bA+1)/\aI b1<=5:=by obtain⟨d,q,B⟩|⟨d,q,B,h4,h5⟩:=hx;exact⟨k,aw,(x.o d).trans<|if_pos ⟨q,B⟩,Ä,d,⟨B.symm,B⟩,Ë,q,À⟩;exact⟨{k with ep:=k.ep+1},ao,(t.o d).trans<|if_pos ⟨q,B,h4,h5⟩,λ_=>h5,d,⟨B.symm,B⟩,Ë,q,À⟩
  clear hx x t;have bs:aK<|(b.drop<|10+z).take 32=b.drop (10+z):=by show _=_;exact qp<|by rw[Zn];omega
  have bk:aK<|List.drop 10 (dU (10+z) b)=(b.drop 10).take z:=by show _=_;rw[Xb,Gt]
  have ci:aa ((b.drop 10).take z)=z:=by rw[xf,Zn];omega
  have cb:aa (b.take 10)=10:=Ă
  have c:aK<|Jv k L b=if b.drop (10+z)=Wu (Y7 f.m (aI b1)) (k.dO++b.take 10++(b.drop 10).take z)then(if r then(Wl<|me (Ji f.m (aI b1)) ((b.take 10).take 8)<|(b.drop 10).take z).map λD=>({k with ep:=aI b1,bA:=k.bA+1,eS:=k.dO,dO:=b.drop<|10+z},fE L D)else ac ({k with ep:=aI b1,bA:=k.bA+1,eS:=k.dO,dO:=b.drop<|10+z},L))else ar:=by show _=_;rw[bw.o,bs.o,xum (by rw[bf.o];exact W.o.dO) cb (λe=>Ë),bf.o];simp only[W.o.m]
  have n1:(cv:Int)=(k.bA:Int)+1:=by have:=bv.o;omega
  have ch:aK<|aI b1<=5:=bd;have n2:¬(5:Int)<(aI b1:Nat):=by have:=bd;omega
  have c0:=N3.o.l.dJ;clear hz F bw bf bv bd;have i5:(10:Int)+(z:Int)<=(aa b:Nat):=ŋ
  have i6:(0:Int)<=10+(z:Int):=À
  have i7:(10:Int)<=10+(z:Int):=À
  cases r
  case' false=>
   have co:¬(0:Int)<(z:Int):=by have:=bz rfl;omega
   obtain rfl:b0=75:=bh.o;have n3:((aI b1:Int) != (k.ep:Int)+1)=ao:=by have:=be.o.2;simp only[ja,if_false]at this;simp;omega
  case' true=>obtain rfl:b0=82:=bh.o;have n3:((aI b1:Int) != (k.ep:Int))=ao:=by have:=be.o.2;simp only[if_true]at this;simp;omega
  all_goals
   clear bz bh be;go_wp2;go_quiet (exact oz<|ba.o _);have G:=xe<|N3.o.gl (zj.refl _ _).eg (v':=w4.drewN nq);generalize w4.drewN nq=w5 at*;have c4:=G.o.l.dJ;clear c0;go_wp2;have b8:aK<|aa (b.drop<|10+z)=32:=by show _=_;rw[Zn];have:=bb.o;omega
   rw[bk.o];clear c4 n1 n2 n3 ba bj g0 g1 bi ce bs bk bb;have b5:aK<|List.take 8 (b.take 10)=b.take 8:=by show _=_;rw[List.take_take];rfl
   generalize(b.drop 10).take z=Bd at*;have E:aK<|∀p,Nw w5 p->ae p (zq (ak w.heap) 4)=ac (zs k.dO):=λp U=>(G.o.gl U).l.i 4 rfl;have S0:=E.o _<|zj.refl _ _;have a:aK<|Nw w5 w5.drew:=(zj.refl _ _).U;have cg:=W.o.dO;have HM:=xe W.o.ml;have br:aK<|aa (Y7 f.m (aI b1))=32:=EV _ _;have m1:¬9223372036854775807<42+aa Bd:=À
   have m2:¬9223372036854775807<42:=Ã
   have m3:¬9223372036854775807<42+z:=À
   have X:aK<|Nw w w5:=G.o.n;go_region_held3 (λp=>ae p (zq (ak w.heap) 4)=ac (zs k.dO)) (first|exact S0|exact S)
    (first
     |(go_at_call 143;refine(NT C f (aI b1) _ (HH.o.y<|X.o.aA a.o) (HT.o.nw<|X.o.aA a.o) HM.o).mono ?_;rintro e w6⟨rfl,F⟩;replace a:=xe<|a.o.aA<|zj.Q F;have S:=E.o _ a.o)
     |(go_at_call 142;refine(EG _ _ (by rw[br.o];decide) Æ _<|HT.o.nw<|X.o.aA a.o).mono ?_;rintro e w6⟨rfl,F⟩;replace a:=xe<|a.o.aA<|zj.Q F;have S:=E.o _ a.o))
   clear S0 S;try clear hHeld
   have y:=xe<|G.o.gl a.o;clear E G a X br;rw[jq]at c;obtain⟨T,hT⟩:∃T,Wu (Y7 f.m (aI b1)) (k.dO++(b.take 10++Bd))=T:=⟨_,rfl⟩;rw[hT]at c⊢;clear hT;have b3:((st T).toList==(st<|b.drop<|10+z).toList)=bI (b.drop (10+z)=T):=by rw[xl,xl,Bool.beq_comm];by_cases h:b.drop (10+z)=T<;>simp[h]
   by_cases Y:b.drop (10+z)=T
   case neg=>
    have V:aK<|Jv k L b=ar:=by show _=_;rw[c.o,if_neg Y]
    rw[jo Y]at b3;clear Y;have c1:=y.o.b.dJ;have c2:=y.o.z.dJ;have c3:=y.o.z.fN;go_wp2;refine rl y.o.z rfl rfl rfl λv O=>?_;unfold Ci;rw[V.o];exact⟨rfl,y.o.n.cR À O⟩
   rw[jm Y]at b3;have b9:=xe Y;replace c:=xe<|c.o.trans<|if_pos Y;rw[Y]at c;clear Y;have cj:aa T<=32:=by rw[<-b9.o,b8.o];decide
  rotate_left
  ·replace c:=xe (c.o.trans<|if_neg Ã);have c2:=y.o.z.dJ;have c3:=y.o.z.fN;have c4:=y.o.l.dJ;have c5:=y.o.l.fN;have bi:IntKind.i64.wrap ((k.bA:Int)+1)=(k.bA:Int)+1:=by rw[zh];omega
   go_wp2;refine rl (y.o.z.y (zj.rN w6) Ä) rfl rfl rfl λv O=>?_;unfold Ci;rw[c.o];have nv:Nw w v:=(y.o.n.cR (zd _)<|zj.rN w6).cR À O;exact⟨_,rfl,nv,HS.o.gl nv⟩
  have E:aK<|∀p,Nw w6 p->ae p (zq (ak w.heap) 4)=ac (zs k.dO):=λp U=>(y.o.gl U).l.i 4 rfl;have S0:=E.o _<|zj.refl _ _;have a:aK<|Nw w6 w6.drew:=(zj.refl _ _).U;have X:=xe y.o.n;have bl:aK<|aa (Ji f.m (aI b1))=16:=EU _ _;have H:aK<|aa (b.take 8)=8:=by show _=_;rw[xf];omega
  rw[b5.o]at c;have bq:=xe<|ye (Ji f.m (aI b1)) (b.take 8) Bd;have bn:aK<|∀w,aG prog 276 #[zs<|me (Ji f.m (aI b1)) (b.take 8) Bd] w λe p=>∃v bo,e=ah (bU #[v,aX bo])/\Nw w p/\_:=λw=>xud _ (by rw[bq.o];omega) w;go_wp2;go_region_held3 (λp=>ae p (zq (ak w.heap) 4)=ac (zs k.dO)) (first|exact S0|exact S)
   (first
    |(go_at_call 198;refine(NS C f (aI b1) _ (HH.o.y<|X.o.aA a.o) (HT.o.nw<|X.o.aA a.o) HM.o).mono ?_;rintro e w7⟨rfl,F⟩;replace a:=xe<|a.o.aA<|zj.Q F;have S:=E.o _ a.o)
    |(go_at_call 197;refine(NP _ _ Bd bl.o H.o À _).mono ?_;rintro e w7⟨rfl,F⟩;replace a:=xe<|a.o.aA<|zj.Q F;have S:=E.o _ a.o)
    |(go_at_call 276;refine(bn.o _).mono ?_;rintro e w8⟨v,bo,rfl,hn,d⟩;have HP:=xe d;clear d;have b4:=xe a.o;replace a:=xe<|a.o.aA hn;have S:=E.o _ a.o))
  clear S0 S;try clear hHeld
  have N8:=xe<|y.o.gl a.o;have bp:=xe<|(HS.o.gl X.o).gl a.o;obtain⟨o,bg⟩:∃o,Wl (me (Ji f.m (aI b1)) (b.take 8) Bd)=o:=⟨_,rfl⟩;rw[bg]at c HP;clear E bn bq H bl b4 y HH HT;cases o with
  |none=>
   obtain rfl:=HP.o.2 rfl;have c1:=N8.o.b.dJ;have c2:=N8.o.z.dJ;have c3:=N8.o.z.fN;go_wp2;refine rl N8.o.z rfl rfl rfl λv O=>?_;unfold Ci;rw[c.o];exact⟨rfl,N8.o.n.cR À O⟩
  |some D=>
   obtain⟨rfl,K⟩:=HP.o.1 D rfl;have bm:=xe (Pl bg).2.1;clear bg;obtain⟨a8,bt,rfl⟩:=K.dC;have HI:aK<|FV w0 w w8 k L D _ _ last torn g recs 0:=⟨N8.o,K.rw,bp.o⟩;clear K HP bp N8;go_wp2;go_loopw [15] (λi wr=>∃(j:Nat) (s:Zv),j<=aa D/\i=zi j/\FV w0 w wr k L D (az a8 (aa D) bt) s last torn g recs j) (λi _=>bB (aa D-bP i))
   case atStart=>exact⟨0,_,À,rfl,HI.o⟩
   case round=>
    obtain⟨j,s,hj,rfl,hi⟩:=hrel;have M:=xe hi;clear hi HI;have Z:=xe HS.o.nw;have cf:=bm.o;by_cases bx:j<aa D
    ·have i8:(j:Int)<(aa D:Nat):=by omega
     have i9:(0:Int)<=(j:Int):=À
     obtain⟨ag,rfl,hq⟩:=M.o.IA.kq (λ_=>rfl) bx rfl;have E:aK<|∀p,Nw wr p->ae p (zq (ak w.heap) 1)=ac s/\ae p (zq ag<|j*3)=ac (aX<|cG D[j])/\ae p (zq ag<|j*3+1)=ac (zs<|cK D[j])/\ae p (zq ag<|j*3+2)=ac (zs<|cV D[j])/\aQ p (zq (ak w.heap) 1)=ao:=λp U=>⟨(M.o.g3.gl U).l.i 1 rfl,U.i id<|hq 0 À,U.i id<|hq 1 À,U.i id<|hq 2 À,(M.o.g3.gl U).l.dG 1⟩;have S0:=E.o _<|zj.refl _ _;have S:=E.o _ (zj.refl _ _).U;have b6:aK<|aa (rf (fR L)<|D.take j)<=300000000000:=by
      have d:=MT (D.take j)<|fR L;have q:aa (fR L)=aa L:=by rw[<-jl (f:=(·.1)),Nv,(Nq L).length_eq,jl]
      have B:=W.o.gp;have h4:=List.length_take_le j D;have h5:=bm.o;show _<=_;omega
     clear hq;obtain⟨sa,sc,cd⟩:=M.o.st.dC;subst cd;go_wp2;go_region_with (go_at_call 127;refine(Ut (rf (fR L)<|D.take j) _ D[j] b6.o _<|by first|exact M.o.st.rw|exact(M.o.st.and (zj.refl _ _).drew).rw).mono ?_;rintro e w9⟨s9,rfl,J⟩;obtain⟨a9,c9,rfl⟩:=J.dC;have S9:=E.o w9 (by first|exact J.nw|exact((zj.refl _ _).U).aA J.nw);have b7:=xe J;clear J);all_goals
      have HN:=xe<|M.o.dQ Z.o bx ä b7.o;go_wp2;go_roundw
      case rel=>exact⟨j+1,_,À,Å,HN.o⟩
      grind [bP]
    obtain rfl:j=aa D:=À
    have i8:¬(aa D:Int)<(aa D:Nat):=À
    have R:=xe M.o.g3;have Q:aK<|eD w0 wr 157 2 jT s<|fR<|fE L D:=by rw[Pq D W.o.nd];have:=M.o.st;rw[jz]at this;exact this
    clear M;obtain⟨a9,c9,cc⟩:=Q.o.dC;subst cc;have c2:=R.o.z.dJ;have c3:=R.o.z.fN;have c4:=R.o.l.dJ;have c5:=R.o.l.fN;have bi:IntKind.i64.wrap ((k.bA:Int)+1)=(k.bA:Int)+1:=Ì
    go_wp2;refine rl (R.o.z.y (zj.rN wr (r:=ak w.heap)) À) rfl rfl rfl λv O=>?_;unfold Ci;rw[c.o];have nw:Nw w v:=(R.o.n.cR (zd _)<|zj.rN wr).cR À O;exact⟨_,rfl,nw,(Q.o.y (zj.rN wr) (Q.o.rw.gH R.o.l Ã)<|Z.o.aA<|R.o.n.cR (zd _)<|zj.rN wr).y O (Q.o.rw.gH R.o.z Ã)<|Z.o.aA nw⟩
 all_goals
  have c0:=N3.o.l.dJ;clear hz F x t;first|clear d q B h4 h5|clear q B h4|clear q B|clear d q|clear q
  go_wp2;go_quiet (exact oz<|ba.o _);have G:=xe<|N3.o.gl (zj.refl _ _).eg (v':=w4.drewN nq);generalize w4.drewN nq=w5 at*;have c1:=G.o.b.dJ;have c2:=G.o.z.dJ;have c3:=G.o.z.fN;have c4:=G.o.l.dJ;go_wp2;refine rl G.o.z rfl rfl rfl λv O=>?_;unfold Ci;rw[V.o];exact⟨rfl,G.o.n.cR À O⟩
def xmi(L:KV)(k v:Zl):aa (gt L k v)<=aa L+1:=Ē
def xme(L:KV)(k:Zl):aa (iP L k)<=aa L:=by induction L with|nil=>simp[iP]|cons p L ih=>grind [iP]
def JV:∀(D:List Vk) (L:KV),aa (fE L D)<=aa L+aa D
 |[],L=>zd _
 |c::D,L=>by
  have a:=JV D<|lE L c;have b:aa (lE L c)<=aa L+1:=by cases c with|put k v=>exact xmi L k v|del k=>have:=xme L k;show(iP L k).length<=_;omega
  grind [fE]
def xkm{k:Lk}{L:KV}{l:Zl}(h:42+ii l<=aa l):ii (l.take<|42+ii l)=ii l/\Jv k L (l.take<|42+ii l)=Jv k L l:=by
 have a:ii (l.take<|42+ii l)=ii l:=by unfold ii;rw[Xb,List.take_take,CE À]
 refine⟨a, ?_⟩;unfold Jv;rw[a];simp only[Xb,List.take_take];grind
structure Kp(k k':Lk):Prop where
 m:k'.m=k.m
 aP:k'.aP=k.aP
 cE:k'.cE=k.cE
 cN:k'.cN=k.cN
 bE:k'.bE=k.bE
 eJ:k'.eJ=k.eJ
 fQ:k'.fQ=k.fQ
 tc:k'.tc=k.tc
 bJ:k'.bJ=k.bJ
def JX:∀(D:List Vk) {L:KV},(∀x∈L.map (·.1),aa x<=16)->(∀c∈D,aa (cK c)<=16)->∀x∈(fE L D).map (·.1),aa x<=16
 |[],L,h,_=>h
 |c::D,L,h,hD=>JX D (L:=lE L c) (λx b=>by
   have a:=hD c xu;cases c with
   |put k v=>exact(TA.1 b).elim (λe=>e▸a)<|h x
   |del k=>exact h x<|Tz b) λc a=>hD c<|jw _ a
theorem pd.dQ{f:Rf}{k k':Lk}{L L':KV}{l:Zl}(h:pd f k L)(x:42+ii l<=aa l)(d:Jv k L l=ac (k',L')):pd f k' L'/\Kp k k':=by
 have w:qi ((l.drop 4).take 4)<4294967296:=by have:=xV<|(l.drop 4).take 4;rw[show((l.drop 4).take 4).length=4 by grind]at this;omega
 have g:∀(i:Lk) (r:Bool),i.m=k.m->i.ep<=5->Kp k i->k.bA+1<4294967296->oH i L r (k.bA+1) (l.take 10) ((l.drop 10).take<|ii l) ((l.drop<|10+ii l).take 32)=ac (k',L')->pd f k' L'/\Kp k k':=by
  intro i r p q b s a;have e:=ET a;have v:∃D,L'=fE L D/\aa D<=20/\∀c∈D,aa (cK c)<=16:=by unfold oH at a;split at a;cases a;split at a;cases a;split at a;split at a;rename_i D o;cases a;exact⟨D,rfl,(Pl o).2⟩;grind;cases a;exact⟨[],rfl,Ä,Ä⟩
  obtain⟨D,rfl,o,t⟩:=v;subst e;have:=JV D L;have:=h.gp;exact⟨⟨p.trans h.m,h.ml,q,s,Â,h.nd.fE D,Â,JX D h.ks t⟩,⟨b.m,b.aP,b.cE,b.cN,b.bE,b.eJ,b.fQ,b.tc,b.bJ⟩⟩
 cases l with|nil=>grind|cons b0 l=>by_cases n:b0=82;subst n;rw[Ů Â]at d;split at d;rename_i hh;exact g k aw rfl h.ep ⟨rfl,rfl,rfl,rfl,rfl,rfl,rfl,rfl,rfl⟩ À d;grind;by_cases j:b0=75;subst j;rw[ŭ Â À]at d;split at d;rename_i hh;exact g {k with ep:=k.ep+1} ao rfl hh.2.2.1 ⟨rfl,rfl,rfl,rfl,rfl,rfl,rfl,rfl,rfl⟩ À d;grind;rw[Ū Â Â]at d;cases d
def qS.mk3(w:Zy)(cs:Za):qS w (aB (aB (aB w<|aq cs 207)<|aq (mA ao) 207)<|aq (mA aw) 207) cs:=
 ⟨((xh.dT _ _ _).E _).E _,by have:=(xh.dT (aB w<|aq cs 207) (mA ao) 207).E<|aq (mA aw) 207;simp_all,by grind [xh.dT,xp],((zj.E _).aA<|zj.E _).aA<|zj.E _⟩
theorem qS.H{w v:Zy}{cs:Za}(h:qS w v cs)(i:Nat)(u:Zv):qS w (ai v (zq (ak w.heap) i) u)<|ay cs i u:=⟨h.l.H i u,h.z.y (zj.H v (zq (ak w.heap) i) u) Â,h.b.y (zj.H v (zq (ak w.heap) i) u) Â,h.n.cR (zd _)<|zj.H v (zq (ak w.heap) i) u⟩
def zj.tY(x:Zy){r i j:Nat}{a b:Zv}:zj (·=r) x<|ai (ai x (zq r i) a) (zq r j) b:=(zj.H x (zq r i) a).aA<|zj.H _ (zq r j) b
def qS.pV{w v:Zy}{a0 e f g i j k m o p a c d b0 b1 b2 b3 b4 b5 b6 b7 b8 b9 b10 b11 b12:Zv}(h:qS w v #[a0,e,f,g,i,j,k,m,o,p,a,c,d]):qS w (yI v (ak w.heap) b0 b1 b2 b3 b4 b5 b6 b7 b8 b9 b10 b11 b12) #[b0,b1,b2,b3,b4,b5,b6,b7,b8,b9,b10,b11,b12]:=by have n:zj (·=ak w.heap) v<|yI v (ak w.heap) b0 b1 b2 b3 b4 b5 b6 b7 b8 b9 b10 b11 b12:=zj.JU v;exact⟨h.l.vP,h.z.y n À,h.b.y n À,h.n.cR (zd _) n⟩
def eD.pV{w0 w v:Zy}{b0 b1 b2 b3 b4 b5 b6 b7 b8 b9 b10 b11 b12 s:Zv}{cs:Za}{l:KV}(h:eD w0 v 157 2 jT s l)(g:qS w v cs)(a:Nw w0 w):eD w0 (yI v (ak w.heap) b0 b1 b2 b3 b4 b5 b6 b7 b8 b9 b10 b11 b12) 157 2 jT s l:=by have n:zj (·=ak w.heap) v<|yI v (ak w.heap) b0 b1 b2 b3 b4 b5 b6 b7 b8 b9 b10 b11 b12:=zj.JU v;exact h.y n (h.rw.gH g.l Ã)<|a.aA<|g.n.cR (zd _) n
theorem Pg:∃k:Lk,mA aw=LV aw (az ar 0 0) k 0 ao 0 0:=⟨⟨[],0,[],0,0,0,0,[],[],0,0,0,0,ao,0⟩,rfl⟩
def eD.tY{w0 w v:Zy}{i j:Nat}{a b s:Zv}{cs:Za}{l:KV}(h:eD w0 v 157 2 jT s l)(g:qS w v cs)(c:Nw w0 w):eD w0 (ai (ai v (zq (ak w.heap) i) a) (zq (ak w.heap) j) b) 157 2 jT s l:=h.y (zj.tY v) (h.rw.gH g.l Ã)<|c.aA<|g.n.cR (zd _)<|zj.tY v
def zj.p9(x:Zy){r i j l:Nat}{a b c:Zv}:zj (·=r) x<|ai (ai (ai x (zq r i) a) (zq r j) b) (zq r l) c:=(zj.tY x).aA<|zj.H _ (zq r l) c
def xed(C:Nat)(f:Rf)(k:Lk)(L:KV)(sv:Zv)(last:Int)(torn:Bool)(d recs:Int)(b:Zl)(o:aa b=42+ii b)(w0 w:Zy)(h:Ju w C f)(n:Yq w)(ho:pd f k L)(m:eD w0 w 157 2 jT sv<|fR L):aG prog 246 #[zo C,bM<|LV ao sv k last torn d recs,zs b] w λe w'=>∃(bd:Bool) (a:Option Addr) (i c:Nat) (kx:Lk) (l:Int) (t:Bool) (g r:Int),e=ah (bM<|LV bd (az a i c) kx l t g r)/\Nw w w'/\(∀k2 L2,Jv k L b=ac (k2,L2)->bd=ao/\kx=k2/\t=torn/\g=d/\r=recs/\eD w0 w' 157 2 jT (az a i c) (fR L2))/\(Jv k L b=ar->bd=aw):=by refine(xee C f k L sv last torn d recs b o w0 w h n ho m).mono λe w' h=>?_;unfold Ci at h;cases hr:Jv k L b with|none=>grind [Pg]|some q=>obtain⟨k2,L2⟩:=q;rw[hr]at h;obtain⟨v,p,s,j⟩:=h;obtain⟨a,c,rfl⟩:=j.dC;grind
def yH(w0:Zy)(o:Option<|Lk×KV)(n:Int)(w:Zy)(e:kU)(w':Zy):Prop:=Nw w w'/\match o with
 |some (k,L)=>∃v good recs,e=ah (bM<|LV ao v k n k.cE good recs)/\eD w0 w' 157 2 jT v (fR L)/\(k.cE=aw->(0<recs/\good=k.cN/\0<good)\/(recs=0/\k.cN=0))
 |none=>∃v k l t good recs,e=ah (bM<|LV aw v k l t good recs)/\∃a i j,v=az a i j
def yH.pc{w0 w w':Zy}{o:Option<|Lk×KV}{n:Int}(h:o=ar)(a:Nw w w'):yH w0 o n w (ah<|bM<|mA aw) w':=û
theorem Kp.aA{a b c:Lk}(h:Kp a b)(k:Kp b c):Kp a c:=⟨k.m.trans h.m,k.aP.trans h.aP,k.cE.trans h.cE,k.cN.trans h.cN,k.bE.trans h.bE,k.eJ.trans h.eJ,k.fQ.trans h.fQ,k.tc.trans h.tc,k.bJ.trans h.bJ⟩
def Nw.qG{a b c:Zy}(h:Nw a b)(k:Nw b c):Nw a c:=zj.aA h k
structure Ť(w0 w wr:Zy)(f:Rf)(k:Lk)(L:KV)(n:Nat)(x:Zl)(p j:Nat)(k':Lk)(L':KV)(s:Zv)(tn:Bool):Prop where
 g3:qS w wr<|LV ao s k' n tn 0 j
 ok:pd f k' L'
 kp:Kp k k'
 st:eD w0 wr 157 2 jT s<|fR L'
 go:lq k L (x.drop 9)=lq k' L' (x.drop p)
 lo:9<=p/\p<=aa x
 nj:9+42*j<=p
 j0:j=0->p=9
def xbd(C:Nat)(f:Rf)(k:Lk)(L:KV)(sv:Zv)(ls:Int)(tn:Bool)(gd rc:Int)(n:Nat)(lb:Bool)(hn:n<=9999)(bq:lb=bI ((n:Int)=k.aP))(hx:aa (jp f.F n)<=100000)(bs:jp f.F n≠[])(hk:k.cE=ao)(w0 w:Zy)(h:Ju w C f)(hF:aa f.F<=1000000)(hT:Yq w)(ho:pd f k L)(hO:eD w0 w 157 2 jT sv<|fR L):aG prog 194 #[zo C,bM<|LV ao sv k ls tn gd rc,zi n,aX lb] w<|yH w0 (lQ k L n<|jp f.F n) n w:=by
 have HH:=h;have HT:=hT;have HO:=ho;have HS:=hO;obtain⟨av,bg,rfl⟩:=hO.dC;have N3:aK<|qS w (aB (aB (aB w<|aq (LV ao (az av (aa (fR L)) bg) k ls tn gd rc) 207)<|aq (mA ao) 207)<|aq (mA aw) 207)<|LV ao (az av (aa (fR L)) bg) k ls tn gd rc:=qS.mk3 w _;unfold LV mA at N3;have HX:aK<|∀w,Ju w C f->aG prog 130 #[zo C,zi n] w λe S=>S=w/\e=ah (zs<|jp f.F n):=λw h=>Ir C f n w h hF;generalize jp f.F n=x at*;have HL:=xe bq;have HK:=xe hk;have bz:=xe bs;have b9:=HO.bA;clear h hT ho hO bq hk bs;unfold LV;go_enter func194.1,Tryz.ntmps194;go_wp2;generalize(aB (aB (aB w<|aq _ 207)<|aq _ 207)<|aq _ 207)=w3 at*;refine(HX.o _<|HH.y N3.o.n).mono ?_;rintro e w4⟨rfl,rfl⟩;have c0:=N3.o.l.dJ;have c1:=N3.o.l.fN;go_wp2;have N5:aK<|qS w (ai (ai (ai w4 (zq (ak w.heap) 9)<|zi n) (zq (ak w.heap) 11)<|zi 0) (zq (ak w.heap) 12)<|zi 0)<|LV ao (az av (aa (fR L)) bg) k n tn 0 0:=(((N3.o.H 9 _).H 11 _).H 12 _);generalize(ai (ai w4 (zq (ak w.heap) 9)<|zi n) (zq (ak w.heap) 11)<|zi 0).setCell (zq (ak w.heap) 12) (zi 0)=w5 at*;clear c0 c1 N3 HX;have HQ:aK<|∀S,Nw w5 S->ae S (zq (ak w.heap) 3)=ac (zi k.bA):=λS hw=>(N5.o.gl hw).l.i 3 rfl;have S0:=HQ.o _<|zj.refl _ _;have m:aK<|Nw w5 w5.drew:=(zj.refl _ _).U;have b6:IntKind.i64.wrap ((k.bA:Int)+1)=(k.bA:Int)+1:=Ì
 have l1:=Z2 n 4;have l2:=Z2 (k.bA+1) 4;have HE:aK<|({data:=#[83]}:ByteArray)++st (nb n 4)++st (nb (k.bA+1) 4)=st (83::(nb n 4++nb (k.bA+1) 4)):=by show _=_;rw[show({data:=#[83]}:ByteArray)=st [83]from rfl,zg,zg];simp
 go_region_held3 (λS=>ae S (zq (ak w.heap) 3)=ac (zi k.bA)) (first|exact S0|exact S1)
  (first
   |(go_at_call 140;refine(ť _ _ Ã _).mono ?_;rintro e w6⟨rfl,hb⟩;replace m:=xe<|m.o.aA<|zj.Q hb;have S1:=HQ.o _ m.o)
   |(go_at_call 140;refine(ub _ _ (k.bA+1) 4 À rfl Ã _).mono ?_;rintro e w6⟨rfl,hb⟩;replace m:=xe<|m.o.aA<|zj.Q hb;have S1:=HQ.o _ m.o))
 clear S0 S1 b6 l1 l2;try clear hHeld
 have D:=xe<|N5.o.gl m.o
 rename Zy=>w6
 rw[HE.o];have Q:=xe<|(HS.gl N5.o.n).gl m.o;obtain⟨hd,bh⟩:∃hd,83::(nb n 4++nb (k.bA+1) 4)=hd:=⟨_,rfl⟩;have bj:=xe bh;rw[bh];clear bh HE HQ N5 m;by_cases h9:9<=aa x
 case neg=>
  have i1:(aa x:Int)<9:=À
  have br:0<aa x:=by cases x;exact(bz.o rfl).elim;simp
  have V:aK<|lQ k L n x=if lb then ac ({k with cE:=aw,cN:=0},L)else ar:=by show _=_;rw[Ul h9,Vd,if_pos br,HL.o];by_cases hq:(n:Int)=k.aP;simp;simp
  have c0:=D.o.l.dJ;have c1:=D.o.l.fN;have c2:=D.o.z.dJ;have c3:=D.o.z.fN;clear h9;cases lb;all_goals
   go_wp2;refine rl (D.o.z.y (zj.tY w6 (r:=ak w.heap)) À) rfl rfl rfl λv T=>?_;unfold yH;rw[V.o];have nw:Nw w v:=(D.o.n.cR (zd _)<|zj.tY w6).cR À T;refine⟨nw, ?_⟩
  exact⟨_,k,_,_,_,_,rfl,_,_,_,rfl⟩;exact⟨_,_,_,rfl,(Q.o.y (zj.tY w6) (Q.o.rw.gH D.o.l Ã)<|HS.nw.aA<|D.o.n.cR (zd _)<|zj.tY w6).y T (Q.o.rw.gH D.o.z Ã)<|HS.nw.aA nw,λ_=>aE ⟨rfl,rfl⟩⟩
 have i1:¬(aa x:Int)<9:=À
 have i2:(9:Int)<=(aa x:Nat):=À
 have bi:((st<|x.take 9).toList==(st hd).toList)=bI (x.take 9=hd):=by rw[xl,xl];by_cases h:x.take 9=hd<;>simp[h]
 by_cases I:x.take 9=hd
 case neg=>have V:aK<|lQ k L n x=ar:=Uk h9 (by rw[bj.o];exact I);rw[jo I]at bi;clear I;have c1:=D.o.b.dJ;have c2:=D.o.z.dJ;have c3:=D.o.z.fN;go_wp2;refine rl D.o.z rfl rfl rfl λv T=>?_;exact yH.pc V.o<|D.o.n.cR À T
 have bf:=xe (Un (k:=k) (L:=L) (num:=n) h9<|by rw[bj.o];exact I);rw[jm I]at bi;have HI:aK<|Ť w0 w w6 f k L n x 9 0 k L _ tn:=⟨D.o,HO,⟨rfl,rfl,rfl,rfl,rfl,rfl,rfl,rfl,rfl⟩,Q.o,rfl,⟨zd _,h9⟩,À,λ_=>rfl⟩;clear I D Q h9;have H:=xe HS.nw;clear HS;go_wp2;clear bi i1 i2;go_loopw [12] (λi wr=>∃(p j:Nat) (J:Lk) (R:KV) (s:Zv),i=zi p/\Ť w0 w wr f k L n x p j J R s tn) (λi _=>bB (aa x-bP i))
 case atStart=>exact⟨9,0,k,L,_,rfl,HI.o⟩
 case round=>
  obtain⟨p,j,J,R,s,rfl,hi⟩:=hrel;have d:=xe hi;clear hi HI;obtain⟨cb,cc⟩:=d.o.lo;have M:=xe d.o.nj;have be:=xe d.o.j0;obtain⟨sa,sc,hs⟩:=d.o.st.dC;subst hs;have B:aK<|aa (x.drop p)=aa x-p:=Zn;have b3:aK<|List.drop (p+8) (dU (p+10) x)=((x.drop p).drop 8).take 2:=by show _=_;rw[Xb,zbd];congr 1;omega
  have b8:=ML<|x.drop p;have HV:aK<|∀w,aG prog 244 #[aj<|st<|List.drop (p+8)<|List.take (p+10) x] w λe S=>e=ah (zi (ii (x.drop p):Nat))/\S=w:=by rw[b3.o];exact λw=>EF _ Â w
  have U:=xe λh=>xkm (k:=J) (L:=R) (l:=x.drop p) h;have E:aK<|J5 (x.drop p)=bI (10<=aa (x.drop p)/\42+ii (x.drop p)<=aa (x.drop p)):=rfl;obtain⟨z,hz⟩:∃z,ii (x.drop p)=z:=⟨_,rfl⟩;have HZ:=xe hz;rw[hz]at b8 HV U E;clear hz;by_cases ba:p+10+z+32<=aa x
  case pos=>
   have i1:(p:Int)+10<=(aa x:Nat):=À
   have i2:(p:Int)+10+(z:Int)+32<=(aa x:Nat):=À
   have i3:(0:Int)<=(p:Int)+8:=À
   have i4:(0:Int)<=(p:Int):=À
   have i5:(p:Int)<=(p:Int)+10+(z:Int)+32:=À
   have i6:(p:Int)+8<=(p:Int)+10:=À
   have b1:aK<|List.drop p (dU (p+10+z+32) x)=(x.drop p).take (42+z):=by show _=_;rw[Xb];congr 1;omega
   obtain⟨bn,bo⟩:=U.o Â;have b2:aK<|aa ((x.drop p).take<|42+z)=42+ii ((x.drop p).take<|42+z):=by show _=_;rw[bn,xf,B.o];omega
   have bl:=xe bo;have bc:aK<|∀k2 Z,Jv J R (x.drop p)=ac (k2,Z)->lq k L (x.drop 9)=lq k2 Z (x.drop<|p+42+z)/\pd f k2 Z/\Kp k k2:=λk2 Z hr=>by have K:=d.o.ok.dQ (l:=x.drop p) (by rw[B.o,HZ.o];omega) hr;refine⟨?_,K.1,d.o.kp.aA K.2⟩;rw[d.o.go,Uc Ĳ hr,HZ.o,zbd,D']
   have bb:aK<|Jv J R (x.drop p)=ar->lQ k L n x=ar:=λhr=>by rw[bf.o,d.o.go,Ud Ĳ hr]
   generalize(x.drop p).take (42+z)=rb at*;clear U E bn bo ba B;have c0:=d.o.g3.l.dJ;have c1:=(d.o.g3.gl (zj.refl _ _).U (v':=wr.drew)).l.dJ;have HR:aK<|∀W,Nw wr W->aG prog 246 #[zo C,bM<|LV ao (az sa (aa (fR R)) sc) J n tn 0 j,zs rb] W λe S=>∃(bd:Bool) (a:Option Addr) (i c:Nat) (kx:Lk) (l:Int) (t:Bool) (g r:Int),e=ah (bM<|LV bd (az a i c) kx l t g r)/\Nw W S/\_:=λW hW=>xed C f J R _ n tn 0 j rb b2.o w0 W (HH.y<|d.o.g3.n.aA hW) (HT.nw<|d.o.g3.n.aA hW) d.o.ok<|d.o.st.gl hW;unfold LV at HR;go_wp2_with (go_at_call 244;refine(HV.o _).mono ?_;rintro e w7⟨rfl,rfl⟩);go_region_with (go_at_call 246;rw[b1.o];refine(HR.o _ ä).mono ?_;rintro e w8⟨bd,a8,i8,c8,kx,l8,t8,g8,r8,rfl,hn,hq⟩;have g9:=d.o.g3.gl<|Nw.qG ä hn;have s0:=g9.l.dJ;have s1:=g9.l.fN;have y:=xe g9;have O:=xe hq;clear hq g9);all_goals
    rw[bl.o]at O;obtain⟨o,bu⟩:∃o,Jv J R (x.drop p)=o:=⟨_,rfl⟩;rw[bu]at O bb bc;clear bu bl HR c0 c1;cases o with
    |none=>
     obtain rfl:=O.o.2 rfl;have V:=xe<|bb.o rfl;have d1:=y.o.b.dJ;have d2:=y.o.z.dJ;have d3:=y.o.z.fN;go_wp2;refine rl y.o.pV.z rfl rfl rfl λv T=>?_;exact yH.pc V.o<|y.o.pV.n.cR À T
    |some q=>
     obtain⟨k2,Z⟩:=q;obtain⟨rfl,rfl,rfl,rfl,rfl,bt⟩:=O.o.1 k2 Z rfl;have b0:=xe bt;obtain⟨q1,q2,q3⟩:=bc.o kx Z rfl;have bv:=xe q1;have bw:=xe q2;have bx:=xe q3;clear O bt q1 q2 q3 bc bb;have ca:(j:Int)<=100000:=ę
     go_wp2;go_roundw
     case rel=>exact⟨p+42+z,j+1,kx,Z,_,Å,⟨(y.o.pV.H 9 _).H 12 _,bw.o,bx.o,(b0.o.pV y.o H.o).tY y.o.pV H.o,bv.o,À,ę,À⟩⟩
     case measure=>simp[bP];omega
  case neg=>
   have bk:aK<|J5 (x.drop p)=ao:=by show _=_;rw[E.o];simp only[decide_eq_false_iff_not];rw[B.o];omega
   have V:aK<|lQ k L n x=Vd J R n (aa x) (if p=9 then 0 else p):=by show _=_;rw[bf.o,d.o.go,Ue bk.o];simp only[B.o];congr 1;by_cases h9:p=9;grind;grind
   have X:aK<|((p<aa x\/j=0)->lQ k L n x=if lb then ac ({J with cE:=aw,cN:=((if p=9 then 0 else p:Nat):Int)},R)else ar)/\(¬(p<aa x\/j=0)->lQ k L n x=ac (J,R)):=by have b5:=M.o;have b4:=be.o;refine⟨λh=>?_,λh=>?_⟩;rw[V.o,Vd,if_pos Â,HL.o,d.o.kp.aP];grind;rw[V.o,Vd,if_neg<|by rw[if_neg À];omega]
   have HW:aK<|((0:Int)<(j:Int)/\(p:Int)=((if p=9 then 0 else p:Nat):Int)/\(0:Int)<(p:Int))\/((j:Int)=0/\((if p=9 then 0 else p:Nat):Int)=0):=by have b5:=M.o;have b4:=be.o;by_cases h0:j=0;grind;exact aF ⟨À,Â,À⟩
   have bp:J.cE=ao:=d.o.kp.cE.trans HK.o;have bm:=xe bp;clear bf E B U V bk bp;have d0:=d.o.g3.l.dJ;have d1:=d.o.g3.l.fN;have d2:=d.o.g3.z.dJ;have d3:=d.o.g3.z.fN;have Y:=xe d.o.g3;have G:=xe d.o.st;have b7:(p<aa x/\(aa x:Int)<(p:Int)+10)\/(p<aa x/\(p:Int)+10<=(aa x:Nat)/\(aa x:Int)<(p:Int)+10+(z:Int)+32)\/(p=aa x/\j=0)\/(p=aa x/\0<j):=À
   clear ba d be M;obtain⟨K,h2⟩|⟨K,h2,h3⟩|⟨K,h2⟩|⟨K,h2⟩:=b7
   case' inl=>
    have HE:=xe<|X.o.1<|aF K;have i1:(p:Int)<(aa x:Nat):=À
    have i2:¬(p:Int)+10<=(aa x:Nat):=À
    clear K h2;cases lb
   case' inr.inl=>
    have HE:=xe<|X.o.1<|aF K;have i1:(p:Int)<(aa x:Nat):=À
    have i3:¬(p:Int)+10+(z:Int)+32<=(aa x:Nat):=À
    have i4:(0:Int)<=(p:Int)+8:=À
    have i6:(p:Int)+8<=(p:Int)+10:=À
    clear K h3;cases lb
   case' inr.inr.inl=>
    have HE:=xe<|X.o.1<|aE h2;have i1:¬(p:Int)<(aa x:Nat):=À
    have i2:¬(p:Int)+10<=(aa x:Nat):=À
    subst h2;clear K;cases lb
   case' inr.inr.inr=>
    have HE:=xe (X.o.2 À);have i1:¬(p:Int)<(aa x:Nat):=À
    have i2:¬(p:Int)+10<=(aa x:Nat):=À
    have i3:((j:Int)==0)=ao:=Æ
    have i4:¬(j:Int)=0:=À
    clear K h2
   all_goals
    go_wp2_with (go_at_call 244;refine(HV.o _).mono ?_;rintro e w7⟨rfl,rfl⟩);refine rl (Y.o.z.y (zj.p9 _ (r:=ak w.heap)) À) rfl rfl rfl λv T=>?_;unfold yH;rw[HE.o];have nw:Nw w v:=(Y.o.n.cR (zd _)<|zj.p9 _).cR À T;refine⟨nw, ?_⟩;first
     |exact⟨_,J,_,_,_,_,rfl,_,_,_,rfl⟩
     |exact⟨_,_,_,rfl,(G.o.y (zj.p9 _) (G.o.rw.gH Y.o.l Ã)<|H.o.aA<|Y.o.n.cR (zd _)<|zj.p9 _).y T (G.o.rw.gH Y.o.z Ã)<|H.o.aA nw,λ_=>HW.o⟩
     |exact⟨_,_,_,by rw[bm.o];rfl,(G.o.y (zj.p9 _) (G.o.rw.gH Y.o.l Ã)<|H.o.aA<|Y.o.n.cR (zd _)<|zj.p9 _).y T (G.o.rw.gH Y.o.z Ã)<|H.o.aA nw,λe=>(by rw[bm.o]at e;cases e)⟩
end
end P
end Go.Proofs.YtjnbhiamaabbgaaGreatDoor
