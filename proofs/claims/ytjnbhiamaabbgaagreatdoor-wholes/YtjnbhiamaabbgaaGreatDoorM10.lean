import Derived.Test.YtjnbhiamaabbgaaGreatDoorM7
import Derived.Test.YtjnbhiamaabbgaaGreatDoorM9
import Derived.Deep.Upon
set_option linter.all false
set_option maxRecDepth 100000
set_option maxHeartbeats 8000000
section
variable{P:Prop}
def zdn(h:P:=by have e:=c;simp[vY,yc,jD,Qf]at c;subst c;obtain⟨d,i,h⟩:=φ;refine oX.eO bX sq e O (λt f=>⟨t,f,ύ O z.s3.ev (g.nw<|z.nw.lQ t f) i h ε⟩)<|z.go (zj.refl _ _) Â O Â):P:=h
end
namespace Go.Proofs.YtjnbhiamaabbgaaGreatDoor
open Go renaming Act->mh,Calls->aK,Code->pB,Ending->kH,Frame->fZ,Func->kL,MapEntry->eF,Oper->eX,Program->cI,Value->eJ,World->dN,execOp->aR,heap_alloc_new->xn,resolve->o8,results->eR,stepG->bW,undef->Z
open Go.Act renaming eval->jV,put->ge
open Go.CallKind renaming early->eK,normal->dH,report->pR
open Go.Code renaming region->fG,seq->gU
open Go.Departure renaming mixedOrders->nf
open Go.Ending renaming outgrown->jQ,returned->ai
open Go.Exit renaming normal->eE,panic->pQ
open Go.Extern renaming find->oH,findNext->kV
open Go.Frame renaming enter->bI
open Go.FrameMode renaming panicking->fL
open Go.GStep renaming ended->ic,go->ij
open Go.Ground renaming data->fw
open Go.IntKind renaming i64->bB,wrap_i64->zh
open Go.Item renaming code->dE,inRegion->aS
open Go.Next renaming value->gp
open Go.Obj renaming cells->au
open Go.Operand renaming tmp->cP
open Go.Outcome renaming stuck->iP
open Go.Proofs renaming intOf->bZ
open Go.Proofs.Tryz renaming f36->ii,f67->jD,func106->oE,prog->az
open Go.Region renaming binds->fY,ready->aY,wanted->bP
open Go.Region.Mode renaming any->gH
open Go.Result renaming ok->dG
open Go.RowKit renaming Below->aP,Hid->H
open Go.Sem renaming runT_bind'->Yf,run_bind->zc9,run_pure->zda
open Go.Value renaming agg->bY,bool->bG,int->Q,map->fu,pointer->aU,slice->aB,string->ak
open Go.World renaming alloc->aF,cell?->N,setCell->M,setCells->eW,size_alloc->xp,heap->Z'
open Go.stepG renaming exec->aI
open _root_ renaming Array->bE,Bool->ez,Int->U,List->bA,Nat->aD,Option->dD,absurd->dC,congrArg->gv,if_neg->aL,if_pos->aT,rfl->O,trivial->bD
open _root_.Array renaming replicate->cL,setIfInBounds->aA,size->V,toList->eV
open _root_.Bool renaming false->ao,true->ay
open _root_.Decidable renaming decide->bR
open _root_.Int renaming toNat->bL
open _root_.List renaming length->T,length_append->zx,length_take->xf,range->iC,toArray->bH
open _root_.Nat renaming reduceAdd->jY,reduceSub->lh
open _root_.Option renaming none->aw,some->ac
open _root_.Or renaming inl->aJ,inr->Y
open _root_.Pure renaming pure->iu
namespace A
variable{z:bE eX}{X:ZP}{w x:Zy}{n d i:aD}{b:Za}{a:mh}{o:eX}{f q:FuncId}{j:Exit->mh->Zy->Prop}
open Tryq Go Go.Conc
section
variable[pn:Pn]
section
variable{k:bA Item}{R:bA aD}
namespace Odd160
structure Bs(F:Zf):Prop where
 fn:F.fn=160
 ke:F.kind≠ eK/\F.kind≠ pR
 de:F.defers=[]
 ro:F.roundOf=aw
 sz:20<=V F.tmps
def wY(X:ZP)(F:Zf)(w:Zy):Prop:=∃a c e f,F.tmps.getD 0 Z=aU (ac a)/\w.heap[a.block]?=ac (au c e f)/\a.off<V c/\¬X a.block
def At(X:ZP)(F:Zf)(w:Zy):aD->Prop
 |0=>F.todo=[dE<|gU EN cC]
 |1=>F.todo=[dE EN,dE cC]|2=>F.todo=[aS tL [0,1,2,3,4],dE cC]
 |3=>F.todo=[aS tL [1,2,3,4],dE cC]/\F.tmps.getD 2 Z=F.tmps.getD 0 Z|4=>F.todo=[aS tL [2,3,4],dE cC]/\F.tmps.getD 3 Z=F.tmps.getD 0 Z
 |5=>F.todo=[aS tL [3,4],dE cC]/\∃a,F.tmps.getD 0 Z=aU (ac a)/\F.tmps.getD 4 Z=aU (ac a)|6=>F.todo=[aS tL [4],dE cC]/\(EO (F.tmps.getD 5 Z)=ay->wY X F w)
 |7=>F.todo=[aS tL [],dE cC]/\wY X F w|8=>F.todo=[dE cC]/\wY X F w
 |9=>F.todo=[dE<|fG 1 V8 ao]/\wY X F w
 |10=>F.todo=[aS V8 [0,1,2,3,4,5,6,7]]/\wY X F w|11=>F.todo=[aS V8 [1,2,3,4,5,6,7]]/\wY X F w
 |12=>F.todo=[aS V8 [2,3,4,5,6,7]]/\wY X F w/\F.tmps.getD 8 Z=F.tmps.getD 0 Z|13=>F.todo=[aS V8 [3,4,5,6,7]]/\wY X F w/\F.tmps.getD 9 Z=F.tmps.getD 0 Z
 |14=>F.todo=[aS V8 [4,5,6,7]]/\wY X F w/\F.tmps.getD 10 Z=F.tmps.getD 0 Z|15=>F.todo=[aS V8 [5,6,7]]
 |16=>F.todo=[aS V8 [6,7]]|17=>F.todo=[aS V8 [7]]
 |18=>F.todo=[aS V8 []]|_=>False
def I(X:ZP)(F:Zf)(w:Zy):Prop:=Bs F/\((∃ch z r k,F.mode=fL ch/\F.todo=aS z r::k)\/(F.mode= .run/\∃n,At X F w n))
theorem At.re{F:Zf}(t:aD->Question->aD)(d:aD)(h:At X F w n):At X F (re w t d) n:=by
 match n,h with
 |0,h|1,h|2,h|3,h|4,h|5,h|6,h|7,h|8,h|9,h|10,h|11,h|12,h|13,h|14,h|15,h|16,h|17,h|18,h=>exact h
 |_+19,h=>exact h.elim
theorem Gl{j a}(h:d≠j):(aA b d a).getD j Z=b.getD j Z:=É
theorem ES{a}(h:d<V b):(aA b d a).getD d Z=a:=É
section
variable{X:aD->Prop}{F:fZ}{w:dN}
theorem Bs.put(h:Bs F)(d a k):Bs {F with tmps:=aA F.tmps d a,todo:=k}:=⟨h.fn,h.ke,h.de,h.ro,by simpa using h.sz⟩
def Bs.to(h:Bs F)(k):Bs {F with todo:=k}:=⟨h.fn,h.ke,h.de,h.ro,h.sz⟩
theorem wY.put(h:wY X F w)(t:d≠0)(a k):wY X {F with tmps:=aA F.tmps d a,todo:=k} w:=by have⟨q,c,e,f,p,y⟩:=h;exact⟨q,c,e,f,É,y⟩
def fin{op:Op}(b:F.todo=aS z (i::R)::k)(ho:z[i]?=ac o)(h:o.dst=ac d)(a:Zv):F.finish a={F with tmps:=aA F.tmps d a,todo:=aS z R::k}:=KM
def je2{op:Op}(b:F.todo=aS z (i::R)::k)(ho:z[i]?=ac o)(h:o.dst=aw)(a:Zv):F.finish a={F with todo:=aS z R::k}:=KM
theorem I.iM{r k}(h:Bs F)(a:F.todo=aS z r::k)(b x):I X (F.raise b) x:=by unfold Frame.raise;split;exact⟨⟨h.fn,h.ke,h.de,h.ro,h.sz⟩,aJ ⟨_,_,_,_,O,a⟩⟩;exact⟨⟨h.fn,h.ke,h.de,h.ro,h.sz⟩,aJ ⟨_,_,_,_,O,a⟩⟩
theorem sX{y}(h:o.guard=aw):bP o y=ay:=by simp[bP,h]
def Au(t:nz az dA X)(f:Sm az X w w)(b:Bs F)(g:F.mode= .run)(c:F.todo=aS z (i::R)::k){op:Op}(hop:vV z i op<|some d)(h:vy az op=ay)
  (j:∀o n x,o.op=op->(aR F.eval o).run (wf az dA) w=dG n x->∃a,n=gp a/\I X {F with tmps:=aA F.tmps d a,todo:=aS z R::k} x):Cr az dA X (I X) F w:=by
 have⟨o,p,u,s,m⟩:=hop;refine Ι t f c g p (sX m) b.ro b.ke.1 Á (λn x e=>?_) λy x _=>I.iM b c _ _;have⟨a,r,v⟩:=j o n x u e;exact⟨a,aJ r,aJ<|by rw[fin (op:=op) c p s];exact v⟩
def JF{s p n}(h:(do iu (gp<|<-s):Sem Next).run p w=dG n x):∃a,n=gp a/\s.run p w=dG a x:=by have⟨a,W,y,t⟩:=jr h;simp_all
def Sh{t y p n}(ho:o.op= .move y)(h:(aR t o).run p w=dG n x):n=gp (t y)/\x=w:=by unfold aR at h;simp_all
def Ψ{t y p n}(ho:o.op= .nilCheck y)(h:(aR t o).run p w=dG n x):n=gp (t y):=by
 unfold aR at h;rw[ho]at h;dsimp only at h;split at h;exact dC h<|Vg _ _ _ _ _;exact dC h<|Vg _ _ _ _ _;exact dC h<|Vg _ _ _ _ _;rename_i u first C s
 rw[s];split at h;exact dC h<|Vg _ _ _ _ _;have⟨p,W,v,m⟩:=jr h;have⟨y,l,g,r⟩:=jr m;split at r;simp_all;simp_all;simp_all;simp_all
end
end Odd160
namespace Odd160
section
variable{X:aD->Prop}{S:fZ}{w:dN}
def Sf(S:Zf)(j):S.eval (cP j)=S.tmps.getD j Z:=O
def JG(a:Bs S)(b:S.mode= .run)(h:∀p C u,bW p ay (Xh S C) u=ij (Xh {S with todo:=k} C) u #[])(c:At X {S with todo:=k} w n):Cr az dA X (I X) S w:=
 Sa h O (aJ ⟨a.to k,Y ⟨b,n,c⟩⟩)
def Ω(a:Bs S){k}(hk:∀I∈k,Vt az ay I):Jy az {S with todo:=k}:=
 ⟨λI b=>by simp[a.ro,Option.isNone_none];grind,λd h=>(by simp only[a.de]at h;cases h),a.ke,(by rw[show({S with todo:=k}:Zf).fn=160 from a.fn];simp)⟩
def Sg{a:Addr}{c}{e:Zt}{f}(g:Sm az X w w)(d:w.heap[a.block]?=ac (au c e f))(l:a.off<V c):¬X a.block:=λi=>by obtain⟨o,m,b,_,⟨h,_⟩|⟨j,k,h,_⟩⟩:=g.jH _ i;rw[d]at b;cases b;cases h;grind
def xsx(ho:o.op= .call {callee:= .value (.func 209),args:=#[cP 9],argTypes:=#[283]}):aR S.eval o=callFunc 209 #[S.eval<|cP 9]:=by
 have a:o8 S.eval {callee:= .value (.func 209),args:=#[cP 9],argTypes:=#[283]} o.type=iu {target:= .fn (.func 209) #[],args:=#[S.eval<|cP 9]}:=by simp[o8,Deferred.ofValue,Frame.eval]
 unfold aR;rw[ho];grind [invoke]
theorem BF(W:nz az dA X)(l:Sm az X w w)(g:Bs S)(i:S.mode= .run)(h:At X S w n):Cr az dA X (I X) S w:=by
 have sz:=g.sz
 match n,h with
 |0,h=>exact JG g i (λp m u=>by simp[bW,Xh,i,aI,show S.todo=[dE<|gU EN cC]from h]) (n:=1) O
 |1,h=>exact JG g i (λp m u=>by simp[bW,Xh,i,aI,show S.todo=[dE EN,dE cC]from h,EN,jdg];rfl) (n:=2) O
 |2,h=>
  refine Au W l g i h o00 O λo n x j e=>?_;obtain⟨rfl,rfl⟩:=Sh j e;exact⟨_,O,g.put _ _ _,Y ⟨i,3,O,by show(aA S.tmps 2 _).getD 2 Z=(aA S.tmps 2 _).getD 0 Z;rw[ES À,Gl À];rfl⟩⟩
 |3,⟨h,h2⟩=>
  refine Au W l g i h o01 O λo n x j e=>?_;obtain rfl:=Ψ j e;exact⟨_,O,g.put _ _ _,Y ⟨i,4,O,by show(aA S.tmps 3 _).getD 3 Z=(aA S.tmps 3 _).getD 0 Z;rw[ES À,Gl À];exact h2⟩⟩
 |4,⟨h,h2⟩=>
  refine Au W l g i h o02 O λo n x j e=>?_;unfold aR at e;rw[j]at e;obtain⟨a,rfl,r⟩:=JF e;obtain⟨rfl,b,z,rfl⟩:=zwh I' r;exact⟨_,O,g.put _ _ _,Y ⟨i,5,O,b,by
   show(aA S.tmps 4 _).getD 0 Z=_;rw[Gl À,<-h2];exact z,by
   grind [ES]⟩⟩
 |5,⟨h,a0,h2,h3⟩=>
  refine Au W l g i h o03 O λo n x j e=>?_;unfold aR at e;rw[j]at e;obtain⟨a,rfl,r⟩:=JF e;obtain⟨rfl,b,z,G⟩:=xdk I' r;rw[Sf,h3]at z;cases z;exact⟨_,O,g.put _ _ _,Y ⟨i,6,O,λA=>by have B:=A;rw[ES À]at B;have⟨c,ee,f,q1,q2⟩:=G B;exact wY.put ⟨a0,c,ee,f,h2,q1,q2,Sg l q1 q2⟩ À _ _⟩⟩
 |6,⟨h,h2⟩=>
  refine Au W l g i h o04 O λo n x j e=>?_;unfold aR at e;rw[j]at e;obtain⟨a,rfl,r⟩:=JF e;obtain⟨rfl,z⟩:=xst I' r;exact⟨_,O,g.put _ _ _,Y ⟨i,7,O,(h2 z).put À _ _⟩⟩
 |7,⟨h,h2⟩=>exact JG g i (λp m u=>by grind [bW,Xh,aI]) (n:=8) ⟨O,h2⟩
 |8,⟨h,h2⟩=>
  have D:∀p m u,bW p ay (Xh S m) u=(match S.eval (cP 6)with
    | bG b=>ij (Xh {S with todo:=[dE (if b then fG 1 V8 ao else RR)]} m) u #[]
    |_=>ic (iP "cond: bool expected" (S.pos p)) u):=λp m u=>by
   grind [bW,Xh,aI,cC]
  by_cases P:∃b,S.eval (cP 6)=bG b;have⟨b,P⟩:=P;rw[P]at D;cases b with|true=>exact JG g i (λp m u=>D p m u) (n:=9) ⟨O,h2⟩|false=>exact Sa (λp m u=>D p m u) O (Y (Ω g λL C=>by simp only[ju]at C;subst C;exact jb3))
  refine aJ λm=>⟨iP "cond: bool expected" (S.pos<|wf az dA),w,#[],?_⟩;grind
 |9,⟨h,h2⟩=>exact JG g i (k:=[aS V8 [0,1,2,3,4,5,6,7]]) (λp m u=>by simp[bW,Xh,i,aI,show S.todo=[dE<|fG 1 V8 ao]from h,jdh];rfl) (n:=10) ⟨O,h2⟩
 |10,⟨h,h2⟩=>
  refine Au W l g i h o10 O λo n x j e=>?_;obtain⟨rfl,rfl⟩:=Sh j e;exact⟨_,O,g.put _ _ _,Y ⟨i,11,O,h2.put À _ _⟩⟩
 |11,⟨h,h2⟩=>
  refine Au W l g i h o11 O λo n x j e=>?_;obtain⟨rfl,rfl⟩:=Sh j e;exact⟨_,O,g.put _ _ _,Y ⟨i,12,O,h2.put À _ _,by show(aA S.tmps 8 _).getD 8 Z=(aA S.tmps 8 _).getD 0 Z;rw[ES À,Gl À];rfl⟩⟩
 |12,⟨h,h2,h3⟩=>
  have⟨o,q1,q2,q3,q4⟩:=o12;have⟨a,c,ee,f,r1,r2,r3,r4⟩:=id h2;have q:∀{p:Zp} {u:Zy},Tb p->u.heap[a.block]?=ac (au c ee f)->(aR S.eval o).runT p u #[]=(iu (gp<|aU<|some a):Sem Next).runT p u #[]:=λ{p u} w' hd=>by unfold aR;rw[q2];dsimp only;rw[Sf,h3,r1];show((convert 177 283<|aU<|some a).bind _).runT p u #[]=_;grind [Yf,ja7]
  refine RZ l h i q1 (sX q4) g.ro g.ke.1 (s:=iu<|gp<|aU<|some a) (Bl.eG<|xr _) (λt d=>q I' r2) (λv F=>q ż<|by rw[F.out _ r4];exact r2) (λn x e=>?_) (λy x e=>Æ);cases e;refine⟨_,aJ O,aJ ?_⟩;rw[fin (op:= .move (cP 0)) h q1 q3];exact⟨g.put _ _ _,Y ⟨i,13,O,h2.put À _ _,by show(aA S.tmps 9 _).getD 9 Z=(aA S.tmps 9 _).getD 0 Z;grind [ES,Gl]⟩⟩
 |13,⟨h,h2,h3⟩=>
  refine Au W l g i h o13 O λo n x j e=>?_;rw[xsx j,xse]at e;cases e;exact⟨_,O,g.put _ _ _,Y ⟨i,14,O,h2.put À _ _,by show(aA S.tmps 10 _).getD 10 Z=(aA S.tmps 10 _).getD 0 Z;rw[ES À,Gl À];exact h3⟩⟩
 |14,⟨h,h2,h3⟩=>
  have⟨o,q1,q2,q3,q4⟩:=o14;have⟨a,c,ee,f,r1,r2,r3,r4⟩:=id h2;have q:∀{p:Zp} {u:Zy},Tb p->u.heap[a.block]?=ac (au c ee f)->(aR S.eval o).runT p u #[]=(do iu (gp<|<-pj a):Sem Next).runT p u #[]:=λ{p u} w' hd=>by unfold aR;rw[q2];dsimp only;rw[Sf,h3,r1];show((convert 283 177<|aU<|some a).bind _).runT p u #[]=((pj a).bind _).runT p u #[];grind [Yf,ja8]
  refine RZ l h i q1 (sX q4) g.ro g.ke.1 (s:=do iu (gp<|<-pj a)) (Bl.eG<|xq (xxb r4) λ_=>xr _) (λt d=>q I' r2) (λv F=>q ż<|by rw[F.out _ r4];exact r2) (λn x e=>?_) λy x e=>I.iM g h _ _;obtain⟨b,rfl,_⟩:=JF e;refine⟨_,aJ O,aJ ?_⟩;rw[fin (op:= .move (cP 0)) h q1 q3];exact⟨g.put _ _ _,Y ⟨i,15,O⟩⟩
 |15,h=>
  refine Au W l g i h o15 O λo n x j e=>?_;obtain rfl:=Ψ j e;exact⟨_,O,g.put _ _ _,Y ⟨i,16,O⟩⟩
 |16,h=>
  refine Au W l g i h o16 O λo n x j e=>?_;unfold aR at e;rw[j]at e;obtain⟨a,rfl,r⟩:=JF e;exact⟨_,O,g.put _ _ _,Y ⟨i,17,O⟩⟩
 |17,h=>
  have⟨o,q1,q2,q3,q4⟩:=o17;refine Ι W l h i q1 (sX q4) g.ro g.ke.1 (by rw[q2];rfl) (λn x e=>?_) λy x _=>I.iM g h _ _;unfold aR at e;rw[q2]at e;have⟨u,w2,e1,r⟩:=jr e;cases r;refine⟨_,Y ⟨O,O⟩,aJ ?_⟩;rw[je2 (op:= .move (cP 0)) h q1 q3];exact⟨g.to _,Y ⟨i,18,O⟩⟩
 |18,h=>
  refine Sa (fr':={S with todo:=[]}) (λp m u=>?_) O<|Y<|Ω g λL C=>(by cases C);simp[bW,Xh,i,aI,show S.todo=[aS V8 []]from h]
 |_+19,h=>exact h.elim
end
end Odd160
def je8(i:aD):(dA[i]?).map (·.results)=(Tryz.prog.funcs[i]?).map (·.results):=by rw[zX];cases h:Tryz.prog.funcs[i]?with|none=>rfl|some f=>simp[Xl,zV];split<;>rfl
def Sq(i):dA[i]?=Tryz.prog.funcs[i]?\/vv dA i:=by cases h:Tryz.prog.funcs[i]?with|none=>left;rw[zX,h];rfl|some f=>cases y:sD i with|true=>grind [UP,Hm]|false=>left;rw[zX,h];grind [zV]
def Sk(i:aD)(q)(h:dA[i]?=ac q):(q.name== "runtime.NumGoroutine")=ao:=by obtain⟨f,a,⟨_,rfl⟩|⟨_,rfl⟩⟩:=US h;have:=Hm a;unfold zW;omega;exact Hm a
theorem Do(P F):(wf P F).funcs=F:=O
def Sl(i:aD)(q)(h:dA[i]?=ac q)(a:q.body.isNone=ay):kV q=aw:=by grind [UU,n71,He,UN,je4,Hf]
def xxd{P F}(a):B P F X<|Extern.AbiNoEscape.same a:=match a with
 |⟨[]⟩=>(xz _:B P F X _)|⟨[x]⟩=>(xr x:B P F X _)
 |⟨_::_::_⟩=>(xz _:B P F X _)
def So{P F}(i:aD)(q)(h:dA[i]?=ac q)(c:q.body.isNone=ay)(e)(b:oH q=ac e)(a):B P F X<|e a:=by obtain⟨_,rfl⟩|⟨_,rfl⟩|⟨_,rfl⟩|⟨_,rfl⟩|⟨_,rfl⟩:=UU h c;rw[x71]at b;cases b;exact xr3 a;rw[Hg]at b;cases b;exact xmy a;rw[UO]at b;cases b;exact xxd a;rw[jfe]at b;cases b;exact zv1 _ _ a;rw[Hh]at b;cases b;exact zvx a
theorem xy8:Tryz.prog.inits=#[2]:=Tryz.inits_eq
theorem xuk{f}(h:sD i=ay)(a:Tryz.prog.funcs[i]?=ac f):vv dA i:=UP h a<|Hm a
def zya{i}(h:i≠2):Tryz.prog.inits.idxOf? i=aw:=by grind [xy8]
theorem zy9(a:¬vv dA f){x}(hx:Tryz.prog.funcs[f]?=ac x):sD f=ao:=by grind [xuk]
def Gn(a:¬vv dA f):Tryz.prog.inits.idxOf? f=aw/\(f≠160->∀q c,dA[f]?=ac q->q.body=ac c->q9 az ay c=ay):=by refine⟨zya ?_,λe q c b d=>?_⟩;rintro rfl;have:=zy9 a Tryz.func2;revert this;decide;rw[(Sq f).resolve_right a]at b;grind [UQ,zy9]
theorem zy8(X):nz az dA X:=⟨λf=>(Sq f).imp id aJ,je8,Sk,Sl,λf b h c e d a=>So f b h c e d a⟩
def jcm(X):nz (wf az dA) dA X:=⟨λf=>aJ (by rw[Do]),λf=>(by rw[Do]),Sk,Sl,λf b h c e d a=>So f b h c e d a⟩
def xy6:uL az dA:=λf a=>⟨(Gn a.2).1,by by_cases h:f=160;grind [Odd160.yY];exact Y<|(Gn a.2).2 h⟩
def Si(i:aD)(f:kL):kL:=if i=160 then zW f else zV i f
noncomputable def Tryo.dA:Zc:=Tryz.prog.funcs.mapIdx Si
def zy4(i):Tryo.dA[i]?=(Tryz.prog.funcs[i]?).map (Si i):=by unfold Tryo.dA;simp
theorem M8(h:i≠160):Tryo.dA[i]?=dA[i]?:=by rw[zy4,zX];grind [Si]
def M':Tryo.dA[160]?=ac (zW Tryz.f160):=by rw[zy4,Tryz.func160];rfl
def Na:dA[160]?=ac Tryz.f160:=by rw[zX,Tryz.func160];rfl
def xp0(f):(zW f).name=f.name:=O
theorem xuq(f):(zW f).results=f.results:=O
theorem Ss(f):(zW f).body=ac (.refuse ""):=O
def je6(X:ZP):nz (wf az Tryo.dA) dA X where
 fU f:=by rw[Do];by_cases h:f=160;subst h;exact Y<|Y ⟨_,_,M',Na,xp0 _,by rw[Ss];rfl,by rw[Odd160.qH];rfl⟩;grind [M8]
 Ts f:=by rw[Do];by_cases h:f=160;subst h;rw[M',Na];grind [xuq];rw[M8 h]
 Gw:=Sk
 eG:=Sl
 Tr f q h hb e he a:=So f q h hb e he a
def xy2(a:Vi (wf az Tryo.dA) dA f):f≠160:=by rintro rfl;have h:=a.1;rw[Do,Na,M',xj]at h;grind [Ss,Odd160.qH]
def xyx:uL (wf az Tryo.dA) dA:=λf a=>⟨(Gn a.2).1,Y λb c d e=>by rw[Jo];exact(Gn a.2).2 (xy2 a) b c d e⟩
def jb4(f):¬Mc (wf az Tryo.dA) f:=by rintro⟨g,c,a,d,b⟩;rw[Do]at a;rw[Jo]at b;by_cases h:f=160;subst h;rw[M']at a;cases a;rw[Ss]at d;cases d;cases b;rw[M8 h]at a;by_cases e:vv dA f;have⟨F,s,y,t,_⟩:=e;rw[a]at y;cases y;rw[d]at t;cases t;cases b;rw[(Gn e).2 h g c a d]at b;cases b
def xtt(a:Vi az dA f)(b:Mc az f):f=160:=by by_cases h:f=160;exact h;have⟨q,c,y,p,t⟩:=b;rw[<-a.1]at y;rw[(Gn a.2).2 h q c y p]at t;cases t
def je7:DX az dA Odd160.I Tryo.dA where
 ym X f a k w hp hM hk:=by
  obtain rfl:=xtt hp hM;have e:(wf az dA).funcs[160]?=ac Tryz.f160:=by rw[Do];exact Na
  refine⟨⟨O,hk,O,O,?_⟩,Y ⟨O,0,?_⟩⟩;simp[bI,e,Xl,qt,Odd160.ntmps160,Array.size_append,Array.size_replicate];omega;show(bI (wf az dA) 160 a k).todo=_;simp[bI,e,GO,Odd160.qH,qt]
 mc X fr w h:=by rw[h.1.fn];exact Odd160.yY
 re X fr w t d h:=⟨h.1,h.2.imp id λ⟨c,n,g⟩=>⟨c,n,Odd160.At.re t d g⟩⟩
 step X fr w hS h:=by obtain⟨i,⟨ch,j,r,k,b,m⟩|⟨b,n,l⟩⟩:=h;refine Y<|aJ ⟨ch,b,i.de,λp=>?_⟩;grind [Frame.catches];grind [Odd160.BF,zy8]
 Cq:=je6
 oN:=xyx
 pC f hp hM:=⟨by grind [Do,Odd160.yY,M8],hp.2⟩
 DY:=jb4
theorem bX:Yk az dA where
 Cq:=zy8
 yp:=jcm
 oN:=xy6
 wt:=Sq
 ro:=Ä
 GA:=⟨_,_,je7⟩
def sY:oi az<|UM 3:=xx3<|zya Ã
def Sj(f:kL):ez:=match f.body with
 |some (.refuse _)=>ao|_=>ay
theorem gy{f}(h:sD i=ao)(a:Tryz.prog.funcs[i]?=ac f)(hw:Sj f=ay):Vi az dA i:=by refine⟨?_,?_⟩;rw[zX,a];grind [zV];rintro⟨c,s,b,d,_⟩;rw[zX,a]at b;grind [zV,Sj]
def Av{f}(h:sD i=ao)(g:i≠160)(j:Tryz.prog.funcs[i]?=ac f):¬Mc az i:=by rintro⟨a,c,b,d,e⟩;grind [UQ]
def zy6:Op->dD Operand
 | .move x=>ac x| .assign x=>ac x
 |_=>aw
def vh{R val}(c:¬Mc az q)(b:o.guard=aw/\(zy6 o.op).map a.eval=ac val)(h:Vh az q z j R (a.put o.dst val) w):Vh az q z j (o::R) a w:=by have⟨d,p,y,P,A,g⟩:=o;obtain⟨rfl,b⟩:=b;refine Vh.eO bX c O (λt e=>⟨t,e,?_⟩) h;cases p<;>simp[zy6]at b<;>subst b<;>simp[aR,go_sem]
def so{x y:pB}(b:¬Mc az q)(c:rq j)(h:∀(t:Zy) (P:Exit->mh->Zy->Prop),sT w t->H (∀A W,Yp az q y j A W->P eE A W)->H (∀e A W,e≠ eE->j e A W->P e A W)->x.wp prog P a t)(hy:wU [dE y]:=by exact trivial):Yp az q (gU x y) j a w:=Yp.Aq bX sY b c hy h
def Gp{x}(b:¬Mc az q)(c:rq j)(h:∀(W:Zy) (P:Exit->mh->Zy->Prop),sT w W->H (∀e A y,j e A y->P e A y)->x.wp prog P a W):Yp az q x j a w:=Yp.yU bX sY b c h
end
end
end A
namespace P
variable{b D n cp c:aD}{k:Lk}{L:KV}{w1 w:Zy}{tv v0:Zv}{d r q:Exit->mh->Zy->Prop}{a:mh}
open A.Tryq Go.RowKit
section
variable[pn:A.Pn]
section
variable{tv:eJ}{M clock:aD}{w:dN}{es:bE eF}{rm nx:eJ}
def xA(es:bE eF)(i:aD):Zl:=eV (A.gO (i:U) (eV es)).data
def xvd(i):st (xA es i)=A.gO (i:U) (eV es):=by simp[st,xA]
def ϊ(es):∀(k n r:aD),r<k->(A.mP es (n:U) k)[r]?=ac (A.yb ((n+r:aD):U)<|st<|xA es<|n+r)
 |0,n,r,h=>dC h<|Nat.not_lt_zero _
 |k+1,n,0,h=>by simp[A.mP,xvd]
 |k+1,n,r+1,h=>by
  have:=ϊ es k (n+1) r À
  grind [A.mP]
def Cl(b D M n:aD)(k:Lk)(L:KV)(es:bE eF)(w:Zy)(r:aD)(w1:Zy):Prop:=
 ∃c y l,(c=7\/c=8)/\ow (xA es) n k L r=ac (y,l)/\zj (λx=>x=b\/x=k.mp) (A.wF (py:=⟨132⟩) w D M c) w1/\Jh w1 b y/\Je w1 k.mp l
def rh(tv:Zv)(b D M n cp:aD)(k:Lk)(L:KV)(es:bE eF)(w:Zy)(ch:bA PanicEntry)(w1:Zy):Prop:=
 ∃c,(c=7\/c=8)/\ch=[{v:=tv,recovered:=ao}]/\ow (xA es) n k L cp=aw/\zj (λx=>x=b\/x=k.mp) (A.wF (py:=⟨132⟩) w D M c) w1
def ϙ(f:w.heap[D]?=ac (au #[rm,fu<|some M,nx] 132))(i:w.heap[M]?=ac (.map es clock))(h:zj (λx=>x=b\/x=k.mp) (A.wF (py:=⟨132⟩) w D M c) w1):
  zj (λx=>x=b\/x=k.mp) w (A.pK w1 D M (au #[rm,fu<|some M,nx] 132)<|.map es clock):=by
 have g:D<V (Z' w):=(za.1 f).1;have j:M<V (Z' w):=(za.1 i).1;have e:=h.Q;rw[A.lY (py:=⟨132⟩)]at e;refine⟨h.os,h.cX,?_,λx m l=>?_⟩;grind [A.pK];simp only[A.pK];by_cases d:x=M;grind;rw[zl<|Ne.symm d];by_cases a:x=D;grind;rw[zl<|Ne.symm a,h.dP x (by rw[A.lY (py:=⟨132⟩)];omega) l,A.po (py:=⟨132⟩) w m a d]
def Ϛ{x a b}(c:x≠D)(d:x≠M):(A.pK w1 D M a b).heap[x]?=w1.heap[x]?:=by grind [A.pK]
theorem ϑ{x}(a:-9223372036854775808<=x)(b:x<9223372036854775808):IntKind.i64.wrap x=x:=by grind [zh]
def xd8(hk:k.ok)(P:Jh w b k)(hs:Je w k.mp L)(hT:iN w)(hG:ip tv w)
  (h1:w.heap[D]?=ac (au #[rm,fu<|some M,nx] 132))(W:w.heap[M]?=ac (.map es clock))(bg:∀e∈eV es,A.lD e)
  (cs:b≠1)(ba:b≠4)(hm1:k.mp≠1)(bk:k.mp≠4)(bj:b≠k.mp)(a:∀x,x=1\/x=4\/x=b\/x=k.mp->x≠D/\x≠M)
  (q:k.bM+1=(n:U))(bd:k.aQ+1=(n:U)+cp)(bc:cp<=1000000000)(hn:n<=1000000000000)(B:∀i,T (xA es i)<=100000):
  A.CC az 106 #[K b,K D] w (CO tv b k.mp (ow (xA es) n k L cp) w):=by
 have bi:1<V (Z' w):=by obtain⟨t,x,_,h⟩:=hG;exact js h
 have bl:=hT.iE;have bb:b<V (Z' w):=P.lt;have be:=hs.lt;have v:∀c x,(x=1\/x=4\/x=b\/x=k.mp)->x<V (Z' w)->(A.wF (py:=⟨132⟩) w D M c).heap[x]?=w.heap[x]?:=λc x hx hl=>A.po (py:=⟨132⟩) w hl (a x hx).1 (a x hx).2;refine(A.ve (py:=⟨132⟩) (I:=Cl b D M n k L es w) (ϸ:=rh tv b D M n cp k L es w) (λp=>A.bX) A.sY (A.gy Ã Tryz.func172 O) ⟨P.i 11 O,P.i 12 O⟩ h1 W bg ?_ bc ?_ À À À ?_ ?_ ?_ ?_ ?_).U ?_;grind [ϑ];grind [ϑ];rintro r w' t d⟨c,hd,G,j,f,g,o,y⟩;exact⟨c,hd,G,j,f,g.re,o,y⟩;rintro ch w' t d⟨c,j,f,g,o⟩;exact⟨c,j,f,g,o.re⟩;rintro ch w'⟨c,j,rfl,_⟩;rfl;intro c j;refine⟨c,k,L,j,O,zj.refl _ _,?_,?_⟩;exact(v c b Â bb).trans P;obtain⟨m,h2,f,g⟩:=hs;exact⟨m,h2,(v c k.mp Â be).trans f,g⟩;intro r hr;rw[A.lq]at hr;refine⟨((n+r:aD):U),st _,by rw[q];exact ϊ es cp n r hr,?_⟩;rintro w1⟨c,hd,G,j,f,g,o,y⟩ t d;obtain⟨bh,F,_⟩:=PY hk r f;have g':zj (λx=>x=b\/x=k.mp) w1<|A.re (aF w1<|A.vf ((n+r:aD):U)<|st<|xA es<|n+r) t d:=by have l:zj (λx=>x=b\/x=k.mp) w1<|aF w1<|A.vf ((n+r:aD):U)<|st<|xA es<|n+r:=zj.E _;exact⟨l.os,l.cX,l.Q,l.dP⟩
 have C:zj (λ_=>False) w1<|A.re (aF w1<|A.vf ((n+r:aD):U)<|st<|xA es<|n+r) t d:=by have l:zj (λ_=>False) w1<|aF w1<|A.vf ((n+r:aD):U)<|st<|xA es<|n+r:=zj.E _;exact⟨l.os,l.cX,l.Q,l.dP⟩
 have z:=g.aE g';have bf:=z.Q;rw[A.lY (py:=⟨132⟩)]at bf;have X:iN<|A.wF (py:=⟨132⟩) w D M c:=λi hi=>by have:=hT i hi;grind [N]
 have v':ip tv<|A.wF (py:=⟨132⟩) w D M c:=by obtain⟨t',x,ho,h⟩:=hG;refine⟨t',x,ho,?_⟩;simp only[N]at h⊢;rw[v c 1 Â bi];exact h
 have ho:¬(1=b\/1=k.mp):=À
 have e4:¬(4=b\/4=k.mp):=À
 refine(zpp b hd bh G _ _ (B _) _ À À cs ba À À À (o.y C id) (by rw[F];exact y.y C id) (X.y z e4)<|v'.y z ho).mono ?_;intro e w' u;rw[F,<-ZU f]at u;cases hq:ow (xA es) n k L (r+1)with
 |none=>
  rw[hq]at u;obtain⟨rfl,s⟩:=u;refine⟨c,j,O,?_,z.aE s⟩;have:=PZ hq<|cp-(r+1);rwa[show r+1+(cp-(r+1))=cp by omega]at this
 |some p=>obtain⟨k2,L2⟩:=p;rw[hq]at u;obtain⟨rfl,s,S,wr⟩:=u;exact⟨c,k2,L2,j,hq,z.aE s,S,wr⟩
 rintro e w'⟨w1,rfl,⟨rfl,c,hd,G,j,f,g,o,y⟩|⟨ch,rfl,c,j,rfl,f,g⟩⟩;refine FW f (ϙ h1 W g) ?_ ?_;exact(Ϛ (a b Â).1 (a b Â).2).trans o;obtain⟨m,h2,S,wr⟩:=y;exact⟨m,h2,(Ϛ (a k.mp Â).1 (a k.mp Â).2).trans S,wr⟩;exact Jl f<|ϙ h1 W g
end
def ϗ:∀{y:bA eF} {L:Xv},pW y L->∀e∈y,A.lD e
 |[],_,_,e,z=>by cases z
 |e0::y,[],h,e,z=>by cases PG h
 |e0::y,(k,v)::L,h,e,z=>by replace h:=FP h;obtain rfl|a:=jc.1 z;exact⟨k,v.2,st v.1,h.1,h.2.1.trans O⟩;exact ϗ h.2.2 e a
def ϐ(n):∀{e:bA eF} {L:Xv},pW e L->eV (A.gO n e).data=jp L n
 |[],_::_,h=>(LF h).elim|e0::e,[],h=>by cases PG h
 |[],[],_=>by simp[A.gO,A.iH,A.sW,jp,Xm]|e0::e,(k,v)::L,h=>by replace h:=FP h;have c:=ϐ n h.2.2;have hk:e0.key=J k:=h.1;have b:e0.val=bY #[E v.1,J v.2]:=h.2.1.trans O;by_cases a:n=k;subst a;simp[A.gO,A.iH,A.sW,hk,b,jp,Xm,st];grind [A.gO,A.iH,jp,Xm]
def xd7{d}(hk:k.ok)(z:Jh w b k)(C:Je w k.mp L)(y:iN w)(v:ip tv w)(S:Jt w D d)
  (h:b≠1)(j:b≠4)(W:k.mp≠1)(o:k.mp≠4)(l:b≠k.mp)(f:∀x,x=1\/x=4\/x=b\/x=k.mp->¬d.cN D x)
  (a:k.bM+1=(n:U))(c:k.aQ+1=(n:U)+cp)(m:cp<=1000000000)(B:n<=1000000000000)(q:∀i,T (jp d.L i)<=100000):
  A.CC az 106 #[K b,K D] w (CO tv b k.mp (ow (λi=>jp d.L (i:U)) n k L cp) w):=by
 obtain⟨s,g,t,p,_⟩:=S.jS;have u:xA s=λi:aD=>jp d.L (i:U):=funext λi=>ϐ _ p;have:=xd8 hk z C y v (show w.heap[D]?=ac _ from S.bT) t (ϗ p) h j W o l (λx r=>⟨λe=>f x r<|aJ e,λe=>f x r<|Y<|aJ e⟩) a c m B λi=>Á
 grind
end
section
open A
variable[pn:A.Pn]
attribute [local go_sem] zn zg
def Ax(v0 v3 v4 v5:Zv)(a:mh):Prop:=∃x1 x2 x6 x7 x8 x9 X x y z t p j u o s m v l i g f h e W S B C F G P A I x37 x38 x39 x40 x41 x42 x43,a=⟨#[v0,x1,x2,v3,v4,v5,x6,x7,x8,x9,X,x,y,z,t,p,j,u,o,s,m,v,l,i,g,f,h,e,W,S,B,C,F,G,P,A,I,x37,x38,x39,x40,x41,x42,x43],[]⟩
noncomputable def yc:=Qf Tryz.f67.body
noncomputable def ο:=Qb<|Qb yc
noncomputable def ι:=Qa ο
noncomputable def π:=Qb ο
noncomputable def κ:=Qa π
noncomputable def ς:=Qb π
noncomputable def μ:=Qa ς
noncomputable def τ:=Qb ς
noncomputable def ν:=Qa τ
noncomputable def υ:=Qb τ
def sq:¬Mc az 67:=Av Ã Ã Tryz.func67
def MU:Mc az 106:=⟨_,_,oE,O,Ä⟩
def xm:Za:=#[ak ⟨#[]⟩,Q bB 0,ak ⟨#[]⟩,Q bB 0,fu aw,Q bB 0,ak ⟨#[]⟩,ak ⟨#[]⟩,Q bB 0,ak ⟨#[]⟩,ak ⟨#[]⟩,Q bB 0,Q bB 0,Q bB 0,Q bB 0,bG ao,Q bB 0]
def lkV(k:Lk)(C t:Zl):Zv:=bY (k.G C t)
def xrc(k:Lk)(a b):(aA (aA (aA (aA (aA (aA (aA (aA (aA (aA (aA (aA (aA (aA (aA (aA (aA xm 0<|E k.m) 1<|J k.tc) 2<|E k.bQ) 3<|J k.op) 4<|fu<|some k.mp) 5<|J k.ep) 6<|E a) 7<|E b) 8<|J k.bF) 9<|E k.dX) 10<|E k.fD) 11<|J k.bM) 12<|J k.aQ) 13<|J k.dB) 14<|J k.gR) 15<|bG k.cQ) 16<|J k.cY)=k.G a b:=by simp[xm,Lk.G]
def xra{a}(k:Lk)(c d)(b:xh w1 a xm 122):xh (M (M (M (M (M (M (M (M (M (M (M (M (M (M (M (M (M w1 (zq a 0)<|E k.m) (zq a 1)<|J k.tc) (zq a 2)<|E k.bQ) (zq a 3)<|J k.op) (zq a 4)<|fu<|some k.mp) (zq a 5)<|J k.ep) (zq a 6)<|E c) (zq a 7)<|E d) (zq a 8)<|J k.bF) (zq a 9)<|E k.dX) (zq a 10)<|E k.fD) (zq a 11)<|J k.bM) (zq a 12)<|J k.aQ) (zq a 13)<|J k.dB) (zq a 14)<|J k.gR) (zq a 15)<|bG k.cQ) (zq a 16)<|J k.cY) a (k.G c d) 122:=by have h:=(((((((((((((((((b.H 0<|E k.m).H 1<|J k.tc).H 2<|E k.bQ).H 3<|J k.op).H 4<|fu<|some k.mp).H 5<|J k.ep).H 6<|E c).H 7<|E d).H 8<|J k.bF).H 9<|E k.dX).H 10<|E k.fD).H 11<|J k.bM).H 12<|J k.aQ).H 13<|J k.dB).H 14<|J k.gR).H 15<|bG k.cQ).H 16<|J k.cY);rw[xrc]at h;exact h
def xrb{a}(k:Lk)(b c):zj (λx=>x=a) w1<|M (M (M (M (M (M (M (M (M (M (M (M (M (M (M (M (M w1 (zq a 0)<|E k.m) (zq a 1)<|J k.tc) (zq a 2)<|E k.bQ) (zq a 3)<|J k.op) (zq a 4)<|fu<|some k.mp) (zq a 5)<|J k.ep) (zq a 6)<|E b) (zq a 7)<|E c) (zq a 8)<|J k.bF) (zq a 9)<|E k.dX) (zq a 10)<|E k.fD) (zq a 11)<|J k.bM) (zq a 12)<|J k.aQ) (zq a 13)<|J k.dB) (zq a 14)<|J k.gR) (zq a 15)<|bG k.cQ) (zq a 16)<|J k.cY:=((((((((((((((((((zj.refl _ w1).aE<|zj.H _ (zq a 0) _).aE<|zj.H _ (zq a 1) _).aE<|zj.H _ (zq a 2) _).aE<|zj.H _ (zq a 3) _).aE<|zj.H _ (zq a 4) _).aE<|zj.H _ (zq a 5) _).aE<|zj.H _ (zq a 6) _).aE<|zj.H _ (zq a 7) _).aE<|zj.H _ (zq a 8) _).aE<|zj.H _ (zq a 9) _).aE<|zj.H _ (zq a 10) _).aE<|zj.H _ (zq a 11) _).aE<|zj.H _ (zq a 12) _).aE<|zj.H _ (zq a 13) _).aE<|zj.H _ (zq a 14) _).aE<|zj.H _ (zq a 15) _).aE<|zj.H _ (zq a 16) _)
def xou{m}{c n b}(o:xh b m (k.G c n) 122)(u)(C:u[4]?=K m)(t d):
  (eR jD u).run (wf az dA) (re b t d)=dG (bY<|k.G c n) (re b t d):=by
 show(eR jD u).run prog _=_;have a:xh (re b t d) m (k.G c n) 122:=o;generalize re b t d=W at*;have p:=a.i 0 O;have q:=a.i 1 O;have r:=a.i 2 O;have s:=a.i 3 O;have v:=a.i 4 O;have w:=a.i 5 O;have x:=a.i 6 O;have y:=a.i 7 O;have z:=a.i 8 O;have B:=a.i 9 O;have e:=a.i 10 O;have f:=a.i 11 O;have g:=a.i 12 O;have h:=a.i 13 O;have i:=a.i 14 O;have j:=a.i 15 O;have l:=a.i 16 O;simp[eR,Tryz.results67,go_sem,C,p,q,r,s,v,w,x,y,z,B,e,f,g,h,i,j,l];rfl
def xj5{v3 f R z}(W:Ax v0 v3 (K f) (K b) a)
  (X:Jh w b k)(u:xh w f xm 122)(m:ip tv w)(v:b≠f)(P:0<=k.tc)(A:k.tc<=1000000000000)
  (n:H<|∀e a' w',sV az dA jD R e a' w'->z e a' w')
  (o:H<|∀w',rp k->zj (λx=>x=f) w w'->R (ai<|lkV k (Ji k.m k.ep)<|Y7 k.m k.ep) w')
  (s:H<|∀w',¬rp k->zj (λx=>x=f) w w'->R (kn tv) w'):
  υ.wp prog z a w:=by
 obtain⟨x1,x2,x6,x7,x8,x9,bb,bc,bd,be,bf,bg,bh,bi,bj,bk,bl,bm,bn,bo,bp,bq,br,bs,bt,bu,bv,bw,bx,bz,ca,cb,cc,cd,ce,cf,cg,ch,ci,cj,rfl⟩:=W;have y:=X;have B:=m;have C:=u;conv=>arg 2;whnf
 go_wp2;refine(ztr b k _ y P A B).mono ?_;rintro e w1⟨i,⟨rfl,h⟩|⟨rfl,h⟩⟩;rotate_left;refine n.o _ _ _ ⟨O,?_⟩;exact s.o _ h.o<|i.U λ_ x=>x.elim;obtain⟨j,p⟩:∃j,Ji k.m k.ep=j:=⟨_,O⟩;obtain⟨l,q⟩:∃l,Y7 k.m k.ep=l:=⟨_,O⟩;have g:xh w1 b (k.G j l) 122:=by have:=xh.y y i id;rw[<-p,<-q];exact this
 rw[p,q]at o;have c:=C.y i id;have b0:N w1 (zq b 0)=E k.m:=g.i 0 O;have b1:N w1 (zq b 1)=J k.tc:=g.i 1 O;have b2:N w1 (zq b 2)=E k.bQ:=g.i 2 O;have b3:N w1 (zq b 3)=J k.op:=g.i 3 O;have b4:N w1 (zq b 4)=(fu<|some k.mp):=g.i 4 O;have b5:N w1 (zq b 5)=J k.ep:=g.i 5 O;have b6:N w1 (zq b 6)=E j:=g.i 6 O;have b7:N w1 (zq b 7)=E l:=g.i 7 O;have b8:N w1 (zq b 8)=J k.bF:=g.i 8 O;have b9:N w1 (zq b 9)=E k.dX:=g.i 9 O;have hd:N w1 (zq b 10)=E k.fD:=g.i 10 O;have F:N w1 (zq b 11)=J k.bM:=g.i 11 O;have G:N w1 (zq b 12)=J k.aQ:=g.i 12 O;have h1:N w1 (zq b 13)=J k.dB:=g.i 13 O;have I:N w1 (zq b 14)=J k.gR:=g.i 14 O;have h2:N w1 (zq b 15)=bG k.cQ:=g.i 15 O;have hx:N w1 (zq b 16)=J k.cY:=g.i 16 O;have z0:N w1 (zq f 0)=ak ⟨#[]⟩:=c.i 0 O;have f0:=c.dS 0;have z1:N w1 (zq f 1)=J 0:=c.i 1 O;have f1:=c.dS 1;have z2:N w1 (zq f 2)=ak ⟨#[]⟩:=c.i 2 O;have f2:=c.dS 2;have z3:N w1 (zq f 3)=J 0:=c.i 3 O;have f3:=c.dS 3;have z4:N w1 (zq f 4)=fu aw:=c.i 4 O;have f4:=c.dS 4;have z5:N w1 (zq f 5)=J 0:=c.i 5 O;have f5:=c.dS 5;have z6:N w1 (zq f 6)=ak ⟨#[]⟩:=c.i 6 O;have f6:=c.dS 6;have z7:N w1 (zq f 7)=ak ⟨#[]⟩:=c.i 7 O;have f7:=c.dS 7;have z8:N w1 (zq f 8)=J 0:=c.i 8 O;have f8:=c.dS 8;have z9:N w1 (zq f 9)=ak ⟨#[]⟩:=c.i 9 O;have f9:=c.dS 9;have cl:N w1 (zq f 10)=ak ⟨#[]⟩:=c.i 10 O;have L:=c.dS 10;have cm:N w1 (zq f 11)=J 0:=c.i 11 O;have ho:=c.dS 11;have cn:N w1 (zq f 12)=J 0:=c.i 12 O;have wr:=c.dS 12;have co:N w1 (zq f 13)=J 0:=c.i 13 O;have cs:=c.dS 13;have cp:N w1 (zq f 14)=J 0:=c.i 14 O;have g':=c.dS 14;have cq:N w1 (zq f 15)=bG ao:=c.i 15 O;have S:=c.dS 15;have cr:N w1 (zq f 16)=J 0:=c.i 16 O;have v':=c.dS 16;have ba:¬f=b:=λe=>v e.symm;have D:=i;have r:=c;go_wp2;exact n.o _ _ _ ⟨O,bY _,λt d=>⟨t,d,xou (xra k j l r) _ O t d⟩,o.o _ h.o<|(D.U λ_ x=>x.elim).aE<|xrb k j l⟩
def Jh.aQ(h:Jh w b k)(l):Jh (M w (zq b 12)<|J l) b {k with aQ:=l}:=by have:=xh.H h 12<|J l;exact this
def xtn{e f:Zv}(l:Ax v0 e f (K b) a)(c:Jh w b k)
  (j:H (∀a' w',Ax v0 e f (K b) a'->zj (·=b) w w'->Jh w' b {k with aQ:=k.bM}->d eE a' w')):κ.wp prog d a w:=by
 obtain⟨u,P,x6,x7,x8,x9,m,n,o,p,q,r,s,t,v,x,y,z,B,C,D,A,F,G,hd,I,h1,h2,L,hx,ho,wr,cs,g',S,v',es,ba,W,X,rfl⟩:=l;have g:N w (zq b 11)=J k.bM:=c.i 11 O;have h:N w (zq b 12)=J k.aQ:=c.i 12 O;have i:=c.dS 12;conv=>arg 2;whnf
 go_wp2;exact j.o _ _ ⟨_,_,_,_,_,_,_,_,_,_,_,_,_,_,_,_,_,_,_,_,_,_,_,_,_,_,_,_,_,_,_,_,_,_,_,_,_,_,_,_,O⟩ (zj.H w (zq b 12) _)<|Jh.aQ c k.bM
def Su(b:aD)(w:Zy):aD:=bL (9999-bZ ((N w<|zq b 12).getD Z))
def ϖ(h:Jh w b k):Su b w=bL (9999-k.aQ):=by unfold Su;rw[h.i 12 O];rfl
def xj4{v y:Zv}{d:Dk}(F:Ax (K D) v y (K b) a)(hb:Jh w b k)(hd:Jt w D d)(m:¬d.cN D b)(G:k.aQ=(n:U))(u:n<=1000000000000)
  (t:H (∀a' w',Ax (K D) v y (K b) a'->zj (·=b) w w'->Jh w' b {k with aQ:=(Z7 d.L n:U)}->r eE a' w')):μ.wp prog r a w:=by
 obtain⟨x1,x2,x6,x7,x8,x9,P,A,h1,h2,hx,ho,cs,S,g',v',es,W,X,h3,w2,ba,bb,bc,bd,be,bf,bg,bh,bi,bj,bk,bl,bm,bn,bo,bp,bq,br,bs,rfl⟩:=F;conv=>arg 2;whnf
 go_wp2;go_loopw [39] (λ_ wr=>∃i:aD,i<=1000000000000/\Z7 d.L n=Z7 d.L i/\zj (·=b) w wr/\Jh wr b {k with aQ:=(i:U)}) (λ_ wr=>Su b wr)
 ·refine⟨n,u,O,zj.refl _ _,?_⟩;have e:({k with aQ:=(n:U)}:Lk)=k:=by rw[<-G]
  grind
 have⟨i,hi,he,hbt,hlk⟩:=hrel;have j:=he;have g:=hbt;have l:=hlk;have z:=hd.y hbt (λx p e=>m Á);have C:N wr (zq b 12)=J i:=hlk.i 12 O;have ih:=hlk.dS 12;by_cases s:i<9999
 ·have I:(i:U)<9999:=by omega
  go_wp2;apply(Ei D d _ _ z).mono;rintro e w1⟨rfl,rfl⟩;obtain⟨x,p⟩:∃x,jp d.L ((i:U)+1)=x:=⟨_,O⟩;rw[p];have c:=p;by_cases f:x=[]
  ·have q:=j.trans (Mm λh=>h.2<|(c).trans f);have o:=xl [];subst f;go_wp2;apply t.o _ _ ⟨_,_,_,_,_,_,_,_,_,_,_,_,_,_,_,_,_,_,_,_,_,_,_,_,_,_,_,_,_,_,_,_,_,_,_,_,_,_,_,_,O⟩ g;rw[q];exact l
  have q:=j.trans<|IG s λh=>f<|c.symm.trans h;have o:(st x).toList.isEmpty=ao:=by rw[xl];simpa using f
  go_wp2;have B:=Jh.aQ l<|(i:U)+1;have BS:=g.aE<|zj.H w1 (zq b 12)<|J<|(i:U)+1;go_roundw;grind;rw[ϖ B,ϖ hlk];grind
 have I:¬(i:U)<9999:=À
 go_wp2;apply t.o _ _ ⟨_,_,_,_,_,_,_,_,_,_,_,_,_,_,_,_,_,_,_,_,_,_,_,_,_,_,_,_,_,_,_,_,_,_,_,_,_,_,_,_,O⟩ g;rw[(j.trans<|Mm λh=>s h.1)];exact l
def Sy(l:Zl):qi (l.take 4)<4294967296:=by
 have h:=AS<|l.take 4;have:T (l.take 4)<=4:=ù
 have:256^T (l.take 4)<=256^4:=J7 Ã this;omega
theorem ώ{F}(a:jp F 0≠[])(h:¬vL k.m k.tc (jp F 0)):Xc k F=aw:=by grind [Xc]
def Ϗ{F}(a:jp F 0≠[])(h:vL k.m k.tc<|jp F 0):Xc k F=(Y6 (Ym<|jp F 0) F<|Ji k.m (Ym<|jp F 0).ep).map λL=>(k.gZ (Ym<|jp F 0) k.mp,L):=by grind [Xc]
theorem ϔ{F}(a:jp F 0=[]):Xc k F=ac (k,[]):=by grind [Xc]
def xov{u:Zv}{r3 lo:aD}{d:Dk}(ha:Ax (K D) (K r3) u (K b) a)(hb:Jh w b k)(hs:Je w k.mp [])(hd:Jt w D d)(h2:¬d.cN D b)(G:4<b)
  (r:xh w r3 #[E k.m,J k.tc,E k.bQ,J k.op] 78)(hG:ip tv w)(hT:iN w)(hm:T k.m=32)(hl:T (jp d.L 0)<=1000000)(hx:lo<=k.mp)(ba:lo<=V (Z' w))(I:k.bM=0)
  (hN:H (∀a' w' k1 L1,Ax (K D) (K r3) u (K b) a'->zj (·=b) w w'->Xc {k with mp:=k1.mp} d.L=ac (k1,L1)->Jh w' b k1->Je w' k1.mp L1->lo<=k1.mp->(∃n:aD,k1.bM=(n:U)/\n<=4294967296)->q eE a' w'))
  (hX:H (∀a' w',a'.defers=[]->(∀mp,Xc {k with mp:=mp} d.L=aw)->zj (·=b) w w'->q (pQ [{v:=tv,recovered:=ao}]) a' w')):ι.wp prog q a w:=by
 obtain⟨x1,x2,x6,x7,x8,x9,bd,be,bf,bg,bh,bi,bj,bk,bl,bm,bn,bo,bp,bq,br,bs,bt,bu,bv,bw,bx,bz,b0,b1,b2,b3,b4,b5,b6,b7,b8,b9,ca,cb,rfl⟩:=ha;have X:=hb;have A:=hG;have HT:=hT;have h1:=hm;have c0:N w (zq r3 0)=E k.m:=r.i 0 O;have c1:N w (zq r3 1)=J k.tc:=r.i 1 O;have c2:N w (zq r3 2)=E k.bQ:=r.i 2 O;have c3:N w (zq r3 3)=J k.op:=r.i 3 O;obtain⟨x,S⟩:∃x,jp d.L 0=x:=⟨_,O⟩;have g:=S;have CB:aK prog 76 #[K D,J 0] w λe w'=>e=ai (E x)/\w'=w:=by have:=Ei D d 0 w hd;rw[S]at this;exact this
 rw[S]at hl;have F:1<V (Z' w):=by have:=hT.iE;omega
 conv=>arg 2;whnf
 go_wp2;apply CB.mono;rintro e w1⟨rfl,rfl⟩;by_cases l:x=[]
 ·have i:=g.trans l;have ho:=xl [];subst l;go_wp2;refine hN.o _ _ k [] ⟨_,_,_,_,_,_,_,_,_,_,_,_,_,_,_,_,_,_,_,_,_,_,_,_,_,_,_,_,_,_,_,_,_,_,_,_,_,_,_,_,O⟩ (zj.refl _ _) (ϔ i) X hs hx ⟨0,I,À⟩
 have i:jp d.L 0≠[]:=λh=>l<|g.symm.trans h;have ho:(st x).toList.isEmpty=ao:=by rw[xl];simpa using l
 go_wp2;apply(zti k.m _ k.tc k.op x h1 hl _ F HT A).mono;rintro e W⟨f,⟨rfl,wr⟩|⟨rfl,bc⟩⟩
 ·have B:vL k.m k.tc<|jp d.L 0:=by show vL _ _ _;rw[g];exact wr
  have m:=f;have D2:=hd.y f λ_ _=>id;obtain⟨c,j⟩:∃c,Ym x=c:=⟨_,O⟩;have z:H<|Ym (jp d.L 0)=c:=by show _=_;rw[g];exact j
  have cs:c.gT<=100000000000:=by have:=Sy<|yL x;rw[<-j];show qi _<=_;omega
  have y:c.bM<=4294967296:=by have:=Sy<|yK x;rw[<-j];show qi _<=_;omega
  rw[j];obtain⟨P,p⟩:∃P,c.V=P:=⟨_,O⟩;have t:aK prog 104 #[K b,P,K D] W<|Ao tv b k c (Y6 c d.L<|Ji k.m c.ep) W:=by have:=xmz b k c D d h1 cs W (xh.y X f id) D2 h2 G (A.y f id)<|HT.y f id;rw[p]at this;exact this
  rw[p];go_wp2;apply t.mono;rintro e w3⟨o,s⟩;have C:∀mp,Xc {k with mp:=mp} d.L=(Y6 c d.L<|Ji k.m c.ep).map λL=>(k.gZ c mp,L):=λmp=>by have:=Ϗ (k:={k with mp:=mp}) i B;rw[z.o]at this;exact this
  cases hq:Y6 c d.L (Ji k.m c.ep)with
  |none=>rw[hq]at s;subst s;exact hX.o _ _ O (λmp=>Á)<|(m.U λ_ x=>x.elim).aE o
  |some L1=>rw[hq]at s;obtain⟨rfl,mp,bb,g',v'⟩:=s;have HF:H<|∀a',Ax (K D) (K r3) u (K b) a'->q eE a' w3:=λa' h=>hN.o a' w3 _ L1 h ((m.U λ_ x=>x.elim).aE o) (by have:=C mp;rw[hq]at this;exact this) v' g' (by have:=m.Q;show lo<=mp;omega) ⟨c.bM,O,y⟩;go_wp2;exact HF.o _ ⟨_,_,_,_,_,_,_,_,_,_,_,_,_,_,_,_,_,_,_,_,_,_,_,_,_,_,_,_,_,_,_,_,_,_,_,_,_,_,_,_,O⟩
 refine hX.o _ _ O (λmp=>ώ i ?_)<|f.U λ_ x=>x.elim;grind
end
end P
namespace A
variable{a:mh}{l:bE ez}{i j t n:aD}{v:Zv}
open Tryq Go Go.Conc Go.RowKit
section
variable[pn:Pn]
section
variable{P:cI}{F:bE kL}{D:fZ}{w y:dN}{z:Exit->mh->dN->Prop}{x:FuncId}{S:bE eX}
theorem sp(h:i∈aY gH S l):∃o,S[i]?=ac o/\l[i]?=ac ao/\∀e∈o.after,fY gH e=ay->l[e.on]?=ac ay:=by have⟨m,q⟩:=Ja.1 h;simp only[jy,Bool.not_eq_true']at q;have⟨u,p⟩:=q;cases s:S[i]?with|none=>grind|some o=>rw[s]at p;refine⟨o,O,?_,λe c b=>?_⟩;rw[Jj]at u;grind;have a:=jn.1 p e c;rw[b]at a;rw[Jj]at a;grind
def Nb(S:bE eX):ez:=(iC (V S)).all λi=>match S[i]?with
 |some o=>o.after.all λe=>bR (e.on<i)|none=>ay
def δ(q:Nb S=ay)(g:V l=V S)(h:aY gH S l=[]):∀i,i<V S->l[i]?=ac ay:=by
 intro i;induction i using Nat.strongRecOn with
 |_ i I=>
  intro a;have d:=xy a;cases p:l[i]with
  |true=>grind
  |false=>
   exfalso;have:i∈aY gH S l:=by
    refine Ja.2 ⟨List.mem_range.2 a,?_⟩;rw[d];simp only[jy,Bool.not_eq_true',Xl,qt];refine⟨É,jn.2 λe f=>?_⟩;have b:e.on<i:=by have c:=GM.1 q i<|List.mem_range.2 a;rw[d]at c;exact Xt<|jn.1 c e f
    rw[Jj,I _ b À];simp
   grind
def BG(l:bA ez):aD:=T (l.filter (! ·))
def zyd:∀{l:bA ez} {i:aD},l[i]?=ac ao->BG (l.set i ay)+1=BG l
 |[],i,h=>È
 |b::l,0,h=>by
  cases h;simp[BG]
 |b::l,i+1,h=>by have:=zyd (l:=l) h;grind [BG]
def zyc:∀{l:bA ez} {i:aD},BG l=0->l[i]?≠ac ao
 |[],i,h,e=>Æ
 |b::l,0,h,e=>by grind [BG]|b::l,i+1,h,e=>by refine zyc (l:=l) ?_ e;grind [BG]
def Yp.Cl(W:Yk P F){id}(s:¬Mc P x)(t:P.follows nf=ay)(c:Nb S=ay)(u:bE ez->mh->Zy->Prop)(r:u (cL (V S) ao) a w)
  (b:∀l a w,u l a w->(∀i,i<V S->l[i]?=ac ay)->z eE a w)
  (d:∀l a w i o,u l a w->V l=V S->S[i]?=ac o->l[i]?=ac ao->(∀e∈o.after,fY gH e=ay->l[e.on]?=ac ay)->oX P x S z i (u<|aA l i ay) a w):Yp P x (fG id S ay) z a w:=by
 have n:∀(m:aD) (l:bE ez) (a:mh) (w:Zy),V l=V S->BG (eV l)=m->u l a w->MH P x gH S z m l a w:=by
  intro m;induction m with
  |zero=>
   intro l a w h p f;have g:aY gH S l=[]:=by refine List.eq_nil_iff_forall_not_mem.2 λi k=>?_;have⟨o,_,L,_⟩:=sp k;exact zyc p<|by simpa using L
   exact⟨g,b l a w f<|δ c h g⟩
  |succ m I=>
   intro l a w h p f;refine⟨λg=>b l a w f<|δ c h g,λi k=>?_⟩;have⟨o,B,L,C⟩:=sp k;refine(d l a w i o f h B L C).U λq v j=>I _ q v Á ?_ j;have:=zyd (l:=eV l)<|by simpa using L
   grind
 refine Yp.IR W s t<|n _ _ a w Â ?_ r;simp[BG]
def Gm(h:(aA l i ay)[j]?=ac ay):j=i\/l[j]?=ac ay:=Á
end
section
variable{P:cI}{F:bE kL}{S:fZ}{w L:dN}
def RX.zB(X:Yk P F)(s:oi P S){f fnc u B cs W}(hk:f.kind=dH)(G:¬Mc P f.fn)(h2:∃fn,P.funcs[f.fn]?=ac fn)(x:(wf P F).funcs[f.fn]?=ac fnc)(w':f.mode=u)
  (z:∀e w t d,W e (A.re w t d)->W e w)(y:∀L,¬W jQ L)(h1:∀t d,Leaves (wf P F) fnc f.tmps W f.defers u<|A.re w t d):
  RX P (Xh f (B::cs)) w (λg' L=>∃e,W e L/\Re B cs e g'):=by
 refine(RX.tU X s
  (End:=λg' L=>∃e g q n,W e (A.re L q n)/\e≠ jQ/\g'=Xh g [S]/\g.fn=f.fn/\g.leaving (wf P F) (A.re L q n) e) (λg' L t d=>Iff.rfl) ?_ G hk ?_).aE ?_
 rintro g' L⟨e,g,q,n,_,h,rfl,_,m⟩ ⟨_,hd⟩;cases e with
 |outgrown=>grind
 |returned v=>
  have⟨a,b,_⟩:=m;obtain⟨j,_⟩|⟨_,j,_⟩:=hd;have k:g.mode= .run:=j;grind;have k:g.defers=[_]:=j;grind
 |panicked c=>have⟨a,b,_⟩:=m;obtain⟨j,_⟩|⟨_,j,_⟩:=hd;have k:g.mode= .run:=j;grind;have k:g.defers=[_]:=j;grind
 intro t d;have⟨e,L,g,i,hc,o,m⟩:=leaves_steps f.defers u _ f [S] w' O O x hk<|h1 t d;have h:e≠ jQ:=by rintro rfl;exact y _ i
 refine⟨g,[S],L,?_,e,g,L.tape,L.drawn,i,h,O,o,m⟩;cases e with
 |outgrown=>grind|returned v=>exact hc
 |panicked c=>exact hc
 rintro C L⟨g',l,⟨e,g,q,n,i,h,rfl,o,m⟩,r,rfl⟩;have:l=[]:=by have D:[S]=l++[S]:=r;have:=gv T D;simp only[zx,Zr]at this;exact jv À
 subst this;have i:=z _ _ _ _ i;have p:DW P F g L e:=⟨h,q,n,m⟩;cases e with
 |outgrown=>grind
 |returned v=>
  apply(RX.zU X Á p).aE;rintro C I⟨t,d,rfl,rfl⟩;exact(RX.refl ⟨_,i,O⟩).rH
 |panicked ch=>apply(RX.iM p Á).aE;rintro C I⟨rfl,rfl⟩;exact .refl ⟨_,i,O⟩
end
end
section
variable[pn:Pn]
section
variable{w w':dN}{p P:Prop}
def M4{f A y F}(g:sD f=ao)(i:f≠160)(a:Tryz.prog.funcs[f]?=ac F)(hw:Sj F=ay)(c:∀e w t d,y e (re w t d)->y e w)(b:∀w',¬y jQ w')
  (h:∀t d,aK prog f A (re w t d) y):CC az f A w y:=CC.qL bX sY (gy g a hw) (Av g i a) ⟨_,a⟩ c b h
def At(a:mh)(t:aD)(v:Zv):Prop:=a.tmps[t]?=ac v
def At.ev(h:At a t v):a.eval (cP t)=v:=by unfold At at h;simp[jV,h]
theorem At.put{s}(h:At a t v)(b:t≠s)(u):At (a.put (ac s) u) t v:=by grind [At,ge]
theorem At.ex(b:V a.tmps=n)(h:t<n):At (a.put (ac t) v) t v:=by grind [At,ge]
def ET{s u}(h:V a.tmps=n):V (a.put (ac s) u).tmps=n:=by simpa[ge]using h
def Li(l:bE ez)(j:aD)(p:Prop):Prop:=l[j]?=ac ay->p
theorem Li.lz:Li (cL n ao) j p:=λh=>Á
theorem Li.eG(h:Li l j p)(a:j≠i)(k:p->P):Li (aA l i ay) j P:=λb=>k<|h<|(Gm b).resolve_left a
theorem Li.lT(k:p):Li l i p:=λ_=>k
end
end
end A
namespace P
variable{w w' e w0:Zy}{b n i s j r3 mp B:aD}{cs:Za}{t:aD->Question->aD}{ty:Zt}{d:TypeDesc}{l:bE ez}{a:mh}{v tv v2 cv:Zv}{L y L1:KV}{k D:Lk}{tc op:Int}{r r':Sr}
open A.Tryq Go.RowKit A
section
variable[pn:A.Pn]
def JH(cs:Za):aD->Ze->Za
 |_,[]=>cs|o,v::z=>JH (aA cs o v) (o+1) z
theorem ψ:∀(z:Ze) (cs:Za) (o j:aD),o+T z<=V cs->(JH cs o z)[j]?=if o<=j/\j<o+T z then z[j-o]?else cs[j]?
 |[],cs,o,j,h=>by rw[aL Â];rfl
 |v::z,cs,o,j,h=>by simp only[xg]at h;rw[JH,ψ z _ (o+1) j Á];simp only[xg];by_cases a:o+1<=j/\j<o+1+T z;grind;rw[aL a];grind
theorem xk0(cs C)(h:V cs=V C):JH cs 0 (eV C)=C:=by apply Vn;grind [ψ]
def xh.iY{t:Zt}{b}:∀(z:Ze) {cs:Za} {w:Zy} (o:aD),xh w b cs t->xh (eW w b o z) b (JH cs o z) t
 |[],cs,w,o,h=>h|v::z,cs,w,o,h=>by have a:=xh.iY z (o+1)<|h.H o v;exact a
def zj.iY{b}:∀(z:Ze) (w:Zy) (o:aD),zj (·=b) w (eW w b o z)
 |[],w,o=>zj.refl _ _|v::z,w,o=>(zj.H w (zq b o) v).aE<|zj.iY z _<|o+1
theorem xh.EU{t:Zt}(h:xh w b cs t)(a:prog.underlying ty=ac d)(z:d.isRow=ay)(c:(prog.info? ty).map (·.size)=ac (V cs)):(loadVar ty<|zq b 0).run prog w=dG (bY cs) w:=by have:=run_loadVar_mid w b 0 ty (eV cs) d (λj v e=>by rw[j7];exact h.i j Á) a z À;omega
def xh.Dr{cs'}{t:Zt}(h:xh w b cs t)(k:V cs=V cs')(g:(prog.info? ty).map (·.size)=ac (V cs'))(f:cs'.all (·.oneCell')=ay):
  ∃w',(storeVar ty (zq b 0)<|bY cs').run prog w=dG () w'/\xh w' b cs' t/\zj (·=b) w w'/\∀t d,(storeVar ty (zq b 0)<|bY cs').run prog (re w t d)=dG () (re w' t d):=by
 have c:∀w,xh w b cs t->(storeVar ty (zq b 0)<|bY cs').run prog w=dG () _:=λw h=>run_storeVar_mid w b 0 ty cs' (λj i=>by rw[j7];refine⟨?_,h.dS j⟩;rw[h.i j<|xy À];rfl) g f;have e:∀(a:Ze) (w:Zy) (o:aD) (t:aD->Question->aD) (d:aD),eW (re w t d) b o a=re (eW w b o a) t d:=by intro a;induction a with|nil=>intro w o t d;rfl|cons v a I=>intro w o t d;show(M (re w t d) (zq b o) v).setCells b (o+1) a=re (eW (M w (zq b o) v) b (o+1) a) t d;rw[<-I];congr 1
 refine⟨_,c w h,?_,zj.iY _ _ _,λt d=>?_⟩;have:=xh.iY (eV cs') 0 h;grind [xk0];rw[c (re w t d) h,e]
end
section
variable[pn:A.Pn]
attribute [local go_sem] zn zg
noncomputable def vY:bE eX:=match yc with
 | gU _ (gU (fG _ o _) _)=>o|_=>#[]
theorem ϓ:V vY=8:=Ä
def Dq:Tryz.prog.follows nf=ay:=Ä
def jcg:Nb vY=ay:=Ä
def pZ(m z:Zl)(tc op:U):Za:=#[ak<|st m,Q bB tc,ak<|st z,Q bB op]
def ύ{z o}{x}{t:Zt}(ho:o.op= .load ty x)(hx:z x=K b)(h:xh w b cs t)(c:prog.underlying ty=ac d)(q:d.isRow=ay)(a:(prog.info? ty).map (·.size)=ac (V cs)):
  (aR z o).run prog w=dG (gp<|bY cs) w:=by
 unfold aR;simp[ho,hx,Instr.loadAt,Instr.sureAddr,zc9,zda,Result.andThen_ok,h.EU c q a]
def ό{z o}{x y C}(ho:o.op= .store ty x y)(hx:z x=K b)(hy:z y=bY C)(h:(storeVar ty (zq b 0)<|bY C).run prog w=dG () w'):
  (aR z o).run prog w=dG .skip w':=by
 unfold aR;simp[ho,hx,hy,Instr.storeAt,Instr.sureAddr,zc9,zda,Result.andThen_ok,h]
def φ:∃d,prog.underlying 78=ac d/\d.isRow=ay:=⟨_,(eZ 78).trans Tryz.underlying78,O⟩
def η:(prog.info? 122).map (·.size)=ac 17:=Ä
def ε:(prog.info? 78).map (·.size)=ac 4:=Ä
def Tb(z:bA<|Nat×aD×Zv)(l:bE ez)(a:mh):Prop:=∀x∈z,Li l x.1<|At a x.2.1 x.2.2
theorem Tb.put{z}(h:Tb z l a)(f:V a.tmps=n)(d:s<n)(c:∀x∈z,(x.2.1≠s/\x.1≠i)\/x=(i,s,v)):Tb z (aA l i ay)<|a.put (ac s) v:=λx b=>(c x b).elim (λe=>(h x b).eG e.2 λy=>y.put e.1 _) λe=>by subst e;exact .lT<|.ex f d
def Tb.rK{z}(h:Tb z l a)(c:∀x∈z,x.1≠i):Tb z (aA l i ay) a:=λx b=>(h x b).eG (c x b) id
theorem Tb.lz{z}:Tb z (cL n ao) a:=λ_ _=> .lz
structure wZ(w:Zy)(x:Zv)(r3:aD)(q:Zv)(m z:Zl)(tc op:U)(mp b:aD)(l:bE ez)(a:mh)(w':Zy):Prop where
 df:a.defers=[]
 sz:V a.tmps=44
 nw:Nw w w'
 s0:At a 0 x
 s3:At a 3<|K r3
 s4:At a 4 q
 T:Tb [(0,7,bY<|pZ m z tc op),(2,9,bY<|pZ m z tc op),(3,10,bY #[E<|Ji m 0,E<|Y7 m 0]),(4,11,E Yn)] l a
 l1:Li l 1<|At a 8 (fu<|some mp)/\V (Z' w)<=mp/\Je w' mp []
 l5:Li l 5<|l[1]?=ac ay/\At a 12 (bY<|(ld m z tc op mp).G (Ji m 0)<|Y7 m 0)
 l6:Li l 6<|At a 5 (K b)/\V (Z' w)<=b/\(l[7]?=ac ao->xh w' b xm 122)
 l7:Li l 7<|(l[1]?=ac ay/\l[6]?=ac ay)/\Jh w' b (ld m z tc op mp)
def JI(h:(aA l i ay)[j]?=ac ao)(a:i≠j):l[j]?=ac ao:=Á
def Wp(h:l[j]?=ac ay):(aA l i ay)[j]?=ac ay:=Á
def xh.nw{t:Zt}(h:xh w b cs t)(k:Nw w w'):xh w' b cs t:=h.y k id
def Je.nw(h:Je w b L)(k:Nw w w'):Je w' b L:=h.y k id
def Jh.nw(h:Jh w b k)(a:Nw w w'):Jh w' b k:=xh.y h a id
def Nw.E(w o):Nw w<|aF w o:=zj.E _
theorem Nw.lQ(h:Nw w w')(t d):Nw w<|re w' t d:=⟨h.os,h.cX,h.Q,h.dP⟩
def Nw.J{d}(h:aP (V (A.re w t d).heap) (A.re w t d) w'):Nw w w':=⟨h.os,h.output,h.size,λk hk _=>h.block k hk⟩
def iN.nw(h:iN w)(k:Nw w w'):iN w':=h.y k id
def ip.nw(h:ip tv w)(k:Nw w w'):ip tv w':=h.y k id
section
variable{w:dN}{v0 S:eJ}{m mark:bA UInt8}{w1:dN}{X:Exit->mh->dN->Prop}
def Dp(w:Zy)(v0:Zv)(r3:aD)(S:Zv)(m mark:Zl)(tc op:U)(l:bE ez)(a:mh)(w1:Zy)(X:Exit->mh->Zy->Prop)(i:aD):Prop:=∀o:eX,V l=V vY->vY[i]?=ac o->l[i]?=ac ao->(∀e∈o.after,fY gH e=ay->l[e.on]?=ac ay)->oX az 67 vY X i (λa w1=>∃mp b,wZ w v0 r3 S m mark tc op mp b (aA l i ay) a w1) a w1
def wZ.go(z:wZ w v0 r3 S m mark tc op mp b l a w1)(d:Nw w1 e)(f:i=0\/i=2\/i=3\/i=4)(g:s=i+7)(c:∀x∈[(0,7,bY<|pZ m mark tc op),(2,9,bY<|pZ m mark tc op),(3,10,bY #[E<|Ji m 0,E<|Y7 m 0]),(4,11,E Yn)],(x.2.1≠s/\x.1≠i)\/x=(i,s,v)):∃mp b,wZ w v0 r3 S m mark tc op mp b (aA l i ay) (a.put (ac s) v) e:=
 ⟨mp,b,z.df,ET z.sz,z.nw.aE d,z.s0.put À _,z.s3.put À _,z.s4.put À _,z.T.put z.sz À c,z.l1.eG À λx=>⟨x.1.put À _,x.2.1,x.2.2.nw d⟩,z.l5.eG À λx=>⟨Wp x.1,x.2.put À _⟩,z.l6.eG À λx=>⟨x.1.put À _,x.2.1,λh=>(x.2.2<|JI h À).nw d⟩,z.l7.eG À λx=>⟨⟨Wp x.1.1,Wp x.1.2⟩,Jh.nw x.2 d⟩⟩
def jcy(g:xh w r3 (pZ m mark tc op) 78)(z:wZ w v0 r3 S m mark tc op mp b l a w1):Dp w v0 r3 S m mark tc op l a w1 X 0:=λo k c j x=>zdn
def jc0(g:xh w r3 (pZ m mark tc op) 78)(z:wZ w v0 r3 S m mark tc op mp b l a w1):Dp w v0 r3 S m mark tc op l a w1 X 2:=λo k c j x=>zdn
def jcz(z:wZ w v0 r3 S m mark tc op mp b l a w1):Dp w v0 r3 S m mark tc op l a w1 X 1:=λo j c i q=>by
 have d:=c;simp[vY,yc,jD,Qf]at c;subst c;have f:¬l[5]?=ac ay:=λh=>by have:=(z.l5 h).1;grind
 have g:¬l[7]?=ac ay:=λh=>by have:=(z.l7 h).1.1;grind
 refine oX.eO bX sq d O (λt e=>⟨t,e,?_⟩) ⟨V<|Z' w1,b,⟨z.df,ET z.sz,z.nw.aE<|Nw.E _ _,(z.s0.put Ã _),(z.s3.put Ã _),(z.s4.put Ã _),z.T.put z.sz Ã Â,.lT ⟨.ex z.sz Ã,z.nw.Q,#[],0,xn _ _,O,MapKept.stamped_empty 0⟩,λh=>dC ((Gm h).resolve_left Ã) f,z.l6.eG Ã λx=>⟨(x.1.put Ã _),x.2.1,λh=>(x.2.2<|JI h Ã).nw<|Nw.E _ _⟩,λh=>dC ((Gm h).resolve_left Ã) g⟩⟩;rfl
def jc1(k:T m=32)(j:iN w)(z:wZ w v0 r3 S m mark tc op mp b l a w1):Dp w v0 r3 S m mark tc op l a w1 X 3:=λo q c p x=>by
 have f:=c;simp[vY,yc,jD,Qf]at c;subst c;have i:a.tmps[9]?=ac _:=z.T (2,9,bY<|pZ m mark tc op) Â<|x ⟨2,fw⟩ Â O;refine oX.lP (R:=λe g=>e=ai _/\Nw w1 g) bX sq z.df f O (args:=#[bY<|pZ m mark tc op,J 0]) (λv=>?_) (gy O Tryz.func103 O) (M4 O Ã Tryz.func103 O (λe w t d h=>⟨h.1,h.2.re⟩) (λg h=>by cases h.1) λt d=>(FV m mark tc op 0 k _<|j.nw<|z.nw.lQ t d).mono λe g h=>⟨h.1,Nw.J h.2⟩) ?_ ?_
 ·show(aR a.eval _).run prog v=_;simp[aR,go_sem,o8,i]
 rintro v r⟨e,n⟩;cases e;exact z.go n Â O Â
 grind
def jc2(z:wZ w v0 r3 S m mark tc op mp b l a w1):Dp w v0 r3 S m mark tc op l a w1 X 4:=λo k c j x=>by
 have f:=c;simp[vY,yc,jD,Qf]at c;subst c;refine oX.lP (R:=λe g=>e=ai _/\Nw w1 g) bX sq z.df f O (λv=>?_) (gy O Tryz.func58 O) (M4 O Ã Tryz.func58 O (λe w t d h=>⟨h.1,h.2.re⟩) (λg h=>by cases h.1) λt d=>(þ _).mono λe g h=>⟨h.1,Nw.J h.2⟩) ?_ ?_
 ·show(aR a.eval _).run prog v=_;simp[aR,go_sem,o8]
 rintro v n⟨e,i⟩;cases e;exact z.go i Â O Â
 grind
def jc3(z:wZ w v0 r3 S m mark tc op mp b l a w1):Dp w v0 r3 S m mark tc op l a w1 X 5:=λo n e k q=>by have f:=e;simp[vY,yc,jD,Qf]at e;subst e;have i:=q ⟨1,fw⟩ Â O;have j:a.tmps[7]?=ac _:=z.T (0,7,bY<|pZ m mark tc op) Â<|q ⟨0,fw⟩ Â O;have e8:a.tmps[8]?=ac _:=(z.l1 i).1;have c:a.tmps[10]?=ac _:=z.T (3,10,bY #[E<|Ji m 0,E<|Y7 m 0]) Â<|q ⟨3,fw⟩ Â O;have d:a.tmps[11]?=ac _:=z.T (4,11,E Yn) Â<|q ⟨4,fw⟩ Â O;refine oX.eO bX sq f O (λt g=>⟨t,g,?_⟩) ⟨mp,b,⟨z.df,ET z.sz,z.nw,(z.s0.put Ã _),(z.s3.put Ã _),(z.s4.put Ã _),z.T.put z.sz Ã Â,z.l1.eG Ã λx=>⟨(x.1.put Ã _),x.2.1,x.2.2⟩,.lT ⟨Wp i,.ex z.sz Ã⟩,z.l6.eG Ã λx=>⟨(x.1.put Ã _),x.2.1,λh=>x.2.2<|JI h Ã⟩,z.l7.eG Ã λx=>⟨⟨Wp x.1.1,Wp x.1.2⟩,x.2⟩⟩⟩;show(aR a.eval _).run prog (re w1 t g)=_;simp[aR,go_sem,j,e8,c,d,pZ];rfl
def jc4(z:wZ w v0 r3 S m mark tc op mp b l a w1):Dp w v0 r3 S m mark tc op l a w1 X 6:=λo i c g q=>by
 have d:=c;simp[vY,yc,jD,Qf]at c;subst c;have f:¬l[7]?=ac ay:=λh=>by have:=(z.l7 h).1.2;grind
 refine oX.eO bX sq d O (λt e=>⟨t,e,?_⟩) ⟨mp,V<|Z' w1,⟨z.df,ET z.sz,z.nw.aE<|Nw.E _ _,(z.s0.put Ã _),(z.s3.put Ã _),(z.s4.put Ã _),z.T.put z.sz Ã Â,z.l1.eG Ã λx=>⟨(x.1.put Ã _),x.2.1,x.2.2.nw<|Nw.E _ _⟩,z.l5.eG Ã λx=>⟨Wp x.1,(x.2.put Ã _)⟩,.lT ⟨.ex z.sz Ã,z.nw.Q,λ_=>xh.ex _ _ _⟩,λh=>dC ((Gm h).resolve_left Ã) f⟩⟩;show(aR a.eval _).run prog (re w1 t e)=_;exact zb4
def jc5(u:wZ w v0 r3 S m mark tc op mp b l a w1):Dp w v0 r3 S m mark tc op l a w1 X 7:=λo L k F hd=>by
 have n:=k;simp[vY,yc,jD,Qf]at k;subst k;have B:=(u.l5<|hd ⟨5,fw⟩ Â O).1;have s:=hd ⟨6,fw⟩ Â O;have g:=(u.l5<|hd ⟨5,fw⟩ Â O).2.ev;obtain⟨z,G,f⟩:=u.l6 s;have C:=z.ev;have y:=f F;obtain⟨W,A,P,d,p⟩:=y.Dr (cs':=(ld m mark tc op mp).G _ _) (ty:=122) O η (by simp[Lk.G,Value.oneCell']);have j:∀{mp},Je w1 mp []->¬mp=b:=λh e=>by obtain⟨I,c,D⟩:=h.bT;exact y.gV D e.symm
 have q:Nw w W:=⟨d.os.trans u.nw.os,d.cX.trans u.nw.cX,xa u.nw.Q d.Q,λi v _=>(d.dP i (zm v u.nw.Q) À).trans<|u.nw.dP i v id⟩;refine oX.rK bX sq n O (λt r=>⟨t,r,ό O C g<|p t r⟩) ⟨mp,b,⟨u.df,u.sz,q,u.s0,u.s3,u.s4,u.T.rK Â,u.l1.eG Ã λx=>⟨x.1,x.2.1,x.2.2.y d<|j x.2.2⟩,u.l5.eG Ã λx=>⟨Wp x.1,x.2⟩,u.l6.eG Ã λx=>⟨x.1,x.2.1,λh=>dC h Á⟩,.lT ⟨⟨Wp B,Wp s⟩,P⟩⟩⟩
noncomputable def Sv:=Qa<|Qb yc
def xvy:Sv=fG 1 vY ay:=Ä
def xtm(t:T m=32)(q:iN w)(k:xh w r3 (pZ m mark tc op) 78)(g:a.defers=[])(j:V a.tmps=44)(u:At a 0 v0)(W:At a 3<|K r3)(C:At a 4 S)
  (p:∀A w' mp b,A.defers=[]->V A.tmps=44->At A 0 v0->At A 3 (K r3)->At A 4 S->At A 5 (K b)->Nw w w'->V (Z' w)<=mp->V (Z' w)<=b->Je w' mp []->Jh w' b (ld m mark tc op mp)->X eE A w'):Yp az 67 Sv X a w:=by
 rw[xvy];refine Yp.Cl bX sq Dq jcg (λl a w1=>∃mp b,wZ w v0 r3 S m mark tc op mp b l a w1) ⟨0,0,g,j,zj.refl _ _,u,W,C,.lz,.lz,.lz,.lz,.lz⟩ ?_ ?_;rintro l A w'⟨mp,b,z⟩ f;have c:∀i,i<8->l[i]?=ac ay:=λi s=>f i (by grind [ϓ]);obtain⟨n,r,_⟩:=z.l6 (c 6 Ã);obtain⟨_,h,d⟩:=z.l1 (c 1 Ã);exact p A w' mp b z.df z.sz z.s0 z.s3 z.s4 n z.nw h r d (z.l7<|c 7 Ã).2;rintro l A w' i o⟨mp,b,z⟩ d e c x;have s:i<8:=by have:=(za.1 e).1;rwa[ϓ]at this
 have:i=0\/i=1\/i=2\/i=3\/i=4\/i=5\/i=6\/i=7:=À
 obtain rfl|rfl|rfl|rfl|rfl|rfl|rfl|rfl:=this;exact jcy k z o d e c x;exact jcz z o d e c x;exact jc0 k z o d e c x;exact jc1 t q z o d e c x;exact jc2 z o d e c x;exact jc3 z o d e c x;exact jc4 z o d e c x;exact jc5 z o d e c x
noncomputable def ξ:=Qa yc
def xtl{a}(f:H<|∀A w',A.defers=[]->V A.tmps=44->At A 0 v0->At A 3 (K (V<|Z' w))->At A 4 (K<|V (Z' w)+1)->Nw w w'->V (Z' w')=V (Z' w)+2->xh w' (V<|Z' w) (pZ m mark tc op) 78->xh w' (V (Z' w)+1) xm 122->a eE A w'):
  ξ.wp prog a ⟨#[v0,bY<|pZ m mark tc op]++cL (44-2) Z,[]⟩ w:=by
 have b:=(xh.ex w (pZ m mark tc op) 78).E<|au xm 122;have c:xh (aF (aF w<|au (pZ m mark tc op) 78)<|au xm 122) (V (Z' w)+1) xm 122:=by have:=xh.ex (aF w<|au (pZ m mark tc op) 78) xm 122;rw[xp]at this;exact this
 have e:Nw w<|aF (aF w<|au (pZ m mark tc op) 78)<|au xm 122:=(Nw.E _ _).aE<|Nw.E _ _;have d:H<|V (aF (aF w<|au (pZ m mark tc op) 78)<|au xm 122).heap=V (Z' w)+2:=by show _=_;simp
 simp only[jd,xg,qy,jY,lh,qu,qw,Xa,Zh,qj,qg];conv=>arg 2;whnf
 go_wp2;exact f.o _ _ O O O O O e d.o b c
end
end
section
variable[pn:A.Pn]
def xul{z a body x q C}(h:uB k L z q C a body x=ac (D,y)):D.tc=k.tc:=by unfold uB at h;split at h;cases h;split at h;split at h;rw[Io h];grind;split at h;split at h;rw[Io h];grind;grind
def χ:∀(n:aD) {k D:Lk} {L y:KV} {l r:Zl},t7 n k L l=ac (D,y,r)->D.tc=k.tc
 |0,k,D,L,y,l,r,h=>by grind [t7]
 |n+1,k,D,L,y,l,r,h=>by
  unfold t7 at h;by_cases a:J5 l=ay;rw[aT a]at h;cases z:Jv k L l with|none=>grind|some p=>obtain⟨b,L1⟩:=p;rw[z]at h;exact(χ n h).trans<|xul z
  grind
def ϕ{z len W}(h:Vd k L z len W=ac (D,y)):D.tc=k.tc:=by grind [Vd]
def xu3{z x}(h:mX k L z x=ac (D,y)):D.tc=k.tc:=by unfold mX at h;split at h;split at h;cases h;split at h;rename_i p L1 r q;exact(ϕ h).trans<|χ _ q;grind;exact ϕ h
def ω{F n k L}:∀(r:aD) {D:Lk} {y:KV},ow F n k L r=ac (D,y)->D.tc=k.tc
 |0,D,y,h=>by grind [ow]|r+1,D,y,h=>by unfold ow at h;cases z:ow F n k L r with|none=>grind|some p=>obtain⟨a,L1⟩:=p;rw[z]at h;exact(xu3 h).trans<|ω r z
def xk2{b F}(h:Xc k F=ac (b,L1))(hk:k.ok):b.ok/\b.tc=k.tc:=by by_cases d:jp F 0=[];grind [ϔ];by_cases a:vL k.m k.tc<|jp F 0;rw[Ϗ d a]at h;obtain⟨L,_,c⟩:=zv.1 h;simp only[GV]at c;rw[<-c.1];refine⟨⟨hk.m,?_,?_,?_⟩,O⟩;show(Ym<|jp F 0).ep<=255;have:=a.S;omega;exact Sy _;show((xR<|jp F 0).take 32).length=32;have:=(Qy a.gT).j.1;grind;grind [ώ]
section
variable{z x:Lk}{F:Xv}{q:KV}
def xdm(b:Xc k F=ac (z,L1))(c:z.bM=(n:U))(a:ow (λi=>jp F (i:U)) (n+1) {z with aQ:=(Z7 F n:U)} L1 (Z7 F n-n)=ac (x,q))(d:rp x):Xr k F=ac (x,q):=by grind [Xr]
def xot(b:Xc k F=ac (z,L1))(c:z.bM=(n:U))(a:ow (λi=>jp F (i:U)) (n+1) {z with aQ:=(Z7 F n:U)} L1 (Z7 F n-n)=ac (x,q))(d:¬rp x):Xr k F=aw:=by grind [Xr]
def xdl(b:Xc k F=ac (z,L1))(c:z.bM=(n:U))(a:ow (λi=>jp F (i:U)) (n+1) {z with aQ:=(Z7 F n:U)} L1 (Z7 F n-n)=aw):Xr k F=aw:=by grind [Xr]
end
def xdu:T Yn=32:=by simp[Yn]
def xxv:Tryz.f67.body=ac (gU ξ<|gU Sv<|gU ι<|gU κ<|gU μ<|gU ν υ):=Ä
def xvz:ν=fG 8 [⟨ac 40,.move<|cP 0,76,"look.go:52",#[],aw⟩,⟨ac 41,.call ⟨.value<|.func 106,#[cP 5,cP 40],#[122,76]⟩,0,"look.go:52",#[⟨0,fw⟩],aw⟩].toArray ao:=Ä
def qm(h:sT w w'):Nw w w':=by obtain⟨t,d,rfl⟩:=h;grind [Nw.lQ,zj.refl]
def Ϙ(h:sT w w'):V (Z' w')=V (Z' w):=by obtain⟨t,d,rfl⟩:=h;rfl
def zz9{X e d}:IH tv X w e (re w' t d)↔IH tv X w e w':=by constructor;rintro⟨h,c,a,b⟩;exact⟨zj.re h,c,a,b⟩;rintro⟨h,c,a,b⟩;exact⟨Nw.lQ h t d,c,a,b⟩
def xs6{z c d e}(b:a.defers=[])(f:V a.tmps=44)(l:At a 0 z)(m:At a 3 c)(n:At a 4 d)(o:At a 5 e):Ax z c d e a:=by
 obtain⟨x,g⟩:=a;cases b;have h:x=bH ((iC 44).map λ|0=>z|3=>c|4=>d|5=>e|i=>x[i]?.getD Z):=by unfold At at*;refine Array.ext É λi j k=>?_;simp;split<;>simp_all
 rw[h];exact⟨_,_,_,_,_,_,_,_,_,_,_,_,_,_,_,_,_,_,_,_,_,_,_,_,_,_,_,_,_,_,_,_,_,_,_,_,_,_,_,_,O⟩
def zr1{D d m mark}(hd:Jt w D d)(dn:∀x,d.cN D x->4<x)(hG:ip tv w)(hT:iN w)(hm:T m=32)(h0:0<=tc)(hc:tc<=1000000000000)(be:∀i,T (jp d.L i)<=100000):
  CC az 67 #[K D,bY<|pZ m mark tc op] w (IH tv (λmp=>Xr (ld m mark tc op mp) d.L) w):=by
 have hQ:rq<|sV az dA jD<|IH tv (λmp=>Xr (ld m mark tc op mp) d.L) w:=Dh λe w t d=>zz9;have dp:=hT.iE;have d1:∀x,d.cN D x->x<V (Z' w):=λx A=>Dk.fg hd A;refine CC.kS bX sq (gy O Tryz.func67 O).1 Tryz.func67 xxv ?_;rw[show Tryz.f67.ntmps=44 from O];refine Yp.Aq bX sY sq hQ bD λw0 Po hE hN hX=>?_;have n0:=qm hE;have z0:=Ϙ hE;refine xtl (mark:=mark) (tc:=tc) (op:=op) (v0:=K D) λa1 w1 bl sz1 cd s13 ce n1 z1 b3 b4=>hN.o _ _ ?_;have h2:=n0.aE n1;refine Yp.vU bX sq bD (xtm hm (hT.nw h2) b3 bl sz1 cd s13 ce λa2 w2 mp b bm cl cf cg ci cj n2 dz hb cb b6=>?_);have a:=h2.aE n2;have bx:=xs6 bm cl cf cg ci cj;refine Yp.Aq bX sY sq hQ bD λd3 dr r bp bu=>?_;have g:=a.aE<|qm r;have G:¬d.cN D b:=λh=>Á
 refine xov bx (Jh.nw b6<|qm r) (cb.nw<|qm r) (hd.y g λ_ _=>id) G À (b3.nw<|n2.aE<|qm r) (hG.nw g) (hT.nw g) hm Á (by have:=h2.Q;show _<=mp;omega) g.Q O (λa3 w3 j L1 bz o B bd bg z⟨n,hx,hn⟩=>bp.o _ _ ?_) λa3 w3 bn d0 o=>bu.o _ _ _ Â ⟨bn,?_⟩;have q:=xk2 B ⟨hm,Zz _,by show(0:aD)<_;omega,xdu⟩;have v':b≠j.mp:=λe=>by obtain⟨es,c,h1⟩:=bg.bT;exact xh.gV bd h1 e
 have dx:4<b:=by have:=h2.Q;omega
 have dm:4<j.mp:=À
 refine Yp.Aq bX sY sq hQ bD λd4 ds ho bq dv=>?_;refine xtn bz (Jh.nw bd<|qm ho) λa4 w4 b0 ba b7=>bq.o _ _ ?_;refine Yp.Aq bX sY sq hQ bD λd5 dt wr br dw=>?_;have X:=((((qm r).U λ_ x=>x.elim).aE o).aE<|((qm ho).U λ_ x=>x.elim).aE ba).aE<|(qm wr).U λ_ x=>x.elim;have bv:=(hd.y a λ_ _=>id).y X λx A e=>G Á;refine xj4 (n:=n) b0 (Jh.nw b7<|qm wr) bv G hx À λC w5 bb h3 b8=>br.o _ _ ?_;have l:=X.aE h3;have W:=((((qm ho).U λ_ x=>x.elim).aE ba).aE<|(qm wr).U λ_ x=>x.elim).aE h3;have bw:=(hd.y a λ_ _=>id).y l λx A e=>G Á;have ih:=(hG.nw a).y l À;have bt:=(hT.nw a).y l À;have bh:=bg.y W λe=>v' e.symm;have z5:=(b4.nw n2).y l À;have dy:=IF d.L n;have ca:∀x,Xc (ld m mark tc op j.mp) d.L=x->x=ac (j,L1):=λx h=>h.symm.trans B;rw[xvz];refine Yp.vU bX sq bD (Yp.ig bX sq ?_);obtain⟨hs,g',ck,S⟩:C.defers=[]/\V C.tmps=44/\At C 0 (K D)/\At C 5 (K b):=by obtain⟨x1,x2,x6,x7,x8,x9,cn,co,cq,cr,cs,ct,cu,cv,cw,cx,cy,cz,c0,c1,c2,c3,c4,c5,c6,c7,c8,c9,da,db,dc,dd,de,df,dg,dh,di,dj,dk,dl,rfl⟩:=bb;exact⟨O,O,O,O⟩
 refine Vh.eO (val:=K D) (w':=w5) bX sq O (λt d'=>⟨t,d',?_⟩) ?_
 ·show(aR C.eval _).run prog _=_;have bo:C.tmps[0]?=ac _:=ck;simp[aR,go_sem,bo]
 have d2:At (C.put (ac 40)<|K D) 5<|K b:=S.put Ã _;have dq:At (C.put (ac 40)<|K D) 40<|K D:= .ex g' Ã;have bc:({j with aQ:=(Z7 d.L n:U)}:Lk).ok:=⟨q.1.m,q.1.ep,q.1.bF,q.1.dX⟩;have hr:=xd7 (n:=n+1) (cp:=Z7 d.L n-n) bc b8 bh bt ih bw À À (show j.mp≠1 by omega) (show j.mp≠4 by omega) v'
  (λx A h=>Á)
  Á Á À À be
 refine Vh.uh (f:=106) (args:=#[K b,K D]) hs O (λv=>?_) (λv=>?_) MU hr ?_ ?_
 ·simp[aR,go_sem,o8,g'];exact(za.1 S).2
 ·have e5:C.tmps[5]?=ac _:=S;refine Conc.listed_nil ?_;simp[aR,go_sem,o8,g'];simp[callFunc,go_sem,oE];intro _ h;cases h
 intro v w6 I;refine Vh.nil bX sq ?_;cases hlog:ow (λi=>jp d.L (i:U)) (n+1) {j with aQ:=(Z7 d.L n:U)} L1 (Z7 d.L n-n)with
 |none=>rw[hlog]at I;cases I.1
 |some p=>
  obtain⟨k2,L2⟩:=p;rw[hlog]at I;obtain⟨_,y,b9,cc⟩:=I;have b5:=PY bc _ hlog;have bi:=ω _ hlog;have bf:k2.mp=j.mp:=b5.2.1;refine Yp.yU bX sY sq hQ λcm du s bs=>?_;have b2:Ax (K D) (K (V<|Z' w0)) (K<|V (Z' w0)+1) (K b)<|(C.put (ac 40)<|K D).put (ac 41) v:=by obtain⟨x1,x2,x6,x7,x8,x9,cn,co,cq,cr,cs,ct,cu,cv,cw,cx,cy,cz,c0,c1,c2,c3,c4,c5,c6,c7,c8,c9,da,db,dc,dd,de,df,dg,dh,di,dj,dk,dl,rfl⟩:=bb;exact⟨_,_,_,_,_,_,_,_,_,_,_,_,_,_,_,_,_,_,_,_,_,_,_,_,_,_,_,_,_,_,_,_,_,_,_,_,_,_,_,_,O⟩
  have bj:∀x,x=b\/x=j.mp->x≠V (Z' w0)+1:=λx A e=>by obtain rfl|rfl:=A;omega;obtain⟨es,c,h1⟩:=bh.bT;exact z5.gV h1 e.symm
  have z6:=(z5.y y λh=>bj _ h O).nw<|qm s;have bk:∀w',zj (λx=>x=V (Z' w0)+1) cm w'->Nw w w':=λw' h=>by have u:zj (λx=>x=b\/x=j.mp\/x=V (Z' w0)+1) w2 w':=((l.U λ_ h=>aJ h).aE<|y.U λ_ h=>h.elim aJ λh=>Y (aJ h)).aE<|((qm s).U λ_ h=>h.elim).aE<|h.U λ_ h=>Y (Y h);refine⟨u.os.trans a.os,u.cX.trans a.cX,xa a.Q u.Q,λi P _=>(u.dP i (zm P a.Q) λh=>?_).trans<|a.dP i P id⟩;omega
  refine xj5 (tv:=tv) (R:=IH tv (λmp=>Xr (ld m mark tc op mp) d.L) w) b2 (Jh.nw b9<|qm s) z6 ((ih.y y À).nw<|qm s) À (by have:=q.2;show 0<=k2.tc;rw[bi];show 0<=j.tc;rw[this];exact h0) (by have:=q.2;show k2.tc<=_;rw[bi];show j.tc<=_;rw[this];exact hc) bs (λw' he F=>?_) λw' he F=>?_;refine⟨bk w' F,j.mp,z,?_⟩;simp only;rw[xdm (k:=ld m mark tc op j.mp) B hx hlog he];refine⟨O,bf,?_⟩;refine(Je.nw cc<|qm s).y F λe=>bj _ (Y O) e;refine⟨bk w' F,j.mp,z,?_⟩;simp only;rw[xot (k:=ld m mark tc op j.mp) B hx hlog he];trivial
 intro ch w6 I;cases hlog:ow (λi=>jp d.L (i:U)) (n+1) {j with aQ:=(Z7 d.L n:U)} L1 (Z7 d.L n-n)with
 |some p=>obtain⟨k2,L2⟩:=p;rw[hlog]at I;cases I.1
 |none=>rw[hlog]at I;obtain⟨he,y⟩:=I;cases he;refine⟨hs,?_,j.mp,z,?_⟩;have u:zj (λx=>x=b\/x=j.mp) w2 w6:=(l.U λ_ h=>aJ h).aE y;refine⟨u.os.trans a.os,u.cX.trans a.cX,xa a.Q u.Q,λi P _=>(u.dP i (zm P a.Q) λh=>?_).trans<|a.dP i P id⟩;omega;simp only;rw[xdl (k:=ld m mark tc op j.mp) B hx hlog];trivial
 refine⟨?_,mp,À,?_⟩;refine⟨o.os.trans g.os,o.cX.trans g.cX,xa g.Q o.Q,λi P _=>(o.dP i (zm P g.Q) λh=>?_).trans<|g.dP i P id⟩;omega;grind [Xr,ld]
end
section
variable[pn:A.Pn]
attribute [local go_sem] zn zg
noncomputable def vX:=Qf Tryz.f36.body
noncomputable def θ:=Qa vX
noncomputable def vi:=Qa<|Qb vX
noncomputable def ϋ:=Qb<|Qb vX
noncomputable def um:bE eX:=match vi with
 | fG _ o _=>o|_=>#[]
def xvx:vi=fG 1 um ay:=Ä
theorem ϒ:V um=11:=Ä
def jcf:Nb um=ay:=Ä
def uJ:¬Mc az 36:=Av Ã Ã Tryz.func36
structure uI(w:Zy)(B:aD)(v2:Zv)(r:Sr)(mp b:aD)(k:Lk)(L:KV)(l:bE ez)(a:mh)(w':Zy):Prop where
 df:a.defers=[]
 sz:V a.tmps=45
 nw:Nw w w'
 s0:At a 0<|K B
 s2:At a 2 v2
 T:Tb [(0,4,K B),(1,5,K B),(2,6,zk B 2),(3,7,K r.D),(4,8,K B),(5,9,K B),(6,10,zk B 3),(7,11,bY<|pZ r.m r.bQ r.bF r.op)] l a
 l8:Li l 8<|At a 12 (bY<|k.G (Ji k.m k.ep)<|Y7 k.m k.ep)/\V (Z' w)<=mp/\Xr (ld r.m r.bQ r.bF r.op mp) r.d.L=ac (k,L)/\k.mp=mp/\Je w' mp L
 l9:Li l 9<|At a 3 (K b)/\V (Z' w)<=b/\(l[10]?=ac ao->xh w' b xm 122)
 Nc:Li l 10<|(l[8]?=ac ay/\l[9]?=ac ay)/\Jh w' b k
section
variable{C m:eJ}{w:dN}{v2:eJ}{w1:dN}{X:Exit->mh->dN->Prop}
def uI.mv(z:uI w B v2 r mp b k L l a w1)(d:i<8)(e:s=i+4)(c:∀x∈[(0,4,K B),(1,5,K B),(2,6,zk B 2),(3,7,K r.D),(4,8,K B),(5,9,K B),(6,10,zk B 3),(7,11,bY<|pZ r.m r.bQ r.bF r.op)],(x.2.1≠s/\x.1≠i)\/x=(i,s,v)):∃mp b k L,uI w B v2 r mp b k L (aA l i ay) (a.put (ac s) v) w1:=
 ⟨mp,b,k,L,z.df,ET z.sz,z.nw,z.s0.put À _,z.s2.put À _,z.T.put z.sz À c,z.l8.eG À λx=>⟨x.1.put À _,x.2⟩,z.l9.eG À λx=>⟨x.1.put À _,x.2.1,λh=>x.2.2<|JI h À⟩,z.Nc.eG À λx=>⟨⟨Wp x.1.1,Wp x.1.2⟩,x.2⟩⟩
def zC(w:Zy)(B:aD)(v2:Zv)(r:Sr)(l:bE ez)(a:mh)(w1:Zy)(X:Exit->mh->Zy->Prop)(i:aD):Prop:=∀o:eX,V l=V um->um[i]?=ac o->l[i]?=ac ao->(∀e∈o.after,fY gH e=ay->l[e.on]?=ac ay)->oX az 36 um X i (λa w1=>∃mp b k L,uI w B v2 r mp b k L (aA l i ay) a w1) a w1
def jco(z:uI w B v2 r mp b k L l a w1):zC w B v2 r l a w1 X 0:=λo g c f h=>by have d:=c;simp[um,vi,vX,ii,Qf,Qa,Qb]at c;subst c;have e0:a.tmps[0]?=ac _:=z.s0;refine oX.eO (val:=K B) bX uJ d O (λt e=>⟨t,e,?_⟩) (z.mv Ã O Â);simp[aR,go_sem,e0]
def jcs(z:uI w B v2 r mp b k L l a w1):zC w B v2 r l a w1 X 4:=λo g c f h=>by have d:=c;simp[um,vi,vX,ii,Qf,Qa,Qb]at c;subst c;have e0:a.tmps[0]?=ac _:=z.s0;refine oX.eO (val:=K B) bX uJ d O (λt e=>⟨t,e,?_⟩) (z.mv Ã O Â);simp[aR,go_sem,e0]
def jcp(z:uI w B v2 r mp b k L l a w1):zC w B v2 r l a w1 X 1:=λo g c f h=>by have d:=c;simp[um,vi,vX,ii,Qf,Qa,Qb]at c;subst c;have e0:a.tmps[4]?=ac _:=z.T (0,4,K B) Â<|h ⟨0,fw⟩ Â O;refine oX.eO (val:=K B) bX uJ d O (λt e=>⟨t,e,?_⟩) (z.mv Ã O Â);simp[aR,go_sem,e0]
def jct(z:uI w B v2 r mp b k L l a w1):zC w B v2 r l a w1 X 5:=λo g c f h=>by have d:=c;simp[um,vi,vX,ii,Qf,Qa,Qb]at c;subst c;have e0:a.tmps[8]?=ac _:=z.T (4,8,K B) Â<|h ⟨4,fw⟩ Â O;refine oX.eO (val:=K B) bX uJ d O (λt e=>⟨t,e,?_⟩) (z.mv Ã O Â);simp[aR,go_sem,e0]
def jcq(z:uI w B v2 r mp b k L l a w1):zC w B v2 r l a w1 X 2:=λo g c f h=>by have d:=c;simp[um,vi,vX,ii,Qf,Qa,Qb]at c;subst c;have e0:a.tmps[5]?=ac _:=z.T (1,5,K B) Â<|h ⟨1,fw⟩ Â O;refine oX.eO (val:=zk B 2) bX uJ d O (λt e=>⟨t,e,?_⟩) (z.mv Ã O Â);show(aR a.eval _).run prog (re w1 t e)=_;simp[aR,go_sem,e0]
def jcu(z:uI w B v2 r mp b k L l a w1):zC w B v2 r l a w1 X 6:=λo g c f h=>by have d:=c;simp[um,vi,vX,ii,Qf,Qa,Qb]at c;subst c;have e0:a.tmps[9]?=ac _:=z.T (5,9,K B) Â<|h ⟨5,fw⟩ Â O;refine oX.eO (val:=zk B 3) bX uJ d O (λt e=>⟨t,e,?_⟩) (z.mv Ã O Â);show(aR a.eval _).run prog (re w1 t e)=_;simp[aR,go_sem,e0]
def jcr(g:xh w B r.G 81)(z:uI w B v2 r mp b k L l a w1):zC w B v2 r l a w1 X 3:=λo i d h x=>by have e:=d;simp[um,vi,vX,ii,Qf,Qa,Qb]at d;subst d;have e0:a.tmps[6]?=ac _:=z.T (2,6,zk B 2) Â<|x ⟨2,fw⟩ Â O;refine oX.eO (val:=K r.D) bX uJ e O (λt c=>⟨t,c,?_⟩) (z.mv Ã O Â);show(aR a.eval _).run prog (re w1 t c)=_;have f:N (re w1 t c) (zq B 2)=K r.D:=(g.nw z.nw).i 2 O;simp[aR,go_sem,e0,f]
def jcv(j:xh w B r.G 81)(z:uI w B v2 r mp b k L l a w1):zC w B v2 r l a w1 X 7:=λo p e n x=>by have f:=e;simp[um,vi,vX,ii,Qf,Qa,Qb]at e;subst e;have e0:a.tmps[10]?=ac _:=z.T (6,10,zk B 3) Â<|x ⟨6,fw⟩ Â O;refine oX.eO (val:=bY (pZ r.m r.bQ r.bF r.op)) bX uJ f O (λt d=>⟨t,d,?_⟩) (z.mv Ã O Â);show(aR a.eval _).run prog (re w1 t d)=_;have c:=j.nw z.nw;have c3:N (re w1 t d) (zq B 3)=E r.m:=c.i 3 O;have g:N (re w1 t d) (zq B 4)=J r.bF:=c.i 4 O;have h:N (re w1 t d) (zq B 5)=E r.bQ:=c.i 5 O;have i:N (re w1 t d) (zq B 6)=J r.op:=c.i 6 O;simp[aR,go_sem,e0,c3,g,h,i,pZ]
def jcw(G:Jt w r.D r.d)(j:∀x,r.d.cN r.D x->4<x)(W:ip m w)(I:iN w)(P:T r.m=32)(ho:r.bF<=1000000000000)(g:∀i,T (jp r.d.L i)<=100000)
  (A:∀a' w' mp,a'.defers=[]->Nw w w'->V (Z' w)<=mp->Xr (ld r.m r.bQ r.bF r.op mp) r.d.L=aw->X (pQ [{v:=m,recovered:=ao}]) a' w')(u:uI w B v2 r mp b k L l a w1):zC w B v2 r l a w1 X 8:=λo wr t S hd=>by
 have y:=t;simp[um,vi,vX,ii,Qf,Qa,Qb]at t;subst t;have C:¬l[10]?=ac ay:=λh=>by have:=(u.Nc h).1.1;grind
 have F:a.tmps[7]?=ac _:=u.T (3,7,K r.D) Â<|hd ⟨3,fw⟩ Â O;have q:a.tmps[11]?=ac _:=u.T (7,11,bY<|pZ r.m r.bQ r.bF r.op) Â<|hd ⟨7,fw⟩ Â O;refine oX.lP bX uJ u.df y O (args:=#[K r.D,bY<|pZ r.m r.bQ r.bF r.op]) (λv=>?_) (gy O Tryz.func67 O) (zr1 (G.y u.nw λ_ _=>id) j (W.nw u.nw) (I.nw u.nw) P À À g) ?_ ?_
 ·show(aR a.eval _).run prog v=_;simp[aR,go_sem,o8,F,q]
 ·rintro v h1⟨n,c,f,h⟩;cases hq:Xr (ld r.m r.bQ r.bF r.op c) r.d.L with|none=>grind|some p=>obtain⟨h2,hx⟩:=p;simp only[hq]at h;obtain⟨e,s,z⟩:=h;cases e;exact⟨c,b,h2,hx,⟨u.df,ET u.sz,u.nw.aE n,(u.s0.put Ã _),(u.s2.put Ã _),u.T.put u.sz Ã Â,.lT ⟨.ex u.sz Ã,xa u.nw.Q f,hq,s,z⟩,u.l9.eG Ã λx=>⟨(x.1.put Ã _),x.2.1,λh=>(x.2.2<|JI h Ã).nw n⟩,λh=>dC ((Gm h).resolve_left Ã) C⟩⟩
 rintro ch h1⟨n,c,f,h⟩;cases hq:Xr (ld r.m r.bQ r.bF r.op c) r.d.L with
 |none=>
  simp only[hq]at h;cases h;exact A _ _ c u.df (u.nw.aE n) (xa u.nw.Q f) hq
 |some p=>grind
def jcx(z:uI w B v2 r mp b k L l a w1):zC w B v2 r l a w1 X 9:=λo i c g q=>by
 have d:=c;simp[um,vi,vX,ii,Qf,Qa,Qb]at c;subst c;have e:¬l[10]?=ac ay:=λh=>by have:=(z.Nc h).1.2;grind
 refine oX.eO bX uJ d O (λt f=>⟨t,f,?_⟩) ⟨mp,V<|Z' w1,k,L,⟨z.df,ET z.sz,z.nw.aE<|Nw.E _ _,(z.s0.put Ã _),(z.s2.put Ã _),z.T.put z.sz Ã Â,z.l8.eG Ã λx=>⟨(x.1.put Ã _),x.2.1,x.2.2.1,x.c.1,x.d.nw<|Nw.E _ _⟩,.lT ⟨.ex z.sz Ã,z.nw.Q,λ_=>xh.ex _ _ _⟩,λh=>dC ((Gm h).resolve_left Ã) e⟩⟩;show(aR a.eval _).run prog (re w1 t f)=_;exact zb4
def xza(u:uI w B v2 r mp b k L l a w1):zC w B v2 r l a w1 X 10:=λo A m W hd=>by
 have n:=m;simp[um,vi,vX,ii,Qf,Qa,Qb]at m;subst m;have v:=hd ⟨8,fw⟩ Â O;have y:=hd ⟨9,fw⟩ Â O;have g:=(u.l8 v).1.ev;obtain⟨D,I,f⟩:=u.l9 y;have S:=D.ev;have C:=f W;obtain⟨P,h1,G,d,p⟩:=C.Dr (cs':=k.G _ _) (ty:=122) O η (by simp[Lk.G,Value.oneCell']);have j:∀{mp L},Je w1 mp L->¬mp=b:=λh e=>by obtain⟨h2,c,F⟩:=h.bT;exact C.gV F e.symm
 have q:Nw w P:=⟨d.os.trans u.nw.os,d.cX.trans u.nw.cX,xa u.nw.Q d.Q,λi z _=>(d.dP i (zm z u.nw.Q) À).trans<|u.nw.dP i z id⟩;refine oX.rK bX uJ n O (λt s=>⟨t,s,ό O S g<|p t s⟩) ⟨mp,b,k,L,⟨u.df,u.sz,q,u.s0,u.s2,u.T.rK Â,u.l8.eG Ã λx=>⟨x.1,x.2.1,x.2.2.1,x.c.1,x.d.y d<|j x.d⟩,u.l9.eG Ã λx=>⟨x.1,x.2.1,λh=>dC h Á⟩,.lT ⟨⟨Wp v,Wp y⟩,G⟩⟩⟩
def xuc(t:xh w B r.G 81)(z:Jt w r.D r.d)(j:∀x,r.d.cN r.D x->4<x)(C:ip m w)(F:iN w)(W:T r.m=32)(I:r.bF<=1000000000000)(h:∀i,T (jp r.d.L i)<=100000)
  (n:a.defers=[])(s:V a.tmps=45)(s0:At a 0<|K B)(s2:At a 2 v2)
  (G:∀a' w' mp,a'.defers=[]->Nw w w'->V (Z' w)<=mp->Xr (ld r.m r.bQ r.bF r.op mp) r.d.L=aw->X (pQ [{v:=m,recovered:=ao}]) a' w')
  (S:∀a' w' mp b k L,a'.defers=[]->V a'.tmps=45->At a' 0 (K B)->At a' 2 v2->At a' 3 (K b)->Nw w w'->V (Z' w)<=mp->V (Z' w)<=b->Xr (ld r.m r.bQ r.bF r.op mp) r.d.L=ac (k,L)->k.mp=mp->Je w' mp L->Jh w' b k->X eE a' w'):Yp az 36 vi X a w:=by
 rw[xvx];refine Yp.Cl bX uJ Dq jcf (λl a w1=>∃mp b k L,uI w B v2 r mp b k L l a w1) ⟨0,0,ld [] [] 0 0 0,[],n,s,zj.refl _ _,s0,s2,.lz,.lz,.lz,.lz⟩ ?_ ?_;rintro l a' w'⟨mp,b,k,L,u⟩ g;have c:∀i,i<11->l[i]?=ac ay:=λi P=>g i (by grind [ϒ]);obtain⟨y,A,_⟩:=u.l9 (c 9 Ã);obtain⟨_,q,h1,p,e⟩:=u.l8 (c 8 Ã);exact S a' w' mp b k L u.df u.sz u.s0 u.s2 y u.nw q A h1 p e (u.Nc<|c 10 Ã).2;rintro l a' w' i o⟨mp,b,k,L,u⟩ e f c hd;have P:i<11:=by have:=(za.1 f).1;rwa[ϒ]at this
 have:i=0\/i=1\/i=2\/i=3\/i=4\/i=5\/i=6\/i=7\/i=8\/i=9\/i=10:=À
 obtain rfl|rfl|rfl|rfl|rfl|rfl|rfl|rfl|rfl|rfl|rfl:=this;exact jco u o e f c hd;exact jcp u o e f c hd;exact jcq u o e f c hd;exact jcr t u o e f c hd;exact jcs u o e f c hd;exact jct u o e f c hd;exact jcu u o e f c hd;exact jcv t u o e f c hd;exact jcw z j C F W I h G u o e f c hd;exact jcx u o e f c hd;exact xza u o e f c hd
end
def ζ(B:aD)(v2:Zv)(b:aD)(a:mh):Prop:=∃x1 x4 x5 x6 x7 x8 x9 X x z q p u o m g c f h W S C F G P A I x30 x31 x32 x33 x34 x35 x36 x37 x38 x39 x40 x41 x42 x43 x44,a=⟨#[K B,x1,v2,K b,x4,x5,x6,x7,x8,x9,X,x,z,q,p,u,o,m,g,c,f,h,W,S,C,F,G,P,A,I,x30,x31,x32,x33,x34,x35,x36,x37,x38,x39,x40,x41,x42,x43,x44],[]⟩
def xs5(c:a.defers=[])(d:V a.tmps=45)(g:At a 0<|K B)(j:At a 2 v2)(k:At a 3<|K b):ζ B v2 b a:=by
 have⟨x,z⟩:=a;cases c;have h:x=bH ((iC 45).map λ|0=>K B|2=>v2|3=>K b|i=>x[i]?.getD Z):=by unfold At at*;refine Array.ext É λi e f=>?_;simp;split<;>simp_all
 rw[h];exact⟨_,_,_,_,_,_,_,_,_,_,_,_,_,_,_,_,_,_,_,_,_,_,_,_,_,_,_,_,_,_,_,_,_,_,_,_,_,_,_,_,_,_,O⟩
def Aw(S:aD)(k:Lk)(L:KV):kE:=⟨S,k.mp,L,aB aw 0 0,[],k.ep,k.bM,k.aQ,k.dB,0⟩
def xtu(k d):(Zb k d).2.1.mp=k.mp/\(Zb k d).2.1.m=k.m/\(Zb k d).2.1.ep=k.ep:=by unfold Zb;split;split;grind;exact⟨O,O,O⟩;split;split;grind;exact⟨O,O,O⟩;exact⟨O,O,O⟩
def Nf(cv tv:Zv)(B:aD)(r:Sr)(w:Zy)(e:kH)(w':Zy):Prop:=∃mp,V (Z' w)<=mp/\match Xr (ld r.m r.bQ r.bF r.op mp) r.d.L with
 |none=>e=kn tv/\Zd B r w r w'|some (k,L)=>((Zb k r.d).1=ay/\e=ai (J 0)/\∃S,Zd B r w {r with bF:=k.bF,bQ:=k.dX,d:=(Zb k r.d).2.2,sn:=ac<|Aw S (Zb k r.d).2.1 L} w')\/((Zb k r.d).1=ao/\e=kn cv/\Zd B r w {r with bF:=k.bF,bQ:=k.dX,d:=(Zb k r.d).2.2} w')
def xy1{z f}{d'}(o:Vq w0 B r)(hx:r.sn=aw)(l:Nw w0 w)(wr:V (Z' w0)<=b)(g':V (Z' w0)<=D.mp)(A:Je w D.mp L)(v':b≠D.mp)
  (t:z=M (M w (zq B 4)<|J k.bF) (zq B 5) (E k.dX))(j:zj (λy=>y=b\/r.d.cN r.D y) z f)(p:Jt f r.D d')(ho:∀y,d'.cN r.D y->r.d.cN r.D y):
  Zd B r w0 {r with bF:=k.bF,bQ:=k.dX,d:=d'} f/\Zd B r w0 {r with bF:=k.bF,bQ:=k.dX,d:=d',sn:=ac<|Aw (V<|Z' f) D L} (M (aF f<|au (Aw (V<|Z' f) D L).G 97) (zq B 7)<|K (V<|Z' f)):=by
 have es:=λx (g:r.d.cN r.D x)=>Dk.fg o.fA g;have ba:=o.bT.lt;have u:zj (·=B) w z:=by rw[t];exact(zj.H w (zq B 4) _).aE<|zj.H _ (zq B 5) _
 have hd:xh z B ({r with bF:=k.bF,bQ:=k.dX,d:=d'}:Sr).G 81:=by have h1:=((o.bT.nw l).H 4<|J k.bF).H 5<|E k.dX;rw[t];exact h1
 have P:=hd.y j (by rintro(e|e);omega;exact o.kP e);have S:=l.Q;have X:=u.Q;have h3:=j.Q;have m:∀C,zj (λy=>y=B\/V (Z' f)<=y) f C->zj (r.cN B) w0 C:=λC h2=>by have v:zj (λy=>y=B\/y=b\/r.d.cN r.D y\/V (Z' f)<=y) w C:=((u.U λ_ h=>aJ h).aE<|j.U λ_ h=>h.elim (λe=>Y (aJ e)) λe=>Y (Y<|aJ e)).aE<|h2.U λ_ h=>h.elim aJ λe=>Y (Y<|Y e);refine⟨v.os.trans l.os,v.cX.trans l.cX,xa l.Q v.Q,λi I g=>(v.dP i (zm I l.Q) λh=>?_).trans<|l.dP i I id⟩;obtain e|e|e|e:=h;exact g<|aJ e;omega;exact g<|Y<|aJ e;omega
 refine⟨⟨m f<|zj.refl _ _,⟨P,p,λs e=>Á⟩,λx g=>?_⟩,?_⟩;obtain e|e|⟨s,e,_⟩:=g;exact aJ<|aJ e;exact aJ<|Y<|aJ<|ho x e;grind;have F:zj (λy=>y=B\/V (Z' f)<=y) f<|M (aF f<|au (Aw (V<|Z' f) D L).G 97) (zq B 7)<|K (V<|Z' f):=((Nw.E f _).U λ_ h=>h.elim).aE<|(zj.H _ _ _).U λ_ h=>aJ h;have G:¬r.d.cN r.D D.mp:=λh=>Á
 have q:=(A.y u À).y j Á;have w2:=q.lt;refine⟨m _ F,⟨?_,?_,λs e=>?_⟩,λx g=>?_⟩;exact(P.E _).H 7 _;exact p.y F λx g=>by
  rintro(e|e);exact o.kP Á
  grind
 cases e;refine⟨⟨?_,?_,?_⟩,?_⟩;exact(xh.ex f _ 97).dR Á _;exact q.y F À;exact jk _ _ _ _;intro e;have e:=e;exact G<|ho _<|Y<|aJ e;obtain e|e|⟨s,e,g⟩:=g;exact aJ<|aJ e;exact aJ<|Y<|aJ<|ho x e;cases e;obtain e|e|⟨a,n,c,W,e⟩:=g;have e:x=V (Z' f):=e;omega;have e:x=D.mp:=e;omega;cases W
def xke{P:kH->Zy->Prop}{Po:Exit->mh->Zy->Prop}(ha:ζ B v2 b a)(s:Vq w0 B r)(bb:r.sn=aw)(A:Nw w0 w)(hb:V (Z' w0)<=b)(ho:V (Z' w0)<=k.mp)
  (W:Jh w b k)(hs:Je w k.mp L)(ba:pH B r)(hG:nD cv tv w)(hw:k.cQ=ay->0<=k.cY/\k.cY<=(T (jp r.d.L k.aQ):aD))(X:-1000000000000<=k.aQ/\k.aQ<=1000000000000)
  (y:H<|∀e a' w',sV az dA ii P e a' w'->Po e a' w')
  (wr:H<|∀w' S,(Zb k r.d).1=ay->Zd B r w0 {r with bF:=k.bF,bQ:=k.dX,d:=(Zb k r.d).2.2,sn:=ac<|Aw S (Zb k r.d).2.1 L} w'->P (ai<|J 0) w')
  (g':H<|∀w',(Zb k r.d).1=ao->Zd B r w0 {r with bF:=k.bF,bQ:=k.dX,d:=(Zb k r.d).2.2} w'->P (kn cv) w'):
  ϋ.wp prog Po a w:=by
 obtain⟨x1,x4,x5,x6,x7,x8,x9,bg,bh,bi,bj,bk,bl,bm,bn,bo,bp,bq,br,bs,bt,bu,bv,bw,bx,bz,b0,b1,b2,b3,b4,b5,b6,b7,b8,b9,ca,cb,cc,cd,ce,cf,rfl⟩:=ha;have o:=s.bT.nw A;have HL:=W;have HS:=hs;have hd:=ba;have G:=s;have m:=bb;have bc:=s.bT.lt;have v':¬b=B:=À
 have h3:¬B=b:=À
 have w2:¬r.d.cN r.D b:=λh=>by have:=Dk.fg s.fA h;omega
 have c2:=o.i 2 O;have c4:=o.i 4 O;have c5:=o.i 5 O;have f4:=o.dS 4;have f5:=o.dS 5;have l8:N w (zq b 8)=J k.bF:=W.i 8 O;have l9:N w (zq b 9)=E k.dX:=W.i 9 O;conv=>arg 2;whnf
 go_wp2;obtain⟨F,i⟩:∃F,F=M (M w (zq B 4)<|J k.bF) (zq B 5) (E k.dX):=⟨_,O⟩;rw[<-i];have l:H (zj (·=B) w F):=by show zj _ _ _;rw[i];exact(zj.H w (zq B 4) _).aE<|zj.H _ (zq B 5) _
 have X2:xh F B ({r with bF:=k.bF,bQ:=k.dX}:Sr).G 81:=by have h1:=(o.H 4<|J k.bF).H 5<|E k.dX;show xh _ _ _ _;rw[i];exact h1
 have D2:=(s.fA.y A λ_ _=>id).y l.o λx hx e=>G.kP (by have e:x=B:=e;rw[<-e];exact hx);have ih:b≠0:=À
 have C2:=hG.Il.y l.o (by have:=hd.cN B<|aJ O;show¬0=B;omega);refine(xtv b k r.D r.d _ (xh.y HL l.o v') D2 hd.F0 hd.Ip C2 w2 ih hw X).mono ?_;rintro e j⟨u,n,f,z,C⟩;have g:=xtu k r.d;have hr:b≠k.mp:=λe=>by obtain⟨es,c,h1⟩:=HS.bT;exact xh.gV HL h1 e
 have I:=xy1 G m A hb (by rw[g.1];exact ho) (by rw[g.1];exact HS) (by rw[g.1];exact hr) i n z C;cases hm:(Zb k r.d).1 with
 |false=>rw[hm]at u;subst u;refine y.o _ _ _ ⟨O,g'.o _ hm I.1⟩
 |true=>
  rw[hm]at u;subst u;have h2:=X2.y n (by rintro(e|e);exact h3 e;exact G.kP e);have q:=I.2;generalize(Zb k r.d).2.1=D at*;have p:∀S,S=V (Z' j)->Zd B r w0 {r with bF:=k.bF,bQ:=k.dX,d:=(Zb k r.d).2.2,sn:=ac<|Aw S D L} (M (aF j<|au (Aw S D L).G 97) (zq B 7)<|K S):=λS e=>by subst e;exact q
  have HM:=hm;have d7:N j (zq B 7)=aU aw:=by have:=h2.i 7 (v:=Sr.my _) O;rw[this];simp[Sr.my,m]
  have k4:N j (zq b 4)=(fu<|some D.mp):=f.i 4 O;have k5:N j (zq b 5)=J D.ep:=f.i 5 O;have bd:N j (zq b 11)=J D.bM:=f.i 11 O;have be:N j (zq b 12)=J D.aQ:=f.i 12 O;have bf:N j (zq b 13)=J D.dB:=f.i 13 O;have e7:N (aF j<|au #[fu<|some D.mp,aB aw 0 0,J D.ep,J D.bM,J D.aQ,J D.dB,J 0] 97) (zq B 7)=aU aw:=((h2.E _).i 7 (v:=Sr.my _) O).trans (by simp[Sr.my,m]);have h7:=(h2.E<|au #[fu<|some D.mp,aB aw 0 0,J D.ep,J D.bM,J D.aQ,J D.dB,J 0] 97).dS 7;clear I q n f z C hm g;go_wp2;refine y.o _ _ _ ⟨O,J 0,λt d=>⟨t,d,?_⟩,wr.o _ _ HM<|p _ O⟩;show(eR ii _).run prog _=_;simp[eR,Tryz.results36,go_sem]
end
section
variable[pn:A.Pn]
def xxt:Tryz.f36.body=ac (gU θ<|gU vi ϋ):=Ä
theorem Zd.re{d:aD}(h:Zd B r w r'<|re w' t d):Zd B r w r' w':=⟨zj.re h.y,⟨h.dI.bT,⟨h.dI.fA.bT,h.dI.fA.jS,h.dI.fA.ku⟩,λs a=>⟨⟨(h.dI.fP s a).1.bT,(h.dI.fP s a).1.jS,(h.dI.fP s a).1.iR⟩,(h.dI.fP s a).2⟩⟩,h.cN⟩
theorem Zd.lQ(h:Zd B r w r' w')(t d):Zd B r w r'<|A.re w' t d:=⟨⟨h.y.os,h.y.cX,h.y.Q,h.y.dP⟩,⟨h.dI.bT,⟨h.dI.fA.bT,h.dI.fA.jS,h.dI.fA.ku⟩,λs a=>⟨⟨(h.dI.fP s a).1.bT,(h.dI.fP s a).1.jS,(h.dI.fP s a).1.iR⟩,(h.dI.fP s a).2⟩⟩,h.cN⟩
def xan{e d}:Nf cv tv B r w e (re w' t d)↔Nf cv tv B r w e w':=by
 constructor;rintro⟨b,a,h⟩;refine⟨b,a,?_⟩;cases z:Xr _ r.d.L with|none=>grind [Zd.re]|some p=>grind [Zd.re]
 rintro⟨b,a,h⟩;refine⟨b,a,?_⟩;cases z:Xr _ r.d.L with|none=>grind [Zd.lQ]|some p=>grind [Zd.lQ]
def xub(h:Vq w B r)(z:r.sn=aw)(a:pH B r)(o:nD cv tv w)(g:∀i,T (jp r.d.L i)<=100000)
  (s:∀mp k L,Xr (ld r.m r.bQ r.bF r.op mp) r.d.L=ac (k,L)->(k.cQ=ay->0<=k.cY/\k.cY<=(T (jp r.d.L k.aQ):aD))/\ -1000000000000<=k.aQ/\k.aQ<=1000000000000):
  CC az 36 #[K B] w (Nf cv tv B r w):=by
 have G:rq<|sV az dA ii<|Nf cv tv B r w:=Dh λe w t d=>xan;apply CC.kS bX uJ (gy O Tryz.func36 O).1 Tryz.func36 xxt;rw[show Tryz.f36.ntmps=45 from O];refine Yp.Aq bX sY uJ G bD λX I P A v'=>?_;have f:=qm P;have D:θ.wp prog I ⟨#[K B]++cL (45-1) Z,[]⟩ X:=by
  simp only[jd,xg,qy,jY,lh,qu,qw,Xa,Zh,qj,qg];conv=>arg 2;whnf
  go_wp2;apply A.o _ _;have F:=h.y f λ_ _=>id;refine Yp.vU bX uJ bD (xuc (v2:=J 0) F.bT F.fA (λx hd=>a.cN x<|Y<|aJ hd) (o.Y'.nw f) (o.uV.nw f) a.m (by have:=a.bF;omega) g O O O O (λh1 u mp c y v l=>?_) λh1 u mp b k L c C h2 hx ho y v es l q wr g'=>?_);refine⟨c,mp,by have:=f.Q;omega,?_⟩;rw[l];exact⟨O,Zd.nw h<|f.aE y⟩;have nw:=f.aE y;have W:=f.Q;refine Yp.yU bX sY uJ G λw1 ba n p=>?_;have n1:=qm n;have⟨hw,hla⟩:=s mp k L l;refine xke (L:=L) (xs5 c C h2 hx ho) h z (nw.aE n1) À À (Jh.nw g' n1) (by rw[q];exact wr.nw n1) a (o.y (nw.aE n1) λ_ x=>x.elim) hw hla p (λu S m j=>?_) λu m j=>?_;refine⟨mp,À,?_⟩;rw[l];exact aJ ⟨m,O,S,j⟩;refine⟨mp,À,?_⟩;simp_all
 exact D
end
end P
end Go.Proofs.YtjnbhiamaabbgaaGreatDoor
