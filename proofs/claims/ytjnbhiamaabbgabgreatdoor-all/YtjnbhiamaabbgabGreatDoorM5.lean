import Derived.Test.YtjnbhiamaabbgabGreatDoorM1
import Derived.Conc.WgGenN2
import Derived.Conc.CrowdComm
import Derived.Conc.WgGenN3
import Derived.Conc.TokenWalk
import Derived.Conc.FxGenLone
import Derived.Conc.CompanyDraw
set_option linter.all false
set_option maxRecDepth 100000
set_option maxHeartbeats 8000000
section
variable{P:Prop}
def zz1(h:P:=by rw[zh];omega):=h
def zz2(h:P:=by have:=h.rI x;omega):=h
def zz3(h:P:=by simp[iK,xo hk,bN]):=h
def zz5(h:P:=by rfl):=h
def zz6(h:P:=by grind [bP]):=h
def Ë(h:P:=by k_ne):=h
def Ù(h:P:=by go_simp<;>rfl):=h
def Ú(h:P:=by simp[go_sem, *]):=h
def Þ(h:P:=by show¬Mc P b.fn;grind):=h
def ß(h:P:=by simp[bW,Xh,Frame.at,aI]):=h
def â(h:P:=by grind [n1]):=h
def ð(h:P:=by have:=h.pt;grind):=h
def ñ(h:P:=by rw[h.aD];omega):=h
def ú(h:P:=by cases hx):=h
def γ(h:P:=by simpa[fp]using h.tp):=h
def σ(h:P:=by exact aJ<|Zi (λ_ _ x=>x.1) V7 h):=h
def aV(h:P:=by simp[rd,dF]):=h
def ww(h:P:=by have:=knows_own v;rwa[G op d]at this):=h
def yF(h:P:=by obtain⟨e,_,rfl⟩:=zy a;rfl):=h
def za9(h:P:=by simp[cO]):=h
def zaf(h:P:=by rw[RI O O H.f_wait O];simp only[goes_go];exact⟨⟨O,O⟩,fO λ_ _=>⟨O,h⟩⟩):=h
def zar(h:P:=by simp only[aO,ze,dY,hq,j,bJ];rfl):=h
def zav(h:P:=by rw[l];simp[aO,ze,dY,hq,j];rfl):=h
def zaz(h:P:=by exact aJ<|Zi (λ_ _ x=>x.1) (λ_ x=>x) h):=h
def zb4(h:P:=by simp[aR,go_sem];exact⟨O,O⟩):=h
def zb5(h:P:=by have:=h.iE;simp;omega):=h
def zbi(h:P:=by have:=h.aD;omega):=h
def zbl(h:P:=by have g:bW (wf P F) M (Xh (b.at a (aS ops (i::rest)::k)) cs) (A.re w t d)=_:=j;rw[g]at c;cases c;have:T cs=T cs+1:=e;omega):=h
def zbm(h:P:=by obtain⟨n,d,rfl⟩:=h;rintro⟨_,⟨f,_⟩|c⟩;cases f;have:a.defers=[⟨.fn _ #[],#[]⟩]:=c.2.1;grind):=h
def zc2(h:P:=by intro e c;have b:=iX c;unfold aR at b;simp only[hop,h]at b;simp[go_sem]at b):=h
def zc8(h:P:=by obtain e|⟨a,j,e⟩:=A;exact e;grind [woken_run]):=h
def zcm(h:P:=by let⟨k1,k2⟩:=MD (Wg:=Wg) O h1;grind):=h
def zcu(h:P:=by obtain e|e:=n.status<;>rw[e]<;>simp):=h
def zcz(h:P:=by exact⟨N+N2,gs2,v2,sl2,t2,k2,g2,w2,r2,qr x b1,b2⟩):=h
def zd0(h:P:=by simp at d;obtain rfl|rfl:=d<;>rfl):=h
def zd1(h:P:=by show(aA v.heap C _).size=_;simp):=h
def zd3(h:P:=by obtain⟨t,d,rfl⟩:=h;exact k.rH):=h
def zd4(h:P:=by have:=(za.1 hg).1;rwa[h.aD]at this):=h
def zd9(h:P:=by obtain h|⟨h,_⟩:=h;exact b _ _<|h w<|a w;omega):=h
def zdf(h:P:=by rw[b];exact EP w À):=h
def zdj(h:P:=by simp only[cO,xj]at hx;subst hx;exact⟨λ_=>Â,λ⟨r,e,_⟩=>Æ,zs,λr e=>Æ⟩):=h
def zdo(h:P:=by simp only[cO,xj]at f;subst f;exact⟨λ⟨r,e,g'⟩=>Á,λ⟨r,e,_⟩=>Æ,(by grind [Loc.low]),λr e=>Æ⟩):=h
def ze1(h:P:=by exact exists_congr λv=>and_congr (by simp[Ca])<|b ..):=h
end
namespace Go.Proofs.YtjnbhiamaabbgabGreatDoor
open _root_ renaming Array->bE,Bool->ez,ByteArray->eM,Int->U,List->bA,Nat->Q,Option->dD,absurd->dC,rfl->O,Array.replicate->cL,Array.setIfInBounds->aA,Array.size->V,Array.toList->eV,Bind.bind->mC,Bool.false->ao,Bool.true->M,Decidable.decide->bR,Except.bind->mi,False.elim->eT,Nat.reduceAdd->jY,Option.none->R,Option.some->Y,Or.inl->aJ,Or.inr->ac,Pure.pure->iu
open Go renaming Act->mh,Calls->aK,Code->pB,Deferred->nt,Ending->kH,Event->me,Frame->fZ,Func->kL,Goroutine->cR,MapEntry->eF,Oper->eX,Program->cI,Trace->gA,TypeId->oW,Value->eJ,World->dN,callDeferred->fo,deafBehind->dF,doReturn->gi,execOp->aR,getObj->na,heap_alloc_new->xn,load->oe,program->p9,results->eR,runNT->fQ,shape->lG,stepG->bW,undef->Z',underlying->fj,unwind->dT,variablesAt->lF,yielded->fN,Act.eval->jV,CallKind.early->eK,CallKind.normal->dH,Code.region->fG,Code.seq->gU,Conc.Goes.step->kg,Conc.Goes.stop->fO,ConcN.sumTo->kD,ConcN.Gen.WgLive.cell0->kf,ConcR.Payload->dO,ConcX.AtMkS->jG,ConcX.EvS->iA,Departure.mixedOrders->nf,Exit.normal->eE,Exit.panic->pQ,Frame.enter->bI,Frame.finish_at->zcb,FrameMode.panicking->fL,FrameMode.returning->eB,GStep.after->bJ,GStep.ended->ic,GStep.go->ij,GoStatus.running->bK,Ground.data->fw,IntKind.i64->bB,IntKind.wrap_i64->zh,Item.code->dE,Item.inRegion->aS,Loc.cell->ma,Loc.obj->pa,Mark.disable->oG,Mark.enable->oF,Mark.release->lK,MemOp.ofEvents->aZ,Next.enter->nN,Next.value->gp,Obj.cells->au,Obj.isChan->qA,Operand.tmp->cP,Region.Mode.any->gH,Region.linearise.go->cU,RowKit.Hid->H,RowKit.Below.heap_alloc->Xj,Stepped.next->gP,Trace.g?->kj,stepG.apply->aO,stepG.exec->aI
open Conc renaming AtRel->pe,Deaf_other->dJ,Deaf_own->mn,Goes->gk,aside_setCell->kW,awake_of->oI,base->jU,crowd->gJ,listed->lj,lt_size_of_getElem?->ie,mem_listed->iX,mem_ofEvents->zy,noRace_append->pd,ofEvents_eq->fp,offersAt_of_not_blocked->lI,runT_crowd_go->qD,served->mU,stepG_block->qC,stepG_load_atomic->nP,stepG_region->eP,stepG_region_end->aW,stepG_ret'->jA,stepG_seq->cM,stepG_skip->pc,touchAt->mg,woken_quitsD->jJ
open Ending renaming outgrown->jQ,panicked->iL,returned->ai
open Instr renaming checkKey->iK,findKey->cB,findNow->eU,lookup->fC,sameNow->jE
open MemAct renaming mark->gQ,ofEvent->cA,touch?->cO
open Proofs.Tryz renaming func136->oE,prog->az,underlying3->is,underlying9->qv
open Region renaming Mode->kJ,ready->aY,schedule->iZ,wanted->bP
open Result renaming andThen->bN,halt->ft,ok->dG
open Sem renaming bind->gl,run->gc,runT->fk,runT_eq->fd,run_bind->zc9,run_pure->zda,runT_eq->ze
open Value renaming agg->bY,bool->bG,chan->fI,int->aD,map->fu,pointer->aU,string->ak,tuple->cE
open World renaming alloc->aF,cell?->N,farLoad->mA,frozen?->aX,heap->Z,setCell->ay,shape?->dU,size_alloc->xp
open List renaming drop_drop->zbd,length->T,length_append->zx,length_take->xf,range->iC,toArray->bH
namespace A
variable{a:mh}{k L:bA Item}{g b G:Zg}{d i c Ϸ Wg C p r D ay rg m st r' dr:Q}{ops:bE eX}{rest:bA Q}{op:eX}{val v0 z:Zv}{f fn:FuncId}{args:Za}{aw:kH->Zy->Prop}{v w v':Zy}{x y:pB}{fnc:kL}{j:kJ}{a0:Addr}{u t:gA}{q:Q->Q}{o:Q->Obj}{left:Ze}{es:bE me}{gs:bE Zg}
open Go Go.Conc
section
variable[pn:Pn]
section
variable{aw:kH→Zy→Prop}
section
variable{P:cI}{F:bE kL}{dm:fZ}{S:cR->dN->Prop}{w w':dN}{b:fZ}{cs:bA fZ}
def RX.rH{tp}(h:RX P g w S):RX P g (A.re w tp d) S:=RX.re (tp:=w.tape) (d:=w.drawn)<|by grind [Ca,GI]
def sT(w w':Zy):Prop:=∃t d,w'=re w t d
def sT.rx(h:sT w w')(k:RX P g w S):RX P g w' S:=zd3
theorem RX.fB(s:Yk P F){g g'}(e:¬Mc P g.frame.fn)(i:∀v,bW (wf P F) M g v=ij g' v)(l:T g'.callers=T g.callers)(n:g'.dying=R)(h:g'.status=bK)(f:RX P g' w S):RX P g w S:=
 (RX.vA s e (G:=λc w1=>c=g'/\sT w w1) λX _ t d=>⟨⟨g',A.re w t d,⟨#[],i _,n,h⟩,O,t,d,O⟩,λk m j a b=>Á⟩).aE λc w1⟨a,b⟩=>by subst a;exact b.rx f
def RX.eO(s:Yk P F)(l:¬Mc P b.fn)(ho:ops[i]?=Y op)(hw:bP op (fN ops a.tmps)=M)(hk:b.kind≠ eK)
  (f:∀t d,∃W B,(aR a.eval op).run (wf P F) (A.re w t d)=dG (gp val) (A.re w' W B))(m:RX P (Xh (b.at (a.put op.dst val) (aS ops rest::k)) cs) w' S):
  RX P (Xh (b.at a (aS ops (i::rest)::k)) cs) w S:=
 (RX.vA s l (G:=λh w1=>h=Xh (b.at (a.put op.dst val) (aS ops rest::k)) cs/\sT w' w1) λX _ t d=>by let⟨W,B,f⟩:=f t d;let j:=stepG_value (main:=M) (k:=k) (cs:=cs) (rest:=rest) ho hw hk f;exact⟨⟨_,_,⟨_,j,O,O⟩,O,W,B,O⟩,λo p n c e=>zbl⟩).aE λh w1⟨c,e⟩=>by subst c;exact e.rx m
def RX.rK(s:Yk P F)(l:¬Mc P b.fn)(ho:ops[i]?=Y op)(hw:bP op (fN ops a.tmps)=M)(hk:b.kind≠ eK)
  (f:∀t d,∃W B,(aR a.eval op).run (wf P F) (A.re w t d)=dG .skip (A.re w' W B))(m:RX P (Xh (b.at (a.put op.dst Z') (aS ops rest::k)) cs) w' S):
  RX P (Xh (b.at a (aS ops (i::rest)::k)) cs) w S:=
 (RX.vA s l (G:=λh w1=>h=Xh (b.at (a.put op.dst Z') (aS ops rest::k)) cs/\sT w' w1) λX _ t d=>by let⟨W,B,f⟩:=f t d;let j:=stepG_none (main:=M) (k:=k) (cs:=cs) (rest:=rest) ho hw hk f;exact⟨⟨_,_,⟨_,j,O,O⟩,O,W,B,O⟩,λo p n c e=>zbl⟩).aE λh w1⟨c,e⟩=>by subst c;exact e.rx m
def Re(s:Zf)(cs:bA Zf):kH->Zg->Prop
 | ai v,g=>g=Xh (s.finish v) cs| iL ch,g=>g=Xh (s.raise ch) cs
 | jQ,_=>False
def CC(P:Zp)(f:FuncId)(args:Za)(w:Zy)(aw:kH->Zy->Prop):Prop:=
 ∀s cs,RX P (Xh (bI P f args dH) (s::cs)) w λn w'=>∃e,aw e w'/\Re s cs e n
def CC.U{c}(h:CC P f args w aw)(k:∀e w',aw e w'->c e w'):CC P f args w c:=λd g=>(h d g).U λi w'⟨e,a,b⟩=>⟨e,k _ _ a,b⟩
def CC.rH{s}(h:CC P f args w aw):CC P f args (re w s d) aw:=λa b=>(h a b).rH
def sT.cc(h:sT w w')(k:CC P f args w aw):CC P f args w' aw:=zd3
def CC.qL(W:Yk P F)(b:oi P dm){args}(m:Vi P F f)(k:¬Mc P f)(x:∃fn,P.funcs[f]?=Y fn)(g:∀e w t d,aw e (re w t d)->aw e w)(c:∀w',¬aw jQ w')
  (h:∀t d,aK (wf P F) f args (re w t d) aw):CC P f args w aw:=λo p=>by
 apply(CX.qL W b m k (λ_ _=>c) h _).aE;rintro s w'⟨e,r,⟨t,d,y,q,a⟩,rfl,l,i⟩;let a:=g _ _ _ _ a;cases e with
 |outgrown=>grind
 |returned v=>
  apply(RX.zU W Á i).aE;rintro j n⟨t,d,rfl,rfl⟩;exact(RX.refl ⟨_,a,O⟩).rH
 |panicked ch=>apply(RX.iM i Á).aE;rintro j n⟨rfl,rfl⟩;exact .refl ⟨_,a,O⟩
def RX.lP(W:Yk P F)(o:¬Mc P b.fn)(ho:ops[i]?=Y op)(hw:bP op (fN ops a.tmps)=M)(hk:b.kind≠ eK)
  (q:∀v,(aR a.eval op).run (wf P F) v=dG (nN f args) v)(n:Vi P F f)(p:CC P f args w aw)
  (B:∀v w',aw (ai v) w'->RX P (Xh (b.at (a.put op.dst v) (aS ops rest::k)) cs) w' S)
  (z:∀ch w',aw (iL ch) w'->RX P (Xh {b.at a (aS ops (i::rest)::k)with mode:=fL ch} cs) w' S):
  RX P (Xh (b.at a (aS ops (i::rest)::k)) cs) w S:=by
 refine(RX.vA W o (G:=λm w1=>m=Xh (bI P f args dH) (b.at a (aS ops (i::rest)::k)::cs)/\sT w w1) λX _ t d=>?_).aE λm w1⟨c,l⟩=>?_;let h:=stepG_enter (main:=M) (k:=k) (cs:=cs) (rest:=rest) ho hw hk<|q<|A.re w t d;rw[GC n.1]at h;let j:bW (wf P F) M (Xh (b.at a (aS ops (i::rest)::k)) cs) (A.re w t d)=_:=h;exact⟨⟨_,_,⟨_,h,O,O⟩,O,t,d,O⟩,λx C r c l _=>by rw[j]at c;cases c;exact n⟩;subst c;apply(l.cc p _ _).aE;rintro s w'⟨e,y,g⟩;cases e with
 |outgrown=>exact g.elim|returned v=>cases g;grind [zcb]
 |panicked ch=>cases g;grind [Frame.raise_at]
def wU:bA Item->Prop
 | dE (.refuse _)::_=>False|_=>True
def xZ(b:Zf)(k:bA Item)(cs:bA Zf):Exit->mh->Zg->Prop
 | eE,a,g=>wU k/\g=Xh (b.at a k) cs| .exit id,a,g=>∃s,exitTo id k=Y s/\wU s/\g=Xh (b.at a s) cs
 | .ret,a,g=>a.defers=[]/\∃L,g=Xh {b.at a L with mode:=eB} cs
 | pQ ch,a,g=>a.defers=[]/\∃L,g=Xh {b.at a L with mode:=fL ch} cs
 |_,_,_=>False
def Mv(k:bA Item):Exit->mh->Prop
 | eE,_=>wU k| .exit id,_=>∃s,exitTo id k=Y s/\wU s
 | .ret,a=>a.defers=[]| pQ _,a=>a.defers=[]
 |_,_=>False
def xZ.IX(i:oi P dm){e}(h:xZ b k cs e a g):¬xJ P g:=by
 let m:∀{k:bA Item},wU k->¬xJ P (Xh (b.at a k) cs):=by rintro k hk⟨_,⟨_,s,j,e⟩|n⟩;have e:=e;subst e;exact hk;have e:=n.1;subst e;exact hk
 cases e with
 |normal=>obtain⟨hk,rfl⟩:=h;grind
 |exit id=>obtain⟨j,_,hk,rfl⟩:=h;grind
 |goto l=>exact h.elim
 |ret=>
  exact zbm
 |panic ch=>
  exact zbm
 |outgrown=>exact h.elim
def xZ.Bw{e}(h:xZ b k cs e a g):g.callers=cs:=by
 cases e with
 |normal=>obtain⟨_,rfl⟩:=h;rfl
 |exit id=>obtain⟨d,_,_,rfl⟩:=h;rfl
 |goto l=>exact h.elim|ret=>obtain⟨_,c,rfl⟩:=h;rfl
 |panic ch=>obtain⟨_,c,rfl⟩:=h;rfl
 |outgrown=>exact h.elim
def xZ.Rs{e s}(h:xZ b k cs e a g):xZ b k s e a {g with callers:=s}:=by
 cases e with
 |normal=>obtain⟨d,rfl⟩:=h;exact⟨d,O⟩
 |exit id=>obtain⟨i,d,f,rfl⟩:=h;exact⟨i,d,f,O⟩
 |goto l=>exact h.elim|ret=>obtain⟨d,c,rfl⟩:=h;exact⟨d,c,O⟩
 |panic ch=>obtain⟨d,c,rfl⟩:=h;exact⟨d,c,O⟩
 |outgrown=>exact h.elim
def RX.wp(W:Yk P F)(m:oi P dm){c Post}(p:¬Mc P b.fn)(hk:b.kind=dH)(r:∀e a w t d,Post e a (A.re w t d)↔Post e a w)(o:∀e a w,Post e a w->Mv k e a)
  (h:∀t d,c.wp (wf P F) Post a<|A.re w t d)(q:∀e B w' X,Post e B w'->xZ b k cs e B X->RX P X w' S):RX P (Xh (b.at a (dE c::k)) cs) w S:=by
 refine(RX.tU (fr:=b.at a _) (cs:=cs) (dm:=dm) W m (End:=λX w'=>∃e B,Post e B w'/\xZ b k [dm] e B X) (λX w' t d=>?_) ?_ p hk ?_).aE ?_;grind;rintro X w'⟨e,B,_,n⟩;exact n.IX m;intro t d;let⟨e,B,w',g,f⟩:=h t d b k [dm];let i:=o _ _ _ g;cases e with
 |normal=>exact⟨_,_,w',f,eE,B,g,i,O⟩|exit id=>let⟨k',h1,n⟩:=i;exact⟨_,_,w',f k' h1,.exit id,B,g,k',h1,n,O⟩
 |goto l=>exact i.elim|ret=>let⟨L,I⟩:=f;exact⟨_,_,w',I,.ret,B,g,i,L,O⟩
 |panic ch=>let⟨L,I⟩:=f;exact⟨_,_,w',I,pQ ch,B,g,i,L,O⟩
 |outgrown=>exact i.elim
 rintro s w'⟨X,l,⟨e,B,g,f⟩,j,rfl⟩;have:l=[]:=by rw[f.Bw]at j;let:=gv T j;simp only[zx,Zr]at this;exact jv À
 subst this;exact q e B w' _ g f.Rs
def RX.IP(s:Yk P F){fn c v}(k:¬Mc P b.fn)(hk:b.kind=dH)(I:a.defers=[])(l:(wf P F).funcs[b.fn]?=Y fn)
  (i:∀t d,∃W B,(eR fn a.tmps).run (wf P F) (A.re w t d)=dG v (A.re w W B))(m:RX P (Xh (c.finish v) cs) w S):RX P (Xh {b.at a L with mode:=eB} (c::cs)) w S:=by
 refine(RX.vA s k (G:=λj w1=>j=Xh (c.finish v) cs/\sT w w1) λX _ t d=>?_).aE λj w1⟨e,g⟩=>by subst e;exact g.rx m
 let⟨W,B,i⟩:=i t d;let f:∃h,bW (wf P F) M (Xh {b.at a L with mode:=eB} (c::cs)) (A.re w t d)=ij (Xh (c.finish v) cs) (A.re w W B) h:=by simp only[bW,Xh,dT,gi,Frame.at,hk,I,l,ze,i];exact⟨_,O⟩
 let⟨h,f⟩:=f;exact⟨⟨_,_,⟨_,f,O,O⟩,O,W,B,O⟩,λn o h e g=>by rw[f]at e;cases e;let:T cs=T cs+1+1:=g;omega⟩
def RX.IQ{c ch}(s:a.defers=[])(d:∃fn,P.funcs[b.fn]?=Y fn)(i:RX P (Xh (c.raise ch) cs) w S):RX P (Xh {b.at a L with mode:=fL ch} (c::cs)) w S:=by
 let⟨fn,d⟩:=d;refine(RX.sC (es:=#[]) (g':=Xh (c.raise ch) cs) (λv=>?_) (λe=>⟨(e.2 c<|by simp[Xh]).iM _,λx j=>e.2 x<|by grind [Xh]⟩) O O Â).aE λh w1⟨f,g⟩=>Á
 grind [bW,Xh,dT,Frame.catches,Frame.at]
end
section
variable{P:cI}{F:bE kL}{s:fZ}{w:dN}{S:Exit->mh->dN->Prop}
def Yp(P:Zp)(fn:FuncId)(c:pB)(S:Exit->mh->Zy->Prop)(a:mh)(w:Zy):Prop:=
 ∀(b:Zf) (k:bA Item) (n:bA Zf) (l:Zg->Zy->Prop),b.fn=fn->b.kind=dH->(∀e A W,S e A W->Mv k e A)->
  (∀e A W h,S e A W->xZ b k n e A h->RX P h W l)->RX P (Xh (b.at a (dE c::k)) n) w l
def Yp.rH{c t}(h:Yp P fn c S a w):Yp P fn c S a<|re w t d:=λb k f e g i j l=>(h b k f e g i j l).rH
def Yp.EB{c t}:Yp P fn c S a (re w t d)↔Yp P fn c S a w:=⟨λh=>by let:=h.rH (t:=w.tape) (d:=w.drawn);grind [Ca,GI],λh=>h.rH⟩
def Yp.Df(W:Yk P F)(f:oi P s){c}(p:¬Mc P fn)(g:∀e a w t d,S e a (re w t d)↔S e a w)(h:∀t d,c.wp (wf P F) S a<|re w t d):Yp P fn c S a w:=λb k n m o i j l=>
 RX.wp W f Á i g j h l
def nH(n:mh->Zy->Prop)(S:Exit->mh->Zy->Prop):Exit->mh->Zy->Prop
 | eE,a,w=>n a w|e,a,w=>S e a w
def Yp.vU(W:Yk P F)(r:¬Mc P fn)(hy:wU [dE y])(h:Yp P fn x (nH (λA B=>Yp P fn y S A B) S) a w):Yp P fn (gU x y) S a w:=λb k i o p q f g=>by
 refine RX.fB W (g':=Xh (b.at a (dE x:: dE y::k)) i) Þ (λv=>?_) O O O ?_;simp[bW,Xh,Frame.at,aI];let hk:wU (dE y::k):=by unfold wU at hy⊢;split<;>first|trivial|grind
 refine h b _ i o p q (λe A B d=>?_) λe A B g' d c=>?_;cases e with
 |normal=>exact hk|exit id=>let⟨n,j,m⟩:=f _ _ _ d;exact⟨n,j,m⟩
 |goto l=>exact f _ _ _ d|ret=>exact f _ _ _ d
 |panic ch=>exact f _ _ _ d|outgrown=>exact f _ _ _ d
 cases e with
 |normal=>
  obtain⟨_,rfl⟩:=c;exact d b k i o p q f g
 |exit id=>obtain⟨n,j,m,rfl⟩:=c;exact g _ A B _ d ⟨n,j,m,O⟩
 |goto l=>exact c.elim|ret=>exact g .ret A B _ d c
 |panic ch=>exact g _ A B _ d c|outgrown=>exact c.elim
def Yp.Ri(n:Yk P F){o}(l:¬Mc P fn){t}(ho:a.eval o=bG t)(h:Yp P fn (if t then x else y) S a w):Yp P fn (.cond o x y) S a w:=λb k c d e f g i=>by refine RX.fB n (g':=Xh (b.at a (dE (if t then x else y)::k)) c) Þ (λv=>?_) O O O<|h b k c d e f g i;let j:(b.at a (dE (.cond o x y)::k)).eval o=bG t:=ho;grind [bW,Xh,Frame.at,aI]
def oy(P:Zp)(fn:FuncId)(ops:bE eX)(S:Exit->mh->Zy->Prop)(rest:bA Q)(a:mh)(w:Zy):Prop:=
 ∀(b:Zf) (k:bA Item) (n:bA Zf) (l:Zg->Zy->Prop),b.fn=fn->b.kind=dH->(∀e A W,S e A W->Mv k e A)->
  (∀e A W h,S e A W->xZ b k n e A h->RX P h W l)->RX P (Xh (b.at a (aS ops rest::k)) n) w l
variable{w':dN}
def Yp.ED(n:Yk P F)(j:¬Mc P fn)(h:oy P fn ops S (iC (V ops)) a w):Yp P fn (fG Ϸ ops ao) S a w:=λb k c d e f g i=>by refine RX.fB n (g':=Xh (b.at a (aS ops (iC (V ops))::k)) c) Þ (λv=>?_) O O O<|h b k c d e f g i;simp[bW,Xh,Frame.at,aI]
theorem oy.nil(n:Yk P F)(j:¬Mc P fn)(h:S eE a w):oy P fn ops S [] a w:=λb k c f g i d e=>by refine RX.fB n (g':=Xh (b.at a k) c) Þ (λv=>?_) O O O<|e eE a w _ h ⟨d _ _ _ h,O⟩;simp[bW,Xh,Frame.at,aI]
def oy.eO(W:Yk P F)(n:¬Mc P fn)(ho:ops[i]?=Y op)(hw:bP op (fN ops a.tmps)=M)
  (m:∀t d,∃B X,(aR a.eval op).run (wf P F) (re w t d)=dG (gp val) (re w' B X))(h:oy P fn ops S rest (a.put op.dst val) w'):oy P fn ops S (i::rest) a w:=λb k e c f g j l=>
 RX.eO W Á ho hw Á m (h b k e c f g j l)
def oy.rK(W:Yk P F)(n:¬Mc P fn)(ho:ops[i]?=Y op)(hw:bP op (fN ops a.tmps)=M)
  (m:∀t d,∃B X,(aR a.eval op).run (wf P F) (re w t d)=dG .skip (re w' B X))(h:oy P fn ops S rest (a.put op.dst Z') w'):oy P fn ops S (i::rest) a w:=λb k e c f g j l=>
 RX.rK W Á ho hw Á m (h b k e c f g j l)
def oy.lP(W:Yk P F){args}(r:¬Mc P fn)(B:a.defers=[])(ho:ops[i]?=Y op)(hw:bP op (fN ops a.tmps)=M)
  (q:∀v,(aR a.eval op).run (wf P F) v=dG (nN f args) v)(p:Vi P F f)(m:CC P f args w aw)
  (o:∀v w',aw (ai v) w'->oy P fn ops S rest (a.put op.dst v) w')(n:∀ch w',aw (iL ch) w'->S (pQ ch) a w'):oy P fn ops S (i::rest) a w:=λb k g e h j l d=>
 RX.lP W Á ho hw Á q p m (λv w' c=>o v w' c b k g e h j l d) (λch w' c=>d _ a w' _ (n ch w' c) ⟨B,_,O⟩)
def Yp.dP(W:Yk P F)(t:¬Mc P fn)(h:Yp P fn x (λe A w'=>match e with
  | .exit j=>if j=Ϸ then S eE A w' else S (.exit j) A w'
  |e=>S e A w') a w):Yp P fn (.block Ϸ x) S a w:=λb k o q r s f m=>by
 refine RX.fB W (g':=Xh (b.at a (dE x:: .inBlock Ϸ::k)) o) Þ (λv=>?_) O O O ?_;simp[bW,Xh,Frame.at,aI];refine h b _ o q r s (λe A w' d=>?_) λe A w' g' d c=>?_;cases e with
 |normal=>trivial|exit j=>dsimp only at d;by_cases g:j=Ϸ;rw[aT g]at d;exact⟨k,by simp[exitTo,g],f _ _ _ d⟩;rw[aL g]at d;let⟨p,i,n⟩:=f _ _ _ d;exact⟨p,by grind [exitTo],n⟩
 |goto l=>exact f _ _ _ d|ret=>exact f _ _ _ d
 |panic ch=>exact f _ _ _ d|outgrown=>exact f _ _ _ d
 cases e with
 |normal=>
  obtain⟨_,rfl⟩:=c;refine RX.fB W (g':=Xh (b.at A k) o) Þ (λv=>?_) O O O<|m eE A w' _ d ⟨f _ _ _ d,O⟩;exact ß
 |exit j=>
  dsimp only at d;obtain⟨p,i,n,rfl⟩:=c;by_cases g:j=Ϸ;rw[aT g]at d;simp only[exitTo,g,BEq.rfl,dY,xj]at i;subst i;exact m _ A w' _ d ⟨n,O⟩;rw[aL g]at d;simp only[exitTo]at i;rw[aL Á]at i;exact m _ A w' _ d ⟨p,i,n,O⟩
 |goto l=>exact c.elim|ret=>exact m .ret A w' _ d c
 |panic ch=>exact m _ A w' _ d c|outgrown=>exact c.elim
def Yp.zU(n:Yk P F)(j:¬Mc P fn)(l:a.defers=[])(h:S .ret a w):Yp P fn .ret S a w:=λb k c e f g i d=>by refine RX.fB n (g':=Xh {b.at a (dE .ret::k)with mode:=eB} c) Þ (λv=>?_) O O O<|d .ret a w _ h ⟨l,_,O⟩;simp[bW,Xh,Frame.at,aI]
def Yp.ry(W:Yk P F)(t:¬Mc P fn)(hx:wU [dE x])(I:mh->Zy->Prop)(m:mh->Zy->Q)
  (r:∀a w,I a w->Yp P fn x (λe A w'=>match e with
   | eE=>I A w'/\m A w'<m a w|e=>S e A w') a w):∀a w,I a w->Yp P fn (.loop x) S a w:=by
 let q:∀(n:Q) (a:mh) (w:Zy),m a w<=n->I a w->∀(b:Zf) (k:bA Item) (g:bA Zf) (i:Zg->Zy->Prop),b.fn=fn->b.kind=dH->(∀e A w',S e A w'->Mv k e A)->
   (∀e A w' g',S e A w'->xZ b k g e A g'->RX P g' w' i)->RX P (Xh (b.at a (dE x:: .inLoop x::k)) g) w i:=by
  intro n;induction n with
  |zero=>
   intro a w s p b k g i j o f h;refine r a w p b _ g i j o (λe A w' d=>?_) λe A w' g' d c=>?_;cases e with
   |normal=>trivial|exit id=>exact f _ _ _ d
   |goto l=>exact f _ _ _ d|ret=>exact f _ _ _ d
   |panic ch=>exact f _ _ _ d|outgrown=>exact f _ _ _ d
   cases e with
   |normal=>omega|exit id=>exact h _ _ _ _ d c
   |goto l=>exact c.elim|ret=>exact h _ _ _ _ d c
   |panic ch=>exact h _ _ _ _ d c|outgrown=>exact c.elim
  |succ n B=>
   intro a w s p b k g i j o f h;refine r a w p b _ g i j o (λe A w' d=>?_) λe A w' g' d c=>?_;cases e with
   |normal=>trivial|exit id=>exact f _ _ _ d
   |goto l=>exact f _ _ _ d|ret=>exact f _ _ _ d
   |panic ch=>exact f _ _ _ d|outgrown=>exact f _ _ _ d
   cases e with
   |normal=>
    obtain⟨_,rfl⟩:=c;refine RX.fB W (g':=Xh (b.at A (dE x:: .inLoop x::k)) g) Þ (λv=>?_) O O O<|B A w' À d.1 b k g i j o f h;exact ß
   |exit id=>exact h _ _ _ _ d c|goto l=>exact c.elim
   |ret=>exact h _ _ _ _ d c|panic ch=>exact h _ _ _ _ d c
   |outgrown=>exact c.elim
 intro a w p b k g i j o f h;refine RX.fB W (g':=Xh (b.at a (dE x:: .inLoop x::k)) g) Þ (λv=>?_) O O O<|q _ a w (zd _) p b k g i j o f h;exact ß
def CC.Ez(W:Yk P F){args c}(s:¬Mc P f)(z:F[f]?=P.funcs[f]?)(q:P.funcs[f]?=Y fnc)(x:fnc.body=Y c)(B:wU [])
  (h:Yp P f c (λe a w=>a.defers=[]/\match e with
   | eE| .ret=>∃v,(∀t d,∃A I,(eR fnc a.tmps).run (wf P F) (re w t d)=dG v (re w A I))/\aw (ai v) w
   | pQ ch=>aw (iL ch) w|_=>False) ⟨args++cL (fnc.ntmps-V args) Z',[]⟩ w):CC P f args w aw:=λo p=>by
 let y:bI P f args dH=(bI P f args dH).at ⟨args++cL (fnc.ntmps-V args) Z',[]⟩ [dE c]:=by simp[bI,Frame.at,q,x]
 rw[y];let r:(wf P F).funcs[f]?=Y fnc:=by show F[f]?=_;exact z▸q
 refine h _ [] _ _ O O (λe n m i=>?_) λe n m g' i g=>?_;cases e with
 |normal=>trivial|ret=>exact i.1
 |panic ch=>exact i.1|exit id=>grind
 |goto l=>grind|outgrown=>grind
 let X:∀(b:bA Item) v,(∀t d,∃A I,(eR fnc n.tmps).run _ _=dG v _)->aw (ai v) m->RX P (Xh {(bI P f args dH).at n b with mode:=eB} (o::p)) m (λg' m=>∃e,aw e m/\Re o p e g'):=λb v k j=>
  RX.IP W s O i.1 r k (.refl ⟨_,j,O⟩)
 cases e with
 |normal=>
  obtain⟨_,rfl⟩:=g;let⟨hd,v,k,j⟩:=i;refine RX.fB W (g':=Xh {(bI P f args dH).at n []with mode:=eB} (o::p)) s (λv=>?_) O O O<|X _ v k j;exact ß
 |ret=>
  obtain⟨_,b,rfl⟩:=g;let⟨hd,v,k,j⟩:=i;exact X _ v k j
 |panic ch=>
  obtain⟨_,b,rfl⟩:=g;exact RX.IQ i.1 ⟨_,q⟩<|.refl ⟨_,i.2,O⟩
 |exit id=>grind|goto l=>grind
 |outgrown=>grind
end
section
variable{P:cI}{F:bE kL}{s:fZ}{w:dN}{S:Exit->mh->dN->Prop}
def Yp.Rj(W:Yk P F)(r:¬Mc P fn)(v:P.follows nf=M)(h:∀t,oy P fn ops S (cU gH ops (V ops) t (cL (V ops) ao) []) a w):Yp P fn (fG Ϸ ops M) S a w:=λb k c m l o p q=>by
 let s:¬Mc P b.fn:=l▸r
 refine(RX.vA W s (G:=λj w1=>∃t,j=Xh (b.at a (aS ops (cU gH ops (V ops) t (cL (V ops) ao) [])::k)) c/\sT w w1) λX _ t d=>?_).aE λj w1⟨t,f,g⟩=>?_;let x:∃n I,bW (wf P F) M (Xh (b.at a (dE (fG Ϸ ops M)::k)) c) (A.re w t d)=ij (Xh (b.at a (aS ops (cU gH ops (V ops) n (cL (V ops) ao) [])::k)) c) I #[]/\sT w I:=by let i:(wf P F).follows nf=M:=v;refine⟨t d<|.order b.fn Ϸ,A.re w t _,?_,t,d+1,O⟩;simp[bW,Xh,Frame.at,aI,choose,gc,iZ,i,Region.linearise,A.re];rfl
 let⟨n,I,e,he⟩:=x;exact⟨⟨_,_,⟨_,e,O,O⟩,n,O,he⟩,λz B y f g=>by rw[e]at f;cases f;let:T c=T c+1:=g;omega⟩;subst f;exact g.rx<|h t b k c m l o p q
def oX(P:Zp)(fn:FuncId)(ops:bE eX)(S:Exit->mh->Zy->Prop)(i:Q)(n:mh->Zy->Prop)(a:mh)(w:Zy):Prop:=
 ∀rest,(∀A W,n A W->oy P fn ops S rest A W)->oy P fn ops S (i::rest) a w
def MH(P:Zp)(fn:FuncId)(j:kJ)(ops:bE eX)(S:Exit->mh->Zy->Prop):Q->bE ez->mh->Zy->Prop
 |0,listed,a,w=>aY j ops listed=[]/\S eE a w|n+1,listed,a,w=>(aY j ops listed=[]->S eE a w)/\∀i∈aY j ops listed,oX P fn ops S i (MH P fn j ops S n<|aA listed i M) a w
def zxy(n:Yk P F)(d:¬Mc P fn):∀(W t:Q) (l:bE ez) (a:mh) (w:Zy),MH P fn j ops S W l a w->oy P fn ops S (cU j ops W t l []) a w:=by
 intro W;induction W with
 |zero=>intro t l a w h;simpa[cU]using oy.nil (ops:=ops) n d h.2
 |succ W I=>
  intro t l a w h;let⟨X,B⟩:=h;change oy P fn ops S (match(aY j ops l)[t%T (aY j ops l)]?with
   |some i=>cU j ops W _ _ [i]|none=>[].reverse) a w
  cases A:(aY j ops l)[t%T (aY j ops l)]?with
  |none=>
   let b:aY j ops l=[]:=by cases hr:aY j ops l with|nil=>rfl|cons x xs=>grind [Nat.mod_lt]
   grind [oy.nil]
  |some i=>simp only[];rw[linearise_go_acc,Ol,Vz];exact B i (List.mem_of_getElem? A) _ λc e hk=>I _ _ c e hk
def Yp.IR(n:Yk P F)(b:¬Mc P fn)(c:P.follows nf=M)(h:MH P fn gH ops S (V ops) (cL (V ops) ao) a w):Yp P fn (fG Ϸ ops M) S a w:=
 Yp.Rj n b c λt=>zxy n b _ t _ a w h
end
section
variable{P:cI}{F:bE kL}{s:fZ}{w w':dN}{n:Exit->mh->dN->Prop}{l:mh->dN->Prop}
def oX.U{c}(h:∀a w,l a w->c a w)(k:oX P fn ops n i l a w):oX P fn ops n i c a w:=λb hk=>k b λd e f=>hk d e<|h d e f
def oX.eO(W:Yk P F)(c:¬Mc P fn)(ho:ops[i]?=Y op)(hw:bP op (fN ops a.tmps)=M)
  (e:∀t d,∃S B,(aR a.eval op).run (wf P F) (A.re w t d)=dG (gp val) (A.re w' S B))(h:l (a.put op.dst val) w'):oX P fn ops n i l a w:=λb hk=>oy.eO W c ho hw e<|hk _ _ h
def oX.rK(W:Yk P F)(c:¬Mc P fn)(ho:ops[i]?=Y op)(hw:bP op (fN ops a.tmps)=M)
  (e:∀t d,∃S B,(aR a.eval op).run (wf P F) (A.re w t d)=dG .skip (A.re w' S B))(h:l (a.put op.dst Z') w'):oX P fn ops n i l a w:=λb hk=>oy.rK W c ho hw e<|hk _ _ h
def oX.lP(W:Yk P F){args}(c:¬Mc P fn)(S:a.defers=[])(ho:ops[i]?=Y op)(hw:bP op (fN ops a.tmps)=M)
  (k:∀v,(aR a.eval op).run (wf P F) v=dG (nN f args) v)(j:Vi P F f)(e:CC P f args w aw)
  (h:∀v w',aw (ai v) w'->l (a.put op.dst v) w')(g:∀ch w',aw (iL ch) w'->n (pQ ch) a w'):oX P fn ops n i l a w:=λb hk=>oy.lP W c S ho hw k j e (λv w' d=>hk _ _<|h v w' d) g
end
section
variable{P:cI}{F:bE kL}{s:fZ}{w S:dN}{X:Exit->mh->dN->Prop}
def RX.uh{b:Zf}{W:bA Zf}{B:Zg->Zy->Prop}(ho:ops[i]?=Y op)(hw:bP op (fN ops a.tmps)=M)(hk:b.kind≠ eK)
  (o:∀v,(aR a.eval op).run P v=dG (nN f args) v)(m:∀v,lj P b.fn a op v=#[])(t:Mc P f)(l:CC P f args w aw)
  (x:∀v S,aw (ai v) S->RX P (Xh (b.at (a.put op.dst v) (aS ops rest::k)) W) S B)
  (s:∀ch S,aw (iL ch) S->RX P (Xh {b.at a (aS ops (i::rest)::k)with mode:=fL ch} W) S B):
  RX P (Xh (b.at a (aS ops (i::rest)::k)) W) w B:=by
 refine(RX.sC (g':=Xh ..) (es:=#[]) (λv=>by rw[<-m v];exact stepG_enter ho hw hk<|o v) (λd=>⟨aJ ?_,λc h=>?_⟩) O O λX n e r=>Á).aE ?_;show Mc P (bI P f args dH).fn;grind [bI];obtain rfl|j:=jc.1 h;exact d.1;exact d.2 c j;rintro p w1⟨rfl,rfl⟩;apply(l _ _).aE;rintro g' S⟨e,q,g⟩;cases e with
 |outgrown=>exact g.elim|returned v=>cases g;grind [zcb]
 |panicked ch=>cases g;grind [Frame.raise_at]
def oy.uh{args}(W:a.defers=[])(ho:ops[i]?=Y op)(hw:bP op (fN ops a.tmps)=M)
  (q:∀v,(aR a.eval op).run P v=dG (nN f args) v)(r:∀v,lj P fn a op v=#[])(o:Mc P f)(m:CC P f args w aw)
  (p:∀v S,aw (ai v) S->oy P fn ops X rest (a.put op.dst v) S)(n:∀ch S,aw (iL ch) S->X (pQ ch) a S):oy P fn ops X (i::rest) a w:=λb k g e h j l d=>
 RX.uh ho hw Á q Á o m (λv S c=>p v S c b k g e h j l d) (λch S c=>d _ a S _ (n ch S c) ⟨W,_,O⟩)
end
end
end
section
open Go.RowKit
variable[pn:Pn]
section
variable{P:cI}{F:bE kL}{s:fZ}{w w':dN}{n:Exit->mh->dN->Prop}{l:bA eX}
def rq(n:Exit->mh->Zy->Prop):Prop:=∀e a w t d,n e a (re w t d)↔n e a w
def rq.nH(h:rq n):rq<|A.nH (λW w'=>Yp P fn y n W w') n:=by
 intro e a w t d;cases e with
 |normal=>exact Yp.EB|exit id=>exact h ..
 |goto l=>exact h _ _ _ _ _|ret=>exact h ..
 |panic ch=>exact h _ _ _ _ _|outgrown=>exact h ..
def Yp.go(W:Yk P F)(b:oi P s)(c:¬Mc P fn)(e:rq n)(hy:wU [dE y])(h:∀t d,x.wp (wf P F) (A.nH (λS w'=>Yp P fn y n S w') n) a<|re w t d):Yp P fn (gU x y) n a w:=
 Yp.vU W c hy (Yp.Df W b c e.nH h)
def Yp.Aq(W:Yk P F)(b:oi P s)(c:¬Mc P fn)(f:rq n)(hy:wU [dE y])
  (h:∀(B:Zy) (S:Exit->mh->Zy->Prop),sT w B->H (∀A w',Yp P fn y n A w'->S eE A w')->H (∀e A w',e≠ eE->n e A w'->S e A w')->x.wp (wf P F) S a B):Yp P fn (gU x y) n a w:=
 Yp.go W b c f hy λt d=>h _ _ ⟨t,d,O⟩ (λA w' g=>g) λe A w' j i=>by cases e<;>first|exact i|grind
def Yp.yU(W:Yk P F)(b:oi P s)(c:¬Mc P fn)(f:rq n)
  (h:∀(S:Zy) (B:Exit->mh->Zy->Prop),sT w S->H (∀e A w',n e A w'->B e A w')->x.wp (wf P F) B a S):Yp P fn x n a w:=
 Yp.Df W b c f λt d=>h _ _ ⟨t,d,O⟩ λe A w' g=>g
def sV(P:Zp)(F:Zc)(fnc:kL)(aw:kH->Zy->Prop)(e:Exit)(a:mh)(w:Zy):Prop:=
 a.defers=[]/\match e with
   | eE| .ret=>∃v,(∀t d,∃h W,(eR fnc a.tmps).run (wf P F) (re w t d)=dG v (re w h W))/\aw (ai v) w
   | pQ ch=>aw (iL ch) w|_=>False
def Dh(b:∀e w t d,aw e (re w t d)↔aw e w):rq<|sV P F fnc aw:=by
 intro e a w t d;refine and_congr_right λ_=>?_;cases e with
 |normal=>exact ze1
 |ret=>exact ze1
 |panic ch=>grind|exit id=>grind
 |goto l=>grind|outgrown=>grind
def CC.kS(W:Yk P F){args c}(a:¬Mc P f)(e:F[f]?=P.funcs[f]?)(d:P.funcs[f]?=Y fnc)(b:fnc.body=Y c)
  (h:Yp P f c (sV P F fnc aw) ⟨args++cL (fnc.ntmps-V args) Z',[]⟩ w):CC P f args w aw:=CC.Ez W a e d b bD h
def Vh(P:Zp)(fn:FuncId)(ops:bE eX)(n:Exit->mh->Zy->Prop)(l:bA eX)(a:mh)(w:Zy):Prop:=
 ∀k,(∀j,l[j]?=ops[k+j]?)->oy P fn ops n (List.range' k (T l)) a w
def Yp.ig(e:Yk P F){l}(b:¬Mc P fn)(h:Vh P fn (bH l) n l a w):Yp P fn (fG Ϸ (bH l) ao) n a w:=by apply Yp.ED e b;let:=h 0 (λj=>Â);rwa[List.range_eq_range']
theorem Vh.nil(e:Yk P F)(b:¬Mc P fn)(h:n eE a w):Vh P fn ops n [] a w:=λk hk=>oy.nil e b h
def Vh.sU{l k}(h:∀j,(op::l)[j]?=ops[k+j]?):ops[k]?=Y op/\∀j,l[j]?=ops[k+1+j]?:=
 ⟨by simpa using(h 0).symm,λj=>by let:=h<|j+1;grind⟩
def Vh.eO(e:Yk P F)(b:¬Mc P fn)(hw:bP op (fN ops a.tmps)=M)
  (c:∀t d,∃W S,(aR a.eval op).run (wf P F) (re w t d)=dG (gp val) (re w' W S))(h:Vh P fn ops n l (a.put op.dst val) w'):Vh P fn ops n (op::l) a w:=λk hk=>by
 let⟨B,X⟩:=Vh.sU hk;rw[xg,Kv];exact oy.eO e b B hw c<|h _ X
def Vh.lP(W:Yk P F){args}(b:¬Mc P fn)(S:a.defers=[])(hw:bP op (fN ops a.tmps)=M)
  (i:∀v,(aR a.eval op).run (wf P F) v=dG (nN f args) v)(h:Vi P F f)(d:CC P f args w aw)
  (g:∀v w',aw (ai v) w'->Vh P fn ops n l (a.put op.dst v) w')(e:∀ch w',aw (iL ch) w'->n (pQ ch) a w'):Vh P fn ops n (op::l) a w:=λk hk=>by
 let⟨B,X⟩:=Vh.sU hk;rw[xg,Kv];exact oy.lP W b S B hw i h d (λv w' c=>g v w' c _ X) e
def Vh.uh{args}(W:a.defers=[])(hw:bP op (fN ops a.tmps)=M)
  (i:∀v,(aR a.eval op).run P v=dG (nN f args) v)(e:∀v,lj P fn a op v=#[])(g:Mc P f)(c:CC P f args w aw)
  (h:∀v w',aw (ai v) w'->Vh P fn ops n l (a.put op.dst v) w')(d:∀ch w',aw (iL ch) w'->n (pQ ch) a w'):Vh P fn ops n (op::l) a w:=λk hk=>by
 let⟨S,B⟩:=Vh.sU hk;rw[xg,Kv];exact oy.uh W S hw i e g c (λv w' b=>h v w' b _ B) d
end
end
section
variable[pn:Pn]
section
variable{X:Q->Prop}{Th:Loc->Prop}{B:Q}{T:gA}
def wT(Wg:Q)(l:Loc):Prop:=∃a,l=ma a/\a.block=Wg
structure My(X:ZP)(Th:Loc->Prop)(Wg C:Q):Prop where
 th:∀l,Th l->uM X l\/∃r,l=pa r/\X r
 wg:X Wg
 no:∀l,Th l->¬wT Wg l
 nc:¬Th (pa C)
 xc:X C
structure TP(X:ZP)(Th:Loc->Prop)(Wg C c:Q)(a0:Addr)(p B:Q)(T:gA):Prop where
 gB:∀S,¬Race S T
 k0:∀i a,mg T i=Y a->a.loc.isMemory=M->Knows T 0 i\/(uM X a.loc/\a.kind= .atomic)\/(T.g? i=Y c/\Th a.loc/\a.write=ao/\a.kind= .plain)\/(xI X a.loc/\¬Th a.loc/\a.write=ao)
 kc:∀i a,mg T i=Y a->Th a.loc->a.write=M->Knows T c i
 kt:∀i a,mg T i=Y a->Th a.loc->Knows T 0 i\/(T.g? i=Y c/\a.write=ao/\a.kind= .plain)
 kC:∀i a,mg T i=Y a->a.loc=pa C->a.write=ao
 kw:∀i a,mg T i=Y a->wT Wg a.loc->a.kind≠ .plain/\(a.kind= .said->Knows T 0 i)
 mD:∀i g,T.g? i=Y g->g≠0->T.counts i->(∃j,T.g? j=Y 0/\HappensBefore T i j)\/g=c
 hU:∀i a,mg T i=Y a->a.loc.low B
 ui:∀i,p<=i->T.act? i≠Y (gQ<|lK a0)
def OkT(X:ZP)(Th:Loc->Prop)(Wg C c g:Q)(b:Touch):Prop:=
 (g=0/\(¬uM X b.loc\/Th b.loc)/\(Th b.loc->b.write=ao\/c=0)/\(xI X b.loc->¬Th b.loc->b.write=ao))\/(wT Wg b.loc/\(b.kind= .atomic\/(b.kind= .said/\g=0)))\/(g=c/\Th b.loc/\b.write=ao/\b.kind= .plain)\/(g=c/\b.loc=pa C/\b.write=ao)
def TP.U{b}(h:TP X Th Wg C c a0 p B T)(d:B<=b):TP X Th Wg C c a0 p b T:=⟨h.gB,h.k0,h.kc,h.kt,h.kC,h.kw,h.mD,λi a e=>Loc.low_mono d<|h.hU i a e,h.ui⟩
def Rq(h:∀i,p<=i->T.act? i≠Y (gQ<|lK a0))(c:∀op∈u,op.act≠ gQ (lK a0)):∀i,p<=i->(T++u).act? i≠Y (gQ<|lK a0):=by intro i b a;let⟨op,n,s⟩:=zv.1 a;grind [act?_of]
def Rr(h:∀i a,mg T i=Y a->a.loc.low B)(f:∀op∈u,∀x,op.act.touch?=Y x->x.loc.low B):∀i a,mg (T++u) i=Y a->a.loc.low B:=λi a b=>by obtain⟨_,c⟩|⟨_,op,d,_,e⟩:=Z9 b;grind;grind
theorem TP.gt(A:My X Th Wg C)(h:TP X Th Wg C c a0 p B T){g}(hg:g=0\/g=c)(G:∀op∈u,op.g=g)(D:∀op∈u,∀b,op.act.touch?=Y b->b.loc.isMemory=M->OkT X Th Wg C c g b)
  (ho:∀op∈u,∀x,op.act.touch?=Y x->x.loc.low B)(hr:∀op∈u,op.act≠ gQ (lK a0))(F:∀l,Th l->l.isMemory=M):TP X Th Wg C c a0 p B<|T++u:=by
 let wx:∀l,wT Wg l->uM X l:=λl⟨a,e,y⟩=>⟨a,e,y▸A.wg⟩;let wm:∀l,wT Wg l->l.isMemory=M:=λl⟨a,e,y⟩=>by rw[e];rfl
 let wc:¬wT Wg (pa C):=λ⟨a,e,_⟩=>Æ
 let own:∀{i},T.g? i=Y 0->Knows T 0 i:=λ{i} hk=>by let⟨z,hz,hzg⟩:=zv.1 hk;grind [knows_own]
 refine⟨λsaid=>pd (h.gB said) G λi a o op d b y q=>?_,λi a o h2=>?_,λi a o t hw=>?_,λi a o t=>?_,λi a o w'=>?_,λi a o P=>?_,λi aw S ay L=>?_,Rr h.hU ho,Rq h.ui hr⟩;let wr:b.loc.isMemory=M:=q.1▸q.2.1
 let w:a.write=ao->b.write=ao->False:=λf k=>by obtain x|x:=q.2.2.1;grind;grind
 obtain⟨rfl,f,k,hd⟩|⟨f,k⟩|⟨rfl,f,k,_⟩|⟨rfl,f,k⟩:=D op d b y wr;by_cases s:Th b.loc;obtain hk|⟨hk,hx,_⟩:=h.kt i a o (q.1.symm▸s);exact hk;grind;obtain hk|⟨hs,_⟩|⟨_,I,_⟩|⟨I,hx⟩:=h.k0 i a o q.2.1;exact hk;exact dC (q.1▸hs)<|f.resolve_right s;exact dC (q.1▸I) s;exact(w hx.2<|hd (q.1▸I) s).elim;let⟨hd,I⟩:=h.kw i a o<|q.1.symm▸f;obtain k|⟨k,rfl⟩:=k;obtain x|x|⟨_,_,x⟩:=q.c;grind;grind;grind;obtain x|x|⟨_,x,_⟩:=q.c;grind;grind;grind;apply h.kc i a o<|q.1.symm▸f;grind;exact(w (h.kC i a o<|q.1.trans f) k).elim;obtain⟨r,m⟩|⟨r,op,d,v,n⟩:=Z9 o;obtain hk|hk|⟨W,g'⟩|hk:=h.k0 i a m h2;exact aJ<|hk.app u;grind;grind [g?_old];grind;let h1:Knows (T++u) g i:=ww
 obtain⟨rfl,_⟩|⟨f,k⟩|⟨rfl,f,k,hd⟩|⟨rfl,f,k⟩:=D op d a n h2;grind;grind;grind [kj];exact ac<|ac<|ac ⟨⟨C,f,A.xc⟩,f▸A.nc,k⟩;obtain⟨r,m⟩|⟨r,op,d,v,n⟩:=Z9 o;exact(h.kc i a m t hw).app u;let h1:Knows (T++u) g i:=ww
 obtain⟨rfl,_,k,_⟩|⟨f,_⟩|⟨_,_,k,_⟩|⟨_,f,_⟩:=D op d a n (F _ t);grind;exact dC f<|A.no _ t;grind;grind;obtain⟨r,m⟩|⟨r,op,d,v,n⟩:=Z9 o;exact(h.kt i a m t).imp (·.app u) λx=>⟨by grind [g?_old],x.2⟩;let h1:Knows (T++u) g i:=ww
 obtain⟨rfl,_⟩|⟨f,_⟩|⟨rfl,_,k,hd⟩|⟨_,f,_⟩:=D op d a n (F _ t);grind;exact dC f<|A.no _ t;grind [kj];exact dC (f▸t) A.nc;obtain⟨r,m⟩|⟨r,op,d,v,n⟩:=Z9 o;exact h.kC i a m w';rcases D op d a n (by rw[w'];rfl)with⟨_,_,_,k⟩|⟨f,_⟩|⟨_,_,k,_⟩|⟨_,_,k⟩;exact k ⟨C,w',A.xc⟩<|w'▸A.nc;grind;exact k;omega;obtain⟨r,m⟩|⟨r,op,d,v,n⟩:=Z9 o;exact⟨(h.kw i a m P).1,λe=>((h.kw i a m P).2 e).app u⟩;let h1:Knows (T++u) g i:=ww
 obtain⟨_,f,_⟩|⟨_,k⟩|⟨_,f,_⟩|⟨_,f,_⟩:=D op d a n (wm _ P);obtain f|f:=f;grind;exact dC P<|A.no _ f;grind;exact dC P<|A.no _ f;grind;obtain r|r:=DO i (V T);rcases h.mD i aw (by grind [g?_old]) ay ((counts_old r).1 L)with⟨j,cs,y⟩|e;let ba:j<V T:=by let⟨z,hz,_⟩:=zv.1 cs;exact ie hz
 exact aJ ⟨j,by grind [g?_old],hb_app u y⟩;omega;grind [kj]
def TP.sk(h:TP X Th Wg C c a0 p B T){g}(W:∀op∈u,op.g=g)(ay:∀op∈u,op.act.touch?=R)(I:∀op∈u,op.act≠ gQ (lK a0)):TP X Th Wg C c a0 p B<|T++u:=by
 refine⟨λsaid=>pd (h.gB said) W λi a l op f b t L=>Á,λi a l S=>?_,λi a l q P=>?_,λi a l q=>?_,λi a l w=>?_,λi a l s=>?_,λi v y r o=>?_,Rr h.hU λop f x n=>Á,Rq h.ui I⟩;obtain⟨k,d⟩|⟨k,op,f,n,m⟩:=Z9 l;obtain hk|hk|⟨F,G⟩|hk:=h.k0 i a d S;exact aJ<|hk.app u;grind;grind [g?_old];grind;grind;obtain⟨k,d⟩|⟨k,op,f,n,m⟩:=Z9 l;exact(h.kc i a d q P).app u;grind;obtain⟨k,d⟩|⟨k,op,f,n,m⟩:=Z9 l;exact(h.kt i a d q).imp (·.app u) λx=>⟨by grind [g?_old],x.2⟩;grind;obtain⟨k,d⟩|⟨k,op,f,n,m⟩:=Z9 l;exact h.kC i a d w;grind;obtain⟨k,d⟩|⟨k,op,f,n,m⟩:=Z9 l;exact⟨(h.kw i a d s).1,λe=>((h.kw i a d s).2 e).app u⟩;grind;let⟨x,n,_⟩:=id o;obtain k|k:=DO i (V T);rcases h.mD i v (by grind [g?_old]) r ((counts_old k).1 o)with⟨j,D,t⟩|e;let A:j<V T:=by let⟨z,hz,_⟩:=zv.1 D;exact ie hz
 exact aJ ⟨j,by grind [g?_old],hb_app u t⟩;omega;grind [touch_of]
def TP.Rg(h:TP X Th Wg C 0 a0 p B T)(hd:c≠0)(P:Deaf T 0=0)(w:Deaf T c=0){x y}(hx:x.g=0/\x.act= .go c)(hy:y.g=c/\y.act= .start):TP X Th Wg C c a0 p B<|T++#[x,y]:=by
 let W:(T++#[x,y])[V T]?=Y x:=Â
 let F:(T++#[x,y])[V T+1]?=Y y:=Â
 let m:HappensBefore (T++#[x,y]) (V T)<|V T+1:=by refine .single<|ac ⟨.spawn (by rw[act?_of W,hx.2]) (by rw[act?_of F,hy.2])<|by simp[kj,hy.1],⟨0,by simp[kj,hx.1],?_⟩,⟨c,by simp[kj,hy.1],?_⟩⟩;rw[deaf_old<|zd _];exact P;rw[deaf_succ W,deaf_old<|zd _];let:T.deaf c (V T)=0:=w;grind [deafStep]
 have S:∀l∈#[x,y],l.act.touch?=R:=λl d=>by simp at d;obtain rfl|rfl:=d;rw[hx.2];rfl;rw[hy.2];rfl
 have k:∀{i a},mg (T++#[x,y]) i=Y a->mg T i=Y a:=λ{i a} f=>by obtain⟨r,v⟩|⟨r,l,d,hx,h1⟩:=Z9 f;exact v;grind
 let A:∀{i a},mg T i=Y a->i<V T:=λ{i a} f=>by let⟨z,hz,_⟩:=touch_of f;grind
 refine⟨λsaid=>?_,λi a f L=>?_,λi a f s ay=>?_,λi a f s=>aJ ?_,λi a f I=>h.kC i a (k f) I,λi a f G=>⟨(h.kw i a (k f) G).1,λe=>((h.kw i a (k f) G).2 e).app _⟩,λi g aw D n=>?_,Rr h.hU λl d x hx=>Á,Rq h.ui λl d=>?_⟩;let e:T++#[x,y]=(T++#[x])++#[y]:=by rw[Xn];rfl
 rw[e];refine pd (g:=c) (pd (g:=0) (h.gB said) (λl d=>É) λi a f l d b hb _=>?_) (λl d=>É) λi a f l d b hb _=>?_;simp_all;simp_all;obtain hk|hk|⟨hk,_⟩|hk:=h.k0 i a (k f) L;exact aJ<|hk.app _;grind;let⟨z,hz,hzg⟩:=zv.1 hk;grind [knows_own];grind;let⟨q,z,hz,hzg,hb⟩:=h.kc i a (k f) s ay;let o:=ie hz;exact⟨V T+1,y,F,hy.1,ac<|(hb.app _).hb<|.trans (.single<|aJ ⟨o,0,by simp[kj,getElem?_append_old o,hz,hzg],by simp[kj,hx.1]⟩) m⟩;obtain hk|⟨hk,_⟩:=h.kt i a (k f) s;exact hk.app _;let⟨z,hz,hzg⟩:=zv.1 hk;grind [knows_own];obtain r|r:=DO i (V T);rcases h.mD i g (by grind [g?_old]) D ((counts_old r).1 n)with⟨j,w',hb⟩|e;let h2:j<V T:=by let⟨z,hz,_⟩:=zv.1 w';exact ie hz
 exact aJ ⟨j,by grind [g?_old],hb_app _ hb⟩;omega;exfalso;let⟨t,ht,_⟩:=n;let:=A<|k ht;omega;simp at d;obtain rfl|rfl:=d;grind;grind
structure vT(a:Addr)(c:Q)(T:gA)(r:Q):Prop where
 Mw:T.act? r=Y (gQ<|.releaseMerge a)
 g:T.g? r=Y c
 Dd:T.heard r
 Dc:∀i,r<i->T.g? i=Y c->¬T.counts i
theorem vT.gt{a}(h:vT a c T r)(k:∀i,V T<=i->(T++u).g? i=Y c->¬(T++u).counts i):vT a c (T++u) r:=by
 let d:=lt_of_act? h.Mw;refine⟨act?_old d▸h.Mw,g?_old d▸h.g,(heard_old d).2 h.Dd,λi f j=>?_⟩;obtain b|e:=DO i (V T);rw[counts_old b];exact h.Dc i f<|by grind [g?_old]
 grind
def TP.Rh(A:My X Th Wg C)(h:TP X Th Wg C c a0 p B T){q}(f:vT a0 c T r)(S:p<=r)(L:T.act? q=Y (gQ<|.acquire a0))(W:T.g? q=Y 0)(G:T.heard q)(s:r<q)(hd:Deaf T 0=0)
  {X'}(y:∀l,uM X l->¬Th l->uM X' l)(D:∀l,xI X l->¬Th l->xI X' l):vB X' B T:=by
 let d:HappensBefore T r q:= .single (ac ⟨.marked s (ac f.Mw) L λk hk _=>h.ui k À,f.Dd,G⟩);obtain⟨z,x,e⟩:∃z,T[q]?=Y z/\z.g=0:=by let⟨z,x,e⟩:=zv.1 W;grind
 let ay:∀i,T.g? i=Y c->T.counts i->HappensBefore T i q:=λi a m=>by let P:=Nat.le_of_not_lt λb=>f.Dc i b a m;obtain b|F:=DO i r;exact .trans (.single<|aJ ⟨b,c,a,f.g⟩) d;grind
 refine⟨h.gB,λi t v w=>?_,λi g a o m=>?_,hd,h.hU⟩;by_cases j:Th t.loc;obtain hk|⟨n,w',I⟩:=h.kt i t v j;grind;exact aJ ⟨q,z,x,e,ac<|ay i n ⟨t,v,w,aJ Á⟩⟩;obtain hk|hk|⟨_,hk,_⟩|hk:=h.k0 i t v w;grind;grind;grind;grind;obtain hk|rfl:=h.mD i g a o m;exact hk;grind
end
end
section
open Go.ConcN (sumTo upd sumTo_upd upd_ne upd_same RW DWs AtR0 AtK1 AtD1 AtD2 AtD3 AtD4 WgLive PayAt Has AsideCell EvW)
open Go.ConcR (KK wgBlock WgAt stA smA rd wr mk Payload DC0)
variable[pn:Pn]
section
variable[dO](P:cI)(n:oW)(l C:Q)(S:Q->Prop)(D F c:Q)(s:bA eJ)(o:Q->Obj)
def wW(S:ZP)(F:Q)(l:Loc):Prop:=(∃a,l=ma a/\(S a.block\/a.block=F))\/∃x,l=pa x/\(S x\/x=F)
def Kc(S:ZP)(F:Q)(o:Q->Obj)(w:Zy):Prop:=∀x,S x\/x=F->w.heap[x]?=Y (o x)
def RS(S:ZP)(F:Q)(o:Q->Obj)(w W:Zy):Prop:=Kc S F o w->Kc S F o W
def Db(S:ZP)(F:Q)(e:me):Prop:=(∀x,(cA e).touch?=Y x->wW S F x.loc/\x.write=ao/\x.kind= .plain)/\e.loc≠ .mark oG/\e.loc≠ .mark oF/\∀a,e.loc≠ .mark (lK a)
def DS(S:ZP)(F:Q)(w W:Zy)(es:bE me):Prop:=W=w/\∀e∈es,Db S F e
def xY:Q->Loc->Prop:=λ_ _=>False
def Rm(g:Zg)(w:Zy):Prop:=g.status=bK/\(WgLive n l w->∃v0 h e W,
 gk P ao (RW n l D 3 0 0) (DWs l xY xY D 3 1) (AtR0 P n l D 3 0 1 v0) e g w/\gk P ao (RW n l D 3 0 1) (DWs l xY xY D 3 2) (AtR0 P n l D 3 0 2 h) W g w)
def Fin(g:Zg)(w:Zy):Prop:=∃m,gk P ao (RS S F o) (DS S F) (Rm P n l D) m g w
def I0(g:Zg)(w:Zy):Prop:=g.status=bK/\mayWake P g=M/\∀h B s r,w.heap[C]?=Y (.chan h B ao s r ao)->
 ∃e:Zg,bW P ao g w=ij e (w.setChan C h B M s r ao) #[⟨pa C,ao,M⟩,⟨pa C,M,M⟩]/\e.status=bK/\∀W,Kc S F o W->Fin P n l S D F o e W
def Gh(v:Zv)(W:Zg->Zy->Prop)(g:Zg)(w:Zy):Prop:=g.status=bK/\∃h z es,bW P ao g w= .comm h #[scase C v z] M .send w es/\(∀e∈es,Db S F e)/\∀B,Kc S F o B->W (mU h Z') B
def Di:Ze->Zg->Zy->Prop
 |[],g,w=>∃m,gk P ao (RS S F o) (DS S F) (I0 P n l C S D F o) m g w|v::h,g,w=>∃m,gk P ao (RS S F o) (DS S F) (Gh P C S F o v<|Di h) m g w
inductive Ch:Q->Q->Q->Ze->Zg->Zy->Prop
 |send {v vs m b w:_} (h:gk P ao (RS S F o) (DS S F) (Gh P C S F o v<|Di P n l C S D F o vs) m b w):Ch 0 (10+T vs) m (v::vs) b w
 |cls {m b w:_} (h:gk P ao (RS S F o) (DS S F) (I0 P n l C S D F o) m b w):Ch 0 9 m [] b w
 |fin {m b w:_} (h:gk P ao (RS S F o) (DS S F) (Rm P n l D) m b w):Ch 0 8 m [] b w
 |dn {v0 v1 m0 m1 b w:_} (h0:gk P ao (RW n l D 3 0 0) (DWs l xY xY D 3 1) (AtR0 P n l D 3 0 1 v0) m0 b w) (h1:gk P ao (RW n l D 3 0 1) (DWs l xY xY D 3 2) (AtR0 P n l D 3 0 2 v1) m1 b w):Ch 0 7 (m0+m1) [] b w
 |rel {k m b w:_} (hk:k=1\/k=2) (h:gk P ao (RW n l D 3 0<|k-1) DC0 (AtK1 P n l D 3 0 k) m b w):Ch 0 6 m [] b w
 |deaf {k m b w:_} (hk:k=1\/k=2) (h:gk P ao (RW n l D 3 0<|k-1) DC0 (AtD1 P n l D 3 0 k) m b w):Ch 1 5 m [] b w
 |d2 {k m b w:_} (hk:k=1\/k=2) (h:gk P ao (RW n l D 3 0<|k-1) DC0 (AtD2 P n l D 3 0 k) m b w):Ch 1 4 m [] b w
 |d3 {k m b w:_} (hk:k=1\/k=2) (h:gk P ao (RW n l D 3 0<|k-1) DC0 (AtD3 P n l D 3 0 k) m b w):Ch 1 3 m [] b w
 |d4 {k m b w:_} (hk:k=1\/k=2) (h:gk P ao (RW n l D 3 0<|k-1) DC0 (AtD4 P n l) m b w):Ch 1 2 m [] b w
 |out {d m b w:_} (h:QuitsD P m d b):Ch d 1 m [] b w
def oV(rg st:Q):U:=if rg=0\/rg=4 then(if st<=1 then 0 else KK)else if 5<=st then KK+1 else if 3<=st then 1 else 0
def nY(rg st:Q):U:=if rg=1/\st<=1 then 1 else 0
def De(rg:Q):Prop:=rg≠0/\rg≠1/\rg≠4
def e0(rg:Q):Q:=if rg=0 then 0 else 1
structure jC(X:ZP)(p rg r d st m:Q)(left:Ze)(b:Zg)(q:Q->Q)(gs:bE Zg)(v:Zy)(t:gA):Prop where
 iE:0<c
 aD:V gs=c+1
 hb:gs[c]?=Y b
 pJ:∀i g,0<i->i<c->gs[i]?=Y g->QuitsD P (q i) (Deaf t i) g
 eN:∀j,c<j->Deaf t j=0
 ch:Ch P n l C S D F o d st m left b v
 kc:Kc S F o v
 vS:PayAt D 3 v
 lf:v.heap[C]?=Y (.chan (T s) (bH ((s.take<|T s-T left).drop r)) (bR (st<=8)) (T s-T left) r ao)
 uH:r<=T s-T left
 kz:left=s.drop (T s-T left)
 wg:WgAt n l v (oV rg st)<|nY rg st
 rJ:1<st->st<5->rg=1
 rI:De rg->st<=1
 tp:TP X (wW S F) l C c (stA l) p (V<|Z v) t
 nG:Deaf t 0=e0 rg
 kv:Deaf t c=d
 rel:st<=6->∃rr,p<=rr/\vT (stA l) c t rr
 pt:p<=V t
def JC(X:ZP)(p rg r:Q)(k:Q×Q)(gs:bE Zg)(v:Zy)(t:gA):Prop:=
 ∃d st m left b q,jC P n l C S D F c s o X p rg r d st m left b q gs v t/\k=(st,m+kD c q)
end
section
variable[dO]{P:cI}{F:oW}{S:Q->Prop}{s:bA eJ}{X:Q->Prop}
def Zi{aw c n}(b:∀g w,n g w->g.status=bK)(a:∀w,aw w w){g}(h:gk P ao aw c n m g w):g.status=bK:=by
 cases m with
 |zero=>exact b _ _<|h w<|a w
 |succ m=>exact zd9
def V7(w):RW F Wg D 3 0 i w w:=⟨λ_ _ _ _=>O,id,id,O⟩
def Ch.kr(h:Ch P F Wg C S D ay o d st m left b w):b.status=bK\/b.status= .finished:=by
 cases h with
 |send h=>exact zaz
 |cls h=>exact zaz
 |fin h=>exact zaz
 |dn n l=>exact aJ<|Zi (λ_ _ x=>x.1) V7 n
 |rel hk h=>exact σ
 |deaf hk h=>exact σ
 |d2 hk h=>exact σ
 |d3 hk h=>exact σ
 |d4 hk h=>exact σ
 |out h=>exact h.status
def Ch.vb{w₁}(h:Ch P F Wg C S D ay o d st m left b w)(hk:Kc S ay o w)(n:S D)(r:∀x,S x\/x=ay->w₁.heap[x]?=w.heap[x]?)(y:WgLive F Wg w₁):
  Ch P F Wg C S D ay o d st m left b w₁:=by
 let s:=r D<|aJ n;let p:RS S ay o w w₁:=λh x t=>(r x t).trans<|h x t;let q:∀a b c,RS S ay o a b->RS S ay o b c->RS S ay o a c:=λ_ _ _ f k x=>k<|f x;let g:∀i,RW F Wg D 3 0 i w w₁:=λi=>⟨λb l=>dC l<|Nat.not_lt_zero _,λ_=>y,λ⟨v,e,z⟩=>⟨v,s.trans e,z⟩,by simp[N,s]⟩;let j:∀i a b c,RW F Wg D 3 0 i a b->RW F Wg D 3 0 i b c->RW F Wg D 3 0 i a c:=λi _ _ _ f k=>⟨λb l=>dC l<|Nat.not_lt_zero _,k.live∘f.live,k.pay∘f.pay,k.cell.trans f.cell⟩;cases h with
 |send h=>exact .send<|h.rely q p
 |cls h=>exact .cls<|h.rely q p
 |fin h=>exact .fin<|h.rely q p
 |dn W f=>exact .dn (W.rely (j _)<|g _)<|f.rely (j _)<|g _
 |rel hk h=>exact .rel hk<|h.rely (j _)<|g _
 |deaf hk h=>exact .deaf hk<|h.rely (j _)<|g _
 |d2 hk h=>exact .d2 hk<|h.rely (j _)<|g _
 |d3 hk h=>exact .d3 hk<|h.rely (j _)<|g _
 |d4 hk h=>exact .d4 hk<|h.rely (j _)<|g _
 |out h=>exact .out h
def Ő(h:Sm P X w v){x}(hx:X x)(d:Pn.N<=x){b}(ho:∀o n,NR o n->v.heap[x]?=Y n->NR o b):Sm P X w {v with heap:=aA v.heap x b}:=by
 refine⟨by simpa using h.aD,λr a=>?_,λr a=>?_,h.rA,h.nQ,h.gY,h.os,h.cX,⟨h.rl.1,λr a c=>by
  let:x≠r:=À
  rw[show({v with heap:=aA v.heap x b}:Zy).heap=aA v.heap x b from O,zl this];exact h.rl.2 r a c⟩⟩
 let:x≠r:=by rintro rfl;exact a hx
 rw[show({v with heap:=aA v.heap x b}:Zy).heap=aA v.heap x b from O,zl this];exact h.out r a;let⟨o,n,e,l,W⟩:=h.jH r a;grind
def MF(h:Sm P X w v)(hx:X C)(c:Pn.N<=C){cap s cap' s' r'' B buf' a cl' n tm'}(d:v.heap[C]?=Y (.chan cap B a s r' n)):Sm P X w<|v.setChan C cap' buf' cl' s' r'' tm':=
 Ő h hx c λo j f e=>by rw[d]at e;cases e;obtain⟨b,_⟩|⟨g,e,_,i⟩:=f;exact aJ ⟨b,O⟩;grind
def MB{st a}(h:WgAt F Wg v st a)(x):World.setCell v (stA Wg) (aD .u64 x)={v with heap:=aA v.heap Wg<|wgBlock F x a}:=by grind [WgAt,World.setCell,stA,modify_eq_set,wgBlock]
def œ{st f}(h:Sm P X w v)(hx:X Wg)(b:Pn.N<=Wg)(c:WgAt F Wg v st f)(x y):Sm P X w {v with heap:=aA v.heap Wg<|wgBlock F x y}:=
 Ő h hx b λo j d e=>by rw[show v.heap[Wg]?=Y _ from c]at e;cases e;obtain⟨_,a⟩|⟨g,e,i,a⟩:=d;grind [wgBlock,GA];simp[wgBlock,Obj.cells.injEq]at a;exact ac ⟨_,F,Á,O⟩
end
end
section
open Go.ConcN (sumTo upd sumTo_upd upd_ne upd_same RW DWs AtR0 AtK1 AtD1 WgLive PayAt Has AsideCell EvW)
open Go.ConcR (KK wgBlock WgAt stA smA rd wr mk Payload DC0)
variable[pn:Pn]
section
variable[dO]{P:cI}{ty:oW}{S:Q->Prop}{vals:bA eJ}{X:Q->Prop}
def EH:∀l,wW S ay l->l.isMemory=M:=by rintro l (⟨a,rfl,_⟩|⟨x,rfl,_⟩)<;>rfl
def xyj(hk:Kc S ay o v){l}(h:wW S ay l):l.low (V<|Z v):=by obtain⟨a,rfl,b⟩|⟨x,rfl,b⟩:=h;exact(za.1<|hk _ b).1;exact(za.1<|hk x b).1
theorem mN{g pos}:∀op∈aZ g fn pos es,op.g=g:=λop a=>Ø
theorem EF{e m}(h:cA e=gQ m):e.loc= .mark m:=by
 let⟨l,w,s⟩:=e;cases l with
 |mark n=>grind [cA]|obj r=>cases w<;>cases s<;>simp[cA]at h
 |_=>grind [cA]
def Rl(A:My X (wW S ay) Wg C)(h:TP X (wW S ay) Wg C c (stA Wg) p (V<|Z v) t)(hk:Kc S ay o v){pos}(d:∀e∈es,Db S ay e):
  TP X (wW S ay) Wg C c (stA Wg) p (V<|Z v) (t++aZ c fn pos es):=by
 refine h.gt A (ac O) mN (λg a b j l=>?_) (λg a x k=>?_) (λg a e=>?_) EH;obtain⟨e,f,rfl⟩:=zy a;exact ac<|ac<|aJ ⟨O,(d e f).1 b j⟩;obtain⟨e,f,rfl⟩:=zy a;exact xyj hk ((d e f).1 x k).1;obtain⟨i,f,rfl⟩:=zy a;exact(d i f).c _<|EF e
def Rt(a:∀e∈es,Db S ay e)(d):dF d es=d:=deafBehind_still (λe b=>⟨(a e b).2.1,(a e b).2.2.1⟩) d
theorem jC.eG(h:jC P ty Wg C S D ay c vals o X p rg r d st m left b q gs v t)
  {f v' u F d' st' m' a}(A:V f=V gs)(w':f[c]?=Y F)
  (s:∀j x',j≠c->f[j]?=Y x'->∃x,gs[j]?=Y x/\∀n d,QuitsD P n d x->x'=x)(W:∀op∈u,op.g=c)(G:Ch P ty Wg C S D ay o d' st' m' a F v')(hd:Kc S ay o v')(w:PayAt D 3 v')
  (l:v'.heap[C]?=Y (.chan (T vals) (bH ((vals.take<|T vals-T a).drop r)) (bR (st'<=8)) (T vals-T a) r ao))(h1:r<=T vals-T a)(k:a=vals.drop (T vals-T a))
  (h2:WgAt ty Wg v' (oV rg st')<|nY rg st')(B:1<st'->st'<5->rg=1)(z:De rg->st'<=1)(L:TP X (wW S ay) Wg C c (stA Wg) p (V<|Z v')<|t++u)(e:Deaf (t++u) c=d')(y:st'<=6->∃rr,p<=rr/\vT (stA Wg) c (t++u) rr):
  jC P ty Wg C S D ay c vals o X p rg r d' st' m' a F q f v' (t++u):=by
 refine⟨h.iE,by rw[A,h.aD],w',λi g ho I wr=>?_,λj aw=>?_,G,hd,w,l,h1,k,h2,B,z,L,?_,e,y,ð⟩;let⟨x,hx,hq⟩:=s i g À wr;let:=h.pJ i x ho I hx;rw[hq _ _ this,dJ t (g':=c) À u W];omega;rw[dJ t (g':=c) À u W];exact h.eN j aw;exact dJ t (g':=c) (Jk h.iE) u W▸h.nG
def IU{b a}:∀j s,j≠c->(aA (gs.map<|woken P b a v') c a)[j]?=Y s->∃x,gs[j]?=Y x/\∀n d,QuitsD P n d x->s=x:=λj s e f=>by grind [jJ]
def IT{b a d}(f:c≠0)(e:gs[0]?=Y d):(aA (gs.map<|woken P b a v') c a)[0]?=Y (woken P b a v' d):=Á
def Vc{aw a s}(b:∀w,aw w w){g}(h:gk P ao aw a s m g w):
  s g w\/∃l n W es,m=l+1/\bW P ao g w=ij n W es/\a w W es/\gk P ao aw a s l n W:=by
 cases m with
 |zero=>exact aJ<|h w<|b w
 |succ m=>obtain h|⟨_,h⟩:=h;grind;right;let:=h w<|b w;cases e:bW P ao g w with|go n W es=>grind [goes_go]|_=>rw[e]at this;exact this.elim
def xb7(a:AsideCell D 3 0 v v')(g:AsideCell D 3 1 v v')(f:PayAt D 3 v):v'.heap=v.heap:=by
 let⟨l,e,B⟩:=id f;let⟨s,n,W⟩:=a.pay f;apply Vn;intro b;by_cases c:b=D;subst c;rw[e,n];let:s=l:=by
  apply Vn;intro i;let h:N v' (K b i)=N v (K b i):=by by_cases d:i=0;subst d;exact g.cells 0 À;exact a.cells i d
  simpa[N,e,n]using h
 rw[this];exact a.block b c
def xe5(a:AsideCell D 3 0 v v')(b:AsideCell D 3 1 v v')(h:PayAt D 3 v):∃d,v'=v.at d:=by have g:=xb7 a b h;let⟨A,I,W,os,l⟩:=v;let⟨B,F,s,os',n⟩:=v';have c:=a.tape;have e:=a.os;have f:=a.output;subst g c e f;exact⟨s,O⟩
end
end
section
open Go.ConcN (sumTo upd sumTo_upd upd_ne upd_same RW DWs AtR0 AtK1 AtD1 WgLive PayAt Has AsideCell EvW ShN)
open Go.ConcR (KK wgBlock WgAt stA smA rd wr mk Payload DC0)
variable[pn:Pn]
section
variable[dO]{P:cI}{ty:oW}{S:Q->Prop}{vals:bA eJ}{X:Q->Prop}
def IW{a b}(d:5<=a)(e:5<=b):oV c a=oV c b:=by grind [oV]
def IV{a b}(d:2<=a)(e:2<=b):nY c a=nY c b:=by grind [nY]
structure Zs(X:ZP)(Wg C:Q)(S:ZP)(D ay:Q):Prop where
 fh:My X (wW S ay) Wg C
 xc:X C
 xw:X Wg
 sd:S D
 cs:∀x,S x\/x=ay->x≠C
 wc:Wg≠C
 ws:∀x,S x\/x=ay->x≠Wg
 nc:Pn.N<=C
 nw:Pn.N<=Wg
def MG(P:cI)(ty:oW)(Wg C:Q)(S:ZP)(D ay c:Q)(vals:Ze)(o:Q->Obj)(X:ZP)(p rg r:Q)(e:Zg)(st I:Q)(q:Q->Q)(gs:bE Zg)(v:Zy)(sl:dD<|Nat×Q)(t:gA)(d' n:Q)(l:Ze):Prop:=
 ∃h v' W ops F B,runT P (gJ gs v sl) c=(gP<|crowd h v' W,ops)/\AI (n,F+kD c q) (st,I+kD c q)/\(∃s,h[0]?=Y s/\(s=e\/∃a a',s=woken P a a' v' e)/\(rg=1->n<=1->1<st->∃A,mayWake P A=M/\B.status≠ .blocked/\B.status≠ .waiting/\s=woken P A B v' e))/\
  jC P ty Wg C S D ay c vals o X p rg r d' n F l B q h v' (t++ops)/\(∀w,Sm P X (re w v.tape v.drawn) v->Sm P X (re w v'.tape v'.drawn) v')/\(st<=6->∀rr,vT (stA Wg) c t rr->vT (stA Wg) c (t++ops) rr)
def wV(P:cI)(ty:oW)(Wg C:Q)(S:ZP)(D ay c:Q)(vals:Ze)(o:Q->Obj)(X:ZP)(p rg r:Q)(n:Zg)(st h:Q)(q:Q->Q)(gs:bE Zg)(v:Zy)(e:dD<|Nat×Q)(t:gA):Prop:=
 ∃W s l,MG P ty Wg C S D ay c vals o X p rg r n st h q gs v e t W s l
variable{left:bA eJ}{b g0:cR}{gs:bE cR}{v:dN}{sl:dD<|Nat×Q}
def IZ(h:jC P ty Wg C S D ay c vals o X p rg r d st m left b q gs v t){a:Zg}(f:bW P ao b v=ij a v' es):
  runT P (gJ gs v sl) c=(gP<|crowd (aA (gs.map<|woken P b a v') c a) v' sl,aZ c b.frame.fn b.frame.place es):=by
 let e:(c==0)=ao:=zb5
 exact qD h.hb Á
def EG(B:Zs X Wg C S D ay)(h:jC P ty Wg C S D ay c vals o X p rg r d st m left b q gs v t)(G:gs[0]?=Y g0){f:Zg}(k:bW P ao b v=ij f (v.at dr) es)
  {st' m' F:Q}(g:Ch P ty Wg C S D ay o d st' m' left f (v.at dr))(j:AI (st',m'+kD c q) (st,F+kD c q))(I:bR (st'<=8)=bR (st<=8))(n:oV rg st'=oV rg st/\nY rg st'=nY rg st)(s:5<=st'/\5<=st\/st'=st)(W:st'<=6->st<=6)
  (l:TP X (wW S ay) Wg C c (stA Wg) p (V<|Z v)<|t++aZ c b.frame.fn b.frame.place es)(i:dF d es=d)(hd:st<=6->es=#[]):MG P ty Wg C S D ay c vals o X p rg r g0 st F q gs v sl t d st' left:=by
 let z:c<V gs:=ñ
 refine⟨_,v.at dr,sl,_,m',f,IZ h k,j,⟨_,IT (Jk h.iE) G,ac ⟨b,f,O⟩,λ_ x y=>À⟩,h.eG Â Á IU mN g h.kc h.vS (I▸h.lf) h.uH h.kz (by rw[n.1,n.2];exact h.wg) (λx y=>s.elim (λs=>À) λe=>h.rJ À À) (λx=>zz2) l (by rw[mn,h.kv,i]) ?_,λw A=>A.re ..,λa rr w'=>by grind [fp]⟩;intro a;let⟨rr,hp,w'⟩:=h.rel<|W a;grind [fp]
def IY(B:Zs X Wg C S D ay)(h:jC P ty Wg C S D ay c vals o X p rg r d st m left b q gs v t)(i:gs[0]?=Y g0)(f:bW P ao b v=ij g v' es)(k:DS S ay v v' es)
  {s:Q}(e:Ch P ty Wg C S D ay o d st s left g v')(l:s<m)(j:¬st<=6):MG P ty Wg C S D ay c vals o X p rg r g0 st m q gs v sl t d st left:=by
 obtain⟨rfl,a⟩:=k;exact EG B h i f e (.right _ À) O ⟨O,O⟩ (ac O) id (Rl B.fh h.tp h.kc a) (Rt a d) λx=>dC x j
def ŏ{a}(h:Di P ty Wg C S D ay o a b w):∃m,Ch P ty Wg C S D ay o 0 (9+T a) m a b w:=by
 cases a with
 |nil=>let⟨m,h⟩:=h;exact⟨m,.cls h⟩
 |cons v a=>let⟨m,h⟩:=h;exact⟨m,by let:=Ch.send h;grind⟩
def ŗ{a}(b:v0::a=vals.drop (T vals-T (v0::a)))(f:r<=T vals-T (v0::a)):
  (bH ((vals.take<|T vals-T (v0::a)).drop r)).push v0=bH ((vals.take<|T vals-T a).drop r)/\T vals-T a=T vals-T (v0::a)+1/\a=vals.drop (T vals-T a):=by
 have c:T (v0::a)<=T vals:=by let:=gv T b;simp only[Zn]at this;omega
 simp only[xg]at*;let e:T vals-T a=T vals-(T a+1)+1:=À
 let g:vals.take (T vals-(T a+1)+1)=vals.take (T vals-(T a+1))++[v0]:=by
  rw[List.take_add_one];congr 1;let d:vals[T vals-(T a+1)]?=Y v0:=by let:=gv (λl=>l[0]?) b;simpa using this.symm
  rw[d];rfl
 refine⟨?_,e,?_⟩;grind;rw[e];let:=gv List.tail b;simpa using this
theorem xzy(B:Zs X Wg C S D ay){a:Ze}(h:jC P ty Wg C S D ay c vals o X p rg r 0 (10+T a) m (v0::a) b q gs v t)(hx:gs[0]?=Y g0)(ho:offersAt g0 C ao=[])
  (I:Gh P C S ay o v0 (Di P ty Wg C S D ay o a) b v):wV P ty Wg C S D ay c vals o X p rg r g0 (10+T a) m q gs v sl t:=by
 let⟨_,g₂,z,es,hst,hes,hnext⟩:=I;let G:(c==0)=ao:=zb5
 let L:c<V gs:=ñ
 let k:=h.lf;rw[show bR _=ao by grind]at k;let⟨e1,e2,e3⟩:=ŗ h.kz h.uH;let aw:partners _ C ao=[]:=partners_nil λj x n=>by
  obtain⟨_,rfl⟩|⟨A,F⟩:=getElem?_stand gs c j x n;exact offersAt_ph ..;obtain rfl|w':=jh j;grind;refine lI ?_ ..;let hd:j<c:=by let:=(za.1 F).1;rw[h.aD]at this;omega
  rcases(h.pJ j x w' hd F).status with e|e<;>rw[e]<;>simp
 let l:V ((vals.take<|T vals-T (v0::a)).drop r).toArray<T vals:=by simp only[jd,Zn,xf,xg];let:=gv T h.kz;omega
 let i:=crowd_send_room (sl:=sl) h.hb (G▸hst) k l aw;rw[finishComm_send]at i;let v':=v.setChan C (T vals) ((bH ((vals.take<|T vals-T (v0::a)).drop r)).push v0) ao (T vals-T (v0::a)+1) r ao;let f:∀x,x≠C->v'.heap[x]?=v.heap[x]?:=λx n=>by show(aA v.heap C _)[x]?=_;grind
 let h1:V (Z v')=V (Z v):=zd1
 let s:Kc S ay o v':=λx n=>(f x<|B.cs x n).trans<|h.kc x n;let⟨m',hm'⟩:=ŏ<|hnext v' s;refine⟨0,9+T a,a,_,v',sl,_,m',mU g₂ Z',i,.left _ _ À,?_,h.eG Â Á (λj wr A n=>?_) (λW d=>?_) hm' s ?_ ?_ (by let:=h.uH;omega) e3 ?_ (λx y=>À) (λx=>zz2) ?_ ?_ λx=>À,λw h2=>?_,λx=>À⟩;grind;grind;grind [mN];let⟨cs,e,I⟩:=h.vS;exact⟨cs,(f D<|B.cs D<|aJ B.sd).trans e,I⟩;rw[show bR _=ao by grind,<-e1,e2];show(aA v.heap C _)[C]?=_;grind;rw[show oV rg (9+T a)=oV rg (10+T a)from IW À À,show nY rg (9+T a)=nY rg (10+T a)from IV À À];exact h.wg.of_block<|f Wg B.wc;rw[h1,<-Xn];refine(Rl (fn:=b.frame.fn) (pos:=b.frame.place) B.fh h.tp h.kc hes).sk (λW d=>zd0) (λW d=>zd0) (λW d=>Á);rw[<-Xn,show(#[{g:=c,fn:=g₂.frame.fn,pos:=g₂.frame.place,act:=MemAct.send C<|T vals-T (v0::a)},{g:=c,fn:=g₂.frame.fn,pos:=g₂.frame.place,act:=MemAct.sendDone C<|T vals-T (v0::a)}]:gA)=#[{g:=c,fn:=g₂.frame.fn,pos:=g₂.frame.place,act:=MemAct.send C<|T vals-T (v0::a)}]++#[{g:=c,fn:=g₂.frame.fn,pos:=g₂.frame.place,act:=MemAct.sendDone C<|T vals-T (v0::a)}]from O,<-Xn,Deaf_push,Deaf_push,mn,h.kv,Rt hes];simp[deafStep];let:=MF (cap':=T vals) (s':=T vals-T (v0::a)+1) (r'':=r) (buf':=(bH ((vals.take<|T vals-T (v0::a)).drop r)).push v0) (cl':=ao) (tm':=ao) h2 B.xc B.nc k;exact this
end
end
section
open Go.ConcN (sumTo upd sumTo_upd upd_ne upd_same RW DWs AtR0 AtK1 AtD1 AtD2 AtD3 AtD4 WgLive PayAt Has AsideCell EvW ShN)
open Go.ConcR (KK wgBlock WgAt stA smA rd wr mk Payload DC0)
variable[pn:Pn]
section
variable[dO]{P:cI}{ty:oW}{S:Q->Prop}{vals:bA eJ}{X:Q->Prop}
variable{left:bA eJ}{b g0:cR}{gs:bE cR}{v:dN}{sl:dD<|Nat×Q}
def Ř(B:Zs X Wg C S D ay)(h:jC P ty Wg C S D ay c vals o X p rg r 0 9 m [] b q gs v t)(W:gs[0]?=Y g0)(l:I0 P ty Wg C S D ay o b v):
  ∃I m',runT P (gJ gs v sl) c=(gP<|crowd (aA (gs.map<|woken P b I<|v.setChan C (T vals) (bH ((vals.take<|T vals-T ([]:Ze)).drop r)) M (T vals-T ([]:Ze)) r ao) c I) (v.setChan C (T vals) (bH ((vals.take<|T vals-T ([]:Ze)).drop r)) M (T vals-T ([]:Ze)) r ao) sl,aZ c b.frame.fn b.frame.place #[⟨pa C,ao,M⟩,⟨pa C,M,M⟩])/\
   I.status=bK/\mayWake P b=M/\jC P ty Wg C S D ay c vals o X p rg r 0 8 m' [] I q (aA (gs.map<|woken P b I<|v.setChan C (T vals) (bH ((vals.take<|T vals-T ([]:Ze)).drop r)) M (T vals-T ([]:Ze)) r ao) c I) (v.setChan C (T vals) (bH ((vals.take<|T vals-T ([]:Ze)).drop r)) M (T vals-T ([]:Ze)) r ao) (t++aZ c b.frame.fn b.frame.place #[⟨pa C,ao,M⟩,⟨pa C,M,M⟩])/\
   ∀w,Sm P X (re w v.tape v.drawn) v->Sm P X (re w v.tape v.drawn) (v.setChan C (T vals) (bH ((vals.take<|T vals-T ([]:Ze)).drop r)) M (T vals-T ([]:Ze)) r ao):=by
 let f:=h.lf;rw[show bR _=ao from O]at f;let⟨_,hmw,l⟩:=l;let⟨I,hst,hrun',hnext⟩:=l _ _ _ _ f;let s:c<V gs:=ñ
 generalize A:v.setChan C (T vals) (bH ((vals.take _).drop r)) M _ r ao=v' at*;let a:∀x,x≠C->v'.heap[x]?=v.heap[x]?:=λx g=>by rw[<-A];show(aA v.heap C _)[x]?=_;grind
 let n:V (Z v')=V (Z v):=by rw[<-A];show(aA v.heap C _).size=_;simp
 let k:Kc S ay o v':=λx g=>(a x<|B.cs x g).trans<|h.kc x g;let⟨m',hm'⟩:=hnext v' k;let j:∀i∈aZ c b.frame.fn b.frame.place #[⟨pa C,ao,M⟩,⟨pa C,M,M⟩],∀x,i.act.touch?=Y x->x.loc=pa C/\x.write=ao:=λi d x g=>by grind [zy,cA,cO]
 refine⟨I,m',IZ h hst,hrun',hmw,h.eG Â Á IU mN (.fin hm') k ?_ ?_ h.uH h.kz ?_ (λx y=>À) (λx=>zz2) ?_ ?_ λx=>À,λw z=>?_⟩;let⟨cs,e,l⟩:=h.vS;exact⟨cs,(a D<|B.cs D<|aJ B.sd).trans e,l⟩;rw[<-A];show(aA v.heap C _)[C]?=_;grind;rw[show oV rg 8=oV rg 9 from IW À À,show nY rg 8=nY rg 9 from IV À À];exact h.wg.of_block<|a Wg B.wc;rw[n];refine h.tp.gt B.fh (ac O) mN (λi d x g F=>?_) (λi d x g=>?_) (λi d e=>?_) EH;let⟨e1,e2⟩:=j i d x g;exact ac<|ac<|ac ⟨O,e1,e2⟩;rw[(j i d x g).1];exact(za.1 f).1;grind [zy,cA];rw[mn,h.kv];grind [deafBehind_still];exact A▸MF z B.xc B.nc f
def ja6(B:Zs X Wg C S D ay)(h:jC P ty Wg C S D ay c vals o X p rg r 0 9 m [] b q gs v t)(a:gs[0]?=Y g0)(d:I0 P ty Wg C S D ay o b v):wV P ty Wg C S D ay c vals o X p rg r g0 9 m q gs v sl t:=by let⟨s,n,A,_,_,l,e⟩:=Ř (sl:=sl) B h a d;exact⟨0,8,[],_,_,sl,_,n,s,A,.left _ _ À,⟨_,IT (Jk h.iE) a,ac ⟨b,s,O⟩,λ_ x=>À⟩,l,e,λx=>À⟩
def ő(B:Zs X Wg C S D ay)(h:jC P ty Wg C S D ay c vals o X p rg r d st m [] b q gs v t)(A:gs[0]?=Y g0){l f}(w':bW P ao b v=ij l v #[mk f])(L:(gQ f).touch?=R)(hx:∀a,f≠ lK a)
  {d' st' m' aw}(n:Ch P ty Wg C S D ay o d' st' m' [] l v)(s:st'<st)(ho:st<=8)(wr:5<=st')(hd:dF d #[mk f]=d')(j:∃rr,p<=rr/\vT (stA Wg) c (t++aZ c b.frame.fn b.frame.place #[mk f]) rr):
  wV P ty Wg C S D ay c vals o X p rg r g0 st aw q gs v sl t:=by
 let G:c<V gs:=ñ
 let cs:∀k∈aZ c b.frame.fn b.frame.place #[mk f],k.act=gQ f:=λk g=>by obtain⟨e,F,rfl⟩:=zy g;simp at F;subst F;rfl
 refine⟨d',st',[],_,v,sl,_,m',l,IZ h w',.left _ _ s,⟨_,IT (Jk h.iE) A,ac ⟨b,l,O⟩,λ_ x=>À⟩,h.eG Â Á IU mN n h.kc h.vS ?_ h.uH h.kz (by rw[IW (b:=st) À À,IV (b:=st) À À];exact h.wg) (λx y=>À) (λx=>zz2) (h.tp.sk mN (λk g=>Á) λk g e=>Á) (by rw[mn,h.kv];exact hd) λ_=>j,λw I=>I,λ_ rr h1=>h1.gt λi W g' h2=>?_⟩;rw[show bR _=M by grind];let:=h.lf;grind;let⟨z,hz,_⟩:=h2;obtain⟨ba,_⟩|⟨_,k,g,_,h3⟩:=Z9 hz;omega;grind
theorem Ŏ(B:Zs X Wg C S D ay)(h:jC P ty Wg C S D ay c vals o X p rg r 0 st m [] b q gs v t)(j:st=8\/st=7)(d:gs[0]?=Y g0){k}(hk:k=1\/k=2)(f:AtR0 P ty Wg D 3 0 k val b v)(l):
  wV P ty Wg C S D ay c vals o X p rg r g0 st l q gs v sl t:=by
 let⟨_,_,A,s,I,W⟩:=f;refine ő B h d s O Â (.rel hk W) À À À (by simp[mk,dF]) ⟨V t,h.pt,?_⟩;let a:(t++aZ c b.frame.fn b.frame.place #[mk<|.releaseMerge<|stA Wg])[V t]?=Y {g:=c,fn:=b.frame.fn,pos:=b.frame.place,act:=gQ (.releaseMerge<|stA Wg)}:=by simp[fp,mk,cA]
 refine⟨by rw[act?_of a],by simp[kj,a],⟨c,by simp[kj,a],?_⟩,λi n e=>?_⟩;rw[deaf_old<|zd _];exact h.kv;let⟨z,F,_⟩:=zv.1 e;let:=ie F;simp[fp]at this;omega
theorem je3(B:Zs X Wg C S D ay)(h:jC P ty Wg C S D ay c vals o X p rg r 0 6 m [] b q gs v t)(g:gs[0]?=Y g0){k}(hk:k=1\/k=2)(n:AtK1 P ty Wg D 3 0 k b v)(s):
  wV P ty Wg C S D ay c vals o X p rg r g0 6 s q gs v sl t:=by
 let⟨_,b',W,m',F⟩:=n;let⟨rr,A,I⟩:=h.rel<|zd _;refine ő B h g W O Â (.deaf hk F) À À À (by simp[mk,dF]) ⟨rr,A,I.gt λi y w j=>?_⟩;let⟨x,hx,_⟩:=j;obtain⟨l,_⟩|⟨_,z,a,_,d⟩:=Z9 hx;omega;obtain⟨e,f,rfl⟩:=zy a;simp at f;subst f;cases d
theorem MD{a}(b:a.block=Wg){w x}(hx:(cA ⟨ma a,w,M⟩).touch?=Y x):wT Wg x.loc/\x.kind= .atomic:=by simp only[ofEvent_cell0,cO,xj,dY]at hx;subst hx;exact⟨⟨a,O,b⟩,O⟩
def IS(B:Zs X Wg C S D ay)(h:jC P ty Wg C S D ay c vals o X p rg r 1 st m [] b q gs v t)(h0:gs[0]?=Y g0){x y:U}(ho:bW P ao b v=ij G {v with heap:=aA v.heap Wg<|wgBlock ty x y} es)
  (wr:∀e∈es,(∃a w,e=⟨ma a,w,M⟩/\a.block=Wg)\/e.mute=M)(g':dF 1 es=1)(bc:∀j,j<=V es->dF 1 (es.extract 0 j)≠0)(h5:st<=5){st' m' mm:Q}(h3:Ch P ty Wg C S D ay o 1 st' m' [] G {v with heap:=aA v.heap Wg<|wgBlock ty x y})(aw:st'<st)(hx:oV rg st'=x)(hy:nY rg st'=y)(w2:1<st'->rg=1)(I:De rg->st'<=1)(F:rg=1->st'<=1->mayWake P b=M/\G.status≠ .blocked/\G.status≠ .waiting):
  wV P ty Wg C S D ay c vals o X p rg r g0 st mm q gs v sl t:=by
 let ba:c<V gs:=ñ
 let bb:=(za.1 h.wg).1;let f:∀z,z≠Wg->(aA v.heap Wg<|wgBlock ty x y)[z]?=v.heap[z]?:=λz k=>Á
 let W:V (aA v.heap Wg<|wgBlock ty x y)=V (Z v):=Â
 let⟨rr,hp,A⟩:=h.rel À;let w':∀n∈aZ c b.frame.fn b.frame.place es,∀z,n.act.touch?=Y z->wT Wg z.loc/\z.kind= .atomic:=λn d z k=>by grind [zy,MD,touch_mute]
 let hd:∀i,V t<=i->(t++aZ c b.frame.fn b.frame.place es).g? i=Y c->¬(t++aZ c b.frame.fn b.frame.place es).counts i:=λi hi hg hc=>by
  let⟨z,k,hm,hk⟩:=hc;obtain⟨bd,_⟩|⟨_,n,d,ih,hr⟩:=Z9 k;omega;let⟨_,hat⟩:=w' n d z hr;obtain hk|⟨g,h2,L⟩:=hk;grind;have:g=c:=by rw[hg]at h2;exact(ql h2).symm
  subst this;let e1:i-V t<=V es:=by let:=ie ih;simp[fp]at this;omega
  let:=deaf_inside t g b.frame.fn b.frame.place es _ e1;rw[show V t+(i-V t)=i by omega,L,h.kv]at this;grind
 refine⟨1,st',[],_,{v with heap:=aA v.heap Wg _},sl,_,m',G,IZ h ho,.left _ _ aw,⟨_,IT (Jk h.iE) h0,ac ⟨b,G,O⟩,λz1 z2 _=>⟨b,(F z1 z2).1,(F z1 z2).2.1,(F z1 z2).2.2,O⟩⟩,h.eG Â Á IU mN h3
  (λz k=>(f z<|B.ws z k).trans<|h.kc z k) ?_ ?_ h.uH h.kz ?_ (λz _=>w2 z) I ?_ ?_ (λ_=>⟨rr,hp,A.gt hd⟩),λw hS=>œ hS B.xw B.nw h.wg x y,λ_ rr A=>A.gt hd⟩
 let⟨cs,e,hs⟩:=h.vS;exact⟨cs,(f D<|B.ws D<|aJ B.sd).trans e,hs⟩;rw[show bR _=M by grind];let:=h.lf;rw[show bR _=M by grind]at this;exact(f C<|Ne.symm B.wc).trans this;rw[hx,hy];show(aA v.heap Wg<|wgBlock ty x y)[Wg]?=_;grind;show TP X _ Wg C c _ p (V (aA v.heap Wg _)) _;rw[W];refine h.tp.gt B.fh (ac O) mN (λn d z k hm=>?_) (λn d z k=>?_) (λn d e=>?_) EH;let⟨k1,k2⟩:=w' n d z k;exact ac<|aJ ⟨k1,aJ k2⟩;let⟨⟨a',e,ha'⟩,_⟩:=w' n d z k;rw[e];show a'.block<_;omega;obtain⟨ev,he,rfl⟩:=zy d;obtain⟨a,w,rfl,ha⟩|hm:=wr ev he;grind [ofEvent_cell0];have h1:=EF e;let⟨l,a,s⟩:=ev;grind [Event.mute];rw[mn,h.kv];exact g'
def Rp(c:∀e∈es,∃a w,e=(⟨ma a,w,M⟩:me)/\a.block=Wg):dF 1 es=1/\∀j,j<=V es->dF 1 (es.extract 0 j)≠0:=by let:∀b:bE me,(∀e∈b,e∈es)->dF 1 b=1:=λb f=>deafBehind_still (λe d=>Á) 1;grind [Array.mem_iff_getElem?]
def Mz:∀e∈#[rd<|stA Wg,wr<|stA Wg],∃a w,e=(⟨ma a,w,M⟩:me)/\a.block=Wg:=λe b=>by simp at b;obtain rfl|rfl:=b;exact⟨_,ao,O,O⟩;exact⟨_,M,O,O⟩
def EE:∀e∈#[rd<|stA Wg],∃a w,e=(⟨ma a,w,M⟩:me)/\a.block=Wg:=λe b=>by simp at b;subst b;exact⟨_,ao,O,O⟩
def ō:∀e∈#[wr<|stA Wg],∃a w,e=(⟨ma a,w,M⟩:me)/\a.block=Wg:=λe b=>by simp at b;subst b;exact⟨_,M,O,O⟩
theorem jev(B:Zs X Wg C S D ay)(h:jC P ty Wg C S D ay c vals o X p rg r 1 5 m [] b q gs v t)(i:gs[0]?=Y g0){k}(hk:k=1\/k=2)(d:AtD1 P ty Wg D 3 0 k b v)(s):
  wV P ty Wg C S D ay c vals o X p rg r g0 5 s q gs v sl t:=by
 let⟨_,d⟩:=d;let j:=h.wg;let n:¬De rg:=λe=>by let:=h.rI e;omega
 let l:nY rg 5=0:=by unfold nY;rw[aL À]
 let⟨A,I⟩:=Rp (Wg:=Wg) Mz;by_cases g:rg=0\/rg=4;let a:WgAt ty Wg v KK 0:=by
  let e:oV rg 5=KK:=by unfold oV;rw[aT g];rfl
  rwa[e,l]at j
 let⟨b',W,_,F⟩:=d 0 0 À À Á;let⟨m',F⟩:=F À;rw[MB a,show((0:Q):U)*KK+((0:Q):U)=0 by simp]at W;exact IS B h i W (λe f=>aJ (Mz e f)) A I À (.out F) À (by grind [oV]) (by grind [nY]) À À (λx=>À);obtain rfl:rg=1:=by grind [De]
 let a:WgAt ty Wg v (KK+1) 0:=j;let⟨b',W,F,_⟩:=d 0 1 À À Á;let⟨m',F⟩:=F ⟨O,O⟩;rw[MB a,show((0:Q):U)*KK+((1:Q):U)=1 by simp]at W F;exact IS B h i W (λe f=>aJ (Mz e f)) A I À (.d2 hk F) À O O (λ_=>O) (λx=>dC O x.2.1) λ_ x=>À
theorem Ru{s a}(b:WgAt ty Wg v s a):{v with heap:=aA v.heap Wg<|wgBlock ty s a}=v:=by let⟨h,e,l,W,n⟩:=v;let c:h[Wg]?=Y (wgBlock ty s a):=b;grind [World.mk.injEq]
theorem jew(B:Zs X Wg C S D ay)(h:jC P ty Wg C S D ay c vals o X p rg r 1 4 m [] b q gs v t)(d:gs[0]?=Y g0){k}(hk:k=1\/k=2)(g:AtD2 P ty Wg D 3 0 k b v)(i):
  wV P ty Wg C S D ay c vals o X p rg r g0 4 i q gs v sl t:=by
 obtain rfl:=h.rJ À À;let a:=h.wg;let⟨F,s,A,W⟩:=g.2 a;rw[<-Ru a]at s W;let⟨n,l⟩:=Rp (Wg:=Wg) EE;exact IS B h d (by grind [Ru]) (λe f=>aJ (EE e f)) n l À (.d3 hk W) À O O (λ_=>O) (λx=>dC O x.2.1) λ_ x=>À
theorem jex(B:Zs X Wg C S D ay)(h:jC P ty Wg C S D ay c vals o X p rg r 1 3 m [] b q gs v t)(d:gs[0]?=Y g0){k}(hk:k=1\/k=2)(g:AtD3 P ty Wg D 3 0 k b v)(i):
  wV P ty Wg C S D ay c vals o X p rg r g0 3 i q gs v sl t:=by
 obtain rfl:=h.rJ À À;let a:=h.wg;let⟨F,s,A,W⟩:=g.2 a;rw[MB a]at s W;let⟨n,l⟩:=Rp (Wg:=Wg) ō;exact IS B h d s (λe f=>aJ (ō e f)) n l À (.d4 hk W) À O O (λ_=>O) (λx=>dC O x.2.1) λ_ x=>À
def Ŗ{st a}(h:WgAt ty Wg v st a)(x):World.setCell v (smA Wg) (zu x)={v with heap:=aA v.heap Wg<|wgBlock ty st x}:=by grind [WgAt,World.setCell,smA,modify_eq_set,wgBlock]
def jey(B:Zs X Wg C S D ay)(h:jC P ty Wg C S D ay c vals o X p rg r 1 2 m [] b q gs v t)(g:gs[0]?=Y g0)(f:AtD4 P ty Wg b v)(k):
  wV P ty Wg C S D ay c vals o X p rg r g0 2 k q gs v sl t:=by
 obtain rfl:=h.rJ À À;let a:=h.wg;let⟨l,s,W,n⟩:=f.2.2 a;rw[Ŗ a]at s;refine IS B h g s (λe d=>?_) (by simp[semEvents,dF]) (λj i=>?_) À (.out n) À O O À (λx=>dC O x.2.1) λ_ _=>⟨f.2.1,zcu,zcu⟩;simp[semEvents]at d;obtain rfl|rfl|rfl|rfl:=d;exact ac O;exact aJ ⟨_,ao,O,O⟩;exact aJ ⟨_,M,O,O⟩;exact ac O;let:j<=4:=by simpa[semEvents]using i
 rcases(show j=0\/j=1\/j=2\/j=3\/j=4 by omega)with rfl|rfl|rfl|rfl|rfl<;>simp[semEvents,dF]
def jch(B:Zs X Wg C S D ay)(h:jC P ty Wg C S D ay c vals o X p rg r d 1 m [] b q gs v t)(w':gs[0]?=Y g0)(G:b.status=bK)(I:QuitsD P m d b):
  wV P ty Wg C S D ay c vals o X p rg r g0 1 m q gs v sl t:=by
 cases m with
 |zero=>rw[I.1]at G;cases G
 |succ m=>
  obtain⟨ho,_⟩|⟨_,F,n,wr,j,z⟩:=I;grind;let cs:c<V gs:=ñ
  let hd:∀y∈aZ c b.frame.fn b.frame.place n,y.act.touch?=R:=λy f=>Ft
  let k:∀i,V t<=i->(t++aZ c b.frame.fn b.frame.place n).g? i=Y c->¬(t++aZ c b.frame.fn b.frame.place n).counts i:=λi g' W h1=>by let⟨x,hx,_⟩:=h1;obtain⟨ba,_⟩|⟨_,y,f,_,aw⟩:=Z9 hx;omega;grind
  let⟨rr,hp,A⟩:=h.rel À;refine⟨dF d n,1,[],_,v,sl,_,m,F,IZ h<|j v,.right _ À,⟨_,IT (Jk h.iE) w',ac ⟨b,F,O⟩,λ_ _ x=>À⟩,h.eG Â Á IU mN (.out z) h.kc h.vS h.lf h.uH h.kz h.wg h.rJ h.rI
   (h.tp.sk mN hd λy f e=>?_) (by rw[mn,h.kv]) (λ_=>⟨rr,hp,A.gt k⟩),λw L=>L,λ_ rr A=>A.gt k⟩
  obtain⟨h2,h3,rfl⟩:=zy f;have w2:=EF e;let⟨l,a,s⟩:=h2;grind [Event.mute]
theorem Ō(B:Zs X Wg C S D ay)(h:jC P ty Wg C S D ay c vals o X p rg r 0 st m [] b q gs v t)(wr:st=8\/st=7)(hd:gs[0]?=Y g0){hx F m1 G}(aw:st=8\/G=F+m1)
  (k:gk P ao (RW ty Wg D 3 0 0) (DWs Wg xY xY D 3 1) (AtR0 P ty Wg D 3 0 1 v0) F b v)(l:gk P ao (RW ty Wg D 3 0 1) (DWs Wg xY xY D 3 2) (AtR0 P ty Wg D 3 0 2 hx) m1 b v):
  wV P ty Wg C S D ay c vals o X p rg r g0 st G q gs v sl t:=by
 obtain w|⟨n0,W,v',I,rfl,w,z,L⟩:=Vc V7 k;grind [Ŏ];obtain i|⟨n1,cs,w1,g',rfl,i,n,s⟩:=Vc V7 l;grind [Ŏ];rw[w]at i;cases i;obtain⟨ba,rfl⟩:=xe5 z.1 n.1 h.vS;let w2:Wg<V (Z v):=(za.1 h.wg).1;let d:∀e∈I,(∀x,(cA e).touch?=Y x->wT Wg x.loc/\x.kind= .atomic)/\e.loc≠ .mark oG/\e.loc≠ .mark oF/\e.loc≠ .mark _:=λe f=>by
  let⟨h1,h2,h3,h4⟩:=z.2 e f;refine⟨λx j=>?_,h2,h3,h4⟩;rcases(h1 0 "").2 x j with⟨⟨a,A,ho⟩,ih,bb⟩|x|⟨x,_⟩;exists ⟨a,A,ho⟩;cases hk:x.kind with
  |plain=>grind|said=>grind
  |atomic=>rfl
  exact x.elim;exact x.elim
 refine⟨_,_,_,EG B h hd w (.dn L s) ?_ ?_ ⟨IW À À,IV À À⟩ À À ?_ (deafBehind_still (λe f=>⟨(d e f).2.1,(d e f).2.2.1⟩) 0) λx=>À⟩;omega;grind
 ·refine h.tp.gt B.fh (ac O) mN (λw' g x j hm=>?_) (λw' g x j=>?_) (λw' g e=>?_) EH;all_goals obtain⟨y,f,rfl⟩:=zy g
  let⟨k1,k2⟩:=(d y f).1 x j;exact ac<|aJ ⟨k1,aJ k2⟩;let⟨⟨a,e,A⟩,_⟩:=(d y f).1 x j;rw[e];show a.block<_;omega;grind [EF]
def Ŕ(B:Zs X Wg C S D ay)(h:jC P ty Wg C S D ay c vals o X p rg r d st m left b q gs v t)(f:gs[0]?=Y g0)(s:offersAt g0 C ao=[])(l:b.status=bK):wV P ty Wg C S D ay c vals o X p rg r g0 st m q gs v sl t:=by
 cases h.ch with
 | @send v0 vs m b w W=>
  rcases Vc (λ_ x=>x) W with e|⟨n,g,j,i,rfl,e,F,a⟩;grind [xzy];exact⟨_,_,_,IY B h f e F (.send a) À À⟩
 |cls W=>
  rcases Vc (λ_ x=>x) W with e|⟨n,g,j,i,rfl,e,F,a⟩;exact ja6 B h f e;exact⟨_,_,_,IY B h f e F (.cls a) À À⟩
 |fin W=>
  rcases Vc (λ_ x=>x) W with e|⟨n,g,j,i,rfl,e,F,a⟩;let⟨v0,v1,m0,m1,A,I⟩:=e.2<|⟨_,_,h.wg⟩;grind [Ō];exact⟨_,_,_,IY B h f e F (.fin a) À À⟩
 |dn A I=>grind [Ō]
 | @rel k m b w hk W=>
  obtain e|⟨n,g,j,i,rfl,e,⟨rfl,rfl⟩,a⟩:=Vc V7 W;grind [je3];exact⟨_,_,_,EG B h f e (.rel hk a) (.right _ À) O ⟨O,O⟩ (ac O) id γ O λ_=>O⟩
 | @deaf k m b w hk W=>
  obtain e|⟨n,g,j,i,rfl,e,⟨rfl,rfl⟩,a⟩:=Vc V7 W;grind [jev];exact⟨_,_,_,EG B h f e (.deaf hk a) (.right _ À) O ⟨O,O⟩ (ac O) id γ O λ_=>O⟩
 | @d2 k m b w hk W=>
  obtain e|⟨n,g,j,i,rfl,e,⟨rfl,rfl⟩,a⟩:=Vc V7 W;grind [jew];exact⟨_,_,_,EG B h f e (.d2 hk a) (.right _ À) O ⟨O,O⟩ (ac O) id γ O λ_=>O⟩
 | @d3 k m b w hk W=>
  obtain e|⟨n,g,j,i,rfl,e,⟨rfl,rfl⟩,a⟩:=Vc V7 W;grind [jex];exact⟨_,_,_,EG B h f e (.d3 hk a) (.right _ À) O ⟨O,O⟩ (ac O) id γ O λ_=>O⟩
 | @d4 k m b w hk W=>
  obtain e|⟨n,g,j,i,rfl,e,⟨rfl,rfl⟩,a⟩:=Vc V7 W;exact jey B h f e m;exact⟨_,_,_,EG B h f e (.d4 hk a) (.right _ À) O ⟨O,O⟩ (ac O) id γ O λ_=>O⟩
 |out hq=>exact jch B h f l hq
def Rk(B:Zs X Wg C S D ay)(h:jC P ty Wg C S D ay c vals o X p rg r d st m left b q gs v t)(dr):jC P ty Wg C S D ay c vals o X p rg r d st m left b q gs (v.at dr) t:=
 ⟨h.iE,h.aD,h.hb,h.pJ,h.eN,h.ch.vb h.kc B.sd (λ_ _=>O) ⟨_,_,h.wg⟩,h.kc,h.vS,h.lf,h.uH,h.kz,h.wg,h.rJ,h.rI,h.tp,h.nG,h.kv,h.rel,h.pt⟩
def Rn(h:jC P ty Wg C S D ay c vals o X p rg r d st m left b q gs v t)(h0:gs[0]?=Y g0){g1}(cs:0<i)(B:i<c)(ho:gs[i]?=Y g1)(z:g1.status=bK):
  ∃gs' ops q',runT P (gJ gs v sl) i=(gP<|crowd gs' v sl,ops)/\kD c q'<kD c q/\(∃g0',gs'[0]?=Y g0'/\(g0'=g0\/∃a a',g0'=woken P a a' v g0))/\jC P ty Wg C S D ay c vals o X p rg r d st m left b q' gs' v (t++ops)/\∀rr,vT (stA Wg) c t rr->vT (stA Wg) c (t++ops) rr:=by
 let I:=h.pJ i g1 cs B ho;let h3:(i==0)=ao:=Ç
 cases hqi:q i with
 |zero=>rw[hqi]at I;rw[I.1]at z;cases z
 |succ k=>
  rw[hqi]at I;obtain⟨hf,_⟩|⟨_,g',hd,hm,G,bc⟩:=I;grind;let w:=qD (sl:=sl) ho (h3▸G v);let hs:kD c (upd q i k)+(k+1)=kD c q+k:=by let:=sumTo_upd q k id B;simpa[hqi]using this
  let hn:∀L∈aZ i g1.frame.fn g1.frame.place hd,L.act.touch?=R:=λL n=>Ft
  let wr:∀A,V t<=A->(t++aZ i g1.frame.fn g1.frame.place hd).g? A=Y c->¬(t++aZ i g1.frame.fn g1.frame.place hd).counts A:=λA ba hg w2=>by let⟨x,w',_⟩:=w2;obtain⟨bb,_⟩|⟨_,L,n,_,bd⟩:=Z9 w';omega;grind
  refine⟨_,_,upd q i k,w,À,?_,⟨h.iE,ã,?_,λj x h2 aw w'=>?_,λj h2=>?_,h.ch,h.kc,h.vS,h.lf,h.uH,h.kz,h.wg,h.rJ,h.rI,h.tp.sk mN hn λL n e=>?_,?_,?_,λih=>?_,ð⟩,λrr hx=>hx.gt wr⟩;grind;rw[zl À,jt,h.hb];simp only[Xl,xj];obtain e|e:=h.ch.kr;exact woken_run e;cases h.ch with
  |out hq2=>exact jJ hq2
  |_=>
   rename_i hG;first
    |(let:=Zi (λ_ _ x=>x.1) (λ_ x=>x) hG;grind)
    |(let:=Zi (λ_ _ x=>x.1) V7 hG;grind)
  by_cases f:i=j;grind [upd_same,mn];rw[zl f,jt]at w';obtain⟨y,hy,rfl⟩:=zv.1 w';let F:=h.pJ j y h2 aw hy;rw[jJ F,upd_ne q k<|Ne.symm f,dJ t f _ mN];exact F;rw[dJ t (g':=i) À _ mN];exact h.eN j h2;obtain⟨W,he,rfl⟩:=zy n;have h1:=EF e;let⟨l,a,s⟩:=W;grind [Event.mute];rw[dJ t (g':=i) À _ mN];exact h.nG;rw[dJ t (g':=i) À _ mN];exact h.kv;let⟨rr,hp,hx⟩:=h.rel ih;exact⟨rr,hp,hx.gt wr⟩
end
end
section
open Go.ConcN (sumTo upd sumTo_upd upd_ne upd_same RW DWs AtR0 AtK1 AtD1 WgLive PayAt Has AsideCell EvW ShN)
open Go.ConcR (KK wgBlock WgAt stA smA rd wr mk Payload DC0)
variable[pn:Pn]
section
variable[dO]{P:cI}{F:bE kL}{s:fZ}{ty:oW}{S:Q->Prop}{vals:bA eJ}{X:Q->Prop}
variable{left:bA eJ}{b g0:cR}{gs:bE cR}{v:dN}{sl:dD<|Nat×Q}
def Zs.xs(B:Zs X Wg C S D ay):∀x,S x\/x=ay->X x:=λx b=>by obtain⟨a,e,h⟩|⟨r,e,_⟩:=B.fh.th (ma<|K x 0) (aJ ⟨_,O,b⟩);grind;grind
def Zs.xd(B:Zs X Wg C S D ay):X D:=B.xs D<|aJ B.sd
def Œ(B:Zs X Wg C S D ay)(h:jC P ty Wg C S D ay c vals o X p rg r d st m left b q gs v t)(h0:gs[0]?=Y g0){g'}(hk:∀x,X x->v'.heap[x]?=v.heap[x]?)(k:∀e∈es,vx X (V<|Z v') e)(ho:V (Z v)<=V (Z v'))
  {f}(aw:f=woken P g0 g' v'\/f=id):
  jC P ty Wg C S D ay c vals o X p rg r d st m left b q (aA (gs.map f) 0 g') v' (t++aZ 0 g0.frame.fn g0.frame.place es):=by
 let F:=Jk h.iE;let wr:∀{n d} {x:Zg},QuitsD P n d x->f x=x:=λA=>by obtain rfl|rfl:=aw;exact jJ A;rfl
 let ih:∀{x:Zg},x.status=bK->f x=x:=λA=>by obtain rfl|rfl:=aw;exact woken_run A;rfl
 refine⟨h.iE,ã,?_,λi g h1 L G=>?_,λj ba=>?_,h.ch.vb h.kc B.sd (λx l=>hk x<|B.xs x l) ⟨_,_,h.wg.of_block<|hk Wg B.xw⟩,λx l=>(hk x<|B.xs x l).trans<|h.kc x l,?_,(hk C B.xc).trans h.lf,h.uH,h.kz,h.wg.of_block<|hk Wg B.xw,h.rJ,h.rI,?_,?_,?_,λW=>?_,ð⟩;rw[zl<|Ne.symm F,jt,h.hb];obtain e|e:=h.ch.kr;grind;cases h.ch with
 |out hq2=>grind
 |_=>
  rename_i hG;first
   |(let:=Zi (λ_ _ x=>x.1) (λ_ x=>x) hG;grind)
   |(let:=Zi (λ_ _ x=>x.1) V7 hG;grind)
 rw[zl À,jt]at G;obtain⟨y,hy,rfl⟩:=zv.1 G;let A:=h.pJ i y h1 L hy;rw[wr A,dJ t (g':=0) À _ mN];exact A;rw[dJ t (g':=0) À _ mN];exact h.eN j ba;let⟨cs,e,hs⟩:=h.vS;exact⟨cs,(hk D B.xd).trans e,hs⟩
 ·refine(h.tp.U ho).gt B.fh (aJ O) mN (λh2 s x l w'=>?_) (λh2 s x l=>?_) (λh2 s e=>?_) EH;all_goals obtain⟨I,w,rfl⟩:=zy s
  let⟨_,k2⟩:=Hj (k I w) l;refine aJ ⟨O,aJ (k2 w').1,λh3=>aJ ?_,λ⟨r1,e,w2⟩ _=>(k2 w').2 r1 e w2⟩;obtain⟨a,e,hd⟩|⟨hx,e,hd⟩:=h3;exact dC ⟨a,e,B.xs _ hd⟩ (k2 w').1;exact(k2 w').2 hx e<|B.xs hx hd;exact(Hj (k I w) l).1;exact(Hk<|k I w).2.2 _<|EF e
 rw[mn,deafBehind_still λe w=>⟨(Hk<|k e w).1,(Hk<|k e w).2.1⟩];exact h.nG;rw[dJ t (g':=0) (Ne.symm F) _ mN];exact h.kv;let⟨rr,hp,hr⟩:=h.rel W;refine⟨rr,hp,hr.gt λi h1 G _=>?_⟩;let⟨z,hz,hzg⟩:=zv.1 G;grind [mN]
def Y0(B:Zs X Wg C S D ay):DU P X (JC P ty Wg C S D ay c vals o X p rg r) where
 kr k gs v t hJ i g hi hg:=by
  let⟨d,st,m,left,b,q,h,_⟩:=hJ;let f:i<c+1:=zd4
  by_cases e:i=c;subst e;rw[h.hb]at hg;cases hg;exact oI<|h.ch.kr.elim aJ λx=>ac (ac x);exact oI<|(h.pJ i g hi À hg).status.elim aJ λx=>ac (ac x)
 gY k gs v t dr hJ:=by let⟨d,st,m,left,b,q,h,hk⟩:=hJ;exact⟨d,st,m,left,b,q,Rk B h dr,hk⟩
 dR k gs v t i g g0 sl hJ hi hg hrun h0 hrun0 hdy:=by
  obtain⟨d,st,m,left,b,q,h,rfl⟩:=hJ;let f:i<c+1:=zd4
  by_cases e:i=c;subst e;rw[h.hb]at hg;cases hg;let⟨d',I,l,n,v',sl',ops,m',b',a1,a2,⟨W,a3,A,_⟩,a4,a5,_⟩:=Ŕ (sl:=sl) B h h0 (lI Á ..) hrun;have:W=g0:=zc8
  subst this;exact⟨n,v',sl',ops,_,a1,a2,a3,⟨d',I,m',l,b',q,a4,O⟩,a5⟩;let⟨n,ops,q',a1,a2,⟨W,a3,A⟩,a4,_⟩:=Rn (sl:=sl) h h0 hi À hg hrun;have:W=g0:=zc8
  subst this;exact⟨n,v,sl,ops,(st,m+kD c q'),a1,.right _ À,a3,⟨d,st,m,left,b,q',a4,O⟩,λw h=>h⟩
 cN k gs v t g0 g' v' es hJ h0 hst hrun hrun' hk hes hsz:=by obtain⟨d,st,m,left,b,q,h,rfl⟩:=hJ;exact⟨d,st,m,left,b,q,Œ B h h0 hk hes hsz<|aJ O,O⟩
end
section
variable[dO]{P:cI}{ty:oW}{S:Q->Prop}{vals:bA eJ}{X:Q->Prop}
variable{left:bA eJ}{b g0:cR}{gs:bE cR}{v:dN}{sl:dD<|Nat×Q}
def Dg(vals:Ze)(z:Zv)(r:Q):Zv:=if r<T vals then cE #[vals.getD r Z',bG M]else cE #[z,bG ao]
def Ar(vals:Ze)(r:Q):Q:=if r<T vals then r+1 else r
def Bv(P:cI)(ty:oW)(Wg C:Q)(S:ZP)(D ay c:Q)(vals:Ze)(o:Q->Obj)(X:ZP)(p rg:Q)(r:Q)(l:Zg)(z:Zv)(m:Machine)(t:gA)(w:Zy):Prop:=
 ∃s n v' h e W,fQ P s m t=(gP<|crowd n v' h,e)/\JC P ty Wg C S D ay c vals o X p rg (Ar vals r) W n v' e/\n[0]?=Y (mU l<|Dg vals z r)/\Sm P X (re w v'.tape v'.drawn) v'
def Bv.step{a z m m1 t b w s}(h:fQ P s m t=(gP m1,b))(k:Bv P ty Wg C S D ay c vals o X p rg r a z m1 b w):Bv P ty Wg C S D ay c vals o X p rg r a z m t w:=by let⟨e,n,v',l,W,B,A,F⟩:=k;exact⟨s+e,n,v',l,W,B,qr h A,F⟩
def jC.yT(B:Zs X Wg C S D ay)(h:jC P ty Wg C S D ay c vals o X p rg r d st m left b q gs v t){w}(A:V w=V gs)(n:∀j,j≠0->w[j]?=gs[j]?)(W:∀op∈u,op.g=0)(L:∀op∈u,op.act.touch?=R/\(∀a,op.act≠ gQ (lK a))/\op.act≠ gQ oG/\op.act≠ gQ oF)
  (f:∀x,x≠C->v'.heap[x]?=v.heap[x]?)(ho:V (Z v')=V (Z v))
  (s:v'.heap[C]?=Y (.chan (T vals) (bH ((vals.take<|T vals-T left).drop r')) (bR (st<=8)) (T vals-T left) r' ao))(F:r'<=T vals-T left):
  jC P ty Wg C S D ay c vals o X p rg r' d st m left b q w v' (t++u):=by
 let hx:=Jk h.iE;let w':∀x,S x\/x=ay->v'.heap[x]?=v.heap[x]?:=λx I=>f x<|B.cs x I;let hd:Deaf (t++u) 0=Deaf t 0:=by
  let⟨l⟩:=u;rw[Deaf_append];let wr:∀op∈l,op.act≠ gQ oG/\op.act≠ gQ oF:=λop k=>(L op Á).2.2;generalize Deaf t 0=x;induction l generalizing x with
  |nil=>rfl
  |cons y l ih=>
   rw[GQ];let:deafStep 0 x y=x:=by let⟨h1,h2⟩:=wr y Â;unfold deafStep;split<;>simp_all
   simp_all
 refine⟨h.iE,by rw[A,h.aD],n c hx▸h.hb,λi g aw ba G=>?_,λj h3=>?_,h.ch.vb h.kc B.sd w' ⟨_,_,h.wg.of_block<|f Wg B.wc⟩,λx I=>(w' x I).trans<|h.kc x I,?_,s,F,h.kz,h.wg.of_block<|f Wg B.wc,h.rJ,h.rI,by rw[ho];exact h.tp.sk W (λop k=>(L op k).1) λop k=>(L op k).2.1 _,hd.trans h.nG,dJ t (Ne.symm hx) u W▸h.kv,λw2=>?_,ð⟩;rw[n i À]at G;rw[dJ t (g':=0) À u W];exact h.pJ i g aw ba G;rw[dJ t (g':=0) À u W];exact h.eN j h3;let⟨cs,e,A⟩:=h.vS;exact⟨cs,(w' D<|aJ B.sd).trans e,A⟩;let⟨rr,hp,hr⟩:=h.rel w2;refine⟨rr,hp,hr.gt λi aw G _=>?_⟩;let⟨z,hz,hzg⟩:=zv.1 G;grind
def Ro(h:jC P ty Wg C S D ay c vals o X p rg r d st m left b q gs v t)(f):partners (aA gs 0 ph) C f=[]:=partners_nil λj x i=>by
 obtain⟨_,rfl⟩|⟨k,a⟩:=getElem?_stand gs 0 j x i;exact offersAt_ph ..;refine lI ?_ ..;let g:j<c+1:=by let:=(za.1 a).1;rwa[h.aD]at this
 by_cases e:j=c;subst e;rw[h.hb]at a;cases a;obtain e|e:=h.ch.kr<;>rw[e]<;>simp
 rcases(h.pJ j x À À a).status with e|e<;>rw[e]<;>simp
theorem zwf(l:Ze):l.toArray.extract 1 (V l.toArray)=bH (l.drop 1):=Á
def xpy(B:Zs X Wg C S D ay)(h:jC P ty Wg C S D ay c vals o X p rg r d st m left b q gs v t){i}(k:gs[0]?=Y g0)(g:bW P M g0 v= .comm i #[rcase C z] M (.recv M) v #[])(s:r<T vals-T left)(n:Sm P X (re w v.tape v.drawn) v):
  ∃A v' I,runT P (gJ gs v sl) 0=(gP<|crowd A v' sl,I)/\jC P ty Wg C S D ay c vals o X p rg (r+1) d st m left b q A v' (t++I)/\A[0]?=Y (mU i<|cE #[vals.getD r Z',bG M])/\Sm P X (re w v'.tape v'.drawn) v':=by
 let a:=crowd_recv_buf (sl:=sl) k g h.lf Á<|Ro h M;let l:C<V (Z v):=(za.1 h.lf).1;let y:((vals.take<|T vals-T left).drop r).toArray.getD 0 Z'=vals.getD r Z':=by
  let f:r<T vals:=À
  simp[Jj,Oh,s,f]
 rw[finishComm_recv,y]at a;refine⟨_,_,_,a,h.yT B Â (λj F=>Á) (λW e=>?_) (λW e=>?_) (λx G=>?_) zd1 ?_ À,by simp[((za.1 k).1),recvd],MF (C:=C) n B.xc B.nc h.lf⟩;grind [fp];simp[fp]at e;grind [cO];show(aA v.heap C _)[x]?=_;grind;show(aA v.heap C _)[C]?=_;grind [zwf,zbd]
def xa7(B:Zs X Wg C S D ay)(h:jC P ty Wg C S D ay c vals o X p rg r d st m left b q gs v t){i}(k:gs[0]?=Y g0)(g:bW P M g0 v= .comm i #[rcase C z] M (.recv M) v #[])(y:¬r<T vals-T left)(s:st<=8):
  ∃F A,runT P (gJ gs v sl) 0=(gP<|crowd F v sl,A)/\jC P ty Wg C S D ay c vals o X p rg r d st m left b q F v (t++A)/\F[0]?=Y (mU i<|cE #[z,bG ao]):=by
 let l:bH ((vals.take<|T vals-T left).drop r)=#[]:=by let:((vals.take<|T vals-T left).drop r)=[]:=Oi Á;rw[this]
 let e:=h.lf;rw[l,show bR _=M by grind]at e;let a:=crowd_recv_closed (sl:=sl) k g e<|Ro h M;rw[finishComm_recv]at a;refine⟨_,_,a,h.yT B Â (λj w=>Á) (λn f=>?_) (λn f=>?_) (λx W=>O) O h.lf h.uH,by simp[((za.1 k).1),recvd]⟩;grind [fp];grind [fp,cO]
end
section
variable[dO]{P:cI}{ty:oW}{S:Q->Prop}{vals:bA eJ}{X:Q->Prop}
variable{left:bA eJ}{b s:cR}{gs:bE cR}{v:dN}{sl:dD<|Nat×Q}
def ŕ(b:∀op∈u,op.act≠ gQ oG/\op.act≠ gQ oF)(j):Deaf (t++u) j=Deaf t j:=by
 let⟨l⟩:=u;rw[Deaf_append];let a:∀op∈l,op.act≠ gQ oG/\op.act≠ gQ oF:=λop c=>b op Á;generalize Deaf t j=x;induction l generalizing x with
 |nil=>rfl
 |cons y l I=>
  rw[GQ];let:deafStep j x y=x:=by let⟨h,n⟩:=a y Â;unfold deafStep;split<;>simp_all
  simp_all
def TP.jK{b a}(h:TP X b Wg C c a0 p a t){op}(e:op.act.touch?=R)(f:op.act≠ gQ (lK a0)):TP X b Wg C c a0 p a<|t++#[op]:=
 h.sk (g:=op.g) (λx d=>Á) (λx d=>Á) (λx d=>Á)
def xek(B:Zs X Wg C S D ay){d G}(h:jC P ty Wg C S D ay c vals o X p rg r 0 (10+T d) m (v0::d) b q gs v t)(hr:¬r<T vals-T (v0::d))(h1:gs[0]?=Y (parked G #[rcase C z]<|.recv M))
  (w':Gh P C S ay o v0 (Di P ty Wg C S D ay o d) b v){w}(hS:Sm P X (re w v.tape v.drawn) v):
  ∃gs' v' ops m' b',runT P (gJ gs v sl) c=(gP<|crowd gs' v' sl,ops)/\jC P ty Wg C S D ay c vals o X p rg (r+1) 0 (9+T d) m' d b' q gs' v' (t++ops)/\gs'[0]?=Y (mU G<|cE #[v0,bG M])/\Sm P X (re w v'.tape v'.drawn) v'/\r<T vals/\vals.getD r Z'=v0:=by
 let⟨_,b2,z',es,hst,hes,hnext⟩:=w';let s:=Jk h.iE;let wr:(c==0)=ao:=zb5
 let bc:c<V gs:=ñ
 let hd:=h.lf;rw[show bR _=ao by grind]at hd;let⟨e1,e2,e3⟩:=ŗ h.kz h.uH;let g':r=T vals-T (v0::d):=by let:=h.uH;omega
 let hp:partners (aA gs c ph) C ao=[(0,0)]:=by
  rw[partners_one (stand_get (Ne.symm s) h1) λj x L A=>?_];grind [offersAt_parked_recv];obtain⟨_,rfl⟩|⟨ba,h2⟩:=getElem?_stand gs c j x A;exact offersAt_ph ..;refine lI ?_ ..;let h3:j<c:=by let:=(za.1 h2).1;rw[h.aD]at this;omega
  rcases(h.pJ j x À h3 h2).status with e|e<;>rw[e]<;>simp
 let a:=crowd_send_meets (sl:=sl) h.hb (wr▸hst) hd (Ne.symm s) h1 hp;rw[finishComm_send,finishComm_recv]at a;let bb:T (v0::d)<=T vals:=by let:=gv T h.kz;simp only[xg]at*;omega
 let aw:r<T vals:=by simp[xg]at*;omega
 let W:vals.getD r Z'=v0:=by let:=gv (λl=>l[0]?) h.kz;rw[Oh];simp only[qh,List.getElem?_drop]at this;rw[g',<-Yy<|T vals-_,<-this];rfl
 generalize hv':v.setChan C (T vals) (bH ((vals.take _).drop r)) ao (T vals-T (v0::d)+1) (r+1) ao=v' at a;let k:∀x,x≠C->v'.heap[x]?=v.heap[x]?:=λx A=>by rw[<-hv'];show(aA v.heap C _)[x]?=_;grind
 let be:V (Z v')=V (Z v):=by rw[<-hv'];show(aA v.heap C _).size=_;simp
 let hx:Kc S ay o v':=λx A=>(k x<|B.cs x A).trans<|h.kc x A;let⟨m',hm'⟩:=ŏ<|hnext v' hx;generalize hu4:(#[{g:=c,fn:=b2.frame.fn,pos:=b2.frame.place,act:=MemAct.send C<|T vals-T (v0::d)},{g:=0,fn:=G.frame.fn,pos:=G.frame.place,act:= .recv C r (T vals)},
    {g:=c,fn:=b2.frame.fn,pos:=b2.frame.place,act:= .sendDone C (T vals-T (v0::d))},{g:=0,fn:=G.frame.fn,pos:=G.frame.place,act:= .recvDone C r}]:gA)=u4 at a
 let I:∀n∈u4,n.act.touch?=R/\n.act≠ gQ oG/\n.act≠ gQ oF:=λn f=>by rw[<-hu4]at f;simp at f;obtain rfl|rfl|rfl|rfl:=f<;>simp[cO]
 let bd:TP X (wW S ay) Wg C c (stA Wg) p (V<|Z v)<|(t++aZ c b.frame.fn b.frame.place es)++u4:=by
  let w2:u4=#[u4.getD 0 default]++#[u4.getD 1 default]++#[u4.getD 2 default]++#[u4.getD 3 default]:=by rw[<-hu4];rfl
  rw[w2,<-Xn,<-Xn,<-Xn];exact hu4▸((((Rl (fn:=b.frame.fn) (pos:=b.frame.place) B.fh h.tp h.kc hes).jK za9 Â).jK za9 Â).jK za9 Â).jK za9 Â
 let F:∀j,j≠c->Deaf (t++(aZ c b.frame.fn b.frame.place es++u4)) j=Deaf t j:=λj L=>by rw[<-Xn,ŕ λn f=>(I n f).2,dJ t (Ne.symm L) _ mN]
 refine⟨_,v',_,m',_,a,⟨h.iE,ã,Á,λi g hi ih ho=>?_,λj L=>?_,hm',hx,?_,?_,À,e3,?_,λx y=>À,λx=>zz2,?_,?_,?_,λx=>À,ð⟩,?_,?_,aw,W⟩;rw[zl À,zl À]at ho;rw[F i À];exact h.pJ i g hi ih ho;rw[F j À];exact h.eN j L;let⟨cs,e,w'⟩:=h.vS;exact⟨cs,(k D<|B.cs D<|aJ B.sd).trans e,w'⟩;rw[show bR (9+T d<=8)=ao by grind,e2,<-hv'];show(aA v.heap C _)[C]?=_;grind;rw[show oV rg (9+T d)=oV rg (10+T d)from IW À À,show nY rg (9+T d)=nY rg (10+T d)from IV À À];exact h.wg.of_block<|k Wg B.wc;grind;rw[F 0<|Ne.symm s];exact h.nG;rw[<-Xn,ŕ λn f=>(I n f).2,mn,h.kv,Rt hes];grind [recvd];exact hv'▸MF hS B.xc B.nc hd
end
end
end A
namespace A
variable{Wg C D ay p rg r d st m i rg' n Bd Bs B e Lb s:Q}{c b:Zf}{o:Q->Obj}{q:Q->Q}{t u:gA}{z:Zv}{l g g':Zg}{w w₁ v' v w':Zy}{E:me->Prop}{a ſ:mh}{x y fr tt bs ls:Int}{es:bE me}{ty:Zt}{h k:bA Item}{fn:kL}{main:ez}{ops:bE eX}{F:bA Q}{op:eX}{Ϻ:Touch->Prop}
open Go Go.Conc
section
open Go.ConcN (sumTo upd sumTo_upd upd_ne upd_same RW DWs AtR0 AtK1 AtD1 WgLive PayAt Has AsideCell EvW ShN)
open Go.ConcR (KK wgBlock WgAt stA smA rd wr mk Payload DC0)
variable[pn:Pn]
section
variable[dO]{P:cI}{ty:oW}{S:Q->Prop}{c:Q}{vals:bA eJ}{X:Q->Prop}
variable{left:bA eJ}{b G:cR}{gs:bE cR}{v:dN}{sl:dD<|Nat×Q}
structure Bz(P:Zp)(C:Q)(z:Zv)(j g:Zg):Prop where
 pT:g.status=bK
 dy:g.dying=R
 st:∀v,bW P M g v= .comm j #[rcase C z] M (.recv M) v #[]
def Ch.EM(h:Ch P ty Wg C S D ay o d st m left b v)(a:st<=8):left=[]:=by cases h<;>first|rfl|omega
def Ŵ(B:Zs X Wg C S D ay)(W:Bz P C z l {parked l #[rcase C z] (.recv M)with status:=bK}){k:Q×Q}
  (Z':∀k',AI k' k->(∀gs v sl t g,Bz P C z l g->JC P ty Wg C S D ay c vals o X p rg r k' gs v t->gs[0]?=Y g->Sm P X (re w v.tape v.drawn) v->Bv P ty Wg C S D ay c vals o X p rg r l z (gJ gs v sl) t w)/\
   (∀d st m left b q gs v sl t,k'=(st,m+kD c q)->jC P ty Wg C S D ay c vals o X p rg r d st m left b q gs v t->9<=st->¬r<T vals-T left->gs[0]?=Y (parked l #[rcase C z]<|.recv M)->Sm P X (re w v.tape v.drawn) v->Bv P ty Wg C S D ay c vals o X p rg r l z (gJ gs v sl) t w))
  (hk:k=(st,m+kD c q))(h:jC P ty Wg C S D ay c vals o X p rg r d st m left b q gs v t)(h9:9<=st)(wr:¬r<T vals-T left)(h1:gs[0]?=Y (parked l #[rcase C z]<|.recv M))(hS:Sm P X (re w v.tape v.drawn) v):
  Bv P ty Wg C S D ay c vals o X p rg r l z (gJ gs v sl) t w:=by
 have y:b.status=bK:=by
  cases h.ch with
  |send h=>exact Zi (λ_ _ x=>x.1) (λ_ x=>x) h|cls h=>exact Zi (λ_ _ x=>x.1) (λ_ x=>x) h
  |_=>omega
 have cs:=h.lf;rw[show bR _=ao by grind]at cs;have ih:∀g∈gs,awake g:=by
  intro g1 hx;obtain⟨i,L,rfl⟩:=Xd.1 hx;have E:=xy L;obtain rfl|bc:=jh i;rw[h1]at E;rw[<-ql E];exact oI<|ac<|aJ O;by_cases e:i=c;subst e;rw[h.hb]at E;rw[<-ql E];exact oI<|aJ y;have:i<c:=zbi
  exact oI<|(h.pJ i _ bc this E).status.elim aJ λx=>ac (ac x)
 let⟨i,g1,F,sl',L,hx,hst⟩:=crowd_pick (P:=P) (w:=v) (sl:=sl) ih ⟨c,b,h.hb,y⟩;have hd:=Rk B h F;have G:Sm P X (re w (v.at F).tape (v.at F).drawn)<|v.at F:=hS.re _ F;have I:∀{m1:Machine} {j:gA},runT P (gJ gs (v.at F) sl') i=(gP m1,j)->fQ P 1 (gJ gs v sl) t=(gP m1,t++j):=λ{m1 j} e=>by simp[fQ,hst,e]
 have bb:i≠0:=by rintro rfl;rw[h1]at L;cases L;cases hx
 have ba:i<c+1:=by have:=(za.1 L).1;rwa[h.aD]at this
 by_cases e:i=c;subst e;rw[h.hb]at L;cases L;have h3:∀{d' ho:Q} {f:Ze},MG P ty Wg C S D ay i vals o X p rg r (parked l #[rcase C z]<|.recv M) st m q gs (v.at F) sl' t d' ho f->9<=ho->f=left->Bv P ty Wg C S D ay i vals o X p rg r l z (gJ gs v sl) t w:=λ{d' ho f} hN hr hl=>by
  let⟨gs',v',sl2,j,m',b',a1,a2,⟨g0',a3,a3',_⟩,a4,a5,_⟩:=hN;subst hl;have:g0'=parked l #[rcase C z] (.recv M):=by obtain e|⟨a,h2,e⟩:=a3';exact e;have w2:=a4.lf;rw[show bR (ho<=8)=ao by grind]at w2;rw[e];exact woken_recv_open a h2 w2
  subst this;exact .step (I a1)<|(Z' _ Á).2 _ _ _ _ _ _ _ _ _ _ O a4 hr wr a3<|a5 w G
 cases hd.ch with
 | @send v0 vs m b w hG=>
  rcases Vc (λ_ x=>x) hG with hs|⟨n,b',v',es,rfl,hs,hD,hG'⟩;let⟨gs',v',j,m',b',a1,a2,a3,a4,a5,a6⟩:=xek (sl:=sl') B hd wr h1 hs G;refine⟨1,gs',v',sl',_,(9+T vs,m'+kD i q),I a1,?_,?_,a4⟩;rw[Ar,aT a5];exact⟨_,_,_,_,_,_,a2,O⟩;rw[Dg,aT a5,a6];exact a3;exact h3 (IY B hd h1 hs hD (.send hG') À À) À O
 |cls hG=>
  rcases Vc (λ_ x=>x) hG with hs|⟨n,b',v',es,rfl,hs,hD,hG'⟩;let⟨b',m',a1,a2,a3,a4,a5⟩:=Ř (sl:=sl') B hd h1 hs;refine .step (I a1)<|(Z' _<|by rw[hk];omega).1 _ _ _ _ _ W ⟨_,_,_,_,_,_,a4,O⟩ ?_<|a5 w G;rw[zl<|Jk h.iE,jt,h1];simp only[Xl,xj];unfold woken;rw[aT Á];apply again_recv_closed (cap:=T vals) (buf:=bH ((vals.take<|T vals-T ([]:Ze)).drop r)) (s:=T vals-T ([]:Ze)) (r:=r) (tm:=ao);have:=a4.lf;grind;exact h3 (IY B hd h1 hs hD (.cls hG') À À) À O
 |_=>omega
 let⟨gs',j,q',a1,a2,⟨g0',a3,a3'⟩,a4,_⟩:=Rn (sl:=sl') hd h1 À À L hx;have:g0'=parked l #[rcase C z] (.recv M):=by obtain e|⟨a,h2,e⟩:=a3';exact e;rw[e];exact(λa h2 F=>woken_recv_open a h2 cs) a h2 F
 subst this;exact .step (I a1)<|(Z' _<|by rw[hk];omega).2 _ _ _ _ _ _ _ _ _ _ O a4 h9 wr a3 G
def xpx(B:Zs X Wg C S D ay){E:Zg}(hx:Bz P C z E {parked E #[rcase C z] (.recv M)with status:=bK})(k:Q×Q):
  (∀gs v sl t g,Bz P C z E g->JC P ty Wg C S D ay c vals o X p rg r k gs v t->gs[0]?=Y g->Sm P X (re w v.tape v.drawn) v->Bv P ty Wg C S D ay c vals o X p rg r E z (gJ gs v sl) t w)/\
   (∀d st m left b q gs v sl t,k=(st,m+kD c q)->jC P ty Wg C S D ay c vals o X p rg r d st m left b q gs v t->9<=st->¬r<T vals-T left->gs[0]?=Y (parked E #[rcase C z]<|.recv M)->Sm P X (re w v.tape v.drawn) v->Bv P ty Wg C S D ay c vals o X p rg r E z (gJ gs v sl) t w):=by
 induction k using DV.induction with
 |_ k ih=>
  refine⟨λgs v sl t g y ho l h1=>?_,λd st m left b q gs v sl t hk h Z' G l h1=>Ŵ B hx ih hk h Z' G l h1⟩;let ba:∀g∈gs,awake g:=by
   intro I F;obtain⟨i,hd,rfl⟩:=Xd.1 F;obtain rfl|a:=jh i;let:gs[0]=g:=by simpa[xy hd]using l
   rw[this];exact oI<|aJ y.pT;exact(Y0 B).kr k gs v t ho i _ a<|xy hd
  let⟨i,I,dr,sl',hd,F,hst⟩:=crowd_pick (P:=P) (w:=v) (sl:=sl) ba ⟨0,g,l,y.pT⟩;let wr:=(Y0 B).gY k gs v t dr ho;let n:Sm P X (re w (v.at dr).tape (v.at dr).drawn)<|v.at dr:=h1.re _ dr;let s:∀{h2:Machine} {x:gA},runT P (gJ gs (v.at dr) sl') i=(gP h2,x)->fQ P 1 (gJ gs v sl) t=(gP h2,t++x):=λ{h2 x} e=>by simp[fQ,hst,e]
  obtain rfl|a:=jh i;obtain rfl:I=g:=Á
  let⟨d,st,m,left,b,q,h,hk⟩:=wr;by_cases G:r<T vals-T left;let⟨gs',v',t',a1,a2,a3,a4⟩:=xpy (sl:=sl') B h l (y.st _) G n;let f:r<T vals:=À
  refine⟨1,gs',v',sl',_,(st,m+kD c q),s a1,?_,?_,a4⟩;rw[Ar,aT f];exact⟨_,_,_,_,_,_,a2,O⟩;rw[Dg,aT f];exact a3;by_cases W:st<=8;let⟨gs',t',a1,a2,a3⟩:=xa7 (sl:=sl') B h l (y.st _) G W;let f:¬r<T vals:=by rw[(h.ch.EM W)]at G;simpa using G
  refine⟨1,gs',v.at dr,sl',_,(st,m+kD c q),s a1,?_,?_,n⟩;rw[Ar,aL f];exact⟨_,_,_,_,_,_,a2,O⟩;rw[Dg,aL f];exact a3;let he:bH ((vals.take<|T vals-T left).drop r)=#[]:=by let:((vals.take<|T vals-T left).drop r)=[]:=Oi Ç;rw[this]
  let L:=h.lf;rw[he,show bR _=ao by grind]at L;let h3:=crowd_waits (sl:=sl') l (y.st _) (λcc cs=>by simp at cs;subst cs;exact ways_recv_none L<|Ro h M);let w2:jC P ty Wg C S D ay c vals o X p rg r d st m left b q (aA gs 0<|parked E #[rcase C z]<|.recv M) _ (t++aZ 0 I.frame.fn I.frame.place #[]):=
   h.yT B Â (λj hj=>by rw[zl<|Ne.symm hj]) mN (λop bb=>by simp[fp]at bb) (λ_ _=>O) O h.lf h.uH
  exact .step (s h3)<|Ŵ B hx ih hk w2 À G (by simp[((za.1 l).1)]) n;let⟨gs',v',sl2,x,k',a1,a2,a3,a4,a5⟩:=(Y0 B).dR k gs _ t i I g sl' wr a hd F l y.pT y.dy;exact .step (s a1)<|(ih k' a2).1 _ _ _ _ _ y a4 a3<|a5 w n
end
section
variable[dO](P:cI)(j:oW)(f:Q)(S:cR->Prop)
def R0(j:Zt)(f:Q)(w w₁:Zy):Prop:=WgLive j f w->WgLive j f w₁
def yW(W:Zg->Zy->Prop)(g:Zg):Prop:=∀w,WgLive j f w->∃m,gk P M (R0 j f) DC0 W m g w
def Ů(g:Zg)(_w:Zy):Prop:=g.status=bK/\S g
def ŭ(g:Zg)(w:Zy):Prop:=g.status=bK/\∃g',bW P M g w=ij g' w #[mk<|.acquire<|stA f]/\yW P j f (Ů S) g'
def MO(g:Zg)(w:Zy):Prop:=g.status=bK/\∃g',bW P M g w=ij g' w #[mk oF]/\yW P j f (ŭ P j f S) g'
def Ş(g:Zg)(w:Zy):Prop:=g.status=bK/\(WgAt j f w 0 0->∃g',bW P M g w=ij g' w #[rd<|stA f]/\yW P j f (MO P j f S) g')
def ŝ(g:Zg)(w:Zy):Prop:=g.status=bK/\g.offers=R/\((∃s,WgAt j f w s 0)->bW P M g w=ij {g with status:= .blocked} w #[])/\
 (WgAt j f w 0 1->∃g',bW P M g w=ij g' (World.setCell w (smA f)<|zu 0) (semEvents<|smA f)/\yW P j f (Ş P j f S) g')
def ş(g:Zg)(w:Zy):Prop:=g.status=bK/\∃g',bW P M g w=ij g' w #[⟨.mark<|.write<|smA f,ao,M⟩]/\yW P j f (ŝ P j f S) g'
def RG(g:Zg)(w:Zy):Prop:=g.status=bK/\(WgAt j f w 0 0->∃g',bW P M g w=ij g' w #[rd<|stA f]/\yW P j f (MO P j f S) g')
def Ŝ(g:Zg)(w:Zy):Prop:=g.status=bK/\(WgAt j f w KK 0->∃g',bW P M g w=ij g' (World.setCell w (stA f)<|aD .u64<|KK+1) #[rd<|stA f,wr<|stA f]/\yW P j f (ş P j f S) g')/\
 (WgAt j f w 0 0->∃g',bW P M g w=ij g' w #[rd<|stA f]/\yW P j f (RG P j f S) g')
def RH(g:Zg)(w:Zy):Prop:=g.status=bK/\(WgAt j f w KK 0->∃g',bW P M g w=ij g' w #[rd<|stA f]/\yW P j f (Ŝ P j f S) g')/\
 (WgAt j f w 0 0->∃g',bW P M g w=ij g' w #[rd<|stA f]/\yW P j f (MO P j f S) g')
def ś(g:Zg)(w:Zy):Prop:=g.status=bK/\∃g',bW P M g w=ij g' w #[mk oG]/\yW P j f (RH P j f S) g'
inductive W0:Q->Q->Q->Q->Zg->Zy->Prop
 |kd {st m g w:_} (h:gk P M (R0 j f) DC0 (ś P j f S) m g w):W0 9 0 st m g w
 |w1 {st m g w:_} (h:gk P M (R0 j f) DC0 (RH P j f S) m g w):W0 8 4 st m g w
 |w2 {st m g w:_} (h:gk P M (R0 j f) DC0 (Ŝ P j f S) m g w):W0 7 4 st m g w
 |w1b {m g w:_} (h:gk P M (R0 j f) DC0 (RG P j f S) m g w):W0 6 4 1 m g w
 |wr {st m g w:_} (h:gk P M (R0 j f) DC0 (ş P j f S) m g w):W0 5 1 st m g w
 |w3 {st m g w:_} (h:gk P M (R0 j f) DC0 (ŝ P j f S) m g w):W0 4 1 st m g w
 |w4 {m g w:_} (h:gk P M (R0 j f) DC0 (Ş P j f S) m g w):W0 3 2 1 m g w
 |ke {rg m g w:_} (hrg:rg=4\/rg=2) (h:gk P M (R0 j f) DC0 (MO P j f S) m g w):W0 2 rg 1 m g w
 |acq {m g w:_} (h:gk P M (R0 j f) DC0 (ŭ P j f S) m g w):W0 1 0 1 m g w
 |fin {m g w:_} (h:gk P M (R0 j f) DC0 (Ů S) m g w):W0 0 0 1 m g w
end
section
variable[dO]{P:cI}{ty:oW}{S:Q->Prop}{c:Q}{vals:bA eJ}{X:Q->Prop}{L:cR->Prop}
variable{left:bA eJ}{b g0:cR}{gs:bE cR}{v:dN}{j:dD<|Nat×Q}
def W0.vb{f}(h:W0 P ty Wg L i rg st f g w)(l:WgLive ty Wg w₁):W0 P ty Wg L i rg st f g w₁:=by
 let e:∀a b c,R0 ty Wg a b->R0 ty Wg b c->R0 ty Wg a c:=λ_ _ _ j k x=>k<|j x;let d:R0 ty Wg w w₁:=λ_=>l;cases h with
 |kd h=>exact .kd<|h.rely e d
 |w1 h=>exact .w1<|h.rely e d
 |w2 h=>exact .w2<|h.rely e d
 |w1b h=>exact .w1b<|h.rely e d
 |wr h=>exact .wr<|h.rely e d
 |w3 h=>exact .w3<|h.rely e d
 |w4 h=>exact .w4<|h.rely e d
 |ke W h=>exact .ke W<|h.rely e d
 |acq h=>exact .acq<|h.rely e d
 |fin h=>exact .fin<|h.rely e d
def ztf{f c W}(b:∀g w,W g w->g.status=bK)(a:∀w,f w w){g}(h:gk P M f c W m g w):g.status=bK:=by
 cases m with
 |zero=>exact b _ _<|h w<|a w
 |succ m=>exact zd9
theorem W0.pT{b a}(h:W0 P ty Wg L b rg st a g w):g.status=bK:=by cases h<;>rename_i h<;>exact ztf (λ_ _ x=>x.1) (λ_ x=>x) h
def Vj{f a W}(b:∀w,f w w){g}(h:gk P M f a W m g w):
  W g w\/∃G g' w' es,m=G+1/\bW P M g w=ij g' w' es/\a w w' es/\gk P M f a W G g' w':=by
 cases m with
 |zero=>exact aJ<|h w<|b w
 |succ m=>obtain h|⟨_,h⟩:=h;grind;right;let:=h w<|b w;cases I:bW P M g w with|go g' w' es=>grind [goes_go]|_=>rw[I]at this;exact this.elim
def Ch.iE(h:Ch P ty Wg C S D ay o d st m left b v):1<=st:=by cases h<;>omega
def jC.Rz(B:Zs X Wg C S D ay)(h:jC P ty Wg C S D ay c vals o X p rg r d st m left b q gs v t)(w2:gs[0]?=Y g0){g'}
  (ih:∀e∈es,(∀z,(cA e).touch?=Y z->wT Wg z.loc/\(z.kind= .atomic\/z.kind= .said))/\∀a,e.loc≠ .mark (lK a))(hx:oV rg' st=x)(hy:nY rg' st=y)(I:1<st->st<5->rg'=1)(h2:De rg'->st<=1)(hd:dF (e0 rg) es=e0 rg'):
  jC P ty Wg C S D ay c vals o X p rg' r d st m left b q (aA (gs.map<|woken P g0 g' {v with heap:=aA v.heap Wg<|wgBlock ty x y}) 0 g') {v with heap:=aA v.heap Wg<|wgBlock ty x y} (t++aZ 0 g0.frame.fn g0.frame.place es):=by
 let s:=Jk h.iE;let G:=(za.1 h.wg).1;let l:∀z,z≠Wg->(aA v.heap Wg<|wgBlock ty x y)[z]?=v.heap[z]?:=λz k=>Á
 let ho:V (aA v.heap Wg<|wgBlock ty x y)=V (Z v):=Â
 let L:WgAt ty Wg {v with heap:=aA v.heap Wg<|wgBlock ty x y} x y:=by show(aA v.heap Wg<|wgBlock ty x y)[Wg]?=_;simp[G]
 let F:∀z,S z\/z=ay->(aA v.heap Wg _)[z]?=v.heap[z]?:=λz k=>l z<|B.ws z k;let w:∀n∈aZ 0 g0.frame.fn g0.frame.place es,∀z,n.act.touch?=Y z->wT Wg z.loc/\(z.kind= .atomic\/z.kind= .said):=λn f z k=>Ø
 refine⟨h.iE,ã,?_,λi g W wr E=>?_,λj ba=>?_,h.ch.vb h.kc B.sd F ⟨_,_,L⟩,λz k=>(F z k).trans<|h.kc z k,?_,(l C<|Ne.symm B.wc).trans h.lf,h.uH,h.kz,Á,I,h2,?_,by rw[mn,h.nG];exact hd,?_,λh3=>?_,ð⟩;rw[zl<|Ne.symm s,jt,h.hb];simp only[Xl,xj];obtain e|e:=h.ch.kr;exact woken_run e;cases h.ch with
 |out hq2=>exact jJ hq2
 |_=>
  rename_i hG;first
   |(let:=Zi (λ_ _ x=>x.1) (λ_ x=>x) hG;grind)
   |(let:=Zi (λ_ _ x=>x.1) V7 hG;grind)
 rw[zl À,jt]at E;obtain⟨y,hy,rfl⟩:=zv.1 E;let h1:=h.pJ i y W wr hy;rw[jJ h1,dJ t (g':=0) À _ mN];exact h1;rw[dJ t (g':=0) À _ mN];exact h.eN j ba;let⟨cs,e,hs⟩:=h.vS;exact⟨cs,(F D<|aJ B.sd).trans e,hs⟩;show TP X _ Wg C c _ p (V (aA v.heap Wg _)) _;rw[ho];refine h.tp.gt B.fh (aJ O) mN (λn f z k bb=>?_) (λn f z k=>?_) (λn f e=>?_) EH;let⟨k1,k2⟩:=w n f z k;exact ac<|aJ ⟨k1,k2.imp id λx=>⟨x,O⟩⟩;let⟨⟨a',e,ha'⟩,_⟩:=w n f z k;rw[e];show a'.block<_;omega;grind [zy,EF];rw[dJ t (g':=0) (Ne.symm s) _ mN];exact h.kv;let⟨rr,hp,hr⟩:=h.rel h3;refine⟨rr,hp,hr.gt λi W E _=>?_⟩;let⟨z,k,hzg⟩:=zv.1 E;grind [mN]
end
section
variable[dO]{P:cI}{ty:oW}{S:Q->Prop}{c:Q}{vals:bA eJ}{X:Q->Prop}{Out:cR->Prop}
variable{left:bA eJ}{b g:cR}{gs:bE cR}{v:dN}{sl:dD<|Nat×Q}
def I7(Wg:Q)(es:bE me):Prop:=∀e∈es,(∀z,(cA e).touch?=Y z->wT Wg z.loc/\(z.kind= .atomic\/z.kind= .said))/\∀a,e.loc≠ .mark (lK a)
def RL(B:Zs X Wg C S D ay)(h:jC P ty Wg C S D ay c vals o X p rg r d st m left b q gs v t)(j:gs[0]?=Y g)(i:bW P M g v=ij g' {v with heap:=aA v.heap Wg<|wgBlock ty x y} es)
  (a:I7 Wg es)(hx:oV rg' st=x)(hy:nY rg' st=y)(e:1<st->st<5->rg'=1)(f:De rg'->st<=1)(W:dF (e0 rg) es=e0 rg'):
  ∃G,runT P (gJ gs v sl) 0=(gP<|crowd G {v with heap:=aA v.heap Wg<|wgBlock ty x y} sl,aZ 0 g.frame.fn g.frame.place es)/\G[0]?=Y g'/\
   jC P ty Wg C S D ay c vals o X p rg' r d st m left b q G {v with heap:=aA v.heap Wg<|wgBlock ty x y} (t++aZ 0 g.frame.fn g.frame.place es)/\∀w,Sm P X (re w v.tape v.drawn) v->Sm P X (re w v.tape v.drawn) {v with heap:=aA v.heap Wg<|wgBlock ty x y}:=by
 exact⟨_,qD j i,Á,h.Rz B j a hx hy e f W,λw k=>œ k B.xw B.nw h.wg x y⟩
def yX(B:Zs X Wg C S D ay)(h:jC P ty Wg C S D ay c vals o X p rg r d st m left b q gs v t)(k:gs[0]?=Y g){g'}(j:bW P M g v=ij g' v es)
  (a:I7 Wg es)(hx:oV rg' st=oV rg st)(hy:nY rg' st=nY rg st)(f:1<st->st<5->rg'=1)(i:De rg'->st<=1)(W:dF (e0 rg) es=e0 rg'):
  ∃G,runT P (gJ gs v sl) 0=(gP<|crowd G v sl,aZ 0 g.frame.fn g.frame.place es)/\G[0]?=Y g'/\jC P ty Wg C S D ay c vals o X p rg' r d st m left b q G v (t++aZ 0 g.frame.fn g.frame.place es):=by
 let e:=Ru h.wg;obtain⟨G,l,n,s,_⟩:=RL (sl:=sl) (rg':=rg') B h k (by rw[e];exact j) a hx hy f i W;grind
def Ŧ:I7 Wg #[]:=λe a=>Á
def RM{j}(d:(gQ j).touch?=R)(f:∀a,j≠ lK a):I7 Wg #[mk j]:=λe b=>by simp at b;subst b;refine⟨λz c=>?_,λa e=>?_⟩;let:(gQ j).touch?=Y z:=c;grind;cases e;grind
def Gj(b:∀e∈es,∃a w,e=(⟨ma a,w,M⟩:me)/\a.block=Wg):I7 Wg es:=λe c=>by obtain⟨a,w,rfl,d⟩:=b e c;exact⟨λz f=>by grind [MD],λa=>Â⟩
def Jn(Wg c p:Q)(t:gA):Prop:=∃rr j,p<=rr/\vT (stA Wg) c t rr/\t.act? j=Y (gQ<|.acquire<|stA Wg)/\t.g? j=Y 0/\t.heard j/\rr<j
def ů(P:cI)(ty:oW)(Wg C:Q)(S:ZP)(D ay c:Q)(vals:Ze)(o:Q->Obj)(X:ZP)(p r:Q)(Out:Zg->Prop)(d st m:Q)(left:Ze)(b:Zg)(q:Q->Q)(L I:Q)(gs:bE Zg)(v:Zy)(sl:dD<|Nat×Q)(t:gA):Prop:=
 ∃G v' ops j f W rg' g',runT P (gJ gs v sl) 0=(gP<|crowd G v' sl,ops)/\jC P ty Wg C S D ay c vals o X p rg' r d st m left b q G v' (t++ops)/\G[0]?=Y (if W=0 then {g' with status:= .blocked}else g')/\
  (W=1\/(W=0/\j=4/\1<st/\g'.offers=R))/\W0 P ty Wg Out j rg' st f g' v'/\(j=0->Jn Wg c p (t++ops))/\(j<L\/(j=L/\f+W<I+1))/\∀w,Sm P X (re w v.tape v.drawn) v->Sm P X (re w v'.tape v'.drawn) v'
def xs7(B:Zs X Wg C S D ay)(h:jC P ty Wg C S D ay c vals o X p rg r d st m left b q gs v t)(hd:gs[0]?=Y g){L hx}(hw:W0 P ty Wg Out L rg st hx g v)(hj:L=0->Jn Wg c p t):
  (L=0/\Out g)\/ů P ty Wg C S D ay c vals o X p r Out d st m left b q L hx gs v sl t:=by
 let j:WgLive ty Wg v:=⟨_,_,h.wg⟩;let hs:=h.ch.iE;let l:∀{n:Q} {k:Zg} {F:Zy} {G:bE me},hx=n+1->bW P M g v=ij k F G->DC0 v F G->W0 P ty Wg Out L rg st n k F->ů P ty Wg C S D ay c vals o X p r Out d st m left b q L hx gs v sl t:=λ{n k F G} e a s h3=>by
  obtain⟨rfl,rfl⟩:=s;let⟨gs',a1,a2,a3⟩:=yX (sl:=sl) B h hd a Ŧ O O h.rJ h.rI O;let Z':t++aZ 0 g.frame.fn g.frame.place #[]=t:=by simp[fp]
  exact⟨gs',F,_,L,n,1,rg,k,a1,a3,Á,aJ O,h3,λx=>Á,ac ⟨O,À⟩,λw E=>E⟩
 cases hw with
 |kd hG=>
  right;rcases Vj (λ_ x=>x) hG with⟨_,k,a,f⟩|⟨n,k,F,G,rfl,a,s,hG'⟩;let⟨m',f⟩:=f v j;let⟨gs',a1,a2,a3⟩:=yX (sl:=sl) (rg':=4) B h hd a (RM O Â) (by simp[oV]) (by simp[nY]) (λx y=>by let:=h.rJ x y;omega) (λx=>dC O x.2.2) (by simp[mk,dF,e0]);exact⟨gs',v,_,8,m',1,4,k,a1,a3,Á,aJ O,.w1 f,λx=>À,aJ À,λw E=>E⟩;exact l O a s<|.kd hG'
 |w1 hG=>
  right;rcases Vj (λ_ x=>x) hG with⟨_,hs1,hs2⟩|⟨n,k,F,G,rfl,a,s,hG'⟩;by_cases h2:st<=1;obtain rfl:st=1:=À
  let⟨k,a,f⟩:=hs2 h.wg;let⟨m',f⟩:=f v j;let⟨gs',a1,a2,a3⟩:=yX (sl:=sl) (rg':=4) B h hd a (Gj EE) O O h.rJ h.rI aV;exact⟨gs',v,_,2,m',1,4,k,a1,a3,Á,aJ O,.ke (aJ O) f,λx=>À,aJ À,λw E=>E⟩;let I:=h.wg;rw[show oV 4 st=KK by simp[oV,h2],show nY 4 st=0 by simp[nY]]at I;let⟨k,a,f⟩:=hs1 I;let⟨m',f⟩:=f v j;let⟨gs',a1,a2,a3⟩:=yX (sl:=sl) (rg':=4) B h hd a (Gj EE) O O h.rJ h.rI aV;exact⟨gs',v,_,7,m',1,4,k,a1,a3,Á,aJ O,.w2 f,λx=>À,aJ À,λw E=>E⟩;exact l O a s<|.w1 hG'
 |w2 hG=>
  right;rcases Vj (λ_ x=>x) hG with⟨_,hs1,hs2⟩|⟨n,k,F,G,rfl,a,s,hG'⟩;by_cases h2:st<=1;obtain rfl:st=1:=À
  let⟨k,a,f⟩:=hs2 h.wg;let⟨m',f⟩:=f v j;let⟨gs',a1,a2,a3⟩:=yX (sl:=sl) (rg':=4) B h hd a (Gj EE) O O h.rJ h.rI aV;exact⟨gs',v,_,6,m',1,4,k,a1,a3,Á,aJ O,.w1b f,λx=>À,aJ À,λw E=>E⟩;let I:=h.wg;rw[show oV 4 st=KK by simp[oV,h2],show nY 4 st=0 by simp[nY]]at I;let ih:5<=st:=by apply jg;intro f;let:=h.rJ À À;omega
  let⟨k,a,f⟩:=hs1 I;rw[MB I]at a;let⟨gs',a1,a2,a3,a4⟩:=RL (sl:=sl) (rg':=1) B h hd a (Gj Mz) (by simp[oV,ih]) (by simp[nY,h2]) (λ_ _=>O) (λx=>dC O x.2.1) (by simp[rd,wr,dF,e0]);let⟨m',f⟩:=f _ ⟨_,_,a3.wg⟩;exact⟨gs',_,_,5,m',1,1,k,a1,a3,Á,aJ O,.wr f,λx=>À,aJ À,a4⟩;exact l O a s<|.w2 hG'
 |w1b hG=>
  right;rcases Vj (λ_ x=>x) hG with⟨_,hs2⟩|⟨n,k,F,G,rfl,a,s,hG'⟩;let⟨k,a,f⟩:=hs2 h.wg;let⟨m',f⟩:=f v j;let⟨gs',a1,a2,a3⟩:=yX (sl:=sl) (rg':=4) B h hd a (Gj EE) O O h.rJ h.rI aV;exact⟨gs',v,_,2,m',1,4,k,a1,a3,Á,aJ O,.ke (aJ O) f,λx=>À,aJ À,λw E=>E⟩;exact l O a s<|.w1b hG'
 |wr hG=>
  right;rcases Vj (λ_ x=>x) hG with⟨_,k,a,f⟩|⟨n,k,F,G,rfl,a,s,hG'⟩;let⟨m',f⟩:=f v j;let⟨gs',a1,a2,a3⟩:=yX (sl:=sl) (rg':=1) B h hd a (λe cs=>by simp at cs;subst cs;exact⟨λz h1=>by simp only[cA,cO,xj]at h1;subst h1;exact⟨⟨_,O,O⟩,ac O⟩,Â⟩) O O h.rJ h.rI<|by simp[dF]
  exact⟨gs',v,_,4,m',1,1,k,a1,a3,Á,aJ O,.w3 f,λx=>À,aJ À,λw E=>E⟩;exact l O a s<|.wr hG'
 |w3 hG=>
  right;rcases Vj (λ_ x=>x) hG with⟨hrun,hoff,hs1,hs2⟩|⟨n,k,F,G,rfl,a,s,hG'⟩;by_cases h2:st<=1;obtain rfl:st=1:=À
  let I:=h.wg;let⟨k,a,f⟩:=hs2 I;rw[Ŗ I]at a;let⟨gs',a1,a2,a3,a4⟩:=RL (sl:=sl) (rg':=2) B h hd a (λe cs=>by simp[semEvents]at cs;obtain rfl|rfl|rfl|rfl:=cs;grind [cA,cO];exact⟨λz h1=>zcm,Â⟩;exact⟨λz h1=>zcm,Â⟩;grind [cA,cO]) O O (λx=>À) (λ_=>À)<|by simp[semEvents,dF,e0]
  let⟨m',f⟩:=f _ ⟨_,_,a3.wg⟩;exact⟨gs',_,_,3,m',1,2,k,a1,a3,Á,aJ O,.w4 f,λx=>À,aJ À,a4⟩;let I:=h.wg;rw[show nY 1 st=0 by simp[nY,h2]]at I;let a:=hs1 ⟨_,I⟩;let⟨gs',a1,a2,a3⟩:=yX (sl:=sl) (rg':=1) B h hd a Ŧ O O h.rJ h.rI O;exact⟨gs',v,_,4,hx,0,1,g,a1,a3,Á,ac ⟨O,O,À,hoff⟩,.w3 hG,λx=>À,ac ⟨O,À⟩,λw E=>E⟩;exact l O a s<|.w3 hG'
 |w4 hG=>
  right;rcases Vj (λ_ x=>x) hG with⟨_,hs2⟩|⟨n,k,F,G,rfl,a,s,hG'⟩;let⟨k,a,f⟩:=hs2 h.wg;let⟨m',f⟩:=f v j;let⟨gs',a1,a2,a3⟩:=yX (sl:=sl) (rg':=2) B h hd a (Gj EE) O O h.rJ h.rI aV;exact⟨gs',v,_,2,m',1,2,k,a1,a3,Á,aJ O,.ke (ac O) f,λx=>À,aJ À,λw E=>E⟩;exact l O a s<|.w4 hG'
 |ke hrg hG=>
  right;rcases Vj (λ_ x=>x) hG with⟨_,k,a,f⟩|⟨n,k,F,G,rfl,a,s,hG'⟩;let⟨m',f⟩:=f v j;let⟨gs',a1,a2,a3⟩:=yX (sl:=sl) (rg':=0) B h hd a (RM O Â) (by obtain rfl|rfl:=hrg<;>rfl) (by obtain rfl|rfl:=hrg<;>rfl) (λx=>À) (λx=>dC O x.1) (by grind [mk,dF,e0]);exact⟨gs',v,_,1,m',1,0,k,a1,a3,Á,aJ O,.acq f,λx=>À,aJ À,λw E=>E⟩;exact l O a s<|.ke hrg hG'
 |acq hG=>
  right;rcases Vj (λ_ x=>x) hG with⟨_,k,a,f⟩|⟨n,k,F,G,rfl,a,s,hG'⟩;let⟨m',f⟩:=f v j;let⟨gs',a1,a2,a3⟩:=yX (sl:=sl) (rg':=0) B h hd a (RM O Â) O O h.rJ h.rI (by grind [mk,dF]);refine⟨gs',v,_,0,m',1,0,k,a1,a3,Á,aJ O,.fin f,λ_=>?_,aJ À,λw E=>E⟩;let⟨rr,hp,hr⟩:=a3.rel À;let⟨rr0,_,hr0⟩:=h.rel À;let⟨rr,hp,hr⟩:=h.rel À;let ba:(t++aZ 0 g.frame.fn g.frame.place #[mk<|.acquire<|stA Wg])[V t]?=Y {g:=0,fn:=g.frame.fn,pos:=g.frame.place,act:=gQ (.acquire<|stA Wg)}:=by simp[fp,mk,cA]
  refine⟨rr,V t,hp,hr.gt λi hi W _=>?_,by rw[act?_of ba],by simp[kj,ba],⟨0,by simp[kj,ba],?_⟩,lt_of_act? hr.Mw⟩;let⟨z,h1,hzg⟩:=zv.1 W;obtain⟨bc,_⟩|⟨_,bb⟩:=getElem?_append_cases h1;omega;exact Jk h.iE<|hzg.symm.trans<|mN z bb;rw[deaf_old<|zd _];exact h.nG;exact l O a s<|.acq hG'
 |fin hG=>rcases Vj (λ_ x=>x) hG with⟨_,ho⟩|⟨n,k,F,G,rfl,a,s,hG'⟩;grind;exact ac<|l O a s<|.fin hG'
abbrev LtW:Q×Q×Q->Q×Q×Q->Prop:=Prod.Lex (·<·) (Prod.Lex (·<·) (·<·))
def xyr:WellFounded LtW:=(Prod.lex Nat.lt_wfRel _).wf
def JW(P:cI)(ty:oW)(Wg C:Q)(S:ZP)(D ay c:Q)(vals:Ze)(o:Q->Obj)(X:ZP)(p r:Q)(Out:Zg->Prop)(k:Q×Q×Q)(gs:bE Zg)(v:Zy)(t:gA):Prop:=
 ∃j W f rg d st m left b q g,jC P ty Wg C S D ay c vals o X p rg r d st m left b q gs v t/\gs[0]?=Y (if f=0 then {g with status:= .blocked}else g)/\(f=1\/(f=0/\j=4/\1<st/\g.offers=R))/\
  W0 P ty Wg Out j rg st W g v/\(j=0->Jn Wg c p t)/\k=(j+st,m+kD c q,W+f)
def MR(P:cI)(ty:oW)(Wg C:Q)(S:ZP)(D ay c:Q)(vals:Ze)(o:Q->Obj)(X:ZP)(p r:Q)(Out:Zg->Prop)(m:Machine)(t:gA)(w:Zy):Prop:=
 ∃j G v' f W d L left b q g,fQ P j m t=(gP<|crowd G v' f,W)/\jC P ty Wg C S D ay c vals o X p 0 r d 1 L left b q G v' W/\G[0]?=Y g/\Out g/\Jn Wg c p W/\Sm P X (re w v'.tape v'.drawn) v'
def MR.step{m m1 t a w j}(h:fQ P j m t=(gP m1,a))(k:MR P ty Wg C S D ay c vals o X p r Out m1 a w):MR P ty Wg C S D ay c vals o X p r Out m t w:=by let⟨W,G,v',f,L,d,I,left,b,q,g,a1,a2⟩:=k;exact⟨j+W,G,v',f,L,d,I,left,b,q,g,qr h a1,a2⟩
def W0.I4{b j a}(h:W0 P ty Wg Out b rg st a g w)(c:WgLive ty Wg w₁)(d:j<=st)(e:1<=j):W0 P ty Wg Out b rg j a g w₁:=by
 let h:=h.vb c;cases h with
 |kd h=>exact .kd h|w1 h=>exact .w1 h
 |w2 h=>exact .w2 h
 |w1b h=>
      obtain rfl:j=1:=À
      exact .w1b h
 |wr h=>exact .wr h|w3 h=>exact .w3 h
 |w4 h=>
      obtain rfl:j=1:=À
      exact .w4 h
 |ke f h=>
        obtain rfl:j=1:=À
        exact .ke f h
 |acq h=>
      obtain rfl:j=1:=À
      exact .acq h
 |fin h=>
      obtain rfl:j=1:=À
      exact .fin h
def Ch.Rx(h:Ch P ty Wg C S D ay o d st m left b v)(a:st<=1):QuitsD P m d b:=by cases h<;>first|omega|omega
def W0.uj{a}(h:W0 P ty Wg Out 4 rg st a g w):rg=1:=by cases h;rfl
def W0.sI{a}(h:W0 P ty Wg Out 0 rg st a g w):st=1/\rg=0:=by cases h;omega
theorem Jn.gt(h:Jn Wg c p t)(b:∀rr,vT (stA Wg) c t rr->vT (stA Wg) c (t++u) rr):Jn Wg c p<|t++u:=by let⟨rr,j,f,W,L,G,I,h6⟩:=h;let a:=lt_of_act? L;exact⟨rr,j,f,b rr W,by grind [act?_old],g?_old a▸G,(heard_old a).2 I,h6⟩
def ŵ{c:Q}{a a':Zg}{b:Zg}(d:g.status=bK)(e:c=1\/(c=0/\g.offers=R))(h:b=(if c=0 then {g with status:= .blocked}else g)\/∃a a',b=woken P a a' v' (if c=0 then {g with status:= .blocked}else g)):
  ∃f,b=(if f=0 then {g with status:= .blocked}else g)/\(f=1\/f=0/\c=0):=by
 grind [woken_run,woken,ConcR.again_blocked]
theorem xqy(B:Zs X Wg C S D ay)(k):∀gs v sl t,JW P ty Wg C S D ay c vals o X p r Out k gs v t->Sm P X (re w v.tape v.drawn) v->MR P ty Wg C S D ay c vals o X p r Out (gJ gs v sl) t w:=by
 induction k using xyr.induction with
 |_ k ih=>
  intro gs v sl t hJ hx;let⟨s0,m0,fl,rg,d,st,m,left,b,q,g,h,h0,hfl,hw,hj,hk⟩:=hJ;have wr:=hw.pT;have j:fl=1\/(fl=0/\g.offers=R):=hfl.imp id λx=>⟨x.1,x.c⟩;have h3:fl=0->b.status=bK:=λe=>by
   have w2:=hfl.elim (λx=>À) λx=>x.2.2.1;cases h.ch with
   |out _=>omega
   |_=>
    rename_i hG;first
     |exact Zi (λ_ _ x=>x.1) (λ_ x=>x) hG|exact Zi (λ_ _ x=>x.1) V7 hG
  have hs:∀g∈gs,awake g:=by
   intro W n;obtain⟨i,G,rfl⟩:=Xd.1 n;have y:=xy G;obtain rfl|l:=jh i;grind [oI];by_cases e:i=c;subst e;rw[h.hb]at y;rw[<-ql y];exact oI<|h.ch.kr.elim aJ λx=>ac (ac x);have:i<c:=zbi
   exact oI<|(h.pJ i _ l this y).status.elim aJ λx=>ac (ac x)
  have z:∃(i:Q) (g:Zg),gs[i]?=Y g/\g.status=bK:=by obtain rfl|⟨rfl,_⟩:=hfl;grind;exact⟨c,b,h.hb,h3 O⟩
  let⟨i,W,dr,sl',G,n,w2⟩:=crowd_pick (P:=P) (w:=v) (sl:=sl) hs z;have hd:=Rk B h dr;have s:Sm P X (re w (v.at dr).tape (v.at dr).drawn)<|v.at dr:=hx.re _ dr;have E:=hw.vb (w₁:=v.at dr) ⟨_,_,h.wg⟩;have F:∀{h2:Machine} {f:gA},runT P (gJ gs (v.at dr) sl') i=(gP h2,f)->fQ P 1 (gJ gs v sl) t=(gP h2,t++f):=λ{h2 f} e=>ë
  have ba:i<c+1:=by have:=(za.1 G).1;rwa[h.aD]at this
  have bc:offersAt (if fl=0 then {g with status:= .blocked}else g) C ao=[]:=by obtain rfl|⟨rfl,hr⟩:=j;grind [lI];simp[offersAt,hr]
  obtain rfl|l:=jh i;have I:fl=1:=by obtain x|⟨rfl,_⟩:=hfl;exact x;grind
  subst I;rcases xs7 (sl:=sl') B hd Á E hj with⟨rfl,ho⟩|⟨gs',v',f,s0',m0',fl',rg',g',a1,a2,a3,a4,a5,a6,a7,a8⟩;obtain⟨rfl,rfl⟩:=hw.sI;exact⟨0,gs,v,sl,t,d,m,left,b,q,g,O,h,Á,ho,hj O,hx⟩;refine .step (F a1)<|ih _ ?_ _ _ _ _ ⟨s0',m0',fl',rg',d,st,m,left,b,q,g',a2,a3,a4,a5,a6,O⟩<|a8 w s;rw[hk];grind;by_cases e:i=c;subst e;rw[h.hb]at G;cases G;let⟨d',st',left',gs',v',sl2,f,m',b',a1,a2,⟨g0',a3,a3',a3''⟩,a4,a5,a6⟩:=Ŕ (sl:=sl') B hd h0 bc n;have L:st'<=st:=by cases a2 with|left _ _ h=>omega|right _ h=>omega
  let⟨fl',e1,h1⟩:=ŵ (a:=g) (a':=g) wr j a3';refine .step (F a1)<|ih _ ?_ _ _ _ _ ⟨s0,m0,fl',rg,d',st',m',left',b',q,g,a4,Á,?_,E.I4 ⟨_,_,a4.wg⟩ L a4.ch.iE,λx=>(hj x).gt<|a6<|by subst x;obtain⟨rfl,_⟩:=hw.sI;omega,O⟩<|a5 w s;rw[hk];grind;obtain h1|⟨h1,e3⟩:=h1;omega;right;obtain⟨rfl,cs,w3,Z'⟩:fl=0/\s0=4/\1<st/\g.offers=R:=by obtain x|x:=hfl;omega;omega
  refine⟨h1,cs,?_,Z'⟩;apply jg;intro hn;subst cs;let⟨bb,k1,k2,k3,k4⟩:=a3'' hw.uj À w3;grind [woken,ConcR.again_blocked];let⟨gs',f,q',a1,a2,⟨g0',a3,a3'⟩,a4,a6⟩:=Rn (sl:=sl') hd h0 l À G n;let⟨fl',e1,h1⟩:=ŵ (a:=g) (a':=g) wr j a3';refine .step (F a1)<|ih _ ?_ _ _ _ _ ⟨s0,m0,fl',rg,d,st,m,left,b,q',g,a4,Á,?_,E,λx=>(hj x).gt a6,O⟩ s;grind;grind
theorem xbt(B:Zs X Wg C S D ay){X'}(f:∀x,X x->¬(S x\/x=ay)->X' x){z}(h:jC P ty Wg C S D ay c vals o X p 0 r d 1 z left b q gs v t)(y:Jn Wg c p t)(G:∃g,gs[0]?=Y g):
  ∃k,JL P X' k gs v t:=by
 let⟨rr,q',I,j2,j3,j4,j5,j6⟩:=y;refine⟨_,λi=>if i=c then z else q i,⟨λi g E m=>?_,λj y=>?_⟩,h.tp.Rh B.fh j2 I j3 j4 j5 j6 h.nG (λl n s=>?_) λl n s=>?_,O⟩;let F:i<c+1:=by let:=(za.1 m).1;rwa[h.aD]at this
 by_cases e:i=c;subst e;rw[h.hb]at m;cases m;simp only[dY,h.kv];exact h.ch.Rx<|zd _;simp[e,kB];exact h.pJ i g E À m;exact h.eN j zbi;let⟨a,e,ha⟩:=n;exact⟨a,e,f _ ha λw=>s<|aJ ⟨a,e,w⟩⟩;let⟨L,e,W⟩:=n;exact⟨L,e,f _ W λw=>s<|ac ⟨L,e,w⟩⟩
end
end
section
open Go.RowKit Go.Conc.Lib Go.ConcR.Gen Go.ConcN.Gen
open Go.ConcN (WgLive)
open Go.ConcR (KK wgBlock WgAt stA smA rd wr mk Payload DC0)
variable[pn:Pn]
section
variable{cs:bA Zf}
section
variable[dO]{L:WgLink}{P:cI}{Out:cR->Prop}
def zr(h:WgLive ty Wg w)(r:R0 ty Wg w w₁):WgLive ty Wg w₁:=r h
def RI{cs}(f:b.kind= .deferred)(j:a.defers=[])(e:P.funcs[b.fn]?=Y fn)(d:fn.results=#[]):
  bW P M (G {b.at a h with mode:=eB} (c::cs)) w=ij (G {c with mode:=settle c.mode} cs) w:=by
 simp only[G,bW,dT,gi,Frame.at,f,j,e,ze,results_none d _ P w,events_results_none d ..,seen_none];unfold settle;split<;>(try split)<;>simp_all [bJ]
def _root_.Go.Conc.Goes.up{b a S k g}(h:gk P main b a S n g w)(hk:n<=k):gk P main b a S k g w:=by induction hk with|refl=>exact h|step _ I=>exact I.more
def Ś(L:WgLink)(Wg:Q)(c:Zf)(cs:bA Zf)(g:Zg):Prop:=
 ∃j:Za,g=G ((baseD L.wait).at ⟨j,[]⟩ [dE<|L7 L,.inLoop<|L7 L,.inBlock 0]) (c::cs)/\V j=84/\j[0]?=zq Wg
def xus(H:WgLib P L)(h:Out<|G {c with mode:=settle c.mode} cs)(i:Ś L Wg c cs g)(w:Zy)(a:WgLive L.tWg Wg w):gk P M (R0 L.tWg Wg) DC0 (RG P L.tWg Wg Out) 40 g w:=by
 lib_facts
 obtain⟨h1,rfl,b,e⟩:=i;obtain⟨v0,v1,v2,v3,v4,v5,v6,v7,v8,v9,k,l,m,n,o,p,q,r,s,t,v,x,y,z,B,C,D,E,F,I,h2,hx,ay,ho,wr,h3,w2,S,ih,hs,W,X,hr,Z',ba,bb,bc,bd,be,bf,bg,bh,bi,bj,bk,bl,bm,bn,bo,bp,bq,br,bs,bt,bu,bv,bw,bx,bz,b0,b1,b2,b3,b4,b5,b6,b7,b8,b9,ca,cb,cc,cd,ce,rfl⟩:=array84 h1 b;simp only[Jz,qh,xj]at e;subst e;simp only[L7,body_wait,waitFn,qt];u_c qC zr a;u_c cM zr a;u_reg zr a;iterate 3 (u_op zr a)
 u_call H.f_uLoad (nm_uLoad L) uLoadFn zr a;iterate 9 (first|u_c cM zr a|u_reg zr a|u_c aW zr a|u_op zr a)
 refine fO λf d=>?_;refine⟨O,λj=>?_⟩;refine⟨_,nP O O Ë O H.f_loadU64 (x_loadU64_n L) (x_loadU64_b L) (x_loadU64_x L) .u64 (x_loadU64_f L) O j.cellSt,λw a=>⟨60,?_⟩⟩;walk_nrm;u_op zr a;u_c aW zr a;u_c jA zr a;u_leave1 H.f_uLoad zr a;iterate 22 (first|u_c aW zr a|u_c cM zr a|u_reg zr a|u_op zr a)
 u_cond M zr a;u_c cM zr a;u_cond M zr a;u_c cM zr a;u_reg zr a;refine fO λf d=>?_;refine⟨O,_,stepG_mark0 oF Â O O Ë O H.f_enable (x_enable_n L) (x_enable_b L) (x_enable_x L)<|x_enable_f L,λw a=>⟨12,?_⟩⟩;walk_nrm;u_c aW zr a;u_reg zr a;u_op zr a;u_conv H.underlying_tWgP H.room_tWg (kf a).choose_spec zr a;refine fO λf d=>?_;refine⟨O,_,stepG_markAt .acquire Â O O Ë O H.f_acquire (x_acquire_n L) (x_acquire_b L) (x_acquire_x L) (x_acquire_f L)<|by simp[jV,stA],λw a=>⟨40,?_⟩⟩;walk_nrm;iterate 16 (first|u_c aW zr a|u_c cM zr a|u_reg zr a|u_skip zr a|u_op zr a)
 u_cond ao zr a;u_c pc zr a;u_c jA zr a;refine kg O λ_ d=>?_;exact zaf
def xur(H:WgLib P L)(h:Out<|G {c with mode:=settle c.mode} cs)(k:Ś L Wg c cs g)(w:Zy)(a:WgLive L.tWg Wg w):gk P M (R0 L.tWg Wg) DC0 (RH P L.tWg Wg Out) 40 g w:=by
 lib_facts
 obtain⟨h1,rfl,f,j⟩:=k;obtain⟨v0,v1,v2,v3,v4,v5,v6,v7,v8,v9,l,m,n,o,p,q,r,s,t,v,x,y,z,B,C,D,E,F,I,h2,hx,ay,ho,wr,h3,w2,S,ih,hs,W,X,hr,Z',ba,bb,bc,bd,be,bf,bg,bh,bi,bj,bk,bl,bm,bn,bo,bp,bq,br,bs,bt,bu,bv,bw,bx,bz,b0,b1,b2,b3,b4,b5,b6,b7,b8,b9,ca,cb,cc,cd,ce,cf,rfl⟩:=array84 h1 f;simp only[Jz,qh,xj]at j;subst j;simp only[L7,body_wait,waitFn,qt];u_c qC zr a;u_c cM zr a;u_reg zr a;iterate 3 (u_op zr a)
 u_call H.f_uLoad (nm_uLoad L) uLoadFn zr a;iterate 9 (first|u_c cM zr a|u_reg zr a|u_c aW zr a|u_op zr a)
 refine fO λe d=>?_;refine⟨O,λb=>?_,λb=>?_⟩;rotate_left
 ·skip;refine⟨_,nP O O Ë O H.f_loadU64 (x_loadU64_n L) (x_loadU64_b L) (x_loadU64_x L) .u64 (x_loadU64_f L) O b.cellSt,λw a=>⟨60,?_⟩⟩;walk_nrm;u_op zr a;u_c aW zr a;u_c jA zr a;u_leave1 H.f_uLoad zr a;iterate 22 (first|u_c aW zr a|u_c cM zr a|u_reg zr a|u_op zr a)
  u_cond M zr a;u_c cM zr a;u_cond M zr a;u_c cM zr a;u_reg zr a;refine fO λe d=>?_;refine⟨O,_,stepG_mark0 oF Â O O Ë O H.f_enable (x_enable_n L) (x_enable_b L) (x_enable_x L)<|x_enable_f L,λw a=>⟨12,?_⟩⟩;walk_nrm;u_c aW zr a;u_reg zr a;u_op zr a;u_conv H.underlying_tWgP H.room_tWg (kf a).choose_spec zr a;refine fO λe d=>?_;refine⟨O,_,stepG_markAt .acquire Â O O Ë O H.f_acquire (x_acquire_n L) (x_acquire_b L) (x_acquire_x L) (x_acquire_f L)<|by simp[jV,stA],λw a=>⟨40,?_⟩⟩;walk_nrm;iterate 16 (first|u_c aW zr a|u_c cM zr a|u_reg zr a|u_skip zr a|u_op zr a)
  u_cond ao zr a;u_c pc zr a;u_c jA zr a;refine kg O λ_ d=>?_;exact zaf
 refine⟨_,nP O O Ë O H.f_loadU64 (x_loadU64_n L) (x_loadU64_b L) (x_loadU64_x L) .u64 (x_loadU64_f L) O b.cellSt,λw a=>⟨80,?_⟩⟩;walk_nrm;u_op zr a;u_c aW zr a;u_c jA zr a;u_leave1 H.f_uLoad zr a;iterate 22 (first|u_c aW zr a|u_c cM zr a|u_reg zr a|u_op zr a)
 u_cond ao zr a;u_c pc zr a;u_c cM zr a;u_reg zr a;iterate 6 (u_op zr a)
 u_call H.f_uCas (nm_uCas L) uCasFn zr a;iterate 11 (first|u_c cM zr a|u_reg zr a|u_c aW zr a|u_op zr a)
 refine fO λe d=>?_;refine⟨O,λb=>?_,λb=>?_⟩;rotate_left;skip;refine⟨_,stepG_cas_miss (old:=4294967296) O O Ë O H.f_casU64 (x_casU64_n L) (x_casU64_b L) (x_casU64_x L) .u64 (x_casU64_f L) O O O b.cellSt (b.thaw 0) Ã,λw a=>⟨60,?_⟩⟩;walk_nrm;u_op zr a;u_c aW zr a;u_c jA zr a;u_leave1 H.f_uCas zr a;u_c aW zr a;u_cond ao zr a;u_c pc zr a;u_c stepG_inBlock zr a;u_c stepG_inLoop zr a;exact(xus H h ⟨_,O,Â,Â⟩ _ a).up À;refine⟨_,(stepG_cas_hit O O Ë O H.f_casU64 (x_casU64_n L) (x_casU64_b L) (x_casU64_x L) .u64 (x_casU64_f L) O O O b.cellSt<|b.thaw 0).trans zz5,λw a=>⟨60,?_⟩⟩;walk_nrm;u_op zr a;u_c aW zr a;u_c jA zr a;u_leave1 H.f_uCas zr a;u_c aW zr a;u_cond M zr a;iterate 8 (first|u_c cM zr a|u_reg zr a|u_c aW zr a|u_op zr a)
 u_cond M zr a;u_reg zr a;iterate 3 (u_op zr a)
 u_conv H.underlying_tPU32 H.room_tU32 (Go.ConcN.Gen.WgLive.cell1 a).choose_spec zr a;refine fO λe d=>?_;refine⟨O,_,stepG_markAt .write Â O O Ë O H.f_raceWrite (x_raceWrite_n L) (x_raceWrite_b L) (x_raceWrite_x L) (x_raceWrite_f L) (ad:=smA Wg)<|by simp[jV,smA],λw a=>⟨40,?_⟩⟩;walk_nrm;iterate 15 (first|u_c aW zr a|u_c cM zr a|u_reg zr a|u_skip zr a|u_op zr a)
 u_cond ao zr a;u_c pc zr a;u_c cM zr a;u_reg zr a;iterate 4 (u_op zr a)
 refine fO λe d=>?_;refine⟨O,O,λ⟨st,b⟩=>stepG_semacquire_wait O O O H.f_semacquire (x_semacquire_n L) (x_semacquire_b L) (x_semacquire_x L) (x_semacquire_f L) (by simp[jV,smA]) b.cellSm,λi=>?_⟩;refine⟨_,(stepG_semacquire O O Ë O H.f_semacquire (x_semacquire_n L) (x_semacquire_b L) (x_semacquire_x L) (x_semacquire_f L) (by simp[jV,smA]) i.cellSm Ë<|i.thaw 1).trans zz5,λw a=>⟨30,?_⟩⟩;walk_nrm;u_c aW zr a;u_c cM zr a;u_reg zr a;iterate 3 (u_op zr a)
 u_call H.f_uLoad (nm_uLoad L) uLoadFn zr a;iterate 9 (first|u_c cM zr a|u_reg zr a|u_c aW zr a|u_op zr a)
 refine fO λe d=>?_;refine⟨O,λb=>?_⟩;refine⟨_,nP O O Ë O H.f_loadU64 (x_loadU64_n L) (x_loadU64_b L) (x_loadU64_x L) .u64 (x_loadU64_f L) O b.cellSt,λw a=>⟨60,?_⟩⟩;walk_nrm;u_op zr a;u_c aW zr a;u_c jA zr a;u_leave1 H.f_uLoad zr a;iterate 2 (u_op zr a)
 u_c aW zr a;u_c cM zr a;u_cond M zr a;u_c cM zr a;u_reg zr a;refine fO λe d=>?_;refine⟨O,_,stepG_mark0 oF Â O O Ë O H.f_enable (x_enable_n L) (x_enable_b L) (x_enable_x L)<|x_enable_f L,λw a=>⟨12,?_⟩⟩;walk_nrm;u_c aW zr a;u_reg zr a;u_op zr a;u_conv H.underlying_tWgP H.room_tWg (kf a).choose_spec zr a;refine fO λe d=>?_;refine⟨O,_,stepG_markAt .acquire Â O O Ë O H.f_acquire (x_acquire_n L) (x_acquire_b L) (x_acquire_x L) (x_acquire_f L)<|by simp[jV,stA],λw a=>⟨40,?_⟩⟩;walk_nrm;iterate 6 (first|u_c aW zr a|u_c cM zr a|u_reg zr a|u_op zr a)
 u_cond ao zr a;u_c pc zr a;u_c jA zr a;refine kg O λ_ d=>?_;exact zaf
def xk9(H:WgLib P L)(b:Out<|G {c with mode:=settle c.mode} cs)(w:Zy)(a:WgLive L.tWg Wg w):
  gk P M (R0 L.tWg Wg) DC0 (ś P L.tWg Wg Out) 3
   (G ((baseD L.wait).at ⟨#[zq Wg]++cL 83 Z',[]⟩ [dE<|body_wait L]) (c::cs)) w:=by
 lib_facts
 simp only[body_wait,waitFn,qt,qu,qw,Xa,Zh,qj,qg];u_c cM zr a;u_cond M zr a;u_reg zr a;refine fO λe d=>?_;clear d a;refine⟨O,_,stepG_mark0 oG Â O O Ë O H.f_disable (x_disable_n L) (x_disable_b L) (x_disable_x L)<|x_disable_f L,λw a=>⟨50,?_⟩⟩;walk_nrm;u_c aW zr a;u_c qC zr a;u_c stepG_loop zr a;exact(xur H b ⟨_,O,Â,Â⟩ _ a).up À
end
end
end
section
open Go.Conc.Lib
variable[pn:Pn]
abbrev Gk:WgLink:={add:=210,done:=212,wait:=209,relMerge:=252,disable:=242,enable:=244,inBubble:=250,associate:=253,fatal:=254,uOr:=255,uAdd:=256,raceRead:=257,uLoad:=243,uStore:=258,disassociate:=248,semrelease:=259,acquire:=245,isAssociated:=246,uCas:=247,raceWrite:=249,semacquire:=251,orU64:=298,addU64:=299,loadU64:=296,storeU64:=300,casU64:=297,tWgP:=324,tUP:=327,tAssoc:=333,tWg:=286,tAU:=284,tU64:=255,tUint:=108,tU32:=232,tPU32:=331,tPAU:=367,tPU64:=369,tNoCopy:=280,tANoCopy:=281,tAlign64:=282}
open Tryz in
theorem MN:WgLib az Gk:=
 ⟨func210,func212,func209,func252,func242,func244,func250,func253,func254,func255,func256,func257,func243,func258,func248,func259,func245,func246,func247,func249,func251,func298,func299,func296,func300,func297,underlying324,runUnderlying324,sizeOf324,isAgg324,zeroValue324,underlying327,runUnderlying327,sizeOf327,isAgg327,zeroValue327,underlying333,runUnderlying333,sizeOf333,isAgg333,zeroValue333,underlying286,runUnderlying286,sizeOf286,isAgg286,zeroValue286,underlying284,runUnderlying284,sizeOf284,isAgg284,zeroValue284,underlying255,runUnderlying255,sizeOf255,isAgg255,zeroValue255,underlying108,runUnderlying108,sizeOf108,isAgg108,zeroValue108,underlying232,runUnderlying232,sizeOf232,isAgg232,zeroValue232,underlying331,runUnderlying331,sizeOf331,isAgg331,zeroValue331,underlying367,runUnderlying367,sizeOf367,isAgg367,zeroValue367,underlying369,runUnderlying369,sizeOf369,isAgg369,zeroValue369,underlying0,runUnderlying0,sizeOf0,isAgg0,zeroValue0,is,runUnderlying3,sizeOf3,isAgg3,zeroValue3,underlying4,runUnderlying4,sizeOf4,isAgg4,zeroValue4,qv,runUnderlying9,sizeOf9,isAgg9,zeroValue9,underlying20,runUnderlying20,sizeOf20,isAgg20,zeroValue20,underlying21,runUnderlying21,sizeOf21,isAgg21,zeroValue21,Ä,Ä⟩
end
section
open Go.ConcR (Payload)
variable[pn:Pn][py:dO]
section
variable(P:cI)(S:Q->Prop)(L:Q)(o:Q->Obj)
def Cg(X:Zg->Zy->Prop)(m:Q)(g:Zg):Prop:=∀w,Kc S L o w->gk P ao (RS S L o) (DS S L) X m g w
variable{P S L o}{X:cR->dN->Prop}{b:fZ}{aw:bA fZ}
def Cg.EJ{g}(f:g.status=bK)(h:∀w,Kc S L o w->(bW P ao g w).goes λg' w' es=>(w'=w/\∀e∈es,Db S L e)/\Cg P S L o X m g'):Cg P S L o X (m+1) g:=by
 intro w hk;refine kg f λb a=>?_;have:=h b<|a hk;revert this;cases bW P ao g b<;>simp only[GStep.goes]<;>(try exact id)
 rintro⟨⟨rfl,c⟩,d⟩;exact⟨⟨O,c⟩,d _<|a hk⟩
theorem Cg.fB{g g'}(a:g.status=bK)(h:∀w,bW P ao g w=ij g' w)(b:Cg P S L o X m g'):Cg P S L o X (m+1) g:=
 Cg.EJ a λw hk=>É
def Cg.Rv{id j}(h:exitTo id k=Y j)(c:Cg P S L o X m<|G (b.at a j) aw):Cg P S L o X (m+1)<|G (b.at a (dE (.exit id)::k)) aw:=Cg.fB O (λ_=>stepG_exit h) c
def Cg.stop{g}(h:∀w,Kc S L o w->X g w):Cg P S L o X m g:=λw hk=>fO λb a=>h b<|a hk
def Cg.eO(v)(ho:ops[i]?=Y op)(hw:bP op (fN ops a.tmps)=M)(hk:b.kind≠ eK)
  (g:∀w,Kc S L o w->(aR a.eval op).run P w=dG (gp v) w)(d:∀w,Kc S L o w->∀e∈(aR a.eval op).events P w #[],Db S L e)
  (f:Cg P S L o X m<|G (b.at (a.put op.dst v) (aS ops F::k)) aw):Cg P S L o X (m+1)<|G (b.at a (aS ops (i::F)::k)) aw:=
 Cg.EJ O λw c=>by rw[stepG_value ho hw hk<|g w c];exact⟨⟨O,λe h=>d w c e<|mem_listed h⟩,f⟩
def Cg.mO(v)(ho:ops[i]?=Y op)(hw:bP op (fN ops a.tmps)=M)(hk:b.kind≠ eK)
  (d:∀w,(aR a.eval op).run P w=dG (gp v) w)(f:∀w,(aR a.eval op).events P w #[]=#[])
  (c:Cg P S L o X m<|G (b.at (a.put op.dst v) (aS ops F::k)) aw):Cg P S L o X (m+1)<|G (b.at a (aS ops (i::F)::k)) aw:=
 Cg.eO v ho hw hk (λw _=>d w) (λw _ e h=>Á) c
def Cg.lP{f:FuncId}{c:pB}{args:bE Operand}{W:bE Zt}
  (ho:ops[i]?=Y op)(hw:bP op (fN ops a.tmps)=M)(hk:b.kind≠ eK)(hop:op.op= .call {callee:= .value (.func f),args,argTypes:=W})
  (g:P.funcs[f]?=Y fn)(d:(fn.name== "runtime.NumGoroutine")=ao)(e:fn.body=Y c)
  (j:Cg P S L o X m<|G ((jU f).at {tmps:=args.map a.eval++cL (fn.ntmps-V (args.map a.eval)) Z',defers:=[]} [dE c]) (b.at a (aS ops (i::F)::k)::aw)):
  Cg P S L o X (m+1) (G (b.at a (aS ops (i::F)::k)) aw):=
 Cg.EJ O λw h=>goes_call ho hw hk hop g d e ⟨⟨O,Â⟩,j⟩
section
variable{j:fZ}
def Cg.EK(e:b.kind=dH)(W:a.defers=[])(d:P.funcs[b.fn]?=Y fn)(c:fn.results=#[])
  (f:Cg P S L o X m (G (j.at (ſ.put ((ops[i]?).bind (·.dst))<|cE #[]) (aS ops F::k)) aw)):
  Cg P S L o X (m+1) (G {b.at a h with mode:=eB} (j.at ſ (aS ops (i::F)::k)::aw)):=
 .fB O (λw=>by rw[stepG_leave e W d (results_none c _ P w)<|events_results_none c _ _,zcb]) f
def Cg.EL{t}(e:b.kind=dH)(W:a.defers=[])(d:P.funcs[b.fn]?=Y fn)(c:fn.results=#[.tmp t])
  (f:Cg P S L o X m (G (j.at (ſ.put ((ops[i]?).bind (·.dst))<|a.tmps.getD t Z') (aS ops F::k)) aw)):
  Cg P S L o X (m+1) (G {b.at a h with mode:=eB} (j.at ſ (aS ops (i::F)::k)::aw)):=
 .fB O (λw=>by rw[stepG_leave e W d (results_tmp c _ P w)<|events_results_tmp c _ _,zcb]) f
end
def RN{x}(h:S x.block\/x.block=L):Db S L ⟨ma x,ao,ao⟩:=by refine⟨λy a=>?_,Â,Â,Â⟩;simp only[ofEvent_cell0,cO,xj]at a;subst a;exact⟨aJ ⟨x,O,h⟩,O,O⟩
theorem xsu{x}(h:S x\/x=L):Db S L ⟨pa x,ao,ao⟩:=by refine⟨λy a=>?_,Â,Â,Â⟩;simp only[show cA ⟨pa x,ao,ao⟩= .access ⟨pa x,ao,ao⟩from O,cO,xj]at a;subst a;exact⟨ac ⟨x,O,h⟩,O,O⟩
end
def lD(e:eF):Prop:=∃(k f:U) (s:eM),e.key=J k/\e.val=bY #[ak s,J f]
def sW:Zv->eM
 | bY j=>match j.getD 0 Z' with| ak s=>s|_=> .empty
 |_=> .empty
def iH(n:U):bA eF->Zv
 |[]=>bY #[ak ⟨#[]⟩,J 0]
 |e::es=>match e.key with
  | aD _ k=>if n=k then e.val else iH n es
  |_=>iH n es
def gO(n:U)(es:bA eF):eM:=sW<|iH n es
def Ű{n}:∀{es:bA eF},(∀e∈es,lD e)->∃f:U,iH n es=bY #[ak<|gO n es,J f]
 |[],_=>⟨0,O⟩|e::es,h=>by obtain⟨k,f,s,hk,c⟩:=h e Â;let⟨j,I⟩:=Ű (n:=n) (es:=es) λe a=>h e (by simp[a]);by_cases b:n=k;exact⟨f,by simp[gO,iH,hk,b,c,sW]⟩;grind [gO,iH]
def ű{n}:∀(es:bA eF) (i:Q),(∀e∈es,lD e)->∃r,eU (.int bB) (J n) es i=Y r/\
  (match r with|some (_,v)=>v|none=>(bY #[ak ⟨#[]⟩,J 0]:Zv))=iH n es
 |[],i,_=>⟨R,O,O⟩
 |e::es,i,h=>by
  obtain⟨k,f,s,hk,j⟩:=h e Â;obtain⟨r,a,g⟩:=ű es _ λe c=>h e (by simp[c]);by_cases d:n=k;grind [eU,jE,iH];have b:(n==k)=ao:=by simpa using d
  exact⟨r,by simp[eU,jE,hk,dY,b];exact a,by grind [iH]⟩
section
variable{P:cI}{w:dN}{t S L:oW}{X:Q}{aw:bE eF}{n:U}
def H5(hk:P.underlying S=Y (.int bB))(m):∀w j,(iK j (m+1) S<|J n).run P w=dG () w:=λw j=>zz3
def zv7(hk:P.underlying S=Y (.int bB))(m):∀w j z,(iK j (m+1) S<|J n).events P w z=z:=λw j z=>by simp[iK,xo hk,Va]
def xaa(h:P.underlying t=Y (.map S L))(hk:P.underlying S=Y (.int bB))(j:∀w,(zeroValue L).run P w=dG (bY #[ak ⟨#[]⟩,J 0]) w)
  (i:w.heap[ay]?=Y (.map aw X))(a:∀e∈eV aw,lD e):
  (fC t (fu<|some ay) (J n) ao).run P w=dG (iH n (eV aw)) w/\(fC t (fu<|some ay) (J n) ao).events P w #[]=#[⟨pa ay,ao,ao⟩]:=by
 let⟨r,W,G⟩:=ű (n:=n) (eV aw) 0 a;have g:(na ay).run P w=dG (.map aw X) w:=by simp[na,gc,i]
 have c:∀z,(na ay).events P w z=z.push ⟨pa ay,ao,ao⟩:=λz=>by grind [na,Sem.events,fk,qA]
 have d:=H5 (n:=n) hk 9999;have f:(cB S (J n) (eV aw)).run P w=dG r w:=by simp[cB,xo hk,bN,W]
 have b:∀z,(cB S (J n) (eV aw)).events P w z=z:=λz=>by simp[cB,xo hk,Va,W]
 constructor;simp[fC,zc9,xo h,bN,g,d,f,zda];grind [zc9,bN,zda];simp[fC,Va,zc9,xo h,bN,g,c,d,zv7 (n:=n) hk 9999,f,b,zda,Result.evThen_ok,events_underlying];cases r with|none=>simp|some x=>simp
end
end
section
open Go.RowKit Go.Conc.Lib Go.ConcR.Gen Go.ConcN.Gen
open Go.ConcR (Payload)
variable[pn:Pn][py:dO]
structure Kn(D ay Bd Bs C:Q)(es:bE eF)(S:ZP)(o:Q->Obj):Prop where
 sd:S D
 sb:S Bd
 ss:S Bs
 fA:∃f W,o D=au #[f,fu<|some ay,W] py.ety
 box:o Bd=au #[zq D] 89
 ov:o Bs=au #[fI<|some C] 278
 fW:∃j,o ay= .map es j
 ř:∀e∈eV es,lD e
section
variable{X:bE eF}{S:Q->Prop}{L:cR->dN->Prop}
def Kn.Dj(j:Kn D ay Bd Bs C X S o)(hk:Kc S ay o w):N w (K D 1)=(fu<|some ay):=by let⟨f,W,h⟩:=j.fA;have:=hk D<|aJ j.sd;grind [N]
def Kn.yV(j:Kn D ay Bd Bs C X S o)(hk:Kc S ay o w):N w (K Bd 0)=zq D:=by have:=hk Bd<|aJ j.sb;simp[N,this,j.box]
def Kn.vd(j:Kn D ay Bd Bs C X S o)(hk:Kc S ay o w):N w (K Bs 0)=Y (fI<|some C):=by have:=hk Bs<|aJ j.ss;simp[N,this,j.ov]
def Kn.I2(j:Kn D ay Bd Bs C X S o)(hk:Kc S ay o w)(n):
  (fC 134 (fu<|some ay) (J n) ao).run az w=dG (iH n (eV X)) w/\(fC 134 (fu<|some ay) (J n) ao).events az w #[]=#[⟨pa ay,ao,ao⟩]:=by
 let⟨f,h⟩:=j.fW;exact xaa Tryz.underlying134 is Tryz.zeroValue139 ((hk ay<|ac O).trans<|by rw[h]) j.ř
noncomputable def Ť:pB:=Tryz.f76.body.getD .skip
noncomputable def RK:pB:=Tryz.f213.body.getD .skip
noncomputable def RJ:pB:=Tryz.f211.body.getD .skip
def xcp(W:Kn D ay Bd Bs C X S o)(n){b P}
  (j:Cg az S ay o L m (G (c.at (b.put ((ops[i]?).bind (·.dst))<|ak<|gO n (eV X)) (aS ops F::k)) P)):
  Cg az S ay o L (m+17) (G ((jU 76).at ⟨#[zq D,J n,Z',Z',Z',Z',Z',Z',Z',Z',Z',Z'],[]⟩ [dE Ť]) (c.at b (aS ops (i::F)::k)::P)):=by
 obtain⟨f,g⟩:=Ű W.ř;apply Cg.fB O λ_=>cM;apply Cg.fB O λ_=>eP;(apply Cg.mO _ O O Ë (λ_=>Ù) (λ_=>Ú);walk_nrm);apply Cg.fB O λ_=>aW;apply Cg.fB O λ_=>cM;apply Cg.fB O λ_=>eP;iterate 3 (apply Cg.mO _ O O Ë (λ_=>Ù) (λ_=>Ú);walk_nrm)
 apply Cg.eO (fu<|some ay) O O Ë (λw hk=>by have d:=W.Dj hk;go_simp) λw hk e a=>by have d:=W.Dj hk;simp[go_sem, *]at a;subst a;exact RN<|aJ W.sd
 walk_nrm;(apply Cg.mO _ O O Ë (λ_=>Ù) (λ_=>Ú);walk_nrm);apply Cg.eO (iH n (eV X)) O O Ë (λw hk=>by have h:=(W.I2 hk n).1;simp[aR,jV,h]) λw hk e a=>by simp[aR,jV,(W.I2 hk n).2,Va]at a;grind [xsu]
 walk_nrm;rw[g];(apply Cg.mO _ O O Ë (λ_=>Ù) (λ_=>by simp[go_sem,Instr.field,part,asAgg,Va, *]);walk_nrm);(apply Cg.mO _ O O Ë (λ_=>Ù) (λ_=>Ú);walk_nrm);apply Cg.fB O λ_=>aW;apply Cg.fB O λ_=>jA;apply Cg.EL O O Tryz.func76 O;exact j
def RP(ty:Zt)(Wg C:Q)(S:ZP)(D ay:Q)(o:Q->Obj):Ze->Zg->Zy->Prop
 |[]=>I0 az ty Wg C S D ay o|v::j=>Gh az C S ay o v<|Di az ty Wg C S D ay o j
def ţ{a}(h:Cg az S ay o (RP ty Wg C S D ay o a) m g)(hk:Kc S ay o w):Di az ty Wg C S D ay o a g w:=by cases a<;>exact⟨m,h w hk⟩
noncomputable def Ţ:=Ql<|Qk<|Qb<|Qa RK
noncomputable def xl4:=Qb RK
noncomputable def xd2:bE eX:=match RJ with| gU _ (fG _ ops _)=>ops|_=>#[]
noncomputable def Bx:Zf:={(default:Zf)with fn:=V Tryz.prog.funcs,defers:=[],mode:=fL [goexitEntry]}
noncomputable def Ū(D Bd Bs C Wg:Q)(fr tt:U):Zf:=(baseD 211).at ⟨#[J fr,J tt,zq Wg,zq Bs,zq Bd,Z',Z',fI<|some C,zq D,J fr,J tt,Z'],[dcall 212 #[zq Wg]]⟩ [aS xd2 [4]]
def mP(X:bE eF):U->Q->Ze
 |_,0=>[]|n,k+1=>bY #[J n,ak<|gO n (eV X)]::mP X (n+1) k
def ũ(D Bd Bs C Wg:Q)(fr tt n:U)(g:Zg):Prop:=
 ∃v2 v4 v5 v6 v7 v9 j f W P I v15 v16 v17 v18 v19 v20 v21:Zv,g=G ((jU 213).at ⟨#[fI<|some C,zq D,v2,J tt,v4,v5,v6,v7,J n,v9,j,f,W,P,I,v15,v16,v17,v18,v19,v20,v21],[]⟩ [dE Ţ,.inLoop Ţ,.inBlock 0,dE xl4]) [Ū D Bd Bs C Wg fr tt,Bx]
def ų(j):QuitsD az 2 0<|G {(baseD 211).at ⟨j,[]⟩ []with mode:=eB} [Bx]:=by refine QuitsD.ctl (g':=G Bx []) O (λw=>?_) ?_;simp[G,bW,dT,gi,eR,Frame.at,baseD,Bx,Tryz.func211,Tryz.f211,seen,bJ,goexitEntry];refine QuitsD.ctl (g':={G Bx []with status:= .finished}) O (λw=>?_) ⟨O,O⟩;simp[G,bW,dT,Bx,goexitEntry,Frame.catches];rfl
def xnv(j:Kn D ay Bd Bs C X S o){f}:Cg az S ay o (Rm az 286 Wg D) 6<|G ((jU 213).at ⟨f,[]⟩ [aS ops []]) [Ū D Bd Bs C Wg fr tt,Bx]:=by apply Cg.fB O λ_=>aW;apply Cg.fB O λ_=>stepG_end;apply Cg.EK O O Tryz.func213 O;walk_nrm;apply Cg.fB O λ_=>aW;apply Cg.fB O λ_=>stepG_end;apply Cg.fB O λ_=>stepG_unwind_enter O Tryz.func212 (nm_done Gk) O;refine Cg.stop λw hk=>⟨O,λa=>?_⟩;let⟨W,nx,P⟩:=j.fA;have I:=hk D<|aJ j.sd;rw[P]at I;refine⟨W,fu<|some ay,23,23,?_,?_⟩;exact Go.ConcN.Gen.doneN MN (k:=1) O (ų _) w ⟨a,by grind [Go.ConcN.Has,N]⟩;exact Go.ConcN.Gen.doneN MN (k:=2) O (ų _) w ⟨a,by grind [Go.ConcN.Has,N]⟩
def xtq:(Tryz.prog.funcs[(jU 213).fn]?).any (·.norace)=ao:=Ä
def xcx(W:Kn D ay Bd Bs C X S o){n}(B:tt<n)(e:ũ D Bd Bs C Wg fr tt n g):Cg az S ay o (RP 286 Wg C S D ay o []) 14 g:=by
 obtain⟨E,F,G,P,I,hd,h,i,j,k,l,m,p,q,t,v,x,y,rfl⟩:=e;have f:¬(n<=tt):=À
 apply Cg.fB O λ_=>cM;apply Cg.fB O λ_=>cM;apply Cg.fB O λ_=>eP;iterate 3 (apply Cg.mO _ O O Ë (λ_=>Ù) (λ_=>Ú);walk_nrm)
 apply Cg.fB O λ_=>aW;(apply Cg.fB O λ_=>stepG_cond O;simp[ja,kB,↓reduceIte]);apply Cg.Rv O;apply Cg.fB O λ_=>eP;(apply Cg.mO _ O O Ë (λ_=>Ù) (λ_=>Ú);walk_nrm);refine Cg.stop λw hk=>?_;refine⟨O,O,λc b s r d=>⟨_,stepG_close O O Ë O O d xtq,O,λz a=>⟨6,?_⟩⟩⟩;exact xnv W z a
def Ų(n s w):(Instr.build 289 #[(0,J n),(1,ak s)]).run az w=dG (bY #[J n,ak s]) w:=run_build w 289 _ _ Ä
def zv5(n s w):(Instr.build 289 #[(0,J n),(1,ak s)]).events az w #[]=#[]:=Ä
def xmj{j x y v c}(ho:ops[i]?=Y op)(hw:bP op (fN ops a.tmps)=M)(hk:b.kind≠ eK)(hop:op.op= .send x y)
  (hx:a.eval x=fI (Y C))(hy:a.eval y=v)(next:∀w',Kc S ay o w'->c (G (b.at (a.put op.dst Z') (aS ops F::k)) j) w')(w):
  Gh az C S ay o v c (G (b.at a (aS ops (i::F)::k)) j) w:=by
 refine⟨O,G (b.at a (aS ops (i::F)::k)) j,cE #[],#[],?_,Â,?_⟩;rw[stepG_comm (cases:=#[scase C v<|cE #[]]) (blocking:=M) (shape:= .send) (w':=w) ho hw hk<|by simp[aR,hop,hx,hy,scase]];have d:(aR a.eval op).events az w #[]=#[]:=by unfold aR;simp only[hop];rfl
 grind [lj,seen];grind [served_G]
def xel(W:Kn D ay Bd Bs C X S o)(hd:tt<9223372036854775807)(h1:-9223372036854775808<=fr):∀(k:Q) (n:U),n+k=tt+1->fr<=n->∃m,∀g,ũ D Bd Bs C Wg fr tt n g->Cg az S ay o (RP 286 Wg C S D ay o<|mP X n k) m g:=by
 intro k;induction k with
 |zero=>exact λn L _=>⟨14,λg G=>xcx W À G⟩
 |succ k ih=>
  intro n L F;let⟨m,hm⟩:=ih (n+1) À À;refine⟨40,?_⟩;rintro g⟨t,v,x,y,z,B,a,b,d,e,f,h,i,j,l,p,q,r,rfl⟩;have I:n<=tt:=À
  have E:IntKind.i64.wrap (n+1)=n+1:=zz1
  have h2:∀t v x y z B a b d e f h i j l p q r:Zv,Cg az S ay o _ m _:=
   λt v x y z B a b d e f h i j l p q r=>hm _ ⟨t,v,x,y,z,B,a,b,d,e,f,h,i,j,l,p,q,r,O⟩
  apply Cg.fB O λ_=>cM;apply Cg.fB O λ_=>cM;apply Cg.fB O λ_=>eP;iterate 3 (apply Cg.mO _ O O Ë (λ_=>Ù) (λ_=>Ú);walk_nrm)
  apply Cg.fB O λ_=>aW;(apply Cg.fB O λ_=>stepG_cond O;simp[dY]);apply Cg.fB O λ_=>pc;apply Cg.fB O λ_=>cM;apply Cg.fB O λ_=>qC;apply Cg.fB O λ_=>eP;iterate 4 (apply Cg.mO _ O O Ë (λ_=>Ù) (λ_=>Ú);walk_nrm)
  apply Cg.lP (c:=Ť) O O Ë O Tryz.func76 Ä O;walk_nrmf Tryz.f76;apply xcp W n;walk_nrm;apply Cg.mO (bY #[J n,ak<|gO n (eV X)]) O O Ë (λw=>by have P:=Ų n (gO n (eV X)) w;simp[aR,jV,P]) λw=>by simp[aR,jV,Ų n (gO n (eV X)) w,zv5 n (gO n (eV X)) w,Va]
  walk_nrm;refine Cg.stop λw hk=>?_;apply xmj
  case ho=>exact O
  case hw=>exact O
  case hk=>k_ne
  case hop=>exact O
  case hx=>exact O
  case hy=>exact O
  intro wr s;refine ţ (m:=m+8) ?_ s;walk_nrm;apply Cg.fB O λ_=>aW;apply Cg.fB O λ_=>stepG_inBlock;apply Cg.fB O λ_=>eP;iterate 3 (apply Cg.mO _ O O Ë (λ_=>Ù) (λ_=>Ú);walk_nrm)
  apply Cg.fB O λ_=>aW;apply Cg.fB O λ_=>stepG_inLoop;grind
def ya(Bd Bs Wg:Q)(fr tt:U):nt:={target:= .fn (.func 211) #[zq Wg,zq Bs,zq Bd],args:=#[J fr,J tt]}
def xi7(Bd Bs Wg fr tt w):bW az ao (born az<|ya Bd Bs Wg fr tt) w=
  ij (G ((baseD 211).at ⟨#[J fr,J tt,zq Wg,zq Bs,zq Bd,Z',Z',Z',Z',Z',Z',Z'],[]⟩ [dE RJ]) [Bx]) w #[]:=by
 simp[born,ya,bW,dT,fo,invoke,callFunc,Tryz.func211,Tryz.f211,seen,bJ,G,bI,Frame.at,baseD,Bx,RJ]
def zy5(j:Kn D ay Bd Bs C X S o)(f:tt<9223372036854775807)(d:-9223372036854775808<=fr)(k:Q)(g:fr+k=tt+1)(hk:Kc S ay o w):
  Di az 286 Wg C S D ay o (mP X fr k) (born az<|ya Bd Bs Wg fr tt) w:=by
 let⟨m,W⟩:=xel (Wg:=Wg) j f d k fr g<|Int.le_refl _;refine ţ (m:=m+19) ?_ hk;apply Cg.fB O λw=>xi7 Bd Bs Wg fr tt w;apply Cg.fB O λ_=>cM;apply Cg.fB O λ_=>eP;apply Cg.fB O λ_=>stepG_defer O O Ë O;walk_nrm;apply Cg.fB O λ_=>aW;apply Cg.fB O λ_=>eP;apply Cg.eO (fI<|some C) O O Ë (λw hk=>by have b:=j.vd hk;go_simp) λw hk e a=>by have b:=j.vd hk;simp[go_sem, *]at a;subst a;exact RN<|aJ j.ss
 walk_nrm;apply Cg.eO (zq D) O O Ë (λw hk=>by have b:=j.yV hk;go_simp) λw hk e a=>by have b:=j.yV hk;simp[go_sem, *]at a;subst a;exact RN<|aJ j.sb
 walk_nrm;iterate 2 (apply Cg.mO _ O O Ë (λ_=>Ù) (λ_=>Ú);walk_nrm)
 apply Cg.lP (c:=RK) O O Ë O Tryz.func213 Ä O;walk_nrmf Tryz.f213;apply Cg.fB O λ_=>cM;apply Cg.fB O λ_=>cM;apply Cg.fB O λ_=>eP;iterate 2 (apply Cg.mO _ O O Ë (λ_=>Ù) (λ_=>Ú);walk_nrm)
 apply Cg.fB O λ_=>aW;apply Cg.fB O λ_=>qC;apply Cg.fB O λ_=>stepG_loop;exact W _ ⟨J fr,Z',Z',Z',Z',J fr,Z',Z',Z',Z',Z',Z',Z',Z',Z',Z',Z',Z',O⟩
end
end
section
open Go.ConcN (sumTo upd sumTo_upd upd_ne upd_same)
variable[pn:Pn]
section
variable{P:cI}{X:Q->Prop}{j:Q}
structure qG(X:ZP)(B:Q)(Z':Touch->Prop)(e:Q)(t:gA):Prop where
 gB:∀S,¬Race S t
 ln:∀i a,mg t i=Y a->a.loc.isMemory=M->Knows t 0 i\/(uM X a.loc/\a.kind= .atomic)\/(xI X a.loc/\a.write=ao)
 mD:t.HandedOver
 deaf:Deaf t 0=e
 hU:∀i a,mg t i=Y a->a.loc.low B
 Gi:∀i a,mg t i=Y a->Z' a
def vB.toE(h:vB X B t)(b:∀a:Touch,a.loc.low B->Ϻ a):qG X B Ϻ 0 t:=⟨h.gB,h.ln,h.mD,h.vC,h.hU,λi a c=>b a<|h.hU i a c⟩
def qG.U(h:qG X B Ϻ e t)(b:B<=j):qG X j Ϻ e t:=⟨h.gB,h.ln,h.mD,h.deaf,λi a c=>Loc.low_mono b<|h.hU i a c,h.Gi⟩
def Ry(X:ZP)(B:Q)(Z':Touch->Prop)(e:me):Prop:=∀x,(cA e).touch?=Y x->(uM X x.loc->x.kind≠ .plain)/\(xI X x.loc->x.write=ao)/\x.loc.low B/\Z' x
theorem qG.cN(h:qG X B Ϻ e t){fn pos}(n:∀e∈es,Ry X B Ϻ e):qG X B Ϻ (dF e es)<|t++aZ 0 fn pos es:=by
 have v:∀d∈aZ 0 fn pos es,d.g=0:=λd c=>Ø
 have s:∀d∈aZ 0 fn pos es,∀x,d.act.touch?=Y x->(uM X x.loc->x.kind≠ .plain)/\(xI X x.loc->x.write=ao)/\x.loc.low B/\Ϻ x:=λd c x m=>by obtain⟨e,w,rfl⟩:=zy c;exact n e w x m
 refine⟨λS=>pd (h.gB S) v λi a j d c b r l=>?_,λi a j y=>?_,handedOver_app h.mD λd c=>aJ (v d c),?_,λi a j=>?_,λi a j=>?_⟩;obtain hk|⟨k,o⟩|⟨k,o⟩:=h.ln i a j l.2.1;exact hk;have p:=(s d c b r).1<|l.1▸k;obtain x|x|⟨_,x,_⟩:=l.c;grind;grind;grind;have p:=(s d c b r).2.1<|l.1▸k;obtain x|x:=l.2.2.1;grind;grind;obtain⟨_,f⟩|⟨_,d,c,m,_⟩:=Z9 j;exact(h.ln i a f y).imp (·.app _) id;grind [knows_own];rw[mn,h.deaf];obtain⟨_,f⟩|⟨_,d,c,m,q⟩:=Z9 j;exact h.hU i a f;grind;obtain⟨_,f⟩|⟨_,d,c,m,q⟩:=Z9 j;exact h.Gi i a f;grind
theorem qG.AO(h:qG X B Ϻ e t){g}(o:g≠0){fn pos}(l:∀e∈es,e.mute=M):qG X B Ϻ e<|t++aZ g fn pos es:=by
 have m:∀f∈aZ g fn pos es,f.g=g:=λf c=>Ø
 have p:∀f∈aZ g fn pos es,f.act.touch?=R:=λf c=>Ft
 refine⟨λS=>pd (h.gB S) m λi a _ f c b q _=>Á,λi a j l=>?_,handedOver_app h.mD λf c=>ac (p f c),(dJ t o _ m).trans h.deaf,λi a j=>?_,λi a j=>?_⟩;obtain⟨_,d⟩|⟨_,f,c,n,k⟩:=Z9 j;exact(h.ln i a d l).imp (·.app _) id;grind;obtain⟨_,d⟩|⟨_,f,c,n,k⟩:=Z9 j;exact h.hU i a d;grind;obtain⟨_,d⟩|⟨_,f,c,n,k⟩:=Z9 j;exact h.Gi i a d;grind
def ŧ{g}{Nx:Zg->Zy->Prop}{e'}(n:g.status=bK){gs sl}(W:gs[0]?=Y g)(C:Leavers P t gs q)(h1:qG X B Ϻ e t)
  (h:∀d,∃g' v' es,bW P M g (v.at d)=ij g' v' es/\(∀e∈es,Ry X B Ϻ e)/\dF e es=e'/\Nx g' v'):
  ∃hd gs' v' sl' t' q' g',fQ P hd (gJ gs v sl) t=(gP<|crowd gs' v' sl',t')/\gs'[0]?=Y g'/\Nx g' v'/\Leavers P t' gs' q'/\qG X B Ϻ e' t'/\V gs'=V gs:=by
 induction hk:kD (V gs) q using Nat.strongRecOn generalizing gs q v sl t with
 |_ k ih=>
  have I:∀g∈gs,awake g:=by
   intro f l;obtain⟨i,o,rfl⟩:=Xd.1 l;obtain rfl|c:=jh i;have:gs[0]=g:=by simpa[xy o]using W
   grind [oI];exact oI<|(C.old i _ c<|xy o).status.elim aJ λx=>ac (ac x)
  let⟨i,f,d,sl',o,l,hst⟩:=crowd_pick (P:=P) (w:=v) (sl:=sl) I ⟨0,g,W,n⟩;have p:=(za.1 o).1;obtain rfl|c:=jh i;obtain rfl:f=g:=Á
  let⟨g',v',es,hs,hes,hdf,hn⟩:=h d;have b:=qD (sl:=sl') o hs;refine⟨1,aA (gs.map<|woken P f g' v') 0 g',v',sl',t++aZ 0 f.frame.fn f.frame.place es,q,g',by simp[fQ,hst,b],by simp[p],hn,⟨λj x D z=>?_,λj D=>?_⟩,?_,Â⟩;have r:0≠j:=À
  rw[zl r,jt]at z;obtain⟨y,L,rfl⟩:=zv.1 z;have s:=C.old j y D L;rw[jJ s,dJ t À _ λay a=>yF];exact s;rw[dJ t (g':=0) Á _ λay a=>yF];exact C.above j Á;rw[<-hdf];exact h1.cN hes;have s:=C.old i f c o;have h2:(i==0)=ao:=Ç
  cases hqi:q i with
  |zero=>rw[hqi]at s;rw[s.1]at l;cases l
  |succ k'=>
   rw[hqi]at s;obtain⟨wr,_⟩|⟨_,g',es,S,F,hx⟩:=s;grind;have b:=qD (sl:=sl') o (by rw[h2];exact F<|v.at d);have G:V (aA (gs.map<|woken P f g'<|v.at d) i g')=V gs:=Â
   have cs:kD (V gs) (upd q i k')+(k'+1)=kD (V gs) q+k':=by have:=sumTo_upd q k' id p;simpa[hqi]using this
   let⟨hd,gs2,v2,sl2,t2,q2,g2,b1,b2,b3,b4,b5,b6⟩:=ih (kD (V gs)<|upd q i k') À (q:=upd q i k') (t:=t++aZ i f.frame.fn f.frame.place es) (gs:=aA (gs.map<|woken P f g'<|v.at d) i g') (v:=v.at d) (sl:=sl')
    (by
     have r:i≠0:=À
     rw[zl r,jt,W];simp[woken_run n])
    ⟨λj x D z=>by
     by_cases m:i=j;subst m;rw[Yv<|by simpa using p]at z;obtain rfl:=ql z;rw[upd_same,mn];exact hx;rw[zl m,jt]at z;obtain⟨y,L,rfl⟩:=zv.1 z;have E:=C.old j y D L;rw[jJ E,upd_ne q k'<|Ne.symm m,dJ t m _ λay a=>yF];exact E,λj D=>by
     rw[dJ t (g':=i) À _ λay a=>yF];exact C.above j À⟩
    (h1.AO À S) (λho=>h ho) (by rw[G])
   exact⟨1+hd,gs2,v2,sl2,t2,q2,g2,qr (by simp[fQ,hst,b]) b1,b2,b3,b4,b5,b6.trans G⟩
def MQ{E}(b:∀e,E e->Cn X B e/\∀x,(cA e).touch?=Y x->Ϻ x){S}:∀(n:Q) {a:Zg} {v:Zy} {t:gA} {q:Q->Q} {L:bE Zg} {sl:dD<|Nat×Q},gk P M pe (DE E) S n a v->L[0]?=Y a->Leavers P t L q->qG X B Ϻ e t->
  ∃W G v' sl' t' q' a',fQ P W (gJ L v sl) t=(gP<|crowd G v' sl',t')/\G[0]?=Y a'/\(∀d,S a'<|v'.at d)/\Leavers P t' G q'/\qG X B Ϻ e t'/\V G=V L
 |0,a,v,t,q,L,sl,h,h0,hL,hP=>⟨0,L,v,sl,t,q,a,O,h0,λd=>h _ ⟨d,O⟩,hL,hP,O⟩
 |n+1,a,v,t,q,L,sl,h,h0,hL,hP=>by
  obtain h|⟨w,h⟩:=h;exact⟨0,L,v,sl,t,q,a,O,h0,λd=>h _ ⟨d,O⟩,hL,hP,O⟩;obtain⟨W,r,D,g,C,z,y,i,j,k,l,m,o⟩:=ŧ (Nx:=λp v'=>gk P M pe (DE E) S n p v') (e':=e) (sl:=sl) w h0 hL hP (λd=>by
   have:=h _ ⟨d,O⟩;revert this;cases hst:bW P M a _<;>simp only[GStep.goes]<;>(try exact eT)
   rintro⟨I,s⟩;exact⟨_,_,_,O,λe c x f=>⟨((b e<|I e c).1.1 x f).1,((b e<|I e c).1.1 x f).2.1,((b e<|I e c).1.1 x f).2.2,(b e<|I e c).2 x f⟩,deafBehind_still (λe c=>(b e<|I e c).1.2) _,s⟩)
  let⟨N2,gs2,v2,sl2,t2,q2,a2,c1,c2,c3,c4,c5,c6⟩:=MQ b n (sl:=g) k j l m;exact⟨W+N2,gs2,v2,sl2,t2,q2,a2,qr i c1,c2,c3,c4,c5,c6.trans o⟩
end
end
section
open Go.ConcN (sumTo)
variable[pn:Pn]
section
variable{P:cI}{X:Q->Prop}
theorem xnq{a}(h:(cA a).touch?=R):Ry X B Ϻ a:=λx b=>Á
def Ũ{m}(i:(cA<|Go.ConcX.mk m).touch?=R){b a W sl}(h:∀d,jG P m b a<|v.at d)(c:W[0]?=Y a)(f:Leavers P t W q)(g:qG X B Ϻ e t):
  ∃j G v' S L q' I,fQ P j (gJ W v sl) t=(gP<|crowd G v' S,L)/\G[0]?=Y I/\b I v'/\Leavers P L G q'/\qG X B Ϻ (dF e #[Go.ConcX.mk m]) L/\V G=V W:=
 ŧ (h 0).1 c f g λd=>by let⟨_,I,hs,hn⟩:=h d;grind [xnq]
def xw4(b:∀e,E e->Cn X B e/\∀x,(cA e).touch?=Y x->Ϻ x){S a W sl}
  (h:gk P M pe (DE E) (jG P oG λa w=>∃n,gk P M pe (DE E) (jG P oF λa w=>∃n,gk P M pe (DE E) S n a w) n a w) n a v)
  (c:W[0]?=Y a)(f:Leavers P t W q)(g:qG X B Ϻ 0 t):
  ∃j G v' L I q' a',fQ P j (gJ W v sl) t=(gP<|crowd G v' L,I)/\G[0]?=Y a'/\(∀d,S a'<|v'.at d)/\Leavers P I G q'/\qG X B Ϻ 0 I/\V G=V W:=by
 let⟨N1,gs1,v1,sl1,t1,q1,a1,r1,b1,c1,L1,P1,z1⟩:=MQ (sl:=sl) b n h c f g;let⟨N2,gs2,v2,sl2,t2,q2,a2,r2,b2,⟨n2,c2⟩,L2,P2,z2⟩:=Ũ (sl:=sl1) O c1 b1 L1 P1;let⟨N3,gs3,v3,sl3,t3,q3,a3,r3,b3,c3,L3,P3,z3⟩:=MQ (sl:=sl2) b n2 c2 b2 L2 P2;let⟨N4,gs4,v4,sl4,t4,q4,a4,r4,b4,⟨n4,c4⟩,L4,P4,z4⟩:=Ũ (sl:=sl3) O c3 b3 L3 P3;let⟨N5,gs5,v5,sl5,t5,q5,a5,r5,b5,c5,L5,P5,z5⟩:=MQ (sl:=sl4) b n4 c4 b4 L4 P4;refine⟨N1+(N2+(N3+(N4+N5))),gs5,v5,sl5,t5,q5,a5,qr r1<|qr r2<|qr r3<|qr r4 r5,b5,c5,L5,?_,À⟩;exact P5
@[reducible] def Š(X:ZP)(B Wg C:Q)(W:Wg<B)(S:C<B)(f:¬X C):Go.ConcX.Shy Wg C where
 ok a:=∀x,a.touch?=Y x->(uM X x.loc->x.kind≠ .plain)/\(xI X x.loc->x.write=ao)/\x.loc.low B/\∀r,x.loc≠ pa r
 atomicWg a wr h x hx:=zdj
 readWg a h x hx:=zdj
 writeWg a h x hx:=zdj
 theirs a wr h x hx:=by simp only[cO,xj]at hx;subst hx;refine⟨λ⟨r,e,j⟩=>?_,λ⟨r,e,_⟩=>Æ,zs,λr e=>Æ⟩;cases e;rw[h]at j;exact dC j f
 disable x hx:=ú
 enable x hx:=ú
 relMerge x hx:=ú
 acquire x hx:=ú
 go1 x hx:=ú
 start x hx:=ú
 stop _ _:=True
theorem Sm.I3(h:Sm P X w v){a}(i:v.heap[r]?=Y a)(ho:jW P<|some a):Sm P (λx=>X x/\x≠r) {w with heap:=aA w.heap r a} v:=by
 have g:r<V (Z w):=by rw[<-h.aD];exact(za.1 i).1
 refine⟨ã,λx c=>?_,λx c=>?_,λx=>?_,h.nQ,h.gY,h.os,h.cX,⟨by simp[J4];exact h.rl.1,λx c f=>by rw[show({w with heap:=aA w.heap r a}:Zy).heap=aA w.heap r a from O,zl<|Ne.symm c.2];exact h.rl.2 x c.1 f⟩⟩;by_cases b:r=x;grind;rw[show({w with heap:=aA w.heap r a}:Zy).heap=aA w.heap r a from O,zl b];exact h.out x λd=>c ⟨d,λe=>b e.symm⟩;rw[show({w with heap:=aA w.heap r a}:Zy).heap=aA w.heap r a from O,zl<|Ne.symm c.2];exact h.jH x c.1;by_cases b:r=x;grind;rw[show({w with heap:=aA w.heap r a}:Zy).heap=aA w.heap r a from O,zl b];exact h.rA x
end
end
section
variable[pn:Pn]
section
variable{P:cI}{aw:dN->dN->Prop}{D:dN->dN->bE me->Prop}{S:dN->Prop}{b:fZ}{L:bA fZ}{X:cR->dN->Prop}{last:Q}{I:Q->bE ez->mh->Prop}
def xaz(h1:Terms aw D)(q:∀x y,S x->aw x y->S y)(hk:b.kind≠ eK)(h2:∀l a,¬I 0 l a)(E:∀m l a,I (m+1) l a->aY gH ops l≠[])
  (d:∀m l a,I (m+1) l a->∀i∈aY gH ops l,
   (∃o v,ops[i]?=Y o/\bP o (fN ops a.tmps)=M/\(∀w,S w->(aR a.eval o).run P w=dG (gp v) w/\D w w (lj P b.fn a o w))/\I m (aA l i M) (a.put o.dst v))\/
   (i=last/\aY gH ops (aA l i M)=[]/\∀w,S w->gk P main aw D X n (G (b.at a (aS ops [last]::k)) L) w)):
  ∀(m t:Q) (l:bE ez) (a:mh) (w:Zy),I m l a->S w->gk P main aw D X (n+m) (G (b.at a (aS ops (cU gH ops m t l [])::k)) L) w:=by
 intro m;induction m with
 |zero=>grind
 |succ m ih=>
  intro t l a w B r;have C:cU gH ops (m+1) t l []=match(aY gH ops l)[t%T (aY gH ops l)]?with
   |some i=>cU gH ops m (t/T (aY gH ops l)) _ [i]|none=>[].reverse:=O
  rw[C];have h:t%T (aY gH ops l)<T (aY gH ops l):=Nat.mod_lt _ Á;rw[Jc h];simp only[];rw[linearise_go_acc,Ol,Vz];obtain⟨o,v,F,W,s,p⟩|⟨e,j,f⟩:=d m l a B _ (Xk h);have:n+(m+1)=(n+m)+1:=À
  rw[this];refine kg O λz hd=>?_;have c:=q _ _ r hd;rw[stepG_value F W hk (s z c).1];exact⟨(s z c).2,ih _ _ _ _ p c⟩;rw[e]at j⊢;have g:cU gH ops m (t/T (aY gH ops l)) (aA l last M) []=[]:=by
   cases m with
   |zero=>rfl
   |succ m=>
    have:cU gH ops (m+1) _ _ []=match(aY gH ops _)[t/T (aY gH ops l)%T (aY gH ops _)]?with
     |some i=>cU gH ops m _ (aA (aA l last M) i M) [i]|none=>[].reverse:=O
    grind
  rw[g];exact(f w r).mono À
def zxd(W:Terms aw D)(hd:LetsDraw D)(e:∀w:Zy,S w->S {w with drawn:=w.drawn+1})(g:Region.departs ops=ao)(d:∀x y,S x->aw x y->S y)(hk:b.kind≠ eK)(h:∀l a,¬I 0 l a)(f:∀m l a,I (m+1) l a->aY gH ops l≠[])
  (c:∀m l a,I (m+1) l a->∀i∈aY gH ops l,
   (∃o v,ops[i]?=Y o/\bP o (fN ops a.tmps)=M/\(∀w,S w->(aR a.eval o).run P w=dG (gp v) w/\D w w (lj P b.fn a o w))/\I m (aA l i M) (a.put o.dst v))\/
   (i=last/\aY gH ops (aA l i M)=[]/\∀w,S w->gk P main aw D X n (G (b.at a (aS ops [last]::k)) L) w))
  {id:Q}{a:mh}{w:Zy}(j:I (V ops) (cL (V ops) ao) a)(p:S w):gk P main aw D X (n+V ops+1) (G (b.at a (dE (fG id ops M)::k)) L) w:=by
 refine kg O λs r=>?_;rw[stepG_region_draw];refine⟨hd _,?_⟩;have q:∀t,iZ (P.follows nf) ops t=Region.linearise gH ops t:=λt=>by grind [iZ]
 rw[q];exact xaz W d hk h f c _ _ _ a _ j<|e _<|d _ _ p r
end
section
variable{P:cI}{aw:dN->dN->Prop}{D:dN->dN->bE me->Prop}{b:fZ}{S:bA fZ}{L:cR->dN->Prop}{I:Q->bE ez->mh->dN->Prop}
def As(P:Zp)(main:ez)(D:Zy->Zy->bE me->Prop)(b:Zf)(k:bA Item)(S:bA Zf)(ops:bE eX)(i:Q)(a:mh)(w:Zy)(j:mh->Zy->Prop):Prop:=
 ∃f w' es,(∀F,bW P main (G (b.at a (aS ops (i::F)::k)) S) w=ij (G (b.at f (aS ops F::k)) S) w' es)/\D w w' es/\j f w'
def As.eO{o v j}(hk:b.kind≠ eK)(ho:ops[i]?=Y o)(hw:bP o (fN ops a.tmps)=M)(d:(aR a.eval o).run P w=dG (gp v) w')(f:D w w'<|listed P b.fn a o w)(h:j (a.put o.dst v) w'):As P main D b k S ops i a w j:=
 ⟨_,_,_,λc=>stepG_value ho hw hk d,f,h⟩
theorem As.lz{o j}(hk:b.kind≠ eK)(ho:ops[i]?=Y o)(hw:bP o (fN ops a.tmps)=M)(d:(aR a.eval o).run P w=dG .skip w')(f:D w w'<|listed P b.fn a o w)(h:j (a.put o.dst Z') w'):As P main D b k S ops i a w j:=
 ⟨_,_,_,λc=>stepG_none ho hw hk d,f,h⟩
def zzc(j:∀m l a w w₁,I m l a w->aw w w₁->I m l a w₁)
  (c:∀m l a w,I m l a w->aY gH ops l=[]->gk P main aw D L n (G (b.at a (aS ops []::k)) S) w)(h:∀l a w,I 0 l a w->aY gH ops l=[])
  (e:∀m l a w,I (m+1) l a w->∀i∈aY gH ops l,As P main D b k S ops i a w<|I m<|aA l i M):
  ∀(m t:Q) (l:bE ez) (a:mh) (w:Zy),I m l a w->gk P main aw D L (n+m) (G (b.at a (aS ops (cU gH ops m t l [])::k)) S) w:=by
 intro m;induction m with
 |zero=>exact λt l a w f=>c _ _ _ _ f<|h _ _ _ f
 |succ m X=>
  intro t l a w f;have o:cU gH ops (m+1) t l []=match(aY gH ops l)[t%T (aY gH ops l)]?with
   |some i=>cU gH ops m _ _ [i]|none=>[].reverse:=O
  rw[o];by_cases d:aY gH ops l=[];rw[d];exact(c _ _ _ _ f d).mono À;have g:t%T (aY gH ops l)<T (aY gH ops l):=Nat.mod_lt _ Á;rw[Jc g];simp only[];rw[linearise_go_acc,Ol,Vz];have:n+(m+1)=(n+m)+1:=À
  rw[this];refine kg O λw₁ p=>?_;let⟨a',w',es,hs,hd,W⟩:=e m l a w₁ (j _ _ _ _ _ f p) _<|Xk g;simp_all
def zwc(W:LetsDraw D)(g:Region.departs ops=ao)(f:∀m l a w w₁,I m l a w->aw w w₁->I m l a w₁)(e:∀m l a (w:Zy),I m l a w->I m l a {w with drawn:=w.drawn+1})
  (d:∀m l a w,I m l a w->aY gH ops l=[]->gk P main aw D L n (G (b.at a (aS ops []::k)) S) w)(h:∀l a w,I 0 l a w->aY gH ops l=[])
  (c:∀m l a w,I (m+1) l a w->∀i∈aY gH ops l,As P main D b k S ops i a w<|I m<|aA l i M)
  {id:Q}{a:mh}{w:Zy}(j:I (V ops) (cL (V ops) ao) a w):gk P main aw D L (n+V ops+1) (G (b.at a (dE (fG id ops M)::k)) S) w:=by
 refine kg O λw₁ p=>?_;rw[stepG_region_draw];refine⟨W _,?_⟩;have o:∀t,iZ (P.follows nf) ops t=Region.linearise gH ops t:=λt=>by grind [iZ]
 rw[o];exact zzc f d h c _ _ _ a _<|e _ _ _ _<|f _ _ _ _ _ j p
end
end
section
open Go.RowKit Go.Conc.Lib
variable[pn:Pn][py:dO]
noncomputable def By:pB:=Tryz.f136.body.getD .skip
noncomputable def ul:bE eX:=match By with| gU _ (gU _<|gU _<|gU _<|gU _<|gU (fG _ ops _) _)=>ops|_=>#[]
structure SL(Lb:Q)(bs ls:U)(w:Zy):Prop where
 bM:N w (K Lb 11)=J bs
 aQ:N w (K Lb 12)=J ls
abbrev Ox(E:me->Prop)(a:mh)(o:eX)(v:Zv)(w:Zy):Prop:=(aR a.eval o).run az w=dG (gp v) w/\DE E w w (lj az 136 a o w)
abbrev I9(ops:bE eX)(i:Q)(d:dD Tmp)(op:Op):Prop:=(ops[i]?.map λo=>(o.guard.isNone,o.dst,o.op))=Y (M,d,op)
def I9.lp{d op}(h:I9 ops i d op):∃o,ops[i]?=Y o/\o.dst=d/\o.op=op/\∀y,bP o y=M:=zz6
section
variable{o:eX}{w:dN}{v:eJ}{j:Q}
def ML(hop:o.op= .move (cP n))(h:a.eval (cP n)=v):Ox E a o v w:=by
 constructor
 ·unfold aR;simp only[hop,h];simp[go_sem]
 exact zc2
def MM(hop:o.op= .nilCheck (cP n)){x}(h:a.eval (cP n)=aU (Y x)):Ox E a o (aU<|some x) w:=by
 constructor
 ·unfold aR;simp only[hop,h];simp[go_sem]
 exact zc2
def MI(d:j=7\/j=8)(hop:o.op= .fieldAddr 147 (cP n) j)(h:a.eval (cP n)=zq Lb):Ox E a o (zk Lb<|j+4) w:=by
 obtain rfl|rfl:=d;all_goals
  constructor
  ·unfold aR;simp[hop,h];simp[go_sem]
  intro e c;have b:=iX c;unfold aR at b;simp[hop,h]at b;simp[go_sem]at b
def MK(f:∀x:Addr,x.block=Lb->E ⟨ma x,ao,ao⟩){z}(hop:o.op= .load 3 (cP n))(h:a.eval (cP n)=zk Lb j)(c:N w (K Lb j)=J z):Ox E a o (J z) w:=by
 constructor
 ·unfold aR;simp[hop,h];simp[go_sem,c]
 intro e d;have b:=iX d;unfold aR at b;simp[hop,h]at b;simp[go_sem,c]at b;grind
def xy4(hw:IntKind.i64.wrap (bs+1)=bs+1)(hop:o.op= .binOp .add 3 (cP n) (.const<|J 1) 3)(h:a.eval (cP n)=J bs):Ox E a o (J<|bs+1) w:=by
 constructor
 ·unfold aR;simp[hop,h];simp[go_sem,hw]
 intro e c;have b:=iX c;unfold aR at b;simp[hop,h]at b;simp[go_sem,hw]at b
def jcj(hop:o.op= .makeFunc (.func 211) #[] #[cP 5,cP 4,cP 3]):Ox E a o (.func (.func 211) #[] #[a.eval<|cP 5,a.eval<|cP 4,a.eval<|cP 3]) w:=by
 constructor
 ·unfold aR;simp[hop];simp[go_sem,Instr.makeFunc]
 intro e c;have b:=iX c;unfold aR at b;simp[hop]at b;simp[go_sem,Instr.makeFunc,Va]at b
end
def xqo:Terms pe<|DE E:=⟨atRel_trans,λw e a=>Á⟩
def ť:LetsDraw<|DE E:=λw e a=>Á
theorem SL.at(h:SL Lb bs ls w)(r:pe w w₁):SL Lb bs ls w₁:=by obtain⟨d,rfl⟩:=r;exact⟨h.bM,h.aQ⟩
abbrev l5(r p q:Q):bE ez:=#[bR (1<=r),bR (1<=p),bR (2<=p),bR (3<=p),bR (4<=p),bR (5<=p),bR (1<=q),bR (2<=q),bR (3<=q),bR (4<=q),ao]
theorem š(r)(d:r<2)(p)(b:p<6)(q)(c:q<5):aY gH ul (l5 r p q)≠[]/\∀i∈aY gH ul (l5 r p q),(i=0/\r=0)\/(i=p+1/\p<5)\/(i=q+6/\q<4)\/(i=10/\r=1/\p=5/\q=4):=by
 have h:∀(r:_root_.Fin 2) (p:_root_.Fin 6) (q:_root_.Fin 5),(!(aY gH ul<|l5 r p q).isEmpty&&(aY gH ul<|l5 r p q).all λi=>bR ((i=0/\r.val=0)\/(i=p+1/\p.val<5)\/(i=q+6/\q.val<4)\/(i=10/\r.val=1/\p.val=5/\q.val=4)))=M:=Ê
 have:=h ⟨r,d⟩ ⟨p,b⟩ ⟨q,c⟩;rw[jy,GM]at this;exact⟨λe=>(by rw[e]at this;cases this.1),λi a=>Xt<|this.2 i a⟩
def I5(Lb Bd Bs Wg:Q)(bs ls:U)(y1 y2 y6 y7 y8 y9 j f W S L X G P I y19 y20 y21 y22 y23 y24 y25 y26 y27 y28 y29 y30 y31 y32 y33 y34:Zv)(ds:bA nt)(m:Q)(l:bE ez)(a:mh):Prop:=∃r p q,r<2/\p<6/\q<5/\l=l5 r p q/\m+(r+p+q)=11/\a=⟨#[zq Lb,y1,y2,zq Bd,zq Bs,zq Wg,y6,y7,y8,y9,j,f,W,S,L,X,G,P,(if 1<=r then .func (.func 211) #[] #[zq Wg,zq Bs,zq Bd]else I),(if 1<=p then zq Lb else y19),(if 2<=p then zq Lb else y20),(if 3<=p then zk Lb 11 else y21),(if 4<=p then J bs else y22),(if 5<=p then J (bs+1)else y23),(if 1<=q then zq Lb else y24),(if 2<=q then zq Lb else y25),(if 3<=q then zk Lb 12 else y26),(if 4<=q then J ls else y27),y28,y29,y30,y31,y32,y33,y34],ds⟩
def xn2(P:∀x:Addr,x.block=Lb->E ⟨ma x,ao,ao⟩)(hw:IntKind.i64.wrap (bs+1)=bs+1){cs Stop y1 y2 y6 F y8 X g j t y B C y17 y18 y19 y20 y21 y22 y23 y24 y25 y26 y27 y28 y29 y30 y31 y32 y33 y34 D}(f:∀w',pe w w'->gk az M pe (DE E) Stop n (G ((jU 136).at ⟨#[zq Lb,y1,y2,zq Bd,zq Bs,zq Wg,y6,F,y8,X,g,j,t,y,z,B,C,y17,.func (.func 211) #[] #[zq Wg,zq Bs,zq Bd],zq Lb,zq Lb,zk Lb 11,J bs,J<|bs+1,zq Lb,zq Lb,zk Lb 12,J ls,y28,y29,y30,y31,y32,y33,y34],D⟩ (aS ul [10]::k)) cs) w')(hd:SL Lb bs ls w):
  gk az M pe (DE E) Stop (n+11+1) (G ((jU 136).at ⟨#[zq Lb,y1,y2,zq Bd,zq Bs,zq Wg,y6,F,y8,X,g,j,t,y,z,B,C,y17,y18,y19,y20,y21,y22,y23,y24,y25,y26,y27,y28,y29,y30,y31,y32,y33,y34],D⟩ (dE (fG 5 ul M)::k)) cs) w:=by
 refine zxd (S:=λw'=>SL Lb bs ls w'/\pe w w') (I:=I5 Lb Bd Bs Wg bs ls y1 y2 y6 F y8 X g j t y z B C y17 y18 y19 y20 y21 y22 y23 y24 y25 y26 y27 y28 y29 y30 y31 y32 y33 y34 D) (last:=10) xqo ť (λw h=>⟨h.1.at ⟨_,O⟩,atRel_trans _ _ _ h.2 ⟨_,O⟩⟩) Ä (λ_ _ h r=>⟨h.1.at r,atRel_trans _ _ _ h.2 r⟩) Ã ?_ ?_ ?_ ?_ ⟨hd,atRel_refl _⟩;rintro l a⟨r,p,q,_,_,_,_,_,_⟩;omega;rintro m l a⟨r,p,q,b,e,c,rfl,_⟩;grind [š];rintro m l a⟨r,p,q,b,e,c,rfl,ba,rfl⟩ i h1;have W:∀{a:mh} (d op) {v} {I:mh->Prop} {S:Zy->Prop},(ul[i]?.map λo=>(o.guard.isNone,o.dst,o.op))=Y (M,d,op)->(∀o,o.op=op->∀w,S w->Ox E a o v w)->I (a.put d v)->∃o v,ul[i]?=Y o/\bP o (fN ul a.tmps)=M/\(∀w,S w->Ox E a o v w)/\I (a.put o.dst v):=by intro a d op v I S h h2 hx;obtain⟨o,ay,rfl,ho,wr⟩:=I9.lp h;exact⟨o,v,ay,wr _,h2 o ho,hx⟩
 rcases(š r b p e q c).2 i h1 with⟨rfl,rfl⟩|⟨rfl,h⟩|⟨rfl,h⟩|⟨rfl,rfl,rfl,rfl⟩;exact aJ<|W (Y 18) _ Ä (λo h w _=>jcj h) ⟨1,p,q,À,e,c,O,À,O⟩;obtain rfl|rfl|rfl|rfl|rfl:p=0\/p=1\/p=2\/p=3\/p=4:=À
 exact aJ<|W (Y 19) (.move<|cP 0) Ä (λo h w _=>ML h O) ⟨r,1,q,b,À,c,O,À,O⟩;exact aJ<|W (Y 20) (.nilCheck<|cP 19) Ä (λo h w _=>MM h O) ⟨r,2,q,b,À,c,O,À,O⟩;exact aJ<|W (Y 21) (.fieldAddr 147 (cP 20) 7) Ä (λo h w _=>MI (aJ O) h O) ⟨r,3,q,b,À,c,O,À,O⟩;exact aJ<|W (Y 22) (.load 3<|cP 21) Ä (λo h w s=>MK P h O s.1.bM) ⟨r,4,q,b,À,c,O,À,O⟩;exact aJ<|W (Y 23) (.binOp .add 3 (cP 22) _ 3) Ä (λo h w _=>xy4 hw h O) ⟨r,5,q,b,À,c,O,À,O⟩;obtain rfl|rfl|rfl|rfl:q=0\/q=1\/q=2\/q=3:=À
 exact aJ<|W (Y 24) (.move<|cP 0) Ä (λo h w _=>ML h O) ⟨r,p,1,b,e,À,O,À,O⟩;exact aJ<|W (Y 25) (.nilCheck<|cP 24) Ä (λo h w _=>MM h O) ⟨r,p,2,b,e,À,O,À,O⟩;exact aJ<|W (Y 26) (.fieldAddr 147 (cP 25) 8) Ä (λo h w _=>MI (ac O) h O) ⟨r,p,3,b,e,À,O,À,O⟩;exact aJ<|W (Y 27) (.load 3<|cP 26) Ä (λo h w s=>MK P h O s.1.aQ) ⟨r,p,4,b,e,À,O,À,O⟩;exact ac ⟨O,Ä,λw' L=>f w' L.2⟩;exact⟨0,0,0,Ã,Ã,Ã,O,O,O⟩
noncomputable def V8:bE eX:=match By with| gU _ (gU (fG _ ops _) _)=>ops|_=>#[]
def Ŭ{o}(hw:IntKind.i64.wrap (ls-bs)=(s:U))(hop:o.op= .binOp .sub 3 (cP 10) (cP 14) 3)(h:a.eval (cP 10)=J ls)(c:a.eval (cP 14)=J bs):Ox E a o (J s) w:=by
 constructor
 ·unfold aR;simp[hop,h,c];simp[go_sem,hw]
 intro e d;have b:=iX d;unfold aR at b;simp[hop,h,c]at b;simp[go_sem,hw]at b
def xnc:(((Tryz.prog.info? 289).getD default).bytes:U)=24:=Ä
abbrev uk(s:Q):Obj:= .chan s #[] ao 0 0 ao
abbrev tK(v:Zv):Obj:=au #[v] 278
theorem jb5(d:s<=1000000000){o}(hop:o.op=Op.makeChan 278 (cP 15))(c:a.eval (cP 15)=J s)(w):(aR a.eval o).run az w=dG (gp<|fI<|some (V<|Z w)) (aF w<|uk s)/\DE E w (aF w<|uk s) (lj az 136 a o w):=by have b:=xnc;have h:=run_makeChan (w:=w) Tryz.underlying278 Ä bB s À (by rw[b];omega);have i:=events_makeChan (w:=w) Tryz.underlying278 Ä bB s À (by rw[b];omega) #[];constructor;unfold aR;simp_all;intro e f;have g:=iX f;unfold aR at g;simp_all
theorem xy0{o}(hop:o.op=Op.alloc 278)(w):(aR a.eval o).run az w=dG (gp<|zq (V<|Z w)) (aF w<|tK<|fI R)/\DE E w (aF w<|tK<|fI R) (lj az 136 a o w):=by
 constructor
 ·unfold aR;simp only[hop];simp[go_sem]
 intro e c;have b:=iX c;unfold aR at b;simp only[hop]at b;simp[go_sem]at b
def ū{o}(i:E ⟨ma<|K Bs 0,M,ao⟩)(hop:o.op=Op.store 278 (cP 4) (cP 16))(d:a.eval (cP 4)=zq Bs)(b:a.eval (cP 16)=fI (Y C))(f:N w (K Bs 0)=Y (fI R))(g:aX w (K Bs 0)=ao):
  (aR a.eval o).run az w=dG .skip (World.setCell w (K Bs 0)<|fI<|some C)/\DE E w (World.setCell w (K Bs 0)<|fI<|some C) (lj az 136 a o w):=by
 constructor
 ·unfold aR;simp only[hop,d,b];simp[go_sem,stored,f,g]
 intro e h;have c:=iX h;unfold aR at c;simp only[hop,d,b]at c;simp[go_sem,storedEv,f,g]at c;grind
def RB(j:Q)(y:Zv):Q->Zv
 |3|5|7=>fI (Y j)
 |6|8=>fI (Y<|j+1)
 |_=>y
def RA(j:Q)(y:Zv):Q->Zv
 |1|4|6|8=>zq j
 |5|7=>zq<|j+1
 |_=>y
def w1(W:Zy)(s:Q):Q->Zy
 |1|4=>aF W<|tK<|fI R
 |3=>aF W<|uk s
 |5=>aF (aF W<|uk s)<|tK<|fI R
 |6=>aF (aF W<|tK<|fI R)<|uk s
 |7=>World.setCell (aF (aF W<|uk s)<|tK<|fI R) (K (V (Z W)+1) 0)<|fI<|some (V<|Z W)
 |8=>World.setCell (aF (aF W<|tK<|fI R)<|uk s) (K (V<|Z W) 0)<|fI<|some<|V (Z W)+1
 |_=>W
def n1:Q->Q
 |0=>0|1=>1|2=>1|3=>2|4=>2|5=>3|6=>3|_=>4
abbrev l1(p q c:Q):bE ez:=#[bR (1<=p),bR (2<=p),bR (3<=p),bR (4<=p),bR (1<=q),bR (2<=q),bR (3<=q),bR (4<=q),bR (2<=c),bR (c=3\/5<=c),bR (c=1\/4<=c),bR (7<=c)]
def RD(p)(f:p<5)(q)(g:q<5)(c)(b:c<9)(a:2<=c->p=4/\q=4):(aY gH V8 (l1 p q c)=[]->7<=c)/\(7<=c->aY gH V8 (l1 p q c)=[])/\∀i∈aY gH V8 (l1 p q c),(p=i/\p<4)\/(i=q+4/\q<4)\/(i=8/\(c=0\/c=1)/\p=4/\q=4)\/(i=9/\(c=2\/c=4))\/(i=10/\(c=0\/c=2\/c=3))\/(i=11/\(c=5\/c=6)):=by
 have h:∀(p q:_root_.Fin 5) (c:_root_.Fin 9),(bR (2<=c.val/\¬(p.val=4/\q.val=4))||((aY gH V8<|l1 p q c).isEmpty==bR (7<=c.val))&&(aY gH V8<|l1 p q c).all λi=>bR ((p.val=i/\p.val<4)\/(i=q+4/\q.val<4)\/(i=8/\(c.val=0\/c.val=1)/\p.val=4/\q.val=4)\/(i=9/\(c.val=2\/c.val=4))\/(i=10/\(c.val=0\/c.val=2\/c.val=3))\/(i=11/\(c.val=5\/c.val=6))))=M:=Ê
 have:=h ⟨p,f⟩ ⟨q,g⟩ ⟨c,b⟩;rw[Bool.or_eq_true,jy,GM,zQ]at this;obtain h|⟨h,k⟩:=this;exact dC (a (Xt h).1) (Xt h).2;exact⟨λe=>(by rw[e]at h;exact Xt h.symm),λe=>List.isEmpty_iff.mp<|h.trans<|jm e,λi d=>Xt<|k i d⟩
def jbx:∀c<9,n1 c<=4/\(n1 c=4->7<=c):=Ã
theorem SL.w1(h:SL Lb bs ls w)(c:Q):SL Lb bs ls<|w1 w s c:=by
 have a:=AD h.bM;have d:∀{w:Zy} (o:Obj),SL Lb bs ls w->SL Lb bs ls (aF w o):=λ{w} o h=>by have a:Lb<V (Z w):=AD h.bM;exact⟨(Z6<|Xj _ _ _ a).trans h.bM,(Z6<|Xj _ _ _ a).trans h.aQ⟩
 have st:∀{w:Zy} (x:Addr) (v:Zv),x.block≠Lb->SL Lb bs ls w->SL Lb bs ls _:=λ{w} x v b h=>
  ⟨(Z6<|(kW w x v).block Lb λe=>b å).trans h.bM,(Z6<|(kW w x v).block Lb λe=>b å).trans h.aQ⟩
 unfold A.w1;grind
section
variable(j f S L X aw y8 G y10 y11 y12 y13 y14 y15 y16 y17 y18 y19 y20 y21 y22 y23 y24 y25 y26 y27 y28 y29 y30 y31 y32 y33 y34:eJ)(ds:bA nt)
def MP(Lb Bd:Q)(bs ls:U)(s W p q c:Q):mh:=⟨#[zq Lb,j,f,zq Bd,(RA W S c),L,X,(if 1<=p then zq Lb else aw),(if 2<=p then zq Lb else y8),(if 3<=p then zk Lb 12 else G),(if 4<=p then J ls else y10),(if 1<=q then zq Lb else y11),(if 2<=q then zq Lb else y12),(if 3<=q then zk Lb 11 else y13),(if 4<=q then J bs else y14),(if 2<=c then J s else y15),(RB W y16 c),y17,y18,y19,y20,y21,y22,y23,y24,y25,y26,y27,y28,y29,y30,y31,y32,y33,y34],ds⟩
def I1(Lb Bd:Q)(bs ls:U)(s:Q)(W:Zy)(m:Q)(l:bE ez)(a:mh)(w:Zy):Prop:=
 ∃p q c:Q,p<5/\q<5/\c<9/\(2<=c->p=4/\q=4)/\l=l1 p q c/\m+(p+q+n1 c)=12/\a=MP j f S L X aw y8 G y10 y11 y12 y13 y14 y15 y16 y17 y18 y19 y20 y21 y22 y23 y24 y25 y26 y27 y28 y29 y30 y31 y32 y33 y34 ds Lb Bd bs ls s (V<|Z W) p q c/\∃d,w=(w1 W s c).at d
end
end
end A
namespace A
variable{Lb Bd cp N r B C m i Bs Wg c D p ay clock d rg:Q}{bs ls:Int}{E:me->Prop}{w w' x u:Zy}{o:Q->Obj}{k todo:bA Item}{y1 y2 y5 y6 y y17 y18 y19 y20 y21 y22 y23 y24 y25 y26 y27 y28 y29 y30 y31 y32 y33 y34 v val sv:Zv}{X:ZP}{ops:bE eX}{rest:bA Q}{op:eX}{ſ a:Addr}{P:Zp}{zzG G':Zg->Zy->Q->Prop}{b fr:Zf}{I:Zf->Zy->Prop}{ϸ:bA PanicEntry->Zy->Prop}{e:Zt}
open Tryq Go Go.Conc
section
open Go.RowKit Go.Conc.Lib
variable[pn:Pn][py:dO]
def Λ(c:cp<=1000000000){a o}(hop:o.op= .makeChan 278 (cP 15))(b:a.eval (cP 15)=J cp)(d:V (Z w)=N):(aR a.eval o).run az w=dG (gp<|fI<|some N) (aF w<|uk cp)/\DE E w (aF w<|uk cp) (lj az 136 a o w):=by grind [jb5]
def Sb{a o}(hop:o.op= .alloc 278)(b:V (Z w)=N):(aR a.eval o).run az w=dG (gp<|zq N) (aF w<|tK<|fI R)/\DE E w (aF w<|tK<|fI R) (lj az 136 a o w):=by grind [xy0]
def Θ(W:Zy)(o d):V ((aF W o).at d).heap=V (Z W)+1:=xp _ _
def Μ(W:Zy)(d):World.cell? ((aF (aF W<|uk cp)<|tK<|fI R).at d) (K (V (Z W)+1) 0)=Y (fI R)/\aX ((aF (aF W<|uk cp)<|tK<|fI R).at d) (K (V (Z W)+1) 0)=ao:=by
 have h:((aF (aF W<|uk cp)<|tK<|fI R).at d).heap[V (Z W)+1]?=Y (tK<|fI R):=by have:=xn (aF W<|uk cp)<|tK<|fI R;rw[xp]at this;exact this
 grind [World.cell?,aX]
def Ν(W:Zy)(d):World.cell? ((aF (aF W<|tK<|fI R)<|uk cp).at d) (K (V<|Z W) 0)=Y (fI R)/\aX ((aF (aF W<|tK<|fI R)<|uk cp).at d) (K (V<|Z W) 0)=ao:=by
 have h:((aF (aF W _)<|uk cp).at d).heap[V (Z W)]?=Y (tK<|fI R):=
  (Xj _ _ _ Â).trans (xn W _)
 grind [World.cell?,aX]
def xo3(g':∀x:Addr,x.block=Lb->E ⟨ma x,ao,ao⟩)(hw:IntKind.i64.wrap (ls-bs)=(cp:U))(v':cp<=1000000000){cs Stop n W X y8 h2 r s t z B C hx w₀}
  (F:∀x:Addr,V (Z w₀)<=x.block->x.block<V (Z w₀)+2->E ⟨ma x,M,ao⟩)(hS:SL Lb bs ls w₀)
  (ba:∀c,c=7\/c=8->∀d,gk az M pe (DE E) Stop n (G ((jU 136).at (MP y1 y2 W y5 y6 X y8 h2 r s t y z B C y17 y18 y19 y20 y21 y22 y23 y24 y25 y26 y27 y28 y29 y30 y31 y32 y33 y34 hx Lb Bd bs ls cp (V<|Z w₀) 4 4 c) (aS V8 []::k)) cs)<|(w1 w₀ cp c).at d):
  gk az M pe (DE E) Stop (n+12+1) (G ((jU 136).at ⟨#[zq Lb,y1,y2,zq Bd,W,y5,y6,X,y8,h2,r,s,t,y,z,B,C,y17,y18,y19,y20,y21,y22,y23,y24,y25,y26,y27,y28,y29,y30,y31,y32,y33,y34],hx⟩ (dE (fG 1 V8 M)::k)) cs) w₀:=by
 refine zwc (I:=I1 y1 y2 W y5 y6 X y8 h2 r s t y z B C y17 y18 y19 y20 y21 y22 y23 y24 y25 y26 y27 y28 y29 y30 y31 y32 y33 y34 hx Lb Bd bs ls cp w₀) ť Ä ?_ ?_ ?_ ?_ ?_ ?_;rintro m l a w e⟨p,q,c,g,b,f,j,ho,wr,N,d,rfl⟩ ⟨d',rfl⟩;exact⟨p,q,c,g,b,f,j,ho,wr,N,d',O⟩;rintro m l a w⟨p,q,c,g,b,f,j,ho,wr,N,d,rfl⟩;exact⟨p,q,c,g,b,f,j,ho,wr,N,d+1,O⟩;rintro m l a w⟨p,q,c,J,L,D,b,rfl,hm,rfl,d,rfl⟩ hr;have N:=(RD p J q L c D b).1 hr;grind;rintro l a w⟨p,q,c,J,L,D,b,rfl,hm,rfl,d,rfl⟩;have hn:=jbx c D;exact(RD p J q L c D b).2.1 (hn.2 À);rintro m l a w⟨p,q,c,J,L,D,b,rfl,hm,rfl,d,rfl⟩ i hi;have hs:∀c,SL Lb bs ls<|(w1 w₀ cp c).at d:=λc=>(hS.w1 c).at ⟨d,O⟩;have hd:∀(d op) {a:mh} {v w e} {h1:mh->Zy->Prop},(V8[i]?.map λo=>(o.guard.isNone,o.dst,o.op))=Y (M,d,op)->(∀o,o.op=op->(aR a.eval o).run az w=dG (gp v) e/\DE E w e (lj az 136 a o w))->h1 (a.put d v) e->As az M (DE E) (jU 136) k cs V8 i a w h1:=by intro d op a v w e h1 h ay S;obtain⟨o,g,rfl,f,j⟩:=I9.lp h;exact As.eO Ã g (j _) (ay o f).1 (ay o f).2 S
 have es:∀(d op) {a:mh} {w e} {h1:mh->Zy->Prop},(V8[i]?.map λo=>(o.guard.isNone,o.dst,o.op))=Y (M,d,op)->(∀o,o.op=op->(aR a.eval o).run az w=dG .skip e/\DE E w e (lj az 136 a o w))->h1 (a.put d Z') e->As az M (DE E) (jU 136) k cs V8 i a w h1:=by intro d op a w e h1 h ay S;obtain⟨o,g,rfl,f,j⟩:=I9.lp h;exact As.lz Ã g (j _) (ay o f).1 (ay o f).2 S
 rcases(RD p J q L c D b).2.2 i hi with⟨rfl,h⟩|⟨rfl,h⟩|⟨rfl,h,rfl,rfl⟩|⟨rfl,h⟩|⟨rfl,h⟩|⟨rfl,h⟩;obtain rfl|rfl|rfl|rfl:p=0\/p=1\/p=2\/p=3:=À
 exact hd (Y 7) (.move<|cP 0) Ä (λo h=>ML h O) ⟨1,q,c,À,À,À,À,O,À,O,d,O⟩;exact hd (Y 8) (.nilCheck<|cP 7) Ä (λo h=>MM h O) ⟨2,q,c,À,À,À,À,O,À,O,d,O⟩;exact hd (Y 9) (.fieldAddr 147 (cP 8) 8) Ä (λo h=>MI (ac O) h O) ⟨3,q,c,À,À,À,À,O,À,O,d,O⟩;exact hd (Y 10) (.load 3<|cP 9) Ä (λo h=>MK g' h O (hs c).aQ) ⟨4,q,c,À,À,À,À,O,À,O,d,O⟩;obtain rfl|rfl|rfl|rfl:q=0\/q=1\/q=2\/q=3:=À
 exact hd (Y 11) (.move<|cP 0) Ä (λo h=>ML h O) ⟨p,1,c,À,À,À,À,O,À,O,d,O⟩;exact hd (Y 12) (.nilCheck<|cP 11) Ä (λo h=>MM h O) ⟨p,2,c,À,À,À,À,O,À,O,d,O⟩;exact hd (Y 13) (.fieldAddr 147 (cP 12) 7) Ä (λo h=>MI (aJ O) h O) ⟨p,3,c,À,À,À,À,O,À,O,d,O⟩;exact hd (Y 14) (.load 3<|cP 13) Ä (λo h=>MK g' h O (hs c).bM) ⟨p,4,c,À,À,À,À,O,À,O,d,O⟩;obtain rfl|rfl:=h;exact hd (Y 15) _ Ä (λo h=>Ŭ hw h O O) ⟨4,4,2,À,À,À,À,O,â,O,d,O⟩;exact hd (Y 15) _ Ä (λo h=>Ŭ hw h O O) ⟨4,4,4,À,À,À,À,O,â,O,d,O⟩;obtain⟨rfl,rfl⟩:=b À;obtain rfl|rfl:=h;exact hd (Y 16) _ Ä (λo h=>Λ v' h O O) ⟨4,4,3,À,À,À,À,O,â,O,d,O⟩;exact hd (Y 16) _ Ä (λo h=>Λ v' h O<|Θ w₀ _ d) ⟨4,4,6,À,À,À,À,O,â,O,d,O⟩;obtain rfl|rfl|rfl:=h;exact hd (Y 4) _ Ä (λo h=>Sb h O) ⟨p,q,1,À,À,À,À,O,â,O,d,O⟩;exact hd (Y 4) _ Ä (λo h=>Sb h O) ⟨p,q,4,À,À,À,À,O,â,O,d,O⟩;exact hd (Y 4) _ Ä (λo h=>Sb h<|Θ w₀ _ d) ⟨p,q,5,À,À,À,À,O,â,O,d,O⟩;obtain⟨rfl,rfl⟩:=b À;obtain rfl|rfl:=h;exact es R _ Ä (λo h=>ū (F _ Â Â) h O O (Μ w₀ d).1 (Μ w₀ d).2) ⟨4,4,7,À,À,À,À,O,â,O,d,O⟩;exact es R _ Ä (λo h=>ū (F _ Â Â) h O O (Ν w₀ d).1 (Ν w₀ d).2) ⟨4,4,8,À,À,À,À,O,â,O,d,O⟩;exact⟨0,0,0,Ã,Ã,Ã,Ã,O,O,O,w₀.drawn,O⟩
section
variable{P:cI}{S:cR->dN->Prop}{b:fZ}{a:mh}{z:bA fZ}{w w':dN}
def Lg(P:Zp)(E:me->Prop)(S:Zg->Zy->Prop)(m:Q)(g:Zg)(w:Zy):Prop:=∀d,gk P M pe (DE E) S m g<|w.at d
theorem Lg.fB{g g'}(c:g.status=bK)(h:∀w,bW P M g w=ij g' w)(b:Lg P E S m g' w):Lg P E S (m+1) g w:=λd=>kg c λj f=>by obtain⟨a,rfl⟩:=f;rw[h];exact⟨λe i=>Á,b a⟩
def Lg.eO(v)(ho:ops[i]?=Y op)(hw:bP op (fN ops a.tmps)=M)(hk:b.kind≠ eK)
  (j:∀d,(aR a.eval op).run P (w.at d)=dG (gp v) (w'.at d))(f:∀d,∀e∈(aR a.eval op).events P (w.at d) #[],E e)
  (g:Lg P E S m (G (b.at (a.put op.dst v) (aS ops rest::k)) z) w'):Lg P E S (m+1) (G (b.at a (aS ops (i::rest)::k)) z) w:=λd=>kg O λn l=>by
 obtain⟨c,rfl⟩:=l;change(bW P M _<|w.at c).goes _;rw[stepG_value ho hw hk<|j c];exact⟨λe h=>f c e<|mem_listed h,g c⟩
end
noncomputable def K1:=Qb<|Qb By
noncomputable def K5:=Qn 4 K1
abbrev Dm:Obj:=au #[aD .u64 0,zu 0] 286
section
variable{X0:Q}[Go.ConcX.Shy Wg Bd]{Stop:cR->dN->Prop}
def xo1(r:∀x:Addr,x.block=Lb->iA Wg Bd ⟨ma x,ao,ao⟩)(hw:IntKind.i64.wrap (bs+1)=bs+1){cs W}(m:V (Z W)=Wg)(h:SL Lb bs ls W)
  (b:∀d,Stop (G ((jU 136).at ⟨#[zq Lb,y1,y2,zq Bd,zq Bs,zq Wg,y6,zq Lb,zq Lb,zk Lb 12,J ls,zq Lb,zq Lb,zk Lb 11,J bs,J cp,fI<|some C,cE #[],.func (.func 211) #[] #[zq Wg,zq Bs,zq Bd],zq Lb,zq Lb,zk Lb 11,J bs,J<|bs+1,zq Lb,zq Lb,zk Lb 12,J ls,y28,y29,y30,y31,y32,y33,y34],[dcall 209 #[zq Wg]]⟩ [aS ul [10],dE K5]) cs)<|(World.setCell (aF W Dm) (K Wg 0)<|aD .u64 4294967296).at d):
  Lg az (iA Wg Bd) (jG az oG λa w=>∃n,gk az M pe (DE<|Go.ConcX.EvS Wg Bd) (jG az oF λa w=>∃n,gk az M pe (DE<|Go.ConcX.EvS Wg Bd) Stop n a w) n a w) 24
   (G ((jU 136).at ⟨#[zq Lb,y1,y2,zq Bd,zq Bs,y5,y6,zq Lb,zq Lb,zk Lb 12,J ls,zq Lb,zq Lb,zk Lb 11,J bs,J cp,fI<|some C,y17,y18,y19,y20,y21,y22,y23,y24,y25,y26,y27,y28,y29,y30,y31,y32,y33,y34],[]⟩ [aS V8 [],dE K1]) cs) W:=by
 have f:Lb<V (Z W):=AD h.bM;have i:SL Lb bs ls<|World.setCell (aF W Dm) (K Wg 0)<|aD .u64 4294967296:=by have l:SL Lb bs ls<|aF W Dm:=⟨(Z6<|Xj _ _ _ f).trans h.bM,(Z6<|Xj _ _ _ f).trans h.aQ⟩;exact⟨(Z6<|(kW _ _ _).block Lb Á).trans l.bM,(Z6<|(kW _ _ _).block Lb Á).trans l.aQ⟩
 have k:(aF W Dm).heap[Wg]?=Y Dm:=by subst m;exact xn _ _
 apply Lg.fB O λ_=>aW;apply Lg.fB O λ_=>cM;apply Lg.fB O λ_=>eP;apply Lg.eO (w':=aF W Dm) (zq Wg) O O Ã (λd=>by subst m;simp[aR,go_sem];exact⟨O,O⟩) λd e o=>by simp[aR,go_sem]at o
 walk_nrm;apply Lg.fB O λ_=>aW;apply Lg.fB O λ_=>cM;apply Lg.fB O λ_=>eP;apply Lg.fB O λ_=>stepG_defer O O Ã O;walk_nrm;apply Lg.fB O λ_=>aW;apply Lg.fB O λ_=>cM;apply Lg.fB O λ_=>eP;intro d;refine kg O λy s=>?_;obtain⟨p,rfl⟩:=s;refine goes_call (c:=Go.ConcX.Gen.body_add Gk) O O Ã O Tryz.func210 Ä O ⟨λe o=>Á,?_⟩;walk_nrmf Tryz.f210;refine Goes.mono (Go.ConcX.Gen.addPos (mT:=14) MN _ k ?_) À
 walk_nrm;revert p;change Lg _ _ _ 14 _ (World.setCell (aF W Dm) (K Wg 0)<|aD .u64 4294967296);apply Lg.fB O λ_=>aW;apply Lg.fB O λ_=>cM;intro d;refine xn2 r hw (λw' j=>?_)<|i.at ⟨d,O⟩;refine fO λt g=>?_;obtain⟨v,rfl⟩:=j;obtain⟨q,rfl⟩:=g;exact b q
end
noncomputable def vg(Lb D Bd Bs C Wg:Q)(bs ls:U)(cp:Q):mh:=⟨#[zq Lb,zq D,Z',zq Bd,zq Bs,zq Wg,Z',zq Lb,zq Lb,zk Lb 12,J ls,zq Lb,zq Lb,zk Lb 11,J bs,J cp,fI<|some C,cE #[],.func (.func 211) #[] #[zq Wg,zq Bs,zq Bd],zq Lb,zq Lb,zk Lb 11,J bs,J<|bs+1,zq Lb,zq Lb,zk Lb 12,J ls,Z',Z',Z',Z',Z',Z',Z'],[dcall 209 #[zq Wg]]⟩
abbrev y'(D:Q):Obj:=au #[zq D] 89
def kU(W:Zy)(D cp c:Q):Zy:=World.setCell (aF (w1 (aF W<|y' D) cp c) Dm) (K (V (Z W)+3) 0)<|aD .u64 4294967296
def oA(N c:Q):Q:=if c=7 then N+1 else N+2
def pm(N c:Q):Q:=if c=7 then N+2 else N+1
theorem Sd(w cp)(a:c=7\/c=8):V (w1 w cp c).heap=V (Z w)+2:=by grind [World.setCell,w1,xp]
section
variable{w₀:dN}[Go.ConcX.Shy (V w₀.heap+3) (V w₀.heap)]{Stop:cR->dN->Prop}{cs:bA fZ}
def xpp(p:∀x:Addr,x.block=Lb->iA (V (Z w₀)+3) (V<|Z w₀) ⟨ma x,ao,ao⟩)(j:∀x:Addr,V (Z w₀)+1<=x.block->x.block<V (Z w₀)+3->iA (V (Z w₀)+3) (V<|Z w₀) ⟨ma x,M,ao⟩)
  (hw:IntKind.i64.wrap (ls-bs)=(cp:U))(m:cp<=1000000000)(o:IntKind.i64.wrap (bs+1)=bs+1)(k:SL Lb bs ls w₀)
  (f:∀c,c=7\/c=8->∀d,Stop (G ((jU 136).at (vg Lb D (V<|Z w₀) (pm (V<|Z w₀) c) (oA (V<|Z w₀) c) (V (Z w₀)+3) bs ls cp) [aS ul [10],dE K5]) cs)<|(kU w₀ D cp c).at d):
  Lg az (iA (V (Z w₀)+3) (V<|Z w₀)) (jG az oG λa w=>∃n,gk az M pe (DE<|Go.ConcX.EvS (V (Z w₀)+3) (V<|Z w₀)) (jG az oF λa w=>∃n,gk az M pe (DE<|Go.ConcX.EvS (V (Z w₀)+3) (V<|Z w₀)) Stop n a w) n a w) 42
   (G ((jU 136).at ⟨#[zq Lb,zq D,Z',Z',Z',Z',Z',Z',Z',Z',Z',Z',Z',Z',Z',Z',Z',Z',Z',Z',Z',Z',Z',Z',Z',Z',Z',Z',Z',Z',Z',Z',Z',Z',Z'],[]⟩ [dE By]) cs) w₀:=by
 have i:Lb<V (Z w₀):=AD k.bM;have h:SL Lb bs ls<|aF w₀<|y' D:=⟨(Z6<|Xj _ _ _ i).trans k.bM,(Z6<|Xj _ _ _ i).trans k.aQ⟩;have g:V (aF w₀<|y' D).heap=V (Z w₀)+1:=xp _ _;have v:By=gU (fG 0 #[{dst:=Y 3,op:=Op.box 89<|Operand.tmp 1,type:=0,pos:= "look.go:75",after:=#[],guard:=R}] ao) (gU (fG 1 V8 M) K1):=Ä
 rw[v];apply Lg.fB O λ_=>cM;(apply Lg.fB O λ_=>eP;simp[jd,xg,qy,jY,j7,iC,List.range.loop]);apply Lg.eO (w':=aF w₀<|y' D) (zq (V<|Z w₀)) O O Ã (λd=>zb4) λd e z=>by simp[aR,go_sem]at z
 walk_nrm;apply Lg.fB O λ_=>aW;apply Lg.fB O λ_=>cM;intro d;refine Goes.mono (xo3 (n:=24) (w₀:=(aF w₀ _).at d) p hw m (λx r s=>j x (by rw[<-g];exact r)<|by have t:x.block<V (aF w₀ _).heap+2:=s;omega) (h.at ⟨d,O⟩) ?_) À;intro c l q;have y:V (w1 (aF w₀<|y' D) cp c).heap=V (Z w₀)+3:=by rw[Sd _ _ l,g]
 have b:=xo1 (Lb:=Lb) (Bd:=V (Z w₀)) (Bs:=pm (V<|Z w₀) c) (C:=oA (V<|Z w₀) c) (Wg:=V (Z w₀)+3) (bs:=bs) (ls:=ls) (cp:=cp) (Stop:=Stop) p o (cs:=cs) (y1:=aU _) (y2:=Z') (y5:=Z') (y6:=Z') (y17:=Z') (y18:=Z') (y19:=Z') (y20:=Z') (y21:=Z') (y22:=Z') (y23:=Z') (y24:=Z') (y25:=Z') (y26:=Z') (y27:=Z') (y28:=Z') (y29:=Z') (y30:=Z') (y31:=Z') (y32:=Z') (y33:=Z') (y34:=Z')
  (W:=w1 _ cp c) y (h.w1 c) (λd=>f c l d) q
 obtain rfl|rfl:=l;simp[MP,RB,RA,pm,oA,g,show((aF w₀ _).at d).heap.size=V (Z w₀)+1 from g,dY,zd,Nat.reduceLeDiff,↓reduceIte]at b⊢;exact b;simp[MP,RB,RA,pm,oA,g,show((aF w₀ _).at d).heap.size=V (Z w₀)+1 from g,dY,zd,Nat.reduceLeDiff,Nat.reduceEqDiff,↓reduceIte]at b⊢;exact b
end
end
section
open Go.ConcN (sumTo upd sumTo_upd upd_ne upd_same)
variable[pn:Pn]
section
variable{P:cI}{X X0:Q->Prop}{S:Loc->Prop}{T t:gA}
def Zw(Wg C:Q)(a:Touch):Prop:=(wT Wg a.loc->a.kind≠ .plain)/\(a.loc=pa C->a.write=ao)
def TP.yZ(h:qG X0 B (Zw Wg C) 0 T)(m:∀x,X0 x->X x)(y:¬X0 Wg)(q:∀l,S l->¬uM X0 l/\¬xI X0 l)(k:∀l,S l->l.isMemory=M):TP X S Wg C 0 ſ (V T) B T:=by
 have p:∀i a,mg T i=Y a->S a.loc->Knows T 0 i:=λi a c d=>by obtain x|x|x:=h.ln i a c (k _ d);exact x;grind;grind
 refine⟨h.gB,λi a c w=>?_,λi a c d _=>p i a c d,λi a c d=>aJ (p i a c d),λi a c d=>(h.Gi i a c).2 d,λi a c o=>⟨(h.Gi i a c).1 o,λD=>?_⟩,λi g t f s=>aJ (h.mD i g t f s),h.hU,λi z v=>?_⟩;obtain x|⟨⟨b,e,n⟩,hk⟩|⟨⟨r,e,j⟩,hk⟩:=h.ln i a c w;grind;exact ac<|aJ ⟨⟨b,e,m _ n⟩,hk⟩;exact ac<|ac<|ac ⟨⟨r,e,m _ j⟩,λd=>(q _ d).2 ⟨r,e,j⟩,hk⟩;let⟨b,e,n⟩:=o;rcases h.ln i a c (by rw[e];rfl)with x|⟨⟨F,W,L⟩,hk⟩|⟨⟨r,W,j⟩,hk⟩;exact x;grind;grind;have:=lt_of_act? v;omega
def xqc{h1 g g' child}(c:g.status=bK){q gs v sl}(J:gs[0]?=Y g)(r:Leavers P t gs q)(h2:qG X B h1 0 t)
  (h:∀d,bW P M g (v.at d)= .spawn g' child (v.at d) #[]):
  ∃N gs' d sl' t' q' x y,fQ P N (gJ gs v sl) t=(gP<|crowd (gs'.push child) (v.at d) sl',t'++#[x,y])/\gs'[0]?=Y g'/\V gs'=V gs/\Leavers P t' gs' q'/\qG X B h1 0 t'/\(x.g=0/\x.act= .go (V gs))/\(y.g=V gs/\y.act= .start):=by
 induction hk:kD (V gs) q using Nat.strongRecOn generalizing gs q v sl t with
 |_ k ih=>
  have ho:∀g∈gs,awake g:=by
   intro f l;obtain⟨i,n,rfl⟩:=Xd.1 l;obtain rfl|b:=jh i;have:gs[0]=g:=by simpa[xy n]using J
   rw[this];exact oI<|aJ c;exact oI<|(r.old i _ b<|xy n).status.elim aJ λx=>ac (ac x)
  let⟨i,f,d,sl',n,l,hst⟩:=crowd_pick (P:=P) (w:=v) (sl:=sl) ho ⟨0,g,J,c⟩;have C:=(za.1 n).1;obtain rfl|b:=jh i;obtain rfl:f=g:=Á
  have a:=runT_crowd_spawn (sl:=sl') n<|h d;refine⟨1,aA gs 0 g',d,sl',t,q,{g:=0,fn:=f.frame.fn,pos:=f.frame.place,act:= .go (V gs)},{g:=V gs,fn:=child.frame.fn,pos:=f.frame.place,act:= .start},?_,by simp[C],Â,⟨λj z s hx=>?_,λj s=>r.above j É⟩,h2,⟨O,O⟩,O,O⟩;simp[fQ,hst,a];rfl;have o:0≠j:=À
  rw[zl o]at hx;exact r.old j z s hx;have hd:=r.old i f b n;have L:(i==0)=ao:=Ç
  cases hqi:q i with
  |zero=>rw[hqi]at hd;rw[hd.1]at l;cases l
  |succ k'=>
   rw[hqi]at hd;obtain⟨v',_⟩|⟨_,G,T,wr,E,ay⟩:=hd;grind;have a:=qD (sl:=sl') n (by rw[L];exact E<|v.at d);have F:V (aA (gs.map<|woken P f G<|v.at d) i G)=V gs:=Â
   have es:kD (V gs) (upd q i k')+(k'+1)=kD (V gs) q+k':=by have:=sumTo_upd q k' id C;simpa[hqi]using this
   let⟨N,gs2,d2,sl2,t2,q2,x,y,b1,b2,b3,b4,b5,b6,b7⟩:=ih (kD (V gs)<|upd q i k') À (q:=upd q i k') (t:=t++aZ i f.frame.fn f.frame.place T) (gs:=aA (gs.map<|woken P f G<|v.at d) i G) (v:=v.at d) (sl:=sl')
    (by
     have o:i≠0:=À
     rw[zl o,jt,J];simp[woken_run c])
    ⟨λj z s I=>by
     by_cases m:i=j;subst m;rw[Yv É]at I;obtain rfl:=ql I;rw[upd_same,mn];exact ay;rw[zl m,jt]at I;obtain⟨y,cs,rfl⟩:=zv.1 I;have D:=r.old j y s cs;rw[jJ D,upd_ne q k'<|Ne.symm m,dJ t m _ λW p=>by obtain⟨e,_,rfl⟩:=zy p;rfl];exact D,λj s=>by
     rw[dJ t (g':=i) À _ λW p=>by obtain⟨e,_,rfl⟩:=zy p;rfl];exact r.above j À⟩
    (h2.AO À wr) (λS=>h S) (by rw[F])
   rw[F]at b3 b6 b7;exact⟨1+N,gs2,d2,sl2,t2,q2,x,y,qr (by simp[fQ,hst,a]) b1,b2,b3,b4,b5,b6,b7⟩
end
end
section
open Go.RowKit Go.Conc.Lib
variable[pn:Pn][py:dO]
section
variable{z:bA fZ}
def JA:eX:={dst:=R,op:=Op.go {callee:=Callee.value<|Operand.tmp 18,args:=#[cP 23,cP 27],argTypes:=#[3,3]},type:=0,pos:= "look.go:80",after:=#[{on:=0,ground:=fw},{on:=5,ground:=fw},{on:=9,ground:=fw}],guard:=R}
def xxa:ul[10]?=Y JA:=Ä
def xs8(w):bW az M (G ((jU 136).at (vg Lb D Bd Bs C Wg bs ls cp) [aS ul [10],dE K5]) z) w= .spawn (G ((jU 136).at (vg Lb D Bd Bs C Wg bs ls cp) [aS ul [],dE K5]) z) (born az<|ya Bd Bs Wg (bs+1) ls) w #[]:=by
 have b:(aR (vg Lb D Bd Bs C Wg bs ls cp).eval JA).run az w=dG (.spawn<|ya Bd Bs Wg (bs+1) ls) w:=by simp only[JA];simp[vg,jV,go_sem,ya]
 have a:(aR (vg Lb D Bd Bs C Wg bs ls cp).eval JA).events az w #[]=#[]:=by simp only[JA];simp[vg,jV,go_sem]
 rw[stepG_spawn xxa O Ã b O];unfold lj;rw[a,seen_none];rfl
end
def lq(z):∀(k:Q) (n:U),T (mP z n k)=k
 |0,_=>rfl|k+1,n=>by simp[mP,lq z k]
def zA(W D cp)(f:c=7\/c=8)(e:r<V (Z W))(d):((kU W D cp c).at d).heap[r]?=W.heap[r]?:=by
 have a:∀(w:Zy) (o:Obj) {r:Q},r<V (Z w)->(aF w o).heap[r]?=w.heap[r]?:=λw o r h=>Xj _ _ _ h;have g:V (aF W<|y' D).heap=V (Z W)+1:=xp _ _;have b:(w1 (aF W<|y' D) cp c).heap[r]?=W.heap[r]?:=by obtain rfl|rfl:=f;simp[w1];rw[(kW _ _ _).block r Á,a _ _ Á,a _ _ À,a _ _ e];simp[w1];rw[(kW _ _ _).block r Á,a _ _ Á,a _ _ À,a _ _ e]
 show(kU W D cp c).heap[r]?=_;unfold kU;rw[(kW _ _ _).block r Á,a _ _ Á,b]
theorem RY(W D cp)(a:c=7\/c=8)(d):V ((kU W D cp c).at d).heap=V (Z W)+4:=by
 have b:∀(w:Zy) (x:Addr) (v:Zv),V (World.setCell w x v).heap=V (Z w):=λw x v=>Â
 show(kU W D cp c).heap.size=_;grind [kU,xp,Sd]
def Sc(W D cp)(i:c=7\/c=8)(d):((kU W D cp c).at d).heap[V (Z W)]?=Y (y' D)/\((kU W D cp c).at d).heap[oA (V<|Z W) c]?=Y (uk cp)/\
  ((kU W D cp c).at d).heap[pm (V<|Z W) c]?=Y (tK<|fI<|some<|oA (V<|Z W) c)/\((kU W D cp c).at d).heap[V (Z W)+3]?=Y (au #[aD .u64 4294967296,zu 0] 286):=by
 show(kU W D cp c).heap[V (Z W)]?=_/\(kU W D cp c).heap[oA (V<|Z W) c]?=_/\(kU W D cp c).heap[pm (V<|Z W) c]?=_/\(kU W D cp c).heap[V (Z W)+3]?=_;have j:∀(w:Zy) (o:Obj) {r:Q},r<V (Z w)->(aF w o).heap[r]?=w.heap[r]?:=λw o r h=>Xj _ _ _ h;have g:∀(w:Zy) (o:Obj) {r:Q},V (Z w)=r->(aF w o).heap[r]?=Y o:=λw o r h=>by grind [xn]
 have k:∀(w:Zy) (x:Addr) (v:Zv) {r:Q},x.block≠r->(World.setCell w x v).heap[r]?=w.heap[r]?:=λw x v r h=>(kW w x v).block r λe=>h e.symm;have st:∀(w:Zy) (r:Q) (v:Zv) (l:Za) (e:Zt),w.heap[r]?=Y (au l e (0,0))->(World.setCell w (K r 0) v).heap[r]?=Y (au (aA l 0 v) e (0,0)):=λw r v l e h=>by unfold World.setCell;grind
 have a:V (aF W<|y' D).heap=V (Z W)+1:=xp _ _;have f:=Sd (aF W<|y' D) cp i;rw[a]at f;have b:∀{r:Q},r<V (Z W)+3->(kU W D cp c).heap[r]?=(w1 (aF W<|y' D) cp c).heap[r]?:=λ{r} h=>by grind [kU]
 refine⟨?_,?_,?_,?_⟩;rw[b À];obtain rfl|rfl:=i<;>simp[w1]<;>rw[k _ _ _ Á,j _ _ Á,j _ _ À,g _ _ O]
 obtain rfl|rfl:=i;grind [oA,w1];grind [oA,w1,xp];obtain rfl|rfl:=i;rw[show pm (V<|Z W) 7=V (Z W)+2 from O,show oA (V<|Z W) 7=V (Z W)+1 from O,b À];simp only[w1,a];exact st _ _ _ _ _ (g _ _ Â);rw[show pm (V<|Z W) 8=V (Z W)+1 from O,show oA (V<|Z W) 8=V (Z W)+2 from O,b À];simp only[w1,a];exact st _ _ _ _ _<|(j _ _ Á).trans<|g _ _ a;unfold kU;exact st _ _ _ _ _<|g _ _ f
section
variable{X:Q->Prop}{gs:bE cR}{v:dN}{sl:dD<|Nat×Q}{t:gA}{k:Q×Q}{z:bE eF}{aw n:eJ}{cs:bA fZ}
def Sx(N D c:Q)(x:Q):Prop:=x=D\/x=N\/x=pm N c
def Xx(X:ZP)(N D ay:Q)(x:Q):Prop:=X x\/x=D\/x=ay\/(N<=x/\x<N+4)
def ox(v:Zy)(x:Q):Obj:=(v.heap[x]?).getD<|au #[] 0
def Χ(i:Wg<B)(g:C<B)(j){e}(h:@iA Wg C (Š X B Wg C i g j) e):Cn X B e/\∀x,(cA e).touch?=Y x->(∀c,Zw Wg c x):=by
 let⟨s,L,F,W,S,q⟩:=h;refine⟨⟨λx d=>⟨(q x d).1,(q x d).2.1,(q x d).2.2.1⟩,λf=>W ?_,λf=>S ?_⟩,λx d c=>⟨λk=>(s x d).1<|aJ k,λf=>dC f<|(q x d).c c⟩⟩;cases e with|mk l a b=>cases f;rfl
 cases e with|mk l a b=>cases f;rfl
def xyd(hx:JL az X k gs v t)(aw:gs[0]?=Y (G ((jU 136).at ⟨#[zq Lb,zq D,Z',Z',Z',Z',Z',Z',Z',Z',Z',Z',Z',Z',Z',Z',Z',Z',Z',Z',Z',Z',Z',Z',Z',Z',Z',Z',Z',Z',Z',Z',Z',Z',Z'],[]⟩ [dE By]) cs))(W:¬X Lb)(F:SL Lb bs ls v)(I:∀x,X x->x<V (Z v))
  (hw:IntKind.i64.wrap (ls-bs)=(cp:U))(s:cp<=1000000000)(B:IntKind.i64.wrap (bs+1)=bs+1):
  ∃N gs' d sl' t' q c x y,(c=7\/c=8)/\fQ az N (gJ gs v sl) t=(gP<|crowd (gs'.push<|born az<|ya (V<|Z v) (pm (V<|Z v) c) (V (Z v)+3) (bs+1) ls) ((kU v D cp c).at d) sl',t'++#[x,y])/\
   gs'[0]?=Y (G ((jU 136).at (vg Lb D (V<|Z v) (pm (V<|Z v) c) (oA (V<|Z v) c) (V (Z v)+3) bs ls cp) [aS ul [],dE K5]) cs)/\V gs'=V gs/\Leavers az t' gs' q/\
   qG X (V (Z v)+4) (λa=>∀C,V (Z v)<=C->Zw (V (Z v)+3) C a) 0 t'/\(x.g=0/\x.act= .go (V gs))/\(y.g=V gs/\y.act= .start):=by
 obtain⟨q,ho,wr,rfl⟩:=hx;have h3:Lb<V (Z v):=AD F.bM
 letI:=Š X (V (Z v)+4) (V (Z v)+3) (V<|Z v) À À λh=>Á
 have S:∀x:Addr,x.block=Lb->iA (V (Z v)+3) (V<|Z v) ⟨ma x,ao,ao⟩:=λx j=>Go.ConcX.Gen.evS_cell x ao ao À À (λy f=>zdo);have n:∀x:Addr,V (Z v)+1<=x.block->x.block<V (Z v)+3->iA (V (Z v)+3) (V<|Z v) ⟨ma x,M,ao⟩:=λx h1 h2=>Go.ConcX.Gen.evS_cell x M ao À À (λy f=>zdo);have o:qG X (V (Z v)+4) (λa=>∀C,V (Z v)<=C->Zw (V (Z v)+3) C a) 0 t:=(wr.toE λa l C hC=>⟨λ⟨b,e,hb⟩=>by
   rw[e]at l;have:b.block<V (Z v):=l;omega,λe=>by
   rw[e]at l;have:C<V (Z v):=l;omega⟩).U À
 have i:=xpp (Stop:=λg w=>∃c d,(c=7\/c=8)/\g=G ((jU 136).at (vg Lb D _ (pm _ c) (oA _ c) _ bs ls cp) _) cs/\w=(kU v D cp c).at d) S n hw s B F
  (λc p d=>⟨c,d,p,O,O⟩) v.drawn
 let⟨N1,gs1,v1,sl1,t1,q1,a1,r1,b1,s1,L1,P1,z1⟩:=xw4 (sl:=sl) (λe hd=>⟨(Χ _ _ _ hd).1,λx j C _=>(Χ _ _ _ hd).2 x j C⟩) i aw ho o;obtain⟨c,d,p,rfl,hv⟩:=s1 v1.drawn;have z:v1=(kU v D cp c).at d:=hv;subst z;obtain⟨L,m,v',E,t2,q2,x,y,r2,es,J,ba,ay,j,f⟩:=xqc (sl:=sl1) O b1 L1 P1 λd=>xs8 _;rw[z1]at J j f;exact⟨N1+L,m,v',E,t2,q2,c,x,y,p,qr r1 r2,es,J,ba,ay,j,f⟩
end
end
section
open Go.RowKit Go.Conc.Lib
open Go.ConcR (stA)
open Go.ConcN (sumTo)
variable[pn:Pn][py:dO]
def MZ{t x y n}(hx:x.act= .go n)(hy:y.act= .start)(i):Deaf (t++#[x,y]) i=Deaf t i:=by
 have a:(t++#[x,y])[V t]?=Y x:=Â
 have b:(t++#[x,y])[V t+1]?=Y y:=Â
 show(t++#[x,y]).deaf i (V (t++#[x,y]))=t.deaf i (V t);rw[show(t++#[x,y]).size=V t+1+1 by simp,deaf_succ b,deaf_succ a,deaf_old<|zd _];simp[deafStep,hx,hy]
section
variable{X:Q->Prop}{gs:bE cR}{v:dN}{t:gA}{es:bE eF}{rm nx:eJ}{z:bA fZ}
def xs3{n q x y}(F:c=7\/c=8)(w:0<V gs)(B:V n=V gs)(E:Leavers az t n q)(p:qG X (V (Z v)+4) (λa=>∀C,V (Z v)<=C->Zw (V (Z v)+3) C a) 0 t)(hx:x.g=0/\x.act= .go (V gs))(hy:y.g=V gs/\y.act= .start)
  (s:∀x,X x->x<V (Z v))(h1:v.heap[D]?=Y (au #[rm,fu<|some ay,nx] py.ety))(h2:v.heap[ay]?=Y (.map es clock))(W:¬X D)(ih:¬X ay)(N:∀e∈eV es,lD e)
  (L:ls<9223372036854775807)(cs:-9223372036854775808<=bs+1)(hn:bs+1+(cp:U)=ls+1):
  ∃k,JC az 286 (V (Z v)+3) (oA (V<|Z v) c) (Sx (V<|Z v) D c) D ay (V gs) (mP es (bs+1) cp) (ox<|(kU v D cp c).at d) (Xx X (V<|Z v) D ay) (V t) 0 0 k (n.push<|born az<|ya (V<|Z v) (pm (V<|Z v) c) (V (Z v)+3) (bs+1) ls) ((kU v D cp c).at d)<|t++#[x,y]:=by
 let⟨n1,n2,n3,n4⟩:=Sc v D cp F d;have S:=(zA v D cp F ((za.1 h1).1) d).trans h1;have oM:=(zA v D cp F ((za.1 h2).1) d).trans h2;have hS:pm (V<|Z v) c=V (Z v)+1\/pm (V<|Z v) c=V (Z v)+2:=by unfold pm;split<;>simp
 have hC:oA (V<|Z v) c=V (Z v)+1\/oA (V<|Z v) c=V (Z v)+2:=by unfold oA;split<;>simp
 have ox_of:∀{r:Q} {o:Obj},((kU v D cp c).at d).heap[r]?=Y o->ox ((kU v D cp c).at d) r=o:=λ{r o} h=>by unfold ox;grind
 have kc:Kc (Sx (V<|Z v) D c) ay (ox<|(kU v D cp c).at d)<|(kU v D cp c).at d:=by
  intro r z;have:∃o,((kU v D cp c).at d).heap[r]?=Y o:=by obtain (rfl|rfl|rfl)|rfl:=z;simp_all;simp_all;simp_all;simp_all
  let⟨o,ho⟩:=this;rw[ho,ox_of ho]
 have G:=zy5 (Wg:=V (Z v)+3) (⟨aJ O,ac<|aJ O,ac<|ac O,⟨rm,nx,ox_of S⟩,ox_of n1,ox_of n3,⟨clock,ox_of oM⟩,N⟩) L cs cp hn kc;have tp:TP (Xx X (V<|Z v) D ay) (wW (Sx (V<|Z v) D c) ay) (V (Z v)+3) (oA (V<|Z v) c) (V gs) (stA<|V (Z v)+3) (V t) (V ((kU v D cp c).at d).heap)<|t++#[x,y]:=by
  rw[RY v D cp F d];have nX:∀r,Sx (V<|Z v) D c r\/r=ay->¬X r:=λr z g'=>by have:=s r g';obtain (rfl|rfl|rfl)|rfl:=z;grind;omega;omega;grind
  refine TP.Rg (TP.yZ (⟨p.gB,p.ln,p.mD,p.deaf,p.hU,λi a hd=>p.Gi i a hd _ À⟩) (λ_ h=>aJ h) (λh=>Á) (λl J=>?_) λl J=>?_) À p.deaf (E.above _ À) hx hy;obtain⟨a,rfl,hd⟩|⟨r,rfl,z⟩:=J;exact⟨λ⟨b,e,v'⟩=>by cases e;simp_all,λ⟨r,e,_⟩=>Æ⟩;exact⟨λ⟨b,e,v'⟩=>Æ,λ⟨r',e,bb⟩=>by cases e;simp_all⟩;obtain⟨a,rfl,hd⟩|⟨r,rfl,z⟩:=J<;>rfl
 have f:∀st m,9<=st->Ch az 286 (V (Z v)+3) (oA (V<|Z v) c) (Sx (V<|Z v) D c) D ay (ox<|(kU v D cp c).at d) 0 st m (mP es (bs+1) cp) (born az<|ya (V<|Z v) (pm (V<|Z v) c) (V (Z v)+3) (bs+1) ls) ((kU v D cp c).at d)->
   jC az 286 (V (Z v)+3) (oA (V<|Z v) c) (Sx (V<|Z v) D c) D ay (V gs) (mP es (bs+1) cp) (ox<|(kU v D cp c).at d) (Xx X (V<|Z v) D ay) (V t) 0 0 0 st m (mP es (bs+1) cp) (born az<|ya (V<|Z v) (pm (V<|Z v) c) (V (Z v)+3) (bs+1) ls) q (n.push<|born az<|ya (V<|Z v) (pm (V<|Z v) c) (V (Z v)+3) (bs+1) ls) ((kU v D cp c).at d) (t++#[x,y]):=by
  intro st m bc I;refine⟨w,by simp[B],by rw[<-B];simp,λi g hi ba wr=>?_,λj hj=>?_,I,kc,⟨_,S,O⟩,?_,Zz _,Â,?_,λ_ _=>À,λh=>dC O h.1,tp,?_,?_,λh=>À,Â⟩;rw[MZ hx.2 hy.2];apply E.old i g hi;rw[jb,aL À]at wr;exact wr;rw[MZ hx.2 hy.2];exact E.above j À;rw[n2,lq es cp<|bs+1];simp[show¬st<=8 by omega];show _=_;rw[n4];have h3:oV 0 st=4294967296:=by unfold oV;rw[aT<|aJ O,aL À];rfl
  have w2:nY 0 st=0:=by unfold nY;rw[aL À]
  rw[h3,w2];rfl;rw[MZ hx.2 hy.2,p.deaf];rfl;rw[MZ hx.2 hy.2];exact E.above _ À
 cases hv:mP es (bs+1) cp with
 |nil=>rw[hv]at G f;let⟨m,hm⟩:=G;exact⟨_,_,_,_,_,_,_,f 9 m À<|.cls hm,O⟩
 |cons a vs=>rw[hv]at G f;let⟨m,hm⟩:=G;exact⟨_,_,_,_,_,_,_,f _ m À<|.send hm,O⟩
end
end
section
variable[pn:Pn][py:dO]
theorem zzk(s:D<N)(t:ay<N)(v:Pn.N<=N):Zs (Xx X N D ay) (N+3) (oA N c) (Sx N D c) D ay:=by
 have w:pm N c=N+1\/pm N c=N+2:=by unfold pm;split<;>simp
 have q:oA N c=N+1\/oA N c=N+2:=by unfold oA;split<;>simp
 have m:oA N c≠pm N c:=by unfold pm oA;split<;>omega
 have p:∀x,Sx N D c x\/x=ay->Xx X N D ay x:=λx f=>by obtain (rfl|rfl|rfl)|rfl:=f;exact ac<|aJ O;exact ac<|ac<|ac ⟨À,À⟩;exact ac<|ac<|ac ⟨À,À⟩;exact ac<|ac<|aJ O
 have j:Xx X N D ay<|N+3:=ac (ac<|ac ⟨À,À⟩);have i:Xx X N D ay<|oA N c:=ac (ac<|ac ⟨À,À⟩);have k:∀x,Sx N D c x\/x=ay->x≠oA N c:=λx f=>by obtain (rfl|rfl|rfl)|rfl:=f;omega;omega;omega;omega
 have o:∀x,Sx N D c x\/x=ay->x≠N+3:=λx f=>by obtain (rfl|rfl|rfl)|rfl:=f<;>omega
 refine⟨⟨λl d=>?_,j,λl d n=>?_,λd=>?_,i⟩,i,j,aJ O,k,À,o,À,À⟩;obtain⟨a,rfl,g⟩|⟨r,rfl,h⟩:=d;exact aJ ⟨a,O,p _ g⟩;grind;obtain⟨b,e,y⟩:=n;obtain⟨a,rfl,g⟩|⟨r,rfl,h⟩:=d;grind;grind;obtain⟨a,e,g⟩|⟨r,e,h⟩:=d;cases e;grind
def JE:Obj:= .chan 0 #[] ao 0 0 ao
def EQ(c:Q):Q->Obj
 |0=>au #[] 89|1=>if c=7 then JE else au #[] 278
 |2=>if c=7 then au #[] 278 else JE
 |_=>au #[] 286
def wF(w:Zy)(D ay c:Q):Zy:={w with heap:=(((((aA (aA w.heap D<|au #[] py.ety) ay JE).push<|EQ c 0).push<|EQ c 1).push<|EQ c 2).push<|EQ c 3)}
theorem lY(w D ay c):V (wF w D ay c).heap=V (Z w)+4:=by simp[wF]
def po(w)(d:r<V (Z w))(a:r≠D)(b:r≠ay):(wF w D ay c).heap[r]?=w.heap[r]?:=zi
theorem Ε(w)(b:D<V (Z w))(a:D≠ay):(wF w D ay c).heap[D]?=Y (au #[] py.ety):=zi
theorem Ζ(w)(a:ay<V (Z w)):(wF w D ay c).heap[ay]?=Y JE:=zi
theorem EP(w)(a:i<4):(wF w D ay c).heap[V (Z w)+i]?=Y (EQ c i):=zi
theorem Φ:jW P<|some JE:=⟨λ_ _ h=>È,λ_ h=>È,λ_ h=>È⟩
theorem xjh(c i):jW P<|some<|EQ c i:=by unfold EQ;grind [Φ,jW.G]
section
variable{P:cI}{X:Q->Prop}{w v:dN}{S:bE eF}{L:bE eJ}
theorem xu8(h:Sm P X w v)(j:c=7\/c=8)(m:v.heap[D]?=Y (au L py.ety))(l:v.heap[ay]?=Y (.map S clock))(z:¬X D)(B:¬X ay)(W:Pn.V D=v.heap[D]?)(I:Pn.V ay=v.heap[ay]?):
  Sm P (Xx X (V<|Z v) D ay) (re (wF w D ay c) v.tape d) ((kU v D cp c).at d):=by
 have p:=(za.1 m).1;have q:=(za.1 l).1;have n:D≠ay:=by rintro rfl;rw[m]at l;cases l
 have b:=h.aD;let⟨n1,n2,n3,n4⟩:=Sc v D cp j d;refine⟨?_,λr a=>?_,λr a=>?_,λr=>?_,?_,O,?_,?_,⟨?_,λr a C=>?_⟩⟩
 case refine_8=>show _<=V (wF w D ay c).heap;have:=h.rl.1;rw[lY];omega
 case refine_9=>have G:=h.rl.1;show _\/_=(wF w D ay c).heap[r]?;rw[zA v D cp j À d];by_cases f:r=D;grind;by_cases g:r=ay;grind;rw[po w À f g];obtain a|a|a|⟨t,x⟩:=a;exact h.rl.2 r a C;omega;omega;omega
 rw[RY v D cp j d];show _=V (wF w D ay c).heap;rw[lY,b];show _=(wF w D ay c).heap[r]?;by_cases k:r<V (Z v);rw[zA v D cp j k d,po w À (λe=>a<|ac<|aJ e) λe=>a<|ac<|ac<|aJ e];exact h.out r λE=>a<|aJ E;have y:V (Z v)+4<=r:=by apply jg;intro F;exact a<|ac<|ac<|ac ⟨À,À⟩
 grind [RY,lY];show∃o o',(wF w D ay c).heap[r]?=Y o/\_;by_cases f:r=D;subst f;exact⟨_,_,Ε w À n,(zA v r cp j p d).trans m,ac ⟨_,_,O,O⟩⟩;by_cases g:r=ay;subst g;exact⟨_,_,Ζ w À,(zA v D cp j q d).trans l,aJ ⟨O,O⟩⟩;obtain a|a|a|⟨t,x⟩:=a;have k:=h.vw r a;rw[po w k f g,zA v D cp j À d];exact h.jH r a;omega;omega;have s:r=V (Z v)+0\/r=V (Z v)+1\/r=V (Z v)+2\/r=V (Z v)+3:=À
 obtain rfl|rfl|rfl|rfl:=s;exact⟨_,_,zdf,n1,ac ⟨_,_,O,O⟩⟩;obtain rfl|rfl:=j;exact⟨_,_,zdf,n2,aJ ⟨O,O⟩⟩;exact⟨_,_,zdf,n3,ac ⟨_,_,O,O⟩⟩;obtain rfl|rfl:=j;exact⟨_,_,zdf,n3,ac ⟨_,_,O,O⟩⟩;exact⟨_,_,zdf,n2,aJ ⟨O,O⟩⟩;exact⟨_,_,zdf,n4,ac ⟨_,_,O,O⟩⟩;show jW P (wF w D ay c).heap[r]?;by_cases k:r<V (Z w);by_cases g:r=ay;grind [Ζ,Φ];by_cases f:r=D;grind [Ε,jW.G];rw[po w k f g];exact h.rA r;by_cases y:r<V (Z w)+4;obtain⟨i,s,rfl⟩:∃i,i<4/\r=V (Z w)+i:=⟨r-V (Z w),À,À⟩;grind [EP,xjh];grind [lY,jW.lz];obtain rfl|rfl:=j<;>rfl
 have e:((kU v D cp c).at d).os=v.os:=by obtain rfl|rfl:=j<;>rfl
 rw[e];exact h.os;have e:((kU v D cp c).at d).output=v.output:=by obtain rfl|rfl:=j<;>rfl
 rw[e];exact h.cX
end
end
section
open Go.ConcN (sumTo WgLive PayAt)
open Go.ConcR (WgAt stA Payload)
variable[pn:Pn]
section
variable[dO]{P:cI}{ty:oW}{S:Q->Prop}{vals:bA eJ}{X:Q->Prop}
variable{st:Q}{left:bA eJ}{b g0:cR}{q:Q->Q}{gs:bE cR}{v:dN}{t:gA}
def jci(B:Zs X Wg C S D ay)(h:jC P ty Wg C S D ay c vals o X p rg r d st m left b q gs v t)(wr:gs[0]?=Y g0){g'}(J:S a.block){f}(hd:f=woken P g0 g' v\/f=id):
  jC P ty Wg C S D ay c vals o X p rg r d st m left b q (aA (gs.map f) 0 g') v (t++aZ 0 g0.frame.fn g0.frame.place #[⟨ma a,ao,ao⟩]):=by
 have s:=Jk h.iE;have G:∀{n d} {x:Zg},QuitsD P n d x->f x=x:=λl=>by obtain rfl|rfl:=hd;exact jJ l;rfl
 have cs:∀{x:Zg},x.status=bK->f x=x:=λl=>by obtain rfl|rfl:=hd;exact woken_run l;rfl
 refine⟨h.iE,ã,?_,λi g L h1 E=>?_,λj h2=>?_,h.ch,h.kc,h.vS,h.lf,h.uH,h.kz,h.wg,h.rJ,h.rI,?_,?_,?_,λhx=>?_,ð⟩;rw[zl<|Ne.symm s,jt,h.hb];obtain e|e:=h.ch.kr;grind;cases h.ch with
 |out hq2=>grind
 |_=>
  rename_i hG;first
   |(have:=Zi (λ_ _ x=>x.1) (λ_ x=>x) hG;grind)
   |(have:=Zi (λ_ _ x=>x.1) V7 hG;grind)
 rw[zl À,jt]at E;obtain⟨y,ho,rfl⟩:=zv.1 E;have l:=h.pJ i y L h1 ho;rw[G l,dJ t (g':=0) À _ mN];exact l;rw[dJ t (g':=0) À _ mN];exact h.eN j h2
 ·have I:wW S ay _:=aJ ⟨a,O,aJ J⟩;refine h.tp.gt B.fh (aJ O) mN (λN k x w W=>?_) (λN k x w=>?_) (λN k e=>?_) EH;all_goals obtain⟨v',F,rfl⟩:=zy k
  all_goals (rw[Array.mem_singleton]at F;subst F)
  simp[ofEvent_cell0,cO,xj]at w;subst w;exact aJ ⟨O,ac I,λ_=>aJ O,λ⟨es,e,_⟩ _=>O⟩;simp[ofEvent_cell0,cO,xj]at w;subst w;exact(za.1<|h.kc _<|aJ J).1;cases e
 rw[mn,deafBehind_still λe F=>Á];exact h.nG;rw[dJ t (g':=0) (Ne.symm s) _ mN];exact h.kv;let⟨rr,hp,hr⟩:=h.rel hx;refine⟨rr,hp,hr.gt λi L E _=>?_⟩;let⟨z,hz,hzg⟩:=zv.1 E;grind [mN]
end
end
section
open Go.ConcN (sumTo)
open Go.ConcR (Payload)
variable[pn:Pn]
section
variable{P:cI}{X:Q->Prop}{z:Q×Q->bE cR->dN->gA->Prop}
def Κ(c:DU P X z){g g' es}(b:g.status=bK)(q:g.dying=R)
  (h:∀k W v t,z k W v t->bW P M g v=ij g' v es)
  (l:∀k W v t,z k W v t->W[0]?=Y g->z k (aA (W.map<|woken P g g' v) 0 g') v (t++aZ 0 g.frame.fn g.frame.place es))
  {k W v sl t}(s:z k W v t)(n:W[0]?=Y g)(x:Sm P X (re w v.tape v.drawn) v):
  ∃N L F S t' k',fQ P N (gJ W v sl) t=(gP<|crowd L F S,t')/\z k' L F t'/\L[0]?=Y g'/\Sm P X (re w F.tape F.drawn) F:=by
 induction k using DV.induction generalizing W v sl t with
 |_ k ih=>
  have p:∀g∈W,awake g:=by intro m f;obtain⟨i,o,rfl⟩:=Xd.1 f;obtain rfl|a:=jh i;grind [oI];exact c.kr k W v t s i _ a<|xy o
  let⟨i,m,d,S,o,f,hst⟩:=crowd_pick (P:=P) (w:=v) (sl:=sl) p ⟨0,g,n,b⟩;have e:=c.gY k W v t d s;have j:Sm P X (re w v.tape d)<|v.at d:=x.re _ d;obtain rfl|a:=jh i;obtain rfl:m=g:=Á
  have r:=qD (sl:=S) o (show bW P _ m _=_ from h _ _ _ _ e);have y:0<V W:=(za.1 n).1;exact⟨1,_,v.at d,S,_,k,ë,l _ _ _ _ e n,Á,j⟩;let⟨L,F,sl2,ops,k',r1,r2,r3,r4,r5⟩:=c.dR k W _ t i m g S e a o f n b q;let⟨N,gs2,v2,sl3,t2,k2,a1,a2⟩:=ih k' r2 (sl:=sl2) r4 r3<|r5 w j;exact⟨1+N,gs2,v2,sl3,t2,k2,qr (by simp[fQ,hst,r1]) a1,a2⟩
end
section
variable[dO]{P:cI}{L:oW}{S:Q->Prop}{F:bA eJ}{X:Q->Prop}{g g':cR}{w:dN}
def RC(P:Zp)(L:Zt)(Wg C:Q)(S:ZP)(D ay c:Q)(F:Ze)(o:Q->Obj)(X:ZP)(p rg r:Q)(g:Zg)(w:Zy)(G:Zg->Zy->Q->Prop):Prop:=
 ∀k j v f t,JC P L Wg C S D ay c F o X p rg r k j v t->j[0]?=Y g->Sm P X (re w v.tape v.drawn) v->
  ∃N z q s n h g' w' l,fQ P N (gJ j v f) t=(gP<|crowd z q s,n)/\JC P L Wg C S D ay c F o X p rg l h z q n/\z[0]?=Y g'/\Sm P X (re w' q.tape q.drawn) q/\G g' w' l
theorem RC.refl(h:zzG g w r):RC P L Wg C S D ay c F o X p rg r g w zzG:=λk a v f t d b e=>⟨0,a,v,f,t,k,g,w,r,O,d,b,e,h⟩
theorem RC.aE(h:RC P L Wg C S D ay c F o X p rg r g w zzG)(k:∀g' w' n,zzG g' w' n->RC P L Wg C S D ay c F o X p rg n g' w' G'):RC P L Wg C S D ay c F o X p rg r g w G':=λf a v i t d b e=>by let⟨N,z,l,s,W,k1,g1,w1,r1,a1,a2,a3,a4,a5⟩:=h f a v i t d b e;let⟨N2,q,v2,j,t2,k2,g2,w2,r2,b1,b2⟩:=k _ _ _ a5 k1 z l s W a2 a3 a4;exact⟨N+N2,q,v2,j,t2,k2,g2,w2,r2,qr a1 b1,b2⟩
theorem RC.fB(B:Zs X Wg C S D ay)(a:g.status=bK)(i:g.dying=R)(x:∀v,bW P M g v=ij g' v)(s:RC P L Wg C S D ay c F o X p rg r g' w zzG):RC P L Wg C S D ay c F o X p rg r g w zzG:=λk j v sl t l f n=>by let⟨N,z,v1,W,t1,k1,a1,a2,a3,a4⟩:=Κ (sl:=sl) (Y0 B) a i (λ_ _ v _ _=>x v) (λk j v t⟨d,st,m,left,b,q,h,e⟩ f=>⟨d,st,m,left,b,q,Œ B h f (λ_ _=>O) Â (zd _)<|aJ O,e⟩) l f n;let⟨N2,gs2,v2,sl2,t2,k2,g2,w2,r2,b1,b2⟩:=s k1 z v1 W t1 a2 a3 a4;exact⟨N+N2,gs2,v2,sl2,t2,k2,g2,w2,r2,qr a1 b1,b2⟩
def RC.RT(B:Zs X Wg C S D ay)(f:g.status=bK)(j:g.dying=R)(x:S a.block)(z:∀v,Kc S ay o v->bW P M g v=ij g' v #[⟨ma a,ao,ao⟩])(y:RC P L Wg C S D ay c F o X p rg r g' w zzG):RC P L Wg C S D ay c F o X p rg r g w zzG:=λk l v sl t n i s=>by let⟨N,W,v1,sl1,t1,k1,a1,a2,a3,a4⟩:=Κ (sl:=sl) (Y0 B) f j (λ_ _ v _⟨d,st,m,left,b,q,h,e⟩=>z v h.kc) (λk l v t⟨d,st,m,left,b,q,h,e⟩ i=>⟨d,st,m,left,b,q,jci B h i x<|aJ O,e⟩) n i s;let⟨N2,gs2,v2,sl2,t2,k2,g2,w2,r2,b1,b2⟩:=y k1 W v1 sl1 t1 a2 a3 a4;exact⟨N+N2,gs2,v2,sl2,t2,k2,g2,w2,r2,qr a1 b1,b2⟩
end
end
section
open Go.ConcR (Payload)
variable[pn:Pn]
section
variable{P:cI}{z:eJ}{b:fZ}{a:mh}{q:bA fZ}{t e:oW}{x:Operand}{j:ChanDir}
def xry(ho:ops[i]?=Y op)(hw:bP op (fN ops a.tmps)=M)(hk:b.kind≠ eK)(hop:op.op= .recv t x M)(hx:a.eval x=fI (Y C))(c:P.underlying t=Y (.chan j e))(f:∀v,(zeroValue e).run P v=dG z v):
  Bz P C z (G (b.at a (aS ops (i::rest)::k)) q) (G (b.at a (aS ops (i::rest)::k)) q):=by
 refine⟨O,O,λv=>?_⟩;have d:(aR a.eval op).run P v=dG (.comm #[rcase C z] M<|.recv M) v:=by unfold aR;simp only[hop,hx];simp[xo c,f,rcase]
 have g:(aR a.eval op).events P v #[]=#[]:=by unfold aR;simp only[hop,hx];simp[xo c,Va]
 rw[stepG_comm ho hw hk d];grind [lj,seen_none]
def Bz.ER{fr}(h:Bz P C z (G fr q)<|G fr q):Bz P C z (G fr q) {Conc.parked (G fr q) #[rcase C z] (.recv M)with status:=bK}:=
 ⟨O,O,λv=>h.st v⟩
end
section
variable[dO]{P:cI}{ty:oW}{S:Q->Prop}{vals:bA eJ}{X:Q->Prop}{w:dN}{z:eJ}{fr:fZ}{cs:bA fZ}
def RC.yT(B:Zs X Wg C S D ay)(h:Bz P C z (G fr cs)<|G fr cs)(F:RC P ty Wg C S D ay c vals o X p rg (Ar vals r) (mU (G fr cs)<|Dg vals z r) w G'):RC P ty Wg C S D ay c vals o X p rg r (G fr cs) w G':=λk s v W t y x E=>by obtain⟨N,a,hd,d,L,h1,g,i,j,l⟩:=(xpx B h.ER k).1 s v W t _ h y x E;obtain⟨f,b,h2,e,hx,I,q,ho,J,m,n⟩:=F h1 a hd d L i j l;exact⟨N+f,b,h2,e,hx,I,q,ho,J,qr g m,n⟩
end
end
section
open Go.ConcN (sumTo)
open Go.ConcR (Payload)
variable[pn:Pn]
section
variable{P:cI}{X:Q->Prop}{S:Q×Q->bE cR->dN->gA->Prop}
def Se(c:DU P X S){g g'}(b:g.status=bK)(h:g'.status=bK)(r:g.dying=R)
  (j:∀v,Sm P X (re w v.tape v.drawn) v->∃W es,bW P M g v=ij g' W es/\Sm P X (re w' W.tape W.drawn) W/\(∀x,X x->W.heap[x]?=v.heap[x]?)/\(∀e∈es,vx X (V<|Z W) e)/\V (Z v)<=V (Z W))
  {k F v sl t}(y:S k F v t)(p:F[0]?=Y g)(z:Sm P X (re w v.tape v.drawn) v):
  ∃N gs' W L t' k',fQ P N (gJ F v sl) t=(gP<|crowd gs' W L,t')/\S k' gs' W t'/\gs'[0]?=Y g'/\Sm P X (re w' W.tape W.drawn) W:=by
 induction k using DV.induction generalizing F v sl t with
 |_ k ih=>
  have q:∀g∈F,awake g:=by intro l f;obtain⟨i,o,rfl⟩:=Xd.1 f;obtain rfl|a:=jh i;grind [oI];exact c.kr k F v t y i _ a<|xy o
  let⟨i,l,d,L,o,f,hst⟩:=crowd_pick (P:=P) (w:=v) (sl:=sl) q ⟨0,g,p,b⟩;have m:=c.gY k F v t d y;have n:Sm P X (re w v.tape d)<|v.at d:=z.re _ d;obtain rfl|a:=jh i;obtain rfl:l=g:=Á
  let⟨W,es,hs,hS',hk,hes,hsz⟩:=j (v.at d) n;have s:=qD (sl:=L) o (show bW P _ l _=_ from hs);exact⟨1,_,W,L,_,k,ë,c.cN k F _ t l g' W es m p hs b h hk hes hsz,Á,hS'⟩;let⟨gs',W,sl2,ops,k',r1,r2,r3,r4,r5⟩:=c.dR k F _ t i l g L m a o f p b r;let⟨N,gs2,v2,sl3,t2,k2,a1,a2⟩:=ih k' r2 (sl:=sl2) r4 r3<|r5 w n;exact⟨1+N,gs2,v2,sl3,t2,k2,qr ë a1,a2⟩
end
section
variable[dO]{P:cI}{F:bE kL}{ty:oW}{S:Q->Prop}{vals:bA eJ}{X:Q->Prop}{w w':dN}{b:fZ}{a:mh}{cs:bA fZ}
def RC.eO(B:Zs X Wg C S D ay)(hd:Yk P F)(ho:ops[i]?=Y op)(hw:bP op (fN ops a.tmps)=M)(hk:b.kind≠ eK)(n:vy P op.op=M)
  (q:∀t d,(aR a.eval op).run (wf P F) (re w t d)=dG (gp val) (re w' t d))(L:RC P ty Wg C S D ay c vals o X p rg r (G (b.at (a.put op.dst val) (aS ops rest::k)) cs) w' G'):
  RC P ty Wg C S D ay c vals o X p rg r (G (b.at a (aS ops (i::rest)::k)) cs) w G':=λW h3 v sl t I hx m=>by
 obtain⟨N,l,wr,s,es,ba,x,y,z,E⟩:=Se (w':=w') (sl:=sl) (Y0 B) (g':=G _ cs) O O O (λv m=>by let⟨v',new,hcr⟩:=(Fh (hd.Cq X) a.eval op n).nh _ v #[] m za2 (λf x w1 h=>Á);let⟨h1,h2⟩:=hcr.pT;rw[q]at h1;have j:=hcr.sm;rw[q]at j;have g:Sm P X (re w' v.tape v.drawn) v':=j;refine⟨v',lj P b.fn a op v,stepG_value ho hw hk h1,?_,hcr.iQ,λe J=>?_,hcr.io⟩;have ih:v'.tape=v.tape:=g.nQ;have bb:v'.drawn=v.drawn:=g.gY;grind;have:=iX J;rw[h2]at this;exact hcr.tz e this) I hx m;let⟨N2,gs2,v2,sl2,t2,k2,g2,w2,r2,b1,b2⟩:=L ba l wr s es y z E;exact zcz
theorem RC.lz(B:Zs X Wg C S D ay)(hd:Yk P F)(ho:ops[i]?=Y op)(hw:bP op (fN ops a.tmps)=M)(hk:b.kind≠ eK)(n:vy P op.op=M)
  (q:∀t d,(aR a.eval op).run (wf P F) (re w t d)=dG .skip (re w' t d))(L:RC P ty Wg C S D ay c vals o X p rg r (G (b.at (a.put op.dst Z') (aS ops rest::k)) cs) w' G'):
  RC P ty Wg C S D ay c vals o X p rg r (G (b.at a (aS ops (i::rest)::k)) cs) w G':=λW h3 v sl t I hx m=>by
 obtain⟨N,l,wr,s,es,ba,x,y,z,E⟩:=Se (w':=w') (sl:=sl) (Y0 B) (g':=G _ cs) O O O (λv m=>by let⟨v',new,hcr⟩:=(Fh (hd.Cq X) a.eval op n).nh _ v #[] m za2 (λf x w1 h=>Á);let⟨h1,h2⟩:=hcr.pT;rw[q]at h1;have j:=hcr.sm;rw[q]at j;have g:Sm P X (re w' v.tape v.drawn) v':=j;refine⟨v',lj P b.fn a op v,stepG_none ho hw hk h1,?_,hcr.iQ,λe J=>?_,hcr.io⟩;have ih:v'.tape=v.tape:=g.nQ;have bb:v'.drawn=v.drawn:=g.gY;grind;have:=iX J;rw[h2]at this;exact hcr.tz e this) I hx m;let⟨N2,gs2,v2,sl2,t2,k2,g2,w2,r2,b1,b2⟩:=L ba l wr s es y z E;exact zcz
end
end
section
open Go.ConcR (Payload)
variable[pn:Pn]
section
variable[dO]{P:cI}{F:bE kL}{dm:fZ}{ty:oW}{S:Q->Prop}{vals:bA eJ}{X:Q->Prop}{w:dN}
def RC.tU(B:Zs X Wg C S D ay)(z:Yk P F)(i:oi P dm){End:Zg->Zy->Prop}(m:∀g w t d,End g (A.re w t d)↔End g w)(e:∀g w,End g w->¬xJ P g)
  {fr cs}(j:Jy P fr\/∃f a,Vi P F f/\Mc P f/\fr=bI (wf P F) f a dH)(h:∀x∈cs,ni P x)(hk:fr.kind=dH)(b:∀t d,∃W L w',Steps (wf P F) (lone fr [dm]<|A.re w t d) (lone W L w')/\End (Xh W L) w'):
  RC P ty Wg C S D ay c vals o X p rg r (Xh fr cs) w (λg2 w' r'=>r'=r/\∃g' l,End g' w'/\g'.callers=l++[dm]/\g2={g' with callers:=l++cs}):=λk y v sl t q n s=>by
 let⟨N,gs',v',sl',t',k',g',w',g2,r1,r2,r3,r4,r5⟩:=A.tU (sl:=sl) z i (Y0 B) m e j hk b h q n s;let⟨l,a1,a2,_⟩:=r5.yk;exact⟨N,gs',v',sl',t',k',g2,w',r,r1,r2,r3,r5.sm,O,g',l,r4,a1,a2⟩
def RC.tN(B:Zs X Wg C S D ay)(W:Yk P F)(s:oi P dm){f args cs}{aw:(Q->Question->Q)->Q->kH->Zy->Prop}(h1:Vi P F f)(q:∀x∈cs,ni P x)(E:∀t d w',¬aw t d jQ w')
  (h:∀t d,aK (wf P F) f args (A.re w t d)<|aw t d):
  RC P ty Wg C S D ay c vals o X p rg r (Xh (bI P f args dH) cs) w (λg' w' r'=>r'=r/\∃e fr,(∃t d t1 d1,aw t d e<|A.re w' t1 d1)/\g'=Xh fr cs/\fr.fn=f/\DW P F fr w' e):=by
 have G:bI (wf P F) f args dH=bI P f args dH:=GC h1.1 args _;have z:Jy P (bI P f args dH)\/∃f' a,Vi P F f'/\Mc P f'/\bI P f args dH=bI (wf P F) f' a dH:=by by_cases J:Mc P f;grind;left;rw[<-G];exact OG W.oN h1 J args ⟨Â,Â⟩
 refine(RC.tU B W s
  (End:=λg' w'=>∃e fr t d t1 d1,aw t d e (A.re w' t1 d1)/\e≠ jQ/\g'=Xh fr [dm]/\fr.fn=f/\fr.leaving (wf P F) (A.re w' t1 d1) e) (λg' w' t d=>Iff.rfl) ?_ z q O ?_).aE ?_
 rintro g' w'⟨e,fr,t,d,t1,d1,_,g,rfl,_,k⟩ ⟨_,hd⟩;cases e with
 |outgrown=>grind
 |returned v=>
  let⟨a,b,_⟩:=k;obtain⟨i,_⟩|⟨_,i,_⟩:=hd;have j:fr.mode= .run:=i;grind;have j:fr.defers=[_]:=i;grind
 |panicked c=>let⟨a,b,_⟩:=k;obtain⟨i,_⟩|⟨_,i,_⟩:=hd;have j:fr.mode= .run:=i;grind;have j:fr.defers=[_]:=i;grind
 intro t d;let⟨e,w',fr,n,hc,y,k⟩:=h t d [dm];rw[G]at hc;have g:e≠ jQ:=by rintro rfl;exact E _ _ _ n
 refine⟨fr,[dm],w',?_,e,fr,t,d,w'.tape,w'.drawn,n,g,O,y,k⟩;cases e with
 |outgrown=>grind|returned v=>exact hc
 |panicked c=>exact hc
 rintro L w' r'⟨rfl,g',l,⟨e,fr,t,d,t1,d1,n,g,rfl,y,k⟩,m,rfl⟩;have:l=[]:=by have I:[dm]=l++[dm]:=m;have:=gv T I;simp only[zx,Zr]at this;exact jv À
 subst this;exact .refl ⟨O,e,fr,⟨t,d,t1,d1,n⟩,O,y,g,t1,d1,k⟩
end
section
variable[dO]{P:cI}{F:bE kL}{ty:oW}{S:Q->Prop}{vals:bA eJ}{X:Q->Prop}{w:dN}{fr c0:fZ}{cs:bA fZ}
def RC.zU(B:Zs X Wg C S D ay)(hp:Vi P F fr.fn)(h:DW P F fr w<|ai val)(hn:RC P ty Wg C S D ay c vals o X p rg r (Xh (c0.finish val) cs) w G'):RC P ty Wg C S D ay c vals o X p rg r (Xh fr (c0::cs)) w G':=λk0 gs v sl t hd W i=>by
 obtain⟨_,t0,d0,G,h1,I,fn,J,h2⟩:=h;have j:P.funcs[fr.fn]?=Y fn:=by rw[<-hp.1];exact J
 obtain⟨N,k,v1,x,t1,k1,L,hx,ho,wr⟩:=Se (w':=w) (sl:=sl) (Y0 B) (g:=Xh fr (c0::cs)) (g':=Xh (c0.finish val) cs) O O O (λv i=>by have q:Sm P X w w:=i.jL.re _ _;have n:=UV q h2 v.tape v.drawn;obtain⟨f,s,a⟩:=(KJ (P:=P) (F:=F) (X:=X) fn fr.tmps).nh (re w v.tape v.drawn) v #[] i (by rw[n];trivial);obtain⟨z,v'⟩:=a.pT;rw[n]at z;have d:=a.sm;rw[n]at d;have b:Sm P X (re w v.tape v.drawn) f:=d;refine⟨f,seen P fr.fn s,?_,?_,a.iQ,λe he=>a.tz e<|mem_seen he,a.io⟩;have m:(eR fn fr.tmps).run P v=dG val f:=z;simp only[bW,Xh,dT,gi,G,h1,I,j,ze,m,v'];rfl;have e1:f.tape=v.tape:=b.nQ;have e2:f.drawn=v.drawn:=b.gY;grind) hd W i;obtain⟨E,l,v2,y,t2,k2,es,w2,r2,ba,h3⟩:=hn k1 k v1 x t1 hx ho wr;exact⟨N+E,l,v2,y,t2,k2,es,w2,r2,qr L ba,h3⟩
theorem RC.iM(B:Zs X Wg C S D ay){a}(h:DW P F fr w<|iL a)(f:∃z,P.funcs[fr.fn]?=Y z)(g:RC P ty Wg C S D ay c vals o X p rg r (Xh (c0.raise a) cs) w G'):RC P ty Wg C S D ay c vals o X p rg r (Xh fr (c0::cs)) w G':=by obtain⟨_,i,e,b,d,_⟩:=h;grind [RC.fB,bW,Xh,dT,Frame.catches]
end
end
section
open Go.RowKit Go.Conc.Lib
variable[pn:Pn][py:dO]
section
variable{a:mh}
noncomputable def LB:=Ql<|Qk<|Qb K5
noncomputable def Dn(Lb D Bd Bs C Wg:Q)(bs ls:U)(cp:Q)(y6 y29 y30 y31 y32 y33 y34:Zv):mh:=⟨#[zq Lb,zq D,Z',zq Bd,zq Bs,zq Wg,y6,zq Lb,zq Lb,zk Lb 12,J ls,zq Lb,zq Lb,zk Lb 11,J bs,J cp,fI<|some C,cE #[],.func (.func 211) #[] #[zq Wg,zq Bs,zq Bd],zq Lb,zq Lb,zk Lb 11,J bs,J<|bs+1,zq Lb,zq Lb,zk Lb 12,J ls,fI<|some C,y29,y30,y31,y32,y33,y34],[dcall 209 #[zq Wg]]⟩
section
variable{S:Q->Prop}{X:Q->Prop}{z:bE eF}{q:bA eJ}{w:dN}{cs:bA fZ}{t:cR->dN->Q->Prop}
def RC.mO(B:Zs X Wg C S D ay){a}(v)(ho:ops[i]?=Y op)(hw:bP op (fN ops a.tmps)=M)(hk:b.kind≠ eK)
  (e:∀w,(aR a.eval op).run az w=dG (gp v) w)(f:∀w,(aR a.eval op).events az w #[]=#[])
  (d:RC az 286 Wg C S D ay c q o X p 0 r (G (b.at (a.put op.dst v) (aS ops rest::k)) cs) w t):RC az 286 Wg C S D ay c q o X p 0 r (G (b.at a (aS ops (i::rest)::k)) cs) w t:=
 RC.fB B O O (λv=>by rw[stepG_value ho hw hk<|e v];grind [lj,seen_none]) d
theorem xto(B:Zs X Wg C S D ay)(j:Kn D ay Bd Bs C z S o)
  (f:RC az 286 Wg C S D ay c q o X p 0 r (G ((jU 136).at (Dn Lb D Bd Bs C Wg bs ls cp Z' Z' Z' Z' Z' Z' Z') [dE LB,.inLoop LB,.inBlock 0]) cs) w t):
  RC az 286 Wg C S D ay c q o X p 0 r (G ((jU 136).at (vg Lb D Bd Bs C Wg bs ls cp) [aS ul [],dE K5]) cs) w t:=by
 have d:K5=gU (fG 6 #[{dst:=Y 28,op:=Op.load 278<|Operand.tmp 4,type:=278,pos:= "look.go:84",after:=#[],guard:=R}] ao) (.block 0<|.loop LB):=Ä
 rw[d];apply RC.fB B O O λ_=>aW;apply RC.fB B O O λ_=>cM;(apply RC.fB B O O λ_=>eP;simp[jd,xg,qy,jY,j7,iC,List.range.loop]);refine RC.RT B (g':=G ((jU 136).at (Dn Lb D Bd Bs C Wg bs ls cp Z' Z' Z' Z' Z' Z' Z') [aS #[{dst:=Y 28,op:=Op.load 278<|Operand.tmp 4,type:=278,pos:= "look.go:84",after:=#[],guard:=R}] [],dE<|.block 0<|.loop LB]) cs) (a:=K Bs 0) O O j.ss (λv hk=>?_) ?_
 ·have b:=j.vd hk;have g:(aR (vg Lb D Bd Bs C Wg bs ls cp).eval {dst:=Y 28,op:=Op.load 278<|Operand.tmp 4,type:=278,pos:= "look.go:84",after:=#[],guard:=R}).run az v=dG (gp<|fI<|some C) v:=by simp only[vg];simp[go_sem,b]
  have e:(aR (vg Lb D Bd Bs C Wg bs ls cp).eval {dst:=Y 28,op:=Op.load 278<|Operand.tmp 4,type:=278,pos:= "look.go:84",after:=#[],guard:=R}).events az v #[]=#[⟨ma<|K Bs 0,ao,ao⟩]:=by simp only[vg];simp[go_sem,b]
  rw[stepG_value O O Ã g];unfold lj;rw[e,seen_eq Ä Â];rfl
 apply RC.fB B O O λ_=>aW;apply RC.fB B O O λ_=>qC;apply RC.fB B O O λ_=>stepG_loop;exact f
end
def Ξ:bE eX:=#[{dst:=Y 29,op:=Op.recv 278 (cP 28) M,type:=0,pos:= "look.go:84",after:=#[],guard:=R},{dst:=Y 30,op:=Op.extract (cP 29) 1,type:=4,pos:= "look.go:84",after:=#[{on:=0,ground:=fw}],guard:=R}]
def je5:eX:={dst:=Y 30,op:=Op.extract (cP 29) 1,type:=4,pos:= "look.go:84",after:=#[{on:=0,ground:=fw}],guard:=R}
def Α{t}(hop:op.op=Op.extract (cP 29) 1)(h:a.eval (cP 29)=cE #[sv,bG t])(w):(aR a.eval op).run az w=dG (gp<|bG t) w/\(aR a.eval op).events az w #[]=#[]:=by unfold aR;simp only[hop,h];exact⟨Ü,Ü⟩
noncomputable def RQ:=Qk<|Qb<|Qb LB
def jal:LB=gU (fG 7 Ξ ao) (gU (.cond (cP 30) .skip<|.exit 0)<|.block 1 RQ):=Ä
abbrev Δ:Zv:=bY #[J 0,ak ⟨#[]⟩]
section
variable{S:Q->Prop}{X:Q->Prop}{z:bA eJ}{w:dN}{q:bA fZ}{g:cR->dN->Q->Prop}{t j s n l f L:eJ}
def Υ(B:Zs X Wg C S D ay){tt}(b:Dg z Δ r=cE #[sv,bG tt])
  (d:RC az 286 Wg C S D ay c z o X p 0 (Ar z r) (G ((jU 136).at (Dn Lb D Bd Bs C Wg bs ls cp t (cE #[sv,bG tt]) (bG tt) n l f L) [dE<|.cond (cP 30) .skip<|.exit 0,dE<|.block 1 RQ,.inLoop LB,.inBlock 0]) q) w g):
  RC az 286 Wg C S D ay c z o X p 0 r (G ((jU 136).at (Dn Lb D Bd Bs C Wg bs ls cp t j s n l f L) [dE LB,.inLoop LB,.inBlock 0]) q) w g:=by
 have a:∀k,RC az 286 Wg C S D ay c z o X p 0 r _ w g->RC az 286 Wg C S D ay c z o X p 0 r (G ((jU 136).at (Dn Lb D Bd Bs C Wg bs ls cp t j s n l f L) (dE LB::k)) q) w g:=λk h=>by rw[jal];exact h
 apply a _;apply RC.fB B O O λ_=>cM;apply RC.fB B O O λ_=>eP;rw[show iC (V Ξ)=[0,1]from O];apply RC.yT B<|xry O O Ã O O Tryz.underlying278 Tryz.zeroValue289;rw[b,served_G];apply RC.mO B (op:=je5) _ O O Ã (λw=>(Α O O w).1) λw=>(Α O O w).2;apply RC.fB B O O λ_=>aW;apply RC.fB B O O λ_=>cM;exact d
def xox(B:Zs X Wg C S D ay)(b:T z<=r)
  (a:RC az 286 Wg C S D ay c z o X p 0 r (G {(jU 136).at (Dn Lb D Bd Bs C Wg bs ls cp t (cE #[Δ,bG ao]) (bG ao) n l f L) []with mode:=eB} q) w g):
  RC az 286 Wg C S D ay c z o X p 0 r (G ((jU 136).at (Dn Lb D Bd Bs C Wg bs ls cp t j s n l f L) [dE LB,.inLoop LB,.inBlock 0]) q) w g:=by
 apply Υ B (by unfold Dg;rw[aL À]);rw[show Ar z r=r by grind [Ar]];apply RC.fB B O O λ_=>stepG_cond O;apply RC.fB B O O λ_=>stepG_exit O;exact RC.fB B O O (λ_=>stepG_end) a
end
def JB:eX:={dst:=Y 31,op:=Op.extract (cP 29) 0,type:=289,pos:= "look.go:84",after:=#[],guard:=R}
def MW:eX:={dst:=Y 6,op:=Op.alloc 289,type:=0,pos:= "look.go:84",after:=#[],guard:=R}
def MX:eX:={dst:=R,op:=Op.store 289 (cP 6)<|Operand.tmp 31,type:=0,pos:= "look.go:84",after:=#[{on:=1,ground:=fw},{on:=0,ground:=fw},{on:=0,ground:=Ground.phase},{on:=1,ground:=Ground.phase}],guard:=R}
def Β:bE eX:=#[JB,MW,MX]
def JD:eX:={dst:=Y 32,op:=Op.move<|Operand.tmp 0,type:=217,pos:= "look.go:85",after:=#[],guard:=R}
def MY:eX:={dst:=Y 33,op:=Op.load 289<|Operand.tmp 6,type:=289,pos:= "look.go:85",after:=#[],guard:=R}
def MV:eX:={dst:=Y 34,op:=Op.call {callee:=Callee.value<|Operand.func 214,args:=#[cP 32,cP 33],argTypes:=#[217,289]},type:=0,pos:= "look.go:85",after:=#[{on:=0,ground:=fw},{on:=1,ground:=fw}],guard:=R}
def Γ:bE eX:=#[JD,MY,MV]
def xwy:RQ=gU (fG 8 Β ao) (fG 9 Γ ao):=Ä
abbrev vf(x:U)(y:eM):Obj:=au #[J x,ak y] 289
abbrev yb(x:U)(y:eM):Zv:=bY #[J x,ak y]
section
variable{F:bE kL}{x:U}{y:eM}
def jee(w):(zeroValue 289).run (wf az F) w=dG (yb 0 ⟨#[]⟩) w:=Ä
def RV(w):(sizeOf 289).run (wf az F) w=dG 2 w:=Ä
def RU(w):(isAgg 289).run (wf az F) w=dG M w:=Ä
def jb6(w):(aR a.eval MW).run (wf az F) w=dG (gp<|zq (V<|Z w)) (aF w<|vf 0 ⟨#[]⟩):=by simp only[MW];simp[go_sem,jee,RV,RU]
def jb7(c:a.eval (cP 6)=zq N)(b:a.eval (cP 31)=yb x y)(d:V (Z w)=N):(aR a.eval MX).run (wf az F) (aF w<|vf 0 ⟨#[]⟩)=dG .skip (aF w<|vf x y):=by subst d;unfold aR;simp only[MX,c,b];simp[go_sem,RV,RU]
def jb8(b:a.eval (cP 6)=zq N)(c:V (Z w)=N):(aR a.eval MY).run (wf az F) (aF w<|vf x y)=dG (gp<|yb x y) (aF w<|vf x y):=by subst c;unfold aR;simp only[MY,b];simp[go_sem,RV,RU]
def ž{t}(h:a.eval (cP 29)=cE #[sv,bG t])(w):(aR a.eval JB).run az w=dG (gp sv) w/\(aR a.eval JB).events az w #[]=#[]:=by unfold aR;simp only[JB,h];exact⟨Ü,Ü⟩
def Η(h:a.eval (cP 0)=sv)(w):(aR a.eval JD).run az w=dG (gp sv) w/\(aR a.eval JD).events az w #[]=#[]:=by unfold aR;simp only[JD,h];exact⟨Ü,Ü⟩
def Ž{u}(h:a.eval (cP 32)=u)(b:a.eval (cP 33)=v)(w):(aR a.eval MV).run az w=dG (nN 214 #[u,v]) w/\(aR a.eval MV).events az w #[]=#[]:=by
 subst h b;refine⟨?_,events_call_body O Tryz.func214 Ä Ä #[]⟩;have h:=run_call_body (a:=a) (w:=w) (o:=MV) (args:=#[cP 32,cP 33]) (ats:=#[217,289]) O Tryz.func214 Ä Ä
 grind
def MU:Mc az 136:=⟨Tryz.f136,_,oE,O,Ê⟩
end
section
variable{F:bE kL}{dm:fZ}{S:Q->Prop}{X:Q->Prop}{vals:bA eJ}{cs:bA fZ}{G':cR->dN->Q->Prop}
theorem xow(B:Zs X Wg C S D ay)(hd:Yk az F)(f:oi az dm)(g:Vi az F 214)(q:∀x∈cs,ni az x){I:Q->Zy->Prop}(i:∀r w t d,I r (A.re w t d)->I r w)(j:∀ch w t d,ϸ ch (A.re w t d)->ϸ ch w)
  (h1:∀r,r<T vals->∃x y,vals[r]?=Y (yb x y)/\∀w,I r w->∀t d,aK (wf az F) 214 #[zq Lb,yb x y] (A.re (aF w<|vf x y) t d) λe w'=>match e with| ai _=>I (r+1) w'| iL ch=>ϸ ch w'| jQ=>False)
  (h2:∀a w',I (T vals) w'->a.defers=[dcall 209 #[zq Wg]]->RC az 286 Wg C S D ay c vals o X p 0 (T vals) (G {(jU 136).at a []with mode:=eB} cs) w' G')
  (E:∀r a todo ch w',ϸ ch w'->a.defers=[dcall 209 #[zq Wg]]->RC az 286 Wg C S D ay c vals o X p 0 r (G {(jU 136).at a todo with mode:=fL ch} cs) w' G'):
  ∀n r w,r+n=T vals->I r w->∀y6 y29 y30 y31 y32 y33 y34,RC az 286 Wg C S D ay c vals o X p 0 r (G ((jU 136).at (Dn Lb D Bd Bs C Wg bs ls cp y6 y29 y30 y31 y32 y33 y34) [dE LB,.inLoop LB,.inBlock 0]) cs) w G':=by
 intro n;induction n with
 |zero=>
  intro r w L b y6 y29 y30 y31 y32 y33 y34;obtain rfl:r=T vals:=À
  exact xox B (zd _)<|h2 _ _ b O
 |succ n ih=>
  intro r w L b y6 y29 y30 y31 y32 y33 y34;let⟨x,y,hxy,hc⟩:=h1 r À;refine Υ B (sv:=yb x y) (tt:=M) (by grind [Dg]) ?_;rw[show Ar vals r=r+1 by grind [Ar]];refine RC.fB B O O (λ_=>stepG_cond O) ?_;refine RC.fB B O O (λ_=>pc) ?_;refine RC.fB B O O (λ_=>qC) ?_;rw[xwy];refine RC.fB B O O (λ_=>cM) ?_;refine RC.fB B O O (λ_=>eP) ?_;rw[show iC (V Β)=[0,1,2]from O];refine RC.mO B (op:=JB) (yb x y) O O Ã (λw=>(ž O w).1) (λw=>(ž O w).2) ?_;refine RC.eO (F:=F) (w':=aF w<|vf 0 ⟨#[]⟩) B hd (op:=MW) (val:=zq (V<|Z w)) O O Ã Ê (λt d=>jb6 _) ?_;refine RC.lz (F:=F) (w':=aF w<|vf x y) B hd (op:=MX) O O Ã Ê (λt d=>jb7 (w:=A.re w t d) (N:=V (Z w)) O O O) ?_;refine RC.fB B O O (λ_=>aW) ?_;refine RC.fB B O O (λ_=>eP) ?_;rw[show iC (V Γ)=[0,1,2]from O];refine RC.mO B (op:=JD) (zq Lb) O O Ã (λw=>(Η O w).1) (λw=>(Η O w).2) ?_;refine RC.eO (F:=F) (w':=aF w<|vf x y) B hd (op:=MY) O O Ã Ê (λt d=>jb8 (w:=A.re w t d) (N:=V (Z w)) O O) ?_;refine RC.fB B O O (λv=>by rw[stepG_enter O O Ã (Ž O O v).1];unfold lj;rw[(Ž O O v).2,seen_none]) ?_;refine(RC.tN (dm:=dm) (aw:=λt d e w'=>match e with| ai _=>I (r+1) w'| iL ch=>ϸ ch w'| jQ=>False) B hd f g ?_ (λ_ _ _ h=>h)<|hc w b).aE ?_;intro z m;obtain rfl|m:=jc.1 m;exact aJ MU;grind;rintro hx w' ho⟨rfl,e,wr,⟨t,d,W,g',k⟩,rfl,s,l⟩;cases e with
  |outgrown=>grind|returned val=>refine RC.zU (F:=F) B Á l ?_;rw[zcb];refine RC.fB B O O (λ_=>aW) ?_;refine RC.fB B O O (λ_=>stepG_inBlock) ?_;refine RC.fB B O O (λ_=>stepG_inLoop) ?_;exact ih (r+1) w' À (i _ _ _ _ k) _ _ _ _ _ _ _
  |panicked ch=>refine RC.iM (F:=F) B l ⟨_,by rw[s];exact Tryz.func214⟩ ?_;rw[Frame.raise_at];exact E _ _ _ _ _ (j _ _ _ _ k) O
end
end
end
section
open Go.RowKit Go.Conc.Lib
open Go.ConcN (sumTo WgLive)
open Go.ConcR.Gen (body_wait)
variable[pn:Pn][py:dO]
section
variable{ϸ:bA PanicEntry→Zy→Prop}{I:Q→Zy→Prop}
def xex{P}{a q f F z c}(t:a.defers=[dcall f z])(g:P.funcs[f]?=Y F)(d:(F.name== "runtime.NumGoroutine")=ao)(e:F.body=Y c){m}(i:m=eB\/∃ch,m=fL ch):
  bW P M (G {b.at a todo with mode:=m} q) w=
   ij (G ((baseD f).at {tmps:=z++cL (F.ntmps-V z) Z',defers:=[]} [dE c]) ({b.at ⟨a.tmps,[]⟩ todo with mode:=m}::q)) w #[]:=by
 have h:¬F.name= "runtime.NumGoroutine":=by simpa using d
 rw[<-enter_atD z g e];obtain rfl|⟨ch,rfl⟩:=i;simp[G,bW,dT,fo,Frame.at,t,dcall,invoke,callFunc,g,h,e,bJ,seen_none];simp[G,bW,dT,fo,Frame.at,t,dcall,invoke,callFunc,g,h,e,bJ,seen_none]
def xk8:(Go.Proofs.Tryz.f209.name== "runtime.NumGoroutine")=ao:=Ä
def xe0:Go.Proofs.Tryz.f209.ntmps=84:=Â
def xk7:Go.Proofs.Tryz.f209.body=Y (body_wait Gk):=Ä
def SL.BD{v}(h:SL Lb bs ls w)(e:v.heap[Lb]?=w.heap[Lb]?):SL Lb bs ls v:=by have:=h.bM;have:=h.aQ;exact⟨rv,rv⟩
def Ο{v}(b:Sm P X w v){z}{i}(h:w.heap[r]?=Y (au z e i))(d:z≠#[]):¬X r:=by intro f;let⟨o,t,q,_,a⟩:=b.jH r f;rw[h]at q;cases q;obtain⟨a,_⟩|⟨c,g,a,_⟩:=a;simp[qA]at a;grind
def zz7{v}(b:Sm P X w v){q k}(h:w.heap[r]?=Y (.map q k)):¬X r:=by intro d;let⟨o,t,z,_,a⟩:=b.jH r d;rw[h]at z;cases z;obtain⟨a,_⟩|⟨c,e,a,_⟩:=a;simp[qA]at a;grind
theorem nI(h:World.cell? w a=Y v):∃z e i,w.heap[a.block]?=Y (au z e i)/\z≠#[]:=rv
def pK(w1:Zy)(D ay:Q)(z q:Obj):Zy:={w1 with heap:=aA (aA w1.heap D z) ay q}
section
variable{F:bE kL}{z:fZ}{w:dN}{q:bE eF}{aw n:eJ}{t:fZ}{j:bA fZ}
def xs4{v}(a:c=7\/c=8)(f:v.heap[D]?=Y (au #[aw,fu<|some ay,n] py.ety))(g:v.heap[ay]?=Y (.map q clock))(b:∀e∈eV q,lD e):Kn D ay (V<|Z v) (pm (V<|Z v) c) (oA (V<|Z v) c) q (Sx (V<|Z v) D c)<|ox<|(kU v D cp c).at d:=by
 let⟨n1,W,l,S⟩:=Sc v D cp a d;have i:=(zA v D cp a ((za.1 f).1) d).trans f;have j:=(zA v D cp a ((za.1 g).1) d).trans g;have s:∀{r:Q} {o:Obj},((kU v D cp c).at d).heap[r]?=Y o->ox ((kU v D cp c).at d) r=o:=λ{r o} h=>by unfold ox;grind
 exact⟨aJ O,ac<|aJ O,ac<|ac O,⟨aw,n,s i⟩,s n1,s l,⟨clock,s j⟩,b⟩
def xrx(x y):(#[x,y]++cL (35-#[x,y].size) Z':Za)=#[x,y,Z',Z',Z',Z',Z',Z',Z',Z',Z',Z',Z',Z',Z',Z',Z',Z',Z',Z',Z',Z',Z',Z',Z',Z',Z',Z',Z',Z',Z',Z',Z',Z',Z']:=Â
def xnp(x y):bI az 136 #[x,y] dH=(jU 136).at ⟨#[x,y,Z',Z',Z',Z',Z',Z',Z',Z',Z',Z',Z',Z',Z',Z',Z',Z',Z',Z',Z',Z',Z',Z',Z',Z',Z',Z',Z',Z',Z',Z',Z',Z',Z'],[]⟩ [dE By]:=by rw[enter_at (c:=By) _ oE Ä,Tryz.ntmps136,xrx]
end
section
variable{F:bE kL}{dm:fZ}{w:dN}{es:bE eF}{rm nx:eJ}{c0 q:fZ}{cs t:bA fZ}
def Ŷ(q:Zf)(t:bA Zf)(I:Zy->Prop)(J:bA PanicEntry->Zy->Prop)(g:Zg)(w:Zy):Prop:=
 ∃a todo,a.defers=[]/\((I w/\g=G {(jU 136).at a todo with mode:=eB} (q::t))\/∃ch,J ch w/\g=G {(jU 136).at a todo with mode:=fL ch} (q::t))
def jeh(Wg:Q)(q:Zf)(t:bA Zf)(I:Zy->Prop)(J:bA PanicEntry->Zy->Prop)(g:Zg)(w:Zy)(_r:Q):Prop:=
 ∃c:Zf,g=G ((baseD 209).at ⟨#[zq Wg]++cL 83 Z',[]⟩ [dE<|body_wait Gk]) (c::q::t)/\Ŷ q t I J (G {c with mode:=settle c.mode} (q::t)) w
def xj1{I w1 g}(h:Ŷ q t I ϸ g w1):RX az g w' λg' W=>W=w'/\((I w1/\g'=Xh (q.finish<|cE #[]) t)\/∃ch,ϸ ch w1/\g'=Xh (q.raise ch) t):=by
 let⟨a,todo,j,h⟩:=h;have c:Tryz.f136.results=#[]:=Ä
 obtain⟨e,rfl⟩|⟨ch,f,rfl⟩:=h;refine(RX.sC (es:=#[]) (g':=Xh (q.finish<|cE #[]) t) (λv=>?_) (λb=>⟨?_,λx d=>b.2 x<|by grind [G,Xh]⟩) O O Â).U ?_;exact stepG_leave O j oE (results_none c _ _ _)<|events_results_none c _ _;exact(b.2 q<|by simp[G]).jM _;grind;refine(RX.sC (es:=#[]) (g':=Xh (q.raise ch) t) (λv=>?_) (λb=>⟨(b.2 q<|by simp[G]).iM _,λx d=>b.2 x<|by grind [G,Xh]⟩) O O Â).U ?_;grind [jU,bW,G,Xh,dT,Frame.catches,Frame.at,oE];grind
def Τ{a m}(b:m=eB\/∃ch,m=fL ch)(h:a.defers=[dcall 209 #[zq Wg]]){f}(v):
  bW az M (G {(jU 136).at a todo with mode:=m} f) v=ij (G ((baseD 209).at ⟨#[zq Wg]++cL 83 Z',[]⟩ [dE<|body_wait Gk]) ({(jU 136).at ⟨a.tmps,[]⟩ todo with mode:=m}::f)) v:=by
 rw[xex h Tryz.func209 xk8 xk7 b,xe0];rfl
abbrev vW(v:Zy)(D ay:Q):Pn:=⟨⟨Pn.N,λr=>if r=D\/r=ay then v.heap[r]?else Pn.V r⟩⟩
def Sm.Dl{s p2:Pn}{v:Zy}(h:Sm (pn:=s) P X w v)(j:@Pn.N p2= @Pn.N s)(k:∀r,X r-> @Pn.V p2 r= @Pn.V s r):Sm (pn:=p2) P X w v:=by obtain⟨a,b,c,d,e,f,g,i,n,o⟩:=h;exact @Sm.mk p2 P X w v a b c d e f g i ⟨À,λr m l=>Á⟩
def xd9(zkk:∀p:Pn,Yk (pn:=p) az F)(bh:oi az dm)(bl:Vi az F 214)(E:SL Lb bs ls w)(hD:w.heap[D]?=Y (au #[rm,fu<|some ay,nx] py.ety))(hM:w.heap[ay]?=Y (.map es clock))(S:∀e∈eV es,lD e)
  (bq:IntKind.i64.wrap (ls-bs)=(cp:U))(bg:cp<=1000000000)(bp:IntKind.i64.wrap (bs+1)=bs+1)(bo:ls<9223372036854775807)(bj:-9223372036854775808<=bs+1)(hn:bs+1+(cp:U)=ls+1)
 (bm:∀r w t d,I r (A.re w t d)->I r w)(bn:∀ch w t d,ϸ ch (A.re w t d)->ϸ ch w)(b0:∀ch w,ϸ ch w->settle (fL ch)=fL ch)
  (be:∀c,c=7\/c=8->I 0 (wF w D ay c))
  (hv:∀r,r<List.length (mP es (bs+1) cp)->∃x y,(mP es (bs+1) cp)[r]?=Y (yb x y)/\∀w,I r w->∀t d,aK (wf az F) 214 #[zq Lb,yb x y] (A.re (aF w<|vf x y) t d) λe w'=>match e with| ai _=>I (r+1) w'| iL ch=>ϸ ch w'| jQ=>False):
  RX az (Xh (bI az 136 #[zq Lb,zq D] dH) (c0::cs)) w
   (λg' w'=>∃w1,w'=pK w1 D ay (au #[rm,fu<|some ay,nx] py.ety) (.map es clock)/\((I cp w1/\g'=Xh (c0.finish<|cE #[]) cs)\/∃ch,ϸ ch w1/\g'=Xh (c0.raise ch) cs)):=by
 rintro X m t⟨⟨gs,v,sl,k,rfl,h0,hJ,f⟩,bk,bx,bz⟩;have L:=bk.2;have T:=Ο f hD Â;have U:=zz7 f hM;let⟨cl,cle,cli,hLb,hne⟩:=nI E.bM;have nL:=Ο f hLb hne;have W:=(f.out D T).trans hD;have ac:=(f.out ay U).trans hM;have aw:=f.aD;have l:∀x,X x->x<Array.size v.heap:=λx j=>by rw[aw];exact f.vw x j
 have b1:=lq es cp<|bs+1;have s:=(za.1 W).1;have C:=(za.1 ac).1;have bd:gs[0]?=Y (G ((jU 136).at ⟨#[zq Lb,zq D,undef,undef,undef,undef,undef,undef,undef,undef,undef,undef,undef,undef,undef,undef,undef,undef,undef,undef,undef,undef,undef,undef,undef,undef,undef,undef,undef,undef,undef,undef,undef,undef,undef],[]⟩ [dE By]) (c0::cs)):=by rw[h0,xnp];rfl
 let⟨N1,gs1,d1,sl1,t1,q1,c,x,y,hc,r1,g1,z1,L1,P1,j,hy⟩:=xyd (sl:=sl) hJ bd nL (E.BD<|f.out Lb nL) l bq bg bp;have O:=(za.1 h0).1;obtain⟨k1,J1⟩:=xs3 (cp:=cp) hc O z1 L1 P1 j hy l W ac T U S bo bj hn;have S0:Sm (pn:=vW v D ay) az X (re w v.tape v.drawn) v:=f.Dl rfl λr aD=>aL λh=>h.elim (λe=>T<|e▸aD) λe=>U<|e▸aD;have S1:Sm (pn:=vW v D ay) az (Xx X (Array.size v.heap) D ay) (re (wF w D ay c) ((kU v D cp c).at d1).tape ((kU v D cp c).at d1).drawn)<|(kU v D cp c).at d1:=by
  have h1:=xu8 (pn:=vW v D ay) (cp:=cp) (d:=d1) S0 hc W ac T U (aT<|aJ rfl)<|if_pos<|Or.inr rfl;have e1:((kU v D cp c).at d1).tape=v.tape:=by obtain rfl|rfl:=hc<;>rfl
  have e2:((kU v D cp c).at d1).drawn=d1:=rfl;rw[e1,e2];exact h1
 have B:=zzk (pn:=vW v D ay) (X:=X) (c:=c) s C (by rw[aw];exact f.rl.1);have bb:(gs1.push<|born az<|ya (Array.size v.heap) (pm (Array.size v.heap) c) (Array.size v.heap+3) (bs+1) ls)[0]?=Y (G ((jU 136).at (vg Lb D (Array.size v.heap) (pm (Array.size v.heap) c) (oA (Array.size v.heap) c) (Array.size v.heap+3) bs ls cp) [aS ul [],dE K5]) (c0::cs)):=by rw[jb,aL À];exact g1
 have bf:=xto (pn:=vW v D ay) (c:=Array.size gs) (p:=Array.size t1) (cs:=c0::cs) (Lb:=Lb) (bs:=bs) (ls:=ls) (cp:=cp)
  (t:=jeh _ c0 cs (I cp) ϸ) B (xs4 (cp:=cp) (d:=d1) hc W ac S) (xow (pn:=vW v D ay) (dm:=dm) B (zkk _) bh bl L bm bn hv
   (λa w' hI hd=>RC.fB (pn:=vW v D ay) B rfl rfl (Τ (aJ rfl) hd)<|RC.refl (pn:=vW v D ay) ⟨_,rfl,⟨a.tmps,[]⟩,[],rfl,aJ ⟨Á,rfl⟩⟩)
   (λr a n ch w' hJ hd=>RC.fB (pn:=vW v D ay) B rfl rfl (Τ (Or.inr ⟨ch,rfl⟩) hd) (RC.refl (pn:=vW v D ay) ⟨_,rfl,⟨a.tmps,[]⟩,n,rfl,Or.inr ⟨ch,hJ,Á⟩⟩))
   cp 0 _ À (be c hc) _ _ _ _ _ _ _)
 obtain⟨N2,bc,v2,bw,t2,k2,g2,w2,r2,e2,Z',a2,S2,i,rfl,z⟩:=bf k1 _ _ sl1 _ J1 bb S1;obtain⟨d,st,mm,left,b,q,Z',-⟩:=Z';have hW:=xqy (pn:=vW v D ay) B _ bc v2 bw t2
  ⟨9,3,1,0,d,st,mm,left,b,q,_,Z',Á,aJ rfl,.kd<|xk9 (Out:=λg=>g=G _ (c0::cs)) (c:=i) MN rfl v2 ⟨_,_,Z'.wg⟩,λh=>À,rfl⟩ S2
 obtain⟨N3,o,v3,V,t3,d3,m3,br,b3,q3,g3,e3,J3,a3,rfl,bi,S3⟩:=hW;let⟨k3,JL3⟩:=xbt (pn:=vW v D ay) B (X':=λx=>(Xx X (Array.size v.heap) D ay x/\x≠D)/\x≠ay) (λx j hs=>⟨⟨j,λe=>hs<|aJ<|e▸ aJ rfl⟩,λe=>hs<|Or.inr e⟩) J3 bi ⟨_,a3⟩;have bu:ox ((kU v D cp c).at d1) D=au #[rm,fu<|some ay,nx] py.ety:=by unfold ox;rw[zA v D cp hc s d1,W];rfl
 have bv:ox ((kU v D cp c).at d1) ay= .map es clock:=by unfold ox;rw[zA v D cp hc C d1,ac];rfl
 have bt:jW az<|some<|.map es clock:=by have:=f.rA ay;rw[show(re w v.tape v.drawn).heap[ay]?=Y (.map es clock)from hM]at this;exact this
 have ba:=Sm.I3 (pn:=vW v D ay) (Sm.I3 (pn:=vW v D ay) S3 ((J3.kc D<|aJ<|aJ rfl).trans<|by rw[bu]) jW.G) ((J3.kc ay<|Or.inr rfl).trans<|by rw[bv]) bt;have H:AM az (λx=>(Xx X (Array.size v.heap) D ay x/\x≠D)/\x≠ay) (G {i with mode:=settle i.mode} (c0::cs)) (pK w2 D ay (au #[rm,fu<|some ay,nx] py.ety)<|.map es clock) (gJ o v3 V) t3:=by refine⟨⟨o,v3,V,k3,rfl,a3,JL3,Sm.Dl (p2:=pn) ba rfl λr aD=>(aL λh=>h.elim (λe=>aD.1.2 e) λe=>aD.2 e).symm⟩,⟨aJ ?_,L⟩,rfl,rfl⟩;obtain⟨a,n,_,⟨_,e⟩|⟨ch,_,e⟩⟩:=z<;>(rw[show i.fn=136 by have:=gv (λg=>g.frame.fn) e;exact this];exact MU)
 obtain⟨N4,m4,t4,X4,g4,w4,e4,x4,b4,rfl,h4⟩:=xj1 z _ _ _ H;refine⟨N1+(N2+(N3+N4)),m4,t4,X4,g4,_,qr r1<|qr e2<|qr e3 e4,λx j=>x4 x ⟨⟨aJ j,λe=>T<|e▸j⟩,λe=>U<|e▸j⟩,b4,w2,rfl,h4⟩
def ve(zkk:∀p:Pn,Yk (pn:=p) az F)(g:oi az dm)(k:Vi az F 214)(b:SL Lb bs ls w)(z:w.heap[D]?=Y (au #[rm,fu<|some ay,nx] py.ety))(E:w.heap[ay]?=Y (.map es clock))(s:∀e∈eV es,lD e)
  (q:IntKind.i64.wrap (ls-bs)=(cp:U))(f:cp<=1000000000)(o:IntKind.i64.wrap (bs+1)=bs+1)(n:ls<9223372036854775807)(j:-9223372036854775808<=bs+1)(G:bs+1+(cp:U)=ls+1)
 (l:∀r w t d,I r (A.re w t d)->I r w)(m:∀ch w t d,ϸ ch (A.re w t d)->ϸ ch w)(i:∀ch w,ϸ ch w->settle (fL ch)=fL ch)
  (a:∀c,c=7\/c=8->I 0 (wF w D ay c))
  (H:∀r,r<List.length (mP es (bs+1) cp)->∃x y,(mP es (bs+1) cp)[r]?=Y (yb x y)/\∀w,I r w->∀t d,aK (wf az F) 214 #[zq Lb,yb x y] (A.re (aF w<|vf x y) t d) λe w'=>match e with| ai _=>I (r+1) w'| iL ch=>ϸ ch w'| jQ=>False):
  CC az 136 #[zq Lb,zq D] w
   (λe w'=>∃w1,w'=pK w1 D ay (au #[rm,fu<|some ay,nx] py.ety) (.map es clock)/\((e=ai (cE #[])/\I cp w1)\/∃ch,e=iL ch/\ϸ ch w1)):=λL O=>by
 refine(xd9 zkk g k b z E s q f o n j G l m i a H).U ?_;rintro aD w'⟨w1,v,⟨B,h⟩|⟨ch,C,h⟩⟩;exact⟨ai _,⟨w1,v,aJ ⟨rfl,B⟩⟩,h⟩;exact⟨iL ch,⟨w1,v,Or.inr ⟨ch,rfl,C⟩⟩,h⟩
end
end
end
section
variable[pn:Pn]
section
variable{P:cI}{F:bE kL}{X:Q->Prop}
theorem Ρ{p fr z a b}(h:a.runT p u #[]=b.runT p u #[]):aO p M fr z R a u=aO p M fr z R b u:=by unfold aO;simp only[dY,h]
def Sa{fr'}(h:∀p z u,bW p M (Xh fr z) u=ij (Xh fr' z) u #[])(hk:fr'.kind=fr.kind)(c:I fr' w\/Jy P fr'):Cr P F X I fr w:=by refine ac<|ac ⟨fr',w,c,hk,λz=>?_,⟨#[],λz=>h _ _ _⟩,λv b=>⟨v,#[],λz=>h _ _ _,.yi b⟩⟩;intro d f a e q;simp_all
def RZ{o:eX}{s:Sem Next}(E:Sm P X w w)(h3:fr.todo=aS ops (i::rest)::k)(w2:fr.mode= .run)(ho:ops[i]?=Y o)
  (S:bP o (fN ops fr.tmps)=M)(W:fr.roundOf=R)(ay:fr.kind≠ eK)(hx:BN P F X s)
  (h1:∀t d,(aR fr.eval o).runT (wf P F) (re w t d) #[]=s.runT (wf P F) (re w t d) #[])(h2:∀v,Sm P X w v->(aR fr.eval o).runT P v #[]=s.runT P v #[])
  (cs:∀n x,s.run (wf P F) w=dG n x->∃a,(n=gp a\/n= .skip/\a=Z')/\(I (fr.finish a) x\/Jy P (fr.finish a)))
  (ih:∀y x,s.run (wf P F) w=ft (.panic y) x->I (fr.raise [{v:=y,recovered:=ao}]) x):Cr P F X I fr w:=by
 have j:(fr.kind==eK)=ao:=by cases hq:fr.kind<;>simp_all
 have hs:∀p c u,bW p M (Xh fr c) u=aO p M fr c R (aR fr.eval o) u:=λp c u=>by simp[bW,Xh,w2,aI,h3,ho,Xl,qt,S,dY,stepG.oper,Frame.oper?,W]
 have N:∀c t d,bW (wf P F) M (Xh fr c) (re w t d)=aO (wf P F) M fr c R s (re w t d):=λc t d=>by grind [Ρ]
 have l:∀c,bW _ M _ w=aO (wf P F) M fr c R s w:=λc=>N c _ _;have G:∀c v,Sm P X w v->bW P M (Xh fr c) v=aO P M fr c R s v:=λc v C=>by grind [Ρ]
 have bb:∀n x,s.run _ w=dG n x->Nx n:=λn x e=>by obtain⟨a,h|⟨h,_⟩,_⟩:=cs n x e<;>rw[h]<;>trivial
 have z:∀c,Fd w<|stepG (wf P F) M<|Xh fr c:=λc g' r D e hd=>by have ba:bW (wf P F) M (Xh fr c) w=ij g' r D:=e;rw[l]at ba;let⟨l1,l2,l3⟩:=Uh hx E ay bb g' r D ba hd;grind
 have B:=hx.km w E;cases hq:s.run _ w with
 |ok n x=>
  let⟨a,hna,hI⟩:=cs n x hq;have wr:qI<|s.run (wf P F) w:=õ
  have J:∀f b r,s.run (wf P F) w=dG (nN f b) r->¬vv F f:=λf b r e=>Á
  refine ac<|ac ⟨fr.finish a,x,hI,Wm fr a,z,?_,λv C=>?_⟩;obtain rfl|⟨rfl,rfl⟩:=hna;exact⟨_,λc=>zav⟩;exact⟨_,λc=>zav⟩;let⟨v',new,hc⟩:=hx.nh w v #[] C wr J;let⟨c1,c2⟩:=hc.pT;rw[hq]at c1;have q:=hc.af;rw[hq]at q;refine⟨v',seen P fr.fn new,λc=>?_,q.Gv λe L=>mem_seen L⟩;rw[G c v C];obtain rfl|⟨rfl,rfl⟩:=hna;simp[aO,ze,dY,c1,c2,j,hV,bJ,ja,kB];simp[Xh];simp[aO,ze,dY,c1,c2,j,hV,bJ,ja,kB];simp[Xh]
 |halt h x=>
  have ended:(∀c,∃oo r es,aO (wf P F) M fr c R s w=ic oo r es)->Cr P F X I fr w:=λh=>aJ λc=>É
  rw[hq]at B;cases h with
  |panic y=>
   have wr:qI<|s.run (wf P F) w:=õ
   have J:∀f b r,s.run (wf P F) w=dG (nN f b) r->¬vv F f:=λf b r e=>Á
   refine ac<|ac ⟨fr.raise [{v:=y,recovered:=ao}],x,aJ<|ih y x hq,GW _ _,z,?_,λv C=>?_⟩;exact⟨_,λc=>zav⟩;let⟨v',new,hc⟩:=hx.nh w v #[] C wr J;let⟨c1,c2⟩:=hc.pT;rw[hq]at c1;have q:=hc.af;rw[hq]at q;refine⟨v',seen P fr.fn new,λc=>?_,q.Gv λe L=>mem_seen L⟩;rw[G c v C];simp only[aO,ze,dY,c1,c2,j,hV,bJ,ja,kB];simp[Xh]
  |stuck m=>exact ended λc=>⟨_,_,_,zar⟩|exit m=>exact ended λc=>⟨_,_,_,zar⟩
  |unsupported m=>
   cases m with|initOrder g=>exact B.elim|_=>exact ended λc=>⟨_,_,_,zar⟩
  |_=>exact B.elim
def Ι(z:nz P F X){o:eX}(b:Sm P X w w)(h:fr.todo=aS ops (i::rest)::k)(e:fr.mode= .run)(ho:ops[i]?=Y o)
  (d:bP o (fN ops fr.tmps)=M)(g:fr.roundOf=R)(c:fr.kind≠ eK)(hop:vy P o.op=M)
  (j:∀n x,(aR fr.eval o).run (wf P F) w=dG n x->∃a,(n=gp a\/n= .skip/\a=Z')/\(I (fr.finish a) x\/Jy P (fr.finish a)))
  (f:∀y x,(aR fr.eval o).run (wf P F) w=ft (.panic y) x->I (fr.raise [{v:=y,recovered:=ao}]) x):Cr P F X I fr w:=
 RZ b h e ho d g c (Fh z fr.eval o hop) (λ_ _=>O) (λ_ _=>O) j f
end
namespace Odd160
noncomputable def fF:dD<|Array eX×bE eX×pB:=match Tryz.f220.body with
 |some (gU (fG _ a _)<|.cond _ (fG _ b _) c)=>Y (a,b,c)
 |_=>R
noncomputable def tL:bE eX:=match fF with
 |some (a,_,_)=>a|none=>#[]
noncomputable def V8:bE eX:=match fF with
 |some (_,b,_)=>b|none=>#[]
noncomputable def RR:pB:=match fF with
 |some (_,_,c)=>c|none=> .skip
noncomputable def EN:pB:=fG 0 tL ao
noncomputable def cC:pB:= .cond (cP 6) (fG 1 V8 ao) RR
theorem qH:Tryz.f220.body=Y (gU EN cC):=Ä
def ntmps220:Tryz.f220.ntmps=20:=Â
def jb3:q9 az M RR=M:=Ä
def xr6:q9 az M (gU EN cC)=ao:=Ä
theorem yY:Mc az 220:=⟨_,_,Tryz.func220,qH,xr6⟩
def vV(ops:bE eX)(i:Q)(op:Op)(d:dD Q):Prop:=∃o,ops[i]?=Y o/\o.op=op/\o.dst=d/\o.guard=R
def o00:vV tL 0 (.move<|cP 0)<|some 2:=⟨tL[0]!,Ä,Ä,Ä,Ä⟩
def o01:vV tL 1 (.nilCheck<|cP 2)<|some 3:=⟨tL[1]!,Ä,Ä,Ä,Ä⟩
def o02:vV tL 2 (.fieldAddr 223 (cP 3) 0)<|some 4:=⟨tL[2]!,Ä,Ä,Ä,Ä⟩
def o03:vV tL 3 (.load 221<|cP 4)<|some 5:=⟨tL[3]!,Ä,Ä,Ä,Ä⟩
def o04:vV tL 4 (.binOp .eql 221 (cP 5) (.const<|aU R) 221)<|some 6:=⟨tL[4]!,Ä,Ä,Ä,Ä⟩
def o10:vV V8 0 (.move<|cP 0)<|some 7:=⟨V8[0]!,Ä,Ä,Ä,Ä⟩
def o11:vV V8 1 (.move<|cP 0)<|some 8:=⟨V8[1]!,Ä,Ä,Ä,Ä⟩
def o12:vV V8 2 (.convert 221 327<|cP 8)<|some 9:=⟨V8[2]!,Ä,Ä,Ä,Ä⟩
def o13:vV V8 3 (.call {callee:= .value (.func 275),args:=#[cP 9],argTypes:=#[327]})<|some 10:=⟨V8[3]!,Ä,Ä,Ä,Ä⟩
def o14:vV V8 4 (.convert 327 221<|cP 10)<|some 11:=⟨V8[4]!,Ä,Ä,Ä,Ä⟩
def o15:vV V8 5 (.nilCheck<|cP 7)<|some 12:=⟨V8[5]!,Ä,Ä,Ä,Ä⟩
def o16:vV V8 6 (.fieldAddr 223 (cP 12) 0)<|some 13:=⟨V8[6]!,Ä,Ä,Ä,Ä⟩
def o17:vV V8 7 (.store 221 (cP 13)<|cP 11) R:=⟨V8[7]!,Ä,Ä,Ä,Ä⟩
def jdg:V tL=5:=Ä
def jdh:V V8=8:=Ä
theorem Ź:Tryz.prog.underlying 221=Y (.pointer 223):=Â
theorem Ż:Tryz.prog.underlying 327=Y .unsafePointer:=Â
noncomputable def Jx:bE Field:=match Tryz.prog.underlying 223 with
 |some (.struct F)=>F|_=>#[]
theorem ź:Tryz.prog.underlying 223=Y (.struct Jx):=Ä
noncomputable def MT:Field:=Jx[0]!
def fs0:Jx[0]?=Y MT:=Ä
def xx8:MT.offset=0:=Ä
def xs1:MT.type=221:=Ä
def ŷ:(Tryz.prog.info? 221).map (·.size)=Y 1:=Ä
def Ÿ:(Tryz.prog.info? 223).map (·.size)=Y 2:=Ä
end Odd160
def xq1(P F):∀d t,(wf P F).holdsStoodIn d t=P.holdsStoodIn d t:=by intro d;induction d with|zero=>intro t;rfl|succ d z=>intro t;simp[Program.holdsStoodIn,Yj,AF,z]
namespace Odd160
structure Tb(p:Zp):Prop where
 u1:p.underlying 221=Y (.pointer 223)
 u2:p.underlying 327=Y .unsafePointer
 u3:p.underlying 223=Y (.struct Jx)
 s1:(p.info? 221).map (·.size)=Y 1
 s2:(p.info? 223).map (·.size)=Y 2
def ż:Tb az:=⟨Ź,Ż,ź,ŷ,Ÿ⟩
def I':Tb<|wf az dA:=⟨by grind [Yj,Ź],by grind [Yj,Ż],by grind [Yj,ź],by rw[DH];exact ŷ,by rw[DH];exact Ÿ⟩
section
variable{p:cI}(t:Tb p)
theorem ja7(t:Tb p){c}{f}(b:u.heap[a.block]?=Y (au c e f))(ho:a.off<V c)(z):
  (convert 221 327<|aU<|some a).runT p u z=(dG (aU<|some a) u,z):=by
 let⟨j,h,q⟩:=zv.1 t.s2;have g:u.shape? a.block=Y (e,V c):=by simp[dU,b]
 have d:¬(V c<=a.off):=À
 simp[convert,Conv.unsafePointer,Conv.seenAt,viewAt,cellsIn,fj,sizeOf,typeInfo,p9,lG,mC,gl,fk,iu,t.u1,t.u2,h,q,g,d,-fd]
def pj(a:Addr):Sem Zv:=do
 if(<-sizeOf 223)=0||(<-lF a 223 1)then iu (aU<|some a)
 else
  match<-lG a.block with
  |some (e,_)=>
   if(<-p9).holdsStoodIn (<-p9).depth e then unsupported (.unsafePointer "memory that holds a struct of a package that the model stands in for, seen as another type")
  |none=>unsupported<|.unsafePointer "memory that has no shape (a package-level variable that still waits for its initialiser), seen as another type"
  iu (zq<|<-newObj (.view a 223))
theorem ja8(t:Tb p){c}{f}(b:u.heap[a.block]?=Y (au c e f))(z):
  (convert 327 221<|aU<|some a).runT p u z=(pj a).runT p u z:=by
 have d:u.shape? a.block=Y (e,V c):=by simp[dU,b]
 simp[convert,pj,Conv.unsafePointer,Conv.seenAt,viewAt,fj,p9,lG,mC,gl,fk,iu,t.u1,t.u2,d,-fd];rfl
end
section
variable{P:cI}{F:bE kL}{X:Q->Prop}
def xxb(hx:¬X a.block):A.B P F X<|pj a:=by refine xq (iU.1 _) λn=>xq ?_ λb=>?_;grind [lF,Xq,Kl,Vx,Vw,xq,Kf,xr];split;exact xr _;refine xq (Kf hx) λs=>?_;have d:A.B P F X (do iu (zq<|<-newObj (.view a 223)):Sem Zv):=xq (AH _ ⟨λc e h=>È,λf h=>È,λl h=>È⟩) λ_=>xr _;split;refine Xq (by simp[xq1])<|Xq (by grind [Vx]) ?_;split;exact Fi (Yb _ bD) (λp w a x h=>È);omega;exact Fi (Yb _ bD) λp w a x h=>È
end
end Odd160
namespace Odd160
def EO:Zv->ez
 | aU _=>M|_=>ao
section
variable{p:cI}
def ztn{a:Zv}{bs}(h:a.ofBytes bs=Y v):EO v=ao:=by
 unfold Value.ofBytes at h;repeat' split at h
 all_goals first|(cases h;done)|(cases h;rfl)
theorem zs7{k}{u:Zt}{b l}(h:w.viewLoad p a u k b= .ok (v,l)):EO v=ao:=by
 unfold World.viewLoad at h;cases t:w.seen p a u k b with
 |error e=>rw[t]at h;cases h
 |ok q=>let⟨s,n,g,first,L,z⟩:=q;rw[t]at h;simp only[mC,mi]at h;split at h;rename_i f j;cases h;exact ztn j;cases h
def xos(h:(oe a).run p w=dG v x):x=w/\(EO v=M->∃c e f,w.heap[a.block]?=Y (au c e f)/\a.off<V c):=by rw[Kh]at h;grind [World.cell?,mA,zs7]
def xdk(z:Tb p)(h:(Instr.loadAt 221 y).run p w=dG v x):x=w/\∃a,y=aU (Y a)/\(EO v=M->∃c e f,w.heap[a.block]?=Y (au c e f)/\a.off<V c):=by
 let⟨a,W,q,j⟩:=jr h;have d:y=aU (Y a)/\W=w:=by unfold Instr.sureAddr at q;split at q;simp_all;cases q
 obtain⟨rfl,rfl⟩:=d;let⟨b,s,t,n⟩:=jr j;have g:b=ao/\s=W:=by
  have:(isAgg 221).run p W=dG ao W:=by simp[isAgg,fj,z.u1]
  rw[this]at t;cases t;exact⟨O,O⟩
 obtain⟨rfl,rfl⟩:=g;obtain⟨rfl,i⟩:=xos n;grind
def zwh(z:Tb p)(h:(Instr.fieldAt 223 y 0).run p w=dG v x):x=w/\∃a,y=aU (Y a)/\v=aU (Y a):=by
 let⟨L,n,l⟩:=zv.1 z.s1;have f:(fj 223).run p w=dG (.struct Jx) w:=by simp[fj,z.u3]
 let⟨d,F,j,q⟩:=jr h;rw[f]at j;cases j;dsimp only at q;rw[fs0]at q;let⟨a,W,t,g⟩:=jr q;have c:y=aU (Y a)/\W=w:=by unfold Instr.sureAddr at t;split at t;simp_all;cases t
 obtain⟨rfl,rfl⟩:=c;have e:(fieldPlace a MT).run p W=dG a W:=by simp[fieldPlace,xs1,xx8,sizeOf,typeInfo,n,l,Addr.add]
 let⟨b,w4,s,S⟩:=jr g;rw[e]at s;cases s;cases S;grind
def xst(z:Tb p){o f}(h:(do eqGuard .eql 221 o f y (aU R);binOp .eql 221 y (aU R):Sem Zv).run p w=dG v x):x=w/\EO y=M:=by
 have b:(fj 221).run p w=dG (.pointer 223) w:=by simp[fj,z.u1]
 have e:∀{y:Zv} {v x},(Op.equal 221 y<|aU R).run p w=dG v x->x=w/\EO y=M:=λ{y v x} h=>by
  unfold Op.equal at h;rw[show Op.maxDepth=9999+1 from O,Op.equalIn]at h;let⟨d,W,j,t⟩:=jr h;rw[b]at j;cases j;cases y with
  |pointer q=>
   cases q with
   |none=>cases t;exact⟨O,O⟩
   |some q=>cases t;exact⟨O,O⟩
  |_=>cases t
 let⟨g,W,j,t⟩:=jr h;have c:W=w:=by cases y<;>(simp[eqGuard]at j;grind)
 subst c;have a:(binOp .eql 221 y<|aU R)=(do iu (bG<|<-Op.equal 221 y (aU R)):Sem Zv):=by cases y<;>rfl
 rw[a]at t;let⟨q,n,l,s⟩:=jr t;cases s;grind
end
def xse(x w):(callFunc 275 #[x]).run (wf az dA) w=dG (gp x) w:=by
 have h:(wf az dA).funcs[275]?=Y Tryz.f275:=Hi Ã Tryz.func275;have a:¬Tryz.f275.name= "runtime.NumGoroutine":=by simpa using(Hm Tryz.func275)
 have b:Tryz.f275.body=R:=Ä
 have c:Extern.AbiNoEscape.same #[x]=iu x:=O;simp[callFunc,h,a,b,UN,UO,c]
end Odd160
end
end A
end Go.Proofs.YtjnbhiamaabbgabGreatDoor
