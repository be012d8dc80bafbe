import Derived.Test.YtjnbhiamaabbgaaGreatDoorM1
import Derived.Conc.WgGenN2
import Derived.Conc.CrowdComm
import Derived.Conc.WgGenN3
import Derived.Conc.TokenWalk
import Derived.Conc.FxGenLone
import Derived.Conc.CompanyDraw
set_option linter.all false
set_option maxRecDepth 100000
set_option maxHeartbeats 8000000
section
variable{P:Prop}
def Î(h:P:=by k_ne):P:=h
def Ð(h:P:=by show¬Mc P b.fn;grind):P:=h
def Ñ(h:P:=by simp[go_sem, *]):P:=h
def Ó(h:P:=by go_simp<;>rfl):P:=h
def Ù(h:P:=by have g:bF (wf P F) aw (Xh (b.at a (aM ops (i::rest)::k)) cs) (A.re w t d)=_:=j;rw[g]at c;cases c;have:aa cs=aa cs+1:=e;omega):P:=h
def ß(h:P:=by have:=knows_own v;rwa[G op d]at this):P:=h
def á(h:P:=by have:=h.pt;grind):P:=h
def é(h:P:=by simpa[eH]using h.tp):P:=h
def ë(h:P:=by obtain⟨e,_,rfl⟩:=zy a;rfl):P:=h
def í(h:P:=by grind [n1]):P:=h
def î(h:P:=by simp only[wF,jb,Xi,J4];grind):P:=h
def ï(h:P:=by rw[h.J];omega):P:=h
def ð(h:P:=by simp only[Loc.low];omega):P:=h
def ô(h:P:=by rw[l];simp only[aJ,ze,if_true,hq,j];rfl):P:=h
def ù(h:P:=by have:=h.pH x;omega):P:=h
def ü(h:P:=by simp only[aJ,ze,if_true,hq,j,aY];rfl):P:=h
def Đ(h:P:=by simp[rd,cS]):P:=h
def Ę(h:P:=by obtain e|⟨a,L,e⟩:=f;exact e;grind [woken_run]):P:=h
def ġ(h:P:=by have:=h.gX;simp;omega):P:=h
def ĥ(h:P:=by obtain⟨k1,k2⟩:=IV (Wg:=Wg) rfl Q;grind):P:=h
def ħ(h:P:=by rw[<-hv'];show(ay v.heap C _)[x]?=_;grind):P:=h
def Ĩ(h:P:=by rw[<-hv'];show(ay v.heap C _).size=_;simp):P:=h
def Ľ(h:P:=by obtain e|e:=d.status<;>rw[e]<;>simp):P:=h
def Ł(h:P:=by simp[bY]):P:=h
def Ņ(h:P:=by simp at d;obtain rfl|rfl:=d<;>rfl):P:=h
def ņ(h:P:=by show(ay v.heap C _).size=_;simp):P:=h
def Ň(h:P:=by obtain⟨t,d,rfl⟩:=h;exact k.pG):P:=h
def Ŋ(h:P:=by have:=h.J;omega):P:=h
def Ō(h:P:=by have:=(za.1 hg).1;rwa[h.J]at this):P:=h
def ŕ(h:P:=by simp[iH,smA]):P:=h
end
namespace Go.Proofs.YtjnbhiamaabbgaaGreatDoor
open Go renaming Act->jG,Calls->aG,Code->nW,Deferred->lY,Ending->kU,Event->lh,Frame->fk,Func->jE,Goroutine->cA,HappensBefore->mD,MapEntry->dP,Oper->fj,Program->bT,Trace->fG,TypeId->nt,Value->dL,World->cY,callDeferred->dV,callFunc->nE,deafBehind->cS,doReturn->ft,execOp->aL,getObj->lS,heap_alloc_new->xn,invoke->ol,load->mB,program->oK,results->dX,runNT->eT,shape->kz,stepG->bF,undef->aC,underlying->eu,unwind->cW,variablesAt->kv,yielded->eZ
open Go.Act renaming eval->iH
open Go.CallKind renaming early->dY,normal->cJ
open Go.Code renaming region->eU,seq->fO
open Go.Conc renaming AtRel->nN,Deaf_other->cU,Deaf_own->lm,Goes->fm,aside_setCell->jQ,awake_of->mW,base->is,crowd->fL,listed->jX,lt_size_of_getElem?->gr,mem_listed->ij,mem_ofEvents->zy,noRace_append->nM,ofEvents_eq->eH,offersAt_of_not_blocked->kE,runT_crowd_go->oS,served->lK,stepG_block->oR,stepG_load_atomic->mr,stepG_region->ec,stepG_region_end->aO,stepG_ret'->im,stepG_seq->bX,stepG_skip->nJ,touchAt->li,woken_quitsD->iA
open Go.Conc.Goes renaming step->iM,stop->fc
open Go.ConcN renaming WgLive->nI,sumTo->iX
open Go.ConcN.Gen.WgLive renaming cell0->iL
open Go.ConcR renaming Payload->cZ
open Go.ConcX renaming AtMkS->ir,EvS->gM
open Go.Departure renaming mixedOrders->mV
open Go.Ending renaming outgrown->iE,panicked->gU,returned->ah
open Go.Exit renaming normal->dM,panic->lT
open Go.Frame renaming enter->aT,finish_at->zcb
open Go.FrameMode renaming panicking->eW,returning->dN
open Go.GStep renaming after->aY,ended->gq,go->gj
open Go.GoStatus renaming running->aZ
open Go.Ground renaming data->eM
open Go.Instr renaming checkKey->gT,findKey->bW,findNow->eh,lookup->fB,sameNow->iq
open Go.IntKind renaming i64->aU,wrap_i64->zh
open Go.Item renaming code->cD,inLoop->mS,inRegion->aM
open Go.Loc renaming cell->kF,obj->nG
open Go.Mark renaming disable->mR,enable->mQ,release->jC
open Go.MemAct renaming mark->fT,ofEvent->bN,touch?->bY
open Go.MemOp renaming ofEvents->aS
open Go.Next renaming enter->mo,value->fA
open Go.Obj renaming cells->aq,isChan->oP
open Go.Operand renaming tmp->bZ
open Go.Proofs.Tryz renaming func106->mP,prog->au,underlying3->gI,underlying9->oN
open Go.Region renaming ready->aW,schedule->il,wanted->bC
open Go.Region.Mode renaming any->ff
open Go.Region.linearise renaming go->cB
open Go.Result renaming andThen->bG,halt->eI,ok->cT
open Go.RowKit renaming Hid->aK
open Go.RowKit.Below renaming heap_alloc->Xj
open Go.Sem renaming bind->fw,run->fp,runT->eE,runT_eq->ze,run_bind->zc9,run_pure->zda
open Go.Stepped renaming next->fS
open Go.Trace renaming g?->gw
open Go.Value renaming agg->bM,bool->aX,chan->eL,func->nV,int->aH,map->eK,pointer->aR,string->aj,tuple->bU
open Go.World renaming alloc->aB,cell?->ae,farLoad->lw,frozen?->aQ,setCell->ai,shape?->dD,size_alloc->xp
open Go.stepG renaming apply->aJ,exec->aD
open _root_.Array renaming replicate->bV,setIfInBounds->ay,size->ak,toList->ej
open _root_.Bind renaming bind->lB
open _root_.Bool renaming false->ao,true->aw
open _root_.Decidable renaming decide->bI
open _root_.Except renaming bind->lj
open _root_.False renaming elim->dI
open _root_.List renaming drop_drop->zbd,length->aa,length_take->xf,range->gO,toArray->aV
open _root_.Nat renaming reduceAdd->iJ
open _root_.Option renaming none->ar,some->ac
open _root_.Or renaming inl->aF,inr->aE
open _root_.Pure renaming pure->fX
open Go.Sem renaming runT_eq->ey
namespace A
open Go Go.Conc
section
variable [pn:Pn]
section
variable {R:kU→Zy→Prop}
section
variable {P:bT} {F:Array jE} {dm:fk} {G':cA->cY->Prop} {w w':cY} {b:fk} {a:jG} {k:List Item} {cs:List fk}
def RX.pG{g tp d}(h:RX P g w G'):RX P g (A.re w tp d) G':=RX.re (tp:=w.tape) (d:=w.drawn)<|by grind [yP,DW]
def qK(w w':Zy):Prop:=∃t d,w'=re w t d
def qK.rx{g}(h:qK w w')(k:RX P g w G'):RX P g w' G':=Ň
theorem RX.eO(K:Yk P F){g g'}(e:¬Mc P g.frame.fn)(i:∀v,bF (wf P F) aw g v=gj g' v)(l:aa g'.callers=aa g.callers)(hd:g'.dying=ar)(h:g'.status=aZ)(f:RX P g' w G'):RX P g w G':=
 (RX.sY K e (G:=λc w1=>c=g'/\qK w w1) λX _ t d=>⟨⟨g',A.re w t d,⟨#[],i _,hd,h⟩,rfl,t,d,rfl⟩,λk m j a b=>Â⟩).aA λc w1⟨a,b⟩=>by subst a;exact b.rx f
def RX.ea(K:Yk P F){ops i rest op val}(l:¬Mc P b.fn)(ho:ops[i]?=ac op)(hw:bC op (eZ ops a.tmps)=aw)(hk:b.kind≠ dY)
  (f:∀t d,∃t' d',(aL a.eval op).run (wf P F) (A.re w t d)=cT (fA val) (A.re w' t' d'))(m:RX P (Xh (b.at (a.put op.dst val) (aM ops rest::k)) cs) w' G'):
  RX P (Xh (b.at a (aM ops (i::rest)::k)) cs) w G':=
 (RX.sY K l (G:=λh w1=>h=Xh (b.at (a.put op.dst val) (aM ops rest::k)) cs/\qK w' w1) λX _ t d=>by obtain⟨t',d',f⟩:=f t d;have j:=stepG_value (main:=aw) (k:=k) (cs:=cs) (rest:=rest) ho hw hk f;exact⟨⟨_,_,⟨_,j,rfl,rfl⟩,rfl,t',d',rfl⟩,λo p n c e=>Ù⟩).aA λh w1⟨c,e⟩=>by subst c;exact e.rx m
def RX.pJ(K:Yk P F){ops i rest op}(l:¬Mc P b.fn)(ho:ops[i]?=ac op)(hw:bC op (eZ ops a.tmps)=aw)(hk:b.kind≠ dY)
  (f:∀t d,∃t' d',(aL a.eval op).run (wf P F) (A.re w t d)=cT .skip (A.re w' t' d'))(m:RX P (Xh (b.at (a.put op.dst aC) (aM ops rest::k)) cs) w' G'):
  RX P (Xh (b.at a (aM ops (i::rest)::k)) cs) w G':=
 (RX.sY K l (G:=λh w1=>h=Xh (b.at (a.put op.dst aC) (aM ops rest::k)) cs/\qK w' w1) λX _ t d=>by obtain⟨t',d',f⟩:=f t d;have j:=stepG_none (main:=aw) (k:=k) (cs:=cs) (rest:=rest) ho hw hk f;exact⟨⟨_,_,⟨_,j,rfl,rfl⟩,rfl,t',d',rfl⟩,λo p n c e=>Ù⟩).aA λh w1⟨c,e⟩=>by subst c;exact e.rx m
def Oa(c0:Zf)(cs:List Zf):kU->Zg->Prop
 | ah v,g=>g=Xh (c0.finish v) cs| gU ch,g=>g=Xh (c0.raise ch) cs
 | iE,_=>False
def CC(P:Zp)(f:FuncId)(args:Za)(w:Zy)(R:kU->Zy->Prop):Prop:=
 ∀c0 cs,RX P (Xh (aT P f args cJ) (c0::cs)) w λg' w'=>∃e,R e w'/\Oa c0 cs e g'
def CC.W{f args R c}(h:CC P f args w R)(k:∀e w',R e w'->c e w'):CC P f args w c:=λd g=>(h d g).W λi w'⟨e,a,b⟩=>⟨e,k _ _ a,b⟩
def CC.pG{f args R tp d}(h:CC P f args w R):CC P f args (re w tp d) R:=λa b=>(h a b).pG
def qK.cc{f args R}(h:qK w w')(k:CC P f args w R):CC P f args w' R:=Ň
def CC.o0(K:Yk P F)(b:mF P dm){f args R}(m:Vi P F f)(k:¬Mc P f)(x:∃fn,P.funcs[f]?=ac fn)(g:∀e w t d,R e (re w t d)->R e w)(c:∀w',¬R iE w')
  (h:∀t d,aG (wf P F) f args (re w t d) R):CC P f args w R:=λo p=>by
 refine(CX.o0 K b m k (λ_ _=>c) h _).aA ?_;rintro s w'⟨e,r,⟨t,d,y,q,a⟩,rfl,l,i⟩;have a:=g _ _ _ _ a;cases e with
 |outgrown=>grind
 |returned v=>
  refine(RX.wi K Â i).aA ?_;rintro j n⟨t,d,rfl,rfl⟩;exact(RX.refl ⟨_,a,rfl⟩).pG
 |panicked ch=>refine(RX.gV i Â).aA ?_;rintro j n⟨rfl,rfl⟩;exact .refl ⟨_,a,rfl⟩
def RX.kN(K:Yk P F){ops:Array fj}{i:Nat}{rest:List Nat}{op:fj}{f:FuncId}{args:Za}(o:¬Mc P b.fn)(ho:ops[i]?=ac op)(hw:bC op (eZ ops a.tmps)=aw)(hk:b.kind≠ dY)
  (q:∀v,(aL a.eval op).run (wf P F) v=cT (mo f args) v)(n:Vi P F f)(p:CC P f args w R)
  (B:∀v w',R (ah v) w'->RX P (Xh (b.at (a.put op.dst v) (aM ops rest::k)) cs) w' G')
  (z:∀ch w',R (gU ch) w'->RX P (Xh {b.at a (aM ops (i::rest)::k)with mode:=eW ch} cs) w' G'):
  RX P (Xh (b.at a (aM ops (i::rest)::k)) cs) w G':=by
 refine(RX.sY K o (G:=λm w1=>m=Xh (aT P f args cJ) (b.at a (aM ops (i::rest)::k)::cs)/\qK w w1) λX _ t d=>?_).aA λm w1⟨c,l⟩=>?_;have h:=stepG_enter (main:=aw) (k:=k) (cs:=cs) (rest:=rest) ho hw hk<|q<|A.re w t d;rw[DQ n.1]at h;have j:bF (wf P F) aw (Xh (b.at a (aM ops (i::rest)::k)) cs) (A.re w t d)=_:=h;exact⟨⟨_,_,⟨_,h,rfl,rfl⟩,rfl,t,d,rfl⟩,λx C r c l _=>by rw[j]at c;cases c;exact n⟩;subst c;refine(l.cc p _ _).aA ?_;rintro s w'⟨e,y,g⟩;cases e with
 |outgrown=>exact g.elim|returned v=>cases g;grind [zcb]
 |panicked ch=>cases g;grind [Frame.raise_at]
def ul:List Item->Prop
 | cD (.refuse _)::_=>False|_=>True
def uL(b:Zf)(k:List Item)(cs:List Zf):Exit->jG->Zg->Prop
 | dM,a,g=>ul k/\g=Xh (b.at a k) cs| .exit id,a,g=>∃k',exitTo id k=ac k'/\ul k'/\g=Xh (b.at a k') cs
 | .ret,a,g=>a.defers=[]/\∃todo,g=Xh {b.at a todo with mode:=dN} cs
 | lT ch,a,g=>a.defers=[]/\∃todo,g=Xh {b.at a todo with mode:=eW ch} cs
 |_,_,_=>False
def IQ(k:List Item):Exit->jG->Prop
 | dM,_=>ul k| .exit id,_=>∃k',exitTo id k=ac k'/\ul k'
 | .ret,a=>a.defers=[]| lT _,a=>a.defers=[]
 |_,_=>False
def uL.Fv(j:mF P dm){e g}(h:uL b k cs e a g):¬ux P g:=by
 have m:∀{k:List Item},ul k->¬ux P (Xh (b.at a k) cs):=by rintro k hk⟨_,⟨_,s,i,e⟩|hd⟩;have e:k=cD (.refuse s)::i:=e;subst e;exact hk;have e:k=[cD<|.refuse ""]:=hd.1;subst e;exact hk
 cases e with
 |normal=>obtain⟨hk,rfl⟩:=h;grind
 |exit id=>obtain⟨i,_,hk,rfl⟩:=h;grind
 |goto l=>exact h.elim
 |ret=>
  obtain⟨hd,d,rfl⟩:=h;rintro⟨_,⟨f,_⟩|c⟩;cases f;have:a.defers=[⟨.fn (.method "") #[],#[]⟩]:=c.2.1;grind
 |panic ch=>
  obtain⟨hd,d,rfl⟩:=h;rintro⟨_,⟨f,_⟩|c⟩;cases f;have:a.defers=[⟨.fn (.method "") #[],#[]⟩]:=c.2.1;grind
 |outgrown=>exact h.elim
def uL.yy{e g}(h:uL b k cs e a g):g.callers=cs:=by
 cases e with
 |normal=>obtain⟨_,rfl⟩:=h;rfl
 |exit id=>obtain⟨d,_,_,rfl⟩:=h;rfl
 |goto l=>exact h.elim|ret=>obtain⟨_,c,rfl⟩:=h;rfl
 |panic ch=>obtain⟨_,c,rfl⟩:=h;rfl
 |outgrown=>exact h.elim
def uL.Oo{e g cs'}(h:uL b k cs e a g):uL b k cs' e a {g with callers:=cs'}:=by
 cases e with
 |normal=>obtain⟨d,rfl⟩:=h;exact⟨d,rfl⟩
 |exit id=>obtain⟨i,d,f,rfl⟩:=h;exact⟨i,d,f,rfl⟩
 |goto l=>exact h.elim|ret=>obtain⟨d,c,rfl⟩:=h;exact⟨d,c,rfl⟩
 |panic ch=>obtain⟨d,c,rfl⟩:=h;exact⟨d,c,rfl⟩
 |outgrown=>exact h.elim
def RX.wp(K:Yk P F)(n:mF P dm){c Post}(v:¬Mc P b.fn)(hk:b.kind=cJ)(y:∀e a w t d,Post e a (A.re w t d)↔Post e a w)(p:∀e a w,Post e a w->IQ k e a)
  (h:∀t d,c.wp (wf P F) Post a<|A.re w t d)(x:∀e a' w' g',Post e a' w'->uL b k cs e a' g'->RX P g' w' G'):RX P (Xh (b.at a (cD c::k)) cs) w G':=by
 refine(RX.rA (fr:=b.at a (cD c::k)) (cs:=cs) (w:=w) (dm:=dm) K n (End:=λg' w'=>∃e a',Post e a' w'/\uL b k [dm] e a' g') (λg' w' t d=>?_) ?_ v hk ?_).aA ?_;grind;rintro g' w'⟨e,a',_,o⟩;exact o.Fv n;intro t d;obtain⟨e,a',w',i,f⟩:=h t d b k [dm];have j:=p _ _ _ i;cases e with
 |normal=>exact⟨_,_,w',f,dM,a',i,j,rfl⟩|exit id=>obtain⟨s,r,o⟩:=j;exact⟨_,_,w',f s r,.exit id,a',i,s,r,o,rfl⟩
 |goto l=>exact j.elim|ret=>obtain⟨g,q⟩:=f;exact⟨_,_,w',q,.ret,a',i,j,g,rfl⟩
 |panic ch=>obtain⟨g,q⟩:=f;exact⟨_,_,w',q,lT ch,a',i,j,g,rfl⟩
 |outgrown=>exact j.elim
 rintro z w'⟨g',l,⟨e,a',i,f⟩,m,rfl⟩;have:l=[]:=by rw[f.yy]at m;have:=congrArg aa m;simp only[zx,Zr]at this;exact jv À
 subst this;exact x e a' w' _ i f.Oo
def RX.Fl(K:Yk P F){fn todo c v}(k:¬Mc P b.fn)(hk:b.kind=cJ)(hd:a.defers=[])(l:(wf P F).funcs[b.fn]?=ac fn)
  (i:∀t d,∃t' d',(dX fn a.tmps).run (wf P F) (A.re w t d)=cT v (A.re w t' d'))(m:RX P (Xh (c.finish v) cs) w G'):RX P (Xh {b.at a todo with mode:=dN} (c::cs)) w G':=by
 refine(RX.sY K k (G:=λj w1=>j=Xh (c.finish v) cs/\qK w w1) λX _ t d=>?_).aA λj w1⟨e,g⟩=>by subst e;exact g.rx m
 obtain⟨t',d',i⟩:=i t d;have f:∃h,bF (wf P F) aw (Xh {b.at a todo with mode:=dN} (c::cs)) (A.re w t d)=gj (Xh (c.finish v) cs) (A.re w t' d') h:=by simp only[bF,Xh,cW,ft,Frame.at,hk,hd,l,ze,i];exact⟨_,rfl⟩
 obtain⟨h,f⟩:=f;exact⟨⟨_,_,⟨_,f,rfl,rfl⟩,rfl,t',d',rfl⟩,λn o h e g=>by rw[f]at e;cases e;have:aa cs=aa cs+1+1:=g;omega⟩
def RX.Fm{todo c ch}(hd:a.defers=[])(d:∃fn,P.funcs[b.fn]?=ac fn)(i:RX P (Xh (c.raise ch) cs) w G'):RX P (Xh {b.at a todo with mode:=eW ch} (c::cs)) w G':=by
 obtain⟨fn,d⟩:=d;refine(RX.qv (es:=#[]) (g':=Xh (c.raise ch) cs) (λv=>?_) (λe=>⟨(e.2 c<|by simp[Xh]).gV _,λx j=>e.2 x<|by grind [Xh]⟩) rfl rfl Ä).aA λh w1⟨f,g⟩=>Â
 grind [bF,Xh,cW,Frame.catches,Frame.at]
end
section
variable {P:bT} {F:Array jE} {dm:fk} {w:cY} {a:jG} {Q:Exit->jG->cY->Prop} {fn:FuncId}
def Yp(P:Zp)(fn:FuncId)(c:nW)(Q:Exit->jG->Zy->Prop)(a:jG)(w:Zy):Prop:=
 ∀(b:Zf) (k:List Item) (cs:List Zf) (G':Zg->Zy->Prop),b.fn=fn->b.kind=cJ->(∀e a' w',Q e a' w'->IQ k e a')->
  (∀e a' w' g',Q e a' w'->uL b k cs e a' g'->RX P g' w' G')->RX P (Xh (b.at a (cD c::k)) cs) w G'
def Yp.pG{c t d}(h:Yp P fn c Q a w):Yp P fn c Q a<|re w t d:=λb k f e g i j l=>(h b k f e g i j l).pG
def Yp.BF{c t d}:Yp P fn c Q a (re w t d)↔Yp P fn c Q a w:=⟨λh=>by have:=h.pG (t:=w.tape) (d:=w.drawn);grind [yP,DW],λh=>h.pG⟩
def Yp.Ah(K:Yk P F)(f:mF P dm){c}(p:¬Mc P fn)(g:∀e a w t d,Q e a (re w t d)↔Q e a w)(h:∀t d,c.wp (wf P F) Q a<|re w t d):Yp P fn c Q a w:=λb k n m o i j l=>
 RX.wp K f Â i g j h l
def mg(K:jG->Zy->Prop)(Q:Exit->jG->Zy->Prop):Exit->jG->Zy->Prop
 | dM,a,w=>K a w|e,a,w=>Q e a w
def Yp.tI(K:Yk P F){x y}(r:¬Mc P fn)(hy:ul [cD y])(h:Yp P fn x (mg (λa' w'=>Yp P fn y Q a' w') Q) a w):Yp P fn (fO x y) Q a w:=λb k i o p q f g=>by
 refine RX.eO K (g':=Xh (b.at a (cD x:: cD y::k)) i) Ð (λv=>?_) rfl rfl rfl ?_;simp[bF,Xh,Frame.at,aD];have hk:ul (cD y::k):=by unfold ul at hy⊢;split<;>first|trivial|grind
 refine h b (cD y::k) i o p q (λe a' w' d=>?_) λe a' w' g' d c=>?_;cases e with
 |normal=>exact hk|exit id=>obtain⟨n,j,m⟩:=f _ _ _ d;exact⟨n,j,m⟩
 |goto l=>exact f _ _ _ d|ret=>exact f _ _ _ d
 |panic ch=>exact f _ _ _ d|outgrown=>exact f _ _ _ d
 cases e with
 |normal=>
  obtain⟨_,rfl⟩:=c;exact d b k i o p q f g
 |exit id=>obtain⟨n,j,m,rfl⟩:=c;exact g _ a' w' _ d ⟨n,j,m,rfl⟩
 |goto l=>exact c.elim|ret=>exact g .ret a' w' _ d c
 |panic ch=>exact g _ a' w' _ d c|outgrown=>exact c.elim
def Yp.Od(K:Yk P F){o x y}(l:¬Mc P fn){t}(ho:a.eval o=aX t)(h:Yp P fn (if t then x else y) Q a w):Yp P fn (.cond o x y) Q a w:=λb k c d e f g i=>by refine RX.eO K (g':=Xh (b.at a (cD (if t then x else y)::k)) c) Ð (λv=>?_) rfl rfl rfl<|h b k c d e f g i;have j:(b.at a (cD (.cond o x y)::k)).eval o=aX t:=ho;grind [bF,Xh,Frame.at,aD]
def mM(P:Zp)(fn:FuncId)(ops:Array fj)(Q:Exit->jG->Zy->Prop)(rest:List Nat)(a:jG)(w:Zy):Prop:=
 ∀(b:Zf) (k:List Item) (cs:List Zf) (G':Zg->Zy->Prop),b.fn=fn->b.kind=cJ->(∀e a' w',Q e a' w'->IQ k e a')->
  (∀e a' w' g',Q e a' w'->uL b k cs e a' g'->RX P g' w' G')->RX P (Xh (b.at a (aM ops rest::k)) cs) w G'
variable {ops:Array fj} {rest:List Nat} {i:Nat} {op:fj} {w':cY}
def Yp.BG(K:Yk P F){id}(j:¬Mc P fn)(h:mM P fn ops Q (gO (ak ops)) a w):Yp P fn (eU id ops ao) Q a w:=λb k c d e f g i=>by refine RX.eO K (g':=Xh (b.at a (aM ops (gO (ak ops))::k)) c) Ð (λv=>?_) rfl rfl rfl<|h b k c d e f g i;simp[bF,Xh,Frame.at,aD]
theorem mM.nil(K:Yk P F)(j:¬Mc P fn)(h:Q dM a w):mM P fn ops Q [] a w:=λb k c f g i d e=>by refine RX.eO K (g':=Xh (b.at a k) c) Ð (λv=>?_) rfl rfl rfl<|e dM a w _ h ⟨d _ _ _ h,rfl⟩;simp[bF,Xh,Frame.at,aD]
def mM.ea(K:Yk P F){val}(n:¬Mc P fn)(ho:ops[i]?=ac op)(hw:bC op (eZ ops a.tmps)=aw)
  (m:∀t d,∃t' d',(aL a.eval op).run (wf P F) (re w t d)=cT (fA val) (re w' t' d'))(h:mM P fn ops Q rest (a.put op.dst val) w'):mM P fn ops Q (i::rest) a w:=λb k e c f g j l=>
 RX.ea K Â ho hw Â m (h b k e c f g j l)
def mM.pJ(K:Yk P F)(n:¬Mc P fn)(ho:ops[i]?=ac op)(hw:bC op (eZ ops a.tmps)=aw)
  (m:∀t d,∃t' d',(aL a.eval op).run (wf P F) (re w t d)=cT .skip (re w' t' d'))(h:mM P fn ops Q rest (a.put op.dst aC) w'):mM P fn ops Q (i::rest) a w:=λb k e c f g j l=>
 RX.pJ K Â ho hw Â m (h b k e c f g j l)
def mM.kN(K:Yk P F){f args R}(r:¬Mc P fn)(hd:a.defers=[])(ho:ops[i]?=ac op)(hw:bC op (eZ ops a.tmps)=aw)
  (q:∀v,(aL a.eval op).run (wf P F) v=cT (mo f args) v)(p:Vi P F f)(m:CC P f args w R)
  (o:∀v w',R (ah v) w'->mM P fn ops Q rest (a.put op.dst v) w')(n:∀ch w',R (gU ch) w'->Q (lT ch) a w'):mM P fn ops Q (i::rest) a w:=λb k g e h j l d=>
 RX.kN K Â ho hw Â q p m (λv w' c=>o v w' c b k g e h j l d) (λch w' c=>d (lT ch) a w' _ (n ch w' c) ⟨hd,_,rfl⟩)
def Yp.dB(K:Yk P F){id x}(t:¬Mc P fn)(h:Yp P fn x (λe a' w'=>match e with
  | .exit j=>if j=id then Q dM a' w' else Q (.exit j) a' w'
  |e=>Q e a' w') a w):Yp P fn (.block id x) Q a w:=λb k o q r s f m=>by
 refine RX.eO K (g':=Xh (b.at a (cD x:: .inBlock id::k)) o) Ð (λv=>?_) rfl rfl rfl ?_;simp[bF,Xh,Frame.at,aD];refine h b (.inBlock id::k) o q r s (λe a' w' d=>?_) λe a' w' g' d c=>?_;cases e with
 |normal=>trivial
 |exit j=>
  dsimp only at d;by_cases g:j=id;rw[if_pos g]at d;exact⟨k,by simp[exitTo,g],f _ _ _ d⟩;rw[if_neg g]at d;obtain⟨p,i,n⟩:=f _ _ _ d;exact⟨p,by grind [exitTo],n⟩
 |goto l=>exact f _ _ _ d|ret=>exact f _ _ _ d
 |panic ch=>exact f _ _ _ d|outgrown=>exact f _ _ _ d
 cases e with
 |normal=>
  obtain⟨_,rfl⟩:=c;refine RX.eO K (g':=Xh (b.at a' k) o) Ð (λv=>?_) rfl rfl rfl<|m dM a' w' _ d ⟨f _ _ _ d,rfl⟩;simp[bF,Xh,Frame.at,aD]
 |exit j=>
  dsimp only at d;obtain⟨p,i,n,rfl⟩:=c;by_cases g:j=id;rw[if_pos g]at d;simp only[exitTo,g,BEq.rfl,if_true,xj]at i;subst i;exact m _ a' w' _ d ⟨n,rfl⟩;rw[if_neg g]at d;simp only[exitTo]at i;rw[if_neg Â]at i;exact m _ a' w' _ d ⟨p,i,n,rfl⟩
 |goto l=>exact c.elim|ret=>exact m .ret a' w' _ d c
 |panic ch=>exact m _ a' w' _ d c|outgrown=>exact c.elim
def Yp.wi(K:Yk P F)(j:¬Mc P fn)(hd:a.defers=[])(h:Q .ret a w):Yp P fn .ret Q a w:=λb k c e f g i d=>by refine RX.eO K (g':=Xh {b.at a (cD .ret::k)with mode:=dN} c) Ð (λv=>?_) rfl rfl rfl<|d .ret a w _ h ⟨hd,_,rfl⟩;simp[bF,Xh,Frame.at,aD]
def Yp.pw(K:Yk P F){x}(t:¬Mc P fn)(hx:ul [cD x])(I:jG->Zy->Prop)(m:jG->Zy->Nat)
  (r:∀a w,I a w->Yp P fn x (λe a' w'=>match e with
   | dM=>I a' w'/\m a' w'<m a w|e=>Q e a' w') a w):∀a w,I a w->Yp P fn (.loop x) Q a w:=by
 have q:∀(n:Nat) (a:jG) (w:Zy),m a w<=n->I a w->∀(b:Zf) (k:List Item) (g:List Zf) (i:Zg->Zy->Prop),b.fn=fn->b.kind=cJ->(∀e a' w',Q e a' w'->IQ k e a')->
   (∀e a' w' g',Q e a' w'->uL b k g e a' g'->RX P g' w' i)->RX P (Xh (b.at a (cD x:: mS x::k)) g) w i:=by
  intro n;induction n with
  |zero=>
   intro a w s p b k g i j o f h;refine r a w p b (mS x::k) g i j o (λe a' w' d=>?_) λe a' w' g' d c=>?_;cases e with
   |normal=>trivial|exit id=>exact f _ _ _ d
   |goto l=>exact f _ _ _ d|ret=>exact f _ _ _ d
   |panic ch=>exact f _ _ _ d|outgrown=>exact f _ _ _ d
   cases e with
   |normal=>omega|exit id=>exact h _ _ _ _ d c
   |goto l=>exact c.elim|ret=>exact h _ _ _ _ d c
   |panic ch=>exact h _ _ _ _ d c|outgrown=>exact c.elim
  |succ n ih=>
   intro a w s p b k g i j o f h;refine r a w p b (mS x::k) g i j o (λe a' w' d=>?_) λe a' w' g' d c=>?_;cases e with
   |normal=>trivial|exit id=>exact f _ _ _ d
   |goto l=>exact f _ _ _ d|ret=>exact f _ _ _ d
   |panic ch=>exact f _ _ _ d|outgrown=>exact f _ _ _ d
   cases e with
   |normal=>
    obtain⟨_,rfl⟩:=c;refine RX.eO K (g':=Xh (b.at a' (cD x:: mS x::k)) g) Ð (λv=>?_) rfl rfl rfl<|ih a' w' À d.1 b k g i j o f h;simp[bF,Xh,Frame.at,aD]
   |exit id=>exact h _ _ _ _ d c|goto l=>exact c.elim
   |ret=>exact h _ _ _ _ d c|panic ch=>exact h _ _ _ _ d c
   |outgrown=>exact c.elim
 intro a w p b k g i j o f h;refine RX.eO K (g':=Xh (b.at a (cD x:: mS x::k)) g) Ð (λv=>?_) rfl rfl rfl<|q _ a w (zd _) p b k g i j o f h;simp[bF,Xh,Frame.at,aD]
def CC.BD(K:Yk P F){f args fnc c R}(s:¬Mc P f)(z:F[f]?=P.funcs[f]?)(q:P.funcs[f]?=ac fnc)(x:fnc.body=ac c)(B:ul [])
  (h:Yp P f c (λe a w=>a.defers=[]/\match e with
   | dM| .ret=>∃v,(∀t d,∃t' d',(dX fnc a.tmps).run (wf P F) (re w t d)=cT v (re w t' d'))/\R (ah v) w
   | lT ch=>R (gU ch) w|_=>False) ⟨args++bV (fnc.ntmps-ak args) aC,[]⟩ w):CC P f args w R:=λo p=>by
 have y:aT P f args cJ=(aT P f args cJ).at ⟨args++bV (fnc.ntmps-ak args) aC,[]⟩ [cD c]:=by simp[aT,Frame.at,q,x]
 rw[y];have r:(wf P F).funcs[f]?=ac fnc:=by show F[f]?=_;rw[z];exact q
 refine h (aT P f args cJ) [] (o::p) _ rfl rfl (λe n j i=>?_) λe n j g' i g=>?_;cases e with
 |normal=>trivial|ret=>exact i.1
 |panic ch=>exact i.1|exit id=>grind
 |goto l=>grind|outgrown=>grind
 have leave:∀(b:List Item) v,(∀t d,∃t' d',(dX fnc n.tmps).run (wf P F) (re j t d)=cT v (re j t' d'))->R (ah v) j->RX P (Xh {(aT P f args cJ).at n b with mode:=dN} (o::p)) j (λg' j=>∃e,R e j/\Oa o p e g'):=λb v m k=>
  RX.Fl K s rfl i.1 r m (.refl ⟨_,k,rfl⟩)
 cases e with
 |normal=>
  obtain⟨_,rfl⟩:=g;obtain⟨hd,v,m,k⟩:=i;refine RX.eO K (g':=Xh {(aT P f args cJ).at n []with mode:=dN} (o::p)) s (λv=>?_) rfl rfl rfl<|leave _ v m k;simp[bF,Xh,Frame.at,aD]
 |ret=>
  obtain⟨_,b,rfl⟩:=g;obtain⟨hd,v,m,k⟩:=i;exact leave _ v m k
 |panic ch=>
  obtain⟨_,b,rfl⟩:=g;exact RX.Fm i.1 ⟨_,q⟩<|.refl ⟨_,i.2,rfl⟩
 |exit id=>grind|goto l=>grind
 |outgrown=>grind
end
section
variable {P:bT} {F:Array jE} {dm:fk} {w:cY} {a:jG} {Q:Exit->jG->cY->Prop} {fn:FuncId} {ops:Array fj} {md:Region.Mode}
def Yp.Oe(K:Yk P F){id}(s:¬Mc P fn)(y:P.follows mV=aw)(h:∀t,mM P fn ops Q (cB ff ops (ak ops) t (bV (ak ops) ao) []) a w):Yp P fn (eU id ops aw) Q a w:=λb k c o m p q r=>by
 have v:¬Mc P b.fn:=by rw[m];exact s
 refine(RX.sY K v (G:=λl w1=>∃t,l=Xh (b.at a (aM ops (cB ff ops (ak ops) t (bV (ak ops) ao) [])::k)) c/\qK w w1) λX _ t d=>?_).aA λl w1⟨t,f,g⟩=>?_;have z:∃n j,bF (wf P F) aw (Xh (b.at a (cD (eU id ops aw)::k)) c) (A.re w t d)=gj (Xh (b.at a (aM ops (cB ff ops (ak ops) n (bV (ak ops) ao) [])::k)) c) j #[]/\qK w j:=by have i:(wf P F).follows mV=aw:=y;refine⟨t d<|.order b.fn id,A.re w t _, ?_,t,d+1,rfl⟩;simp[bF,Xh,Frame.at,aD,choose,fp,il,i,Region.linearise,A.re];rfl
 obtain⟨n,j,e,x⟩:=z;exact⟨⟨_,_,⟨_,e,rfl,rfl⟩,n,rfl,x⟩,λC D B f g=>by rw[e]at f;cases f;have:aa c=aa c+1:=g;omega⟩;subst f;exact g.rx<|h t b k c o m p q r
def oX(P:Zp)(fn:FuncId)(ops:Array fj)(Q:Exit->jG->Zy->Prop)(i:Nat)(K:jG->Zy->Prop)(a:jG)(w:Zy):Prop:=
 ∀rest,(∀a' w',K a' w'->mM P fn ops Q rest a' w')->mM P fn ops Q (i::rest) a w
def IY(P:Zp)(fn:FuncId)(md:Region.Mode)(ops:Array fj)(Q:Exit->jG->Zy->Prop):Nat->Array Bool->jG->Zy->Prop
 |0,listed,a,w=>aW md ops listed=[]/\Q dM a w|fuel+1,listed,a,w=>(aW md ops listed=[]->Q dM a w)/\∀i∈aW md ops listed,oX P fn ops Q i (IY P fn md ops Q fuel<|ay listed i aw) a w
def zxy(K:Yk P F)(d:¬Mc P fn):∀(fuel t:Nat) (listed:Array Bool) (a:jG) (w:Zy),IY P fn md ops Q fuel listed a w->mM P fn ops Q (cB md ops fuel t listed []) a w:=by
 intro fuel;induction fuel with
 |zero=>intro t listed a w h;simpa[cB]using mM.nil (ops:=ops) K d h.2
 |succ fuel ih=>
  intro t listed a w h;obtain⟨g,e⟩:=h;simp only[cB];change mM P fn ops Q (match(aW md ops listed)[t%aa (aW md ops listed)]?with
   |some i=>cB md ops fuel (t/aa (aW md ops listed)) (ay listed i aw) [i]|none=>[].reverse) a w
  cases hi:(aW md ops listed)[t%aa (aW md ops listed)]?with
  |none=>
   have b:aW md ops listed=[]:=by cases hr:aW md ops listed with|nil=>rfl|cons x xs=>grind [Nat.mod_lt]
   grind [mM.nil]
  |some i=>simp only[];rw[linearise_go_acc,KU,Vz];exact e i (List.mem_of_getElem? hi) _ λc f hk=>ih _ _ c f hk
def Yp.Fp(K:Yk P F){id}(b:¬Mc P fn)(c:P.follows mV=aw)(h:IY P fn ff ops Q (ak ops) (bV (ak ops) ao) a w):Yp P fn (eU id ops aw) Q a w:=
 Yp.Oe K b c λt=>zxy K b _ t _ a w h
end
section
variable {P:bT} {F:Array jE} {dm:fk} {w w':cY} {a:jG} {Q:Exit->jG->cY->Prop} {fn:FuncId} {ops:Array fj} {md:Region.Mode} {i:Nat} {op:fj} {N:jG->cY->Prop}
def oX.W{c}(h:∀a w,N a w->c a w)(k:oX P fn ops Q i N a w):oX P fn ops Q i c a w:=λb hk=>k b λd e f=>hk d e<|h d e f
def oX.ea(K:Yk P F){val}(c:¬Mc P fn)(ho:ops[i]?=ac op)(hw:bC op (eZ ops a.tmps)=aw)
  (e:∀t d,∃t' d',(aL a.eval op).run (wf P F) (A.re w t d)=cT (fA val) (A.re w' t' d'))(h:N (a.put op.dst val) w'):oX P fn ops Q i N a w:=λb hk=>mM.ea K c ho hw e<|hk _ _ h
def oX.pJ(K:Yk P F)(c:¬Mc P fn)(ho:ops[i]?=ac op)(hw:bC op (eZ ops a.tmps)=aw)
  (e:∀t d,∃t' d',(aL a.eval op).run (wf P F) (A.re w t d)=cT .skip (A.re w' t' d'))(h:N (a.put op.dst aC) w'):oX P fn ops Q i N a w:=λb hk=>mM.pJ K c ho hw e<|hk _ _ h
def oX.kN(K:Yk P F){f args R}(c:¬Mc P fn)(hd:a.defers=[])(ho:ops[i]?=ac op)(hw:bC op (eZ ops a.tmps)=aw)
  (k:∀v,(aL a.eval op).run (wf P F) v=cT (mo f args) v)(j:Vi P F f)(e:CC P f args w R)
  (h:∀v w',R (ah v) w'->N (a.put op.dst v) w')(g:∀ch w',R (gU ch) w'->Q (lT ch) a w'):oX P fn ops Q i N a w:=λb hk=>mM.kN K c hd ho hw k j e (λv w' d=>hk _ _<|h v w' d) g
end
section
variable {P:bT} {F:Array jE} {dm:fk} {w w':cY} {a:jG} {Q:Exit->jG->cY->Prop} {fn:FuncId} {ops:Array fj} {i:Nat} {op:fj} {rest:List Nat}
def RX.rL{b:Zf}{k:List Item}{cs:List Zf}{G':Zg->Zy->Prop}{f:FuncId}{args:Za}(ho:ops[i]?=ac op)(hw:bC op (eZ ops a.tmps)=aw)(hk:b.kind≠ dY)
  (o:∀v,(aL a.eval op).run P v=cT (mo f args) v)(m:∀v,jX P b.fn a op v=#[])(t:Mc P f)(l:CC P f args w R)
  (x:∀v w',R (ah v) w'->RX P (Xh (b.at (a.put op.dst v) (aM ops rest::k)) cs) w' G')
  (s:∀ch w',R (gU ch) w'->RX P (Xh {b.at a (aM ops (i::rest)::k)with mode:=eW ch} cs) w' G'):
  RX P (Xh (b.at a (aM ops (i::rest)::k)) cs) w G':=by
 refine(RX.qv (g':=Xh (aT P f args cJ) (b.at a (aM ops (i::rest)::k)::cs)) (es:=#[]) (λv=>by rw[<-m v];exact stepG_enter ho hw hk<|o v) (λd=>⟨aF ?_,λc h=>?_⟩) rfl rfl λX n e r=>Â).aA ?_;show Mc P (aT P f args cJ).fn;grind [aT];obtain rfl|j:=jc.1 h;exact d.1;exact d.2 c j;rintro p w1⟨rfl,rfl⟩;refine(l _ _).aA ?_;rintro g' w'⟨e,q,g⟩;cases e with
 |outgrown=>exact g.elim|returned v=>cases g;grind [zcb]
 |panicked ch=>cases g;grind [Frame.raise_at]
def mM.rL{f args R}(hd:a.defers=[])(ho:ops[i]?=ac op)(hw:bC op (eZ ops a.tmps)=aw)
  (q:∀v,(aL a.eval op).run P v=cT (mo f args) v)(r:∀v,jX P fn a op v=#[])(o:Mc P f)(m:CC P f args w R)
  (p:∀v w',R (ah v) w'->mM P fn ops Q rest (a.put op.dst v) w')(n:∀ch w',R (gU ch) w'->Q (lT ch) a w'):mM P fn ops Q (i::rest) a w:=λb k g e h j l d=>
 RX.rL ho hw Â q Â o m (λv w' c=>p v w' c b k g e h j l d) (λch w' c=>d (lT ch) a w' _ (n ch w' c) ⟨hd,_,rfl⟩)
end
end
end
section
open Go.RowKit
variable [pn:Pn]
section
variable {P:bT} {F:Array jE} {dm:fk} {w w':cY} {a:jG} {Q:Exit->jG->cY->Prop} {fn:FuncId} {ops:Array fj} {rest:List fj} {op:fj}
def pm(Q:Exit->jG->Zy->Prop):Prop:=∀e a w t d,Q e a (re w t d)↔Q e a w
def pm.mg(h:pm Q){y}:pm<|A.mg (λa' w'=>Yp P fn y Q a' w') Q:=by
 intro e a w t d;cases e with
 |normal=>exact Yp.BF|exit id=>exact h _ _ _ _ _
 |goto l=>exact h _ _ _ _ _|ret=>exact h _ _ _ _ _
 |panic ch=>exact h _ _ _ _ _|outgrown=>exact h _ _ _ _ _
def Yp.go(K:Yk P F)(b:mF P dm)(c:¬Mc P fn)(e:pm Q){x y}(hy:ul [cD y])(h:∀t d,x.wp (wf P F) (A.mg (λa' w'=>Yp P fn y Q a' w') Q) a<|re w t d):Yp P fn (fO x y) Q a w:=
 Yp.tI K c hy (Yp.Ah K b c e.mg h)
def Yp.wS(K:Yk P F)(b:mF P dm)(c:¬Mc P fn)(f:pm Q){x y}(hy:ul [cD y])
  (h:∀(w0:Zy) (Po:Exit->jG->Zy->Prop),qK w w0->aK (∀a' w',Yp P fn y Q a' w'->Po dM a' w')->aK (∀e a' w',e≠ dM->Q e a' w'->Po e a' w')->x.wp (wf P F) Po a w0):Yp P fn (fO x y) Q a w:=
 Yp.go K b c f hy λt d=>h _ _ ⟨t,d,rfl⟩ (λa' w' g=>g) λe a' w' j i=>by cases e<;>first|exact i|grind
def Yp.vF(K:Yk P F)(b:mF P dm)(c:¬Mc P fn)(f:pm Q){x}
  (h:∀(w0:Zy) (Po:Exit->jG->Zy->Prop),qK w w0->aK (∀e a' w',Q e a' w'->Po e a' w')->x.wp (wf P F) Po a w0):Yp P fn x Q a w:=
 Yp.Ah K b c f λt d=>h _ _ ⟨t,d,rfl⟩ λe a' w' g=>g
def qM(P:Zp)(F:Zc)(fnc:jE)(R:kU->Zy->Prop)(e:Exit)(a:jG)(w:Zy):Prop:=
 a.defers=[]/\match e with
   | dM| .ret=>∃v,(∀t d,∃t' d',(dX fnc a.tmps).run (wf P F) (re w t d)=cT v (re w t' d'))/\R (ah v) w
   | lT ch=>R (gU ch) w|_=>False
def Aj{fnc R}(b:∀e w t d,R e (re w t d)↔R e w):pm<|qM P F fnc R:=by
 intro e a w t d;refine and_congr_right λ_=>?_;cases e with
 |normal=>exact exists_congr λv=>and_congr (by simp only[yP])<|b ..
 |ret=>exact exists_congr λv=>and_congr (by simp only[yP])<|b ..
 |panic ch=>grind|exit id=>grind
 |goto l=>grind|outgrown=>grind
def CC.jK(K:Yk P F){f args fnc c R}(a:¬Mc P f)(e:F[f]?=P.funcs[f]?)(d:P.funcs[f]?=ac fnc)(b:fnc.body=ac c)
  (h:Yp P f c (qM P F fnc R) ⟨args++bV (fnc.ntmps-ak args) aC,[]⟩ w):CC P f args w R:=CC.BD K a e d b trivial h
def Vh(P:Zp)(fn:FuncId)(ops:Array fj)(Q:Exit->jG->Zy->Prop)(l:List fj)(a:jG)(w:Zy):Prop:=
 ∀k,(∀j,l[j]?=ops[k+j]?)->mM P fn ops Q (List.range' k (aa l)) a w
def Yp.gv(K:Yk P F){id l}(b:¬Mc P fn)(h:Vh P fn (aV l) Q l a w):Yp P fn (eU id (aV l) ao) Q a w:=by refine Yp.BG K b ?_;have:=h 0 (λj=>Ä);rwa[List.range_eq_range']
theorem Vh.nil(K:Yk P F)(b:¬Mc P fn)(h:Q dM a w):Vh P fn ops Q [] a w:=λk hk=>mM.nil K b h
def Vh.qL{l k}(h:∀j,(op::l)[j]?=ops[k+j]?):ops[k]?=ac op/\∀j,l[j]?=ops[k+1+j]?:=
 ⟨by simpa using(h 0).symm,λj=>by have:=h<|j+1;grind⟩
def Vh.ea(K:Yk P F){val}(e:¬Mc P fn)(hw:bC op (eZ ops a.tmps)=aw)
  (f:∀t d,∃t' d',(aL a.eval op).run (wf P F) (re w t d)=cT (fA val) (re w' t' d'))(h:Vh P fn ops Q rest (a.put op.dst val) w'):Vh P fn ops Q (op::rest) a w:=λk hk=>by
 obtain⟨b,c⟩:=Vh.qL hk;rw[xg,Gx];exact mM.ea K e b hw f<|h _ c
def Vh.kN(K:Yk P F){f args R}(d:¬Mc P fn)(hd:a.defers=[])(hw:bC op (eZ ops a.tmps)=aw)
  (l:∀v,(aL a.eval op).run (wf P F) v=cT (mo f args) v)(j:Vi P F f)(g:CC P f args w R)
  (i:∀v w',R (ah v) w'->Vh P fn ops Q rest (a.put op.dst v) w')(h:∀ch w',R (gU ch) w'->Q (lT ch) a w'):Vh P fn ops Q (op::rest) a w:=λk hk=>by
 obtain⟨b,c⟩:=Vh.qL hk;rw[xg,Gx];exact mM.kN K d hd b hw l j g (λv w' e=>i v w' e _ c) h
def Vh.rL{f args R}(hd:a.defers=[])(hw:bC op (eZ ops a.tmps)=aw)
  (l:∀v,(aL a.eval op).run P v=cT (mo f args) v)(h:∀v,jX P fn a op v=#[])(i:Mc P f)(e:CC P f args w R)
  (j:∀v w',R (ah v) w'->Vh P fn ops Q rest (a.put op.dst v) w')(g:∀ch w',R (gU ch) w'->Q (lT ch) a w'):Vh P fn ops Q (op::rest) a w:=λk hk=>by
 obtain⟨b,c⟩:=Vh.qL hk;rw[xg,Gx];exact mM.rL hd b hw l h i e (λv w' d=>j v w' d _ c) g
end
end
section
variable [pn:Pn]
section
variable {X:Nat->Prop} {Th:Loc->Prop} {Wg C c p B:Nat} {a0:Addr} {T u:fG}
def uk(Wg:Nat)(l:Loc):Prop:=∃a,l=kF a/\a.block=Wg
structure IS(X:ZP)(Th:Loc->Prop)(Wg C:Nat):Prop where
 th:∀l,Th l->sy X l\/∃r,l=nG r/\X r
 wg:X Wg
 no:∀l,Th l->¬uk Wg l
 nc:¬Th (nG C)
 xc:X C
structure TP(X:ZP)(Th:Loc->Prop)(Wg C c:Nat)(a0:Addr)(p B:Nat)(T:fG):Prop where
 fM:∀said,¬Race said T
 k0:∀i a,li T i=ac a->a.loc.isMemory=aw->Knows T 0 i\/(sy X a.loc/\a.kind= .atomic)\/(T.g? i=ac c/\Th a.loc/\a.write=ao/\a.kind= .plain)\/(uw X a.loc/\¬Th a.loc/\a.write=ao)
 kc:∀i a,li T i=ac a->Th a.loc->a.write=aw->Knows T c i
 kt:∀i a,li T i=ac a->Th a.loc->Knows T 0 i\/(T.g? i=ac c/\a.write=ao/\a.kind= .plain)
 kC:∀i a,li T i=ac a->a.loc=nG C->a.write=ao
 kw:∀i a,li T i=ac a->uk Wg a.loc->a.kind≠ .plain/\(a.kind= .said->Knows T 0 i)
 lC:∀i g,T.g? i=ac g->g≠0->T.counts i->(∃j,T.g? j=ac 0/\mD T i j)\/g=c
 gc:∀i a,li T i=ac a->a.loc.low B
 rM:∀i,p<=i->T.act? i≠ac (fT<|jC a0)
def OkT(X:ZP)(Th:Loc->Prop)(Wg C c g:Nat)(b:Touch):Prop:=
 (g=0/\(¬sy X b.loc\/Th b.loc)/\(Th b.loc->b.write=ao\/c=0)/\(uw X b.loc->¬Th b.loc->b.write=ao))\/(uk Wg b.loc/\(b.kind= .atomic\/(b.kind= .said/\g=0)))\/(g=c/\Th b.loc/\b.write=ao/\b.kind= .plain)\/(g=c/\b.loc=nG C/\b.write=ao)
def TP.W{b}(h:TP X Th Wg C c a0 p B T)(d:B<=b):TP X Th Wg C c a0 p b T:=⟨h.fM,h.k0,h.kc,h.kt,h.kC,h.kw,h.lC,λi a e=>Loc.low_mono d<|h.gc i a e,h.rM⟩
def Om(h:∀i,p<=i->T.act? i≠ac (fT<|jC a0))(e:∀op∈u,op.act≠ fT (jC a0)):∀i,p<=i->(T++u).act? i≠ac (fT<|jC a0):=by intro i d a;obtain⟨op,c,b⟩:=zv.1 a;grind [act?_of]
def On(h:∀i a,li T i=ac a->a.loc.low B)(f:∀op∈u,∀x,op.act.touch?=ac x->x.loc.low B):∀i a,li (T++u) i=ac a->a.loc.low B:=λi a b=>by obtain⟨_,c⟩|⟨_,op,d,_,e⟩:=Z9 b;grind;grind
theorem TP.gk(A:IS X Th Wg C)(h:TP X Th Wg C c a0 p B T){g}(hg:g=0\/g=c)(G:∀op∈u,op.g=g)(D:∀op∈u,∀b,op.act.touch?=ac b->b.loc.isMemory=aw->OkT X Th Wg C c g b)
  (hl:∀op∈u,∀x,op.act.touch?=ac x->x.loc.low B)(hr:∀op∈u,op.act≠ fT (jC a0))(F:∀l,Th l->l.isMemory=aw):TP X Th Wg C c a0 p B<|T++u:=by
 have wx:∀l,uk Wg l->sy X l:=λl⟨a,e,y⟩=>⟨a,e,by rw[y];exact A.wg⟩;have wm:∀l,uk Wg l->l.isMemory=aw:=λl⟨a,e,y⟩=>by rw[e];rfl
 have wc:¬uk Wg (nG C):=λ⟨a,e,_⟩=>Ç
 have own:∀{i},T.g? i=ac 0->Knows T 0 i:=λ{i} hk=>by obtain⟨z,S,ba⟩:=zv.1 hk;grind [knows_own]
 refine⟨λsaid=>nM (h.fM said) G λi a o op d b y q=>?_,λi a o R=>?_,λi a o t hw=>?_,λi a o t=>?_,λi a o J=>?_,λi a o E=>?_,λi U V M L=>?_,On h.gc hl,Om h.rM hr⟩;have K:b.loc.isMemory=aw:=by rw[<-q.1];exact q.2.1
 have w:a.write=ao->b.write=ao->False:=λf k=>by obtain x|x:=q.2.2.1;grind;grind
 obtain⟨rfl,f,k,H⟩|⟨f,k⟩|⟨rfl,f,k,_⟩|⟨rfl,f,k⟩:=D op d b y K;by_cases s:Th b.loc;obtain hk|⟨hk,O,_⟩:=h.kt i a o (q.1.symm▸s);exact hk;grind;obtain hk|⟨hs,_⟩|⟨_,I,_⟩|⟨I,O⟩:=h.k0 i a o q.2.1;exact hk;exact absurd (q.1▸hs)<|f.resolve_right s;exact absurd (q.1▸I) s;exact(w O.2<|H (q.1▸I) s).elim;obtain⟨H,I⟩:=h.kw i a o<|q.1.symm▸f;obtain k|⟨k,rfl⟩:=k;obtain x|x|⟨_,_,x⟩:=q.c;grind;grind;grind;obtain x|x|⟨_,x,_⟩:=q.c;grind;grind;grind;refine h.kc i a o (q.1.symm▸f) ?_;grind;exact(w (h.kC i a o<|q.1.trans f) k).elim;obtain⟨r,m⟩|⟨r,op,d,v,n⟩:=Z9 o;obtain hk|hk|⟨Y,Z⟩|hk:=h.k0 i a m R;exact aF<|hk.app u;grind;grind [g?_old];grind;have N:Knows (T++u) g i:=ß
 obtain⟨rfl,_⟩|⟨f,k⟩|⟨rfl,f,k,H⟩|⟨rfl,f,k⟩:=D op d a n R;grind;grind;grind [gw];exact aE<|aE<|aE ⟨⟨C,f,A.xc⟩,f▸A.nc,k⟩;obtain⟨r,m⟩|⟨r,op,d,v,n⟩:=Z9 o;exact(h.kc i a m t hw).app u;have N:Knows (T++u) g i:=ß
 obtain⟨rfl,_,k,_⟩|⟨f,_⟩|⟨_,_,k,_⟩|⟨_,f,_⟩:=D op d a n (F _ t);grind;exact absurd f<|A.no _ t;grind;grind;obtain⟨r,m⟩|⟨r,op,d,v,n⟩:=Z9 o;exact(h.kt i a m t).imp (·.app u) λx=>⟨by grind [g?_old],x.2⟩;have N:Knows (T++u) g i:=ß
 obtain⟨rfl,_⟩|⟨f,_⟩|⟨rfl,_,k,H⟩|⟨_,f,_⟩:=D op d a n (F _ t);grind;exact absurd f<|A.no _ t;grind [gw];exact absurd (f▸t) A.nc;obtain⟨r,m⟩|⟨r,op,d,v,n⟩:=Z9 o;exact h.kC i a m J;rcases D op d a n (by rw[J];rfl)with⟨_,_,_,k⟩|⟨f,_⟩|⟨_,_,k,_⟩|⟨_,_,k⟩;exact k ⟨C,J,A.xc⟩<|J▸A.nc;grind;exact k;omega;obtain⟨r,m⟩|⟨r,op,d,v,n⟩:=Z9 o;exact⟨(h.kw i a m E).1,λe=>((h.kw i a m E).2 e).app u⟩;have N:Knows (T++u) g i:=ß
 obtain⟨_,f,_⟩|⟨_,k⟩|⟨_,f,_⟩|⟨_,f,_⟩:=D op d a n (wm _ E);obtain f|f:=f;grind;exact absurd E<|A.no _ f;grind;exact absurd E<|A.no _ f;grind;obtain r|r:=AK i (ak T);rcases h.lC i U (by grind [g?_old]) M ((counts_old r).1 L)with⟨j,Q,y⟩|e;have W:j<ak T:=by unfold gw at Q;obtain⟨z,S,_⟩:=zv.1 Q;exact gr S
 exact aF ⟨j,by grind [g?_old],hb_app u y⟩;omega;grind [gw]
def TP.pZ(h:TP X Th Wg C c a0 p B T){g}(J:∀op∈u,op.g=g)(N:∀op∈u,op.act.touch?=ar)(I:∀op∈u,op.act≠ fT (jC a0)):TP X Th Wg C c a0 p B<|T++u:=by
 refine⟨λsaid=>nM (h.fM said) J λi a l op f b t M=>Â,λi a l H=>?_,λi a l q K=>?_,λi a l q=>?_,λi a l y=>?_,λi a l s=>?_,λi w D r o=>?_,On h.gc λop f x n=>Â,Om h.rM I⟩;obtain⟨k,d⟩|⟨k,op,f,n,m⟩:=Z9 l;obtain hk|hk|⟨F,G⟩|hk:=h.k0 i a d H;exact aF<|hk.app u;grind;grind [g?_old];grind;grind;obtain⟨k,d⟩|⟨k,op,f,n,m⟩:=Z9 l;exact(h.kc i a d q K).app u;grind;obtain⟨k,d⟩|⟨k,op,f,n,m⟩:=Z9 l;exact(h.kt i a d q).imp (·.app u) λx=>⟨by grind [g?_old],x.2⟩;grind;obtain⟨k,d⟩|⟨k,op,f,n,m⟩:=Z9 l;exact h.kC i a d y;grind;obtain⟨k,d⟩|⟨k,op,f,n,m⟩:=Z9 l;exact⟨(h.kw i a d s).1,λe=>((h.kw i a d s).2 e).app u⟩;grind;obtain⟨x,n,_⟩:=id o;obtain k|k:=AK i (ak T);rcases h.lC i w (by grind [g?_old]) r ((counts_old k).1 o)with⟨j,v,t⟩|e;have E:j<ak T:=by unfold gw at v;obtain⟨z,L,_⟩:=zv.1 v;exact gr L
 exact aF ⟨j,by grind [g?_old],hb_app u t⟩;omega;grind [touch_of]
def TP.Ob(h:TP X Th Wg C 0 a0 p B T)(V:c≠0)(K:Deaf T 0=0)(E:Deaf T c=0){x y}(hx:x.g=0/\x.act= .go c)(hy:y.g=c/\y.act= .start):TP X Th Wg C c a0 p B<|T++#[x,y]:=by
 have G:(T++#[x,y])[ak T]?=ac x:=Ä
 have H:(T++#[x,y])[ak T+1]?=ac y:=Ä
 have o:mD (T++#[x,y]) (ak T)<|ak T+1:=by refine .single<|aE ⟨.spawn (by rw[act?_of G,hx.2]) (by rw[act?_of H,hy.2])<|by simp[gw,hy.1],⟨0,by simp[gw,hx.1], ?_⟩,⟨c,by simp[gw,hy.1], ?_⟩⟩;rw[deaf_old<|zd _];exact K;rw[deaf_succ G,deaf_old<|zd _];have:T.deaf c (ak T)=0:=E;grind [deafStep]
 have Y:∀l∈#[x,y],l.act.touch?=ar:=λl d=>by simp at d;obtain rfl|rfl:=d;rw[hx.2];rfl;rw[hy.2];rfl
 have k:∀{i a},li (T++#[x,y]) i=ac a->li T i=ac a:=λ{i a} f=>by obtain⟨v,D⟩|⟨v,l,d,hx,R⟩:=Z9 f;exact D;grind
 have S:∀{i a},li T i=ac a->i<ak T:=λ{i a} f=>by obtain⟨z,m,_⟩:=touch_of f;grind
 refine⟨λsaid=>?_,λi a f N=>?_,λi a f w Q=>?_,λi a f w=>aF ?_,λi a f L=>h.kC i a (k f) L,λi a f I=>⟨(h.kw i a (k f) I).1,λe=>((h.kw i a (k f) I).2 e).app _⟩,λi g W F r=>?_,On h.gc λl d x hx=>Â,Om h.rM λl d=>?_⟩;have e:T++#[x,y]=(T++#[x])++#[y]:=by rw[Xn];rfl
 rw[e];refine nM (g:=c) (nM (g:=0) (h.fM said) (λl d=>Ë) λi a f l d b hb _=>?_) (λl d=>Ë) λi a f l d b hb _=>?_;simp_all;simp_all;obtain hk|hk|⟨hk,_⟩|hk:=h.k0 i a (k f) N;exact aF<|hk.app _;grind;obtain⟨z,m,n⟩:=zv.1 hk;grind [knows_own];grind;obtain⟨q,z,m,n,hb⟩:=h.kc i a (k f) w Q;have s:=gr m;have U:mD (T++#[x,y]) q (ak T):= .single (aF ⟨s,0,by simp[gw,getElem?_append_old s,m,n],by simp[gw,hx.1]⟩);exact⟨ak T+1,y,H,hy.1,aE<|(hb.app _).hb<|.trans U o⟩;obtain hk|⟨hk,_⟩:=h.kt i a (k f) w;exact hk.app _;obtain⟨z,m,n⟩:=zv.1 hk;grind [knows_own];obtain v|v:=AK i (ak T);rcases h.lC i g (by grind [g?_old]) F ((counts_old v).1 r)with⟨j,J,hb⟩|e;have M:j<ak T:=by unfold gw at J;obtain⟨z,m,_⟩:=zv.1 J;exact gr m
 exact aF ⟨j,by grind [g?_old],hb_app _ hb⟩;omega;exfalso;obtain⟨t,O,_⟩:=r;have:=S<|k O;omega;simp at d;obtain rfl|rfl:=d;grind;grind
structure tH(a:Addr)(c:Nat)(T:fG)(r:Nat):Prop where
 IR:T.act? r=ac (fT<|.releaseMerge a)
 g:T.g? r=ac c
 Ae:T.heard r
 Ad:∀i,r<i->T.g? i=ac c->¬T.counts i
theorem tH.gk{a r}(h:tH a c T r)(k:∀i,ak T<=i->(T++u).g? i=ac c->¬(T++u).counts i):tH a c (T++u) r:=by
 have d:=lt_of_act? h.IR;refine⟨by rw[act?_old d];exact h.IR,by rw[g?_old d];exact h.g,(heard_old d).2 h.Ae,λi f j=>?_⟩;obtain b|e:=AK i (ak T);rw[counts_old b];exact h.Ad i f<|by grind [g?_old]
 grind
def TP.Oc(A:IS X Th Wg C)(h:TP X Th Wg C c a0 p B T){r q}(f:tH a0 c T r)(K:p<=r)(L:T.act? q=ac (fT<|.acquire a0))(E:T.g? q=ac 0)(G:T.heard q)(s:r<q)(hd:Deaf T 0=0)
  {X'}(y:∀l,sy X l->¬Th l->sy X' l)(D:∀l,uw X l->¬Th l->uw X' l):sZ X' B T:=by
 have d:mD T r q:= .single (aE ⟨.marked s (aE f.IR) L λk hk _=>h.rM k À,f.Ae,G⟩);obtain⟨z,x,e⟩:∃z,T[q]?=ac z/\z.g=0:=by obtain⟨z,x,e⟩:=zv.1 E;grind
 have M:∀i,T.g? i=ac c->T.counts i->mD T i q:=λi a m=>by have J:=Nat.le_of_not_lt λb=>f.Ad i b a m;obtain b|F:=AK i r;exact .trans (.single<|aF ⟨b,c,a,f.g⟩) d;grind
 refine⟨h.fM,λi t v w=>?_,λi g a o m=>?_,hd,h.gc⟩;by_cases j:Th t.loc;obtain hk|⟨n,H,I⟩:=h.kt i t v j;grind;exact aF ⟨q,z,x,e,aE<|M i n ⟨t,v,w,aF Â⟩⟩;obtain hk|hk|⟨_,hk,_⟩|hk:=h.k0 i t v w;grind;grind;grind;grind;obtain hk|rfl:=h.lC i g a o m;exact hk;grind
end
end
section
open Go.ConcN (sumTo upd sumTo_upd upd_ne upd_same RW DWs AtR0 AtK1 AtD1 AtD2 AtD3 AtD4 WgLive PayAt Has AsideCell EvW)
open Go.ConcR (KK wgBlock WgAt stA smA rd wr mk Payload DC0)
variable [pn:Pn]
section
variable [cZ] (P:bT) (ty:nt) (Wg C:Nat) (S:Nat->Prop) (D M c:Nat) (vals:List dL) (o:Nat->Obj)
def tJ(S:ZP)(M:Nat)(l:Loc):Prop:=(∃a,l=kF a/\(S a.block\/a.block=M))\/∃x,l=nG x/\(S x\/x=M)
def Kc(S:ZP)(M:Nat)(o:Nat->Obj)(w:Zy):Prop:=∀x,S x\/x=M->w.heap[x]?=ac (o x)
def RS(S:ZP)(M:Nat)(o:Nat->Obj)(w w₁:Zy):Prop:=Kc S M o w->Kc S M o w₁
def Ac(S:ZP)(M:Nat)(e:lh):Prop:=(∀x,(bN e).touch?=ac x->tJ S M x.loc/\x.write=ao/\x.kind= .plain)/\e.loc≠ .mark mR/\e.loc≠ .mark mQ/\∀a,e.loc≠ .mark (jC a)
def DS(S:ZP)(M:Nat)(w w':Zy)(es:Array lh):Prop:=w'=w/\∀e∈es,Ac S M e
def uK:Nat->Loc->Prop:=λ_ _=>False
def Oh(g:Zg)(w:Zy):Prop:=g.status=aZ/\(nI ty Wg w->∃v0 v1 m0 m1,
 fm P ao (RW ty Wg D 3 0 0) (DWs Wg uK uK D 3 1) (AtR0 P ty Wg D 3 0 1 v0) m0 g w/\fm P ao (RW ty Wg D 3 0 1) (DWs Wg uK uK D 3 2) (AtR0 P ty Wg D 3 0 2 v1) m1 g w)
def Fin(g:Zg)(w:Zy):Prop:=∃m,fm P ao (RS S M o) (DS S M) (Oh P ty Wg D) m g w
def Fy(g:Zg)(w:Zy):Prop:=g.status=aZ/\mayWake P g=aw/\∀cap buf s r,w.heap[C]?=ac (.chan cap buf ao s r ao)->
 ∃g':Zg,bF P ao g w=gj g' (w.setChan C cap buf aw s r ao) #[⟨nG C,ao,aw⟩,⟨nG C,aw,aw⟩]/\g'.status=aZ/\∀w',Kc S M o w'->Fin P ty Wg S D M o g' w'
def BP(v:Zv)(Next:Zg->Zy->Prop)(g:Zg)(w:Zy):Prop:=g.status=aZ/\∃g₂ z es,bF P ao g w= .comm g₂ #[scase C v z] aw .send w es/\(∀e∈es,Ac S M e)/\∀w',Kc S M o w'->Next (lK g₂ aC) w'
def yx:Ze->Zg->Zy->Prop
 |[],g,w=>∃m,fm P ao (RS S M o) (DS S M) (Fy P ty Wg C S D M o) m g w|v::vs,g,w=>∃m,fm P ao (RS S M o) (DS S M) (BP P C S M o v<|yx vs) m g w
inductive Ch:Nat->Nat->Nat->Ze->Zg->Zy->Prop
 |send {v vs m b w} (h:fm P ao (RS S M o) (DS S M) (BP P C S M o v<|yx P ty Wg C S D M o vs) m b w):Ch 0 (10+aa vs) m (v::vs) b w
 |cls {m b w} (h:fm P ao (RS S M o) (DS S M) (Fy P ty Wg C S D M o) m b w):Ch 0 9 m [] b w
 |fin {m b w} (h:fm P ao (RS S M o) (DS S M) (Oh P ty Wg D) m b w):Ch 0 8 m [] b w
 |dn {v0 v1 m0 m1 b w} (h0:fm P ao (RW ty Wg D 3 0 0) (DWs Wg uK uK D 3 1) (AtR0 P ty Wg D 3 0 1 v0) m0 b w) (h1:fm P ao (RW ty Wg D 3 0 1) (DWs Wg uK uK D 3 2) (AtR0 P ty Wg D 3 0 2 v1) m1 b w):Ch 0 7 (m0+m1) [] b w
 |rel {k m b w} (hk:k=1\/k=2) (h:fm P ao (RW ty Wg D 3 0<|k-1) DC0 (AtK1 P ty Wg D 3 0 k) m b w):Ch 0 6 m [] b w
 |deaf {k m b w} (hk:k=1\/k=2) (h:fm P ao (RW ty Wg D 3 0<|k-1) DC0 (AtD1 P ty Wg D 3 0 k) m b w):Ch 1 5 m [] b w
 |d2 {k m b w} (hk:k=1\/k=2) (h:fm P ao (RW ty Wg D 3 0<|k-1) DC0 (AtD2 P ty Wg D 3 0 k) m b w):Ch 1 4 m [] b w
 |d3 {k m b w} (hk:k=1\/k=2) (h:fm P ao (RW ty Wg D 3 0<|k-1) DC0 (AtD3 P ty Wg D 3 0 k) m b w):Ch 1 3 m [] b w
 |d4 {k m b w} (hk:k=1\/k=2) (h:fm P ao (RW ty Wg D 3 0<|k-1) DC0 (AtD4 P ty Wg) m b w):Ch 1 2 m [] b w
 |out {d m b w} (h:QuitsD P m d b):Ch d 1 m [] b w
def mL(rg st:Nat):Int:=if rg=0\/rg=4 then(if st<=1 then 0 else KK)else if 5<=st then KK+1 else if 3<=st then 1 else 0
def mh(rg st:Nat):Int:=if rg=1/\st<=1 then 1 else 0
def Ag(rg:Nat):Prop:=rg≠0/\rg≠1/\rg≠4
def e0(rg:Nat):Nat:=if rg=0 then 0 else 1
structure io(X:ZP)(p rg r d st m:Nat)(left:Ze)(b:Zg)(q:Nat->Nat)(gs:Array Zg)(v:Zy)(t:fG):Prop where
 gX:0<c
 J:ak gs=c+1
 hb:gs[c]?=ac b
 oi:∀i g,0<i->i<c->gs[i]?=ac g->QuitsD P (q i) (Deaf t i) g
 d8:∀j,c<j->Deaf t j=0
 ch:Ch P ty Wg C S D M o d st m left b v
 kc:Kc S M o v
 tG:PayAt D 3 v
 jU:v.heap[C]?=ac (.chan (aa vals) (aV ((vals.take<|aa vals-aa left).drop r)) (bI (st<=8)) (aa vals-aa left) r ao)
 so:r<=aa vals-aa left
 iW:left=vals.drop (aa vals-aa left)
 wg:WgAt ty Wg v (mL rg st)<|mh rg st
 pI:1<st->st<5->rg=1
 pH:Ag rg->st<=1
 tp:TP X (tJ S M) Wg C c (stA Wg) p (ak v.heap) t
 mf:Deaf t 0=e0 rg
 iV:Deaf t c=d
 rel:st<=6->∃rr,p<=rr/\tH (stA Wg) c t rr
 pt:p<=ak t
def JC(X:ZP)(p rg r:Nat)(k:Nat×Nat)(gs:Array Zg)(v:Zy)(t:fG):Prop:=
 ∃d st m left b q,io P ty Wg C S D M c vals o X p rg r d st m left b q gs v t/\k=(st,m+iX c q)
end
section
variable [cZ] {P:bT} {ty:nt} {Wg C:Nat} {S:Nat->Prop} {D M c:Nat} {vals:List dL} {o:Nat->Obj} {X:Nat->Prop} {p rg r:Nat}
def Zi{R c Stop}(b:∀g w,Stop g w->g.status=aZ)(a:∀w,R w w){m g w}(h:fm P ao R c Stop m g w):g.status=aZ:=by
 cases m with
 |zero=>exact b _ _<|h w<|a w
 |succ m=>obtain h|⟨h,_⟩:=h;exact b _ _<|h w<|a w;omega
def V7{i}(w):RW ty Wg D 3 0 i w w:=⟨λ_ _ _ _=>rfl,id,id,rfl⟩
def Ch.iS{d st m left b w}(h:Ch P ty Wg C S D M o d st m left b w):b.status=aZ\/b.status= .finished:=by
 cases h with
 |send h=>exact aF<|Zi (λ_ _ x=>x.1) (λ_ x=>x) h
 |cls h=>exact aF<|Zi (λ_ _ x=>x.1) (λ_ x=>x) h
 |fin h=>exact aF<|Zi (λ_ _ x=>x.1) (λ_ x=>x) h
 |dn h0 h1=>exact aF<|Zi (λ_ _ x=>x.1) V7 h0
 |rel hk h=>exact aF<|Zi (λ_ _ x=>x.1) V7 h
 |deaf hk h=>exact aF<|Zi (λ_ _ x=>x.1) V7 h
 |d2 hk h=>exact aF<|Zi (λ_ _ x=>x.1) V7 h
 |d3 hk h=>exact aF<|Zi (λ_ _ x=>x.1) V7 h
 |d4 hk h=>exact aF<|Zi (λ_ _ x=>x.1) V7 h
 |out h=>exact h.status
def Ch.sI{d st m left b w w₁}(h:Ch P ty Wg C S D M o d st m left b w)(hk:Kc S M o w)(n:S D)(r:∀x,S x\/x=M->w₁.heap[x]?=w.heap[x]?)(y:nI ty Wg w₁):
  Ch P ty Wg C S D M o d st m left b w₁:=by
 have s:=r D<|aF n;have p:RS S M o w w₁:=λh x t=>(r x t).trans<|h x t;have q:∀a b c,RS S M o a b->RS S M o b c->RS S M o a c:=λ_ _ _ f k x=>k<|f x;have g:∀i,RW ty Wg D 3 0 i w w₁:=λi=>⟨λb l=>absurd l<|Nat.not_lt_zero _,λ_=>y,λ⟨v,e,z⟩=>⟨v,s.trans e,z⟩,by simp[ae,s]⟩;have j:∀i a b c,RW ty Wg D 3 0 i a b->RW ty Wg D 3 0 i b c->RW ty Wg D 3 0 i a c:=λi _ _ _ f k=>⟨λb l=>absurd l<|Nat.not_lt_zero _,k.live∘f.live,k.pay∘f.pay,k.cell.trans f.cell⟩;cases h with
 |send h=>exact .send<|h.rely q p
 |cls h=>exact .cls<|h.rely q p
 |fin h=>exact .fin<|h.rely q p
 |dn h0 f=>exact .dn (h0.rely (j _)<|g _)<|f.rely (j _)<|g _
 |rel hk h=>exact .rel hk<|h.rely (j _)<|g _
 |deaf hk h=>exact .deaf hk<|h.rely (j _)<|g _
 |d2 hk h=>exact .d2 hk<|h.rely (j _)<|g _
 |d3 hk h=>exact .d3 hk<|h.rely (j _)<|g _
 |d4 hk h=>exact .d4 hk<|h.rely (j _)<|g _
 |out h=>exact .out h
def WH{w v}(h:Sm P X w v){x}(hx:X x)(f:Pn.N<=x){b}(ho:∀o o',Kw o o'->v.heap[x]?=ac o'->Kw o b):Sm P X w {v with heap:=ay v.heap x b}:=by
 refine⟨by simpa using h.J,λr a=>?_,λr a=>?_,h.pz,h.ms,h.fZ,h.os,h.cM,⟨h.pf.1,λr a c=>by
  have:x≠r:=À
  rw[show({v with heap:=ay v.heap x b}:Zy).heap=ay v.heap x b from rfl,zl this];exact h.pf.2 r a c⟩⟩
 have:x≠r:=by rintro rfl;exact a hx
 rw[show({v with heap:=ay v.heap x b}:Zy).heap=ay v.heap x b from rfl,zl this];exact h.out r a;obtain⟨o,o',d,e,g⟩:=h.iz r a;grind
def IW{w v}(h:Sm P X w v)(hx:X C)(c:Pn.N<=C){cap s g cap' s' r'' buf buf' a cl' tm tm'}(d:v.heap[C]?=ac (.chan cap buf a s g tm)):Sm P X w<|v.setChan C cap' buf' cl' s' r'' tm':=
 WH h hx c λo k f e=>by rw[d]at e;cases e;obtain⟨b,_⟩|⟨i,e,_,j⟩:=f;exact aF ⟨b,rfl⟩;grind
def IU{v st a}(h:WgAt ty Wg v st a)(x):ai v (stA Wg) (aH .u64 x)={v with heap:=ay v.heap Wg<|wgBlock ty x a}:=by grind [WgAt,ai,stA,modify_eq_set,wgBlock]
def WK{w v st b}(h:Sm P X w v)(hx:X Wg)(c:Pn.N<=Wg)(d:WgAt ty Wg v st b)(x y):Sm P X w {v with heap:=ay v.heap Wg<|wgBlock ty x y}:=
 WH h hx c λo j f e=>by rw[show v.heap[Wg]?=ac (wgBlock ty st b)from d]at e;cases e;obtain⟨_,a⟩|⟨g,e,i,a⟩:=f;grind [wgBlock,DO];simp only[wgBlock,Obj.cells.injEq]at a;exact aE ⟨_,ty,Â,rfl⟩
end
end
section
open Go.ConcN (sumTo upd sumTo_upd upd_ne upd_same RW DWs AtR0 AtK1 AtD1 WgLive PayAt Has AsideCell EvW)
open Go.ConcR (KK wgBlock WgAt stA smA rd wr mk Payload DC0)
variable [pn:Pn]
section
variable [cZ] {P:bT} {ty:nt} {Wg C:Nat} {S:Nat->Prop} {D M c:Nat} {vals:List dL} {o:Nat->Obj} {X:Nat->Prop} {p rg r:Nat}
def BO:∀l,tJ S M l->l.isMemory=aw:=by rintro l (⟨a,rfl,_⟩|⟨x,rfl,_⟩)<;>rfl
def xyj{v}(hk:Kc S M o v){l}(h:tJ S M l):l.low (ak v.heap):=by obtain⟨a,rfl,b⟩|⟨x,rfl,b⟩:=h;exact(za.1<|hk _ b).1;exact(za.1<|hk x b).1
theorem lI{g fn pos es}:∀op∈aS g fn pos es,op.g=g:=λop a=>Ö
theorem BJ{e m}(h:bN e=fT m):e.loc= .mark m:=by
 obtain⟨l,w,s⟩:=e;cases l with
 |mark m'=>grind [bN]|obj r=>cases w<;>cases s<;>simp[bN]at h
 |_=>grind [bN]
def Og(A:IS X (tJ S M) Wg C){v t}(h:TP X (tJ S M) Wg C c (stA Wg) p (ak v.heap) t)(hk:Kc S M o v){fn pos es}(d:∀e∈es,Ac S M e):
  TP X (tJ S M) Wg C c (stA Wg) p (ak v.heap) (t++aS c fn pos es):=by
 refine h.gk A (aE rfl) lI (λg a b j l=>?_) (λg a x k=>?_) (λg a e=>?_) BO;obtain⟨e,f,rfl⟩:=zy a;exact aE<|aE<|aF ⟨rfl,(d e f).1 b j⟩;obtain⟨e,f,rfl⟩:=zy a;exact xyj hk ((d e f).1 x k).1;obtain⟨i,f,rfl⟩:=zy a;exact(d i f).c _<|BJ e
def Oq{es}(a:∀e∈es,Ac S M e)(d):cS d es=d:=deafBehind_still (λe b=>⟨(a e b).2.1,(a e b).2.2.1⟩) d
theorem io.dQ{d st m left b q gs v t}(h:io P ty Wg C S D M c vals o X p rg r d st m left b q gs v t)
  {f v' u F d' st' m' a}(U:ak f=ak gs)(H:f[c]?=ac F)
  (s:∀j x',j≠c->f[j]?=ac x'->∃x,gs[j]?=ac x/\∀n d,QuitsD P n d x->x'=x)(J:∀op∈u,op.g=c)(G:Ch P ty Wg C S D M o d' st' m' a F v')(K:Kc S M o v')(w:PayAt D 3 v')
  (l:v'.heap[C]?=ac (.chan (aa vals) (aV ((vals.take<|aa vals-aa a).drop r)) (bI (st'<=8)) (aa vals-aa a) r ao))(E:r<=aa vals-aa a)(k:a=vals.drop (aa vals-aa a))
  (N:WgAt ty Wg v' (mL rg st')<|mh rg st')(B:1<st'->st'<5->rg=1)(z:Ag rg->st'<=1)(L:TP X (tJ S M) Wg C c (stA Wg) p (ak v'.heap)<|t++u)(e:Deaf (t++u) c=d')(y:st'<=6->∃rr,p<=rr/\tH (stA Wg) c (t++u) rr):
  io P ty Wg C S D M c vals o X p rg r d' st' m' a F q f v' (t++u):=by
 refine⟨h.gX,by rw[U,h.J],H,λi g Q I O=>?_,λj R=>?_,G,K,w,l,E,k,N,B,z,L, ?_,e,y,á⟩;obtain⟨x,V,T⟩:=s i g À O;have:=h.oi i x Q I V;rw[T _ _ this,cU t (g':=c) À u J];omega;rw[cU t (g':=c) À u J];exact h.d8 j R;rw[cU t (g':=c) (Jk h.gX) u J];exact h.mf
def Fs{b a v'}{gs:Array Zg}:∀j x',j≠c->(ay (gs.map<|woken P b a v') c a)[j]?=ac x'->∃x,gs[j]?=ac x/\∀n d,QuitsD P n d x->x'=x:=λj x' e f=>by grind [iA]
def Fr{b a d v'}{gs:Array Zg}(f:c≠0)(e:gs[0]?=ac d):(ay (gs.map<|woken P b a v') c a)[0]?=ac (woken P b a v' d):=Â
def Vc{R a Stop}(b:∀w,R w w){m g w}(h:fm P ao R a Stop m g w):
  Stop g w\/∃m' g' w' es,m=m'+1/\bF P ao g w=gj g' w' es/\a w w' es/\fm P ao R a Stop m' g' w':=by
 cases m with
 |zero=>exact aF<|h w<|b w
 |succ m=>obtain h|⟨_,h⟩:=h;grind;right;have:=h w<|b w;cases hs:bF P ao g w with|go g' w' es=>grind [goes_go]|_=>rw[hs]at this;exact this.elim
def xb7{v v'}(c:AsideCell D 3 0 v v')(k:AsideCell D 3 1 v v')(h:PayAt D 3 v):v'.heap=v.heap:=by
 obtain⟨j,e,n⟩:=id h;obtain⟨a,d,m⟩:=c.pay h;apply Vn;intro b;by_cases f:b=D;subst f;rw[e,d];have:a=j:=by
  apply Vn;intro i;have l:ae v' (zq b i)=ae v (zq b i):=by by_cases g:i=0;subst g;exact k.cells 0 À;exact c.cells i g
  simpa[ae,e,d]using l
 rw[this];exact c.block b f
def xe5{v v'}(c:AsideCell D 3 0 v v')(m:AsideCell D 3 1 v v')(n:PayAt D 3 v):∃d,v'=v.at d:=by have l:=xb7 c m n;obtain⟨k,tape,e,os,output⟩:=v;obtain⟨f,g,a,o,b⟩:=v';simp only at l;have h:=c.tape;have i:=c.os;have j:=c.output;simp only at h i j;subst l h i j;exact⟨a,rfl⟩
end
end
section
open Go.ConcN (sumTo upd sumTo_upd upd_ne upd_same RW DWs AtR0 AtK1 AtD1 WgLive PayAt Has AsideCell EvW ShN)
open Go.ConcR (KK wgBlock WgAt stA smA rd wr mk Payload DC0)
variable [pn:Pn]
section
variable {es:Array lh}
section
variable [cZ] {P:bT} {ty:nt} {Wg C:Nat} {S:Nat->Prop} {D M c:Nat} {vals:List dL} {o:Nat->Obj} {X:Nat->Prop} {p rg r:Nat}
def Fu{c a b}(d:5<=a)(e:5<=b):mL c a=mL c b:=by grind [mL]
def Ft{c a b}(d:2<=a)(e:2<=b):mh c a=mh c b:=by grind [mh]
structure Zs(X:ZP)(Wg C:Nat)(S:ZP)(D M:Nat):Prop where
 eF:IS X (tJ S M) Wg C
 xc:X C
 xw:X Wg
 sd:S D
 cs:∀x,S x\/x=M->x≠C
 wc:Wg≠C
 ws:∀x,S x\/x=M->x≠Wg
 nc:Pn.N<=C
 nw:Pn.N<=Wg
variable (P ty Wg C S D M c vals o X p rg r)in
def IX(g0:Zg)(st mm:Nat)(q:Nat->Nat)(gs:Array Zg)(v:Zy)(sl:Option<|Nat×Nat)(t:fG)(d' st':Nat)(left':Ze):Prop:=
 ∃gs' v' sl' ops m' b',runT P (fL gs v sl) c=(fS<|crowd gs' v' sl',ops)/\xJ (st',m'+iX c q) (st,mm+iX c q)/\(∃g0',gs'[0]?=ac g0'/\(g0'=g0\/∃a a',g0'=woken P a a' v' g0)/\(rg=1->st'<=1->1<st->∃bb,mayWake P bb=aw/\b'.status≠ .blocked/\b'.status≠ .waiting/\g0'=woken P bb b' v' g0))/\
  io P ty Wg C S D M c vals o X p rg r d' st' m' left' b' q gs' v' (t++ops)/\(∀w,Sm P X (re w v.tape v.drawn) v->Sm P X (re w v'.tape v'.drawn) v')/\(st<=6->∀rr,tH (stA Wg) c t rr->tH (stA Wg) c (t++ops) rr)
variable (P ty Wg C S D M c vals o X p rg r)in
def um(g0:Zg)(st mm:Nat)(q:Nat->Nat)(gs:Array Zg)(v:Zy)(sl:Option<|Nat×Nat)(t:fG):Prop:=
 ∃d' st' left',IX P ty Wg C S D M c vals o X p rg r g0 st mm q gs v sl t d' st' left'
variable {d st m:Nat} {left:List dL} {b g0:cA} {q:Nat->Nat} {gs:Array cA} {v:cY} {t:fG} {sl:Option<|Nat×Nat}
def Fx(h:io P ty Wg C S D M c vals o X p rg r d st m left b q gs v t){a:Zg}{v':Zy}(f:bF P ao b v=gj a v' es):
  runT P (fL gs v sl) c=(fS<|crowd (ay (gs.map<|woken P b a v') c a) v' sl,aS c b.frame.fn b.frame.place es):=by
 have e:(c==0)=ao:=ġ
 exact oS h.hb Â
def BL(B:Zs X Wg C S D M)(h:io P ty Wg C S D M c vals o X p rg r d st m left b q gs v t)(H:gs[0]?=ac g0){f:Zg}{dr:Nat}(l:bF P ao b v=gj f (v.at dr) es)
  {st' m' G:Nat}(g:Ch P ty Wg C S D M o d st' m' left f (v.at dr))(k:xJ (st',m'+iX c q) (st,G+iX c q))(J:bI (st'<=8)=bI (st<=8))(s:mL rg st'=mL rg st/\mh rg st'=mh rg st)(z:5<=st'/\5<=st\/st'=st)(I:st'<=6->st<=6)
  (n:TP X (tJ S M) Wg C c (stA Wg) p (ak v.heap)<|t++aS c b.frame.fn b.frame.place es)(j:cS d es=d)(F:st<=6->es=#[]):IX P ty Wg C S D M c vals o X p rg r g0 st G q gs v sl t d st' left:=by
 have i:c≠0:=Jk h.gX;have E:c<ak gs:=ï
 refine⟨_,v.at dr,sl,_,m',f,Fx h l,k,⟨_,Fr i H,aE ⟨b,f,rfl⟩,λ_ x y=>À⟩,h.dQ Ä Â Fs lI g h.kc h.tG (by rw[J];exact h.jU) h.so h.iW (by rw[s.1,s.2];exact h.wg) (λx y=>z.elim (λz=>À) λe=>h.pI À À) (λx=>ù) n (by rw[lm,h.iV,j]) ?_,λw K=>K.re _ _,λa rr L=>by grind [eH]⟩;intro a;obtain⟨rr,N,L⟩:=h.rel<|I a;grind [eH]
def Fw(B:Zs X Wg C S D M)(h:io P ty Wg C S D M c vals o X p rg r d st m left b q gs v t)(i:gs[0]?=ac g0){g:Zg}{v':Zy}(f:bF P ao b v=gj g v' es)(k:DS S M v v' es)
  {m':Nat}(e:Ch P ty Wg C S D M o d st m' left g v')(l:m'<m)(j:¬st<=6):IX P ty Wg C S D M c vals o X p rg r g0 st m q gs v sl t d st left:=by
 obtain⟨rfl,a⟩:=k;exact BL B h i f e (.right _ À) rfl ⟨rfl,rfl⟩ (aE rfl) id (Og B.eF h.tp h.kc a) (Oq a d) λx=>absurd x j
def WG{a b w}(h:yx P ty Wg C S D M o a b w):∃m,Ch P ty Wg C S D M o 0 (9+aa a) m a b w:=by
 cases a with
 |nil=>obtain⟨m,h⟩:=h;exact⟨m,.cls h⟩
 |cons v a=>obtain⟨m,h⟩:=h;exact⟨m,by have:=Ch.send h;grind⟩
def WO{a v0}(b:v0::a=vals.drop (aa vals-aa (v0::a)))(f:r<=aa vals-aa (v0::a)):
  (aV ((vals.take<|aa vals-aa (v0::a)).drop r)).push v0=aV ((vals.take<|aa vals-aa a).drop r)/\aa vals-aa a=aa vals-aa (v0::a)+1/\a=vals.drop (aa vals-aa a):=by
 have c:aa (v0::a)<=aa vals:=by have:=congrArg aa b;simp only[Zn]at this;simp only[xg]at*;omega
 simp only[xg]at*;have e:aa vals-aa a=aa vals-(aa a+1)+1:=À
 have g:vals.take (aa vals-(aa a+1)+1)=vals.take (aa vals-(aa a+1))++[v0]:=by
  rw[List.take_add_one];congr 1;have d:vals[aa vals-(aa a+1)]?=ac v0:=by have:=congrArg (λl=>l[0]?) b;simpa using this.symm
  rw[d];rfl
 refine⟨?_,e, ?_⟩;grind;rw[e];have:=congrArg List.tail b;simpa using this
theorem xzy(B:Zs X Wg C S D M){a:Ze}{v0:Zv}(h:io P ty Wg C S D M c vals o X p rg r 0 (10+aa a) m (v0::a) b q gs v t)(h0:gs[0]?=ac g0)(bb:offersAt g0 C ao=[])
  (N:BP P C S M o v0 (yx P ty Wg C S D M o a) b v):um P ty Wg C S D M c vals o X p rg r g0 (10+aa a) m q gs v sl t:=by
 obtain⟨_,k,z,es,O,F,n⟩:=N;have ba:c≠0:=Jk h.gX;have J:(c==0)=ao:=ġ
 have U:c<ak gs:=ï
 have l:=h.jU;rw[show bI (10+aa a<=8)=ao by grind]at l;obtain⟨V,W,Y⟩:=WO h.iW h.so;have hp:partners (ay gs c ph) C ao=[]:=partners_nil λj x E=>by
  obtain⟨_,rfl⟩|⟨hj,I⟩:=getElem?_stand gs c j x E;exact offersAt_ph _ _;obtain rfl|H:=jh j;grind;refine kE ?_ _ _;have K:j<c:=by have:=(za.1 I).1;rw[h.J]at this;omega
  rcases(h.oi j x H K I).status with e|e<;>rw[e]<;>simp
 have s:ak ((vals.take<|aa vals-aa (v0::a)).drop r).toArray<aa vals:=by simp only[jd,Zn,xf,xg];have:=congrArg aa h.iW;simp only[Zn,xg]at this;omega
 have i:=crowd_send_room (sl:=sl) h.hb (by rw[J];exact O) l s hp;rw[finishComm_send]at i;let v':=v.setChan C (aa vals) ((aV ((vals.take<|aa vals-aa (v0::a)).drop r)).push v0) ao (aa vals-aa (v0::a)+1) r ao;have Z:C<ak v.heap:=(za.1 l).1;have f:∀x,x≠C->v'.heap[x]?=v.heap[x]?:=λx E=>by show(ay v.heap C _)[x]?=_;grind
 have Q:ak v'.heap=ak v.heap:=ņ
 have G:Kc S M o v':=λx E=>(f x<|B.cs x E).trans<|h.kc x E;obtain⟨m',L⟩:=WG<|n v' G;have R:=Og (fn:=b.frame.fn) (pos:=b.frame.place) B.eF h.tp h.kc F;refine⟨0,9+aa a,a,_,v',sl,_,m',lK k aC,i,.left _ _ À, ?_,h.dQ Ä Â (λj x' hj E=>?_) (λT d=>?_) L G ?_ ?_ (by have:=h.so;omega) Y ?_ (λx y=>À) (λx=>ù) ?_ ?_ λx=>À,λw hS=>?_,λx=>À⟩;grind;grind;grind [lI];obtain⟨cs,e,N⟩:=h.tG;exact⟨cs,(f D<|B.cs D<|aF B.sd).trans e,N⟩;rw[show bI (9+aa a<=8)=ao by grind,<-V,W];show(ay v.heap C _)[C]?=_;grind;rw[show mL rg (9+aa a)=mL rg (10+aa a)from Fu À À,show mh rg (9+aa a)=mh rg (10+aa a)from Ft À À];exact h.wg.of_block<|f Wg B.wc;rw[Q,<-Xn];refine R.pZ (λT d=>Ņ) (λT d=>Ņ) (λT d=>Â);rw[<-Xn,show(#[{g:=c,fn:=k.frame.fn,pos:=k.frame.place,act:=MemAct.send C<|aa vals-aa (v0::a)},{g:=c,fn:=k.frame.fn,pos:=k.frame.place,act:=MemAct.sendDone C<|aa vals-aa (v0::a)}]:fG)=#[{g:=c,fn:=k.frame.fn,pos:=k.frame.place,act:=MemAct.send C<|aa vals-aa (v0::a)}]++#[{g:=c,fn:=k.frame.fn,pos:=k.frame.place,act:=MemAct.sendDone C<|aa vals-aa (v0::a)}]from rfl,<-Xn,Deaf_push,Deaf_push,lm,h.iV,Oq F];simp[deafStep];have:=IW (cap':=aa vals) (s':=aa vals-aa (v0::a)+1) (r'':=r) (buf':=(aV ((vals.take<|aa vals-aa (v0::a)).drop r)).push v0) (cl':=ao) (tm':=ao) hS B.xc B.nc l;exact this
end
end
end
section
open Go.ConcN (sumTo upd sumTo_upd upd_ne upd_same RW DWs AtR0 AtK1 AtD1 AtD2 AtD3 AtD4 WgLive PayAt Has AsideCell EvW ShN)
open Go.ConcR (KK wgBlock WgAt stA smA rd wr mk Payload DC0)
variable [pn:Pn]
section
variable [cZ] {P:bT} {ty:nt} {Wg C:Nat} {S:Nat->Prop} {D M c:Nat} {vals:List dL} {o:Nat->Obj} {X:Nat->Prop} {p rg r:Nat}
variable {d st m:Nat} {left:List dL} {b g0:cA} {q:Nat->Nat} {gs:Array cA} {v:cY} {t:fG} {sl:Option<|Nat×Nat}
def WP(B:Zs X Wg C S D M)(h:io P ty Wg C S D M c vals o X p rg r 0 9 m [] b q gs v t)(N:gs[0]?=ac g0)(s:Fy P ty Wg C S D M o b v):
  ∃b' m',runT P (fL gs v sl) c=(fS<|crowd (ay (gs.map<|woken P b b'<|v.setChan C (aa vals) (aV ((vals.take<|aa vals-aa ([]:Ze)).drop r)) aw (aa vals-aa ([]:Ze)) r ao) c b') (v.setChan C (aa vals) (aV ((vals.take<|aa vals-aa ([]:Ze)).drop r)) aw (aa vals-aa ([]:Ze)) r ao) sl,aS c b.frame.fn b.frame.place #[⟨nG C,ao,aw⟩,⟨nG C,aw,aw⟩])/\
   b'.status=aZ/\mayWake P b=aw/\io P ty Wg C S D M c vals o X p rg r 0 8 m' [] b' q (ay (gs.map<|woken P b b'<|v.setChan C (aa vals) (aV ((vals.take<|aa vals-aa ([]:Ze)).drop r)) aw (aa vals-aa ([]:Ze)) r ao) c b') (v.setChan C (aa vals) (aV ((vals.take<|aa vals-aa ([]:Ze)).drop r)) aw (aa vals-aa ([]:Ze)) r ao) (t++aS c b.frame.fn b.frame.place #[⟨nG C,ao,aw⟩,⟨nG C,aw,aw⟩])/\
   ∀w,Sm P X (re w v.tape v.drawn) v->Sm P X (re w v.tape v.drawn) (v.setChan C (aa vals) (aV ((vals.take<|aa vals-aa ([]:Ze)).drop r)) aw (aa vals-aa ([]:Ze)) r ao):=by
 have f:=h.jU;rw[show bI _=ao from rfl]at f;obtain⟨_,F,s⟩:=s;obtain⟨b',G,j,i⟩:=s _ _ _ _ f;have I:c<ak gs:=ï
 generalize hv':v.setChan C (aa vals) (aV ((vals.take _).drop r)) aw _ r ao=v' at*;have z:=(za.1 f).1;have a:∀x,x≠C->v'.heap[x]?=v.heap[x]?:=λx g=>ħ
 have H:ak v'.heap=ak v.heap:=Ĩ
 have n:Kc S M o v':=λx g=>(a x<|B.cs x g).trans<|h.kc x g;obtain⟨m',E⟩:=i v' n;have l:∀k∈aS c b.frame.fn b.frame.place #[⟨nG C,ao,aw⟩,⟨nG C,aw,aw⟩],∀x,k.act.touch?=ac x->x.loc=nG C/\x.write=ao:=λk d x g=>by grind [zy,bN,bY]
 refine⟨b',m',Fx h G,j,F,h.dQ Ä Â Fs lI (.fin E) n ?_ ?_ h.so h.iW ?_ (λx y=>À) (λx=>ù) ?_ ?_ λx=>À,λw L=>?_⟩;obtain⟨cs,e,s⟩:=h.tG;exact⟨cs,(a D<|B.cs D<|aF B.sd).trans e,s⟩;rw[<-hv'];show(ay v.heap C _)[C]?=_;grind;rw[show mL rg 8=mL rg 9 from Fu À À,show mh rg 8=mh rg 9 from Ft À À];exact h.wg.of_block<|a Wg B.wc;rw[H];refine h.tp.gk B.eF (aE rfl) lI (λk d x g O=>?_) (λk d x g=>?_) (λk d e=>?_) BO;obtain⟨J,K⟩:=l k d x g;exact aE<|aE<|aE ⟨rfl,J,K⟩;rw[(l k d x g).1];exact z;grind [zy,bN];rw[lm,h.iV];grind [deafBehind_still];rw[<-hv'];exact IW L B.xc B.nc f
def ja6(B:Zs X Wg C S D M)(h:io P ty Wg C S D M c vals o X p rg r 0 9 m [] b q gs v t)(d:gs[0]?=ac g0)(i:Fy P ty Wg C S D M o b v):um P ty Wg C S D M c vals o X p rg r g0 9 m q gs v sl t:=by obtain⟨a,j,e,_,_,f,g⟩:=WP (sl:=sl) B h d i;exact⟨0,8,[],_,_,sl,_,j,a,e,.left _ _ À,⟨_,Fr (Jk h.gX) d,aE ⟨b,a,rfl⟩,λ_ x=>À⟩,f,g,λx=>À⟩
def WI(B:Zs X Wg C S D M)(h:io P ty Wg C S D M c vals o X p rg r d st m [] b q gs v t)(I:gs[0]?=ac g0){l f}(F:bF P ao b v=gj l v #[mk f])(N:(fT f).touch?=ar)(O:∀a,f≠ jC a)
  {d' st' m' U}(n:Ch P ty Wg C S D M o d' st' m' [] l v)(E:st'<st)(W:st<=8)(V:5<=st')(hd:cS d #[mk f]=d')(j:∃rr,p<=rr/\tH (stA Wg) c (t++aS c b.frame.fn b.frame.place #[mk f]) rr):
  um P ty Wg C S D M c vals o X p rg r g0 st U q gs v sl t:=by
 have s:=Jk h.gX;have H:c<ak gs:=ï
 have hu:∀k∈aS c b.frame.fn b.frame.place #[mk f],k.act=fT f:=λk g=>by obtain⟨e,G,rfl⟩:=zy g;simp at G;subst G;rfl
 refine⟨d',st',[],_,v,sl,_,m',l,Fx h F,.left _ _ E,⟨_,Fr s I,aE ⟨b,l,rfl⟩,λ_ x=>À⟩,h.dQ Ä Â Fs lI n h.kc h.tG ?_ h.so h.iW (by rw[Fu (b:=st) À À,Ft (b:=st) À À];exact h.wg) (λx y=>À) (λx=>ù) (h.tp.pZ lI (λk g=>Â) λk g e=>Â) (by rw[lm,h.iV];exact hd) λ_=>j,λw J=>J,λ_ rr Q=>Q.gk λi Z Y K=>?_⟩;rw[show bI _=aw by grind];have:=h.jU;grind;obtain⟨z,T,_⟩:=K;obtain⟨L,_⟩|⟨_,k,g,_,R⟩:=Z9 T;omega;grind
theorem WF(B:Zs X Wg C S D M)(h:io P ty Wg C S D M c vals o X p rg r 0 st m [] b q gs v t)(n:st=8\/st=7)(f:gs[0]?=ac g0){k}(hk:k=1\/k=2){val}(l:AtR0 P ty Wg D 3 0 k val b v)(w):
  um P ty Wg C S D M c vals o X p rg r g0 st w q gs v sl t:=by
 obtain⟨_,_,x,d,E,e⟩:=l;refine WI B h f d rfl Ä (.rel hk e) À À À (by simp[mk,cS]) ⟨ak t,h.pt, ?_⟩;have a:(t++aS c b.frame.fn b.frame.place #[mk<|.releaseMerge<|stA Wg])[ak t]?=ac {g:=c,fn:=b.frame.fn,pos:=b.frame.place,act:=fT (.releaseMerge<|stA Wg)}:=by simp[eH,mk,bN]
 refine⟨by rw[act?_of a],by simp[gw,a],⟨c,by simp[gw,a], ?_⟩,λi y j=>?_⟩;rw[deaf_old<|zd _];exact h.iV;obtain⟨z,s,_⟩:=zv.1 j;have:=gr s;simp[eH]at this;omega
theorem je3(B:Zs X Wg C S D M)(h:io P ty Wg C S D M c vals o X p rg r 0 6 m [] b q gs v t)(l:gs[0]?=ac g0){k}(hk:k=1\/k=2)(z:AtK1 P ty Wg D 3 0 k b v)(F):
  um P ty Wg C S D M c vals o X p rg r g0 6 F q gs v sl t:=by
 obtain⟨_,G,d,J,f⟩:=z;obtain⟨rr,w,y⟩:=h.rel<|zd _;refine WI B h l d rfl Ä (.deaf hk f) À À À (by simp[mk,cS]) ⟨rr,w,y.gk λi I H n=>?_⟩;obtain⟨x,E,_⟩:=n;obtain⟨s,_⟩|⟨_,K,a,_,g⟩:=Z9 E;omega;obtain⟨e,j,rfl⟩:=zy a;simp at j;subst j;cases g
theorem IV{a}(b:a.block=Wg){w x}(hx:(bN ⟨kF a,w,aw⟩).touch?=ac x):uk Wg x.loc/\x.kind= .atomic:=by simp only[ofEvent_cell0,bY,xj,if_true]at hx;subst hx;exact⟨⟨a,rfl,b⟩,rfl⟩
def Fq(B:Zs X Wg C S D M)(h:io P ty Wg C S D M c vals o X p rg r 1 st m [] b q gs v t)(h0:gs[0]?=ac g0){G:Zg}{x y:Int}{es:Array lh}(W:bF P ao b v=gj G {v with heap:=ay v.heap Wg<|wgBlock ty x y} es)
  (Q:∀e∈es,(∃a w,e=⟨kF a,w,aw⟩/\a.block=Wg)\/e.mute=aw)(O:cS 1 es=1)(bf:∀j,j<=ak es->cS 1 (es.extract 0 j)≠0)(h5:st<=5){st' m' mm:Nat}(K:Ch P ty Wg C S D M o 1 st' m' [] G {v with heap:=ay v.heap Wg<|wgBlock ty x y})(T:st'<st)(hx:mL rg st'=x)(hy:mh rg st'=y)(V:1<st'->rg=1)(I:Ag rg->st'<=1)(F:rg=1->st'<=1->mayWake P b=aw/\G.status≠ .blocked/\G.status≠ .waiting):
  um P ty Wg C S D M c vals o X p rg r g0 st mm q gs v sl t:=by
 have L:=Jk h.gX;have bb:c<ak gs:=ï
 have bc:=(za.1 h.wg).1;have f:∀z,z≠Wg->(ay v.heap Wg<|wgBlock ty x y)[z]?=v.heap[z]?:=λz k=>Â
 have Y:ak (ay v.heap Wg<|wgBlock ty x y)=ak v.heap:=Ä
 obtain⟨rr,hp,U⟩:=h.rel À;have E:∀n∈aS c b.frame.fn b.frame.place es,∀z,n.act.touch?=ac z->uk Wg z.loc/\z.kind= .atomic:=λn d z k=>by grind [zy,IV,touch_mute]
 have J:∀i,ak t<=i->(t++aS c b.frame.fn b.frame.place es).g? i=ac c->¬(t++aS c b.frame.fn b.frame.place es).counts i:=λi hi hg hc=>by
  obtain⟨z,k,hm,hk⟩:=hc;obtain⟨bg,_⟩|⟨_,n,d,ba,Z⟩:=Z9 k;omega;obtain⟨_,be⟩:=E n d z Z;obtain hk|⟨g,H,N⟩:=hk;grind;have:g=c:=by rw[hg]at H;exact(ql H).symm
  subst this;have R:i-ak t<=ak es:=by have:=gr ba;simp[eH]at this;omega
  have:=deaf_inside t g b.frame.fn b.frame.place es _ R;rw[show ak t+(i-ak t)=i by omega,N,h.iV]at this;grind
 refine⟨1,st',[],_,{v with heap:=ay v.heap Wg _},sl,_,m',G,Fx h W,.left _ _ T,⟨_,Fr L h0,aE ⟨b,G,rfl⟩,λz1 z2 _=>⟨b,(F z1 z2).1,(F z1 z2).2.1,(F z1 z2).2.2,rfl⟩⟩,h.dQ Ä Â Fs lI K
  (λz k=>(f z<|B.ws z k).trans<|h.kc z k) ?_ ?_ h.so h.iW ?_ (λz _=>V z) I ?_ ?_ (λ_=>⟨rr,hp,U.gk J⟩),λw hS=>WK hS B.xw B.nw h.wg x y,λ_ rr U=>U.gk J⟩
 obtain⟨cs,e,hs⟩:=h.tG;exact⟨cs,(f D<|B.ws D<|aF B.sd).trans e,hs⟩;rw[show bI _=aw by grind];have:=h.jU;rw[show bI _=aw by grind]at this;exact(f C<|Ne.symm B.wc).trans this;rw[hx,hy];show(ay v.heap Wg<|wgBlock ty x y)[Wg]?=_;grind;show TP X _ Wg C c _ p (ak (ay v.heap Wg _)) _;rw[Y];refine h.tp.gk B.eF (aE rfl) lI (λn d z k hm=>?_) (λn d z k=>?_) (λn d e=>?_) BO;obtain⟨k1,k2⟩:=E n d z k;exact aE<|aF ⟨k1,aF k2⟩;obtain⟨⟨a',e,bd⟩,_⟩:=E n d z k;rw[e];show a'.block<_;omega;obtain⟨ev,he,rfl⟩:=zy d;obtain⟨a,w,rfl,ha⟩|hm:=Q ev he;grind [ofEvent_cell0];have h1:=BJ e;obtain⟨l,a,s⟩:=ev;grind [Event.mute];rw[lm,h.iV];exact O
def Ol{es}(c:∀e∈es,∃a w,e=(⟨kF a,w,aw⟩:lh)/\a.block=Wg):cS 1 es=1/\∀j,j<=ak es->cS 1 (es.extract 0 j)≠0:=by have:∀b:Array lh,(∀e∈b,e∈es)->cS 1 b=1:=λb f=>deafBehind_still (λe d=>Â) 1;grind [Array.mem_iff_getElem?]
def IT:∀e∈#[rd<|stA Wg,wr<|stA Wg],∃a w,e=(⟨kF a,w,aw⟩:lh)/\a.block=Wg:=λe b=>by simp at b;obtain rfl|rfl:=b;exact⟨_,ao,rfl,rfl⟩;exact⟨_,aw,rfl,rfl⟩
def BH:∀e∈#[rd<|stA Wg],∃a w,e=(⟨kF a,w,aw⟩:lh)/\a.block=Wg:=λe b=>by simp at b;subst b;exact⟨_,ao,rfl,rfl⟩
def WE:∀e∈#[wr<|stA Wg],∃a w,e=(⟨kF a,w,aw⟩:lh)/\a.block=Wg:=λe b=>by simp at b;subst b;exact⟨_,aw,rfl,rfl⟩
theorem jev(B:Zs X Wg C S D M)(h:io P ty Wg C S D M c vals o X p rg r 1 5 m [] b q gs v t)(s:gs[0]?=ac g0){k}(hk:k=1\/k=2)(j:AtD1 P ty Wg D 3 0 k b v)(G):
  um P ty Wg C S D M c vals o X p rg r g0 5 G q gs v sl t:=by
 obtain⟨_,j⟩:=j;have w:=h.wg;have E:¬Ag rg:=λe=>by have:=h.pH e;omega
 have z:mh rg 5=0:=by unfold mh;rw[if_neg À]
 obtain⟨g,i⟩:=Ol (Wg:=Wg) IT;by_cases n:rg=0\/rg=4;have f:WgAt ty Wg v KK 0:=by
  have e:mL rg 5=KK:=by unfold mL;rw[if_pos n];rfl
  rwa[e,z]at w
 obtain⟨y,a,_,d⟩:=j 0 0 À À Â;obtain⟨F,d⟩:=d À;rw[IU f,show((0:Nat):Int)*KK+((0:Nat):Int)=0 by simp]at a;exact Fq B h s a (λe l=>aF (IT e l)) g i À (.out d) À (by grind [mL]) (by grind [mh]) À À (λx=>À);obtain rfl:rg=1:=by grind [Ag]
 have f:WgAt ty Wg v (KK+1) 0:=w;obtain⟨y,a,d,_⟩:=j 0 1 À À Â;obtain⟨F,d⟩:=d ⟨rfl,rfl⟩;rw[IU f,show((0:Nat):Int)*KK+((1:Nat):Int)=1 by simp]at a d;exact Fq B h s a (λe l=>aF (IT e l)) g i À (.d2 hk d) À rfl rfl (λ_=>rfl) (λx=>absurd rfl x.2.1) λ_ x=>À
theorem Ot{st' a}(e:WgAt ty Wg v st' a):{v with heap:=ay v.heap Wg<|wgBlock ty st' a}=v:=by obtain⟨heap,d,c,g,b⟩:=v;have f:heap[Wg]?=ac (wgBlock ty st' a):=e;grind [World.mk.injEq]
theorem jew(B:Zs X Wg C S D M)(h:io P ty Wg C S D M c vals o X p rg r 1 4 m [] b q gs v t)(j:gs[0]?=ac g0){k}(hk:k=1\/k=2)(n:AtD2 P ty Wg D 3 0 k b v)(s):
  um P ty Wg C S D M c vals o X p rg r g0 4 s q gs v sl t:=by
 obtain rfl:=h.pI À À;have g:=h.wg;obtain⟨w,f,y,i⟩:=n.2 g;rw[<-Ot g]at f i;obtain⟨a,d⟩:=Ol (Wg:=Wg) BH;exact Fq B h j (by grind [Ot]) (λe l=>aF (BH e l)) a d À (.d3 hk i) À rfl rfl (λ_=>rfl) (λx=>absurd rfl x.2.1) λ_ x=>À
theorem jex(B:Zs X Wg C S D M)(h:io P ty Wg C S D M c vals o X p rg r 1 3 m [] b q gs v t)(j:gs[0]?=ac g0){k}(hk:k=1\/k=2)(n:AtD3 P ty Wg D 3 0 k b v)(s):
  um P ty Wg C S D M c vals o X p rg r g0 3 s q gs v sl t:=by
 obtain rfl:=h.pI À À;have g:=h.wg;obtain⟨w,a,y,i⟩:=n.2 g;rw[IU g]at a i;obtain⟨d,f⟩:=Ol (Wg:=Wg) WE;exact Fq B h j a (λe l=>aF (WE e l)) d f À (.d4 hk i) À rfl rfl (λ_=>rfl) (λx=>absurd rfl x.2.1) λ_ x=>À
def WN{st a}(h:WgAt ty Wg v st a)(x):ai v (smA Wg) (zu x)={v with heap:=ay v.heap Wg<|wgBlock ty st x}:=by grind [WgAt,ai,smA,modify_eq_set,wgBlock]
def jey(B:Zs X Wg C S D M)(h:io P ty Wg C S D M c vals o X p rg r 1 2 m [] b q gs v t)(k:gs[0]?=ac g0)(i:AtD4 P ty Wg b v)(n):
  um P ty Wg C S D M c vals o X p rg r g0 2 n q gs v sl t:=by
 obtain rfl:=h.pI À À;have f:=h.wg;obtain⟨s,a,w,d⟩:=i.2.2 f;rw[WN f]at a;refine Fq B h k a (λe g=>?_) (by simp[semEvents,cS]) (λj l=>?_) À (.out d) À rfl rfl À (λx=>absurd rfl x.2.1) λ_ _=>⟨i.2.1,Ľ,Ľ⟩;simp[semEvents]at g;obtain rfl|rfl|rfl|rfl:=g;exact aE rfl;exact aF ⟨_,ao,rfl,rfl⟩;exact aF ⟨_,aw,rfl,rfl⟩;exact aE rfl;have:j<=4:=by simpa[semEvents]using l
 rcases(show j=0\/j=1\/j=2\/j=3\/j=4 by omega)with rfl|rfl|rfl|rfl|rfl<;>simp[semEvents,cS]
def jch(B:Zs X Wg C S D M)(h:io P ty Wg C S D M c vals o X p rg r d 1 m [] b q gs v t)(L:gs[0]?=ac g0)(H:b.status=aZ)(J:QuitsD P m d b):
  um P ty Wg C S D M c vals o X p rg r g0 1 m q gs v sl t:=by
 cases m with
 |zero=>rw[J.1]at H;cases H
 |succ m=>
  obtain⟨Z,_⟩|⟨_,G,n,hm,j,E⟩:=J;grind;have z:=Jk h.gX;have I:c<ak gs:=ï
  have R:∀y∈aS c b.frame.fn b.frame.place n,y.act.touch?=ar:=λy f=>ă
  have k:∀i,ak t<=i->(t++aS c b.frame.fn b.frame.place n).g? i=ac c->¬(t++aS c b.frame.fn b.frame.place n).counts i:=λi hi hg O=>by obtain⟨x,U,_⟩:=O;obtain⟨Q,_⟩|⟨_,y,f,_,V⟩:=Z9 U;omega;grind
  obtain⟨rr,T,F⟩:=h.rel À;refine⟨cS d n,1,[],_,v,sl,_,m,G,Fx h<|j v,.right _ À,⟨_,Fr z L,aE ⟨b,G,rfl⟩,λ_ _ x=>À⟩,h.dQ Ä Â Fs lI (.out E) h.kc h.tG h.jU h.so h.iW h.wg h.pI h.pH
   (h.tp.pZ lI R λy f e=>?_) (by rw[lm,h.iV]) (λ_=>⟨rr,T,F.gk k⟩),λw N=>N,λ_ rr F=>F.gk k⟩
  obtain⟨K,Y,rfl⟩:=zy f;have W:=BJ e;obtain⟨l,a,s⟩:=K;grind [Event.mute]
end
section
variable [cZ] {P:bT} {ty:nt} {Wg C:Nat} {S:Nat->Prop} {D M c:Nat} {vals:List dL} {o:Nat->Obj} {X:Nat->Prop} {p rg r:Nat}
variable {d st m:Nat} {left:List dL} {b g0:cA} {q:Nat->Nat} {gs:Array cA} {v:cY} {t:fG} {sl:Option<|Nat×Nat}
theorem WD(B:Zs X Wg C S D M)(h:io P ty Wg C S D M c vals o X p rg r 0 st m [] b q gs v t)(Y:st=8\/st=7)(K:gs[0]?=ac g0){v0 v1 F m1 G}(W:st=8\/G=F+m1)
  (k:fm P ao (RW ty Wg D 3 0 0) (DWs Wg uK uK D 3 1) (AtR0 P ty Wg D 3 0 1 v0) F b v)(l:fm P ao (RW ty Wg D 3 0 1) (DWs Wg uK uK D 3 2) (AtR0 P ty Wg D 3 0 2 v1) m1 b v):
  um P ty Wg C S D M c vals o X p rg r g0 st G q gs v sl t:=by
 obtain w|⟨n0,b',v',I,rfl,w,z,R⟩:=Vc V7 k;grind [WF];obtain i|⟨n1,b1,w1,J,rfl,i,n,s⟩:=Vc V7 l;grind [WF];rw[w]at i;cases i;obtain⟨dr,rfl⟩:=xe5 z.1 n.1 h.tG;have Z:Wg<ak v.heap:=(za.1 h.wg).1;have d:∀e∈I,(∀x,(bN e).touch?=ac x->uk Wg x.loc/\x.kind= .atomic)/\e.loc≠ .mark mR/\e.loc≠ .mark mQ/\e.loc≠ .mark (jC<|stA Wg):=λe f=>by
  obtain⟨L,N,O,Q⟩:=z.2 e f;refine⟨λx j=>?_,N,O,Q⟩;rcases(L 0 "").2 x j with⟨⟨a,E,T⟩,U,V⟩|x|⟨x,_⟩;refine⟨⟨a,E,T⟩, ?_⟩;cases hk:x.kind with
  |plain=>grind|said=>grind
  |atomic=>rfl
  exact x.elim;exact x.elim
 refine⟨_,_,_,BL B h K w (.dn R s) ?_ ?_ ⟨Fu À À,Ft À À⟩ À À ?_ (deafBehind_still (λe f=>⟨(d e f).2.1,(d e f).2.2.1⟩) 0) λx=>À⟩;omega;grind
 ·refine h.tp.gk B.eF (aE rfl) lI (λH g x j hm=>?_) (λH g x j=>?_) (λH g e=>?_) BO;all_goals obtain⟨y,f,rfl⟩:=zy g
  obtain⟨k1,k2⟩:=(d y f).1 x j;exact aE<|aF ⟨k1,aF k2⟩;obtain⟨⟨a,e,E⟩,_⟩:=(d y f).1 x j;rw[e];show a.block<_;omega;grind [BJ]
def WL(B:Zs X Wg C S D M)(h:io P ty Wg C S D M c vals o X p rg r d st m left b q gs v t)(f:gs[0]?=ac g0)(y:offersAt g0 C ao=[])(s:b.status=aZ):um P ty Wg C S D M c vals o X p rg r g0 st m q gs v sl t:=by
 have j:nI ty Wg v:=⟨_,_,h.wg⟩;cases h.ch with
 | @send F vs m b w hG=>
  rcases Vc (λ_ x=>x) hG with e|⟨n,g,l,i,rfl,e,hD,a⟩;grind [xzy];exact⟨_,_,_,Fw B h f e hD (.send a) À À⟩
 |cls hG=>
  rcases Vc (λ_ x=>x) hG with e|⟨n,g,l,i,rfl,e,hD,a⟩;exact ja6 B h f e;exact⟨_,_,_,Fw B h f e hD (.cls a) À À⟩
 |fin hG=>
  rcases Vc (λ_ x=>x) hG with e|⟨n,g,l,i,rfl,e,hD,a⟩;obtain⟨F,I,G,H,z,E⟩:=e.2 j;grind [WD];exact⟨_,_,_,Fw B h f e hD (.fin a) À À⟩
 |dn z E=>grind [WD]
 | @rel k m b w hk hG=>
  obtain e|⟨n,g,l,i,rfl,e,⟨rfl,rfl⟩,a⟩:=Vc V7 hG;grind [je3];exact⟨_,_,_,BL B h f e (.rel hk a) (.right _ À) rfl ⟨rfl,rfl⟩ (aE rfl) id é rfl λ_=>rfl⟩
 | @deaf k m b w hk hG=>
  obtain e|⟨n,g,l,i,rfl,e,⟨rfl,rfl⟩,a⟩:=Vc V7 hG;grind [jev];exact⟨_,_,_,BL B h f e (.deaf hk a) (.right _ À) rfl ⟨rfl,rfl⟩ (aE rfl) id é rfl λ_=>rfl⟩
 | @d2 k m b w hk hG=>
  obtain e|⟨n,g,l,i,rfl,e,⟨rfl,rfl⟩,a⟩:=Vc V7 hG;grind [jew];exact⟨_,_,_,BL B h f e (.d2 hk a) (.right _ À) rfl ⟨rfl,rfl⟩ (aE rfl) id é rfl λ_=>rfl⟩
 | @d3 k m b w hk hG=>
  obtain e|⟨n,g,l,i,rfl,e,⟨rfl,rfl⟩,a⟩:=Vc V7 hG;grind [jex];exact⟨_,_,_,BL B h f e (.d3 hk a) (.right _ À) rfl ⟨rfl,rfl⟩ (aE rfl) id é rfl λ_=>rfl⟩
 | @d4 k m b w hk hG=>
  obtain e|⟨n,g,l,i,rfl,e,⟨rfl,rfl⟩,a⟩:=Vc V7 hG;exact jey B h f e m;exact⟨_,_,_,BL B h f e (.d4 hk a) (.right _ À) rfl ⟨rfl,rfl⟩ (aE rfl) id é rfl λ_=>rfl⟩
 |out hq=>exact jch B h f s hq
def Of(B:Zs X Wg C S D M)(h:io P ty Wg C S D M c vals o X p rg r d st m left b q gs v t)(dr):io P ty Wg C S D M c vals o X p rg r d st m left b q gs (v.at dr) t:=
 ⟨h.gX,h.J,h.hb,h.oi,h.d8,h.ch.sI h.kc B.sd (λ_ _=>rfl) ⟨_,_,h.wg⟩,h.kc,h.tG,h.jU,h.so,h.iW,h.wg,h.pI,h.pH,h.tp,h.mf,h.iV,h.rel,h.pt⟩
def Oi(h:io P ty Wg C S D M c vals o X p rg r d st m left b q gs v t)(h0:gs[0]?=ac g0){i g1}(E:0<i)(B:i<c)(O:gs[i]?=ac g1)(z:g1.status=aZ):
  ∃gs' ops q',runT P (fL gs v sl) i=(fS<|crowd gs' v sl,ops)/\iX c q'<iX c q/\(∃g0',gs'[0]?=ac g0'/\(g0'=g0\/∃a a',g0'=woken P a a' v g0))/\io P ty Wg C S D M c vals o X p rg r d st m left b q' gs' v (t++ops)/\∀rr,tH (stA Wg) c t rr->tH (stA Wg) c (t++ops) rr:=by
 have I:=h.oi i g1 E B O;have Q:(i==0)=ao:=Æ
 have bc:i<ak gs:=(za.1 O).1;cases hqi:q i with
 |zero=>rw[hqi]at I;rw[I.1]at z;cases z
 |succ k=>
  rw[hqi]at I;obtain⟨hf,_⟩|⟨_,g',N,hm,G,bd⟩:=I;grind;have w:=oS (sl:=sl) O (by rw[Q];exact G v);have W:iX c (upd q i k)+(k+1)=iX c q+k:=by have:=sumTo_upd q k id B;simpa[hqi]using this
  have hn:∀L∈aS i g1.frame.fn g1.frame.place N,L.act.touch?=ar:=λL n=>ă
  have H:∀K,ak t<=K->(t++aS i g1.frame.fn g1.frame.place N).g? K=ac c->¬(t++aS i g1.frame.fn g1.frame.place N).counts K:=λK ba hg Z=>by obtain⟨x,J,_⟩:=Z;obtain⟨bb,_⟩|⟨_,L,n,_,be⟩:=Z9 J;omega;grind
  refine⟨_,_,upd q i k,w,À, ?_,⟨h.gX,ó, ?_,λj x R T J=>?_,λj R=>?_,h.ch,h.kc,h.tG,h.jU,h.so,h.iW,h.wg,h.pI,h.pH,h.tp.pZ lI hn λL n e=>?_, ?_, ?_,λY=>?_,á⟩,λrr U=>U.gk H⟩;grind;rw[zl À,jt,h.hb];simp only[Xl,xj];obtain e|e:=h.ch.iS;exact woken_run e;cases h.ch with
  |out hq2=>exact iA hq2
  |_=>
   rename_i hG;first
    |(have:=Zi (λ_ _ x=>x.1) (λ_ x=>x) hG;grind)
    |(have:=Zi (λ_ _ x=>x.1) V7 hG;grind)
  by_cases f:i=j;grind [upd_same,lm];rw[zl f,jt]at J;obtain⟨y,hy,rfl⟩:=zv.1 J;have F:=h.oi j y R T hy;rw[iA F,upd_ne q k<|Ne.symm f,cU t f _ lI];exact F;rw[cU t (g':=i) À _ lI];exact h.d8 j R;obtain⟨V,he,rfl⟩:=zy n;have h1:=BJ e;have h2:=hm V he;obtain⟨l,a,s⟩:=V;grind [Event.mute];rw[cU t (g':=i) À _ lI];exact h.mf;rw[cU t (g':=i) À _ lI];exact h.iV;obtain⟨rr,hp,U⟩:=h.rel Y;exact⟨rr,hp,U.gk H⟩
end
end
section
open Go.ConcN (sumTo upd sumTo_upd upd_ne upd_same RW DWs AtR0 AtK1 AtD1 WgLive PayAt Has AsideCell EvW ShN)
open Go.ConcR (KK wgBlock WgAt stA smA rd wr mk Payload DC0)
variable [pn:Pn]
section
variable [cZ] {P:bT} {F:Array jE} {dm:fk} {ty:nt} {Wg C:Nat} {S:Nat->Prop} {D M c:Nat} {vals:List dL} {o:Nat->Obj} {X:Nat->Prop} {p rg r:Nat}
variable {d st m:Nat} {left:List dL} {b g0:cA} {q:Nat->Nat} {gs:Array cA} {v:cY} {t:fG} {sl:Option<|Nat×Nat}
def Zs.xs(B:Zs X Wg C S D M):∀x,S x\/x=M->X x:=λx b=>by obtain⟨a,e,h⟩|⟨r,e,_⟩:=B.eF.th (kF<|zq x 0) (aF ⟨_,rfl,b⟩);grind;grind
def Zs.xd(B:Zs X Wg C S D M):X D:=B.xs D<|aF B.sd
def WJ(B:Zs X Wg C S D M)(h:io P ty Wg C S D M c vals o X p rg r d st m left b q gs v t)(h0:gs[0]?=ac g0){g' v' es}(hk:∀x,X x->v'.heap[x]?=v.heap[x]?)(k:∀e∈es,sV X (ak v'.heap) e)(Q:ak v.heap<=ak v'.heap)
  {f}(T:f=woken P g0 g' v'\/f=id):
  io P ty Wg C S D M c vals o X p rg r d st m left b q (ay (gs.map f) 0 g') v' (t++aS 0 g0.frame.fn g0.frame.place es):=by
 have F:c≠0:=Jk h.gX;have L:∀{n d} {x:Zg},QuitsD P n d x->f x=x:=λE=>by obtain rfl|rfl:=T;exact iA E;rfl
 have ba:∀{x:Zg},x.status=aZ->f x=x:=λE=>by obtain rfl|rfl:=T;exact woken_run E;rfl
 refine⟨h.gX,ó, ?_,λi g U N G=>?_,λj hj=>?_,h.ch.sI h.kc B.sd (λx l=>hk x<|B.xs x l) ⟨_,_,h.wg.of_block<|hk Wg B.xw⟩,λx l=>(hk x<|B.xs x l).trans<|h.kc x l, ?_,(hk C B.xc).trans h.jU,h.so,h.iW,h.wg.of_block<|hk Wg B.xw,h.pI,h.pH, ?_, ?_, ?_,λZ=>?_,á⟩;rw[zl<|Ne.symm F,jt,h.hb];simp only[Xl,xj];obtain e|e:=h.ch.iS;grind;cases h.ch with
 |out hq2=>grind
 |_=>
  rename_i hG;first
   |(have:=Zi (λ_ _ x=>x.1) (λ_ x=>x) hG;grind)
   |(have:=Zi (λ_ _ x=>x.1) V7 hG;grind)
 rw[zl À,jt]at G;obtain⟨y,hy,rfl⟩:=zv.1 G;have E:=h.oi i y U N hy;rw[L E,cU t (g':=0) À _ lI];exact E;rw[cU t (g':=0) À _ lI];exact h.d8 j hj;obtain⟨Y,e,hs⟩:=h.tG;exact⟨Y,(hk D B.xd).trans e,hs⟩
 ·refine(h.tp.W Q).gk B.eF (aF rfl) lI (λV s x l H=>?_) (λV s x l=>?_) (λV s e=>?_) BO;all_goals obtain⟨J,w,rfl⟩:=zy s
  obtain⟨_,I⟩:=Ep (k J w) l;refine aF ⟨rfl,aF (I H).1,λR=>aF ?_,λ⟨r1,e,O⟩ _=>(I H).2 r1 e O⟩;obtain⟨a,e,K⟩|⟨W,e,K⟩:=R;exact absurd ⟨a,e,B.xs _ K⟩ (I H).1;exact(I H).2 W e<|B.xs W K;exact(Ep (k J w) l).1;exact(Er<|k J w).2.2 _<|BJ e
 rw[lm,deafBehind_still λe w=>⟨(Er<|k e w).1,(Er<|k e w).2.1⟩];exact h.mf;rw[cU t (g':=0) (Ne.symm F) _ lI];exact h.iV;obtain⟨rr,hp,hr⟩:=h.rel Z;refine⟨rr,hp,hr.gk λi U G _=>?_⟩;obtain⟨z,hz,bb⟩:=zv.1 G;grind [lI]
def Y0(B:Zs X Wg C S D M):AP P X (JC P ty Wg C S D M c vals o X p rg r) where
 iS k gs v t hJ i g hi hg:=by
  obtain⟨d,st,m,left,b,q,h,_⟩:=hJ;have F:i<c+1:=Ō
  by_cases e:i=c;subst e;rw[h.hb]at hg;cases hg;exact mW<|h.ch.iS.elim aF λx=>aE (aE x);exact mW<|(h.oi i g hi À hg).status.elim aF λx=>aE (aE x)
 fZ k gs v t dr hJ:=by obtain⟨d,st,m,left,b,q,h,hk⟩:=hJ;exact⟨d,st,m,left,b,q,Of B h dr,hk⟩
 dE k gs v t i g g0 sl hJ hi hg hrun h0 hrun0 hdy:=by
  obtain⟨d,st,m,left,b,q,h,rfl⟩:=hJ;have F:i<c+1:=Ō
  by_cases e:i=c;subst e;rw[h.hb]at hg;cases hg;obtain⟨Q,H,n,l,K,G,s,R,O,y,I,⟨j,z,f,_⟩,E,N,_⟩:=WL (sl:=sl) B h h0 (kE Â _ _) hrun;have:j=g0:=Ę
  subst this;exact⟨l,K,G,s,_,y,I,z,⟨Q,H,R,n,O,q,E,rfl⟩,N⟩;obtain⟨l,s,J,y,I,⟨j,z,f⟩,E,_⟩:=Oi (sl:=sl) h h0 hi À hg hrun;have:j=g0:=Ę
  subst this;exact⟨l,v,sl,s,(st,m+iX c J),y,.right _ À,z,⟨d,st,m,left,b,J,E,rfl⟩,λw h=>h⟩
 cO k gs v t g0 g' K es hJ h0 hst hrun hrun' hk hes hsz:=by obtain⟨d,st,m,left,b,q,h,rfl⟩:=hJ;exact⟨d,st,m,left,b,q,WJ B h h0 hk hes hsz<|aF rfl,rfl⟩
end
section
variable [cZ] {P:bT} {ty:nt} {Wg C:Nat} {S:Nat->Prop} {D M c:Nat} {vals:List dL} {o:Nat->Obj} {X:Nat->Prop} {p rg r:Nat}
variable {d st m:Nat} {left:List dL} {b g0:cA} {q:Nat->Nat} {gs:Array cA} {v:cY} {t:fG} {sl:Option<|Nat×Nat}
def Ai(vals:Ze)(z:Zv)(r:Nat):Zv:=if r<aa vals then bU #[vals.getD r aC,aX aw]else bU #[z,aX ao]
def wT(vals:Ze)(r:Nat):Nat:=if r<aa vals then r+1 else r
variable (P ty Wg C S D M c vals o X p rg)in
def yw(r:Nat)(g₂:Zg)(z:Zv)(m:Machine)(t:fG)(w:Zy):Prop:=
 ∃N gs' v' sl' t' k',eT P N m t=(fS<|crowd gs' v' sl',t')/\JC P ty Wg C S D M c vals o X p rg (wT vals r) k' gs' v' t'/\gs'[0]?=ac (lK g₂<|Ai vals z r)/\Sm P X (re w v'.tape v'.drawn) v'
def yw.step{d z m m1 t e w N}(h:eT P N m t=(fS m1,e))(k:yw P ty Wg C S D M c vals o X p rg r d z m1 e w):yw P ty Wg C S D M c vals o X p rg r d z m t w:=by obtain⟨f,a,n,b,l,j,g,i⟩:=k;exact⟨N+f,a,n,b,l,j,qr h g,i⟩
def io.vE(B:Zs X Wg C S D M)(h:io P ty Wg C S D M c vals o X p rg r d st m left b q gs v t){K w v' u}(Q:ak w=ak gs)(n:∀j,j≠0->w[j]?=gs[j]?)(F:∀op∈u,op.g=0)(I:∀op∈u,op.act.touch?=ar/\(∀a,op.act≠ fT (jC a))/\op.act≠ fT mR/\op.act≠ fT mQ)
  (f:∀x,x≠C->v'.heap[x]?=v.heap[x]?)(R:ak v'.heap=ak v.heap)
  (s:v'.heap[C]?=ac (.chan (aa vals) (aV ((vals.take<|aa vals-aa left).drop K)) (bI (st<=8)) (aa vals-aa left) K ao))(G:K<=aa vals-aa left):
  io P ty Wg C S D M c vals o X p rg K d st m left b q w v' (t++u):=by
 have E:c≠0:=Jk h.gX;have L:∀x,S x\/x=M->v'.heap[x]?=v.heap[x]?:=λx J=>f x<|B.cs x J;have hd:Deaf (t++u) 0=Deaf t 0:=by
  obtain⟨l⟩:=u;rw[Deaf_append];have O:∀op∈l,op.act≠ fT mR/\op.act≠ fT mQ:=λop k=>(I op Â).2.2;clear F I;generalize Deaf t 0=x;induction l generalizing x with
  |nil=>rfl
  |cons y l ih=>
   rw[D7];have:deafStep 0 x y=x:=by obtain⟨h1,h2⟩:=O y Ä;unfold deafStep;split<;>simp_all
   simp_all
 refine⟨h.gX,by rw[Q,h.J],by rw[n c E];exact h.hb,λi g T N H=>?_,λj V=>?_,h.ch.sI h.kc B.sd L ⟨_,_,h.wg.of_block<|f Wg B.wc⟩,λx J=>(L x J).trans<|h.kc x J, ?_,s,G,h.iW,h.wg.of_block<|f Wg B.wc,h.pI,h.pH,by rw[R];exact h.tp.pZ F (λop k=>(I op k).1) λop k=>(I op k).2.1 _,hd.trans h.mf,by rw[cU t (Ne.symm E) u F];exact h.iV,λU=>?_,á⟩;rw[n i À]at H;rw[cU t (g':=0) À u F];exact h.oi i g T N H;rw[cU t (g':=0) À u F];exact h.d8 j V;obtain⟨cs,e,Q⟩:=h.tG;exact⟨cs,(L D<|aF B.sd).trans e,Q⟩;obtain⟨rr,W,Y⟩:=h.rel U;refine⟨rr,W,Y.gk λi T H _=>?_⟩;obtain⟨z,hz,Z⟩:=zv.1 H;grind
def Oj(h:io P ty Wg C S D M c vals o X p rg r d st m left b q gs v t)(f):partners (ay gs 0 ph) C f=[]:=partners_nil λj x i=>by
 obtain⟨_,rfl⟩|⟨k,a⟩:=getElem?_stand gs 0 j x i;exact offersAt_ph _ _;refine kE ?_ _ _;have g:j<c+1:=by have:=(za.1 a).1;rwa[h.J]at this
 by_cases e:j=c;subst e;rw[h.hb]at a;cases a;obtain e|e:=h.ch.iS<;>rw[e]<;>simp
 rcases(h.oi j x À À a).status with e|e<;>rw[e]<;>simp
theorem zwf(l:Ze):l.toArray.extract 1 (ak l.toArray)=aV (l.drop 1):=Â
def xpy(B:Zs X Wg C S D M)(h:io P ty Wg C S D M c vals o X p rg r d st m left b q gs v t){k z}(l:gs[0]?=ac g0)(i:bF P aw g0 v= .comm k #[rcase C z] aw (.recv aw) v #[])(E:r<aa vals-aa left){w}(y:Sm P X (re w v.tape v.drawn) v):
  ∃gs' v' t',runT P (fL gs v sl) 0=(fS<|crowd gs' v' sl,t')/\io P ty Wg C S D M c vals o X p rg (r+1) d st m left b q gs' v' (t++t')/\gs'[0]?=ac (lK k<|bU #[vals.getD r aC,aX aw])/\Sm P X (re w v'.tape v'.drawn) v':=by
 have n:aa ((vals.take<|aa vals-aa left).drop r)=aa vals-aa left-r:=Ä
 have a:=crowd_recv_buf (sl:=sl) l i h.jU Â<|Oj h aw;have s:C<ak v.heap:=(za.1 h.jU).1;have f:0<ak gs:=(za.1 l).1;have F:((vals.take<|aa vals-aa left).drop r).toArray.getD 0 aC=vals.getD r aC:=by
  have g:r<aa vals:=À
  simp[Jj,KQ,E,g]
 rw[finishComm_recv,F]at a;refine⟨_,_,_,a,h.vE B Ä (λj H=>Â) (λG e=>?_) (λG e=>?_) (λx I=>?_) ņ ?_ À,by simp[f,recvd],IW (C:=C) y B.xc B.nc h.jU⟩;grind [eH];simp[eH]at e;grind [bY];show(ay v.heap C _)[x]?=_;grind;show(ay v.heap C _)[C]?=_;grind [zwf,zbd]
def xa7(B:Zs X Wg C S D M)(h:io P ty Wg C S D M c vals o X p rg r d st m left b q gs v t){k z}(l:gs[0]?=ac g0)(i:bF P aw g0 v= .comm k #[rcase C z] aw (.recv aw) v #[])(E:¬r<aa vals-aa left)(w:st<=8):
  ∃gs' t',runT P (fL gs v sl) 0=(fS<|crowd gs' v sl,t')/\io P ty Wg C S D M c vals o X p rg r d st m left b q gs' v (t++t')/\gs'[0]?=ac (lK k<|bU #[z,aX ao]):=by
 have n:aV ((vals.take<|aa vals-aa left).drop r)=#[]:=by have:((vals.take<|aa vals-aa left).drop r)=[]:=KR Â;rw[this]
 have e:=h.jU;rw[n,show bI (st<=8)=aw by grind]at e;have a:=crowd_recv_closed (sl:=sl) l i e<|Oj h aw;have f:0<ak gs:=(za.1 l).1;rw[finishComm_recv]at a;refine⟨_,_,a,h.vE B Ä (λj y=>Â) (λs g=>?_) (λs g=>?_) (λx F=>rfl) rfl h.jU h.so,by simp[f,recvd]⟩;grind [eH];grind [eH,bY]
end
section
variable [cZ] {P:bT} {ty:nt} {Wg C:Nat} {S:Nat->Prop} {D M c:Nat} {vals:List dL} {o:Nat->Obj} {X:Nat->Prop} {p rg r:Nat}
variable {d st m:Nat} {left:List dL} {b g0:cA} {q:Nat->Nat} {gs:Array cA} {v:cY} {t:fG} {sl:Option<|Nat×Nat}
def WM{u}(b:∀op∈u,op.act≠ fT mR/\op.act≠ fT mQ)(j):Deaf (t++u) j=Deaf t j:=by
 obtain⟨l⟩:=u;rw[Deaf_append];have a:∀op∈l,op.act≠ fT mR/\op.act≠ fT mQ:=λop c=>b op Â;clear b;generalize Deaf t j=x;induction l generalizing x with
 |nil=>rfl
 |cons y l ih=>
  rw[D7];have:deafStep j x y=x:=by obtain⟨d,e⟩:=a y Ä;unfold deafStep;split<;>simp_all
  simp_all
def TP.iB{b a0 a}(h:TP X b Wg C c a0 p a t){op}(e:op.act.touch?=ar)(f:op.act≠ fT (jC a0)):TP X b Wg C c a0 p a<|t++#[op]:=
 h.pZ (g:=op.g) (λx d=>Â) (λx d=>Â) (λx d=>Â)
def xek(B:Zs X Wg C S D M){d v0 z E}(h:io P ty Wg C S D M c vals o X p rg r 0 (10+aa d) m (v0::d) b q gs v t)(hr:¬r<aa vals-aa (v0::d))(h0:gs[0]?=ac (parked E #[rcase C z]<|.recv aw))
  (Z:BP P C S M o v0 (yx P ty Wg C S D M o d) b v){w}(hS:Sm P X (re w v.tape v.drawn) v):
  ∃gs' v' ops m' b',runT P (fL gs v sl) c=(fS<|crowd gs' v' sl,ops)/\io P ty Wg C S D M c vals o X p rg (r+1) 0 (9+aa d) m' d b' q gs' v' (t++ops)/\gs'[0]?=ac (lK E<|bU #[v0,aX aw])/\Sm P X (re w v'.tape v'.drawn) v'/\r<aa vals/\vals.getD r aC=v0:=by
 obtain⟨_,O,z',es,ba,I,H⟩:=Z;have F:c≠0:=Jk h.gX;have R:(c==0)=ao:=ġ
 have bg:c<ak gs:=ï
 have bh:0<ak gs:=À
 have n:=h.jU;rw[show bI (10+aa d<=8)=ao by grind]at n;obtain⟨e1,e2,e3⟩:=WO h.iW h.so;have Y:r=aa vals-aa (v0::d):=by have:=h.so;omega
 have hp:partners (ay gs c ph) C ao=[(0,0)]:=by
  rw[partners_one (j:=0) (g:=parked E #[rcase C z]<|.recv aw) (stand_get (Ne.symm F) h0) λj x Q L=>?_];grind [offersAt_parked_recv];obtain⟨_,rfl⟩|⟨be,N⟩:=getElem?_stand gs c j x L;exact offersAt_ph _ _;refine kE ?_ _ _;have U:j<c:=by have:=(za.1 N).1;rw[h.J]at this;omega
  rcases(h.oi j x À U N).status with e|e<;>rw[e]<;>simp
 have a:=crowd_send_meets (sl:=sl) h.hb (by rw[R];exact ba) n (Ne.symm F) h0 hp;rw[finishComm_send,finishComm_recv]at a;have bf:aa (v0::d)<=aa vals:=by have:=congrArg aa h.iW;simp only[Zn]at this;simp only[xg]at*;omega
 have W:r<aa vals:=by simp only[xg]at*;omega
 have bd:vals.getD r aC=v0:=by have:=congrArg (λl=>l[0]?) h.iW;rw[KQ];simp only[qh,List.getElem?_drop]at this;rw[Y,<-Yy<|aa vals-_,<-this];rfl
 generalize hv':v.setChan C (aa vals) (aV ((vals.take<|aa vals-aa (v0::d)).drop r)) ao (aa vals-aa (v0::d)+1) (r+1) ao=v' at a;have bj:C<ak v.heap:=(za.1 n).1;have k:∀x,x≠C->v'.heap[x]?=v.heap[x]?:=λx L=>ħ
 have bk:ak v'.heap=ak v.heap:=Ĩ
 have J:Kc S M o v':=λx L=>(k x<|B.cs x L).trans<|h.kc x L;obtain⟨m',V⟩:=WG<|H v' J;have bb:=Og (fn:=b.frame.fn) (pos:=b.frame.place) B.eF h.tp h.kc I;generalize hu4:(#[{g:=c,fn:=O.frame.fn,pos:=O.frame.place,act:=MemAct.send C<|aa vals-aa (v0::d)},{g:=0,fn:=E.frame.fn,pos:=E.frame.place,act:= .recv C r (aa vals)},
    {g:=c,fn:=O.frame.fn,pos:=O.frame.place,act:= .sendDone C (aa vals-aa (v0::d))},{g:=0,fn:=E.frame.fn,pos:=E.frame.place,act:= .recvDone C r}]:fG)=u4 at a
 have K:∀s∈u4,s.act.touch?=ar/\s.act≠ fT mR/\s.act≠ fT mQ:=λs f=>by rw[<-hu4]at f;simp at f;obtain rfl|rfl|rfl|rfl:=f<;>simp[bY]
 have bi:TP X (tJ S M) Wg C c (stA Wg) p (ak v.heap)<|(t++aS c b.frame.fn b.frame.place es)++u4:=by
  have bc:u4=#[u4.getD 0 default]++#[u4.getD 1 default]++#[u4.getD 2 default]++#[u4.getD 3 default]:=by rw[<-hu4];rfl
  rw[bc,<-Xn,<-Xn,<-Xn];rw[<-hu4];exact(((bb.iB Ł Ä).iB Ł Ä).iB Ł Ä).iB Ł Ä
 have G:∀j,j≠c->Deaf (t++(aS c b.frame.fn b.frame.place es++u4)) j=Deaf t j:=λj Q=>by rw[<-Xn,WM λs f=>(K s f).2,cU t (Ne.symm Q) _ lI]
 refine⟨_,v',_,m',_,a,⟨h.gX,ó,Â,λi g hi T hg=>?_,λj Q=>?_,V,J, ?_, ?_,À,e3, ?_,λx y=>À,λx=>ù, ?_, ?_, ?_,λx=>À,á⟩, ?_, ?_,W,bd⟩;rw[zl À,zl À]at hg;rw[G i À];exact h.oi i g hi T hg;rw[G j À];exact h.d8 j Q;obtain⟨cs,e,Z⟩:=h.tG;exact⟨cs,(k D<|B.cs D<|aF B.sd).trans e,Z⟩;rw[show bI (9+aa d<=8)=ao by grind,e2,<-hv'];show(ay v.heap C _)[C]?=_;grind;rw[show mL rg (9+aa d)=mL rg (10+aa d)from Fu À À,show mh rg (9+aa d)=mh rg (10+aa d)from Ft À À];exact h.wg.of_block<|k Wg B.wc;grind;rw[G 0<|Ne.symm F];exact h.mf;rw[<-Xn,WM λs f=>(K s f).2,lm,h.iV,Oq I];grind [recvd];rw[<-hv'];exact IW hS B.xc B.nc n
end
end
end A
namespace A
open Go Go.Conc
section
open Go.ConcN (sumTo upd sumTo_upd upd_ne upd_same RW DWs AtR0 AtK1 AtD1 WgLive PayAt Has AsideCell EvW ShN)
open Go.ConcR (KK wgBlock WgAt stA smA rd wr mk Payload DC0)
variable [pn:Pn]
section
variable [cZ] {P:bT} {ty:nt} {Wg C:Nat} {S:Nat->Prop} {D M c:Nat} {vals:List dL} {o:Nat->Obj} {X:Nat->Prop} {p rg r:Nat}
variable {d st m:Nat} {left:List dL} {b g0:cA} {q:Nat->Nat} {gs:Array cA} {v:cY} {t:fG} {sl:Option<|Nat×Nat}
structure yz(P:Zp)(C:Nat)(z:Zv)(g₂ g:Zg):Prop where
 oC:g.status=aZ
 dy:g.dying=ar
 st:∀v,bF P aw g v= .comm g₂ #[rcase C z] aw (.recv aw) v #[]
def Ch.BY(h:Ch P ty Wg C S D M o d st m left b v)(a:st<=8):left=[]:=by cases h<;>first|rfl|omega
def XO(B:Zs X Wg C S D M){z:Zv}{j:Zg}{w:Zy}(bh:yz P C z j {parked j #[rcase C z] (.recv aw)with status:=aZ}){k:Nat×Nat}
  (ih:∀k',xJ k' k->(∀gs v sl t g,yz P C z j g->JC P ty Wg C S D M c vals o X p rg r k' gs v t->gs[0]?=ac g->Sm P X (re w v.tape v.drawn) v->yw P ty Wg C S D M c vals o X p rg r j z (fL gs v sl) t w)/\
   (∀d st m left b q gs v sl t,k'=(st,m+iX c q)->io P ty Wg C S D M c vals o X p rg r d st m left b q gs v t->9<=st->¬r<aa vals-aa left->gs[0]?=ac (parked j #[rcase C z]<|.recv aw)->Sm P X (re w v.tape v.drawn) v->yw P ty Wg C S D M c vals o X p rg r j z (fL gs v sl) t w))
  (hk:k=(st,m+iX c q))(h:io P ty Wg C S D M c vals o X p rg r d st m left b q gs v t)(h9:9<=st)(hr:¬r<aa vals-aa left)(N:gs[0]?=ac (parked j #[rcase C z]<|.recv aw))(hS:Sm P X (re w v.tape v.drawn) v):
  yw P ty Wg C S D M c vals o X p rg r j z (fL gs v sl) t w:=by
 have bg:c≠0:=Jk h.gX;have F:b.status=aZ:=by
  cases h.ch with
  |send h=>exact Zi (λ_ _ x=>x.1) (λ_ x=>x) h|cls h=>exact Zi (λ_ _ x=>x.1) (λ_ x=>x) h
  |_=>omega
 have ba:=h.jU;rw[show bI (st<=8)=ao by grind]at ba;have hw:∀(a R:Zg) (E:Nat),woken P a R (v.at E) (parked j #[rcase C z]<|.recv aw)=parked j #[rcase C z] (.recv aw):=λa R E=>woken_recv_open a R ba;have bf:∀g∈gs,awake g:=by
  intro g1 J;obtain⟨i,O,rfl⟩:=Xd.1 J;have G:gs[i]?=ac gs[i]:=xy O;obtain rfl|bd:=jh i;rw[N]at G;rw[<-ql G];exact mW<|aE<|aF rfl;by_cases e:i=c;subst e;rw[h.hb]at G;rw[<-ql G];exact mW<|aF F;have:i<c:=Ŋ
  exact mW<|(h.oi i _ bd this G).status.elim aF λx=>aE (aE x)
 obtain⟨i,g1,E,y,O,J,bi⟩:=crowd_pick (P:=P) (w:=v) (sl:=sl) bf ⟨c,b,h.hb,F⟩;have hd:=Of B h E;have I:Sm P X (re w (v.at E).tape (v.at E).drawn)<|v.at E:=hS.re _ E;have K:∀{m1:Machine} {l:fG},runT P (fL gs (v.at E) y) i=(fS m1,l)->eT P 1 (fL gs v sl) t=(fS m1,t++l):=λ{m1 l} e=>by simp only[eT,bi,e]
 have bk:i≠0:=by rintro rfl;rw[N]at O;cases O;cases J
 have bj:i<c+1:=by have:=(za.1 O).1;rwa[h.J]at this
 by_cases e:i=c;subst e;rw[h.hb]at O;cases O;have Q:∀{d' L:Nat} {f:Ze},IX P ty Wg C S D M i vals o X p rg r (parked j #[rcase C z]<|.recv aw) st m q gs (v.at E) y t d' L f->9<=L->f=left->yw P ty Wg C S D M i vals o X p rg r j z (fL gs v sl) t w:=λ{d' L f} hN be hl=>by
  obtain⟨W,v',bl,l,m',b',T,a2,⟨V,Y,U,_⟩,H,Z,_⟩:=hN;subst hl;have:V=parked j #[rcase C z] (.recv aw):=by obtain e|⟨a,R,e⟩:=U;exact e;have bc:=H.jU;rw[show bI (L<=8)=ao by grind]at bc;rw[e];exact woken_recv_open a R bc
  subst this;exact .step (K T)<|(ih _ Â).2 _ _ _ _ _ _ _ _ _ _ rfl H be hr Y<|Z w I
 have bb:=hd.ch;cases bb with
 | @send v0 vs m b w hG=>
  rcases Vc (λ_ x=>x) hG with hs|⟨n,b',v',es,rfl,hs,hD,hG'⟩;obtain⟨W,v',l,m',b',T,a2,Y,H,Z,a6⟩:=xek (sl:=y) B hd hr N hs I;refine⟨1,W,v',y,_,(9+aa vs,m'+iX i q),K T, ?_, ?_,H⟩;rw[wT,if_pos Z];exact⟨_,_,_,_,_,_,a2,rfl⟩;rw[Ai,if_pos Z,a6];exact Y;exact Q (Fw B hd N hs hD (.send hG') À À) À rfl
 |cls hG=>
  rcases Vc (λ_ x=>x) hG with hs|⟨n,b',v',es,rfl,hs,hD,hG'⟩;obtain⟨b',m',T,a2,Y,H,Z⟩:=WP (sl:=y) B hd N hs;refine .step (K T)<|(ih _<|by rw[hk];omega).1 _ _ _ _ _ bh ⟨_,_,_,_,_,_,H,rfl⟩ ?_<|Z w I;rw[zl bg,jt,N];simp only[Xl,xj];unfold woken;rw[if_pos Â];refine again_recv_closed (cap:=aa vals) (buf:=aV ((vals.take<|aa vals-aa ([]:Ze)).drop r)) (s:=aa vals-aa ([]:Ze)) (r:=r) (tm:=ao) ?_;have:=H.jU;grind;exact Q (Fw B hd N hs hD (.cls hG') À À) À rfl
 |_=>omega
 obtain⟨W,l,q',T,a2,⟨V,Y,U⟩,H,_⟩:=Oi (sl:=y) hd N À À O J;have:V=parked j #[rcase C z] (.recv aw):=by obtain e|⟨a,R,e⟩:=U;exact e;rw[e];exact hw a R E
 subst this;exact .step (K T)<|(ih _<|by rw[hk];omega).2 _ _ _ _ _ _ _ _ _ _ rfl H h9 hr Y I
def xpx(B:Zs X Wg C S D M){z:Zv}{H:Zg}{w:Zy}(V:yz P C z H {parked H #[rcase C z] (.recv aw)with status:=aZ})(k:Nat×Nat):
  (∀gs v sl t g,yz P C z H g->JC P ty Wg C S D M c vals o X p rg r k gs v t->gs[0]?=ac g->Sm P X (re w v.tape v.drawn) v->yw P ty Wg C S D M c vals o X p rg r H z (fL gs v sl) t w)/\
   (∀d st m left b q gs v sl t,k=(st,m+iX c q)->io P ty Wg C S D M c vals o X p rg r d st m left b q gs v t->9<=st->¬r<aa vals-aa left->gs[0]?=ac (parked H #[rcase C z]<|.recv aw)->Sm P X (re w v.tape v.drawn) v->yw P ty Wg C S D M c vals o X p rg r H z (fL gs v sl) t w):=by
 induction k using AQ.induction with
 |_ k ih=>
  refine⟨λgs v sl t g G hJ x hS=>?_,λd st m left b q gs v sl t hk h h9 J x hS=>XO B V ih hk h h9 J x hS⟩;have ba:∀g∈gs,awake g:=by
   intro Q I;obtain⟨i,W,rfl⟩:=Xd.1 I;obtain rfl|f:=jh i;have:gs[0]=g:=by simpa[xy W]using x
   rw[this];exact mW<|aF G.oC;exact(Y0 B).iS k gs v t hJ i _ f<|xy W
  obtain⟨i,Q,n,a,W,I,bd⟩:=crowd_pick (P:=P) (w:=v) (sl:=sl) ba ⟨0,g,x,G.oC⟩;have R:=(Y0 B).fZ k gs v t n hJ;have y:Sm P X (re w (v.at n).tape (v.at n).drawn)<|v.at n:=hS.re _ n;have E:∀{m1:Machine} {F:fG},runT P (fL gs (v.at n) a) i=(fS m1,F)->eT P 1 (fL gs v sl) t=(fS m1,t++F):=λ{m1 F} e=>by simp only[eT,bd,e]
  obtain rfl|f:=jh i;obtain rfl:Q=g:=Â
  obtain⟨d,st,m,left,b,q,h,hk⟩:=R;by_cases J:r<aa vals-aa left;obtain⟨s,v',t',L,N,O,Y⟩:=xpy (sl:=a) B h x (G.st _) J y;have l:r<aa vals:=À
  refine⟨1,s,v',a,_,(st,m+iX c q),E L, ?_, ?_,Y⟩;rw[wT,if_pos l];exact⟨_,_,_,_,_,_,N,rfl⟩;rw[Ai,if_pos l];exact O;by_cases h8:st<=8;obtain⟨s,t',L,N,O⟩:=xa7 (sl:=a) B h x (G.st _) J h8;have hl:=h.ch.BY h8;have l:¬r<aa vals:=by rw[hl]at J;simpa using J
  refine⟨1,s,v.at n,a,_,(st,m+iX c q),E L, ?_, ?_,y⟩;rw[wT,if_neg l];exact⟨_,_,_,_,_,_,N,rfl⟩;rw[Ai,if_neg l];exact O;have he:aV ((vals.take<|aa vals-aa left).drop r)=#[]:=by have:((vals.take<|aa vals-aa left).drop r)=[]:=KR Æ;rw[this]
  have U:=h.jU;rw[he,show bI (st<=8)=ao by grind]at U;have K:=crowd_waits (sl:=a) x (G.st _) (λcc T=>by simp at T;subst T;exact ways_recv_none U<|Oj h aw);have bb:0<ak gs:=(za.1 x).1;have Z:io P ty Wg C S D M c vals o X p rg r d st m left b q (ay gs 0<|parked H #[rcase C z]<|.recv aw) (v.at n) (t++aS 0 Q.frame.fn Q.frame.place #[]):=
   h.vE B Ä (λj hj=>by rw[zl<|Ne.symm hj]) lI (λop bc=>by simp[eH]at bc) (λ_ _=>rfl) rfl h.jU h.so
  exact .step (E K)<|XO B V ih hk Z À J (by simp[bb]) y;obtain⟨s,v',be,F,k',L,N,O,Y,a5⟩:=(Y0 B).dE k gs (v.at n) t i Q g a R f W I x G.oC G.dy;exact .step (E L)<|(ih k' N).1 _ _ _ _ _ G Y O<|a5 w y
end
section
variable [cZ] (P:bT) (ty:nt) (Wg:Nat) (Out:cA->Prop)
def R0(ty:Zt)(Wg:Nat)(w w₁:Zy):Prop:=nI ty Wg w->nI ty Wg w₁
def vH(Stop:Zg->Zy->Prop)(g:Zg):Prop:=∀w,nI ty Wg w->∃m,fm P aw (R0 ty Wg) DC0 Stop m g w
def XH(g:Zg)(_w:Zy):Prop:=g.status=aZ/\Out g
def XG(g:Zg)(w:Zy):Prop:=g.status=aZ/\∃g',bF P aw g w=gj g' w #[mk<|.acquire<|stA Wg]/\vH P ty Wg (XH Out) g'
def I9(g:Zg)(w:Zy):Prop:=g.status=aZ/\∃g',bF P aw g w=gj g' w #[mk mQ]/\vH P ty Wg (XG P ty Wg Out) g'
def WV(g:Zg)(w:Zy):Prop:=g.status=aZ/\(WgAt ty Wg w 0 0->∃g',bF P aw g w=gj g' w #[rd<|stA Wg]/\vH P ty Wg (I9 P ty Wg Out) g')
def WU(g:Zg)(w:Zy):Prop:=g.status=aZ/\g.offers=ar/\((∃s,WgAt ty Wg w s 0)->bF P aw g w=gj {g with status:= .blocked} w #[])/\
 (WgAt ty Wg w 0 1->∃g',bF P aw g w=gj g' (ai w (smA Wg)<|zu 0) (semEvents<|smA Wg)/\vH P ty Wg (WV P ty Wg Out) g')
def WW(g:Zg)(w:Zy):Prop:=g.status=aZ/\∃g',bF P aw g w=gj g' w #[⟨.mark<|.write<|smA Wg,ao,aw⟩]/\vH P ty Wg (WU P ty Wg Out) g'
def OF(g:Zg)(w:Zy):Prop:=g.status=aZ/\(WgAt ty Wg w 0 0->∃g',bF P aw g w=gj g' w #[rd<|stA Wg]/\vH P ty Wg (I9 P ty Wg Out) g')
def WT(g:Zg)(w:Zy):Prop:=g.status=aZ/\(WgAt ty Wg w KK 0->∃g',bF P aw g w=gj g' (ai w (stA Wg)<|aH .u64<|KK+1) #[rd<|stA Wg,wr<|stA Wg]/\vH P ty Wg (WW P ty Wg Out) g')/\
 (WgAt ty Wg w 0 0->∃g',bF P aw g w=gj g' w #[rd<|stA Wg]/\vH P ty Wg (OF P ty Wg Out) g')
def OG(g:Zg)(w:Zy):Prop:=g.status=aZ/\(WgAt ty Wg w KK 0->∃g',bF P aw g w=gj g' w #[rd<|stA Wg]/\vH P ty Wg (WT P ty Wg Out) g')/\
 (WgAt ty Wg w 0 0->∃g',bF P aw g w=gj g' w #[rd<|stA Wg]/\vH P ty Wg (I9 P ty Wg Out) g')
def WS(g:Zg)(w:Zy):Prop:=g.status=aZ/\∃g',bF P aw g w=gj g' w #[mk mR]/\vH P ty Wg (OG P ty Wg Out) g'
inductive W0:Nat->Nat->Nat->Nat->Zg->Zy->Prop
 |kd {st m g w} (h:fm P aw (R0 ty Wg) DC0 (WS P ty Wg Out) m g w):W0 9 0 st m g w
 |w1 {st m g w} (h:fm P aw (R0 ty Wg) DC0 (OG P ty Wg Out) m g w):W0 8 4 st m g w
 |w2 {st m g w} (h:fm P aw (R0 ty Wg) DC0 (WT P ty Wg Out) m g w):W0 7 4 st m g w
 |w1b {m g w} (h:fm P aw (R0 ty Wg) DC0 (OF P ty Wg Out) m g w):W0 6 4 1 m g w
 |wr {st m g w} (h:fm P aw (R0 ty Wg) DC0 (WW P ty Wg Out) m g w):W0 5 1 st m g w
 |w3 {st m g w} (h:fm P aw (R0 ty Wg) DC0 (WU P ty Wg Out) m g w):W0 4 1 st m g w
 |w4 {m g w} (h:fm P aw (R0 ty Wg) DC0 (WV P ty Wg Out) m g w):W0 3 2 1 m g w
 |ke {rg m g w} (hrg:rg=4\/rg=2) (h:fm P aw (R0 ty Wg) DC0 (I9 P ty Wg Out) m g w):W0 2 rg 1 m g w
 |acq {m g w} (h:fm P aw (R0 ty Wg) DC0 (XG P ty Wg Out) m g w):W0 1 0 1 m g w
 |fin {m g w} (h:fm P aw (R0 ty Wg) DC0 (XH Out) m g w):W0 0 0 1 m g w
end
section
variable [cZ] {P:bT} {ty:nt} {Wg C:Nat} {S:Nat->Prop} {D M c:Nat} {vals:List dL} {o:Nat->Obj} {X:Nat->Prop} {p rg r:Nat} {Out:cA->Prop}
variable {d st m:Nat} {left:List dL} {b g0:cA} {q:Nat->Nat} {gs:Array cA} {v:cY} {t:fG} {sl:Option<|Nat×Nat}
def W0.sI{i st f g w w₁}(h:W0 P ty Wg Out i rg st f g w)(l:nI ty Wg w₁):W0 P ty Wg Out i rg st f g w₁:=by
 have e:∀a b c,R0 ty Wg a b->R0 ty Wg b c->R0 ty Wg a c:=λ_ _ _ j k x=>k<|j x;have d:R0 ty Wg w w₁:=λ_=>l;cases h with
 |kd h=>exact .kd<|h.rely e d
 |w1 h=>exact .w1<|h.rely e d
 |w2 h=>exact .w2<|h.rely e d
 |w1b h=>exact .w1b<|h.rely e d
 |wr h=>exact .wr<|h.rely e d
 |w3 h=>exact .w3<|h.rely e d
 |w4 h=>exact .w4<|h.rely e d
 |ke hrg h=>exact .ke hrg<|h.rely e d
 |acq h=>exact .acq<|h.rely e d
 |fin h=>exact .fin<|h.rely e d
def ztf{R c Stop}(b:∀g w,Stop g w->g.status=aZ)(a:∀w,R w w){m g w}(h:fm P aw R c Stop m g w):g.status=aZ:=by
 cases m with
 |zero=>exact b _ _<|h w<|a w
 |succ m=>obtain h|⟨h,_⟩:=h;exact b _ _<|h w<|a w;omega
theorem W0.oC{b st a g w}(h:W0 P ty Wg Out b rg st a g w):g.status=aZ:=by cases h<;>rename_i h<;>exact ztf (λ_ _ x=>x.1) (λ_ x=>x) h
def Vj{R a Stop}(b:∀w,R w w){m g w}(h:fm P aw R a Stop m g w):
  Stop g w\/∃m' g' w' es,m=m'+1/\bF P aw g w=gj g' w' es/\a w w' es/\fm P aw R a Stop m' g' w':=by
 cases m with
 |zero=>exact aF<|h w<|b w
 |succ m=>obtain h|⟨_,h⟩:=h;grind;right;have:=h w<|b w;cases hs:bF P aw g w with|go g' w' es=>grind [goes_go]|_=>rw[hs]at this;exact this.elim
def Ch.gX(h:Ch P ty Wg C S D M o d st m left b v):1<=st:=by cases h<;>omega
def io.Oy(B:Zs X Wg C S D M)(h:io P ty Wg C S D M c vals o X p rg r d st m left b q gs v t)(h0:gs[0]?=ac g0){g' x y es rg'}
  (V:∀e∈es,(∀z,(bN e).touch?=ac z->uk Wg z.loc/\(z.kind= .atomic\/z.kind= .said))/\∀a,e.loc≠ .mark (jC a))(hx:mL rg' st=x)(hy:mh rg' st=y)(I:1<st->st<5->rg'=1)(J:Ag rg'->st<=1)(hd:cS (e0 rg) es=e0 rg'):
  io P ty Wg C S D M c vals o X p rg' r d st m left b q (ay (gs.map<|woken P g0 g' {v with heap:=ay v.heap Wg<|wgBlock ty x y}) 0 g') {v with heap:=ay v.heap Wg<|wgBlock ty x y} (t++aS 0 g0.frame.fn g0.frame.place es):=by
 have s:c≠0:=Jk h.gX;have G:Wg<ak v.heap:=(za.1 h.wg).1;have l:∀z,z≠Wg->(ay v.heap Wg<|wgBlock ty x y)[z]?=v.heap[z]?:=λz k=>Â
 have K:ak (ay v.heap Wg<|wgBlock ty x y)=ak v.heap:=Ä
 have L:WgAt ty Wg {v with heap:=ay v.heap Wg<|wgBlock ty x y} x y:=by show(ay v.heap Wg<|wgBlock ty x y)[Wg]?=_;simp[G]
 have F:∀z,S z\/z=M->(ay v.heap Wg<|wgBlock ty x y)[z]?=v.heap[z]?:=λz k=>l z<|B.ws z k;have w:∀n∈aS 0 g0.frame.fn g0.frame.place es,∀z,n.act.touch?=ac z->uk Wg z.loc/\(z.kind= .atomic\/z.kind= .said):=λn f z k=>Ö
 refine⟨h.gX,ó, ?_,λi g N H E=>?_,λj W=>?_,h.ch.sI h.kc B.sd F ⟨_,_,L⟩,λz k=>(F z k).trans<|h.kc z k, ?_,(l C<|Ne.symm B.wc).trans h.jU,h.so,h.iW,Â,I,J, ?_,by rw[lm,h.mf];exact hd, ?_,λT=>?_,á⟩;rw[zl<|Ne.symm s,jt,h.hb];simp only[Xl,xj];obtain e|e:=h.ch.iS;exact woken_run e;cases h.ch with
 |out hq2=>exact iA hq2
 |_=>
  rename_i hG;first
   |(have:=Zi (λ_ _ x=>x.1) (λ_ x=>x) hG;grind)
   |(have:=Zi (λ_ _ x=>x.1) V7 hG;grind)
 rw[zl À,jt]at E;obtain⟨y,hy,rfl⟩:=zv.1 E;have O:=h.oi i y N H hy;rw[iA O,cU t (g':=0) À _ lI];exact O;rw[cU t (g':=0) À _ lI];exact h.d8 j W;obtain⟨R,e,hs⟩:=h.tG;exact⟨R,(F D<|aF B.sd).trans e,hs⟩;show TP X (tJ S M) Wg C c (stA Wg) p (ak (ay v.heap Wg<|wgBlock ty x y)) _;rw[K];refine h.tp.gk B.eF (aF rfl) lI (λn f z k hm=>?_) (λn f z k=>?_) (λn f e=>?_) BO;obtain⟨k1,k2⟩:=w n f z k;exact aE<|aF ⟨k1,k2.imp id λx=>⟨x,rfl⟩⟩;obtain⟨⟨Q,e,U⟩,_⟩:=w n f z k;rw[e];show Q.block<_;omega;grind [zy,BJ];rw[cU t (g':=0) (Ne.symm s) _ lI];exact h.iV;obtain⟨rr,Y,Z⟩:=h.rel T;refine⟨rr,Y,Z.gk λi N E _=>?_⟩;obtain⟨z,k,ba⟩:=zv.1 E;grind [lI]
end
section
variable [cZ] {P:bT} {ty:nt} {Wg C:Nat} {S:Nat->Prop} {D M c:Nat} {vals:List dL} {o:Nat->Obj} {X:Nat->Prop} {p rg r:Nat} {Out:cA->Prop}
variable {d st m:Nat} {left:List dL} {b g:cA} {q:Nat->Nat} {gs:Array cA} {v:cY} {t:fG} {sl:Option<|Nat×Nat}
def FE(Wg:Nat)(es:Array lh):Prop:=∀e∈es,(∀z,(bN e).touch?=ac z->uk Wg z.loc/\(z.kind= .atomic\/z.kind= .said))/\∀a,e.loc≠ .mark (jC a)
def OJ(B:Zs X Wg C S D M)(h:io P ty Wg C S D M c vals o X p rg r d st m left b q gs v t)(a:gs[0]?=ac g){g':Zg}{x y:Int}{es:Array lh}{rg':Nat}(j:bF P aw g v=gj g' {v with heap:=ay v.heap Wg<|wgBlock ty x y} es)
  (e:FE Wg es)(hx:mL rg' st=x)(hy:mh rg' st=y)(f:1<st->st<5->rg'=1)(i:Ag rg'->st<=1)(hd:cS (e0 rg) es=e0 rg'):
  ∃gs',runT P (fL gs v sl) 0=(fS<|crowd gs' {v with heap:=ay v.heap Wg<|wgBlock ty x y} sl,aS 0 g.frame.fn g.frame.place es)/\gs'[0]?=ac g'/\
   io P ty Wg C S D M c vals o X p rg' r d st m left b q gs' {v with heap:=ay v.heap Wg<|wgBlock ty x y} (t++aS 0 g.frame.fn g.frame.place es)/\∀w,Sm P X (re w v.tape v.drawn) v->Sm P X (re w v.tape v.drawn) {v with heap:=ay v.heap Wg<|wgBlock ty x y}:=by
 have l:0<ak gs:=(za.1 a).1;exact⟨_,oS a j,Â,h.Oy B a e hx hy f i hd,λw k=>WK k B.xw B.nw h.wg x y⟩
def vI(B:Zs X Wg C S D M)(h:io P ty Wg C S D M c vals o X p rg r d st m left b q gs v t)(k:gs[0]?=ac g){g' es rg'}(j:bF P aw g v=gj g' v es)
  (a:FE Wg es)(hx:mL rg' st=mL rg st)(hy:mh rg' st=mh rg st)(f:1<st->st<5->rg'=1)(i:Ag rg'->st<=1)(hd:cS (e0 rg) es=e0 rg'):
  ∃gs',runT P (fL gs v sl) 0=(fS<|crowd gs' v sl,aS 0 g.frame.fn g.frame.place es)/\gs'[0]?=ac g'/\io P ty Wg C S D M c vals o X p rg' r d st m left b q gs' v (t++aS 0 g.frame.fn g.frame.place es):=by
 have e:=Ot h.wg;obtain⟨gs',l,n,s,_⟩:=OJ (sl:=sl) (rg':=rg') (x:=mL rg st) (y:=mh rg st) B h k (by rw[e];exact j) a hx hy f i hd;grind
def W4:FE Wg #[]:=λe a=>Â
def OK{m'}(d:(fT m').touch?=ar)(f:∀a,m'≠ jC a):FE Wg #[mk m']:=λe b=>by simp at b;subst b;refine⟨λz c=>?_,λa e=>?_⟩;have:(fT m').touch?=ac z:=c;grind;cases e;grind
def Ds{es}(b:∀e∈es,∃a w,e=(⟨kF a,w,aw⟩:lh)/\a.block=Wg):FE Wg es:=λe c=>by obtain⟨a,w,rfl,d⟩:=b e c;exact⟨λz f=>by grind [IV],λa=>Ä⟩
def Jn(Wg c p:Nat)(t:fG):Prop:=∃rr q',p<=rr/\tH (stA Wg) c t rr/\t.act? q'=ac (fT<|.acquire<|stA Wg)/\t.g? q'=ac 0/\t.heard q'/\rr<q'
variable (P ty Wg C S D M c vals o X p r Out)in
def XI(d st m:Nat)(left:Ze)(b:Zg)(q:Nat->Nat)(s0 m0:Nat)(gs:Array Zg)(v:Zy)(sl:Option<|Nat×Nat)(t:fG):Prop:=
 ∃gs' v' ops s0' m0' fl rg' g',runT P (fL gs v sl) 0=(fS<|crowd gs' v' sl,ops)/\io P ty Wg C S D M c vals o X p rg' r d st m left b q gs' v' (t++ops)/\gs'[0]?=ac (if fl=0 then {g' with status:= .blocked}else g')/\
  (fl=1\/(fl=0/\s0'=4/\1<st/\g'.offers=ar))/\W0 P ty Wg Out s0' rg' st m0' g' v'/\(s0'=0->Jn Wg c p (t++ops))/\(s0'<s0\/(s0'=s0/\m0'+fl<m0+1))/\∀w,Sm P X (re w v.tape v.drawn) v->Sm P X (re w v'.tape v'.drawn) v'
def xs7(B:Zs X Wg C S D M)(h:io P ty Wg C S D M c vals o X p rg r d st m left b q gs v t)(L:gs[0]?=ac g){T W}(hw:W0 P ty Wg Out T rg st W g v)(hj:T=0->Jn Wg c p t):
  (T=0/\Out g)\/XI P ty Wg C S D M c vals o X p r Out d st m left b q T W gs v sl t:=by
 have k:nI ty Wg v:=⟨_,_,h.wg⟩;have be:=h.ch.gX;have s:∀{n:Nat} {l:Zg} {J:Zy} {K:Array lh},W=n+1->bF P aw g v=gj l J K->DC0 v J K->W0 P ty Wg Out T rg st n l J->XI P ty Wg C S D M c vals o X p r Out d st m left b q T W gs v sl t:=λ{n l J K} e f G bb=>by
  obtain⟨rfl,rfl⟩:=G;obtain⟨a,F,N,E⟩:=vI (sl:=sl) B h L f W4 rfl rfl h.pI h.pH rfl;have e':t++aS 0 g.frame.fn g.frame.place #[]=t:=by simp[eH]
  exact⟨a,J,_,T,n,1,rg,l,F,E,Â,aF rfl,bb,λx=>Â,aE ⟨rfl,À⟩,λw H=>H⟩
 cases hw with
 |kd hG=>
  right;rcases Vj (λ_ x=>x) hG with⟨_,l,f,j⟩|⟨n,l,J,K,rfl,f,G,hG'⟩;obtain⟨I,j⟩:=j v k;obtain⟨a,F,N,E⟩:=vI (sl:=sl) (rg':=4) B h L f (OK rfl Ä) (by simp[mL]) (by simp[mh]) (λx y=>by have:=h.pI x y;omega) (λx=>absurd rfl x.2.2) (by simp[mk,cS,e0]);exact⟨a,v,_,8,I,1,4,l,F,E,Â,aF rfl,.w1 j,λx=>À,aF À,λw H=>H⟩;exact s rfl f G<|.kd hG'
 |w1 hG=>
  right;rcases Vj (λ_ x=>x) hG with⟨_,hs1,hs2⟩|⟨n,l,J,K,rfl,f,G,hG'⟩;by_cases U:st<=1;obtain rfl:st=1:=À
  obtain⟨l,f,j⟩:=hs2 h.wg;obtain⟨I,j⟩:=j v k;obtain⟨a,F,N,E⟩:=vI (sl:=sl) (rg':=4) B h L f (Ds BH) rfl rfl h.pI h.pH Đ;exact⟨a,v,_,2,I,1,4,l,F,E,Â,aF rfl,.ke (aF rfl) j,λx=>À,aF À,λw H=>H⟩;have O:=h.wg;rw[show mL 4 st=KK by simp[mL,U],show mh 4 st=0 by simp[mh]]at O;obtain⟨l,f,j⟩:=hs1 O;obtain⟨I,j⟩:=j v k;obtain⟨a,F,N,E⟩:=vI (sl:=sl) (rg':=4) B h L f (Ds BH) rfl rfl h.pI h.pH Đ;exact⟨a,v,_,7,I,1,4,l,F,E,Â,aF rfl,.w2 j,λx=>À,aF À,λw H=>H⟩;exact s rfl f G<|.w1 hG'
 |w2 hG=>
  right;rcases Vj (λ_ x=>x) hG with⟨_,hs1,hs2⟩|⟨n,l,J,K,rfl,f,G,hG'⟩;by_cases U:st<=1;obtain rfl:st=1:=À
  obtain⟨l,f,j⟩:=hs2 h.wg;obtain⟨I,j⟩:=j v k;obtain⟨a,F,N,E⟩:=vI (sl:=sl) (rg':=4) B h L f (Ds BH) rfl rfl h.pI h.pH Đ;exact⟨a,v,_,6,I,1,4,l,F,E,Â,aF rfl,.w1b j,λx=>À,aF À,λw H=>H⟩;have O:=h.wg;rw[show mL 4 st=KK by simp[mL,U],show mh 4 st=0 by simp[mh]]at O;have h5:5<=st:=by apply jg;intro j;have:=h.pI À À;omega
  obtain⟨l,f,j⟩:=hs1 O;rw[IU O]at f;obtain⟨a,F,N,E,Y⟩:=OJ (sl:=sl) (rg':=1) B h L f (Ds IT) (by simp[mL,h5]) (by simp[mh,U]) (λ_ _=>rfl) (λx=>absurd rfl x.2.1) (by simp[rd,wr,cS,e0]);obtain⟨I,j⟩:=j _ ⟨_,_,E.wg⟩;exact⟨a,_,_,5,I,1,1,l,F,E,Â,aF rfl,.wr j,λx=>À,aF À,Y⟩;exact s rfl f G<|.w2 hG'
 |w1b hG=>
  right;rcases Vj (λ_ x=>x) hG with⟨_,hs2⟩|⟨n,l,J,K,rfl,f,G,hG'⟩;obtain⟨l,f,j⟩:=hs2 h.wg;obtain⟨I,j⟩:=j v k;obtain⟨a,F,N,E⟩:=vI (sl:=sl) (rg':=4) B h L f (Ds BH) rfl rfl h.pI h.pH Đ;exact⟨a,v,_,2,I,1,4,l,F,E,Â,aF rfl,.ke (aF rfl) j,λx=>À,aF À,λw H=>H⟩;exact s rfl f G<|.w1b hG'
 |wr hG=>
  right;rcases Vj (λ_ x=>x) hG with⟨_,l,f,j⟩|⟨n,l,J,K,rfl,f,G,hG'⟩;obtain⟨I,j⟩:=j v k;obtain⟨a,F,N,E⟩:=vI (sl:=sl) (rg':=1) B h L f (λe V=>by simp at V;subst V;exact⟨λz Q=>by simp only[bN,bY,xj]at Q;subst Q;exact⟨⟨_,rfl,rfl⟩,aE rfl⟩,Ä⟩) rfl rfl h.pI h.pH<|by simp[cS]
  exact⟨a,v,_,4,I,1,1,l,F,E,Â,aF rfl,.w3 j,λx=>À,aF À,λw H=>H⟩;exact s rfl f G<|.wr hG'
 |w3 hG=>
  right;rcases Vj (λ_ x=>x) hG with⟨hrun,hoff,hs1,hs2⟩|⟨n,l,J,K,rfl,f,G,hG'⟩;by_cases U:st<=1;obtain rfl:st=1:=À
  have O:WgAt ty Wg v 0 1:=h.wg;obtain⟨l,f,j⟩:=hs2 O;rw[WN O]at f;obtain⟨a,F,N,E,Y⟩:=OJ (sl:=sl) (rg':=2) B h L f (λe V=>by simp[semEvents]at V;obtain rfl|rfl|rfl|rfl:=V;grind [bN,bY];exact⟨λz Q=>ĥ,Ä⟩;exact⟨λz Q=>ĥ,Ä⟩;grind [bN,bY]) rfl rfl (λx=>À) (λ_=>À)<|by simp[semEvents,cS,e0]
  obtain⟨I,j⟩:=j _ ⟨_,_,E.wg⟩;exact⟨a,_,_,3,I,1,2,l,F,E,Â,aF rfl,.w4 j,λx=>À,aF À,Y⟩;have O:=h.wg;rw[show mh 1 st=0 by simp[mh,U]]at O;have f:=hs1 ⟨_,O⟩;obtain⟨a,F,N,E⟩:=vI (sl:=sl) (rg':=1) B h L f W4 rfl rfl h.pI h.pH rfl;exact⟨a,v,_,4,W,0,1,g,F,E,Â,aE ⟨rfl,rfl,À,hoff⟩,.w3 hG,λx=>À,aE ⟨rfl,À⟩,λw H=>H⟩;exact s rfl f G<|.w3 hG'
 |w4 hG=>
  right;rcases Vj (λ_ x=>x) hG with⟨_,hs2⟩|⟨n,l,J,K,rfl,f,G,hG'⟩;obtain⟨l,f,j⟩:=hs2 h.wg;obtain⟨I,j⟩:=j v k;obtain⟨a,F,N,E⟩:=vI (sl:=sl) (rg':=2) B h L f (Ds BH) rfl rfl h.pI h.pH Đ;exact⟨a,v,_,2,I,1,2,l,F,E,Â,aF rfl,.ke (aE rfl) j,λx=>À,aF À,λw H=>H⟩;exact s rfl f G<|.w4 hG'
 |ke hrg hG=>
  right;rcases Vj (λ_ x=>x) hG with⟨_,l,f,j⟩|⟨n,l,J,K,rfl,f,G,hG'⟩;obtain⟨I,j⟩:=j v k;obtain⟨a,F,N,E⟩:=vI (sl:=sl) (rg':=0) B h L f (OK rfl Ä) (by obtain rfl|rfl:=hrg<;>rfl) (by obtain rfl|rfl:=hrg<;>rfl) (λx=>À) (λx=>absurd rfl x.1) (by grind [mk,cS,e0]);exact⟨a,v,_,1,I,1,0,l,F,E,Â,aF rfl,.acq j,λx=>À,aF À,λw H=>H⟩;exact s rfl f G<|.ke hrg hG'
 |acq hG=>
  right;rcases Vj (λ_ x=>x) hG with⟨_,l,f,j⟩|⟨n,l,J,K,rfl,f,G,hG'⟩;obtain⟨I,j⟩:=j v k;obtain⟨a,F,N,E⟩:=vI (sl:=sl) (rg':=0) B h L f (OK rfl Ä) rfl rfl h.pI h.pH (by grind [mk,cS]);refine⟨a,v,_,0,I,1,0,l,F,E,Â,aF rfl,.fin j,λ_=>?_,aF À,λw H=>H⟩;obtain⟨rr,hp,Z⟩:=E.rel À;obtain⟨bh,_,bg⟩:=h.rel À;obtain⟨rr,hp,Z⟩:=h.rel À;have ba:rr<ak t:=lt_of_act? Z.IR;have R:(t++aS 0 g.frame.fn g.frame.place #[mk<|.acquire<|stA Wg])[ak t]?=ac {g:=0,fn:=g.frame.fn,pos:=g.frame.place,act:=fT (.acquire<|stA Wg)}:=by simp[eH,mk,bN]
  refine⟨rr,ak t,hp,Z.gk λi hi hg _=>?_,by rw[act?_of R],by simp[gw,R],⟨0,by simp[gw,R], ?_⟩,ba⟩;obtain⟨z,Q,bc⟩:=zv.1 hg;obtain⟨bf,_⟩|⟨_,bd⟩:=getElem?_append_cases Q;omega;exact Jk h.gX<|bc.symm.trans<|lI z bd;rw[deaf_old<|zd _];exact h.mf;exact s rfl f G<|.acq hG'
 |fin hG=>rcases Vj (λ_ x=>x) hG with⟨_,ho⟩|⟨n,l,J,K,rfl,f,G,hG'⟩;grind;exact aE<|s rfl f G<|.fin hG'
end
section
variable [cZ] {P:bT} {ty:nt} {Wg C:Nat} {S:Nat->Prop} {D M c:Nat} {vals:List dL} {o:Nat->Obj} {X:Nat->Prop} {p rg r:Nat} {Out:cA->Prop}
variable {d st m:Nat} {left:List dL} {b g:cA} {q:Nat->Nat} {gs:Array cA} {v:cY} {t:fG} {sl:Option<|Nat×Nat}
abbrev LtW:Nat×Nat×Nat->Nat×Nat×Nat->Prop:=Prod.Lex (·<·) (Prod.Lex (·<·) (·<·))
def xyr:WellFounded LtW:=(Prod.lex Nat.lt_wfRel<|Prod.lex Nat.lt_wfRel Nat.lt_wfRel).wf
variable (P ty Wg C S D M c vals o X p r Out)in
def JW(k:Nat×Nat×Nat)(gs:Array Zg)(v:Zy)(t:fG):Prop:=
 ∃s0 m0 fl rg d st m left b q g,io P ty Wg C S D M c vals o X p rg r d st m left b q gs v t/\gs[0]?=ac (if fl=0 then {g with status:= .blocked}else g)/\(fl=1\/(fl=0/\s0=4/\1<st/\g.offers=ar))/\
  W0 P ty Wg Out s0 rg st m0 g v/\(s0=0->Jn Wg c p t)/\k=(s0+st,m+iX c q,m0+fl)
variable (P ty Wg C S D M c vals o X p r Out)in
def JB(m:Machine)(t:fG)(w:Zy):Prop:=
 ∃N gs' v' sl' t' d mm left b q g,eT P N m t=(fS<|crowd gs' v' sl',t')/\io P ty Wg C S D M c vals o X p 0 r d 1 mm left b q gs' v' t'/\gs'[0]?=ac g/\Out g/\Jn Wg c p t'/\Sm P X (re w v'.tape v'.drawn) v'
def JB.step{m m1 t f w N}(h:eT P N m t=(fS m1,f))(k:JB P ty Wg C S D M c vals o X p r Out m1 f w):JB P ty Wg C S D M c vals o X p r Out m t w:=by obtain⟨i,a,v,e,s,d,n,left,b,q,g,j,l⟩:=k;exact⟨N+i,a,v,e,s,d,n,left,b,q,g,qr h j,l⟩
def W0.FC{b st' a w w₁}(h:W0 P ty Wg Out b rg st a g w)(c:nI ty Wg w₁)(d:st'<=st)(e:1<=st'):W0 P ty Wg Out b rg st' a g w₁:=by
 have h:=h.sI c;cases h with
 |kd h=>exact .kd h|w1 h=>exact .w1 h
 |w2 h=>exact .w2 h
 |w1b h=>
      obtain rfl:st'=1:=À
      exact .w1b h
 |wr h=>exact .wr h|w3 h=>exact .w3 h
 |w4 h=>
      obtain rfl:st'=1:=À
      exact .w4 h
 |ke hrg h=>
        obtain rfl:st'=1:=À
        exact .ke hrg h
 |acq h=>
      obtain rfl:st'=1:=À
      exact .acq h
 |fin h=>
      obtain rfl:st'=1:=À
      exact .fin h
def Ch.Ov(h:Ch P ty Wg C S D M o d st m left b v)(a:st<=1):QuitsD P m d b:=by cases h<;>first|omega|omega
def W0.rN{st a w}(h:W0 P ty Wg Out 4 rg st a g w):rg=1:=by cases h;rfl
def W0.sD{st a w}(h:W0 P ty Wg Out 0 rg st a g w):st=1/\rg=0:=by cases h;omega
theorem Jn.gk{u}(h:Jn Wg c p t)(l:∀rr,tH (stA Wg) c t rr->tH (stA Wg) c (t++u) rr):Jn Wg c p<|t++u:=by obtain⟨rr,b,d,e,f,i,j,k⟩:=h;have a:b<ak t:=lt_of_act? f;exact⟨rr,b,d,l rr e,by grind [act?_old],by rw[g?_old a];exact i,(heard_old a).2 j,k⟩
def XP{c:Nat}{a a':Zg}{v':Zy}{b:Zg}(d:g.status=aZ)(e:c=1\/(c=0/\g.offers=ar))(h:b=(if c=0 then {g with status:= .blocked}else g)\/∃a a',b=woken P a a' v' (if c=0 then {g with status:= .blocked}else g)):
  ∃fl',b=(if fl'=0 then {g with status:= .blocked}else g)/\(fl'=1\/fl'=0/\c=0):=by
 grind [woken_run,woken,ConcR.again_blocked]
theorem xqy(B:Zs X Wg C S D M){w}(k):∀gs v sl t,JW P ty Wg C S D M c vals o X p r Out k gs v t->Sm P X (re w v.tape v.drawn) v->JB P ty Wg C S D M c vals o X p r Out (fL gs v sl) t w:=by
 induction k using xyr.induction with
 |_ k ih=>
  intro gs v sl t hJ hS;obtain⟨s0,m0,Q,rg,d,st,m,left,b,q,g,h,h0,l,hw,hj,hk⟩:=hJ;have ba:=hw.oC;have n:Q=1\/(Q=0/\g.offers=ar):=l.imp id λx=>⟨x.1,x.c⟩;have bh:Q=0->b.status=aZ:=λe=>by
   have bj:1<st:=l.elim (λx=>À) λx=>x.2.2.1;cases h.ch with
   |out _=>omega
   |_=>
    rename_i hG;first
     |exact Zi (λ_ _ x=>x.1) (λ_ x=>x) hG|exact Zi (λ_ _ x=>x.1) V7 hG
  have bg:∀g∈gs,awake g:=by
   intro g1 y;obtain⟨i,R,rfl⟩:=Xd.1 y;have I:gs[i]?=ac gs[i]:=xy R;obtain rfl|s:=jh i;grind [mW];by_cases e:i=c;subst e;rw[h.hb]at I;rw[<-ql I];exact mW<|h.ch.iS.elim aF λx=>aE (aE x);have:i<c:=Ŋ
   exact mW<|(h.oi i _ s this I).status.elim aF λx=>aE (aE x)
  have K:∃(i:Nat) (g:Zg),gs[i]?=ac g/\g.status=aZ:=by obtain rfl|⟨rfl,_⟩:=l;grind;exact⟨c,b,h.hb,bh rfl⟩
  obtain⟨i,g1,G,z,R,y,bj⟩:=crowd_pick (P:=P) (w:=v) (sl:=sl) bg K;have hd:=Of B h G;have H:Sm P X (re w (v.at G).tape (v.at G).drawn)<|v.at G:=hS.re _ G;have L:=hw.sI (w₁:=v.at G) ⟨_,_,h.wg⟩;have O:∀{m1:Machine} {f:fG},runT P (fL gs (v.at G) z) i=(fS m1,f)->eT P 1 (fL gs v sl) t=(fS m1,t++f):=λ{m1 f} e=>ò
  have bk:i<c+1:=by have:=(za.1 R).1;rwa[h.J]at this
  have bi:offersAt (if Q=0 then {g with status:= .blocked}else g) C ao=[]:=by obtain rfl|⟨rfl,bc⟩:=n;grind [kE];simp[offersAt,bc]
  obtain rfl|s:=jh i;have Z:Q=1:=by obtain x|⟨rfl,_⟩:=l;exact x;grind
  subst Z;rcases xs7 (sl:=z) B hd Â L hj with⟨rfl,ho⟩|⟨Y,v',f,s0',m0',j,rg',g',T,a2,a3,F,a5,V,a7,a8⟩;obtain⟨rfl,rfl⟩:=hw.sD;exact⟨0,gs,v,sl,t,d,m,left,b,q,g,rfl,h,Â,ho,hj rfl,hS⟩;refine .step (O T)<|ih _ ?_ _ _ _ _ ⟨s0',m0',j,rg',d,st,m,left,b,q,g',a2,a3,F,a5,V,rfl⟩<|a8 w H;rw[hk];grind;by_cases e:i=c;subst e;rw[h.hb]at R;cases R;obtain⟨d',be,N,Y,v',bl,f,m',b',T,a2,⟨bf,a3,E,U⟩,F,a5,V⟩:=WL (sl:=z) B hd h0 bi y;have bd:be<=st:=by cases a2 with|left _ _ h=>omega|right _ h=>omega
  obtain⟨j,e1,W⟩:=XP (a:=g) (a':=g) ba n E;have J:=F.ch.gX;refine .step (O T)<|ih _ ?_ _ _ _ _ ⟨s0,m0,j,rg,d',be,m',N,b',q,g,F,Â, ?_,L.FC ⟨_,_,F.wg⟩ bd J,λx=>(hj x).gk<|V<|by subst x;obtain⟨rfl,_⟩:=hw.sD;omega,rfl⟩<|a5 w H;rw[hk];grind;obtain W|⟨W,e3⟩:=W;omega;right;obtain⟨rfl,h4,h5,h6⟩:Q=0/\s0=4/\1<st/\g.offers=ar:=by obtain x|x:=l;omega;omega
  refine⟨W,h4, ?_,h6⟩;apply jg;intro hn;subst h4;obtain⟨bb,k1,k2,k3,k4⟩:=U hw.rN À h5;grind [woken,ConcR.again_blocked];obtain⟨Y,f,q',T,a2,⟨bf,a3,E⟩,F,V⟩:=Oi (sl:=z) hd h0 s À R y;obtain⟨j,e1,W⟩:=XP (a:=g) (a':=g) ba n E;refine .step (O T)<|ih _ ?_ _ _ _ _ ⟨s0,m0,j,rg,d,st,m,left,b,q',g,F,Â, ?_,L,λx=>(hj x).gk V,rfl⟩ H;grind;grind
theorem xbt(B:Zs X Wg C S D M){X'}(f:∀x,X x->¬(S x\/x=M)->X' x){z}(h:io P ty Wg C S D M c vals o X p 0 r d 1 z left b q gs v t)(E:Jn Wg c p t)(T:∃g,gs[0]?=ac g):
  ∃k,JL P X' k gs v t:=by
 obtain⟨rr,U,K,L,N,O,Q,R⟩:=E;have J:QuitsD P z d b:=h.ch.Ov<|zd _;refine⟨_,λi=>if i=c then z else q i,⟨λi g H m=>?_,λj E=>?_⟩,h.tp.Oc B.eF L K N O Q R h.mf (λl n s=>?_) λl n s=>?_,rfl⟩;have I:i<c+1:=by have:=(za.1 m).1;rwa[h.J]at this
 by_cases e:i=c;subst e;rw[h.hb]at m;cases m;simp only[if_true,h.iV];exact J;simp only[e,if_false];exact h.oi i g H À m;exact h.d8 j Ŋ;obtain⟨a,e,G⟩:=n;exact⟨a,e,f _ G λy=>s<|aF ⟨a,e,y⟩⟩;obtain⟨F,e,w⟩:=n;exact⟨F,e,f _ w λy=>s<|aE ⟨F,e,y⟩⟩
end
end
section
open Go.RowKit Go.Conc.Lib Go.ConcR.Gen Go.ConcN.Gen
open Go.ConcN (WgLive)
open Go.ConcR (KK wgBlock WgAt stA smA rd wr mk Payload DC0)
variable [pn:Pn]
section
variable {cs:List Zf}
section
variable [cZ] {L:WgLink} {P:bT} {Wg:Nat} {Out:cA->Prop}
def zr{ty:Zt}{w w₁}(h:nI ty Wg w)(r:R0 ty Wg w w₁):nI ty Wg w₁:=r h
def OH{b c:Zf}{a todo cs w fn}(f:b.kind= .deferred)(hd:a.defers=[])(e:P.funcs[b.fn]?=ac fn)(d:fn.results=#[]):
  bF P aw (G {b.at a todo with mode:=dN} (c::cs)) w=gj (G {c with mode:=settle c.mode} cs) w:=by
 simp only[G,bF,cW,ft,Frame.at,f,hd,e,ze,results_none d _ P w,events_results_none d _ _,seen_none];unfold settle;split<;>(try split)<;>simp_all [aY]
def _root_.Go.Conc.Goes.up{main b a Stop n k g w}(h:fm P main b a Stop n g w)(hk:n<=k):fm P main b a Stop k g w:=by induction hk with|refl=>exact h|step _ ih=>exact ih.more
def WR(L:WgLink)(Wg:Nat)(c:Zf)(cs:List Zf)(g:Zg):Prop:=
 ∃T:Za,g=G ((baseD L.wait).at ⟨T,[]⟩ [cD<|L7 L,mS<|L7 L,.inBlock 0]) (c::cs)/\ak T=84/\T[0]?=ac (zo Wg)
def xus(H:WgLib P L){c:Zf}(i:Out<|G {c with mode:=settle c.mode} cs){g:Zg}(j:WR L Wg c cs g)(w:Zy)(a:nI L.tWg Wg w):fm P aw (R0 L.tWg Wg) DC0 (OF P L.tWg Wg Out) 40 g w:=by
 lib_facts
 obtain⟨T,rfl,d,f⟩:=j;obtain⟨v0,v1,v2,v3,v4,v5,v6,v7,v8,v9,k,l,m,n,o,p,q,r,s,t,x,y,z,B,C,D,E,F,I,J,K,M,N,O,Q,R,S,U,V,W,X,Y,Z,ba,bb,bc,bd,be,bf,bg,bh,bi,bj,bk,bl,bm,bn,bo,bp,bq,br,bs,bt,bu,bv,bw,bx,bz,b0,b1,b2,b3,b4,b5,b6,b7,b8,b9,ca,cb,cc,cd,ce,cf,rfl⟩:=array84 T d;simp only[Jz,qh,xj]at f;subst f;simp only[L7,body_wait,waitFn,qt];u_c oR zr a;u_c bX zr a;u_reg zr a;iterate 3 (u_op zr a)
 u_call H.f_uLoad (nm_uLoad L) uLoadFn zr a;iterate 9 (first|u_c bX zr a|u_reg zr a|u_c aO zr a|u_op zr a)
 refine fc λh b=>?_;clear b a;refine⟨rfl,λe=>?_⟩;refine⟨_,mr (v:=0) rfl rfl Î rfl H.f_loadU64 (x_loadU64_n L) (x_loadU64_b L) (x_loadU64_x L) .u64 (x_loadU64_f L) rfl e.cellSt,λw a=>⟨60, ?_⟩⟩;clear e;walk_nrm;u_op zr a;u_c aO zr a;u_c im zr a;u_leave1 H.f_uLoad zr a;iterate 22 (first|u_c aO zr a|u_c bX zr a|u_reg zr a|u_op zr a)
 u_cond aw zr a;u_c bX zr a;u_cond aw zr a;u_c bX zr a;u_reg zr a;refine fc λh b=>?_;clear b a;refine⟨rfl,_,stepG_mark0 mQ Ä rfl rfl Î rfl H.f_enable (x_enable_n L) (x_enable_b L) (x_enable_x L)<|x_enable_f L,λw a=>⟨12, ?_⟩⟩;walk_nrm;u_c aO zr a;u_reg zr a;u_op zr a;u_conv H.underlying_tWgP H.room_tWg (iL a).choose_spec zr a;refine fc λh b=>?_;clear b a;refine⟨rfl,_,stepG_markAt .acquire Ä rfl rfl Î rfl H.f_acquire (x_acquire_n L) (x_acquire_b L) (x_acquire_x L) (x_acquire_f L)<|by simp[iH,stA],λw a=>⟨40, ?_⟩⟩;walk_nrm;iterate 16 (first|u_c aO zr a|u_c bX zr a|u_reg zr a|u_skip zr a|u_op zr a)
 u_cond ao zr a;u_c nJ zr a;u_c im zr a;refine iM rfl λ_ b=>?_;rw[OH rfl rfl H.f_wait rfl];simp only[goes_go];exact⟨⟨rfl,rfl⟩,fc λ_ _=>⟨rfl,i⟩⟩
def xur(H:WgLib P L){c:Zf}(h:Out<|G {c with mode:=settle c.mode} cs){g:Zg}(k:WR L Wg c cs g)(w:Zy)(a:nI L.tWg Wg w):fm P aw (R0 L.tWg Wg) DC0 (OG P L.tWg Wg Out) 40 g w:=by
 lib_facts
 obtain⟨T,rfl,f,j⟩:=k;obtain⟨v0,v1,v2,v3,v4,v5,v6,v7,v8,v9,l,m,o,p,q,r,s,t,x,y,z,B,C,D,E,F,I,J,K,M,N,O,Q,R,S,U,V,W,X,Y,Z,ba,bb,bc,bd,be,bf,bg,bh,bi,bj,bk,bl,bm,bn,bo,bp,bq,br,bs,bt,bu,bv,bw,bx,bz,b0,b1,b2,b3,b4,b5,b6,b7,b8,b9,ca,cb,cc,cd,ce,cf,cg,ch,rfl⟩:=array84 T f;simp only[Jz,qh,xj]at j;subst j;simp only[L7,body_wait,waitFn,qt];u_c oR zr a;u_c bX zr a;u_reg zr a;iterate 3 (u_op zr a)
 u_call H.f_uLoad (nm_uLoad L) uLoadFn zr a;iterate 9 (first|u_c bX zr a|u_reg zr a|u_c aO zr a|u_op zr a)
 refine fc λe b=>?_;clear b a;refine⟨rfl,λd=>?_,λd=>?_⟩;rotate_left
 ·skip;refine⟨_,mr (v:=0) rfl rfl Î rfl H.f_loadU64 (x_loadU64_n L) (x_loadU64_b L) (x_loadU64_x L) .u64 (x_loadU64_f L) rfl d.cellSt,λw a=>⟨60, ?_⟩⟩;clear d;walk_nrm;u_op zr a;u_c aO zr a;u_c im zr a;u_leave1 H.f_uLoad zr a;iterate 22 (first|u_c aO zr a|u_c bX zr a|u_reg zr a|u_op zr a)
  u_cond aw zr a;u_c bX zr a;u_cond aw zr a;u_c bX zr a;u_reg zr a;refine fc λe b=>?_;clear b a;refine⟨rfl,_,stepG_mark0 mQ Ä rfl rfl Î rfl H.f_enable (x_enable_n L) (x_enable_b L) (x_enable_x L)<|x_enable_f L,λw a=>⟨12, ?_⟩⟩;walk_nrm;u_c aO zr a;u_reg zr a;u_op zr a;u_conv H.underlying_tWgP H.room_tWg (iL a).choose_spec zr a;refine fc λe b=>?_;clear b a;refine⟨rfl,_,stepG_markAt .acquire Ä rfl rfl Î rfl H.f_acquire (x_acquire_n L) (x_acquire_b L) (x_acquire_x L) (x_acquire_f L)<|by simp[iH,stA],λw a=>⟨40, ?_⟩⟩;walk_nrm;iterate 16 (first|u_c aO zr a|u_c bX zr a|u_reg zr a|u_skip zr a|u_op zr a)
  u_cond ao zr a;u_c nJ zr a;u_c im zr a;refine iM rfl λ_ b=>?_;rw[OH rfl rfl H.f_wait rfl];simp only[goes_go];exact⟨⟨rfl,rfl⟩,fc λ_ _=>⟨rfl,h⟩⟩
 refine⟨_,mr (v:=4294967296) rfl rfl Î rfl H.f_loadU64 (x_loadU64_n L) (x_loadU64_b L) (x_loadU64_x L) .u64 (x_loadU64_f L) rfl d.cellSt,λw a=>⟨80, ?_⟩⟩;clear d;walk_nrm;u_op zr a;u_c aO zr a;u_c im zr a;u_leave1 H.f_uLoad zr a;iterate 22 (first|u_c aO zr a|u_c bX zr a|u_reg zr a|u_op zr a)
 u_cond ao zr a;u_c nJ zr a;u_c bX zr a;u_reg zr a;iterate 6 (u_op zr a)
 u_call H.f_uCas (nm_uCas L) uCasFn zr a;iterate 11 (first|u_c bX zr a|u_reg zr a|u_c aO zr a|u_op zr a)
 refine fc λe b=>?_;clear b a;refine⟨rfl,λd=>?_,λd=>?_⟩;rotate_left;skip;refine⟨_,stepG_cas_miss (v:=0) (old:=4294967296) (n:=4294967297) rfl rfl Î rfl H.f_casU64 (x_casU64_n L) (x_casU64_b L) (x_casU64_x L) .u64 (x_casU64_f L) rfl rfl rfl d.cellSt (d.thaw 0) Ã,λw a=>⟨60, ?_⟩⟩;clear d;walk_nrm;u_op zr a;u_c aO zr a;u_c im zr a;u_leave1 H.f_uCas zr a;u_c aO zr a;u_cond ao zr a;u_c nJ zr a;u_c stepG_inBlock zr a;u_c stepG_inLoop zr a;exact(xus H h ⟨_,rfl,Ä,Ä⟩ _ a).up À;refine⟨_,(stepG_cas_hit (v:=4294967296) (n:=4294967297) rfl rfl Î rfl H.f_casU64 (x_casU64_n L) (x_casU64_b L) (x_casU64_x L) .u64 (x_casU64_f L) rfl rfl rfl d.cellSt<|d.thaw 0).trans à,λw a=>⟨60, ?_⟩⟩;clear d;walk_nrm;u_op zr a;u_c aO zr a;u_c im zr a;u_leave1 H.f_uCas zr a;u_c aO zr a;u_cond aw zr a;iterate 8 (first|u_c bX zr a|u_reg zr a|u_c aO zr a|u_op zr a)
 u_cond aw zr a;u_reg zr a;iterate 3 (u_op zr a)
 u_conv H.underlying_tPU32 H.room_tU32 (Go.ConcN.Gen.WgLive.cell1 a).choose_spec zr a;refine fc λe b=>?_;clear b a;refine⟨rfl,_,stepG_markAt .write Ä rfl rfl Î rfl H.f_raceWrite (x_raceWrite_n L) (x_raceWrite_b L) (x_raceWrite_x L) (x_raceWrite_f L) (ad:=smA Wg) ŕ,λw a=>⟨40, ?_⟩⟩;walk_nrm;iterate 15 (first|u_c aO zr a|u_c bX zr a|u_reg zr a|u_skip zr a|u_op zr a)
 u_cond ao zr a;u_c nJ zr a;u_c bX zr a;u_reg zr a;iterate 4 (u_op zr a)
 refine fc λe b=>?_;clear b a;refine⟨rfl,rfl,λ⟨st,d⟩=>stepG_semacquire_wait rfl rfl rfl H.f_semacquire (x_semacquire_n L) (x_semacquire_b L) (x_semacquire_x L) (x_semacquire_f L) ŕ d.cellSm,λi=>?_⟩;refine⟨_,(stepG_semacquire (n:=1) rfl rfl Î rfl H.f_semacquire (x_semacquire_n L) (x_semacquire_b L) (x_semacquire_x L) (x_semacquire_f L) ŕ i.cellSm Î<|i.thaw 1).trans à,λw a=>⟨30, ?_⟩⟩;clear i;walk_nrm;u_c aO zr a;u_c bX zr a;u_reg zr a;iterate 3 (u_op zr a)
 u_call H.f_uLoad (nm_uLoad L) uLoadFn zr a;iterate 9 (first|u_c bX zr a|u_reg zr a|u_c aO zr a|u_op zr a)
 refine fc λe b=>?_;clear b a;refine⟨rfl,λd=>?_⟩;refine⟨_,mr (v:=0) rfl rfl Î rfl H.f_loadU64 (x_loadU64_n L) (x_loadU64_b L) (x_loadU64_x L) .u64 (x_loadU64_f L) rfl d.cellSt,λw a=>⟨60, ?_⟩⟩;clear d;walk_nrm;u_op zr a;u_c aO zr a;u_c im zr a;u_leave1 H.f_uLoad zr a;iterate 2 (u_op zr a)
 u_c aO zr a;u_c bX zr a;u_cond aw zr a;u_c bX zr a;u_reg zr a;refine fc λe b=>?_;clear b a;refine⟨rfl,_,stepG_mark0 mQ Ä rfl rfl Î rfl H.f_enable (x_enable_n L) (x_enable_b L) (x_enable_x L)<|x_enable_f L,λw a=>⟨12, ?_⟩⟩;walk_nrm;u_c aO zr a;u_reg zr a;u_op zr a;u_conv H.underlying_tWgP H.room_tWg (iL a).choose_spec zr a;refine fc λe b=>?_;clear b a;refine⟨rfl,_,stepG_markAt .acquire Ä rfl rfl Î rfl H.f_acquire (x_acquire_n L) (x_acquire_b L) (x_acquire_x L) (x_acquire_f L)<|by simp[iH,stA],λw a=>⟨40, ?_⟩⟩;walk_nrm;iterate 6 (first|u_c aO zr a|u_c bX zr a|u_reg zr a|u_op zr a)
 u_cond ao zr a;u_c nJ zr a;u_c im zr a;refine iM rfl λ_ b=>?_;rw[OH rfl rfl H.f_wait rfl];simp only[goes_go];exact⟨⟨rfl,rfl⟩,fc λ_ _=>⟨rfl,h⟩⟩
def xk9(H:WgLib P L){c:Zf}(b:Out<|G {c with mode:=settle c.mode} cs)(w:Zy)(a:nI L.tWg Wg w):
  fm P aw (R0 L.tWg Wg) DC0 (WS P L.tWg Wg Out) 3
   (G ((baseD L.wait).at ⟨#[zo Wg]++bV 83 aC,[]⟩ [cD<|body_wait L]) (c::cs)) w:=by
 lib_facts
 simp only[body_wait,waitFn,qt,qu,qw,Xa,Zh,qj,qg];u_c bX zr a;u_cond aw zr a;u_reg zr a;refine fc λe d=>?_;clear d a;refine⟨rfl,_,stepG_mark0 mR Ä rfl rfl Î rfl H.f_disable (x_disable_n L) (x_disable_b L) (x_disable_x L)<|x_disable_f L,λw a=>⟨50, ?_⟩⟩;walk_nrm;u_c aO zr a;u_c oR zr a;u_c stepG_loop zr a;exact(xur H b ⟨_,rfl,Ä,Ä⟩ _ a).up À
end
end
end
section
open Go.Conc.Lib
variable [pn:Pn]
abbrev Dv:WgLink:={add:=168,done:=170,wait:=167,relMerge:=223,disable:=213,enable:=215,inBubble:=221,associate:=224,fatal:=225,uOr:=226,uAdd:=227,raceRead:=228,uLoad:=214,uStore:=229,disassociate:=219,semrelease:=230,acquire:=216,isAssociated:=217,uCas:=218,raceWrite:=220,semacquire:=222,orU64:=257,addU64:=258,loadU64:=255,storeU64:=259,casU64:=256,tWgP:=288,tUP:=283,tAssoc:=296,tWg:=245,tAU:=242,tU64:=240,tUint:=162,tU32:=243,tPU32:=294,tPAU:=327,tPU64:=329,tNoCopy:=237,tANoCopy:=238,tAlign64:=239}
open Tryz in
theorem I7:WgLib au Dv:=
 ⟨func168,func170,func167,func223,func213,func215,func221,func224,func225,func226,func227,func228,func214,func229,func219,func230,func216,func217,func218,func220,func222,func257,func258,func255,func259,func256,underlying288,runUnderlying288,sizeOf288,isAgg288,zeroValue288,underlying283,runUnderlying283,sizeOf283,isAgg283,zeroValue283,underlying296,runUnderlying296,sizeOf296,isAgg296,zeroValue296,underlying245,runUnderlying245,sizeOf245,isAgg245,zeroValue245,underlying242,runUnderlying242,sizeOf242,isAgg242,zeroValue242,underlying240,runUnderlying240,sizeOf240,isAgg240,zeroValue240,underlying162,runUnderlying162,sizeOf162,isAgg162,zeroValue162,underlying243,runUnderlying243,sizeOf243,isAgg243,zeroValue243,underlying294,runUnderlying294,sizeOf294,isAgg294,zeroValue294,underlying327,runUnderlying327,sizeOf327,isAgg327,zeroValue327,underlying329,runUnderlying329,sizeOf329,isAgg329,zeroValue329,underlying0,runUnderlying0,sizeOf0,isAgg0,zeroValue0,gI,runUnderlying3,sizeOf3,isAgg3,zeroValue3,underlying4,runUnderlying4,sizeOf4,isAgg4,zeroValue4,oN,runUnderlying9,sizeOf9,isAgg9,zeroValue9,underlying20,runUnderlying20,sizeOf20,isAgg20,zeroValue20,underlying21,runUnderlying21,sizeOf21,isAgg21,zeroValue21,Á,Á⟩
end
section
open Go.ConcR (Payload)
variable [pn:Pn] [py:cZ]
section
variable (P:bT) (S:Nat->Prop) (M:Nat) (o:Nat->Obj)
def Cg(Stop:Zg->Zy->Prop)(m:Nat)(g:Zg):Prop:=∀w,Kc S M o w->fm P ao (RS S M o) (DS S M) Stop m g w
variable {P S M o} {Stop:cA->cY->Prop} {m:Nat} {b:fk} {a:jG} {k:List Item} {cs:List fk}
def Cg.BQ{g}(f:g.status=aZ)(h:∀w,Kc S M o w->(bF P ao g w).goes λg' w' es=>(w'=w/\∀e∈es,Ac S M e)/\Cg P S M o Stop m g'):Cg P S M o Stop (m+1) g:=by
 intro w hk;refine iM f λb a=>?_;have:=h b<|a hk;revert this;cases bF P ao g b<;>simp only[GStep.goes]<;>(try exact id)
 rintro⟨⟨rfl,c⟩,d⟩;exact⟨⟨rfl,c⟩,d _<|a hk⟩
theorem Cg.eO{g g'}(a:g.status=aZ)(h:∀w,bF P ao g w=gj g' w)(b:Cg P S M o Stop m g'):Cg P S M o Stop (m+1) g:=
 Cg.BQ a λw hk=>Ë
def Cg.Ou{id k'}(h:exitTo id k=ac k')(c:Cg P S M o Stop m<|G (b.at a k') cs):Cg P S M o Stop (m+1)<|G (b.at a (cD (.exit id)::k)) cs:=Cg.eO rfl (λ_=>stepG_exit h) c
def Cg.stop{g}(h:∀w,Kc S M o w->Stop g w):Cg P S M o Stop m g:=λw hk=>fc λb a=>h b<|a hk
def Cg.ea{ops i rest op}(v)(ho:ops[i]?=ac op)(hw:bC op (eZ ops a.tmps)=aw)(hk:b.kind≠ dY)
  (g:∀w,Kc S M o w->(aL a.eval op).run P w=cT (fA v) w)(d:∀w,Kc S M o w->∀e∈(aL a.eval op).events P w #[],Ac S M e)
  (f:Cg P S M o Stop m<|G (b.at (a.put op.dst v) (aM ops rest::k)) cs):Cg P S M o Stop (m+1)<|G (b.at a (aM ops (i::rest)::k)) cs:=
 Cg.BQ rfl λw c=>by rw[stepG_value ho hw hk<|g w c];exact⟨⟨rfl,λe h=>d w c e<|mem_listed h⟩,f⟩
def Cg.lJ{ops i rest op}(v)(ho:ops[i]?=ac op)(hw:bC op (eZ ops a.tmps)=aw)(hk:b.kind≠ dY)
  (d:∀w,(aL a.eval op).run P w=cT (fA v) w)(f:∀w,(aL a.eval op).events P w #[]=#[])
  (c:Cg P S M o Stop m<|G (b.at (a.put op.dst v) (aM ops rest::k)) cs):Cg P S M o Stop (m+1)<|G (b.at a (aM ops (i::rest)::k)) cs:=
 Cg.ea v ho hw hk (λw _=>d w) (λw _ e h=>Â) c
def Cg.kN{ops:Array fj}{i:Nat}{rest:List Nat}{op:fj}{f:FuncId}{fn:jE}{c:nW}{args:Array Operand}{ats:Array Zt}
  (ho:ops[i]?=ac op)(hw:bC op (eZ ops a.tmps)=aw)(hk:b.kind≠ dY)(hop:op.op= .call {callee:= .value (.func f),args,argTypes:=ats})
  (g:P.funcs[f]?=ac fn)(d:(fn.name== "runtime.NumGoroutine")=ao)(e:fn.body=ac c)
  (j:Cg P S M o Stop m<|G ((is f).at {tmps:=args.map a.eval++bV (fn.ntmps-ak (args.map a.eval)) aC,defers:=[]} [cD c]) (b.at a (aM ops (i::rest)::k)::cs)):
  Cg P S M o Stop (m+1) (G (b.at a (aM ops (i::rest)::k)) cs):=
 Cg.BQ rfl λw h=>goes_call ho hw hk hop g d e ⟨⟨rfl,Ä⟩,j⟩
section
variable {fn:jE} {todo:List Item} {b₀:fk} {a₀:jG} {ops:Array fj} {i:Nat} {rest:List Nat}
def Cg.BU(e:b.kind=cJ)(hd:a.defers=[])(d:P.funcs[b.fn]?=ac fn)(c:fn.results=#[])
  (f:Cg P S M o Stop m (G (b₀.at (a₀.put ((ops[i]?).bind (·.dst))<|bU #[]) (aM ops rest::k)) cs)):
  Cg P S M o Stop (m+1) (G {b.at a todo with mode:=dN} (b₀.at a₀ (aM ops (i::rest)::k)::cs)):=
 .eO rfl (λw=>by rw[stepG_leave e hd d (results_none c _ P w)<|events_results_none c _ _,zcb]) f
def Cg.BX{t}(e:b.kind=cJ)(hd:a.defers=[])(d:P.funcs[b.fn]?=ac fn)(c:fn.results=#[.tmp t])
  (f:Cg P S M o Stop m (G (b₀.at (a₀.put ((ops[i]?).bind (·.dst))<|a.tmps.getD t aC) (aM ops rest::k)) cs)):
  Cg P S M o Stop (m+1) (G {b.at a todo with mode:=dN} (b₀.at a₀ (aM ops (i::rest)::k)::cs)):=
 .eO rfl (λw=>by rw[stepG_leave e hd d (results_tmp c _ P w)<|events_results_tmp c _ _,zcb]) f
end
def OL{x}(h:S x.block\/x.block=M):Ac S M ⟨kF x,ao,ao⟩:=by refine⟨λy a=>?_,Ä,Ä,Ä⟩;simp only[ofEvent_cell0,bY,xj]at a;subst a;exact⟨aF ⟨x,rfl,h⟩,rfl,rfl⟩
theorem xsu{x}(h:S x\/x=M):Ac S M ⟨nG x,ao,ao⟩:=by refine⟨λy a=>?_,Ä,Ä,Ä⟩;simp only[show bN ⟨nG x,ao,ao⟩= .access ⟨nG x,ao,ao⟩from rfl,bY,xj]at a;subst a;exact⟨aE ⟨x,rfl,h⟩,rfl,rfl⟩
end
def kr(e:dP):Prop:=∃(k f:Int) (s:ByteArray),e.key=zi k/\e.val=bM #[aj s,zi f]
def qO:Zv->ByteArray
 | bM cs=>match cs.getD 0 aC with| aj s=>s|_=> .empty
 |_=> .empty
def gQ(n:Int):List dP->Zv
 |[]=>bM #[aj ⟨#[]⟩,zi 0]
 |e::es=>match e.key with
  | aH _ k=>if n=k then e.val else gQ n es
  |_=>gQ n es
def fH(n:Int)(es:List dP):ByteArray:=qO<|gQ n es
def XJ{n}:∀{es:List dP},(∀e∈es,kr e)->∃f:Int,gQ n es=bM #[aj<|fH n es,zi f]
 |[],_=>⟨0,rfl⟩|e::es,h=>by obtain⟨k,f,s,hk,c⟩:=h e Ä;obtain⟨d,g⟩:=XJ (n:=n) (es:=es) λe a=>h e (by simp[a]);by_cases b:n=k;exact⟨f,by simp[fH,gQ,hk,b,c,qO]⟩;grind [fH,gQ]
def XK{n}:∀(es:List dP) (i:Nat),(∀e∈es,kr e)->∃r,eh (.int aU) (zi n) es i=ac r/\
  (match r with|some (_,v)=>v|none=>(bM #[aj ⟨#[]⟩,zi 0]:Zv))=gQ n es
 |[],i,_=>⟨ar,rfl,rfl⟩
 |e::es,i,h=>by
  obtain⟨k,f,s,hk,j⟩:=h e Ä;obtain⟨r,a,g⟩:=XK es (i+1) λe c=>h e (by simp[c]);by_cases d:n=k;grind [eh,iq,gQ];have b:(n==k)=ao:=by simpa using d
  exact⟨r,by simp only[eh,iq,hk,if_true,b];exact a,by grind [gQ]⟩
section
variable {P:bT} {w:cY} {t kt et:nt} {M clock:Nat} {es:Array dP} {n:Int}
def EK(hk:P.underlying kt=ac (.int aU))(m):∀w em,(gT em (m+1) kt<|zi n).run P w=cT () w:=λw em=>ĺ
def zv7(hk:P.underlying kt=ac (.int aU))(m):∀w em z,(gT em (m+1) kt<|zi n).events P w z=z:=λw em z=>by simp[gT,xo hk,Va]
def xaa(j:P.underlying t=ac (.map kt et))(hk:P.underlying kt=ac (.int aU))(m:∀w,(zeroValue et).run P w=cT (bM #[aj ⟨#[]⟩,zi 0]) w)
  (k:w.heap[M]?=ac (.map es clock))(b:∀e∈ej es,kr e):
  (fB t (eK<|some M) (zi n) ao).run P w=cT (gQ n (ej es)) w/\(fB t (eK<|some M) (zi n) ao).events P w #[]=#[⟨nG M,ao,ao⟩]:=by
 obtain⟨r,f,l⟩:=XK (n:=n) (ej es) 0 b;have i:(lS M).run P w=cT (.map es clock) w:=by simp[lS,fp,k]
 have d:∀z,(lS M).events P w z=z.push ⟨nG M,ao,ao⟩:=λz=>by grind [lS,Sem.events,eE,oP]
 have g:=EK (n:=n) hk 9999;have a:=zv7 (n:=n) hk 9999;have h:(bW kt (zi n) (ej es)).run P w=cT r w:=by simp[bW,xo hk,bG,f]
 have c:∀z,(bW kt (zi n) (ej es)).events P w z=z:=λz=>by simp[bW,xo hk,Va,f]
 constructor;simp only[fB,zc9,xo j,bG,i,g,h,zda];grind [zc9,bG,zda];simp only[fB,Va,zc9,xo j,bG,i,d,g,a,h,c,zda,Result.evThen_ok,events_underlying];cases r with|none=>simp|some x=>simp
end
end
section
open Go.RowKit Go.Conc.Lib Go.ConcR.Gen Go.ConcN.Gen
open Go.ConcR (Payload)
variable [pn:Pn] [py:cZ]
structure Kn(D M Bd Bs C:Nat)(es:Array dP)(S:ZP)(o:Nat->Obj):Prop where
 sd:S D
 sb:S Bd
 ss:S Bs
 fh:∃rm nx,o D=aq #[rm,eK<|some M,nx] py.ety
 box:o Bd=aq #[zo D] 76
 od:o Bs=aq #[eL<|some C] 235
 gY:∃clock,o M= .map es clock
 WQ:∀e∈ej es,kr e
section
variable {D M Bd Bs C Wg:Nat} {es:Array dP} {S:Nat->Prop} {o:Nat->Obj} {Stop:cA->cY->Prop} {m:Nat}
def Kn.Ak(K:Kn D M Bd Bs C es S o){w}(hk:Kc S M o w):ae w (zq D 1)=ac (eK<|some M):=by obtain⟨b,a,h⟩:=K.fh;have:=hk D<|aF K.sd;grind [ae]
def Kn.vG(K:Kn D M Bd Bs C es S o){w}(hk:Kc S M o w):ae w (zq Bd 0)=ac (zo D):=by have:=hk Bd<|aF K.sb;simp[ae,this,K.box]
def Kn.sJ(K:Kn D M Bd Bs C es S o){w}(hk:Kc S M o w):ae w (zq Bs 0)=ac (eL<|some C):=by have:=hk Bs<|aF K.ss;simp[ae,this,K.od]
def Kn.Fz(K:Kn D M Bd Bs C es S o){w}(hk:Kc S M o w)(n):
  (fB 130 (eK<|some M) (zi n) ao).run au w=cT (gQ n (ej es)) w/\(fB 130 (eK<|some M) (zi n) ao).events au w #[]=#[⟨nG M,ao,ao⟩]:=by
 obtain⟨a,h⟩:=K.gY;exact xaa Tryz.underlying130 gI Tryz.zeroValue138 ((hk M<|aE rfl).trans<|by rw[h]) K.WQ
noncomputable def OD:nW:=Tryz.f76.body.getD .skip
noncomputable def Du:nW:=Tryz.f171.body.getD .skip
noncomputable def Dt:nW:=Tryz.f169.body.getD .skip
def xcp(K:Kn D M Bd Bs C es S o)(n){d:Zf}{c ops i rest k cs}
  (j:Cg au S M o Stop m (G (d.at (c.put ((ops[i]?).bind (·.dst))<|aj<|fH n (ej es)) (aM ops rest::k)) cs)):
  Cg au S M o Stop (m+17) (G ((is 76).at ⟨#[zo D,zi n,aC,aC,aC,aC,aC,aC,aC,aC,aC,aC],[]⟩ [cD OD]) (d.at c (aM ops (i::rest)::k)::cs)):=by
 obtain⟨f,h⟩:=XJ (n:=n) K.WQ;simp only[OD,Tryz.f76,qt];refine Cg.eO rfl (λ_=>bX) ?_;refine Cg.eO rfl (λ_=>ec) ?_;(refine Cg.lJ _ rfl rfl Î (λ_=>Ó) (λ_=>Ñ) ?_;walk_nrm);refine Cg.eO rfl (λ_=>aO) ?_;refine Cg.eO rfl (λ_=>bX) ?_;refine Cg.eO rfl (λ_=>ec) ?_;iterate 3 (refine Cg.lJ _ rfl rfl Î (λ_=>Ó) (λ_=>Ñ) ?_;walk_nrm)
 refine Cg.ea (eK<|some M) rfl rfl Î (λw hk=>by have g:=K.Ak hk;go_simp) (λw hk e a=>by have g:=K.Ak hk;simp[go_sem, *]at a;subst a;exact OL<|aF K.sd) ?_;walk_nrm;(refine Cg.lJ _ rfl rfl Î (λ_=>Ó) (λ_=>Ñ) ?_;walk_nrm);refine Cg.ea (gQ n (ej es)) rfl rfl Î (λw hk=>by have b:=(K.Fz hk n).1;simp[aL,iH,b]) (λw hk e a=>by have b:=(K.Fz hk n).2;simp[aL,iH,b,Va]at a;grind [xsu]) ?_;walk_nrm;rw[h];(refine Cg.lJ _ rfl rfl Î (λ_=>Ó) (λ_=>by simp[go_sem,Instr.field,part,asAgg,Va, *]) ?_;walk_nrm);(refine Cg.lJ _ rfl rfl Î (λ_=>Ó) (λ_=>Ñ) ?_;walk_nrm);refine Cg.eO rfl (λ_=>aO) ?_;refine Cg.eO rfl (λ_=>im) ?_;refine Cg.BX rfl rfl Tryz.func76 rfl ?_;exact j
def JA(ty:Zt)(Wg C:Nat)(S:ZP)(D M:Nat)(o:Nat->Obj):Ze->Zg->Zy->Prop
 |[]=>Fy au ty Wg C S D M o|v::vs=>BP au C S M o v<|yx au ty Wg C S D M o vs
def WZ{ty:Zt}{a g w}(h:Cg au S M o (JA ty Wg C S D M o a) m g)(hk:Kc S M o w):yx au ty Wg C S D M o a g w:=by cases a<;>exact⟨m,h w hk⟩
noncomputable def BZ:=Ql<|Qk<|Qb<|Qa Du
noncomputable def FD:=Qb Du
noncomputable def OE:Array fj:=match Dt with| fO _ (eU _ ops _)=>ops|_=>#[]
noncomputable def wU:Zf:={(default:Zf)with fn:=ak Tryz.prog.funcs,defers:=[],mode:=eW [goexitEntry]}
noncomputable def FG(D Bd Bs C Wg:Nat)(fr tt:Int):Zf:=(baseD 169).at ⟨#[zi fr,zi tt,zo Wg,zo Bs,zo Bd,aC,aC,eL<|some C,zo D,zi fr,zi tt,aC],[dcall 170 #[zo Wg]]⟩ [aM OE [4]]
def lc(es:Array dP):Int->Nat->Ze
 |_,0=>[]|n,k+1=>bM #[zi n,aj<|fH n (ej es)]::lc es (n+1) k
def XD(D Bd Bs C Wg:Nat)(fr tt n:Int)(g:Zg):Prop:=
 ∃v2 v4 v5 v6 v7 v9 v10 v11 v12 v13 v14 v15 v16 v17 v18 v19 v20 v21:Zv,g=G ((is 171).at ⟨#[eL<|some C,zo D,v2,zi tt,v4,v5,v6,v7,zi n,v9,v10,v11,v12,v13,v14,v15,v16,v17,v18,v19,v20,v21],[]⟩ [cD BZ,mS BZ,.inBlock 0,cD FD]) [FG D Bd Bs C Wg fr tt,wU]
def XN(T):QuitsD au 2 0<|G {(baseD 169).at ⟨T,[]⟩ []with mode:=dN} [wU]:=by refine QuitsD.ctl (g':=G wU []) rfl (λw=>?_) ?_;simp[G,bF,cW,ft,dX,Frame.at,baseD,wU,Tryz.func169,Tryz.f169,seen,aY,goexitEntry];refine QuitsD.ctl (g':={G wU []with status:= .finished}) rfl (λw=>?_) ⟨rfl,rfl⟩;simp[G,bF,cW,wU,goexitEntry,Frame.catches];rfl
def xnv(K:Kn D M Bd Bs C es S o){fr tt T ops}:Cg au S M o (Oh au 245 Wg D) 6<|G ((is 171).at ⟨T,[]⟩ [aM ops []]) [FG D Bd Bs C Wg fr tt,wU]:=by simp only[FG,OE,Dt,Tryz.f169,qt];refine Cg.eO rfl (λ_=>aO) ?_;refine Cg.eO rfl (λ_=>stepG_end) ?_;refine Cg.BU rfl rfl Tryz.func171 rfl ?_;walk_nrm;refine Cg.eO rfl (λ_=>aO) ?_;refine Cg.eO rfl (λ_=>stepG_end) ?_;refine Cg.eO rfl (λ_=>stepG_unwind_enter rfl Tryz.func170 (nm_done Dv) rfl) ?_;refine Cg.stop λw hk=>⟨rfl,λa=>?_⟩;obtain⟨c,d,b⟩:=K.fh;have hd:=hk D<|aF K.sd;rw[b]at hd;refine⟨c,eK<|some M,23,23, ?_, ?_⟩;exact Go.ConcN.Gen.doneN I7 (k:=1) rfl (XN _) w ⟨a,by grind [Go.ConcN.Has,ae]⟩;exact Go.ConcN.Gen.doneN I7 (k:=2) rfl (XN _) w ⟨a,by grind [Go.ConcN.Has,ae]⟩
def xtq:(Tryz.prog.funcs[(is 171).fn]?).any (·.norace)=ao:=Á
def xcx(K:Kn D M Bd Bs C es S o){fr tt n}(B:tt<n){g}(e:XD D Bd Bs C Wg fr tt n g):Cg au S M o (JA 245 Wg C S D M o []) 14 g:=by
 obtain⟨E,F,G,H,I,J,h,i,j,k,l,m,p,q,t,v,x,y,rfl⟩:=e;simp only[BZ,FD,Du,Tryz.f171,qt];have f:¬(n<=tt):=À
 refine Cg.eO rfl (λ_=>bX) ?_;refine Cg.eO rfl (λ_=>bX) ?_;refine Cg.eO rfl (λ_=>ec) ?_;iterate 3 (refine Cg.lJ _ rfl rfl Î (λ_=>Ó) (λ_=>Ñ) ?_;walk_nrm)
 refine Cg.eO rfl (λ_=>aO) ?_;(refine Cg.eO rfl (λ_=>stepG_cond rfl) ?_;simp only[ja,if_false,↓reduceIte]);refine Cg.Ou rfl ?_;refine Cg.eO rfl (λ_=>ec) ?_;(refine Cg.lJ _ rfl rfl Î (λ_=>Ó) (λ_=>Ñ) ?_;walk_nrm);refine Cg.stop λw hk=>?_;refine⟨rfl,rfl,λc b s r d=>⟨_,stepG_close rfl rfl Î rfl rfl d xtq,rfl,λz a=>⟨6, ?_⟩⟩⟩;exact xnv K z a
def XM(n s w):(Instr.build 248 #[(0,zi n),(1,aj s)]).run au w=cT (bM #[zi n,aj s]) w:=run_build w 248 _ _ Á
def zv5(n s w):(Instr.build 248 #[(0,zi n),(1,aj s)]).events au w #[]=#[]:=Á
def xmj{b:Zf}{a k cs ops i rest op x y v c}(ho:ops[i]?=ac op)(hw:bC op (eZ ops a.tmps)=aw)(hk:b.kind≠ dY)(hop:op.op= .send x y)
  (hx:a.eval x=eL (ac C))(hy:a.eval y=v)(next:∀w',Kc S M o w'->c (G (b.at (a.put op.dst aC) (aM ops rest::k)) cs) w')(w):
  BP au C S M o v c (G (b.at a (aM ops (i::rest)::k)) cs) w:=by
 refine⟨rfl,G (b.at a (aM ops (i::rest)::k)) cs,bU #[],#[], ?_,Ä, ?_⟩;rw[stepG_comm (cases:=#[scase C v<|bU #[]]) (blocking:=aw) (shape:= .send) (w':=w) ho hw hk<|by simp[aL,hop,hx,hy,scase]];have d:(aL a.eval op).events au w #[]=#[]:=by unfold aL;simp only[hop];rfl
 grind [jX,seen];grind [served_G]
def xel(K:Kn D M Bd Bs C es S o){fr tt}(T:tt<9223372036854775807)(Q:-9223372036854775808<=fr):∀(k:Nat) (n:Int),n+k=tt+1->fr<=n->∃m,∀g,XD D Bd Bs C Wg fr tt n g->Cg au S M o (JA 245 Wg C S D M o<|lc es n k) m g:=by
 intro k;induction k with
 |zero=>exact λn R _=>⟨14,λg N=>xcx K À N⟩
 |succ k ih=>
  intro n R L;obtain⟨m,I⟩:=ih (n+1) À À;refine⟨40, ?_⟩;rintro g⟨s,t,v,x,y,z,a,b,d,e,f,h,i,j,l,p,q,r,rfl⟩;have O:n<=tt:=À
  have H:IntKind.i64.wrap (n+1)=n+1:=Ì
  have J:∀s t v x y z a b d e f h i j l p q r:Zv,Cg au S M o (JA 245 Wg C S D M o<|lc es (n+1) k) m<|G ((is 171).at ⟨#[eL<|some C,zo D,s,zi tt,t,v,x,y,zi<|n+1,z,a,b,d,e,f,h,i,j,l,p,q,r],[]⟩ [cD BZ,mS BZ,.inBlock 0,cD FD]) [FG D Bd Bs C Wg fr tt,wU]:=
   λs t v x y z a b d e f h i j l p q r=>I _ ⟨s,t,v,x,y,z,a,b,d,e,f,h,i,j,l,p,q,r,rfl⟩
  clear I ih;simp only[BZ,FD,Du,Tryz.f171,qt]at J⊢;refine Cg.eO rfl (λ_=>bX) ?_;refine Cg.eO rfl (λ_=>bX) ?_;refine Cg.eO rfl (λ_=>ec) ?_;iterate 3 (refine Cg.lJ _ rfl rfl Î (λ_=>Ó) (λ_=>Ñ) ?_;walk_nrm)
  refine Cg.eO rfl (λ_=>aO) ?_;(refine Cg.eO rfl (λ_=>stepG_cond rfl) ?_;simp only[if_true]);refine Cg.eO rfl (λ_=>nJ) ?_;refine Cg.eO rfl (λ_=>bX) ?_;refine Cg.eO rfl (λ_=>oR) ?_;refine Cg.eO rfl (λ_=>ec) ?_;iterate 4 (refine Cg.lJ _ rfl rfl Î (λ_=>Ó) (λ_=>Ñ) ?_;walk_nrm)
  refine Cg.kN (c:=OD) rfl rfl Î rfl Tryz.func76 Á rfl ?_;walk_nrmf Tryz.f76;refine xcp K n ?_;walk_nrm;refine Cg.lJ (bM #[zi n,aj<|fH n (ej es)]) rfl rfl Î (λw=>by have E:=XM n (fH n (ej es)) w;simp[aL,iH,E]) (λw=>by have E:=XM n (fH n (ej es)) w;have F:=zv5 n (fH n (ej es)) w;simp[aL,iH,E,F,Va]) ?_;walk_nrm;refine Cg.stop λw hk=>?_;change BP au C S M o (bM #[zi n,aj<|fH n (ej es)]) (yx au 245 Wg C S D M o<|lc es (n+1) k) _ w;apply xmj
  case ho=>exact rfl
  case hw=>exact rfl
  case hk=>k_ne
  case hop=>exact rfl
  case hx=>exact rfl
  case hy=>exact rfl
  intro U B;refine WZ (m:=m+8) ?_ B;walk_nrm;refine Cg.eO rfl (λ_=>aO) ?_;refine Cg.eO rfl (λ_=>stepG_inBlock) ?_;refine Cg.eO rfl (λ_=>ec) ?_;iterate 3 (refine Cg.lJ _ rfl rfl Î (λ_=>Ó) (λ_=>Ñ) ?_;walk_nrm)
  refine Cg.eO rfl (λ_=>aO) ?_;refine Cg.eO rfl (λ_=>stepG_inLoop) ?_;grind
def uM(Bd Bs Wg:Nat)(fr tt:Int):lY:={target:= .fn (.func 169) #[zo Wg,zo Bs,zo Bd],args:=#[zi fr,zi tt]}
def xi7(Bd Bs Wg fr tt w):bF au ao (born au<|uM Bd Bs Wg fr tt) w=
  gj (G ((baseD 169).at ⟨#[zi fr,zi tt,zo Wg,zo Bs,zo Bd,aC,aC,aC,aC,aC,aC,aC],[]⟩ [cD Dt]) [wU]) w #[]:=by
 simp[born,uM,bF,cW,dV,ol,nE,Tryz.func169,Tryz.f169,seen,aY,G,aT,Frame.at,baseD,wU,Dt]
def zy5(K:Kn D M Bd Bs C es S o){fr tt:Int}(g:tt<9223372036854775807)(f:-9223372036854775808<=fr)(k:Nat)(i:fr+k=tt+1){w}(hk:Kc S M o w):
  yx au 245 Wg C S D M o (lc es fr k) (born au<|uM Bd Bs Wg fr tt) w:=by
 obtain⟨m,h⟩:=xel (Wg:=Wg) K g f k fr i<|Int.le_refl _;refine WZ (m:=m+19) ?_ hk;refine Cg.eO rfl (λw=>xi7 Bd Bs Wg fr tt w) ?_;simp only[Dt,Tryz.f169,qt];refine Cg.eO rfl (λ_=>bX) ?_;refine Cg.eO rfl (λ_=>ec) ?_;refine Cg.eO rfl (λ_=>stepG_defer rfl rfl Î rfl) ?_;walk_nrm;refine Cg.eO rfl (λ_=>aO) ?_;refine Cg.eO rfl (λ_=>ec) ?_;refine Cg.ea (eL<|some C) rfl rfl Î (λw hk=>by have d:=K.sJ hk;go_simp) (λw hk e a=>by have d:=K.sJ hk;simp[go_sem, *]at a;subst a;exact OL<|aF K.ss) ?_;walk_nrm;refine Cg.ea (zo D) rfl rfl Î (λw hk=>by have d:=K.vG hk;go_simp) (λw hk e a=>by have d:=K.vG hk;simp[go_sem, *]at a;subst a;exact OL<|aF K.sb) ?_;walk_nrm;iterate 2 (refine Cg.lJ _ rfl rfl Î (λ_=>Ó) (λ_=>Ñ) ?_;walk_nrm)
 refine Cg.kN (c:=Du) rfl rfl Î rfl Tryz.func171 Á rfl ?_;walk_nrmf Tryz.f171;have b:=h _ ⟨zi fr,aC,aC,aC,aC,zi fr,aC,aC,aC,aC,aC,aC,aC,aC,aC,aC,aC,aC,rfl⟩;clear h;simp only[BZ,FD,Du,Tryz.f171,FG,OE,Dt,Tryz.f169,qt]at b⊢;refine Cg.eO rfl (λ_=>bX) ?_;refine Cg.eO rfl (λ_=>bX) ?_;refine Cg.eO rfl (λ_=>ec) ?_;iterate 2 (refine Cg.lJ _ rfl rfl Î (λ_=>Ó) (λ_=>Ñ) ?_;walk_nrm)
 refine Cg.eO rfl (λ_=>aO) ?_;refine Cg.eO rfl (λ_=>oR) ?_;refine Cg.eO rfl (λ_=>stepG_loop) ?_;exact b
end
end
section
open Go.ConcN (sumTo upd sumTo_upd upd_ne upd_same)
variable [pn:Pn]
section
variable {P:bT} {X:Nat->Prop} {B B':Nat} {Z:Touch->Prop} {t u:fG} {e:Nat}
structure oJ(X:ZP)(B:Nat)(Z:Touch->Prop)(e:Nat)(t:fG):Prop where
 fM:∀said,¬Race said t
 jZ:∀i a,li t i=ac a->a.loc.isMemory=aw->Knows t 0 i\/(sy X a.loc/\a.kind= .atomic)\/(uw X a.loc/\a.write=ao)
 lC:t.HandedOver
 deaf:Deaf t 0=e
 gc:∀i a,li t i=ac a->a.loc.low B
 Dr:∀i a,li t i=ac a->Z a
def sZ.toE(h:sZ X B t)(b:∀a:Touch,a.loc.low B->Z a):oJ X B Z 0 t:=⟨h.fM,h.jZ,h.lC,h.td,h.gc,λi a c=>b a<|h.gc i a c⟩
def oJ.W(h:oJ X B Z e t)(b:B<=B'):oJ X B' Z e t:=⟨h.fM,h.jZ,h.lC,h.deaf,λi a c=>Loc.low_mono b<|h.gc i a c,h.Dr⟩
def Ow(X:ZP)(B:Nat)(Z:Touch->Prop)(e:lh):Prop:=∀x,(bN e).touch?=ac x->(sy X x.loc->x.kind≠ .plain)/\(uw X x.loc->x.write=ao)/\x.loc.low B/\Z x
theorem oJ.cO(h:oJ X B Z e t){fn pos es}(n:∀e∈es,Ow X B Z e):oJ X B Z (cS e es)<|t++aS 0 fn pos es:=by
 have v:∀d∈aS 0 fn pos es,d.g=0:=λd c=>Ö
 have s:∀d∈aS 0 fn pos es,∀x,d.act.touch?=ac x->(sy X x.loc->x.kind≠ .plain)/\(uw X x.loc->x.write=ao)/\x.loc.low B/\Z x:=λd c x m=>by obtain⟨e,w,rfl⟩:=zy c;exact n e w x m
 refine⟨λsaid=>nM (h.fM said) v λi a j d c b r l=>?_,λi a j y=>?_,handedOver_app h.lC λd c=>aF (v d c), ?_,λi a j=>?_,λi a j=>?_⟩;obtain hk|⟨k,o⟩|⟨k,o⟩:=h.jZ i a j l.2.1;exact hk;have p:=(s d c b r).1<|l.1▸k;obtain x|x|⟨_,x,_⟩:=l.c;grind;grind;grind;have p:=(s d c b r).2.1<|l.1▸k;obtain x|x:=l.2.2.1;grind;grind;obtain⟨_,f⟩|⟨_,d,c,m,_⟩:=Z9 j;exact(h.jZ i a f y).imp (·.app _) id;grind [knows_own];rw[lm,h.deaf];obtain⟨_,f⟩|⟨_,d,c,m,q⟩:=Z9 j;exact h.gc i a f;grind;obtain⟨_,f⟩|⟨_,d,c,m,q⟩:=Z9 j;exact h.Dr i a f;grind
theorem oJ.xQ(h:oJ X B Z e t){g}(o:g≠0){fn pos es}(l:∀e∈es,e.mute=aw):oJ X B Z e<|t++aS g fn pos es:=by
 have m:∀f∈aS g fn pos es,f.g=g:=λf c=>Ö
 have p:∀f∈aS g fn pos es,f.act.touch?=ar:=λf c=>ă
 refine⟨λsaid=>nM (h.fM said) m λi a _ f c b q _=>Â,λi a j l=>?_,handedOver_app h.lC λf c=>aE (p f c),(cU t o _ m).trans h.deaf,λi a j=>?_,λi a j=>?_⟩;obtain⟨_,d⟩|⟨_,f,c,n,k⟩:=Z9 j;exact(h.jZ i a d l).imp (·.app _) id;grind;obtain⟨_,d⟩|⟨_,f,c,n,k⟩:=Z9 j;exact h.gc i a d;grind;obtain⟨_,d⟩|⟨_,f,c,n,k⟩:=Z9 j;exact h.Dr i a d;grind
def XB{g}{Nx:Zg->Zy->Prop}{e'}(n:g.status=aZ){q gs v sl}(J:gs[0]?=ac g)(C:Leavers P t gs q)(U:oJ X B Z e t)
  (h:∀d,∃g' v' es,bF P aw g (v.at d)=gj g' v' es/\(∀e∈es,Ow X B Z e)/\cS e es=e'/\Nx g' v'):
  ∃N gs' v' sl' t' q' g',eT P N (fL gs v sl) t=(fS<|crowd gs' v' sl',t')/\gs'[0]?=ac g'/\Nx g' v'/\Leavers P t' gs' q'/\oJ X B Z e' t'/\ak gs'=ak gs:=by
 induction hk:iX (ak gs) q using Nat.strongRecOn generalizing gs q v sl t with
 |_ k ih=>
  have K:∀g∈gs,awake g:=by
   intro c l;obtain⟨i,o,rfl⟩:=Xd.1 l;obtain rfl|f:=jh i;have:gs[0]=g:=by simpa[xy o]using J
   grind [mW];exact mW<|(C.old i _ f<|xy o).status.elim aF λx=>aE (aE x)
  obtain⟨i,c,d,sl',o,l,F⟩:=crowd_pick (P:=P) (w:=v) (sl:=sl) K ⟨0,g,J,n⟩;have p:i<ak gs:=(za.1 o).1;obtain rfl|f:=jh i;obtain rfl:c=g:=Â
  obtain⟨g',v',es,hs,M,L,hn⟩:=h d;have b:=oS (sl:=sl') o (show bF P _ c _=_ from hs);refine⟨1,ay (gs.map<|woken P c g' v') 0 g',v',sl',t++aS 0 c.frame.fn c.frame.place es,q,g',by simp only[eT,F,b],by simp[p],hn,⟨λj x D z=>?_,λj D=>?_⟩, ?_,Ä⟩;have r:0≠j:=À
  rw[zl r,jt]at z;obtain⟨y,R,rfl⟩:=zv.1 z;have s:=C.old j y D R;rw[iA s,cU t À _ λS a=>ë];exact s;rw[cU t (g':=0) Â _ λS a=>ë];exact C.above j Â;rw[<-L];exact U.cO M;have s:=C.old i c f o;have O:(i==0)=ao:=Æ
  cases hqi:q i with
  |zero=>rw[hqi]at s;rw[s.1]at l;cases l
  |succ k'=>
   rw[hqi]at s;obtain⟨hf,_⟩|⟨_,g',es,hm,G,Q⟩:=s;grind;have b:=oS (sl:=sl') o (by rw[O];exact G<|v.at d);have H:ak (ay (gs.map<|woken P c g'<|v.at d) i g')=ak gs:=Ä
   have V:iX (ak gs) (upd q i k')+(k'+1)=iX (ak gs) q+k':=by have:=sumTo_upd q k' id p;simpa[hqi]using this
   obtain⟨N,I,v2,T,t2,q2,g2,W,Y,b3,b4,b5,b6⟩:=ih (iX (ak gs)<|upd q i k') À (q:=upd q i k') (t:=t++aS i c.frame.fn c.frame.place es) (gs:=ay (gs.map<|woken P c g'<|v.at d) i g') (v:=v.at d) (sl:=sl')
    (by
     have r:i≠0:=À
     rw[zl r,jt,J];simp[woken_run n])
    ⟨λj x D z=>by
     by_cases m:i=j;subst m;rw[Yv<|by simpa using p]at z;obtain rfl:=ql z;rw[upd_same,lm];exact Q;rw[zl m,jt]at z;obtain⟨y,R,rfl⟩:=zv.1 z;have E:=C.old j y D R;rw[iA E,upd_ne q k'<|Ne.symm m,cU t m _ λS a=>ë];exact E,λj D=>by
     rw[cU t (g':=i) À _ λS a=>ë];exact C.above j À⟩
    (U.xQ À hm) (λd'=>h d') (by rw[H])
   exact⟨1+N,I,v2,T,t2,q2,g2,qr (by simp only[eT,F,b]) W,Y,b3,b4,b5,b6.trans H⟩
def Jx{E}(b:∀e,E e->yZ X B e/\∀x,(bN e).touch?=ac x->Z x){Stop}:∀(n:Nat) {a:Zg} {v:Zy} {t:fG} {q:Nat->Nat} {gs:Array Zg} {sl:Option<|Nat×Nat},fm P aw nN (DE E) Stop n a v->gs[0]?=ac a->Leavers P t gs q->oJ X B Z e t->
  ∃N gs' v' sl' t' q' a',eT P N (fL gs v sl) t=(fS<|crowd gs' v' sl',t')/\gs'[0]?=ac a'/\(∀d,Stop a'<|v'.at d)/\Leavers P t' gs' q'/\oJ X B Z e t'/\ak gs'=ak gs
 |0,a,v,t,q,gs,sl,h,h0,hL,hP=>⟨0,gs,v,sl,t,q,a,rfl,h0,λd=>h _ ⟨d,rfl⟩,hL,hP,rfl⟩
 |n+1,a,v,t,q,gs,sl,h,h0,hL,hP=>by
  obtain h|⟨J,h⟩:=h;exact⟨0,gs,v,sl,t,q,a,rfl,h0,λd=>h _ ⟨d,rfl⟩,hL,hP,rfl⟩;obtain⟨N,H,S,i,R,Q,O,m,o,p,r,s,w⟩:=XB (Nx:=λG v'=>fm P aw nN (DE E) Stop n G v') (e':=e) (sl:=sl) J h0 hL hP (λd=>by
   have:=h _ ⟨d,rfl⟩;revert this;cases hst:bF P aw a (v.at d)<;>simp only[GStep.goes]<;>(try exact dI)
   rintro⟨hd,I⟩;exact⟨_,_,_,rfl,λe c x f=>⟨((b e<|hd e c).1.1 x f).1,((b e<|hd e c).1.1 x f).2.1,((b e<|hd e c).1.1 x f).2.2,(b e<|hd e c).2 x f⟩,deafBehind_still (λe c=>(b e<|hd e c).1.2) _,I⟩)
  obtain⟨k,g,M,j,L,K,l,y,z,c3,C,D,F⟩:=Jx b n (sl:=i) p o r s;exact⟨N+k,g,M,j,L,K,l,qr m y,z,c3,C,D,F.trans w⟩
end
end
section
open Go.ConcN (sumTo)
variable [pn:Pn]
section
variable {P:bT} {X:Nat->Prop} {B:Nat} {Z:Touch->Prop} {t:fG} {e:Nat}
theorem xnq{a}(h:(bN a).touch?=ar):Ow X B Z a:=λx b=>Â
def XC{m}(i:(bN<|Go.ConcX.mk m).touch?=ar){b a v q gs sl}(h:∀d,ir P m b a<|v.at d)(c:gs[0]?=ac a)(f:Leavers P t gs q)(g:oJ X B Z e t):
  ∃N gs' v' sl' t' q' a',eT P N (fL gs v sl) t=(fS<|crowd gs' v' sl',t')/\gs'[0]?=ac a'/\b a' v'/\Leavers P t' gs' q'/\oJ X B Z (cS e #[Go.ConcX.mk m]) t'/\ak gs'=ak gs:=
 XB (h 0).1 c f g λd=>by obtain⟨_,a',k,j⟩:=h d;grind [xnq]
def xw4{E}(c:∀e,E e->yZ X B e/\∀x,(bN e).touch?=ac x->Z x){Stop n a v q gs sl}
  (h:fm P aw nN (DE E) (ir P mR λa w=>∃n,fm P aw nN (DE E) (ir P mQ λa w=>∃n,fm P aw nN (DE E) Stop n a w) n a w) n a v)
  (h0:gs[0]?=ac a)(hL:Leavers P t gs q)(hP:oJ X B Z 0 t):
  ∃N gs' v' sl' t' q' a',eT P N (fL gs v sl) t=(fS<|crowd gs' v' sl',t')/\gs'[0]?=ac a'/\(∀d,Stop a'<|v'.at d)/\Leavers P t' gs' q'/\oJ X B Z 0 t'/\ak gs'=ak gs:=by
 obtain⟨r,V,v1,f,t1,q1,a1,r1,K,R,L1,D,z1⟩:=Jx (sl:=sl) c n h h0 hL hP;obtain⟨s,W,v2,g,t2,q2,a2,r2,L,⟨n2,S⟩,l,F,z2⟩:=XC (sl:=f) rfl R K L1 D;obtain⟨y,Y,v3,i,t3,q3,a3,r3,M,c3,m,G,z3⟩:=Jx (sl:=g) c n2 S L l F;obtain⟨z,ba,v4,j,t4,q4,a4,r4,O,⟨n4,T⟩,o,H,z4⟩:=XC (sl:=i) rfl c3 M m G;obtain⟨C,b,v5,k,t5,q5,J,r5,Q,U,p,I,z5⟩:=Jx (sl:=j) c n4 T O o H;refine⟨r+(s+(y+(z+C))),b,v5,k,t5,q5,J,qr r1<|qr r2<|qr r3<|qr r4 r5,Q,U,p, ?_,À⟩;exact I
@[reducible] def WX(X:ZP)(B Wg C:Nat)(hW:Wg<B)(hC:C<B)(hX:¬X C):Go.ConcX.Shy Wg C where
 ok a:=∀x,a.touch?=ac x->(sy X x.loc->x.kind≠ .plain)/\(uw X x.loc->x.write=ao)/\x.loc.low B/\∀r,x.loc≠ nG r
 atomicWg a wr h x hx:=by simp only[bY,xj]at hx;subst hx;exact⟨λ_=>Ä,λ⟨r,e,_⟩=>Ç,ð,λr e=>Ç⟩
 readWg a h x hx:=by simp only[bY,xj]at hx;subst hx;exact⟨λ_=>Ä,λ⟨r,e,_⟩=>Ç,ð,λr e=>Ç⟩
 writeWg a h x hx:=by simp only[bY,xj]at hx;subst hx;exact⟨λ_=>Ä,λ⟨r,e,_⟩=>Ç,ð,λr e=>Ç⟩
 theirs a wr h x hx:=by simp only[bY,xj]at hx;subst hx;refine⟨λ⟨r,e,hr⟩=>?_,λ⟨r,e,_⟩=>Ç,ð,λr e=>Ç⟩;cases e;rw[h]at hr;exact absurd hr hX
 disable x hx:=Ĉ
 enable x hx:=Ĉ
 relMerge x hx:=Ĉ
 acquire x hx:=Ĉ
 go1 x hx:=Ĉ
 start x hx:=Ĉ
 stop _ _:=True
end
section
variable {P:bT} {X:Nat->Prop}
theorem Sm.FB{w v}(h:Sm P X w v){r a}(i:v.heap[r]?=ac a)(ho:iR P<|some a):Sm P (λx=>X x/\x≠r) {w with heap:=ay w.heap r a} v:=by
 have g:r<ak w.heap:=by rw[<-h.J];exact(za.1 i).1
 refine⟨ó,λx c=>?_,λx c=>?_,λx=>?_,h.ms,h.fZ,h.os,h.cM,⟨by simp only[J4];exact h.pf.1,λx c f=>by rw[show({w with heap:=ay w.heap r a}:Zy).heap=ay w.heap r a from rfl,zl<|Ne.symm c.2];exact h.pf.2 x c.1 f⟩⟩;by_cases b:r=x;grind;rw[show({w with heap:=ay w.heap r a}:Zy).heap=ay w.heap r a from rfl,zl b];exact h.out x λd=>c ⟨d,λe=>b e.symm⟩;rw[show({w with heap:=ay w.heap r a}:Zy).heap=ay w.heap r a from rfl,zl<|Ne.symm c.2];exact h.iz x c.1;by_cases b:r=x;grind;rw[show({w with heap:=ay w.heap r a}:Zy).heap=ay w.heap r a from rfl,zl b];exact h.pz x
end
end
section
variable [pn:Pn]
section
variable {P:bT} {main:Bool} {R:cY->cY->Prop} {D:cY->cY->Array lh->Prop} {S:cY->Prop} {ops:Array fj} {b:fk} {k:List Item} {cs:List fk} {Stop:cA->cY->Prop} {n last:Nat} {I:Nat->Array Bool->jG->Prop}
def xaz(T:Terms R D)(q:∀x y,S x->R x y->S y)(hk:b.kind≠ dY)(K:∀l a,¬I 0 l a)(E:∀m l a,I (m+1) l a->aW ff ops l≠[])
  (d:∀m l a,I (m+1) l a->∀i∈aW ff ops l,
   (∃o v,ops[i]?=ac o/\bC o (eZ ops a.tmps)=aw/\(∀w,S w->(aL a.eval o).run P w=cT (fA v) w/\D w w (jX P b.fn a o w))/\I m (ay l i aw) (a.put o.dst v))\/
   (i=last/\aW ff ops (ay l i aw)=[]/\∀w,S w->fm P main R D Stop n (G (b.at a (aM ops [last]::k)) cs) w)):
  ∀(m t:Nat) (l:Array Bool) (a:jG) (w:Zy),I m l a->S w->fm P main R D Stop (n+m) (G (b.at a (aM ops (cB ff ops m t l [])::k)) cs) w:=by
 intro m;induction m with
 |zero=>grind
 |succ m ih=>
  intro t l a w B r;have C:cB ff ops (m+1) t l []=match(aW ff ops l)[t%aa (aW ff ops l)]?with
   |some i=>cB ff ops m (t/aa (aW ff ops l)) (ay l i aw) [i]|none=>[].reverse:=rfl
  rw[C];have h:t%aa (aW ff ops l)<aa (aW ff ops l):=Nat.mod_lt _ Â;rw[Jc h];simp only[];rw[linearise_go_acc,KU,Vz];obtain⟨o,v,F,H,s,p⟩|⟨e,j,f⟩:=d m l a B _ (Xk h);have:n+(m+1)=(n+m)+1:=À
  rw[this];refine iM rfl λz J=>?_;have c:=q _ _ r J;rw[stepG_value F H hk (s z c).1];exact⟨(s z c).2,ih _ _ _ _ p c⟩;rw[e]at j⊢;have g:cB ff ops m (t/aa (aW ff ops l)) (ay l last aw) []=[]:=by
   cases m with
   |zero=>rfl
   |succ m=>
    have:cB ff ops (m+1) (t/aa (aW ff ops l)) (ay l last aw) []=match(aW ff ops<|ay l last aw)[t/aa (aW ff ops l)%aa (aW ff ops<|ay l last aw)]?with
     |some i=>cB ff ops m (t/aa (aW ff ops l)/aa (aW ff ops<|ay l last aw)) (ay (ay l last aw) i aw) [i]
     |none=>[].reverse:=rfl
    grind
  rw[g];exact(f w r).mono À
def zxd(T:Terms R D)(hd:LetsDraw D)(e:∀w:Zy,S w->S {w with drawn:=w.drawn+1})(g:Region.departs ops=ao)(d:∀x y,S x->R x y->S y)(hk:b.kind≠ dY)(h:∀l a,¬I 0 l a)(f:∀m l a,I (m+1) l a->aW ff ops l≠[])
  (c:∀m l a,I (m+1) l a->∀i∈aW ff ops l,
   (∃o v,ops[i]?=ac o/\bC o (eZ ops a.tmps)=aw/\(∀w,S w->(aL a.eval o).run P w=cT (fA v) w/\D w w (jX P b.fn a o w))/\I m (ay l i aw) (a.put o.dst v))\/
   (i=last/\aW ff ops (ay l i aw)=[]/\∀w,S w->fm P main R D Stop n (G (b.at a (aM ops [last]::k)) cs) w))
  {id:Nat}{a:jG}{w:Zy}(j:I (ak ops) (bV (ak ops) ao) a)(p:S w):fm P main R D Stop (n+ak ops+1) (G (b.at a (cD (eU id ops aw)::k)) cs) w:=by
 refine iM rfl λs r=>?_;rw[stepG_region_draw];refine⟨hd _, ?_⟩;have q:∀t,il (P.follows mV) ops t=Region.linearise ff ops t:=λt=>by grind [il]
 rw[q];exact xaz T d hk h f c _ _ _ a _ j<|e _<|d _ _ p r
end
section
variable {P:bT} {main:Bool} {R:cY->cY->Prop} {D:cY->cY->Array lh->Prop} {ops:Array fj} {b:fk} {k:List Item} {cs:List fk} {Stop:cA->cY->Prop} {n:Nat} {I:Nat->Array Bool->jG->cY->Prop}
def wW(P:Zp)(main:Bool)(D:Zy->Zy->Array lh->Prop)(b:Zf)(k:List Item)(cs:List Zf)(ops:Array fj)(i:Nat)(a:jG)(w:Zy)(K:jG->Zy->Prop):Prop:=
 ∃a' w' es,(∀rest,bF P main (G (b.at a (aM ops (i::rest)::k)) cs) w=gj (G (b.at a' (aM ops rest::k)) cs) w' es)/\D w w' es/\K a' w'
def wW.ea{i o a w w' v K}(hk:b.kind≠ dY)(ho:ops[i]?=ac o)(hw:bC o (eZ ops a.tmps)=aw)(d:(aL a.eval o).run P w=cT (fA v) w')(hd:D w w'<|listed P b.fn a o w)(h:K (a.put o.dst v) w'):wW P main D b k cs ops i a w K:=
 ⟨_,_,_,λc=>stepG_value ho hw hk d,hd,h⟩
theorem wW.kZ{i o a w w' K}(hk:b.kind≠ dY)(ho:ops[i]?=ac o)(hw:bC o (eZ ops a.tmps)=aw)(d:(aL a.eval o).run P w=cT .skip w')(hd:D w w'<|listed P b.fn a o w)(h:K (a.put o.dst aC) w'):wW P main D b k cs ops i a w K:=
 ⟨_,_,_,λc=>stepG_none ho hw hk d,hd,h⟩
def zzc(o:∀m l a w w₁,I m l a w->R w w₁->I m l a w₁)
  (c:∀m l a w,I m l a w->aW ff ops l=[]->fm P main R D Stop n (G (b.at a (aM ops []::k)) cs) w)(h:∀l a w,I 0 l a w->aW ff ops l=[])
  (e:∀m l a w,I (m+1) l a w->∀i∈aW ff ops l,wW P main D b k cs ops i a w<|I m<|ay l i aw):
  ∀(m t:Nat) (l:Array Bool) (a:jG) (w:Zy),I m l a w->fm P main R D Stop (n+m) (G (b.at a (aM ops (cB ff ops m t l [])::k)) cs) w:=by
 intro m;induction m with
 |zero=>exact λt l a w f=>c _ _ _ _ f<|h _ _ _ f
 |succ m ih=>
  intro t l a w f;have p:cB ff ops (m+1) t l []=match(aW ff ops l)[t%aa (aW ff ops l)]?with
   |some i=>cB ff ops m (t/aa (aW ff ops l)) (ay l i aw) [i]|none=>[].reverse:=rfl
  rw[p];by_cases d:aW ff ops l=[];rw[d];exact(c _ _ _ _ f d).mono À;have g:t%aa (aW ff ops l)<aa (aW ff ops l):=Nat.mod_lt _ Â;rw[Jc g];simp only[];rw[linearise_go_acc,KU,Vz];have:n+(m+1)=(n+m)+1:=À
  rw[this];refine iM rfl λw₁ q=>?_;obtain⟨r,x,s,v,hd,j⟩:=e m l a w₁ (o _ _ _ _ _ f q) _<|Xk g;simp_all
def zwc(hd:LetsDraw D)(g:Region.departs ops=ao)(f:∀m l a w w₁,I m l a w->R w w₁->I m l a w₁)(e:∀m l a (w:Zy),I m l a w->I m l a {w with drawn:=w.drawn+1})
  (d:∀m l a w,I m l a w->aW ff ops l=[]->fm P main R D Stop n (G (b.at a (aM ops []::k)) cs) w)(h:∀l a w,I 0 l a w->aW ff ops l=[])
  (c:∀m l a w,I (m+1) l a w->∀i∈aW ff ops l,wW P main D b k cs ops i a w<|I m<|ay l i aw)
  {id:Nat}{a:jG}{w:Zy}(j:I (ak ops) (bV (ak ops) ao) a w):fm P main R D Stop (n+ak ops+1) (G (b.at a (cD (eU id ops aw)::k)) cs) w:=by
 refine iM rfl λw₁ p=>?_;rw[stepG_region_draw];refine⟨hd _, ?_⟩;have o:∀t,il (P.follows mV) ops t=Region.linearise ff ops t:=λt=>by grind [il]
 rw[o];exact zzc f d h c _ _ _ a _<|e _ _ _ _<|f _ _ _ _ _ j p
end
end
section
open Go.RowKit Go.Conc.Lib
variable [pn:Pn] [py:cZ]
noncomputable def wV:nW:=Tryz.f106.body.getD .skip
noncomputable def rP:Array fj:=match wV with| fO _ (fO _<|fO _<|fO _<|fO _<|fO (eU _ ops _) _)=>ops|_=>#[]
section
variable {Lb Bd Bs Wg:Nat} {bs ls:Int} {E:lh->Prop}
structure SL(Lb:Nat)(bs ls:Int)(w:Zy):Prop where
 bE:ae w (zq Lb 11)=ac (zi bs)
 aP:ae w (zq Lb 12)=ac (zi ls)
abbrev Ox(E:lh->Prop)(a:jG)(o:fj)(v:Zv)(w:Zy):Prop:=(aL a.eval o).run au w=cT (fA v) w/\DE E w w (jX au 106 a o w)
abbrev FF(ops:Array fj)(i:Nat)(d:Option Tmp)(op:Op):Prop:=(ops[i]?.map λo=>(o.guard.isNone,o.dst,o.op))=ac (aw,d,op)
def FF.kq{ops i d op}(h:FF ops i d op):∃o,ops[i]?=ac o/\o.dst=d/\o.op=op/\∀y,bC o y=aw:=ľ
section
variable {o:fj} {a:jG} {w:cY} {v:dL} {n j:Nat}
def I3(hop:o.op= .move (bZ n))(h:a.eval (bZ n)=v):Ox E a o v w:=by
 constructor
 ·unfold aL;simp only[hop,h];simp[go_sem]
 intro e c;have b:=ij c;unfold aL at b;simp only[hop,h]at b;simp[go_sem]at b
def I4(hop:o.op= .nilCheck (bZ n)){x}(h:a.eval (bZ n)=aR (ac x)):Ox E a o (aR<|some x) w:=by
 constructor
 ·unfold aL;simp only[hop,h];simp[go_sem]
 intro e c;have b:=ij c;unfold aL at b;simp only[hop,h]at b;simp[go_sem]at b
def IZ(d:j=7\/j=8)(hop:o.op= .fieldAddr 122 (bZ n) j)(h:a.eval (bZ n)=zo Lb):Ox E a o (zk Lb<|j+4) w:=by
 obtain rfl|rfl:=d;all_goals
  constructor
  ·unfold aL;simp only[hop,h];simp[go_sem]
  intro e c;have b:=ij c;unfold aL at b;simp only[hop,h]at b;simp[go_sem]at b
def I2(f:∀x:Addr,x.block=Lb->E ⟨kF x,ao,ao⟩){z}(hop:o.op= .load 3 (bZ n))(h:a.eval (bZ n)=zk Lb j)(c:ae w (zq Lb j)=ac (zi z)):Ox E a o (zi z) w:=by
 constructor
 ·unfold aL;simp only[hop,h];simp[go_sem,c]
 intro e d;have b:=ij d;unfold aL at b;simp only[hop,h]at b;simp[go_sem,c]at b;grind
def xy4(hw:IntKind.i64.wrap (bs+1)=bs+1)(hop:o.op= .binOp .add 3 (bZ n) (.const<|zi 1) 3)(h:a.eval (bZ n)=zi bs):Ox E a o (zi<|bs+1) w:=by
 constructor
 ·unfold aL;simp only[hop,h];simp[go_sem,hw]
 intro e c;have b:=ij c;unfold aL at b;simp only[hop,h]at b;simp[go_sem,hw]at b
def jcj(hop:o.op= .makeFunc (.func 169) #[] #[bZ 5,bZ 4,bZ 3]):Ox E a o (nV (.func 169) #[] #[a.eval<|bZ 5,a.eval<|bZ 4,a.eval<|bZ 3]) w:=by
 constructor
 ·unfold aL;simp only[hop];simp[go_sem,Instr.makeFunc]
 intro e c;have b:=ij c;unfold aL at b;simp only[hop]at b;simp[go_sem,Instr.makeFunc,Va]at b
end
def xqo:Terms nN<|DE E:=⟨atRel_trans,λw e a=>Â⟩
def W1:LetsDraw<|DE E:=λw e a=>Â
theorem SL.at{w w₁}(h:SL Lb bs ls w)(r:nN w w₁):SL Lb bs ls w₁:=by obtain⟨d,rfl⟩:=r;exact⟨h.bE,h.aP⟩
abbrev l5(r p q:Nat):Array Bool:=#[bI (1<=r),bI (1<=p),bI (2<=p),bI (3<=p),bI (4<=p),bI (5<=p),bI (1<=q),bI (2<=q),bI (3<=q),bI (4<=q),ao]
theorem WY(r)(d:r<2)(p)(b:p<6)(q)(c:q<5):aW ff rP (l5 r p q)≠[]/\∀i∈aW ff rP (l5 r p q),(i=0/\r=0)\/(i=p+1/\p<5)\/(i=q+6/\q<4)\/(i=10/\r=1/\p=5/\q=4):=by
 have h:∀(r:_root_.Fin 2) (p:_root_.Fin 6) (q:_root_.Fin 5),(!(aW ff rP<|l5 r p q).isEmpty&&(aW ff rP<|l5 r p q).all λi=>bI ((i=0/\r.val=0)\/(i=p+1/\p.val<5)\/(i=q+6/\q.val<4)\/(i=10/\r.val=1/\p.val=5/\q.val=4)))=aw:=È
 have:=h ⟨r,d⟩ ⟨p,b⟩ ⟨q,c⟩;rw[jy,D3]at this;exact⟨λe=>(by rw[e]at this;cases this.1),λi a=>Xt<|this.2 i a⟩
def I5(Lb Bd Bs Wg:Nat)(bs ls:Int)(y1 y2 y6 y7 y8 y9 y10 y11 y12 y13 y14 y15 y16 y17 y18 y19 y20 y21 y22 y23 y24 y25 y26 y27 y28 y29 y30 y31 y32 y33 y34:Zv)(ds:List lY)(m:Nat)(l:Array Bool)(a:jG):Prop:=∃r p q,r<2/\p<6/\q<5/\l=l5 r p q/\m+(r+p+q)=11/\a=⟨#[zo Lb,y1,y2,zo Bd,zo Bs,zo Wg,y6,y7,y8,y9,y10,y11,y12,y13,y14,y15,y16,y17,(if 1<=r then nV (.func 169) #[] #[zo Wg,zo Bs,zo Bd]else y18),(if 1<=p then zo Lb else y19),(if 2<=p then zo Lb else y20),(if 3<=p then zk Lb 11 else y21),(if 4<=p then zi bs else y22),(if 5<=p then zi (bs+1)else y23),(if 1<=q then zo Lb else y24),(if 2<=q then zo Lb else y25),(if 3<=q then zk Lb 12 else y26),(if 4<=q then zi ls else y27),y28,y29,y30,y31,y32,y33,y34],ds⟩
def xn2(J:∀x:Addr,x.block=Lb->E ⟨kF x,ao,ao⟩)(hw:IntKind.i64.wrap (bs+1)=bs+1){k cs Stop n y1 y2 y6 F y8 H g j t y z B C y17 y18 y19 y20 y21 y22 y23 y24 y25 y26 y27 y28 y29 y30 y31 y32 y33 y34 D w}(f:∀w',nN w w'->fm au aw nN (DE E) Stop n (G ((is 106).at ⟨#[zo Lb,y1,y2,zo Bd,zo Bs,zo Wg,y6,F,y8,H,g,j,t,y,z,B,C,y17,nV (.func 169) #[] #[zo Wg,zo Bs,zo Bd],zo Lb,zo Lb,zk Lb 11,zi bs,zi<|bs+1,zo Lb,zo Lb,zk Lb 12,zi ls,y28,y29,y30,y31,y32,y33,y34],D⟩ (aM rP [10]::k)) cs) w')(R:SL Lb bs ls w):
  fm au aw nN (DE E) Stop (n+11+1) (G ((is 106).at ⟨#[zo Lb,y1,y2,zo Bd,zo Bs,zo Wg,y6,F,y8,H,g,j,t,y,z,B,C,y17,y18,y19,y20,y21,y22,y23,y24,y25,y26,y27,y28,y29,y30,y31,y32,y33,y34],D⟩ (cD (eU 5 rP aw)::k)) cs) w:=by
 refine zxd (S:=λw'=>SL Lb bs ls w'/\nN w w') (I:=I5 Lb Bd Bs Wg bs ls y1 y2 y6 F y8 H g j t y z B C y17 y18 y19 y20 y21 y22 y23 y24 y25 y26 y27 y28 y29 y30 y31 y32 y33 y34 D) (last:=10) xqo W1 (λw h=>⟨h.1.at ⟨_,rfl⟩,atRel_trans _ _ _ h.2 ⟨_,rfl⟩⟩) Á (λ_ _ h r=>⟨h.1.at r,atRel_trans _ _ _ h.2 r⟩) Ã ?_ ?_ ?_ ?_ ⟨R,atRel_refl _⟩;rintro l a⟨r,p,q,_,_,_,_,_,_⟩;omega;rintro m l a⟨r,p,q,b,e,c,rfl,_⟩;grind [WY];rintro m l a⟨r,p,q,b,e,c,rfl,V,rfl⟩ i T;have K:∀{a:jG} (d op) {v} {I:jG->Prop} {S:Zy->Prop},(rP[i]?.map λo=>(o.guard.isNone,o.dst,o.op))=ac (aw,d,op)->(∀o,o.op=op->∀w,S w->Ox E a o v w)->I (a.put d v)->∃o v,rP[i]?=ac o/\bC o (eZ rP a.tmps)=aw/\(∀w,S w->Ox E a o v w)/\I (a.put o.dst v):=by intro a d op v I S h U Q;obtain⟨o,M,rfl,N,O⟩:=FF.kq h;exact⟨o,v,M,O _,U o N,Q⟩
 rcases(WY r b p e q c).2 i T with⟨rfl,rfl⟩|⟨rfl,h⟩|⟨rfl,h⟩|⟨rfl,rfl,rfl,rfl⟩;exact aF<|K (ac 18) _ Á (λo h w _=>jcj h) ⟨1,p,q,À,e,c,rfl,À,rfl⟩;obtain rfl|rfl|rfl|rfl|rfl:p=0\/p=1\/p=2\/p=3\/p=4:=À
 exact aF<|K (ac 19) (.move<|bZ 0) Á (λo h w _=>I3 h rfl) ⟨r,1,q,b,À,c,rfl,À,rfl⟩;exact aF<|K (ac 20) (.nilCheck<|bZ 19) Á (λo h w _=>I4 h rfl) ⟨r,2,q,b,À,c,rfl,À,rfl⟩;exact aF<|K (ac 21) (.fieldAddr 122 (bZ 20) 7) Á (λo h w _=>IZ (aF rfl) h rfl) ⟨r,3,q,b,À,c,rfl,À,rfl⟩;exact aF<|K (ac 22) (.load 3<|bZ 21) Á (λo h w s=>I2 J h rfl s.1.bE) ⟨r,4,q,b,À,c,rfl,À,rfl⟩;exact aF<|K (ac 23) (.binOp .add 3 (bZ 22) _ 3) Á (λo h w _=>xy4 hw h rfl) ⟨r,5,q,b,À,c,rfl,À,rfl⟩;obtain rfl|rfl|rfl|rfl:q=0\/q=1\/q=2\/q=3:=À
 exact aF<|K (ac 24) (.move<|bZ 0) Á (λo h w _=>I3 h rfl) ⟨r,p,1,b,e,À,rfl,À,rfl⟩;exact aF<|K (ac 25) (.nilCheck<|bZ 24) Á (λo h w _=>I4 h rfl) ⟨r,p,2,b,e,À,rfl,À,rfl⟩;exact aF<|K (ac 26) (.fieldAddr 122 (bZ 25) 8) Á (λo h w _=>IZ (aE rfl) h rfl) ⟨r,p,3,b,e,À,rfl,À,rfl⟩;exact aF<|K (ac 27) (.load 3<|bZ 26) Á (λo h w s=>I2 J h rfl s.1.aP) ⟨r,p,4,b,e,À,rfl,À,rfl⟩;exact aE ⟨rfl,Á,λw' L=>f w' L.2⟩;exact⟨0,0,0,Ã,Ã,Ã,rfl,rfl,rfl⟩
end
noncomputable def V8:Array fj:=match wV with| fO _ (fO (eU _ ops _) _)=>ops|_=>#[]
section
variable {Lb Bd:Nat} {bs ls:Int} {cp:Nat} {E:lh->Prop}
def XF{o a w}(hw:IntKind.i64.wrap (ls-bs)=(cp:Int))(hop:o.op= .binOp .sub 3 (bZ 10) (bZ 14) 3)(h:a.eval (bZ 10)=zi ls)(c:a.eval (bZ 14)=zi bs):Ox E a o (zi cp) w:=by
 constructor
 ·unfold aL;simp only[hop,h,c];simp[go_sem,hw]
 intro e d;have b:=ij d;unfold aL at b;simp only[hop,h,c]at b;simp[go_sem,hw]at b
def xnc:(((Tryz.prog.info? 248).getD default).bytes:Int)=24:=Á
abbrev rO(cp:Nat):Obj:= .chan cp #[] ao 0 0 ao
abbrev qN(v:Zv):Obj:=aq #[v] 235
theorem jb5(d:cp<=1000000000){o}(hop:o.op=Op.makeChan 235 (bZ 15)){a}(c:a.eval (bZ 15)=zi cp)(w):(aL a.eval o).run au w=cT (fA<|eL<|some (ak w.heap)) (aB w<|rO cp)/\DE E w (aB w<|rO cp) (jX au 106 a o w):=by have b:=xnc;have h:=run_makeChan (w:=w) Tryz.underlying235 Á aU cp À (by rw[b];omega);have i:=events_makeChan (w:=w) Tryz.underlying235 Á aU cp À (by rw[b];omega) #[];constructor;unfold aL;simp_all;intro e f;have g:=ij f;unfold aL at g;simp_all
theorem xy0{o}(hop:o.op=Op.alloc 235){a}(w):(aL a.eval o).run au w=cT (fA<|zo (ak w.heap)) (aB w<|qN<|eL ar)/\DE E w (aB w<|qN<|eL ar) (jX au 106 a o w):=by
 constructor
 ·unfold aL;simp only[hop];simp[go_sem]
 intro e c;have b:=ij c;unfold aL at b;simp only[hop]at b;simp[go_sem]at b
def XE{o C Bs}(i:E ⟨kF<|zq Bs 0,aw,ao⟩)(hop:o.op=Op.store 235 (bZ 4) (bZ 16)){a}(d:a.eval (bZ 4)=zo Bs)(b:a.eval (bZ 16)=eL (ac C)){w}(f:ae w (zq Bs 0)=ac (eL ar))(g:aQ w (zq Bs 0)=ao):
  (aL a.eval o).run au w=cT .skip (ai w (zq Bs 0)<|eL<|some C)/\DE E w (ai w (zq Bs 0)<|eL<|some C) (jX au 106 a o w):=by
 constructor
 ·unfold aL;simp only[hop,d,b];simp[go_sem,stored,f,g]
 intro e h;have c:=ij h;unfold aL at c;simp only[hop,d,b]at c;simp[go_sem,storedEv,f,g]at c;grind
def OB(N:Nat)(y:Zv):Nat->Zv
 |3|5|7=>eL (ac N)
 |6|8=>eL (ac<|N+1)
 |_=>y
def Oz(N:Nat)(y:Zv):Nat->Zv
 |1|4|6|8=>zo N
 |5|7=>zo<|N+1
 |_=>y
def w1(w₀:Zy)(cp:Nat):Nat->Zy
 |1|4=>aB w₀<|qN<|eL ar
 |3=>aB w₀<|rO cp
 |5=>aB (aB w₀<|rO cp)<|qN<|eL ar
 |6=>aB (aB w₀<|qN<|eL ar)<|rO cp
 |7=>ai (aB (aB w₀<|rO cp)<|qN<|eL ar) (zq (ak w₀.heap+1) 0)<|eL<|some (ak w₀.heap)
 |8=>ai (aB (aB w₀<|qN<|eL ar)<|rO cp) (zq (ak w₀.heap) 0)<|eL<|some<|ak w₀.heap+1
 |_=>w₀
def n1:Nat->Nat
 |0=>0|1=>1|2=>1|3=>2|4=>2|5=>3|6=>3|_=>4
abbrev l1(p q c:Nat):Array Bool:=#[bI (1<=p),bI (2<=p),bI (3<=p),bI (4<=p),bI (1<=q),bI (2<=q),bI (3<=q),bI (4<=q),bI (2<=c),bI (c=3\/5<=c),bI (c=1\/4<=c),bI (7<=c)]
def OC(p)(f:p<5)(q)(g:q<5)(c)(b:c<9)(a:2<=c->p=4/\q=4):(aW ff V8 (l1 p q c)=[]->7<=c)/\(7<=c->aW ff V8 (l1 p q c)=[])/\∀i∈aW ff V8 (l1 p q c),(p=i/\p<4)\/(i=q+4/\q<4)\/(i=8/\(c=0\/c=1)/\p=4/\q=4)\/(i=9/\(c=2\/c=4))\/(i=10/\(c=0\/c=2\/c=3))\/(i=11/\(c=5\/c=6)):=by
 have h:∀(p q:_root_.Fin 5) (c:_root_.Fin 9),(bI (2<=c.val/\¬(p.val=4/\q.val=4))||((aW ff V8<|l1 p q c).isEmpty==bI (7<=c.val))&&(aW ff V8<|l1 p q c).all λi=>bI ((p.val=i/\p.val<4)\/(i=q+4/\q.val<4)\/(i=8/\(c.val=0\/c.val=1)/\p.val=4/\q.val=4)\/(i=9/\(c.val=2\/c.val=4))\/(i=10/\(c.val=0\/c.val=2\/c.val=3))\/(i=11/\(c.val=5\/c.val=6))))=aw:=È
 have:=h ⟨p,f⟩ ⟨q,g⟩ ⟨c,b⟩;rw[Bool.or_eq_true,jy,D3,yS]at this;obtain h|⟨h,k⟩:=this;exact absurd (a (Xt h).1) (Xt h).2;exact⟨λe=>(by rw[e]at h;exact Xt h.symm),λe=>List.isEmpty_iff.mp<|h.trans<|jm e,λi d=>Xt<|k i d⟩
def jbx:∀c<9,n1 c<=4/\(n1 c=4->7<=c):=Ã
theorem SL.w1{w:Zy}(h:SL Lb bs ls w)(c:Nat):SL Lb bs ls<|w1 w cp c:=by
 have a:Lb<ak w.heap:=xF h.bE;have d:∀{w:Zy} (o:Obj),SL Lb bs ls w->SL Lb bs ls (aB w o):=λ{w} o h=>by have a:Lb<ak w.heap:=xF h.bE;exact⟨(Z6<|Xj _ _ _ a).trans h.bE,(Z6<|Xj _ _ _ a).trans h.aP⟩
 have st:∀{w:Zy} (x:Addr) (v:Zv),x.block≠Lb->SL Lb bs ls w->SL Lb bs ls (ai w x v):=λ{w} x v b h=>
  ⟨(Z6<|(jQ w x v).block Lb λe=>b Ě).trans h.bE,(Z6<|(jQ w x v).block Lb λe=>b Ě).trans h.aP⟩
 unfold A.w1;grind
section
variable (y1 y2 y4 y5 y6 y7 y8 y9 y10 y11 y12 y13 y14 y15 y16 y17 y18 y19 y20 y21 y22 y23 y24 y25 y26 y27 y28 y29 y30 y31 y32 y33 y34:dL) (ds:List lY)
def I'(Lb Bd:Nat)(bs ls:Int)(cp N p q c:Nat):jG:=⟨#[zo Lb,y1,y2,zo Bd,(Oz N y4 c),y5,y6,(if 1<=p then zo Lb else y7),(if 2<=p then zo Lb else y8),(if 3<=p then zk Lb 12 else y9),(if 4<=p then zi ls else y10),(if 1<=q then zo Lb else y11),(if 2<=q then zo Lb else y12),(if 3<=q then zk Lb 11 else y13),(if 4<=q then zi bs else y14),(if 2<=c then zi cp else y15),(OB N y16 c),y17,y18,y19,y20,y21,y22,y23,y24,y25,y26,y27,y28,y29,y30,y31,y32,y33,y34],ds⟩
def I1(Lb Bd:Nat)(bs ls:Int)(cp:Nat)(w₀:Zy)(m:Nat)(l:Array Bool)(a:jG)(w:Zy):Prop:=
 ∃p q c:Nat,p<5/\q<5/\c<9/\(2<=c->p=4/\q=4)/\l=l1 p q c/\m+(p+q+n1 c)=12/\a=I' y1 y2 y4 y5 y6 y7 y8 y9 y10 y11 y12 y13 y14 y15 y16 y17 y18 y19 y20 y21 y22 y23 y24 y25 y26 y27 y28 y29 y30 y31 y32 y33 y34 ds Lb Bd bs ls cp (ak w₀.heap) p q c/\∃d,w=(w1 w₀ cp c).at d
end
end
end
end A
namespace A
open Tryq Go Go.Conc
section
open Go.RowKit Go.Conc.Lib
variable [pn:Pn] [py:cZ]
section
variable {Lb Bd:Nat} {bs ls:Int} {cp:Nat} {E:lh->Prop}
def YK(c:cp<=1000000000){a w o}(hop:o.op= .makeChan 235 (bZ 15))(b:a.eval (bZ 15)=zi cp){N}(d:ak w.heap=N):(aL a.eval o).run au w=cT (fA<|eL<|some N) (aB w<|rO cp)/\DE E w (aB w<|rO cp) (jX au 106 a o w):=by grind [jb5]
def OU{a w o}(hop:o.op= .alloc 235){N}(b:ak w.heap=N):(aL a.eval o).run au w=cT (fA<|zo N) (aB w<|qN<|eL ar)/\DE E w (aB w<|qN<|eL ar) (jX au 106 a o w):=by grind [xy0]
def YH(w₀:Zy)(o d):ak ((aB w₀ o).at d).heap=ak w₀.heap+1:=xp _ _
def YL(w₀:Zy)(d):ae ((aB (aB w₀<|rO cp)<|qN<|eL ar).at d) (zq (ak w₀.heap+1) 0)=ac (eL ar)/\aQ ((aB (aB w₀<|rO cp)<|qN<|eL ar).at d) (zq (ak w₀.heap+1) 0)=ao:=by
 have h:((aB (aB w₀<|rO cp)<|qN<|eL ar).at d).heap[ak w₀.heap+1]?=ac (qN<|eL ar):=by have:=xn (aB w₀<|rO cp)<|qN<|eL ar;rw[xp]at this;exact this
 grind [ae,aQ]
def YM(w₀:Zy)(d):ae ((aB (aB w₀<|qN<|eL ar)<|rO cp).at d) (zq (ak w₀.heap) 0)=ac (eL ar)/\aQ ((aB (aB w₀<|qN<|eL ar)<|rO cp).at d) (zq (ak w₀.heap) 0)=ao:=by
 have h:((aB (aB w₀<|qN<|eL ar)<|rO cp).at d).heap[ak w₀.heap]?=ac (qN<|eL ar):=
  (Xj _ _ _ Ä).trans (xn w₀ _)
 grind [ae,aQ]
def xo3(Z:∀x:Addr,x.block=Lb->E ⟨kF x,ao,ao⟩)(hw:IntKind.i64.wrap (ls-bs)=(cp:Int))(J:cp<=1000000000){k cs Stop n y1 y2 W y5 y6 X y8 Y s t y z B C D y17 y18 y19 y20 y21 y22 y23 y24 y25 y26 y27 y28 y29 y30 y31 y32 y33 y34 Q w₀}
  (H:∀x:Addr,ak w₀.heap<=x.block->x.block<ak w₀.heap+2->E ⟨kF x,aw,ao⟩)(hS:SL Lb bs ls w₀)
  (r:∀c,c=7\/c=8->∀d,fm au aw nN (DE E) Stop n (G ((is 106).at (I' y1 y2 W y5 y6 X y8 Y s t y z B C D y17 y18 y19 y20 y21 y22 y23 y24 y25 y26 y27 y28 y29 y30 y31 y32 y33 y34 Q Lb Bd bs ls cp (ak w₀.heap) 4 4 c) (aM V8 []::k)) cs)<|(w1 w₀ cp c).at d):
  fm au aw nN (DE E) Stop (n+12+1) (G ((is 106).at ⟨#[zo Lb,y1,y2,zo Bd,W,y5,y6,X,y8,Y,s,t,y,z,B,C,D,y17,y18,y19,y20,y21,y22,y23,y24,y25,y26,y27,y28,y29,y30,y31,y32,y33,y34],Q⟩ (cD (eU 1 V8 aw)::k)) cs) w₀:=by
 refine zwc (I:=I1 y1 y2 W y5 y6 X y8 Y s t y z B C D y17 y18 y19 y20 y21 y22 y23 y24 y25 y26 y27 y28 y29 y30 y31 y32 y33 y34 Q Lb Bd bs ls cp w₀) W1 Á ?_ ?_ ?_ ?_ ?_ ?_;rintro m l a w e⟨p,q,c,g,b,f,j,R,S,O,d,rfl⟩ ⟨d',rfl⟩;exact⟨p,q,c,g,b,f,j,R,S,O,d',rfl⟩;rintro m l a w⟨p,q,c,g,b,f,j,R,S,O,d,rfl⟩;exact⟨p,q,c,g,b,f,j,R,S,O,d+1,rfl⟩;rintro m l a w⟨p,q,c,L,M,F,b,rfl,hm,rfl,d,rfl⟩ hr;have O:=(OC p L q M c F b).1 hr;grind;rintro l a w⟨p,q,c,L,M,F,b,rfl,hm,rfl,d,rfl⟩;have hn:=jbx c F;exact(OC p L q M c F b).2.1 (hn.2 À);rintro m l a w⟨p,q,c,L,M,F,b,rfl,hm,rfl,d,rfl⟩ i hi;have hs:∀c,SL Lb bs ls<|(w1 w₀ cp c).at d:=λc=>(hS.w1 c).at ⟨d,rfl⟩;have V:∀(d op) {a:jG} {v w e} {K:jG->Zy->Prop},(V8[i]?.map λo=>(o.guard.isNone,o.dst,o.op))=ac (aw,d,op)->(∀o,o.op=op->(aL a.eval o).run au w=cT (fA v) e/\DE E w e (jX au 106 a o w))->K (a.put d v) e->wW au aw (DE E) (is 106) k cs V8 i a w K:=by intro d op a v w e K h N T;obtain⟨o,g,rfl,f,j⟩:=FF.kq h;exact wW.ea Ã g (j _) (N o f).1 (N o f).2 T
 have U:∀(d op) {a:jG} {w e} {K:jG->Zy->Prop},(V8[i]?.map λo=>(o.guard.isNone,o.dst,o.op))=ac (aw,d,op)->(∀o,o.op=op->(aL a.eval o).run au w=cT .skip e/\DE E w e (jX au 106 a o w))->K (a.put d aC) e->wW au aw (DE E) (is 106) k cs V8 i a w K:=by intro d op a w e K h N T;obtain⟨o,g,rfl,f,j⟩:=FF.kq h;exact wW.kZ Ã g (j _) (N o f).1 (N o f).2 T
 clear r;rcases(OC p L q M c F b).2.2 i hi with⟨rfl,h⟩|⟨rfl,h⟩|⟨rfl,h,rfl,rfl⟩|⟨rfl,h⟩|⟨rfl,h⟩|⟨rfl,h⟩;obtain rfl|rfl|rfl|rfl:p=0\/p=1\/p=2\/p=3:=À
 exact V (ac 7) (.move<|bZ 0) Á (λo h=>I3 h rfl) ⟨1,q,c,À,À,À,À,rfl,À,rfl,d,rfl⟩;exact V (ac 8) (.nilCheck<|bZ 7) Á (λo h=>I4 h rfl) ⟨2,q,c,À,À,À,À,rfl,À,rfl,d,rfl⟩;exact V (ac 9) (.fieldAddr 122 (bZ 8) 8) Á (λo h=>IZ (aE rfl) h rfl) ⟨3,q,c,À,À,À,À,rfl,À,rfl,d,rfl⟩;exact V (ac 10) (.load 3<|bZ 9) Á (λo h=>I2 Z h rfl (hs c).aP) ⟨4,q,c,À,À,À,À,rfl,À,rfl,d,rfl⟩;obtain rfl|rfl|rfl|rfl:q=0\/q=1\/q=2\/q=3:=À
 exact V (ac 11) (.move<|bZ 0) Á (λo h=>I3 h rfl) ⟨p,1,c,À,À,À,À,rfl,À,rfl,d,rfl⟩;exact V (ac 12) (.nilCheck<|bZ 11) Á (λo h=>I4 h rfl) ⟨p,2,c,À,À,À,À,rfl,À,rfl,d,rfl⟩;exact V (ac 13) (.fieldAddr 122 (bZ 12) 7) Á (λo h=>IZ (aF rfl) h rfl) ⟨p,3,c,À,À,À,À,rfl,À,rfl,d,rfl⟩;exact V (ac 14) (.load 3<|bZ 13) Á (λo h=>I2 Z h rfl (hs c).bE) ⟨p,4,c,À,À,À,À,rfl,À,rfl,d,rfl⟩;obtain rfl|rfl:=h;exact V (ac 15) _ Á (λo h=>XF hw h rfl rfl) ⟨4,4,2,À,À,À,À,rfl,í,rfl,d,rfl⟩;exact V (ac 15) _ Á (λo h=>XF hw h rfl rfl) ⟨4,4,4,À,À,À,À,rfl,í,rfl,d,rfl⟩;obtain⟨rfl,rfl⟩:=b À;obtain rfl|rfl:=h;exact V (ac 16) _ Á (λo h=>YK J h rfl rfl) ⟨4,4,3,À,À,À,À,rfl,í,rfl,d,rfl⟩;exact V (ac 16) _ Á (λo h=>YK J h rfl<|YH w₀ _ d) ⟨4,4,6,À,À,À,À,rfl,í,rfl,d,rfl⟩;obtain rfl|rfl|rfl:=h;exact V (ac 4) _ Á (λo h=>OU h rfl) ⟨p,q,1,À,À,À,À,rfl,í,rfl,d,rfl⟩;exact V (ac 4) _ Á (λo h=>OU h rfl) ⟨p,q,4,À,À,À,À,rfl,í,rfl,d,rfl⟩;exact V (ac 4) _ Á (λo h=>OU h<|YH w₀ _ d) ⟨p,q,5,À,À,À,À,rfl,í,rfl,d,rfl⟩;obtain⟨rfl,rfl⟩:=b À;obtain rfl|rfl:=h;exact U ar _ Á (λo h=>XE (H _ Ä Ä) h rfl rfl (YL w₀ d).1 (YL w₀ d).2) ⟨4,4,7,À,À,À,À,rfl,í,rfl,d,rfl⟩;exact U ar _ Á (λo h=>XE (H _ Ä Ä) h rfl rfl (YM w₀ d).1 (YM w₀ d).2) ⟨4,4,8,À,À,À,À,rfl,í,rfl,d,rfl⟩;exact⟨0,0,0,Ã,Ã,Ã,Ã,rfl,rfl,rfl,w₀.drawn,rfl⟩
end
section
variable {P:bT} {E:lh->Prop} {Stop:cA->cY->Prop} {m:Nat} {b:fk} {a:jG} {k:List Item} {cs:List fk} {w w':cY}
def Lg(P:Zp)(E:lh->Prop)(Stop:Zg->Zy->Prop)(m:Nat)(g:Zg)(w:Zy):Prop:=∀d,fm P aw nN (DE E) Stop m g<|w.at d
theorem Lg.eO{g g'}(c:g.status=aZ)(h:∀w,bF P aw g w=gj g' w)(b:Lg P E Stop m g' w):Lg P E Stop (m+1) g w:=λd=>iM c λj f=>by obtain⟨a,rfl⟩:=f;rw[h];exact⟨λe i=>Â,b a⟩
def Lg.ea{ops i rest op}(v)(ho:ops[i]?=ac op)(hw:bC op (eZ ops a.tmps)=aw)(hk:b.kind≠ dY)
  (j:∀d,(aL a.eval op).run P (w.at d)=cT (fA v) (w'.at d))(f:∀d,∀e∈(aL a.eval op).events P (w.at d) #[],E e)
  (g:Lg P E Stop m (G (b.at (a.put op.dst v) (aM ops rest::k)) cs) w'):Lg P E Stop (m+1) (G (b.at a (aM ops (i::rest)::k)) cs) w:=λd=>iM rfl λn l=>by
 obtain⟨c,rfl⟩:=l;change(bF P aw _<|w.at c).goes _;rw[stepG_value (w':=w'.at c) ho hw hk<|j c];exact⟨λe h=>f c e<|mem_listed h,g c⟩
end
noncomputable def K1:=Qb<|Qb wV
noncomputable def K5:=Qn 4 K1
abbrev yB:Obj:=aq #[aH .u64 0,zu 0] 245
section
variable {Lb Bd Bs C Wg:Nat} {bs ls:Int} {cp X0:Nat} [Go.ConcX.Shy Wg Bd] {Stop:cA->cY->Prop}
def xo1(s:∀x:Addr,x.block=Lb->gM Wg Bd ⟨kF x,ao,ao⟩)(hw:IntKind.i64.wrap (bs+1)=bs+1){cs y1 y2 y5 y6 y17 y18 y19 y20 y21 y22 y23 y24 y25 y26 y27 y28 y29 y30 y31 y32 y33 y34 wB}(p:ak wB.heap=Wg)(h:SL Lb bs ls wB)
  (b:∀d,Stop (G ((is 106).at ⟨#[zo Lb,y1,y2,zo Bd,zo Bs,zo Wg,y6,zo Lb,zo Lb,zk Lb 12,zi ls,zo Lb,zo Lb,zk Lb 11,zi bs,zi cp,eL<|some C,bU #[],nV (.func 169) #[] #[zo Wg,zo Bs,zo Bd],zo Lb,zo Lb,zk Lb 11,zi bs,zi<|bs+1,zo Lb,zo Lb,zk Lb 12,zi ls,y28,y29,y30,y31,y32,y33,y34],[dcall 167 #[zo Wg]]⟩ [aM rP [10],cD K5]) cs)<|(ai (aB wB yB) (zq Wg 0)<|aH .u64 4294967296).at d):
  Lg au (gM Wg Bd) (ir au mR λa w=>∃n,fm au aw nN (DE<|Go.ConcX.EvS Wg Bd) (ir au mQ λa w=>∃n,fm au aw nN (DE<|Go.ConcX.EvS Wg Bd) Stop n a w) n a w) 24
   (G ((is 106).at ⟨#[zo Lb,y1,y2,zo Bd,zo Bs,y5,y6,zo Lb,zo Lb,zk Lb 12,zi ls,zo Lb,zo Lb,zk Lb 11,zi bs,zi cp,eL<|some C,y17,y18,y19,y20,y21,y22,y23,y24,y25,y26,y27,y28,y29,y30,y31,y32,y33,y34],[]⟩ [aM V8 [],cD K1]) cs) wB:=by
 have f:Lb<ak wB.heap:=xF h.bE;have i:SL Lb bs ls<|ai (aB wB yB) (zq Wg 0)<|aH .u64 4294967296:=by have o:SL Lb bs ls<|aB wB yB:=⟨(Z6<|Xj _ _ _ f).trans h.bE,(Z6<|Xj _ _ _ f).trans h.aP⟩;exact⟨(Z6<|(jQ _ _ _).block Lb Â).trans o.bE,(Z6<|(jQ _ _ _).block Lb Â).trans o.aP⟩
 have l:(aB wB yB).heap[Wg]?=ac yB:=by subst p;exact xn _ _
 simp only[K1,wV,Tryz.f106,qt];refine Lg.eO rfl (λ_=>aO) ?_;refine Lg.eO rfl (λ_=>bX) ?_;refine Lg.eO rfl (λ_=>ec) ?_;refine Lg.ea (w':=aB wB yB) (zo Wg) rfl rfl Ã (λd=>by subst p;simp[aL,go_sem];exact⟨rfl,rfl⟩) (λd e q=>by simp[aL,go_sem]at q) ?_;walk_nrm;refine Lg.eO rfl (λ_=>aO) ?_;refine Lg.eO rfl (λ_=>bX) ?_;refine Lg.eO rfl (λ_=>ec) ?_;refine Lg.eO rfl (λ_=>stepG_defer rfl rfl Ã rfl) ?_;walk_nrm;refine Lg.eO rfl (λ_=>aO) ?_;refine Lg.eO rfl (λ_=>bX) ?_;refine Lg.eO rfl (λ_=>ec) ?_;intro d;refine iM rfl λz t=>?_;obtain⟨m,rfl⟩:=t;refine goes_call (c:=Go.ConcX.Gen.body_add Dv) rfl rfl Ã rfl Tryz.func168 Á rfl ⟨λe q=>Â, ?_⟩;walk_nrmf Tryz.f168;refine Goes.mono (Go.ConcX.Gen.addPos (mT:=14) I7 _ l ?_) À;change fm _ _ _ _ _ 14 _ ((ai (aB wB yB) (zq Wg 0)<|aH .u64 4294967296).at m);walk_nrm;revert m;change Lg _ _ _ 14 _ (ai (aB wB yB) (zq Wg 0)<|aH .u64 4294967296);refine Lg.eO rfl (λ_=>aO) ?_;refine Lg.eO rfl (λ_=>bX) ?_;intro d;refine xn2 (n:=0) (k:=[cD K5]) s hw (λw' j=>?_)<|i.at ⟨d,rfl⟩;refine fc λv g=>?_;obtain⟨y,rfl⟩:=j;obtain⟨r,rfl⟩:=g;exact b r
end
noncomputable def sM(Lb D Bd Bs C Wg:Nat)(bs ls:Int)(cp:Nat):jG:=⟨#[zo Lb,zo D,aC,zo Bd,zo Bs,zo Wg,aC,zo Lb,zo Lb,zk Lb 12,zi ls,zo Lb,zo Lb,zk Lb 11,zi bs,zi cp,eL<|some C,bU #[],nV (.func 169) #[] #[zo Wg,zo Bs,zo Bd],zo Lb,zo Lb,zk Lb 11,zi bs,zi<|bs+1,zo Lb,zo Lb,zk Lb 12,zi ls,aC,aC,aC,aC,aC,aC,aC],[dcall 167 #[zo Wg]]⟩
abbrev sp(D:Nat):Obj:=aq #[zo D] 76
def jL(w₀:Zy)(D cp c:Nat):Zy:=ai (aB (w1 (aB w₀<|sp D) cp c) yB) (zq (ak w₀.heap+3) 0)<|aH .u64 4294967296
def lR(N c:Nat):Nat:=if c=7 then N+1 else N+2
def mN(N c:Nat):Nat:=if c=7 then N+2 else N+1
theorem OW(w cp){c}(a:c=7\/c=8):ak (w1 w cp c).heap=ak w.heap+2:=by grind [ai,w1,xp]
section
variable {Lb D:Nat} {bs ls:Int} {cp:Nat} {w₀:cY} [Go.ConcX.Shy (ak w₀.heap+3) (ak w₀.heap)] {Stop:cA->cY->Prop} {cs:List fk}
def xpp(q:∀x:Addr,x.block=Lb->gM (ak w₀.heap+3) (ak w₀.heap) ⟨kF x,ao,ao⟩)(j:∀x:Addr,ak w₀.heap+1<=x.block->x.block<ak w₀.heap+3->gM (ak w₀.heap+3) (ak w₀.heap) ⟨kF x,aw,ao⟩)
  (hw:IntKind.i64.wrap (ls-bs)=(cp:Int))(o:cp<=1000000000)(p:IntKind.i64.wrap (bs+1)=bs+1)(l:SL Lb bs ls w₀)
  (f:∀c,c=7\/c=8->∀d,Stop (G ((is 106).at (sM Lb D (ak w₀.heap) (mN (ak w₀.heap) c) (lR (ak w₀.heap) c) (ak w₀.heap+3) bs ls cp) [aM rP [10],cD K5]) cs)<|(jL w₀ D cp c).at d):
  Lg au (gM (ak w₀.heap+3) (ak w₀.heap)) (ir au mR λa w=>∃n,fm au aw nN (DE<|Go.ConcX.EvS (ak w₀.heap+3) (ak w₀.heap)) (ir au mQ λa w=>∃n,fm au aw nN (DE<|Go.ConcX.EvS (ak w₀.heap+3) (ak w₀.heap)) Stop n a w) n a w) 42
   (G ((is 106).at ⟨#[zo Lb,zo D,aC,aC,aC,aC,aC,aC,aC,aC,aC,aC,aC,aC,aC,aC,aC,aC,aC,aC,aC,aC,aC,aC,aC,aC,aC,aC,aC,aC,aC,aC,aC,aC,aC],[]⟩ [cD wV]) cs) w₀:=by
 have i:Lb<ak w₀.heap:=xF l.bE;have h:SL Lb bs ls<|aB w₀<|sp D:=⟨(Z6<|Xj _ _ _ i).trans l.bE,(Z6<|Xj _ _ _ i).trans l.aP⟩;have g:ak (aB w₀<|sp D).heap=ak w₀.heap+1:=xp _ _;have y:wV=fO (eU 0 #[{dst:=ac 3,op:=Op.box 76<|Operand.tmp 1,type:=0,pos:= "look.go:75",after:=#[],guard:=ar}] ao) (fO (eU 1 V8 aw) K1):=Á
 rw[y];refine Lg.eO rfl (λ_=>bX) ?_;(refine Lg.eO rfl (λ_=>ec) ?_;simp only[jd,xg,qy,iJ,j7,gO,List.range.loop]);refine Lg.ea (w':=aB w₀<|sp D) (zo (ak w₀.heap)) rfl rfl Ã (λd=>by simp[aL,go_sem];exact⟨rfl,rfl⟩) (λd e B=>by simp[aL,go_sem]at B) ?_;walk_nrm;refine Lg.eO rfl (λ_=>aO) ?_;refine Lg.eO rfl (λ_=>bX) ?_;intro d;refine Goes.mono (xo3 (n:=24) (w₀:=(aB w₀<|sp D).at d) (k:=[cD K1]) q hw o (λx s t=>j x (by rw[<-g];exact s)<|by have v:x.block<ak (aB w₀<|sp D).heap+2:=t;omega) (h.at ⟨d,rfl⟩) ?_) À;intro c m r;have z:ak (w1 (aB w₀<|sp D) cp c).heap=ak w₀.heap+3:=by rw[OW _ _ m,g]
 have b:=xo1 (Lb:=Lb) (Bd:=ak w₀.heap) (Bs:=mN (ak w₀.heap) c) (C:=lR (ak w₀.heap) c) (Wg:=ak w₀.heap+3) (bs:=bs) (ls:=ls) (cp:=cp) (Stop:=Stop) q p (cs:=cs) (y1:=zo D) (y2:=aC) (y5:=aC) (y6:=aC) (y17:=aC) (y18:=aC) (y19:=aC) (y20:=aC) (y21:=aC) (y22:=aC) (y23:=aC) (y24:=aC) (y25:=aC) (y26:=aC) (y27:=aC) (y28:=aC) (y29:=aC) (y30:=aC) (y31:=aC) (y32:=aC) (y33:=aC) (y34:=aC)
  (wB:=w1 (aB w₀<|sp D) cp c) z (h.w1 c) (λd=>f c m d) r
 obtain rfl|rfl:=m;simp only[I',OB,Oz,mN,lR,g,show((aB w₀<|sp D).at d).heap.size=ak w₀.heap+1 from g,if_true,zd,Nat.reduceLeDiff,↓reduceIte]at b⊢;exact b;simp only[I',OB,Oz,mN,lR,g,show((aB w₀<|sp D).at d).heap.size=ak w₀.heap+1 from g,if_true,zd,Nat.reduceLeDiff,Nat.reduceEqDiff,↓reduceIte]at b⊢;exact b
end
end
section
open Go.ConcN (sumTo upd sumTo_upd upd_ne upd_same)
variable [pn:Pn]
section
variable {P:bT} {X X0:Nat->Prop} {Th:Loc->Prop} {Wg C c p B:Nat} {a0:Addr} {T t:fG}
def Zw(Wg C:Nat)(a:Touch):Prop:=(uk Wg a.loc->a.kind≠ .plain)/\(a.loc=nG C->a.write=ao)
def TP.vL(h:oJ X0 B (Zw Wg C) 0 T)(m:∀x,X0 x->X x)(y:¬X0 Wg)(q:∀l,Th l->¬sy X0 l/\¬uw X0 l)(k:∀l,Th l->l.isMemory=aw):TP X Th Wg C 0 a0 (ak T) B T:=by
 have p:∀i a,li T i=ac a->Th a.loc->Knows T 0 i:=λi a c d=>by obtain x|x|x:=h.jZ i a c (k _ d);exact x;grind;grind
 refine⟨h.fM,λi a c w=>?_,λi a c d _=>p i a c d,λi a c d=>aF (p i a c d),λi a c d=>(h.Dr i a c).2 d,λi a c o=>⟨(h.Dr i a c).1 o,λD=>?_⟩,λi g t f s=>aF (h.lC i g t f s),h.gc,λi z v=>?_⟩;obtain x|⟨⟨b,e,n⟩,hk⟩|⟨⟨r,e,j⟩,hk⟩:=h.jZ i a c w;grind;exact aE<|aF ⟨⟨b,e,m _ n⟩,hk⟩;exact aE<|aE<|aE ⟨⟨r,e,m _ j⟩,λd=>(q _ d).2 ⟨r,e,j⟩,hk⟩;obtain⟨b,e,n⟩:=o;rcases h.jZ i a c (by rw[e];rfl)with x|⟨⟨b',e',hb'⟩,hk⟩|⟨⟨r,e',j⟩,hk⟩;exact x;grind;grind;have:=lt_of_act? v;omega
def xqc{Z g g' child}(f:g.status=aZ){q gs v sl}(L:gs[0]?=ac g)(r:Leavers P t gs q)(V:oJ X B Z 0 t)
  (h:∀d,bF P aw g (v.at d)= .spawn g' child (v.at d) #[]):
  ∃N gs' d sl' t' q' x y,eT P N (fL gs v sl) t=(fS<|crowd (gs'.push child) (v.at d) sl',t'++#[x,y])/\gs'[0]?=ac g'/\ak gs'=ak gs/\Leavers P t' gs' q'/\oJ X B Z 0 t'/\(x.g=0/\x.act= .go (ak gs))/\(y.g=ak gs/\y.act= .start):=by
 induction hk:iX (ak gs) q using Nat.strongRecOn generalizing gs q v sl t with
 |_ k ih=>
  have M:∀g∈gs,awake g:=by
   intro b l;obtain⟨i,n,rfl⟩:=Xd.1 l;obtain rfl|c:=jh i;have:gs[0]=g:=by simpa[xy n]using L
   rw[this];exact mW<|aF f;exact mW<|(r.old i _ c<|xy n).status.elim aF λx=>aE (aE x)
  obtain⟨i,b,d,sl',n,l,E⟩:=crowd_pick (P:=P) (w:=v) (sl:=sl) M ⟨0,g,L,f⟩;have C:i<ak gs:=(za.1 n).1;obtain rfl|c:=jh i;obtain rfl:b=g:=Â
  have a:=runT_crowd_spawn (sl:=sl') n (show bF P _ b _=_ from h d);refine⟨1,ay gs 0 g',d,sl',t,q,{g:=0,fn:=b.frame.fn,pos:=b.frame.place,act:= .go (ak gs)},{g:=ak gs,fn:=child.frame.fn,pos:=b.frame.place,act:= .start}, ?_,by simp[C],Ä,⟨λj z s Y=>?_,λj s=>r.above j Ë⟩,V,⟨rfl,rfl⟩,rfl,rfl⟩;simp only[eT,E,a];rfl;have o:0≠j:=À
  rw[zl o]at Y;exact r.old j z s Y;have I:=r.old i b c n;have O:(i==0)=ao:=Æ
  cases hqi:q i with
  |zero=>rw[hqi]at I;rw[I.1]at l;cases l
  |succ k'=>
   rw[hqi]at I;obtain⟨hf,_⟩|⟨_,H,es,hm,F,Q⟩:=I;grind;have a:=oS (sl:=sl') n (by rw[O];exact F<|v.at d);have G:ak (ay (gs.map<|woken P b H<|v.at d) i H)=ak gs:=Ä
   have W:iX (ak gs) (upd q i k')+(k'+1)=iX (ak gs) q+k':=by have:=sumTo_upd q k' id C;simpa[hqi]using this
   obtain⟨N,K,d2,R,t2,q2,x,y,b1,b2,S,b4,b5,T,U⟩:=ih (iX (ak gs)<|upd q i k') À (q:=upd q i k') (t:=t++aS i b.frame.fn b.frame.place es) (gs:=ay (gs.map<|woken P b H<|v.at d) i H) (v:=v.at d) (sl:=sl')
    (by
     have o:i≠0:=À
     rw[zl o,jt,L];simp[woken_run f])
    ⟨λj z s J=>by
     by_cases m:i=j;subst m;rw[Yv Ë]at J;obtain rfl:=ql J;rw[upd_same,lm];exact Q;rw[zl m,jt]at J;obtain⟨y,hy,rfl⟩:=zv.1 J;have D:=r.old j y s hy;rw[iA D,upd_ne q k'<|Ne.symm m,cU t m _ λop p=>by obtain⟨e,_,rfl⟩:=zy p;rfl];exact D,λj s=>by
     rw[cU t (g':=i) À _ λop p=>by obtain⟨e,_,rfl⟩:=zy p;rfl];exact r.above j À⟩
    (V.xQ À hm) (λd'=>h d') (by rw[G])
   rw[G]at S T U;exact⟨1+N,K,d2,R,t2,q2,x,y,qr (by simp only[eT,E,a]) b1,b2,S,b4,b5,T,U⟩
end
end
section
open Go.RowKit Go.Conc.Lib
variable [pn:Pn] [py:cZ]
section
variable {Lb D Bd Bs C Wg:Nat} {bs ls:Int} {cp:Nat} {cs:List fk}
def FJ:fj:={dst:=ar,op:=Op.go {callee:=Callee.value<|Operand.tmp 18,args:=#[bZ 23,bZ 27],argTypes:=#[3,3]},type:=0,pos:= "look.go:80",after:=#[{on:=0,ground:=eM},{on:=5,ground:=eM},{on:=9,ground:=eM}],guard:=ar}
def xxa:rP[10]?=ac FJ:=Á
def xs8(w):bF au aw (G ((is 106).at (sM Lb D Bd Bs C Wg bs ls cp) [aM rP [10],cD K5]) cs) w= .spawn (G ((is 106).at (sM Lb D Bd Bs C Wg bs ls cp) [aM rP [],cD K5]) cs) (born au<|uM Bd Bs Wg (bs+1) ls) w #[]:=by
 have b:(aL (sM Lb D Bd Bs C Wg bs ls cp).eval FJ).run au w=cT (.spawn<|uM Bd Bs Wg (bs+1) ls) w:=by unfold aL;simp only[FJ];simp[sM,iH,go_sem,uM]
 have a:(aL (sM Lb D Bd Bs C Wg bs ls cp).eval FJ).events au w #[]=#[]:=by unfold aL;simp only[FJ];simp[sM,iH,go_sem]
 rw[stepG_spawn (w':=w) xxa rfl Ã b rfl];unfold jX;rw[a,seen_none];rfl
end
def j6(es):∀(k:Nat) (n:Int),aa (lc es n k)=k
 |0,_=>rfl|k+1,n=>by simp[lc,j6 es k]
def vM(w₀ D cp){c}(f:c=7\/c=8){r}(e:r<ak w₀.heap)(d):((jL w₀ D cp c).at d).heap[r]?=w₀.heap[r]?:=by
 have a:∀(w:Zy) (o:Obj) {r:Nat},r<ak w.heap->(aB w o).heap[r]?=w.heap[r]?:=λw o r h=>Xj _ _ _ h;have g:ak (aB w₀<|sp D).heap=ak w₀.heap+1:=xp _ _;have b:(w1 (aB w₀<|sp D) cp c).heap[r]?=w₀.heap[r]?:=by obtain rfl|rfl:=f;simp only[w1];rw[(jQ _ _ _).block r Â,a _ _ Â,a _ _ À,a _ _ e];simp only[w1];rw[(jQ _ _ _).block r Â,a _ _ Â,a _ _ À,a _ _ e]
 show(jL w₀ D cp c).heap[r]?=_;unfold jL;rw[(jQ _ _ _).block r Â,a _ _ Â,b]
theorem OR(w₀ D cp){c}(a:c=7\/c=8)(d):ak ((jL w₀ D cp c).at d).heap=ak w₀.heap+4:=by
 have b:∀(w:Zy) (x:Addr) (v:Zv),ak (ai w x v).heap=ak w.heap:=λw x v=>Ä
 show(jL w₀ D cp c).heap.size=_;grind [jL,xp,OW]
def OV(w₀ D cp){c}(i:c=7\/c=8)(d):((jL w₀ D cp c).at d).heap[ak w₀.heap]?=ac (sp D)/\((jL w₀ D cp c).at d).heap[lR (ak w₀.heap) c]?=ac (rO cp)/\
  ((jL w₀ D cp c).at d).heap[mN (ak w₀.heap) c]?=ac (qN<|eL<|some<|lR (ak w₀.heap) c)/\((jL w₀ D cp c).at d).heap[ak w₀.heap+3]?=ac (aq #[aH .u64 4294967296,zu 0] 245):=by
 show(jL w₀ D cp c).heap[ak w₀.heap]?=_/\(jL w₀ D cp c).heap[lR (ak w₀.heap) c]?=_/\(jL w₀ D cp c).heap[mN (ak w₀.heap) c]?=_/\(jL w₀ D cp c).heap[ak w₀.heap+3]?=_;have n1:ak w₀.heap≠ak w₀.heap+1:=À
 have j:∀(w:Zy) (o:Obj) {r:Nat},r<ak w.heap->(aB w o).heap[r]?=w.heap[r]?:=λw o r h=>Xj _ _ _ h;have g:∀(w:Zy) (o:Obj) {r:Nat},ak w.heap=r->(aB w o).heap[r]?=ac o:=λw o r h=>by grind [xn]
 have k:∀(w:Zy) (x:Addr) (v:Zv) {r:Nat},x.block≠r->(ai w x v).heap[r]?=w.heap[r]?:=λw x v r h=>(jQ w x v).block r λe=>h e.symm;have st:∀(w:Zy) (r:Nat) (v:Zv) (l:Za) (e:Zt),w.heap[r]?=ac (aq l e (0,0))->(ai w (zq r 0) v).heap[r]?=ac (aq (ay l 0 v) e (0,0)):=λw r v l e h=>by unfold ai;grind
 have a:ak (aB w₀<|sp D).heap=ak w₀.heap+1:=xp _ _;have f:=OW (aB w₀<|sp D) cp i;rw[a]at f;have b:∀{r:Nat},r<ak w₀.heap+3->(jL w₀ D cp c).heap[r]?=(w1 (aB w₀<|sp D) cp c).heap[r]?:=λ{r} h=>by grind [jL]
 refine⟨?_, ?_, ?_, ?_⟩;rw[b À];obtain rfl|rfl:=i<;>simp only[w1]<;>rw[k _ _ _ Â,j _ _ Â,j _ _ À,g _ _ rfl]
 obtain rfl|rfl:=i;grind [lR,w1];grind [lR,w1,xp];obtain rfl|rfl:=i;rw[show mN (ak w₀.heap) 7=ak w₀.heap+2 from rfl,show lR (ak w₀.heap) 7=ak w₀.heap+1 from rfl,b À];simp only[w1,a];exact st _ _ _ _ _ (g _ _ Ä);rw[show mN (ak w₀.heap) 8=ak w₀.heap+1 from rfl,show lR (ak w₀.heap) 8=ak w₀.heap+2 from rfl,b À];simp only[w1,a];exact st _ _ _ _ _<|(j _ _ Â).trans<|g _ _ a;unfold jL;exact st _ _ _ _ _<|g _ _ f
section
variable {X:Nat->Prop} {gs:Array cA} {v:cY} {sl:Option<|Nat×Nat} {t:fG} {k:Nat×Nat} {Lb D M clock:Nat} {es:Array dP} {rm nx:dL} {bs ls:Int} {cp:Nat} {cs:List fk}
def Sx(N D c:Nat)(x:Nat):Prop:=x=D\/x=N\/x=mN N c
def Xx(X:ZP)(N D M:Nat)(x:Nat):Prop:=X x\/x=D\/x=M\/(N<=x/\x<N+4)
def ox(v:Zy)(x:Nat):Obj:=(v.heap[x]?).getD<|aq #[] 0
def YS{B Wg C}(n:Wg<B)(m:C<B)(o){e}(h:@gM Wg C (WX X B Wg C n m o) e):yZ X B e/\∀x,(bN e).touch?=ac x->(∀c,Zw Wg c x):=by
 obtain⟨i,q,r,j,k,g⟩:=h;refine⟨⟨λx d=>⟨(g x d).1,(g x d).2.1,(g x d).2.2.1⟩,λf=>j ?_,λf=>k ?_⟩,λx d c=>⟨λp=>(i x d).1<|aF p,λf=>absurd f<|(g x d).c c⟩⟩;cases e with|mk l a b=>cases f;rfl
 cases e with|mk l a b=>cases f;rfl
def xyd(hJ:JL au X k gs v t)(Z:gs[0]?=ac (G ((is 106).at ⟨#[zo Lb,zo D,aC,aC,aC,aC,aC,aC,aC,aC,aC,aC,aC,aC,aC,aC,aC,aC,aC,aC,aC,aC,aC,aC,aC,aC,aC,aC,aC,aC,aC,aC,aC,aC,aC],[]⟩ [cD wV]) cs))(ba:¬X Lb)(I:SL Lb bs ls v)(K:∀x,X x->x<ak v.heap)
  (hw:IntKind.i64.wrap (ls-bs)=(cp:Int))(z:cp<=1000000000)(E:IntKind.i64.wrap (bs+1)=bs+1):
  ∃N gs' d sl' t' q c x y,(c=7\/c=8)/\eT au N (fL gs v sl) t=(fS<|crowd (gs'.push<|born au<|uM (ak v.heap) (mN (ak v.heap) c) (ak v.heap+3) (bs+1) ls) ((jL v D cp c).at d) sl',t'++#[x,y])/\
   gs'[0]?=ac (G ((is 106).at (sM Lb D (ak v.heap) (mN (ak v.heap) c) (lR (ak v.heap) c) (ak v.heap+3) bs ls cp) [aM rP [],cD K5]) cs)/\ak gs'=ak gs/\Leavers au t' gs' q/\
   oJ X (ak v.heap+4) (λa=>∀C,ak v.heap<=C->Zw (ak v.heap+3) C a) 0 t'/\(x.g=0/\x.act= .go (ak gs))/\(y.g=ak gs/\y.act= .start):=by
 obtain⟨q,hL,hP,rfl⟩:=hJ;have bb:Lb<ak v.heap:=xF I.bE;have p:¬X (ak v.heap):=λh=>Â
 letI:=WX X (ak v.heap+4) (ak v.heap+3) (ak v.heap) À À p
 have hE:∀x:Addr,x.block=Lb->gM (ak v.heap+3) (ak v.heap) ⟨kF x,ao,ao⟩:=λx j=>Go.ConcX.Gen.evS_cell x ao ao À À (λy f=>by simp only[bY,xj]at f;subst f;exact⟨λ⟨r,e,hr⟩=>Â,λ⟨r,e,_⟩=>Ç,(by grind [Loc.low]),λr e=>Ç⟩);have n:∀x:Addr,ak v.heap+1<=x.block->x.block<ak v.heap+3->gM (ak v.heap+3) (ak v.heap) ⟨kF x,aw,ao⟩:=λx h1 h2=>Go.ConcX.Gen.evS_cell x aw ao À À (λy f=>by simp only[bY,xj]at f;subst f;exact⟨λ⟨r,e,hr⟩=>Â,λ⟨r,e,_⟩=>Ç,(by grind [Loc.low]),λr e=>Ç⟩);have o:oJ X (ak v.heap+4) (λa=>∀C,ak v.heap<=C->Zw (ak v.heap+3) C a) 0 t:=(hP.toE λa l C hC=>⟨λ⟨b,e,hb⟩=>by
   rw[e]at l;have:b.block<ak v.heap:=l;omega,λe=>by
   rw[e]at l;have:C<ak v.heap:=l;omega⟩).W À
 have i:=xpp (Stop:=λg w=>∃c d,(c=7\/c=8)/\g=G ((is 106).at (sM Lb D _ (mN _ c) (lR _ c) _ bs ls cp) _) cs/\w=(jL v D cp c).at d) hE n hw z E I
  (λc s d=>⟨c,d,s,rfl,rfl⟩) v.drawn
 obtain⟨Q,Y,L,F,t1,q1,a1,r1,U,s1,L1,S,z1⟩:=xw4 (sl:=sl) (λe J=>⟨(YS _ _ _ J).1,λx j C _=>(YS _ _ _ J).2 x j C⟩) i Z hL o;obtain⟨c,d,s,rfl,hv⟩:=s1 L.drawn;have B:L=(jL v D cp c).at d:=hv;subst B;obtain⟨R,m,W,H,t2,q2,x,y,r2,V,M,O,T,j,f⟩:=xqc (sl:=F) rfl U L1 S λd=>xs8 _;rw[z1]at M j f;exact⟨Q+R,m,W,H,t2,q2,c,x,y,s,qr r1 r2,V,M,O,T,j,f⟩
end
end
section
open Go.RowKit Go.Conc.Lib
open Go.ConcR (stA)
open Go.ConcN (sumTo)
variable [pn:Pn] [py:cZ]
def JJ{t x y n}(hx:x.act= .go n)(hy:y.act= .start)(i):Deaf (t++#[x,y]) i=Deaf t i:=by
 have a:(t++#[x,y])[ak t]?=ac x:=Ä
 have b:(t++#[x,y])[ak t+1]?=ac y:=Ä
 show(t++#[x,y]).deaf i (ak (t++#[x,y]))=t.deaf i (ak t);rw[show(t++#[x,y]).size=ak t+1+1 by simp,deaf_succ b,deaf_succ a,deaf_old<|zd _];simp[deafStep,hx,hy]
section
variable {X:Nat->Prop} {gs:Array cA} {v:cY} {t:fG} {Lb D M clock:Nat} {es:Array dP} {rm nx:dL} {bs ls:Int} {cp:Nat} {cs:List fk}
def xs3{n d c q x y}(F:c=7\/c=8)(w:0<ak gs)(B:ak n=ak gs)(E:Leavers au t n q)(p:oJ X (ak v.heap+4) (λa=>∀C,ak v.heap<=C->Zw (ak v.heap+3) C a) 0 t)(hx:x.g=0/\x.act= .go (ak gs))(hy:y.g=ak gs/\y.act= .start)
  (s:∀x,X x->x<ak v.heap)(V:v.heap[D]?=ac (aq #[rm,eK<|some M,nx] py.ety))(W:v.heap[M]?=ac (.map es clock))(bb:¬X D)(bc:¬X M)(U:∀e∈ej es,kr e)
  (S:ls<9223372036854775807)(Q:-9223372036854775808<=bs+1)(hn:bs+1+(cp:Int)=ls+1):
  ∃k,JC au 245 (ak v.heap+3) (lR (ak v.heap) c) (Sx (ak v.heap) D c) D M (ak gs) (lc es (bs+1) cp) (ox<|(jL v D cp c).at d) (Xx X (ak v.heap) D M) (ak t) 0 0 k (n.push<|born au<|uM (ak v.heap) (mN (ak v.heap) c) (ak v.heap+3) (bs+1) ls) ((jL v D cp c).at d)<|t++#[x,y]:=by
 have H:D<ak v.heap:=(za.1 V).1;have I:M<ak v.heap:=(za.1 W).1;obtain⟨n1,n2,n3,n4⟩:=OV v D cp F d;have oD:=(vM v D cp F H d).trans V;have oM:=(vM v D cp F I d).trans W;have hS:mN (ak v.heap) c=ak v.heap+1\/mN (ak v.heap) c=ak v.heap+2:=by unfold mN;split<;>simp
 have hC:lR (ak v.heap) c=ak v.heap+1\/lR (ak v.heap) c=ak v.heap+2:=by unfold lR;split<;>simp
 have ba:lR (ak v.heap) c≠mN (ak v.heap) c:=by unfold mN lR;split<;>omega
 have ox_of:∀{r:Nat} {o:Obj},((jL v D cp c).at d).heap[r]?=ac o->ox ((jL v D cp c).at d) r=o:=λ{r o} h=>by unfold ox;grind
 have kc:Kc (Sx (ak v.heap) D c) M (ox<|(jL v D cp c).at d)<|(jL v D cp c).at d:=by
  intro r z;have:∃o,((jL v D cp c).at d).heap[r]?=ac o:=by obtain (rfl|rfl|rfl)|rfl:=z;simp_all;simp_all;simp_all;simp_all
  obtain⟨o,Z⟩:=this;rw[Z,ox_of Z]
 have K:Kn D M (ak v.heap) (mN (ak v.heap) c) (lR (ak v.heap) c) es (Sx (ak v.heap) D c)<|ox<|(jL v D cp c).at d:=⟨aF rfl,aE<|aF rfl,aE<|aE rfl,⟨rm,nx,ox_of oD⟩,ox_of n1,ox_of n3,⟨clock,ox_of oM⟩,U⟩;have G:=zy5 (Wg:=ak v.heap+3) K S Q cp hn kc;have T:=j6 es cp<|bs+1;have tp:TP (Xx X (ak v.heap) D M) (tJ (Sx (ak v.heap) D c) M) (ak v.heap+3) (lR (ak v.heap) c) (ak gs) (stA<|ak v.heap+3) (ak t) (ak ((jL v D cp c).at d).heap)<|t++#[x,y]:=by
  rw[OR v D cp F d];have J:oJ X (ak v.heap+4) (Zw (ak v.heap+3)<|lR (ak v.heap) c) 0 t:=⟨p.fM,p.jZ,p.lC,p.deaf,p.gc,λi a L=>p.Dr i a L _ À⟩;have nX:∀r,Sx (ak v.heap) D c r\/r=M->¬X r:=λr z hX=>by have:=s r hX;obtain (rfl|rfl|rfl)|rfl:=z;grind;omega;omega;grind
  refine TP.Ob (TP.vL J (λ_ h=>aF h) (λh=>Â) (λl O=>?_) λl O=>?_) À p.deaf (E.above _ À) hx hy;obtain⟨a,rfl,L⟩|⟨r,rfl,z⟩:=O;exact⟨λ⟨b,e,hb⟩=>by cases e;simp_all,λ⟨r,e,_⟩=>Ç⟩;exact⟨λ⟨b,e,hb⟩=>Ç,λ⟨r',e,be⟩=>by cases e;simp_all⟩;obtain⟨a,rfl,L⟩|⟨r,rfl,z⟩:=O<;>rfl
 have f:∀st m,9<=st->Ch au 245 (ak v.heap+3) (lR (ak v.heap) c) (Sx (ak v.heap) D c) D M (ox<|(jL v D cp c).at d) 0 st m (lc es (bs+1) cp) (born au<|uM (ak v.heap) (mN (ak v.heap) c) (ak v.heap+3) (bs+1) ls) ((jL v D cp c).at d)->
   io au 245 (ak v.heap+3) (lR (ak v.heap) c) (Sx (ak v.heap) D c) D M (ak gs) (lc es (bs+1) cp) (ox<|(jL v D cp c).at d) (Xx X (ak v.heap) D M) (ak t) 0 0 0 st m (lc es (bs+1) cp) (born au<|uM (ak v.heap) (mN (ak v.heap) c) (ak v.heap+3) (bs+1) ls) q (n.push<|born au<|uM (ak v.heap) (mN (ak v.heap) c) (ak v.heap+3) (bs+1) ls) ((jL v D cp c).at d) (t++#[x,y]):=by
  intro st m bf N;refine⟨w,by simp[B],by rw[<-B];simp,λi g hi bd Y=>?_,λj hj=>?_,N,kc,⟨_,oD,rfl⟩, ?_,Zz _,Ä, ?_,λ_ _=>À,λh=>absurd rfl h.1,tp, ?_, ?_,λh=>À,Ä⟩;rw[JJ hx.2 hy.2];refine E.old i g hi ?_;rw[jb,if_neg À]at Y;exact Y;rw[JJ hx.2 hy.2];exact E.above j À;rw[n2,T];simp[show¬st<=8 by omega];show _=_;rw[n4];have h1:mL 0 st=4294967296:=by unfold mL;rw[if_pos<|aF rfl,if_neg À];rfl
  have h2:mh 0 st=0:=by unfold mh;rw[if_neg À]
  rw[h1,h2];rfl;rw[JJ hx.2 hy.2,p.deaf];rfl;rw[JJ hx.2 hy.2];exact E.above _ À
 cases hv:lc es (bs+1) cp with
 |nil=>
  rw[hv]at G f;obtain⟨m,R⟩:=G;exact⟨_,_,_,_,_,_,_,f 9 m À<|.cls R,rfl⟩
 |cons a vs=>rw[hv]at G f;obtain⟨m,R⟩:=G;exact⟨_,_,_,_,_,_,_,f _ m À<|.send R,rfl⟩
end
end
section
variable [pn:Pn] [py:cZ]
theorem zzk{X N D M c}(s:D<N)(t:M<N)(v:Pn.N<=N):Zs (Xx X N D M) (N+3) (lR N c) (Sx N D c) D M:=by
 have w:mN N c=N+1\/mN N c=N+2:=by unfold mN;split<;>simp
 have q:lR N c=N+1\/lR N c=N+2:=by unfold lR;split<;>simp
 have m:lR N c≠mN N c:=by unfold mN lR;split<;>omega
 have p:∀x,Sx N D c x\/x=M->Xx X N D M x:=λx f=>by obtain (rfl|rfl|rfl)|rfl:=f;exact aE<|aF rfl;exact aE<|aE<|aE ⟨À,À⟩;exact aE<|aE<|aE ⟨À,À⟩;exact aE<|aE<|aF rfl
 have j:Xx X N D M<|N+3:=aE (aE<|aE ⟨À,À⟩);have i:Xx X N D M<|lR N c:=aE (aE<|aE ⟨À,À⟩);have k:∀x,Sx N D c x\/x=M->x≠lR N c:=λx f=>by obtain (rfl|rfl|rfl)|rfl:=f;omega;omega;omega;omega
 have o:∀x,Sx N D c x\/x=M->x≠N+3:=λx f=>by obtain (rfl|rfl|rfl)|rfl:=f<;>omega
 refine⟨⟨λl d=>?_,j,λl d n=>?_,λd=>?_,i⟩,i,j,aF rfl,k,À,o,À,À⟩;obtain⟨a,rfl,g⟩|⟨r,rfl,h⟩:=d;exact aF ⟨a,rfl,p _ g⟩;grind;obtain⟨b,e,y⟩:=n;obtain⟨a,rfl,g⟩|⟨r,rfl,h⟩:=d;grind;grind;obtain⟨a,e,g⟩|⟨r,e,h⟩:=d;cases e;grind
def FP:Obj:= .chan 0 #[] ao 0 0 ao
def B7(c:Nat):Nat->Obj
 |0=>aq #[] 76|1=>if c=7 then FP else aq #[] 235
 |2=>if c=7 then aq #[] 235 else FP
 |_=>aq #[] 245
def wF(w:Zy)(D M c:Nat):Zy:={w with heap:=(((((ay (ay w.heap D<|aq #[] py.ety) M FP).push<|B7 c 0).push<|B7 c 1).push<|B7 c 2).push<|B7 c 3)}
theorem ld(w D M c):ak (wF w D M c).heap=ak w.heap+4:=by simp[wF]
def nR(w){D M c r}(d:r<ak w.heap)(a:r≠D)(b:r≠M):(wF w D M c).heap[r]?=w.heap[r]?:=î
theorem YE(w){D M c}(b:D<ak w.heap)(a:D≠M):(wF w D M c).heap[D]?=ac (aq #[] py.ety):=î
theorem YF(w){D M c}(a:M<ak w.heap):(wF w D M c).heap[M]?=ac FP:=î
theorem B3(w){D M c i}(a:i<4):(wF w D M c).heap[ak w.heap+i]?=ac (B7 c i):=î
theorem YR{P}:iR P<|some FP:=⟨λ_ _ h=>Ê,λ_ h=>Ê,λ_ h=>Ê⟩
theorem xjh{P}(c i):iR P<|some<|B7 c i:=by unfold B7;grind [YR,iR.G]
section
variable {P:bT} {X:Nat->Prop} {w v:cY} {D M clock cp c d:Nat} {es:Array dP} {cs:Array dL}
theorem xu8(h:Sm P X w v)(j:c=7\/c=8)(m:v.heap[D]?=ac (aq cs py.ety))(l:v.heap[M]?=ac (.map es clock))(C:¬X D)(E:¬X M)(K:Pn.V D=v.heap[D]?)(L:Pn.V M=v.heap[M]?):
  Sm P (Xx X (ak v.heap) D M) (re (wF w D M c) v.tape d) ((jL v D cp c).at d):=by
 have p:D<ak v.heap:=(za.1 m).1;have q:M<ak v.heap:=(za.1 l).1;have n:D≠M:=by rintro rfl;rw[m]at l;cases l
 have b:=h.J;obtain⟨n1,t,x,H⟩:=OV v D cp j d;refine⟨?_,λr a=>?_,λr a=>?_,λr=>?_, ?_,rfl, ?_, ?_,⟨?_,λr a F=>?_⟩⟩
 case refine_8=>show _<=ak (wF w D M c).heap;have:=h.pf.1;rw[ld];omega
 case refine_9=>have J:=h.pf.1;show _\/_=(wF w D M c).heap[r]?;rw[vM v D cp j À d];by_cases f:r=D;grind;by_cases g:r=M;grind;rw[nR w À f g];obtain a|a|a|⟨y,z⟩:=a;exact h.pf.2 r a F;omega;omega;omega
 rw[OR v D cp j d];show _=ak (wF w D M c).heap;rw[ld,b];show _=(wF w D M c).heap[r]?;by_cases k:r<ak v.heap;rw[vM v D cp j k d,nR w À (λe=>a<|aE<|aF e) λe=>a<|aE<|aE<|aF e];exact h.out r λG=>a<|aF G;have B:ak v.heap+4<=r:=by apply jg;intro I;exact a<|aE<|aE<|aE ⟨À,À⟩
 grind [OR,ld];show∃o o',(wF w D M c).heap[r]?=ac o/\_;by_cases f:r=D;subst f;exact⟨_,_,YE w À n,(vM v r cp j p d).trans m,aE ⟨_,_,rfl,rfl⟩⟩;by_cases g:r=M;subst g;exact⟨_,_,YF w À,(vM v D cp j q d).trans l,aF ⟨rfl,rfl⟩⟩;obtain a|a|a|⟨y,z⟩:=a;have k:=h.sU r a;rw[nR w k f g,vM v D cp j À d];exact h.iz r a;omega;omega;have s:r=ak v.heap+0\/r=ak v.heap+1\/r=ak v.heap+2\/r=ak v.heap+3:=À
 obtain rfl|rfl|rfl|rfl:=s;exact⟨_,_,by rw[b];exact B3 w À,n1,aE ⟨_,_,rfl,rfl⟩⟩;obtain rfl|rfl:=j;exact⟨_,_,by rw[b];exact B3 w À,t,aF ⟨rfl,rfl⟩⟩;exact⟨_,_,by rw[b];exact B3 w À,x,aE ⟨_,_,rfl,rfl⟩⟩;obtain rfl|rfl:=j;exact⟨_,_,by rw[b];exact B3 w À,x,aE ⟨_,_,rfl,rfl⟩⟩;exact⟨_,_,by rw[b];exact B3 w À,t,aF ⟨rfl,rfl⟩⟩;exact⟨_,_,by rw[b];exact B3 w À,H,aE ⟨_,_,rfl,rfl⟩⟩;show iR P (wF w D M c).heap[r]?;by_cases k:r<ak w.heap;by_cases g:r=M;grind [YF,YR];by_cases f:r=D;grind [YE,iR.G];rw[nR w k f g];exact h.pz r;by_cases B:r<ak w.heap+4;obtain⟨i,s,rfl⟩:∃i,i<4/\r=ak w.heap+i:=⟨r-ak w.heap,À,À⟩;grind [B3,xjh];grind [ld,iR.kZ];obtain rfl|rfl:=j<;>rfl
 have e:((jL v D cp c).at d).os=v.os:=by obtain rfl|rfl:=j<;>rfl
 rw[e];exact h.os;have e:((jL v D cp c).at d).output=v.output:=by obtain rfl|rfl:=j<;>rfl
 rw[e];exact h.cM
end
end
section
open Go.ConcN (sumTo WgLive PayAt)
open Go.ConcR (WgAt stA Payload)
variable [pn:Pn]
section
variable [cZ] {P:bT} {ty:nt} {Wg C:Nat} {S:Nat->Prop} {D M c:Nat} {vals:List dL} {o:Nat->Obj} {X:Nat->Prop} {p rg r:Nat}
variable {d st m:Nat} {left:List dL} {b g0:cA} {q:Nat->Nat} {gs:Array cA} {v:cY} {t:fG}
def jci(B:Zs X Wg C S D M)(h:io P ty Wg C S D M c vals o X p rg r d st m left b q gs v t)(h0:gs[0]?=ac g0){g' a}(K:S a.block){f}(L:f=woken P g0 g' v\/f=id):
  io P ty Wg C S D M c vals o X p rg r d st m left b q (ay (gs.map f) 0 g') v (t++aS 0 g0.frame.fn g0.frame.place #[⟨kF a,ao,ao⟩]):=by
 have s:c≠0:=Jk h.gX;have I:a.block<ak v.heap:=(za.1<|h.kc _<|aF K).1;have G:∀{n d} {x:Zg},QuitsD P n d x->f x=x:=λl=>by obtain rfl|rfl:=L;exact iA l;rfl
 have R:∀{x:Zg},x.status=aZ->f x=x:=λl=>by obtain rfl|rfl:=L;exact woken_run l;rfl
 refine⟨h.gX,ó, ?_,λi g N H E=>?_,λj T=>?_,h.ch,h.kc,h.tG,h.jU,h.so,h.iW,h.wg,h.pI,h.pH, ?_, ?_, ?_,λQ=>?_,á⟩;rw[zl<|Ne.symm s,jt,h.hb];simp only[Xl,xj];obtain e|e:=h.ch.iS;grind;cases h.ch with
 |out hq2=>grind
 |_=>
  rename_i hG;first
   |(have:=Zi (λ_ _ x=>x.1) (λ_ x=>x) hG;grind)
   |(have:=Zi (λ_ _ x=>x.1) V7 hG;grind)
 rw[zl À,jt]at E;obtain⟨y,W,rfl⟩:=zv.1 E;have l:=h.oi i y N H W;rw[G l,cU t (g':=0) À _ lI];exact l;rw[cU t (g':=0) À _ lI];exact h.d8 j T
 ·have J:tJ S M<|kF a:=aF ⟨a,rfl,aF K⟩;refine h.tp.gk B.eF (aF rfl) lI (λO k x w hm=>?_) (λO k x w=>?_) (λO k e=>?_) BO;all_goals obtain⟨Z,F,rfl⟩:=zy k
  all_goals (rw[Array.mem_singleton]at F;subst F)
  simp only[ofEvent_cell0,bY,xj]at w;subst w;exact aF ⟨rfl,aE J,λ_=>aF rfl,λ⟨r1,e,_⟩ _=>rfl⟩;simp only[ofEvent_cell0,bY,xj]at w;subst w;exact I;cases e
 rw[lm,deafBehind_still λe F=>Â];exact h.mf;rw[cU t (g':=0) (Ne.symm s) _ lI];exact h.iV;obtain⟨rr,U,V⟩:=h.rel Q;refine⟨rr,U,V.gk λi N E _=>?_⟩;obtain⟨z,hz,Y⟩:=zv.1 E;grind [lI]
end
end
section
open Go.ConcN (sumTo)
open Go.ConcR (Payload)
variable [pn:Pn]
section
variable {P:bT} {X:Nat->Prop} {J:Nat×Nat->Array cA->cY->fG->Prop}
def YJ(c:AP P X J){g g' w es}(b:g.status=aZ)(r:g.dying=ar)
  (h:∀k gs v t,J k gs v t->bF P aw g v=gj g' v es)
  (l:∀k gs v t,J k gs v t->gs[0]?=ac g->J k (ay (gs.map<|woken P g g' v) 0 g') v (t++aS 0 g.frame.fn g.frame.place es))
  {k gs v sl t}(C:J k gs v t)(n:gs[0]?=ac g)(F:Sm P X (re w v.tape v.drawn) v):
  ∃N gs' v' sl' t' k',eT P N (fL gs v sl) t=(fS<|crowd gs' v' sl',t')/\J k' gs' v' t'/\gs'[0]?=ac g'/\Sm P X (re w v'.tape v'.drawn) v':=by
 induction k using AQ.induction generalizing gs v sl t with
 |_ k ih=>
  have q:∀g∈gs,awake g:=by intro m f;obtain⟨i,o,rfl⟩:=Xd.1 f;obtain rfl|a:=jh i;grind [mW];exact c.iS k gs v t C i _ a<|xy o
  obtain⟨i,m,d,sl',o,f,x⟩:=crowd_pick (P:=P) (w:=v) (sl:=sl) q ⟨0,g,n,b⟩;have e:=c.fZ k gs v t d C;have j:Sm P X (re w v.tape d)<|v.at d:=F.re _ d;obtain rfl|a:=jh i;obtain rfl:m=g:=Â
  have s:=oS (sl:=sl') o (show bF P _ m _=_ from h _ _ _ _ e);have G:0<ak gs:=(za.1 n).1;exact⟨1,_,v.at d,sl',_,k,ò,l _ _ _ _ e n,Â,j⟩;obtain⟨gs',v',z,y,k',I,K,r3,L,M⟩:=c.dE k gs (v.at d) t i m g sl' e a o f n b r;obtain⟨N,p,Q,B,O,H,D,E⟩:=ih k' K (t:=t++y) (sl:=z) L r3<|M w j;exact⟨1+N,p,Q,B,O,H,qr (by simp only[eT,x,I]) D,E⟩
end
section
variable [cZ] {P:bT} {ty:nt} {Wg C:Nat} {S:Nat->Prop} {D M c:Nat} {vals:List dL} {o:Nat->Obj} {X:Nat->Prop} {p rg r:Nat} {g g':cA} {w:cY}
def RC(P:Zp)(ty:Zt)(Wg C:Nat)(S:ZP)(D M c:Nat)(vals:Ze)(o:Nat->Obj)(X:ZP)(p rg r:Nat)(g:Zg)(w:Zy)(G:Zg->Zy->Nat->Prop):Prop:=
 ∀k gs v sl t,JC P ty Wg C S D M c vals o X p rg r k gs v t->gs[0]?=ac g->Sm P X (re w v.tape v.drawn) v->
  ∃N gs' v' sl' t' k' g' w' r',eT P N (fL gs v sl) t=(fS<|crowd gs' v' sl',t')/\JC P ty Wg C S D M c vals o X p rg r' k' gs' v' t'/\gs'[0]?=ac g'/\Sm P X (re w' v'.tape v'.drawn) v'/\G g' w' r'
theorem RC.refl{G}(h:G g w r):RC P ty Wg C S D M c vals o X p rg r g w G:=λk a v f t d b e=>⟨0,a,v,f,t,k,g,w,r,rfl,d,b,e,h⟩
theorem RC.aA{G G'}(h:RC P ty Wg C S D M c vals o X p rg r g w G)(k:∀g' w' r',G g' w' r'->RC P ty Wg C S D M c vals o X p rg r' g' w' G'):RC P ty Wg C S D M c vals o X p rg r g w G':=λF y v K t B z E=>by obtain⟨N,a,Q,d,L,H,U,w1,V,i,j,l,m,n⟩:=h F y v K t B z E;obtain⟨f,b,R,e,O,I,x,T,J,q,s⟩:=k _ _ _ n H a Q d L j l m;exact⟨N+f,b,R,e,O,I,x,T,J,qr i q,s⟩
theorem RC.eO(B:Zs X Wg C S D M){G}(a:g.status=aZ)(l:g.dying=ar)(R:∀v,bF P aw g v=gj g' v)(Q:RC P ty Wg C S D M c vals o X p rg r g' w G):RC P ty Wg C S D M c vals o X p rg r g w G:=λk K v sl t L j O=>by obtain⟨N,f,Z,n,W,T,y,z,E,F⟩:=YJ (sl:=sl) (Y0 B) a l (λ_ _ v _ _=>R v) (λk K v t⟨d,st,m,left,b,q,h,e⟩ j=>⟨d,st,m,left,b,q,WJ B h j (λ_ _=>rfl) Ä (zd _)<|aF rfl,e⟩) L j O;obtain⟨x,i,v2,s,Y,U,J,w2,V,H,I⟩:=Q T f Z n W z E F;exact⟨N+x,i,v2,s,Y,U,J,w2,V,qr y H,I⟩
def RC.ON(B:Zs X Wg C S D M){G}(f:g.status=aZ)(n:g.dying=ar){a}(R:S a.block)(U:∀v,Kc S M o v->bF P aw g v=gj g' v #[⟨kF a,ao,ao⟩])(T:RC P ty Wg C S D M c vals o X p rg r g' w G):RC P ty Wg C S D M c vals o X p rg r g w G:=λk L v sl t O l Q=>by obtain⟨N,i,v1,s,Z,V,z,E,F,H⟩:=YJ (sl:=sl) (Y0 B) f n (λ_ _ v _⟨d,st,m,left,b,q,h,e⟩=>U v h.kc) (λk L v t⟨d,st,m,left,b,q,h,e⟩ l=>⟨d,st,m,left,b,q,jci B h l R<|aF rfl,e⟩) O l Q;obtain⟨y,j,v2,x,t2,W,K,w2,Y,I,J⟩:=T V i v1 s Z E F H;exact⟨N+y,j,v2,x,t2,W,K,w2,Y,qr z I,J⟩
end
end
section
open Go.ConcR (Payload)
variable [pn:Pn]
section
variable {P:bT} {C:Nat} {z:dL} {b:fk} {a:jG} {k:List Item} {cs:List fk} {ops:Array fj} {i:Nat} {rest:List Nat} {op:fj} {t e:nt} {x:Operand} {dir:ChanDir}
def xry(ho:ops[i]?=ac op)(hw:bC op (eZ ops a.tmps)=aw)(hk:b.kind≠ dY)(hop:op.op= .recv t x aw)(hx:a.eval x=eL (ac C))(c:P.underlying t=ac (.chan dir e))(f:∀v,(zeroValue e).run P v=cT z v):
  yz P C z (G (b.at a (aM ops (i::rest)::k)) cs) (G (b.at a (aM ops (i::rest)::k)) cs):=by
 refine⟨rfl,rfl,λv=>?_⟩;have d:(aL a.eval op).run P v=cT (.comm #[rcase C z] aw<|.recv aw) v:=by unfold aL;simp only[hop,hx];simp[xo c,f,rcase]
 have g:(aL a.eval op).events P v #[]=#[]:=by unfold aL;simp only[hop,hx];simp[xo c,Va]
 rw[stepG_comm ho hw hk d];grind [jX,seen_none]
def yz.Ca{fr}(h:yz P C z (G fr cs)<|G fr cs):yz P C z (G fr cs) {Conc.parked (G fr cs) #[rcase C z] (.recv aw)with status:=aZ}:=
 ⟨rfl,rfl,λv=>h.st v⟩
end
section
variable [cZ] {P:bT} {ty:nt} {Wg C:Nat} {S:Nat->Prop} {D M c:Nat} {vals:List dL} {o:Nat->Obj} {X:Nat->Prop} {p rg r:Nat} {w:cY} {z:dL} {fr:fk} {cs:List fk}
def RC.vE(B:Zs X Wg C S D M){G'}(h:yz P C z (G fr cs)<|G fr cs)(F:RC P ty Wg C S D M c vals o X p rg (wT vals r) (lK (G fr cs)<|Ai vals z r) w G'):RC P ty Wg C S D M c vals o X p rg r (G fr cs) w G':=λk s v K t y x E=>by obtain⟨N,a,Q,d,L,H,g,i,j,l⟩:=(xpx B h.Ca k).1 s v K t _ h y x E;obtain⟨f,b,R,e,O,I,q,T,J,m,n⟩:=F H a Q d L i j l;exact⟨N+f,b,R,e,O,I,q,T,J,qr g m,n⟩
end
end
section
open Go.ConcN (sumTo)
open Go.ConcR (Payload)
variable [pn:Pn]
section
variable {P:bT} {X:Nat->Prop} {J:Nat×Nat->Array cA->cY->fG->Prop}
def OX(c:AP P X J){g g' w w'}(b:g.status=aZ)(h:g'.status=aZ)(y:g.dying=ar)
  (j:∀v,Sm P X (re w v.tape v.drawn) v->∃v' es,bF P aw g v=gj g' v' es/\Sm P X (re w' v'.tape v'.drawn) v'/\(∀x,X x->v'.heap[x]?=v.heap[x]?)/\(∀e∈es,sV X (ak v'.heap) e)/\ak v.heap<=ak v'.heap)
  {k gs v sl t}(G:J k gs v t)(o:gs[0]?=ac g)(L:Sm P X (re w v.tape v.drawn) v):
  ∃N gs' v' sl' t' k',eT P N (fL gs v sl) t=(fS<|crowd gs' v' sl',t')/\J k' gs' v' t'/\gs'[0]?=ac g'/\Sm P X (re w' v'.tape v'.drawn) v':=by
 induction k using AQ.induction generalizing gs v sl t with
 |_ k ih=>
  have s:∀g∈gs,awake g:=by intro l f;obtain⟨i,p,rfl⟩:=Xd.1 f;obtain rfl|a:=jh i;grind [mW];exact c.iS k gs v t G i _ a<|xy p
  obtain⟨i,l,d,sl',p,f,O⟩:=crowd_pick (P:=P) (w:=v) (sl:=sl) s ⟨0,g,o,b⟩;have m:=c.fZ k gs v t d G;have n:Sm P X (re w v.tape d)<|v.at d:=L.re _ d;obtain rfl|a:=jh i;obtain rfl:l=g:=Â
  obtain⟨v',es,H,r,hk,z,C⟩:=j (v.at d) n;have B:=oS (sl:=sl') p (show bF P _ l _=_ from H);have M:0<ak gs:=(za.1 o).1;exact⟨1,_,v',sl',_,k,ò,c.cO k gs _ t l g' v' es m o H b h hk z C,Â,r⟩;obtain⟨gs',v',E,D,k',W,R,r3,S,T⟩:=c.dE k gs (v.at d) t i l g sl' m a p f o b y;obtain⟨N,q,V,F,U,Q,I,K⟩:=ih k' R (t:=t++D) (sl:=E) S r3<|T w n;exact⟨1+N,q,V,F,U,Q,qr ò I,K⟩
end
section
variable [cZ] {P:bT} {F:Array jE} {ty:nt} {Wg C:Nat} {S:Nat->Prop} {D M c:Nat} {vals:List dL} {o:Nat->Obj} {X:Nat->Prop} {p rg r:Nat} {w w':cY} {b:fk} {a:jG} {k:List Item} {cs:List fk} {ops:Array fj} {i:Nat} {rest:List Nat} {op:fj}
def RC.ea(B:Zs X Wg C S D M)(K:Yk P F){G' val}(ho:ops[i]?=ac op)(hw:bC op (eZ ops a.tmps)=aw)(hk:b.kind≠ dY)(x:sW P op.op=aw)
  (y:∀t d,(aL a.eval op).run (wf P F) (re w t d)=cT (fA val) (re w' t d))(hn:RC P ty Wg C S D M c vals o X p rg r (G (b.at (a.put op.dst val) (aM ops rest::k)) cs) w' G'):
  RC P ty Wg C S D M c vals o X p rg r (G (b.at a (aM ops (i::rest)::k)) cs) w G':=λk0 gs v sl t Y V s=>by
 obtain⟨N,n,v1,z,t1,k1,H,L,O,Q⟩:=OX (w':=w') (sl:=sl) (Y0 B) (g':=G (b.at (a.put op.dst val) (aM ops rest::k)) cs) rfl rfl rfl (λv s=>by obtain⟨m,ba,g⟩:=(Cx (K.zA X) a.eval op x).lV (re w v.tape v.drawn) v #[] s (by rw[y];trivial) (λf H w1 h=>Â);obtain⟨I,W⟩:=g.oC;rw[y]at I;have l:=g.sm;rw[y]at l;have j:Sm P X (re w' v.tape v.drawn) m:=l;refine⟨m,jX P b.fn a op v,stepG_value ho hw hk I, ?_,g.iu,λe Z=>?_,g.gE⟩;have e1:m.tape=v.tape:=j.ms;have e2:m.drawn=v.drawn:=j.fZ;grind;have:=ij Z;rw[W]at this;exact g.qV e this) Y V s;obtain⟨J,q,v2,E,t2,k2,U,w2,r2,R,T⟩:=hn k1 n v1 z t1 L O Q;exact⟨N+J,q,v2,E,t2,k2,U,w2,r2,qr H R,T⟩
theorem RC.kZ(B:Zs X Wg C S D M)(K:Yk P F){G'}(ho:ops[i]?=ac op)(hw:bC op (eZ ops a.tmps)=aw)(hk:b.kind≠ dY)(x:sW P op.op=aw)
  (y:∀t d,(aL a.eval op).run (wf P F) (re w t d)=cT .skip (re w' t d))(hn:RC P ty Wg C S D M c vals o X p rg r (G (b.at (a.put op.dst aC) (aM ops rest::k)) cs) w' G'):
  RC P ty Wg C S D M c vals o X p rg r (G (b.at a (aM ops (i::rest)::k)) cs) w G':=λk0 gs v sl t Y V s=>by
 obtain⟨N,n,v1,z,t1,k1,H,L,O,Q⟩:=OX (w':=w') (sl:=sl) (Y0 B) (g':=G (b.at (a.put op.dst aC) (aM ops rest::k)) cs) rfl rfl rfl (λv s=>by obtain⟨m,ba,g⟩:=(Cx (K.zA X) a.eval op x).lV (re w v.tape v.drawn) v #[] s (by rw[y];trivial) (λf H w1 h=>Â);obtain⟨I,W⟩:=g.oC;rw[y]at I;have l:=g.sm;rw[y]at l;have j:Sm P X (re w' v.tape v.drawn) m:=l;refine⟨m,jX P b.fn a op v,stepG_none ho hw hk I, ?_,g.iu,λe Z=>?_,g.gE⟩;have e1:m.tape=v.tape:=j.ms;have e2:m.drawn=v.drawn:=j.fZ;grind;have:=ij Z;rw[W]at this;exact g.qV e this) Y V s;obtain⟨J,q,v2,E,t2,k2,U,w2,r2,R,T⟩:=hn k1 n v1 z t1 L O Q;exact⟨N+J,q,v2,E,t2,k2,U,w2,r2,qr H R,T⟩
end
end
section
open Go.ConcR (Payload)
variable [pn:Pn]
section
variable [cZ] {P:bT} {F:Array jE} {dm:fk} {ty:nt} {Wg C:Nat} {S:Nat->Prop} {D M c:Nat} {vals:List dL} {o:Nat->Obj} {X:Nat->Prop} {p rg r:Nat} {w:cY}
def RC.rA(B:Zs X Wg C S D M)(K:Yk P F)(j:mF P dm){End:Zg->Zy->Prop}(n:∀g w t d,End g (A.re w t d)↔End g w)(h:∀g w,End g w->¬ux P g)
  {fr cs}(m:Jy P fr\/∃f a,Vi P F f/\Mc P f/\fr=aT (wf P F) f a cJ)(i:∀x∈cs,lL P x)(hk:fr.kind=cJ)(b:∀t d,∃fr' cs' w',Steps (wf P F) (lone fr [dm]<|A.re w t d) (lone fr' cs' w')/\End (Xh fr' cs') w'):
  RC P ty Wg C S D M c vals o X p rg r (Xh fr cs) w (λg2 w' r'=>r'=r/\∃g' l,End g' w'/\g'.callers=l++[dm]/\g2={g' with callers:=l++cs}):=λk T v sl t G E H=>by
 obtain⟨N,e,R,q,Q,I,g',w',g2,J,L,r3,O,s⟩:=A.rA (sl:=sl) K j (Y0 B) n h m hk b i G E H;obtain⟨l,y,z,_⟩:=s.uV;exact⟨N,e,R,q,Q,I,g2,w',r,J,L,r3,s.sm,rfl,g',l,O,y,z⟩
def RC.rn(B:Zs X Wg C S D M)(K:Yk P F)(y:mF P dm){f args cs}{R:(Nat->Question->Nat)->Nat->kU->Zy->Prop}(I:Vi P F f)(s:∀x∈cs,lL P x)(G:∀t d w',¬R t d iE w')
  (h:∀t d,aG (wf P F) f args (A.re w t d)<|R t d):
  RC P ty Wg C S D M c vals o X p rg r (Xh (aT P f args cJ) cs) w (λg' w' r'=>r'=r/\∃e fr,(∃t d t1 d1,R t d e<|A.re w' t1 d1)/\g'=Xh fr cs/\fr.fn=f/\AR P F fr w' e):=by
 have H:aT (wf P F) f args cJ=aT P f args cJ:=DQ I.1 args _;have E:Jy P (aT P f args cJ)\/∃f' a,Vi P F f'/\Mc P f'/\aT P f args cJ=aT (wf P F) f' a cJ:=by by_cases L:Mc P f;grind;left;rw[<-H];exact Lj K.na I L args ⟨Ä,Ä⟩
 refine(RC.rA B K y
  (End:=λg' w'=>∃e fr t d t1 d1,R t d e (A.re w' t1 d1)/\e≠ iE/\g'=Xh fr [dm]/\fr.fn=f/\fr.leaving (wf P F) (A.re w' t1 d1) e) (λg' w' t d=>Iff.rfl) ?_ E s rfl ?_).aA ?_
 rintro g' w'⟨e,fr,t,d,t1,d1,_,g,rfl,_,k⟩ ⟨_,hd⟩;cases e with
 |outgrown=>grind
 |returned v=>
  obtain⟨a,b,_⟩:=k;obtain⟨i,_⟩|⟨_,i,_⟩:=hd;have j:fr.mode= .run:=i;grind;have j:fr.defers=[_]:=i;grind
 |panicked c=>obtain⟨a,b,_⟩:=k;obtain⟨i,_⟩|⟨_,i,_⟩:=hd;have j:fr.mode= .run:=i;grind;have j:fr.defers=[_]:=i;grind
 intro t d;obtain⟨e,w',fr,n,q,z,k⟩:=h t d [dm];rw[H]at q;have g:e≠ iE:=by rintro rfl;exact G _ _ _ n
 refine⟨fr,[dm],w', ?_,e,fr,t,d,w'.tape,w'.drawn,n,g,rfl,z,k⟩;cases e with
 |outgrown=>grind|returned v=>exact q
 |panicked c=>exact q
 rintro O w' r'⟨rfl,g',l,⟨e,fr,t,d,t1,d1,n,g,rfl,z,k⟩,m,rfl⟩;have:l=[]:=by have J:[dm]=l++[dm]:=m;have:=congrArg aa J;simp only[zx,Zr]at this;exact jv À
 subst this;exact .refl ⟨rfl,e,fr,⟨t,d,t1,d1,n⟩,rfl,z,g,t1,d1,k⟩
end
section
variable [cZ] {P:bT} {F:Array jE} {ty:nt} {Wg C:Nat} {S:Nat->Prop} {D M c:Nat} {vals:List dL} {o:Nat->Obj} {X:Nat->Prop} {p rg r:Nat} {w:cY} {fr c0:fk} {cs:List fk}
def RC.wi(B:Zs X Wg C S D M){G' val}(hp:Vi P F fr.fn)(h:AR P F fr w<|ah val)(hn:RC P ty Wg C S D M c vals o X p rg r (Xh (c0.finish val) cs) w G'):RC P ty Wg C S D M c vals o X p rg r (Xh fr (c0::cs)) w G':=λk0 gs v sl t Z W i=>by
 obtain⟨_,t0,d0,G,H,I,fn,J,K⟩:=h;have j:P.funcs[fr.fn]?=ac fn:=by rw[<-hp.1];exact J
 obtain⟨N,k,v1,x,t1,k1,L,O,Q,R⟩:=OX (w':=w) (sl:=sl) (Y0 B) (g:=Xh fr (c0::cs)) (g':=Xh (c0.finish val) cs) rfl rfl rfl (λv i=>by have q:Sm P X w w:=i.iC.re _ _;have n:=Ru q K v.tape v.drawn;obtain⟨f,s,a⟩:=(GJ (P:=P) (F:=F) (X:=X) fn fr.tmps).lV (re w v.tape v.drawn) v #[] i (by rw[n];trivial);obtain⟨z,Y⟩:=a.oC;rw[n]at z;have d:=a.sm;rw[n]at d;have b:Sm P X (re w v.tape v.drawn) f:=d;refine⟨f,seen P fr.fn s, ?_, ?_,a.iu,λe he=>a.qV e<|mem_seen he,a.gE⟩;have m:(dX fn fr.tmps).run P v=cT val f:=z;simp only[bF,Xh,cW,ft,G,H,I,j,ze,m,Y];rfl;have e1:f.tape=v.tape:=b.ms;have e2:f.drawn=v.drawn:=b.fZ;grind) Z W i;obtain⟨E,l,v2,y,t2,k2,V,w2,r2,T,U⟩:=hn k1 k v1 x t1 O Q R;exact⟨N+E,l,v2,y,t2,k2,V,w2,r2,qr L T,U⟩
theorem RC.gV(B:Zs X Wg C S D M){G' a}(h:AR P F fr w<|gU a)(f:∃fn,P.funcs[fr.fn]?=ac fn)(g:RC P ty Wg C S D M c vals o X p rg r (Xh (c0.raise a) cs) w G'):RC P ty Wg C S D M c vals o X p rg r (Xh fr (c0::cs)) w G':=by obtain⟨_,i,e,b,d,_⟩:=h;grind [RC.eO,bF,Xh,cW,Frame.catches]
end
end
section
open Go.RowKit Go.Conc.Lib
variable [pn:Pn] [py:cZ]
section
variable {a:jG}
noncomputable def LB:=Ql<|Qk<|Qb K5
noncomputable def yC(Lb D Bd Bs C Wg:Nat)(bs ls:Int)(cp:Nat)(y6 y29 y30 y31 y32 y33 y34:Zv):jG:=⟨#[zo Lb,zo D,aC,zo Bd,zo Bs,zo Wg,y6,zo Lb,zo Lb,zk Lb 12,zi ls,zo Lb,zo Lb,zk Lb 11,zi bs,zi cp,eL<|some C,bU #[],nV (.func 169) #[] #[zo Wg,zo Bs,zo Bd],zo Lb,zo Lb,zk Lb 11,zi bs,zi<|bs+1,zo Lb,zo Lb,zk Lb 12,zi ls,eL<|some C,y29,y30,y31,y32,y33,y34],[dcall 167 #[zo Wg]]⟩
section
variable {S:Nat->Prop} {o:Nat->Obj} {X:Nat->Prop} {D M Bd Bs C Wg c p r Lb cp:Nat} {es:Array dP} {vals:List dL} {w:cY} {bs ls:Int} {cs:List fk} {G':cA->cY->Nat->Prop}
def RC.lJ(B:Zs X Wg C S D M){b:Zf}{a k ops i rest op}(v)(ho:ops[i]?=ac op)(hw:bC op (eZ ops a.tmps)=aw)(hk:b.kind≠ dY)
  (e:∀w,(aL a.eval op).run au w=cT (fA v) w)(f:∀w,(aL a.eval op).events au w #[]=#[])
  (d:RC au 245 Wg C S D M c vals o X p 0 r (G (b.at (a.put op.dst v) (aM ops rest::k)) cs) w G'):RC au 245 Wg C S D M c vals o X p 0 r (G (b.at a (aM ops (i::rest)::k)) cs) w G':=
 RC.eO B rfl rfl (λv=>by rw[stepG_value ho hw hk<|e v];grind [jX,seen_none]) d
theorem xto(B:Zs X Wg C S D M)(K:Kn D M Bd Bs C es S o)
  (f:RC au 245 Wg C S D M c vals o X p 0 r (G ((is 106).at (yC Lb D Bd Bs C Wg bs ls cp aC aC aC aC aC aC aC) [cD LB,mS LB,.inBlock 0]) cs) w G'):
  RC au 245 Wg C S D M c vals o X p 0 r (G ((is 106).at (sM Lb D Bd Bs C Wg bs ls cp) [aM rP [],cD K5]) cs) w G':=by
 have d:K5=fO (eU 6 #[{dst:=ac 28,op:=Op.load 235<|Operand.tmp 4,type:=235,pos:= "look.go:84",after:=#[],guard:=ar}] ao) (.block 0<|.loop LB):=Á
 rw[d];refine RC.eO B rfl rfl (λ_=>aO) ?_;refine RC.eO B rfl rfl (λ_=>bX) ?_;(refine RC.eO B rfl rfl (λ_=>ec) ?_;simp only[jd,xg,qy,iJ,j7,gO,List.range.loop]);refine RC.ON B (g':=G ((is 106).at (yC Lb D Bd Bs C Wg bs ls cp aC aC aC aC aC aC aC) [aM #[{dst:=ac 28,op:=Op.load 235<|Operand.tmp 4,type:=235,pos:= "look.go:84",after:=#[],guard:=ar}] [],cD<|.block 0<|.loop LB]) cs) (a:=zq Bs 0) rfl rfl K.ss (λv hk=>?_) ?_
 ·have b:=K.sJ hk;have g:(aL (sM Lb D Bd Bs C Wg bs ls cp).eval {dst:=ac 28,op:=Op.load 235<|Operand.tmp 4,type:=235,pos:= "look.go:84",after:=#[],guard:=ar}).run au v=cT (fA<|eL<|some C) v:=by unfold aL;simp only[sM];simp[go_sem,b]
  have e:(aL (sM Lb D Bd Bs C Wg bs ls cp).eval {dst:=ac 28,op:=Op.load 235<|Operand.tmp 4,type:=235,pos:= "look.go:84",after:=#[],guard:=ar}).events au v #[]=#[⟨kF<|zq Bs 0,ao,ao⟩]:=by unfold aL;simp only[sM];simp[go_sem,b]
  rw[stepG_value rfl rfl Ã g];unfold jX;rw[e,seen_eq Á Ä];rfl
 refine RC.eO B rfl rfl (λ_=>aO) ?_;refine RC.eO B rfl rfl (λ_=>oR) ?_;refine RC.eO B rfl rfl (λ_=>stepG_loop) ?_;exact f
end
def OQ:Array fj:=#[{dst:=ac 29,op:=Op.recv 235 (bZ 28) aw,type:=0,pos:= "look.go:84",after:=#[],guard:=ar},{dst:=ac 30,op:=Op.extract (bZ 29) 1,type:=4,pos:= "look.go:84",after:=#[{on:=0,ground:=eM}],guard:=ar}]
def je5:fj:={dst:=ac 30,op:=Op.extract (bZ 29) 1,type:=4,pos:= "look.go:84",after:=#[{on:=0,ground:=eM}],guard:=ar}
def YA{op sv tt}(hop:op.op=Op.extract (bZ 29) 1)(h:a.eval (bZ 29)=bU #[sv,aX tt])(w):(aL a.eval op).run au w=cT (fA<|aX tt) w/\(aL a.eval op).events au w #[]=#[]:=by unfold aL;simp only[hop,h];exact⟨ã,ã⟩
noncomputable def JD:=Qk<|Qb<|Qb LB
def jal:LB=fO (eU 7 OQ ao) (fO (.cond (bZ 30) .skip<|.exit 0)<|.block 1 JD):=Á
abbrev YD:Zv:=bM #[zi 0,aj ⟨#[]⟩]
section
variable {S:Nat->Prop} {o:Nat->Obj} {X:Nat->Prop} {D M Bd Bs C Wg c p r Lb cp:Nat} {vals:List dL} {w:cY} {bs ls:Int} {cs:List fk} {G':cA->cY->Nat->Prop} {y6 y29 y30 y31 y32 y33 y34:dL}
def YQ(B:Zs X Wg C S D M){sv tt}(b:Ai vals YD r=bU #[sv,aX tt])
  (d:RC au 245 Wg C S D M c vals o X p 0 (wT vals r) (G ((is 106).at (yC Lb D Bd Bs C Wg bs ls cp y6 (bU #[sv,aX tt]) (aX tt) y31 y32 y33 y34) [cD<|.cond (bZ 30) .skip<|.exit 0,cD<|.block 1 JD,mS LB,.inBlock 0]) cs) w G'):
  RC au 245 Wg C S D M c vals o X p 0 r (G ((is 106).at (yC Lb D Bd Bs C Wg bs ls cp y6 y29 y30 y31 y32 y33 y34) [cD LB,mS LB,.inBlock 0]) cs) w G':=by
 have a:∀k,RC au 245 Wg C S D M c vals o X p 0 r (G ((is 106).at (yC Lb D Bd Bs C Wg bs ls cp y6 y29 y30 y31 y32 y33 y34) (cD (fO (eU 7 OQ ao)<|fO (.cond (bZ 30) .skip<|.exit 0)<|.block 1 JD)::k)) cs) w G'->RC au 245 Wg C S D M c vals o X p 0 r (G ((is 106).at (yC Lb D Bd Bs C Wg bs ls cp y6 y29 y30 y31 y32 y33 y34) (cD LB::k)) cs) w G':=λk h=>by rw[jal];exact h
 refine a _ ?_;refine RC.eO B rfl rfl (λ_=>bX) ?_;refine RC.eO B rfl rfl (λ_=>ec) ?_;rw[show gO (ak OQ)=[0,1]from rfl];refine RC.vE B (xry rfl rfl Ã rfl rfl Tryz.underlying235 Tryz.zeroValue248) ?_;rw[b,served_G];refine RC.lJ B (op:=je5) _ rfl rfl Ã (λw=>(YA rfl rfl w).1) (λw=>(YA rfl rfl w).2) ?_;refine RC.eO B rfl rfl (λ_=>aO) ?_;refine RC.eO B rfl rfl (λ_=>bX) ?_;exact d
def xox(B:Zs X Wg C S D M)(b:aa vals<=r)
  (a:RC au 245 Wg C S D M c vals o X p 0 r (G {(is 106).at (yC Lb D Bd Bs C Wg bs ls cp y6 (bU #[YD,aX ao]) (aX ao) y31 y32 y33 y34) []with mode:=dN} cs) w G'):
  RC au 245 Wg C S D M c vals o X p 0 r (G ((is 106).at (yC Lb D Bd Bs C Wg bs ls cp y6 y29 y30 y31 y32 y33 y34) [cD LB,mS LB,.inBlock 0]) cs) w G':=by
 refine YQ B (by unfold Ai;rw[if_neg À]) ?_;rw[show wT vals r=r by grind [wT]];refine RC.eO B rfl rfl (λ_=>stepG_cond rfl) ?_;refine RC.eO B rfl rfl (λ_=>stepG_exit rfl) ?_;exact RC.eO B rfl rfl (λ_=>stepG_end) a
end
def FK:fj:={dst:=ac 31,op:=Op.extract (bZ 29) 0,type:=248,pos:= "look.go:84",after:=#[],guard:=ar}
def JG:fj:={dst:=ac 6,op:=Op.alloc 248,type:=0,pos:= "look.go:84",after:=#[],guard:=ar}
def JH:fj:={dst:=ar,op:=Op.store 248 (bZ 6)<|Operand.tmp 31,type:=0,pos:= "look.go:84",after:=#[{on:=1,ground:=eM},{on:=0,ground:=eM},{on:=0,ground:=Ground.phase},{on:=1,ground:=Ground.phase}],guard:=ar}
def YB:Array fj:=#[FK,JG,JH]
def FM:fj:={dst:=ac 32,op:=Op.move<|Operand.tmp 0,type:=187,pos:= "look.go:85",after:=#[],guard:=ar}
def JI:fj:={dst:=ac 33,op:=Op.load 248<|Operand.tmp 6,type:=248,pos:= "look.go:85",after:=#[],guard:=ar}
def FN:fj:={dst:=ac 34,op:=Op.call {callee:=Callee.value<|Operand.func 172,args:=#[bZ 32,bZ 33],argTypes:=#[187,248]},type:=0,pos:= "look.go:85",after:=#[{on:=0,ground:=eM},{on:=1,ground:=eM}],guard:=ar}
def YC:Array fj:=#[FM,JI,FN]
def xwy:JD=fO (eU 8 YB ao) (eU 9 YC ao):=Á
abbrev sL(x:Int)(y:ByteArray):Obj:=aq #[zi x,aj y] 248
abbrev tL(x:Int)(y:ByteArray):Zv:=bM #[zi x,aj y]
section
variable {F:Array jE} {x:Int} {y:ByteArray}
def jee(w):(zeroValue 248).run (wf au F) w=cT (tL 0 ⟨#[]⟩) w:=Á
def OP(w):(sizeOf 248).run (wf au F) w=cT 2 w:=Á
def OO(w):(isAgg 248).run (wf au F) w=cT aw w:=Á
def jb6(w):(aL a.eval JG).run (wf au F) w=cT (fA<|zo (ak w.heap)) (aB w<|sL 0 ⟨#[]⟩):=by unfold aL;simp only[JG];simp[go_sem,jee,OP,OO]
def jb7{N}(c:a.eval (bZ 6)=zo N)(b:a.eval (bZ 31)=tL x y){w:Zy}(d:ak w.heap=N):(aL a.eval JH).run (wf au F) (aB w<|sL 0 ⟨#[]⟩)=cT .skip (aB w<|sL x y):=by subst d;unfold aL;simp only[JH,c,b];simp[go_sem,OP,OO]
def jb8{N}(b:a.eval (bZ 6)=zo N){w:Zy}(c:ak w.heap=N):(aL a.eval JI).run (wf au F) (aB w<|sL x y)=cT (fA<|tL x y) (aB w<|sL x y):=by subst c;unfold aL;simp only[JI,b];simp[go_sem,OP,OO]
def XZ{sv tt}(h:a.eval (bZ 29)=bU #[sv,aX tt])(w):(aL a.eval FK).run au w=cT (fA sv) w/\(aL a.eval FK).events au w #[]=#[]:=by unfold aL;simp only[FK,h];exact⟨ã,ã⟩
def YG{sv}(h:a.eval (bZ 0)=sv)(w):(aL a.eval FM).run au w=cT (fA sv) w/\(aL a.eval FM).events au w #[]=#[]:=by unfold aL;simp only[FM,h];exact⟨ã,ã⟩
def XY{u v}(h:a.eval (bZ 32)=u)(b:a.eval (bZ 33)=v)(w):(aL a.eval FN).run au w=cT (mo 172 #[u,v]) w/\(aL a.eval FN).events au w #[]=#[]:=by
 subst h b;refine⟨?_,events_call_body rfl Tryz.func172 Á Á #[]⟩;have h:=run_call_body (a:=a) (w:=w) (o:=FN) (args:=#[bZ 32,bZ 33]) (ats:=#[187,248]) rfl Tryz.func172 Á Á
 grind
def JF:Mc au 106:=⟨Tryz.f106,_,mP,rfl,È⟩
end
section
variable {F:Array jE} {dm:fk} {S:Nat->Prop} {o:Nat->Obj} {X:Nat->Prop} {D M Bd Bs C Wg c p Lb cp:Nat} {vals:List dL} {bs ls:Int} {cs:List fk} {G':cA->cY->Nat->Prop}
theorem xow(B:Zs X Wg C S D M)(K:Yk au F)(g:mF au dm)(i:Vi au F 172)(E:∀x∈cs,lL au x){I:Nat->Zy->Prop}{J:List PanicEntry->Zy->Prop}(j:∀r w t d,I r (A.re w t d)->I r w)(k:∀ch w t d,J ch (A.re w t d)->J ch w)
  (T:∀r,r<aa vals->∃x y,vals[r]?=ac (tL x y)/\∀w,I r w->∀t d,aG (wf au F) 172 #[zo Lb,tL x y] (A.re (aB w<|sL x y) t d) λe w'=>match e with| ah _=>I (r+1) w'| gU ch=>J ch w'| iE=>False)
  (O:∀a w',I (aa vals) w'->a.defers=[dcall 167 #[zo Wg]]->RC au 245 Wg C S D M c vals o X p 0 (aa vals) (G {(is 106).at a []with mode:=dN} cs) w' G')
  (L:∀r a todo ch w',J ch w'->a.defers=[dcall 167 #[zo Wg]]->RC au 245 Wg C S D M c vals o X p 0 r (G {(is 106).at a todo with mode:=eW ch} cs) w' G'):
  ∀n r w,r+n=aa vals->I r w->∀y6 y29 y30 y31 y32 y33 y34,RC au 245 Wg C S D M c vals o X p 0 r (G ((is 106).at (yC Lb D Bd Bs C Wg bs ls cp y6 y29 y30 y31 y32 y33 y34) [cD LB,mS LB,.inBlock 0]) cs) w G':=by
 intro n;induction n with
 |zero=>
  intro r w Q b y6 y29 y30 y31 y32 y33 y34;obtain rfl:r=aa vals:=À
  exact xox B (zd _)<|O _ _ b rfl
 |succ n ih=>
  intro r w Q b y6 y29 y30 y31 y32 y33 y34;obtain⟨x,y,U,s⟩:=T r À;refine YQ B (sv:=tL x y) (tt:=aw) (by grind [Ai]) ?_;rw[show wT vals r=r+1 by grind [wT]];refine RC.eO B rfl rfl (λ_=>stepG_cond (t:=aw) rfl) ?_;refine RC.eO B rfl rfl (λ_=>nJ) ?_;refine RC.eO B rfl rfl (λ_=>oR) ?_;rw[xwy];refine RC.eO B rfl rfl (λ_=>bX) ?_;refine RC.eO B rfl rfl (λ_=>ec) ?_;rw[show gO (ak YB)=[0,1,2]from rfl];refine RC.lJ B (op:=FK) (tL x y) rfl rfl Ã (λw=>(XZ rfl w).1) (λw=>(XZ rfl w).2) ?_;refine RC.ea (F:=F) (w':=aB w<|sL 0 ⟨#[]⟩) B K (op:=JG) (val:=zo (ak w.heap)) rfl rfl Ã È (λt d=>jb6 _) ?_;refine RC.kZ (F:=F) (w':=aB w<|sL x y) B K (op:=JH) rfl rfl Ã È (λt d=>jb7 (w:=A.re w t d) (N:=ak w.heap) rfl rfl rfl) ?_;refine RC.eO B rfl rfl (λ_=>aO) ?_;refine RC.eO B rfl rfl (λ_=>ec) ?_;rw[show gO (ak YC)=[0,1,2]from rfl];refine RC.lJ B (op:=FM) (zo Lb) rfl rfl Ã (λw=>(YG rfl w).1) (λw=>(YG rfl w).2) ?_;refine RC.ea (F:=F) (w':=aB w<|sL x y) B K (op:=JI) (val:=tL x y) rfl rfl Ã È (λt d=>jb8 (w:=A.re w t d) (N:=ak w.heap) rfl rfl) ?_;refine RC.eO B rfl rfl (λv=>by rw[stepG_enter (o:=FN) (f:=172) (args:=#[zo Lb,tL x y]) rfl rfl Ã (XY rfl rfl v).1];unfold jX;rw[(XY rfl rfl v).2,seen_none]) ?_;refine(RC.rn (dm:=dm) (R:=λt d e w'=>match e with| ah _=>I (r+1) w'| gU ch=>J ch w'| iE=>False) B K g i ?_ (λ_ _ _ h=>h)<|s w b).aA ?_;intro z q;obtain rfl|q:=jc.1 q;exact aF JF;grind;rintro Y w' Z⟨rfl,e,W,⟨t,d,t1,V,l⟩,rfl,H,m⟩;cases e with
  |outgrown=>grind|returned val=>refine RC.wi (F:=F) B Â m ?_;rw[zcb];refine RC.eO B rfl rfl (λ_=>aO) ?_;refine RC.eO B rfl rfl (λ_=>stepG_inBlock) ?_;refine RC.eO B rfl rfl (λ_=>stepG_inLoop) ?_;exact ih (r+1) w' À (j _ _ _ _ l) _ _ _ _ _ _ _
  |panicked ch=>refine RC.gV (F:=F) B m ⟨_,by rw[H];exact Tryz.func172⟩ ?_;rw[Frame.raise_at];exact L _ _ _ _ _ (k _ _ _ _ l) rfl
end
end
end
section
open Go.RowKit Go.Conc.Lib
open Go.ConcN (sumTo WgLive)
open Go.ConcR.Gen (body_wait)
variable [pn:Pn] [py:cZ]
section
variable {J:List PanicEntry→Zy→Prop} {I:Nat→Zy→Prop}
def xex{P}{b:Zf}{a todo cs w f fn args c}(hd:a.defers=[dcall f args])(g:P.funcs[f]?=ac fn)(d:(fn.name== "runtime.NumGoroutine")=ao)(e:fn.body=ac c){m}(i:m=dN\/∃ch,m=eW ch):
  bF P aw (G {b.at a todo with mode:=m} cs) w=
   gj (G ((baseD f).at {tmps:=args++bV (fn.ntmps-ak args) aC,defers:=[]} [cD c]) ({b.at ⟨a.tmps,[]⟩ todo with mode:=m}::cs)) w #[]:=by
 have h:¬fn.name= "runtime.NumGoroutine":=by simpa using d
 rw[<-enter_atD args g e];obtain rfl|⟨ch,rfl⟩:=i;simp[G,bF,cW,dV,Frame.at,hd,dcall,ol,nE,g,h,e,aY,seen_none];simp[G,bF,cW,dV,Frame.at,hd,dcall,ol,nE,g,h,e,aY,seen_none]
def xk8:(Go.Proofs.Tryz.f167.name== "runtime.NumGoroutine")=ao:=Á
def xe0:Go.Proofs.Tryz.f167.ntmps=84:=Ä
def xk7:Go.Proofs.Tryz.f167.body=ac (body_wait Dv):=Á
def SL.yA{Lb bs ls w v}(h:SL Lb bs ls w)(e:v.heap[Lb]?=w.heap[Lb]?):SL Lb bs ls v:=by have:=h.bE;have:=h.aP;exact⟨ģ,ģ⟩
def YN{P X w v}(d:Sm P X w v){r cs}{e:Zt}{i}(h:w.heap[r]?=ac (aq cs e i))(f:cs≠#[]):¬X r:=by intro g;obtain⟨o,k,b,_,a⟩:=d.iz r g;rw[h]at b;cases b;obtain⟨a,_⟩|⟨c,j,a,_⟩:=a;simp[oP]at a;grind
def zz7{P X w v}(d:Sm P X w v){r es k}(h:w.heap[r]?=ac (.map es k)):¬X r:=by intro e;obtain⟨o,g,b,_,a⟩:=d.iz r e;rw[h]at b;cases b;obtain⟨a,_⟩|⟨c,f,a,_⟩:=a;simp[oP]at a;grind
theorem mi{w:Zy}{a v}(h:ae w a=ac v):∃cs e i,w.heap[a.block]?=ac (aq cs e i)/\cs≠#[]:=ģ
def np(w1:Zy)(D M:Nat)(oD oM:Obj):Zy:={w1 with heap:=ay (ay w1.heap D oD) M oM}
section
variable {F:Array jE} {dm:fk} {w:cY} {Lb D M clock:Nat} {es:Array dP} {rm nx:dL} {bs ls:Int} {cp:Nat} {c0:fk} {cs:List fk}
def xs4{v c d}(f:c=7\/c=8)(i:v.heap[D]?=ac (aq #[rm,eK<|some M,nx] py.ety))(j:v.heap[M]?=ac (.map es clock))(g:∀e∈ej es,kr e):Kn D M (ak v.heap) (mN (ak v.heap) c) (lR (ak v.heap) c) es (Sx (ak v.heap) D c)<|ox<|(jL v D cp c).at d:=by
 have a:D<ak v.heap:=(za.1 i).1;have b:M<ak v.heap:=(za.1 j).1;obtain⟨n1,n,k,p⟩:=OV v D cp f d;have l:=(vM v D cp f a d).trans i;have m:=(vM v D cp f b d).trans j;have ox_of:∀{r:Nat} {o:Obj},((jL v D cp c).at d).heap[r]?=ac o->ox ((jL v D cp c).at d) r=o:=λ{r o} h=>by unfold ox;grind
 exact⟨aF rfl,aE<|aF rfl,aE<|aE rfl,⟨rm,nx,ox_of l⟩,ox_of n1,ox_of k,⟨clock,ox_of m⟩,g⟩
def xrx(x y):(#[x,y]++bV (35-#[x,y].size) aC:Za)=#[x,y,aC,aC,aC,aC,aC,aC,aC,aC,aC,aC,aC,aC,aC,aC,aC,aC,aC,aC,aC,aC,aC,aC,aC,aC,aC,aC,aC,aC,aC,aC,aC,aC,aC]:=Ä
def xnp(x y):aT au 106 #[x,y] cJ=(is 106).at ⟨#[x,y,aC,aC,aC,aC,aC,aC,aC,aC,aC,aC,aC,aC,aC,aC,aC,aC,aC,aC,aC,aC,aC,aC,aC,aC,aC,aC,aC,aC,aC,aC,aC,aC,aC],[]⟩ [cD wV]:=by rw[enter_at (c:=wV) _ mP Á,Tryz.ntmps106,xrx]
end
section
variable {F:Array jE} {dm:fk} {w:cY} {Lb D M clock:Nat} {es:Array dP} {rm nx:dL} {bs ls:Int} {cp:Nat} {c0:fk} {cs:List fk}
def XQ(c0:Zf)(cs:List Zf)(I:Zy->Prop)(J:List PanicEntry->Zy->Prop)(g:Zg)(w:Zy):Prop:=
 ∃a todo,a.defers=[]/\((I w/\g=G {(is 106).at a todo with mode:=dN} (c0::cs))\/∃ch,J ch w/\g=G {(is 106).at a todo with mode:=eW ch} (c0::cs))
def jeh(Wg:Nat)(c0:Zf)(cs:List Zf)(I:Zy->Prop)(J:List PanicEntry->Zy->Prop)(g:Zg)(w:Zy)(_r:Nat):Prop:=
 ∃c:Zf,g=G ((baseD 167).at ⟨#[zo Wg]++bV 83 aC,[]⟩ [cD<|body_wait Dv]) (c::c0::cs)/\XQ c0 cs I J (G {c with mode:=settle c.mode} (c0::cs)) w
def xj1{I J w1 w' g}(h:XQ c0 cs I J g w1):RX au g w' λg' w2=>w2=w'/\((I w1/\g'=Xh (c0.finish<|bU #[]) cs)\/∃ch,J ch w1/\g'=Xh (c0.raise ch) cs):=by
 obtain⟨a,d,hd,h⟩:=h;have c:Tryz.f106.results=#[]:=Á
 obtain⟨f,rfl⟩|⟨ch,i,rfl⟩:=h;refine(RX.qv (es:=#[]) (g':=Xh (c0.finish<|bU #[]) cs) (λv=>?_) (λb=>⟨?_,λx e=>b.2 x<|by grind [G,Xh]⟩) rfl rfl Ä).W ?_;exact stepG_leave rfl hd mP (results_none c _ _ _)<|events_results_none c _ _;exact(b.2 c0<|by simp[G]).iD _;grind;refine(RX.qv (es:=#[]) (g':=Xh (c0.raise ch) cs) (λv=>?_) (λb=>⟨(b.2 c0<|by simp[G]).gV _,λx e=>b.2 x<|by grind [G,Xh]⟩) rfl rfl Ä).W ?_;grind [is,bF,G,Xh,cW,Frame.catches,Frame.at,mP];grind
def YP{Wg a todo m}(b:m=dN\/∃ch,m=eW ch)(hd:a.defers=[dcall 167 #[zo Wg]]){fs}(v):
  bF au aw (G {(is 106).at a todo with mode:=m} fs) v=gj (G ((baseD 167).at ⟨#[zo Wg]++bV 83 aC,[]⟩ [cD<|body_wait Dv]) ({(is 106).at ⟨a.tmps,[]⟩ todo with mode:=m}::fs)) v:=by
 rw[xex hd Tryz.func167 xk8 xk7 b,xe0];rfl
abbrev tM(v:Zy)(D M:Nat):Pn:=⟨⟨Pn.N,λr=>if r=D\/r=M then v.heap[r]?else Pn.V r⟩⟩
def Sm.An{p1 p2:Pn}{P:Zp}{X:ZP}{w v:Zy}(h:Sm (pn:=p1) P X w v)(j:@Pn.N p2= @Pn.N p1)(k:∀r,X r-> @Pn.V p2 r= @Pn.V p1 r):Sm (pn:=p2) P X w v:=by obtain⟨a,b,c,d,e,f,g,i,n,o⟩:=h;exact @Sm.mk p2 P X w v a b c d e f g i ⟨À,λr m l=>Â⟩
def xd9(K:∀p:Pn,Yk (pn:=p) au F)(bl:mF au dm)(bq:Vi au F 172)(Q:SL Lb bs ls w)(hD:w.heap[D]?=ac (aq #[rm,eK<|some M,nx] py.ety))(hM:w.heap[M]?=ac (.map es clock))(W:∀e∈ej es,kr e)
  (bw:IntKind.i64.wrap (ls-bs)=(cp:Int))(bk:cp<=1000000000)(bv:IntKind.i64.wrap (bs+1)=bs+1)(bu:ls<9223372036854775807)(bn:-9223372036854775808<=bs+1)(hn:bs+1+(cp:Int)=ls+1)
(br:∀r w t d,I r (A.re w t d)->I r w)(bt:∀ch w t d,J ch (A.re w t d)->J ch w)(cb:∀ch w,J ch w->settle (eW ch)=eW ch)
  (bh:∀c,c=7\/c=8->I 0 (wF w D M c))
  (hv:∀r,r<aa (lc es (bs+1) cp)->∃x y,(lc es (bs+1) cp)[r]?=ac (tL x y)/\∀w,I r w->∀t d,aG (wf au F) 172 #[zo Lb,tL x y] (A.re (aB w<|sL x y) t d) λe w'=>match e with| ah _=>I (r+1) w'| gU ch=>J ch w'| iE=>False):
  RX au (Xh (aT au 106 #[zo Lb,zo D] cJ) (c0::cs)) w
   (λg' w'=>∃w1,w'=np w1 D M (aq #[rm,eK<|some M,nx] py.ety) (.map es clock)/\((I cp w1/\g'=Xh (c0.finish<|bU #[]) cs)\/∃ch,J ch w1/\g'=Xh (c0.raise ch) cs)):=by
 rintro X m t⟨⟨gs,v,sl,k,rfl,h0,hJ,f⟩,bp,b6,ca⟩;have S:∀x∈c0::cs,lL au x:=bp.2;have Y:¬X D:=YN f hD Ä;have Z:¬X M:=zz7 f hM;obtain⟨cl,b7,b8,bi,bo⟩:=mi Q.bE;have nL:¬X Lb:=YN f bi bo;have C:=(f.out D Y).trans hD;have z:=(f.out M Z).trans hM;have vS:SL Lb bs ls v:=Q.yA<|f.out Lb nL;have V:ak v.heap=ak w.heap:=f.J;have n:∀x,X x->x<ak v.heap:=λx l=>by rw[V];exact f.sU x l
 have cc:=j6 es cp<|bs+1;have H:D<ak v.heap:=(za.1 C).1;have O:M<ak v.heap:=(za.1 z).1;have b9:D≠M:=by rintro rfl;rw[C]at z;cases z
 have bg:gs[0]?=ac (G ((is 106).at ⟨#[zo Lb,zo D,aC,aC,aC,aC,aC,aC,aC,aC,aC,aC,aC,aC,aC,aC,aC,aC,aC,aC,aC,aC,aC,aC,aC,aC,aC,aC,aC,aC,aC,aC,aC,aC,aC],[]⟩ [cD wV]) (c0::cs)):=by rw[h0,xnp];rfl
 obtain⟨N1,be,i,b2,t1,q1,c,x,y,s,r1,g1,z1,L1,P1,l,hy⟩:=xyd (sl:=sl) hJ bg nL vS n bw bk bv;have T:0<ak gs:=(za.1 h0).1;obtain⟨k1,J1⟩:=xs3 (cp:=cp) (d:=i) s T z1 L1 P1 l hy n C z Y Z W bu bn hn;have S0:Sm (pn:=tM v D M) au X (re w v.tape v.drawn) v:=f.An rfl λr U=>if_neg λh=>h.elim (λe=>Y<|e▸U) λe=>Z<|e▸U;have S1:Sm (pn:=tM v D M) au (Xx X (ak v.heap) D M) (re (wF w D M c) ((jL v D cp c).at i).tape ((jL v D cp c).at i).drawn)<|(jL v D cp c).at i:=by
  have h1:=xu8 (pn:=tM v D M) (cp:=cp) (d:=i) S0 s C z Y Z (if_pos<|aF rfl)<|if_pos<|aE rfl;have e1:((jL v D cp c).at i).tape=v.tape:=by obtain rfl|rfl:=s<;>rfl
  have e2:((jL v D cp c).at i).drawn=i:=rfl;rw[e1,e2];exact h1
 have B:=zzk (pn:=tM v D M) (X:=X) (c:=c) H O (by rw[V];exact f.pf.1);have Kk:=xs4 (cp:=cp) (d:=i) s C z W;have bd:(be.push<|born au<|uM (ak v.heap) (mN (ak v.heap) c) (ak v.heap+3) (bs+1) ls)[0]?=ac (G ((is 106).at (sM Lb D (ak v.heap) (mN (ak v.heap) c) (lR (ak v.heap) c) (ak v.heap+3) bs ls cp) [aM rP [],cD K5]) (c0::cs)):=by rw[jb,if_neg À];exact g1
 have bj:=xto (pn:=tM v D M) (c:=ak gs) (p:=ak t1) (r:=0) (cs:=c0::cs) (Lb:=Lb) (bs:=bs) (ls:=ls) (cp:=cp)
  (G':=jeh (ak v.heap+3) c0 cs (I cp) J) B Kk (xow (pn:=tM v D M) (dm:=dm) B (K _) bl bq S br bt hv
   (λa w' hI hd=>RC.eO (pn:=tM v D M) B rfl rfl (YP (aF rfl) hd)<|RC.refl (pn:=tM v D M) ⟨_,rfl,⟨a.tmps,[]⟩,[],rfl,aF ⟨Â,rfl⟩⟩)
   (λr a o ch w' hJ hd=>RC.eO (pn:=tM v D M) B rfl rfl (YP (aE ⟨ch,rfl⟩) hd) (RC.refl (pn:=tM v D M) ⟨_,rfl,⟨a.tmps,[]⟩,o,rfl,aE ⟨ch,hJ,Â⟩⟩))
   cp 0 _ À (bh c s) _ _ _ _ _ _ _)
 obtain⟨N2,bf,v2,b5,t2,k2,g2,w2,r2,e2,J2,a2,S2,j,rfl,L⟩:=bj k1 _ _ b2 _ J1 bd S1;obtain⟨d,st,mm,left,b,q,J2,-⟩:=J2;have hG:=xk9 (Out:=λg=>g=G _ (c0::cs)) (c:=j) I7 rfl v2 ⟨_,_,J2.wg⟩;have hW:=xqy (pn:=tM v D M) B _ bf v2 b5 t2
  ⟨9,3,1,0,d,st,mm,left,b,q,_,J2,Â,aF rfl,.kd hG,λh=>À,rfl⟩ S2
 obtain⟨N3,E,v3,ba,t3,d3,m3,bx,b3,q3,g3,e3,J3,a3,rfl,bm,S3⟩:=hW;obtain⟨k3,bb⟩:=xbt (pn:=tM v D M) B (X':=λx=>(Xx X (ak v.heap) D M x/\x≠D)/\x≠M) (λx l hs=>⟨⟨l,λe=>hs<|aF<|e▸ aF rfl⟩,λe=>hs<|aE e⟩) J3 bm ⟨_,a3⟩;have b0:ox ((jL v D cp c).at i) D=aq #[rm,eK<|some M,nx] py.ety:=by unfold ox;rw[vM v D cp s H i,C];rfl
 have b1:ox ((jL v D cp c).at i) M= .map es clock:=by unfold ox;rw[vM v D cp s O i,z];rfl
 have kD:v3.heap[D]?=ac (aq #[rm,eK<|some M,nx] py.ety):=(J3.kc D<|aF<|aF rfl).trans (by rw[b0]);have kM:v3.heap[M]?=ac (.map es clock):=(J3.kc M<|aE rfl).trans (by rw[b1]);have bz:iR au<|some<|.map es clock:=by have:=f.pz M;rw[show(re w v.tape v.drawn).heap[M]?=ac (.map es clock)from hM]at this;exact this
 have bc:=Sm.FB (pn:=tM v D M) (Sm.FB (pn:=tM v D M) S3 kD iR.G) kM bz;have S4:=Sm.An (p2:=pn) bc rfl λr U=>(if_neg λh=>h.elim (λe=>U.1.2 e) λe=>U.2 e).symm;have R:xO au (λx=>(Xx X (ak v.heap) D M x/\x≠D)/\x≠M) (G {j with mode:=settle j.mode} (c0::cs)) (np w2 D M (aq #[rm,eK<|some M,nx] py.ety)<|.map es clock) (fL E v3 ba) t3:=by refine⟨⟨E,v3,ba,k3,rfl,a3,bb,S4⟩,⟨aF ?_,S⟩,rfl,rfl⟩;obtain⟨a,o,_,⟨_,e⟩|⟨ch,_,e⟩⟩:=L<;>(rw[show j.fn=106 by have:=congrArg (λg=>g.frame.fn) e;exact this];exact JF)
 obtain⟨N4,m4,t4,X4,g4,w4,e4,x4,b4,rfl,h4⟩:=xj1 (w':=np w2 D M (aq #[rm,eK<|some M,nx] py.ety)<|.map es clock) L _ _ _ R;refine⟨N1+(N2+(N3+N4)),m4,t4,X4,g4,_,qr r1<|qr e2<|qr e3 e4,λx l=>x4 x ⟨⟨aF l,λe=>Y<|e▸l⟩,λe=>Z<|e▸l⟩,b4,w2,rfl,h4⟩
end
section
variable {F:Array jE} {dm:fk} {w:cY} {Lb D M clock:Nat} {es:Array dP} {rm nx:dL} {bs ls:Int} {cp:Nat} {c0:fk} {cs:List fk}
def sK(K:∀p:Pn,Yk (pn:=p) au F)(g:mF au dm)(k:Vi au F 172)(b:SL Lb bs ls w)(z:w.heap[D]?=ac (aq #[rm,eK<|some M,nx] py.ety))(E:w.heap[M]?=ac (.map es clock))(s:∀e∈ej es,kr e)
  (q:IntKind.i64.wrap (ls-bs)=(cp:Int))(f:cp<=1000000000)(o:IntKind.i64.wrap (bs+1)=bs+1)(n:ls<9223372036854775807)(j:-9223372036854775808<=bs+1)(G:bs+1+(cp:Int)=ls+1)
(l:∀r w t d,I r (A.re w t d)->I r w)(m:∀ch w t d,J ch (A.re w t d)->J ch w)(i:∀ch w,J ch w->settle (eW ch)=eW ch)
  (a:∀c,c=7\/c=8->I 0 (wF w D M c))
  (H:∀r,r<aa (lc es (bs+1) cp)->∃x y,(lc es (bs+1) cp)[r]?=ac (tL x y)/\∀w,I r w->∀t d,aG (wf au F) 172 #[zo Lb,tL x y] (A.re (aB w<|sL x y) t d) λe w'=>match e with| ah _=>I (r+1) w'| gU ch=>J ch w'| iE=>False):
  CC au 106 #[zo Lb,zo D] w
   (λe w'=>∃w1,w'=np w1 D M (aq #[rm,eK<|some M,nx] py.ety) (.map es clock)/\((e=ah (bU #[])/\I cp w1)\/∃ch,e=gU ch/\J ch w1)):=λL O=>by
 refine(xd9 K g k b z E s q f o n j G l m i a H).W ?_;rintro Q w'⟨w1,v,⟨B,h⟩|⟨ch,C,h⟩⟩;exact⟨ah _,⟨w1,v,aF ⟨rfl,B⟩⟩,h⟩;exact⟨gU ch,⟨w1,v,aE ⟨ch,rfl,C⟩⟩,h⟩
end
end
end
section
variable [pn:Pn]
section
variable {P:bT} {F:Array jE} {X:Nat->Prop}
theorem YO{p fr cs a b u}(h:a.runT p u #[]=b.runT p u #[]):aJ p aw fr cs ar a u=aJ p aw fr cs ar b u:=by unfold aJ;simp only[if_true,h]
def OT{I fr fr' w}(h:∀p cs u,bF p aw (Xh fr cs) u=gj (Xh fr' cs) u #[])(hk:fr'.kind=fr.kind)(c:I fr' w\/Jy P fr'):zB P F X I fr w:=by refine aE<|aE ⟨fr',w,c,hk,λcs=>?_,⟨#[],λcs=>h _ _ _⟩,λv b=>⟨v,#[],λcs=>h _ _ _,.uT b⟩⟩;intro d f a e hd;simp_all
def OS{I:Zf->Zy->Prop}{fr:Zf}{ops:Array fj}{i:Nat}{rest:List Nat}{k:List Item}{o:fj}{s:Sem Next}{w:Zy}(H:Sm P X w w)(ht:fr.todo=aM ops (i::rest)::k)(hm:fr.mode= .run)(ho:ops[i]?=ac o)
  (hg:bC o (eZ ops fr.tmps)=aw)(hr:fr.roundOf=ar)(S:fr.kind≠ dY)(N:BN P F X s)
  (h1:∀t d,(aL fr.eval o).runT (wf P F) (re w t d) #[]=s.runT (wf P F) (re w t d) #[])(h2:∀v,Sm P X w v->(aL fr.eval o).runT P v #[]=s.runT P v #[])
  (Y:∀n x,s.run (wf P F) w=cT n x->∃a,(n=fA a\/n= .skip/\a=aC)/\(I (fr.finish a) x\/Jy P (fr.finish a)))
  (hp:∀y x,s.run (wf P F) w=eI (.panic y) x->I (fr.raise [{v:=y,recovered:=ao}]) x):zB P F X I fr w:=by
 have j:(fr.kind==dY)=ao:=Þ
 have ba:∀p c u,bF p aw (Xh fr c) u=aJ p aw fr c ar (aL fr.eval o) u:=λp c u=>by simp only[bF,Xh,hm,aD,ht,ho,Xl,qt,hg,if_true,stepG.oper,Frame.oper?,hr]
 have T:∀c t d,bF (wf P F) aw (Xh fr c) (re w t d)=aJ (wf P F) aw fr c ar s (re w t d):=λc t d=>by grind [YO]
 have l:∀c,bF (wf P F) aw (Xh fr c) w=aJ (wf P F) aw fr c ar s w:=λc=>T c _ _;have L:∀c v,Sm P X w v->bF P aw (Xh fr c) v=aJ P aw fr c ar s v:=λc v E=>by grind [YO]
 have hn:∀n x,s.run (wf P F) w=cT n x->Nx n:=λn x e=>by obtain⟨a,h|⟨h,_⟩,_⟩:=Y n x e<;>rw[h]<;>trivial
 have z:∀c,Cs w<|stepG (wf P F) aw<|Xh fr c:=λc W r G e hd=>by have V:bF (wf P F) aw (Xh fr c) w=gj W r G:=e;rw[l]at V;obtain⟨l1,l2,l3⟩:=QI N H S hn W r G V hd;grind
 have B:=N.iO w H;cases hq:s.run (wf P F) w with
 |ok n x=>
  obtain⟨a,K,Z⟩:=Y n x hq;have Q:oY<|s.run (wf P F) w:=ñ
  have O:∀f b r,s.run (wf P F) w=cT (mo f b) r->¬sT F f:=λf b r e=>Â
  refine aE<|aE ⟨fr.finish a,x,Z,Wm fr a,z, ?_,λv E=>?_⟩;obtain rfl|⟨rfl,rfl⟩:=K;exact⟨_,λc=>ô⟩;exact⟨_,λc=>ô⟩;obtain⟨U,C,J⟩:=N.lV w v #[] E Q O;obtain⟨D,M⟩:=J.oC;rw[hq]at D;have q:=J.af;rw[hq]at q;refine⟨U,seen P fr.fn C,λc=>?_,q.DJ λe R=>mem_seen R⟩;rw[L c v E];obtain rfl|⟨rfl,rfl⟩:=K;simp only[aJ,ze,if_true,D,M,j,ge,aY,ja,if_false];simp[Xh];simp only[aJ,ze,if_true,D,M,j,ge,aY,ja,if_false];simp[Xh]
 |halt h x=>
  have ended:(∀c,∃oo r es,aJ (wf P F) aw fr c ar s w=gq oo r es)->zB P F X I fr w:=λh=>aF λc=>Ë
  rw[hq]at B;cases h with
  |panic y=>
   have Q:oY<|s.run (wf P F) w:=ñ
   have O:∀f b r,s.run (wf P F) w=cT (mo f b) r->¬sT F f:=λf b r e=>Â
   refine aE<|aE ⟨fr.raise [{v:=y,recovered:=ao}],x,aF<|hp y x hq,Eb _ _,z, ?_,λv E=>?_⟩;exact⟨_,λc=>ô⟩;obtain⟨U,C,J⟩:=N.lV w v #[] E Q O;obtain⟨D,M⟩:=J.oC;rw[hq]at D;have q:=J.af;rw[hq]at q;refine⟨U,seen P fr.fn C,λc=>?_,q.DJ λe R=>mem_seen R⟩;rw[L c v E];simp only[aJ,ze,if_true,D,M,j,ge,aY,ja,if_false];simp[Xh]
  |stuck m=>exact ended λc=>⟨_,_,_,ü⟩|exit m=>exact ended λc=>⟨_,_,_,ü⟩
  |unsupported m=>
   cases m with|initOrder g=>exact B.elim|_=>exact ended λc=>⟨_,_,_,ü⟩
  |_=>exact B.elim
def YI{I:Zf->Zy->Prop}(H:ma P F X){fr:Zf}{ops:Array fj}{i:Nat}{rest:List Nat}{k:List Item}{o:fj}{w:Zy}(b:Sm P X w w)(h:fr.todo=aM ops (i::rest)::k)(e:fr.mode= .run)(ho:ops[i]?=ac o)
  (d:bC o (eZ ops fr.tmps)=aw)(g:fr.roundOf=ar)(c:fr.kind≠ dY)(hop:sW P o.op=aw)
  (j:∀n x,(aL fr.eval o).run (wf P F) w=cT n x->∃a,(n=fA a\/n= .skip/\a=aC)/\(I (fr.finish a) x\/Jy P (fr.finish a)))
  (f:∀y x,(aL fr.eval o).run (wf P F) w=eI (.panic y) x->I (fr.raise [{v:=y,recovered:=ao}]) x):zB P F X I fr w:=
 OS b h e ho d g c (Cx H fr.eval o hop) (λ_ _=>rfl) (λ_ _=>rfl) j f
end
namespace Odd160
noncomputable def vK:Option<|Array fj×Array fj×nW:=match Tryz.f160.body with
 |some (fO (eU _ a _)<|.cond _ (eU _ b _) c)=>ac (a,b,c)
 |_=>ar
noncomputable def qP:Array fj:=match vK with
 |some (a,_,_)=>a|none=>#[]
noncomputable def V8:Array fj:=match vK with
 |some (_,b,_)=>b|none=>#[]
noncomputable def OM:nW:=match vK with
 |some (_,_,c)=>c|none=> .skip
noncomputable def Al:nW:=eU 0 qP ao
noncomputable def cC:nW:= .cond (bZ 6) (eU 1 V8 ao) OM
theorem oW:Tryz.f160.body=ac (fO Al cC):=Á
def ntmps160:Tryz.f160.ntmps=20:=Ä
def jb3:q9 au aw OM=aw:=Á
def xr6:q9 au aw (fO Al cC)=ao:=Á
theorem vJ:Mc au 160:=⟨_,_,Tryz.func160,oW,xr6⟩
def tK(ops:Array fj)(i:Nat)(op:Op)(d:Option Nat):Prop:=∃o,ops[i]?=ac o/\o.op=op/\o.dst=d/\o.guard=ar
def o00:tK qP 0 (.move<|bZ 0)<|some 2:=⟨qP[0]!,Á,Á,Á,Á⟩
def o01:tK qP 1 (.nilCheck<|bZ 2)<|some 3:=⟨qP[1]!,Á,Á,Á,Á⟩
def o02:tK qP 2 (.fieldAddr 179 (bZ 3) 0)<|some 4:=⟨qP[2]!,Á,Á,Á,Á⟩
def o03:tK qP 3 (.load 177<|bZ 4)<|some 5:=⟨qP[3]!,Á,Á,Á,Á⟩
def o04:tK qP 4 (.binOp .eql 177 (bZ 5) (.const<|aR ar) 177)<|some 6:=⟨qP[4]!,Á,Á,Á,Á⟩
def o10:tK V8 0 (.move<|bZ 0)<|some 7:=⟨V8[0]!,Á,Á,Á,Á⟩
def o11:tK V8 1 (.move<|bZ 0)<|some 8:=⟨V8[1]!,Á,Á,Á,Á⟩
def o12:tK V8 2 (.convert 177 283<|bZ 8)<|some 9:=⟨V8[2]!,Á,Á,Á,Á⟩
def o13:tK V8 3 (.call {callee:= .value (.func 209),args:=#[bZ 9],argTypes:=#[283]})<|some 10:=⟨V8[3]!,Á,Á,Á,Á⟩
def o14:tK V8 4 (.convert 283 177<|bZ 10)<|some 11:=⟨V8[4]!,Á,Á,Á,Á⟩
def o15:tK V8 5 (.nilCheck<|bZ 7)<|some 12:=⟨V8[5]!,Á,Á,Á,Á⟩
def o16:tK V8 6 (.fieldAddr 179 (bZ 12) 0)<|some 13:=⟨V8[6]!,Á,Á,Á,Á⟩
def o17:tK V8 7 (.store 177 (bZ 13)<|bZ 11) ar:=⟨V8[7]!,Á,Á,Á,Á⟩
def jdg:ak qP=5:=Á
def jdh:ak V8=8:=Á
theorem XT:Tryz.prog.underlying 177=ac (.pointer 179):=Ä
theorem XV:Tryz.prog.underlying 283=ac .unsafePointer:=Ä
noncomputable def FI:Array Field:=match Tryz.prog.underlying 179 with
 |some (.struct fs)=>fs|_=>#[]
theorem XU:Tryz.prog.underlying 179=ac (.struct FI):=Á
noncomputable def JE:Field:=FI[0]!
def fs0:FI[0]?=ac JE:=Á
def xx8:JE.offset=0:=Á
def xs1:JE.type=177:=Á
def XR:(Tryz.prog.info? 177).map (·.size)=ac 1:=Á
def XS:(Tryz.prog.info? 179).map (·.size)=ac 2:=Á
end Odd160
end
section
variable [pn:Pn]
def xq1(P F):∀d t,(wf P F).holdsStoodIn d t=P.holdsStoodIn d t:=by intro d;induction d with|zero=>intro t;rfl|succ d ih=>intro t;simp only[Program.holdsStoodIn,Yj,xG,ih]
namespace Odd160
structure Tb(p:Zp):Prop where
 u1:p.underlying 177=ac (.pointer 179)
 u2:p.underlying 283=ac .unsafePointer
 u3:p.underlying 179=ac (.struct FI)
 s1:(p.info? 177).map (·.size)=ac 1
 s2:(p.info? 179).map (·.size)=ac 2
def XW:Tb au:=⟨XT,XV,XU,XR,XS⟩
def FH:Tb<|wf au cP:=⟨by grind [Yj,XT],by grind [Yj,XV],by grind [Yj,XU],by rw[AF];exact XR,by rw[AF];exact XS⟩
section
variable {p:bT} (T:Tb p)
theorem ja7(T:Tb p){a u c}{e:Zt}{f}(g:u.heap[a.block]?=ac (aq c e f))(ho:a.off<ak c)(es):
  (convert 177 283<|aR<|some a).runT p u es=(cT (aR<|some a) u,es):=by
 obtain⟨j,b,d⟩:=zv.1 T.s2;have i:u.shape? a.block=ac (e,ak c):=by simp[dD,g]
 have h:¬(ak c<=a.off):=À
 simp[convert,Conv.unsafePointer,Conv.seenAt,viewAt,cellsIn,eu,sizeOf,typeInfo,oK,kz,lB,fw,eE,fX,T.u1,T.u2,b,d,i,h,-ey]
def lX(a:Addr):Sem Zv:=do
 if(<-sizeOf 179)=0||(<-kv a 179 1)then fX (aR<|some a)
 else
  match<-kz a.block with
  |some (e,_)=>
   if(<-oK).holdsStoodIn (<-oK).depth e then unsupported (.unsafePointer "memory that holds a struct of a package that the model stands in for, seen as another type")
  |none=>unsupported<|.unsafePointer "memory that has no shape (a package-level variable that still waits for its initialiser), seen as another type"
  fX (zo<|<-newObj (.view a 179))
theorem ja8(T:Tb p){a u c}{e:Zt}{f}(b:u.heap[a.block]?=ac (aq c e f))(es):
  (convert 283 177<|aR<|some a).runT p u es=(lX a).runT p u es:=by
 have d:u.shape? a.block=ac (e,ak c):=by simp[dD,b]
 simp[convert,lX,Conv.unsafePointer,Conv.seenAt,viewAt,eu,oK,kz,lB,fw,eE,fX,T.u1,T.u2,d,-ey];rfl
end
section
variable {P:bT} {F:Array jE} {X:Nat->Prop}
def xxb{a}(hx:¬X a.block):B P F X<|lX a:=by unfold lX;refine xq (ig.1 _) λn=>xq ?_ λb=>?_;grind [kv,Xq,Gr,Vx,Vw,xq,Gl,xr];split;exact xr _;refine xq (Gl hx) λs=>?_;have d:B P F X (do fX (zo<|<-newObj (.view a 179)):Sem Zv):=xq (xI _ ⟨λc e h=>Ê,λf h=>Ê,λl h=>Ê⟩) λ_=>xr _;split;refine Xq (by simp only[xq1])<|Xq (by grind [Vx]) ?_;split;exact Cy (Yb _ trivial) (λp w a x h=>Ê);omega;exact Cy (Yb _ trivial) λp w a x h=>Ê
end
end Odd160
namespace Odd160
def Am:Zv->Bool
 | aR _=>aw|_=>ao
section
variable {p:bT}
def ztn{a v:Zv}{bs}(h:a.ofBytes bs=ac v):Am v=ao:=by
 unfold Value.ofBytes at h;repeat' split at h
 all_goals first|(cases h;done)|(cases h;rfl)
theorem zs7{w:Zy}{a k}{u:Zt}{b v l}(h:w.viewLoad p a u k b= .ok (v,l)):Am v=ao:=by
 unfold World.viewLoad at h;cases hs:w.seen p a u k b with
 |error e=>rw[hs]at h;cases h
 |ok q=>obtain⟨f,g,i,first,d,c⟩:=q;rw[hs]at h;simp only[lB,lj]at h;split at h;rename_i v' hv;cases h;exact ztn hv;cases h
def xos{w x a v}(h:(mB a).run p w=cT v x):x=w/\(Am v=aw->∃c e f,w.heap[a.block]?=ac (aq c e f)/\a.off<ak c):=by rw[Gn]at h;grind [ae,lw,zs7]
def xdk(T:Tb p){w x v y}(h:(Instr.loadAt 177 y).run p w=cT v x):x=w/\∃a,y=aR (ac a)/\(Am v=aw->∃c e f,w.heap[a.block]?=ac (aq c e f)/\a.off<ak c):=by
 unfold Instr.loadAt at h;obtain⟨a,d,g,i⟩:=jr h;have l:y=aR (ac a)/\d=w:=by unfold Instr.sureAddr at g;split at g;simp_all;cases g
 obtain⟨rfl,rfl⟩:=l;unfold loadVar at i;obtain⟨b,n,j,k⟩:=jr i;have m:b=ao/\n=d:=by
  have:(isAgg 177).run p d=cT ao d:=by simp[isAgg,eu,T.u1]
  rw[this]at j;cases j;exact⟨rfl,rfl⟩
 obtain⟨rfl,rfl⟩:=m;simp only[ja,if_false]at k;obtain⟨rfl,o⟩:=xos k;grind
def zwh(T:Tb p){w x v y}(h:(Instr.fieldAt 179 y 0).run p w=cT v x):x=w/\∃a,y=aR (ac a)/\v=aR (ac a):=by
 obtain⟨r,l,m⟩:=zv.1 T.s1;have q:(eu 179).run p w=cT (.struct FI) w:=by simp[eu,T.u3]
 unfold Instr.fieldAt at h;obtain⟨d,s,g,c⟩:=jr h;rw[q]at g;cases g;dsimp only at c;rw[fs0]at c;dsimp only at c;obtain⟨a,f,e,j⟩:=jr c;have n:y=aR (ac a)/\f=w:=by unfold Instr.sureAddr at e;split at e;simp_all;cases e
 obtain⟨rfl,rfl⟩:=n;have o:(fieldPlace a JE).run p f=cT a f:=by simp[fieldPlace,xs1,xx8,sizeOf,typeInfo,l,m,Addr.add]
 obtain⟨b,t,i,k⟩:=jr j;rw[o]at i;cases i;cases k;grind
def xst(T:Tb p){w x v y o l}(h:(do eqGuard .eql 177 o l y (aR ar);binOp .eql 177 y (aR ar):Sem Zv).run p w=cT v x):x=w/\Am y=aw:=by
 have i:(eu 177).run p w=cT (.pointer 179) w:=by simp[eu,T.u1]
 have k:∀{y:Zv} {v x},(Op.equal 177 y<|aR ar).run p w=cT v x->x=w/\Am y=aw:=λ{y v x} h=>by
  unfold Op.equal at h;rw[show Op.maxDepth=9999+1 from rfl,Op.equalIn]at h;obtain⟨d,c,b,a⟩:=jr h;rw[i]at b;cases b;cases y with
  |pointer q=>
   cases q with
   |none=>cases a;exact⟨rfl,rfl⟩
   |some q=>cases a;exact⟨rfl,rfl⟩
  |_=>cases a
 obtain⟨g,c,b,a⟩:=jr h;have j:c=w:=by cases y<;>(simp[eqGuard]at b;grind)
 subst j;have f:(binOp .eql 177 y<|aR ar)=(do fX (aX<|<-Op.equal 177 y (aR ar)):Sem Zv):=by cases y<;>rfl
 rw[f]at a;obtain⟨q,n,m,e⟩:=jr a;cases e;grind
end
def xse(x w):(nE 209 #[x]).run (wf au cP) w=cT (fA x) w:=by
 have h:(wf au cP).funcs[209]?=ac Tryz.f209:=Eo Ã Tryz.func209;have c:(Tryz.f209.name== "runtime.NumGoroutine")=ao:=Es Tryz.func209;have a:¬Tryz.f209.name= "runtime.NumGoroutine":=by simpa using c
 have b:Tryz.f209.body=ar:=Á
 have d:Extern.AbiNoEscape.same #[x]=fX x:=rfl;simp[nE,h,a,b,Rm,Rn,d]
end Odd160
end
end A
end Go.Proofs.YtjnbhiamaabbgaaGreatDoor
