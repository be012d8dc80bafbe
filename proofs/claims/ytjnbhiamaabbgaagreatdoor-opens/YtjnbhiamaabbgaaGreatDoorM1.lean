import Derived.Test.YtjnbhiamaabbgaaGreatDoorM0
import Derived.Test.YtjnbhiamaabbgaaGreatDoorProg
import Derived.WalkSpells
import Derived.WalkLawsBesides
import Derived.BigQuiet
import Derived.Deep.RegionHeld3
import Derived.StillTailTactics
import Derived.Deep.WholeRow
import Derived.Lib.BufferWrite
import Derived.Laws.CopyOwn
set_option linter.all false
set_option maxRecDepth 100000
set_option maxHeartbeats 8000000
section
variable{P:Prop}
def Á(h:P:=by kernel_rfl):P:=h
def Ã(h:P:=by decide):P:=h
def Å(h:P:=by go_num):P:=h
def Æ(h:P:=by simp;omega):P:=h
def È(h:P:=by decide+kernel):P:=h
def É(h:P:=by rw[zh]<;>omega):P:=h
def Ì(h:P:=by rw[zh];omega):P:=h
def Ï(h:P:=by simpa[ai]using h.sz):P:=h
def Ö(h:P:=by grind [zy]):P:=h
def à(h:P:=by rfl):P:=h
def ã(h:P:=by simp[go_sem]):P:=h
def å(h:P:=by rw[xb _ _ k _ _ _ inv.b1];simp):P:=h
def ì(h:P:=by have f:bF (wf P F) aw {frame:=fr,callers:=cs,status:=aZ,dying:=ar} w=_:=e;rw[f];rfl):P:=h
def þ(h:P:=by exact hk):P:=h
def ă(h:P:=by grind [zy,touch_mute]):P:=h
def Ĉ(h:P:=by cases hx):P:=h
def Ě(h:P:=by rw[e]):P:=h
def ě(h:P:=by unfold Wv;omega):P:=h
def Ĥ(h:P:=by grind [Jo]):P:=h
def Ķ(h:P:=by have:=Ln<|Lv h;unfold Eh at this;grind):P:=h
def ĸ(h:P:=by rw[jd,Ba];exact Lz):P:=h
def ĺ(h:P:=by simp[gT,xo hk,bG]):P:=h
def Ļ(h:P:=by simp[eP,eQ,ek,bq]):P:=h
def ľ(h:P:=by grind [bC]):P:=h
end
namespace Go.Proofs.YtjnbhiamaabbgaaGreatDoor
open Go renaming Act->jG,Calls->aG,Code->nW,Ending->kU,Event->lh,Frame->fk,Func->jE,Goroutine->cA,Oper->fj,Program->bT,Trace->fG,TypeId->nt,Value->dL,World->cY,bits->kf,callDeferred->dV,callFunc->nE,doReturn->ft,execOp->aL,getObj->lS,heap_alloc_new->xn,heap_setCell_other->jj,invoke->ol,maxLen->nT,resolve->nD,results->dX,runNT->eT,run_convert_bytes_back->gJ,setRow_heap->Jr,stepG->bF,underlying->eu,unwind->cW
open Go.Addr renaming add_mid->oB
open Go.CallKind renaming early->dY,normal->cJ,report->oA
open Go.Code renaming region->eU,seq->fO
open Go.Conc renaming Deaf_other->cU,Deaf_own->lm,awake_of->mW,crowd->fL,mem_ofEvents->zy,noRace_append->nM,runT_crowd_go->oS,touchAt->li,woken_quitsD->iA
open Go.ConcN renaming sumTo->iX
open Go.Departure renaming rangeFuncRecover->gK
open Go.Ending renaming outgrown->iE,panicked->gU,returned->ah
open Go.Extern renaming find->mU,findNext->jP
open Go.Extern.BytealgMakeNoZero renaming makeNoZero->jW
open Go.Extern.ReflectliteType renaming method->oy,typeOf->ow
open Go.Extern.Rtype renaming noPackHeld->jF
open Go.Frame renaming enter->aT
open Go.FrameMode renaming panicking->eW
open Go.GStep renaming after->aY,ended->gq,go->gj
open Go.GoStatus renaming running->aZ
open Go.IntKind renaming bits->eQ,i64->aU,signed->ek,u32->bQ,wrap->eP,wrap_i64->zh
open Go.Item renaming code->cD
open Go.Lib renaming byteCells->hZ
open Go.Loc renaming cell->kF,obj->nG
open Go.Mark renaming disable->mR,enable->mQ,release->jC
open Go.MemAct renaming ofEvent->bN,touch?->bY
open Go.MemOp renaming ofEvents->aS
open Go.Next renaming enter->mo
open Go.Obj renaming cells->aq
open Go.Proofs.Tryz renaming func34->ov,prog->au,underlying3->gI,underlying9->oN
open Go.Result renaming andThen->bG,halt->eI,ok->cT
open Go.RowKit renaming Below->aN,Hid->aK,intOf->dF
open Go.RowKit.Below renaming refl->zt
open Go.Sem renaming runT_eq->ze
open Go.Stepped renaming next->fS
open Go.TypeDesc renaming string->lz
open Go.Value renaming agg->bM,bool->aX,iface->gB,int->aH,map->eK,slice->az,string->aj
open Go.World renaming alloc->aB,cell?->ae,frozen?->aQ,setCell->ai
open Go.stepG renaming exec->aD
open _root_.Array renaming setIfInBounds->ay,size->ak,toList->ej
open _root_.BitVec renaming ofInt->cX
open _root_.Bool renaming false->ao,true->aw
open _root_.Exists renaming intro->lU
open _root_.Int renaming toNat->bB
open _root_.List renaming length->aa,range->gO,replicate->bD,take_of_length_le->qp,toArray->aV
open _root_.Option renaming none->ar,some->ac
open _root_.Or renaming inl->aF,inr->aE
open _root_.Pure renaming pure->fX
open _root_.UInt8 renaming ofNat->ku,toNat->aI
namespace A
open Go
section
open Go.Conc
variable [pn:Pn]
section
variable {End:Zg→Zy→Prop}
section
variable {P:bT} {F:Array jE} {X:Nat->Prop}
def xpf(b ops):tW (wf P F) b ops=tW P b ops:=rfl
theorem Jo:∀(b:Bool) (c:nW),q9 (wf P F) b c=q9 P b c
 |b,eU i ops d=>rfl|b,fO x y=>by simp only[q9,Jo b x,Jo b y]
 |b,.cond o x y=>by simp only[q9,Jo b x,Jo b y]|b,.block i x=>by simp only[q9,Jo b x]
 |b,.loop x=>by simp only[q9,Jo b x]|b,.scope x=>by simp only[q9,Jo b x]
 |b,.rangeFunc f ps x y=>by simp only[q9,Jo ao x,Jo ao y]|b,.skip=>rfl
 |b,.label _=>rfl|b,.ret=>rfl
 |b,.exit _=>rfl|b,.goto _=>rfl
 |b,.refuse _=>rfl
def Rx(b it):Vt (wf P F) b it↔Vt P b it:=by cases it<;>simp[Vt,Jo,xpf]
def GW(t):Wn (wf P F) t=Wn P t:=by cases t<;>rfl
def vb{fr}:Jy (wf P F) fr↔Jy P fr:=
 ⟨λh=>⟨λb a=>(Rx ..).1<|h.jY b a,λd hd=>by rw[<-GW (F:=F)];exact h.lW d hd,h.dW,h.kG⟩,λh=>⟨λb a=>(Rx ..).2<|h.jY b a,λd hd=>by rw[GW];exact h.lW d hd,h.dW,h.kG⟩⟩
def xx5{o}(h:iR P o):iR (wf P F) o:=
 ⟨h.iy,λf e d hd=>by rw[GW];exact h.rn f e d hd,λl e=>by obtain⟨a,b,c,d⟩:=h.pw l e;exact⟨by rw[Jo];exact a,by rw[Jo];exact b,λx g=>Ĥ,d⟩⟩
def Lq{w v}(h:Sm P X w v):Sm (wf P F) X w v:=⟨h.J,h.out,h.iz,λr=>xx5<|h.pz r,h.ms,h.fZ,h.os,h.cM,h.pf⟩
def Xh(fr:Zf)(cs:List Zf):Zg:={frame:=fr,callers:=cs,status:=aZ,dying:=ar}
def zB(P:Zp)(F:Zc)(X:ZP)(I:Zf->Zy->Prop)(fr:Zf)(w:Zy):Prop:=
 (∀cs,∃o w' es,bF (wf P F) aw (Xh fr cs) w=gq o w' es)\/
 (∃ch,fr.mode=eW ch/\fr.defers=[]/\∀p,fr.catches p=ao)\/
 ∃fr' w',(I fr' w'\/Jy P fr')/\fr'.kind=fr.kind/\(∀cs,Cs w<|stepG (wf P F) aw<|Xh fr cs)/\
  (∃es,∀cs,bF (wf P F) aw (Xh fr cs) w=gj (Xh fr' cs) w' es)/\
  ∀v,Sm P X w v->∃v' es,(∀cs,bF P aw (Xh fr cs) v=gj (Xh fr' cs) v' es)/\Af P X v w' v' es
structure AS(P:Zp)(F:Zc)(I:ZP->Zf->Zy->Prop)(Fo:Zc):Prop where
 uX:∀X f a k w,Vi P F f->Mc P f->k≠ dY/\k≠ oA->I X (aT (wf P F) f a k) w
 mc:∀X fr w,I X fr w->Mc P fr.fn
 re:∀X fr w t d,I X fr w->I X fr (re w t d)
 step:∀X fr w,Sm P X w w->I X fr w->zB P F X (I X) fr w
 zA:∀X,ma (wf P Fo) F X
 na:sx (wf P Fo) F
 nY:∀f,Vi P F f->¬Mc P f->Vi (wf P Fo) F f
 AT:∀f,¬Mc (wf P Fo) f
structure Yk(P:Zp)(F:Zc):Prop where
 zA:∀X,ma P F X
 va:∀X,ma (wf P F) F X
 na:sx P F
 tY:∀f,F[f]?=P.funcs[f]?\/sT F f
 ro:P.follows gK=aw
 DO:∃I Fo,AS P F I Fo
def Yk.nY(K:Yk P F){f}(h:¬sT F f):Vi P F f:=⟨(K.tY f).resolve_right h,h⟩
def Yk.uZ(K:Yk P F):sx (wf P F) F:=λf e=>by obtain⟨a,b⟩:=K.na f<|K.nY e.2;refine⟨a,b.imp ?_ λb d c j k=>Ĥ⟩;rintro⟨d,c,g,h,i⟩;exact⟨d,c,by rw[<-g];exact(K.nY e.2).1,h,by rw[Jo];exact i⟩
def xx4{o}(h:iR (wf P F) o):iR P o:=
 ⟨h.iy,λf e d hd=>by rw[<-GW (F:=F)];exact h.rn f e d hd,λl e=>by obtain⟨a,b,c,d⟩:=h.pw l e;exact⟨Ĥ,Ĥ,λx g=>Ĥ,d⟩⟩
def Lp{w v}(h:Sm (wf P F) X w v):Sm P X w v:=⟨h.J,h.out,h.iz,λr=>xx4<|h.pz r,h.ms,h.fZ,h.os,h.cM,h.pf⟩
def Lu(fr:Zf)(ch):∃m,fr.raise ch={fr with mode:=m}:=by unfold Frame.raise;split<;>exact⟨_,rfl⟩
theorem AY{p fr c cs ch}(b:fr.mode=eW ch)(hd:fr.defers=[])(a:fr.catches p=ao)(w):
  bF p aw (Xh fr (c::cs)) w=gj (Xh (c.raise ch) cs) w #[]:=by
 grind [bF,Xh,cW]
def mF(p:Zp)(fr:Zf):Prop:=fr.todo=[cD<|.refuse ""]/\fr.defers=[⟨.fn (.method "") #[],#[]⟩]/\fr.kind=cJ/\fr.roundOf=ar/\p.inits.idxOf? fr.fn=ar
def Rl(f:FuncId):Zf:={fn:=f,tmps:=#[],todo:=[cD<|.refuse ""],defers:=[⟨.fn (.method "") #[],#[]⟩],mode:= .run,kind:=cJ}
def xx3{f}(h:P.inits.idxOf? f=ar):mF P<|Rl f:=⟨rfl,rfl,rfl,rfl,h⟩
def mF.Eg{fr}(h:mF P fr):Jy P fr:=by obtain⟨b,c,f,g,e⟩:=h;refine⟨λi a=>?_,λd hd=>?_, ?_,e⟩;rw[b]at a;simp only[ju]at a;subst a;rfl;rw[c]at hd;simp only[ju]at hd;subst hd;rfl;grind
theorem mF.iD{fr}(h:mF P fr)(v):fr.finish v=fr:=by unfold Frame.finish;rw[h.1]
def mF.oZ{fr}(h:mF P fr)(m):mF P {fr with mode:=m}:=h
def ux(p:Zp)(g:Zg):Prop:=g.dying=ar/\((g.frame.mode= .run/\∃s k,g.frame.todo=cD (.refuse s)::k)\/mF p g.frame)
def Ls{p g}(h:ux p g)(w):∃o w' es,bF p aw g w=gq o w' es:=by
 obtain⟨a,d,st,l,b⟩:=g;obtain⟨hd,h⟩:=h;cases hd;have run:∀s k,a.mode= .run->a.todo=cD (.refuse s)::k->∃o w' es,bF p aw {frame:=a,callers:=d,status:=st,dying:=ar,offers:=b} w=gq o w' es:=λs k f j=>by
  have e:bF p aw {frame:=a,callers:=d,status:=st,dying:=ar,offers:=b} w=aD p aw aw a d ar w:=by simp[bF,f]
  grind [aD]
 obtain⟨f,s,k,j⟩|⟨j,i,hk,_⟩:=h;grind;have m:a.mode≠ .run->∃o w' es,cW p aw a d ar w=gq o w' es:=λf=>by unfold cW;rw[i];simp only[dV,ze];have e:(ol (.fn (.method "") #[]) #[]).run p w=eI _ w:=rfl;rw[e];simp[aY]
 cases f:a.mode with
 |run=>grind|returning=>grind [bF]
 |panicking c=>grind [bF]
def Rv{p g g' w w'}(h:ux p g):¬oT p g w g' w':=by rintro⟨c,e,_⟩;obtain⟨o,w1,a,b⟩:=Ls h w;grind
structure Gd(P:Zp)(F:Zc)(X:ZP)(I:Zf->Zy->Prop)(dm:Zf)(g:Zg)(w:Zy):Prop where
 uV:Jy P g.frame\/I g.frame w
 uW:∀c∈g.callers,Jy P c
 sm:Sm (wf P F) X w w
 dy:g.dying=ar
 oC:g.status=aZ
 y':g.offers=ar
 sU:∃l,g.callers=l++[dm]/\Bk g.frame l
variable {dm:fk} {I:(Nat->Prop)->fk->cY->Prop} {Fo:Array jE}
theorem Gd.re(a:AS P F I Fo){g:Zg}{w:Zy}(h:Gd P F X (I X) dm g w)(t:Nat->Question->Nat)(d:Nat):Gd P F X (I X) dm g<|re w t d:=⟨h.uV.imp id<|a.re X _ _ t d,h.uW,h.sm.re t d,h.dy,h.oC,h.y',h.sU⟩
def Gd.eq{g w}(h:Gd P F X (I X) dm g w):g=Xh g.frame g.callers:=by obtain⟨i,e,st,f,d⟩:=g;obtain⟨_,_,_,a,b,c,_⟩:=h;cases a;cases b;cases c;rfl
def Gd.step(K:Yk P F)(B:AS P F I Fo)(n:mF P dm){g w}(h:Gd P F X (I X) dm g w):
  (∃o w' es,bF (wf P F) aw g w=gq o w' es)\/∃g' w' es,bF (wf P F) aw g w=gj g' w' es/\g'.dying=ar/\g'.status=aZ/\g'.offers=ar/\(ux P g'\/(Gd P F X (I X) dm g' w'/\tX P F (aa g.callers) (bF (wf P F) aw g w))):=by
 obtain⟨l,C,hb⟩:=h.sU;have bf:g.callers≠[]:=by rw[C];simp
 obtain q|hI:=h.uV;rotate_left
 ·
  have T:=h.eq;have hS:=Lp h.sm;obtain b|⟨ch,b,y,G⟩|⟨ba,w',b,y,G,⟨es,S⟩,h5⟩:=B.step X g.frame w hS hI;left;rw[T];exact b _;right;cases l with
  |nil=>
   have e:bF (wf P F) aw g w=gj (Xh (dm.raise ch) []) w #[]:=by rw[T,C];exact AY b y (G _) w
   refine⟨_,_,_,e,rfl,rfl,rfl,aF ⟨rfl,aE ?_⟩⟩;obtain⟨m,U⟩:=Lu dm ch;rw[U];exact n.oZ m
  |cons c l=>
   have e:bF (wf P F) aw g w=gj (Xh (c.raise ch)<|l++[dm]) w #[]:=by rw[T,C];exact AY b y (G _) w
   have bc:Bk c l:=hb;obtain⟨m,U⟩:=Lu c ch;refine⟨_,_,_,e,rfl,rfl,rfl,aE ⟨⟨aF<|(h.uW c Â).gV _,λx hx=>h.uW x<|by rw[C];exact jw _ hx,h.sm,rfl,rfl,rfl,l,rfl, ?_⟩,λE J d D H _=>?_⟩⟩;show Bk _ l;rw[U];exact bc.bR rfl;grind [Xh]
  right;have e:bF (wf P F) aw g w=gj (Xh ba g.callers) w' es:=by rw[T];exact S _
  obtain⟨v1,Y,_,Z⟩:=h5 w hS;refine⟨_,_,_,e,rfl,rfl,rfl,aE ⟨⟨b.symm,h.uW,Lq Z.sm.iC,rfl,rfl,rfl,l,C,hb.bR y⟩,λE J d D H _=>?_⟩⟩;grind [Xh]
 have p:Jy (wf P F) g.frame:=vb.2 q;have bd:ry _ g:=⟨aE p,λc j=>aE (vb.2<|h.uW c j)⟩;obtain⟨g',w',es,e,b,y,G,S,h5,h6,h7⟩|⟨o,w',es,e⟩:=xvf (F:=F) (K.va X) h.sm p h.dy K.ro bf;rotate_left;exact aF ⟨o,w',es,e⟩;have W:=e;refine aE ⟨g',w',es,W,b,y,G, ?_⟩;by_cases bh:aa g'.callers=0;left;refine⟨b,aE ?_⟩;have be:l=[]:=by rw[C]at h6;simp only[zx,Zr]at h6;exact jv À
 subst be;rcases h5 dm [] Â (by omega)with⟨v,t⟩|⟨m,t⟩;rw[t,n.iD];exact n;rw[t];exact n;obtain⟨l',a1,a2,a3⟩:=QU (F:=F) (cs1:=[dm]) (cs2:=[dm]) (K.va X) h.sm p h.dy C hb K.ro Ä _ _ _ e b Â;by_cases i:aa g'.callers=aa g.callers+1/\g'.frame.roundOf=ar/\sT F g'.frame.fn;left;refine⟨b,aF ?_⟩;obtain⟨Q,R,c3⟩:=i;obtain⟨f,a,k,_,t⟩:=S Q R;rw[t]at c3⊢;obtain⟨fn,s,r1,r2,_⟩:=c3;grind [aT,wf];right;have hE:tX (wf P F) F (aa g.callers)<|stepG (wf (wf P F) F) aw g w:=λE J d D H V=>by rw[e]at D;cases D;exact⟨rfl,λhr=>i ⟨H,V,hr⟩⟩
 obtain⟨v1,Y,f1,Z⟩:=(Ee (En:=True) (F:=F) (K.va X) K.uZ h.sm bd p h.dy λ_=>hE).AM trivial _ _ _ e b;have z:tX P F (aa g.callers)<|stepG (wf P F) aw g w:=λE J d D H V=>K.nY λhr=>i Â;have O:(Jy P g'.frame\/I X g'.frame w')/\∀c∈g'.callers,Jy P c:=by
  by_cases L:aa g'.callers=aa g.callers+1/\g'.frame.roundOf=ar/\Mc P g'.frame.fn;obtain⟨Q,R,c3⟩:=L;obtain⟨f,a,k,hk,t⟩:=S Q R;have N:=z g' w' es W Q R;refine⟨aE ?_,λc j=>vb.1<|h7 (λc j=>vb.2<|h.uW c j) c j⟩;rw[t]at N c3⊢;exact B.uX X f a k w' N c3 hk;have bb:tX _ F (aa g.callers) _:=λE J d D H V=>by have bg:bF (wf P F) aw g w=gj E J d:=D;refine B.nY _ (z E J d bg H V) λU=>L ?_;grind
  have r:Jy (wf P Fo) g.frame:=vb.2 q;have M:=(Ee (En:=True) (F:=F) (B.zA X) B.na (Lq<|Lp h.sm) ⟨aE r,λc j=>aE (vb.2<|h.uW c j)⟩ r h.dy λ_=>bb).ok trivial _ _ _ W b;exact⟨aF<|vb.1<|M.1.resolve_left<|B.AT _,λc j=>vb.1<|(M.2 c j).resolve_left<|B.AT _⟩
 exact⟨⟨O.1,O.2,Z.sm.iC,b,y,G,l',a1,a2⟩,z⟩
def Gd.mY(K:Yk P F)(y:AS P F I Fo)(z:mF P dm){g w}(h:Gd P F X (I X) dm g w):Cs w<|stepG (wf P F) aw g:=by
 obtain a|v:=h.uV;exact(Ee (En:=False) (F:=F) (K.va X) K.uZ h.sm ⟨aE<|vb.2 a,λc k=>aE (vb.2<|h.uW c k)⟩ (vb.2 a) h.dy λx=>x.elim).mY;have q:=h.eq;obtain⟨l,B,E⟩:=h.sU;obtain i|⟨ch,i,s,j⟩|⟨r,m,_,_,j,_⟩:=y.step X g.frame w (Lp h.sm) v;intro p m b e _;obtain⟨o,w1,D,C⟩:=i g.callers;grind;have:∃c f,g.callers=c::f:=by rw[B];cases l with|nil=>grind|cons c l=>grind
 obtain⟨c,f,k⟩:=this;rw[q,k];intro p m b e _;have n:bF (wf P F) aw (Xh g.frame (c::f)) w=gj p m b:=e;rw[AY i s (j _) w]at n;cases n;exact⟨zd _,rfl,λt d _=>⟨#[],by grind [AY]⟩⟩;rw[q];exact j _
def xr7(K:Yk P F)(b:AS P F I Fo)(a:mF P dm)(f:∀g w t d,End g (re w t d)↔End g w):vZ (wf P F) End (λg w=>Gd P F X (I X) dm g w\/ux P g) where
 gP:=f
 ru g w t d:=⟨λh=>h.imp (λh=>by have:=Gd.re b h w.tape w.drawn;grind [yP,DW]) id,λh=>h.imp (λh=>Gd.re b h t d) id⟩
 mY g w hI _:=by obtain h|h:=hI;exact h.mY K b a;intro m n k e;obtain⟨o,w1,c,i⟩:=Ls (p:=wf P F) h w;grind
 uU g w m n hI _ hgo:=by obtain h|h:=hI;obtain⟨k,i,q,r⟩:=hgo;obtain⟨o,w1,c,j⟩|⟨s,x,l,j,_,_,_,v⟩:=h.step K b a;grind;grind;exact absurd hgo<|Rv h
def zrz(K:Yk P F)(s:AS P F I Fo)(k:mF P dm){End fr' cs' w'}(l:End (Xh fr' cs') w'):
  ∀(n:Nat) (fr:Zf) (cs:List Zf) (w:Zy),runN (wf P F) n (lone fr cs w)=fS (lone fr' cs' w')->(Gd P F X (I X) dm (Xh fr cs) w\/ux P (Xh fr cs))->wh (wf P F) End n (Xh fr cs) w:=by
 intro n;induction n with
 |zero=>
  intro fr cs w h _;simp only[runN,Stepped.next.injEq,lone,Machine.mk.injEq]at h;obtain⟨i,j,_⟩:=h;subst i;obtain⟨rfl,rfl⟩:=j;exact l
 |succ n ih=>
  intro fr cs w h c;have ended:∀{o w1 b},bF _ aw (Xh fr cs) w=gq o w1 b->False:=λ{o w1 b} e=>by have a:=step_lone_ended ì;grind [runN]
  obtain c|c:=c;obtain⟨o,w1,b,e⟩|⟨m,w1,b,e,i,j,q,r⟩:=c.step K s k;grind;obtain⟨g,d,st,v,t⟩:=m;cases i;cases j;cases q;have a:=step_lone_go ì;simp only[runN,a]at h;exact aE ⟨_,w1,⟨b,e,rfl,rfl⟩,ih g d w1 h<|r.elim aE λh=>aF h.1⟩;obtain⟨o,w1,b,e⟩:=Ls (p:=wf P F) c w;grind
def Lo(Q:Zp)(End:Zg->Zy->Prop)(g:Zg)(w:Zy):Prop:=∀t d,∃n,wh Q End n g<|re w t d
theorem Rq{End}(e:∀g w t d,End g (re w t d)↔End g w)(a:∀g w,End g w->¬ux P g){g w}(h:Lo (wf P F) End g w):¬ux P g:=by intro hd;obtain⟨n,b⟩:=h w.tape w.drawn;cases n with|zero=>exact a _ _ b hd|succ n=>obtain b|⟨f,i,c,_⟩:=b;grind;exact Rv (p:=wf P F) hd c
variable {J:Nat×Nat->Array cA->cY->fG->Prop}
def rA(K:Yk P F)(j:mF P dm)(Co:AP P X J)(s:∀g w t d,End g (re w t d)↔End g w)(bb:∀g w,End g w->¬ux P g)
  {fr w}(bf:Jy P fr\/∃f a,Vi P F f/\Mc P f/\fr=aT (wf P F) f a cJ)(hk:fr.kind=cJ)(W:∀t d,∃fr' cs' w',Steps (wf P F) (lone fr [dm]<|re w t d) (lone fr' cs' w')/\End (Xh fr' cs') w')
  {k gs v sl t cs}(be:∀c∈cs,lL P c)(hJ:J k gs v t)(h0:gs[0]?=ac (Xh fr cs))(hS:Sm P X (re w v.tape v.drawn) v):
  ∃N gs' v' sl' t' k' g' w' g2,eT P N (fL gs v sl) t=(fS<|crowd gs' v' sl',t')/\J k' gs' v' t'/\gs'[0]?=ac g2/\End g' w'/\we P X [dm] cs g' w' g2 v':=by
 obtain⟨I,Fo,i⟩:=K.DO;have z:Jy P fr\/I X fr w:=bf.imp id λ⟨f,a,b,e,M⟩=>by rw[M];exact i.uX X f a cJ w b e ⟨Ä,Ä⟩
 have C:=z.symm.imp (i.mc X fr w) id;have bc:=(hS.iC).re w.tape w.drawn;have G:Gd P F X (I X) dm (Xh fr [dm]) w:=⟨z,λc y=>by simp only[Xh,ju]at y;subst y;exact j.Eg,Lq bc,rfl,rfl,rfl,[],rfl,hk⟩;have R:Lo _ End _ w:=λt d=>by obtain⟨fr',cs',w',⟨n,V⟩,hE⟩:=W t d;exact⟨n,zrz (X:=X) K i j hE n fr [dm] _ V<|aF<|Gd.re i G t d⟩
 have B:=xr7 (X:=X) K i j s;have Y:=(B.bar (aF G) R).sim (P:=P) (λk g w m t=>Lo _ End g w/\Gd P F X (I X) dm g w/\∃gs v sl g2,m=fL gs v sl/\J k gs v t/\gs[0]?=ac g2/\we P X [dm] cs g w g2 v) (by
  rintro k g w m t⟨hL,p,gs,v,sl,g2,rfl,hJ,h0,Q⟩ hs;have next:∀t d g' w',oT _ g (A.re w t d) g' w'->Lo _ End g' w'/\Gd P F X (I X) dm g' w':=λt d g' w' q=>by have b:=B.dQ (aF p) hs hL q;refine⟨b, ?_⟩;rcases B.uU g _ g' w' (aF<|Gd.re i p t d) (λx=>hs<|(s ..).1 x) q with e|e;exact e;exact absurd e<|Rq s bb b
  have h:∀t d,∃g' w',oT (wf P F) g (A.re w t d) g' w'/\[dm].length<=aa g'.callers:=λt d=>by obtain⟨n,V⟩:=hL t d;cases n with|zero=>exact absurd ((s ..).1 V) hs|succ n=>obtain V|⟨g',w',b,_⟩:=V;grind;obtain⟨l,hl,_⟩:=(next t d g' w' b).2.sU;grind
  have hE:∀t d,tX P F (aa g.callers)<|stepG (wf P F) aw g<|A.re w t d:=λt d=>by
   obtain⟨g',w',b,_⟩:=h t d;have e:=next t d g' w' b;obtain⟨Z,e1,e2,e3⟩:=b;rcases(Gd.re i p t d).step K i j with⟨o,w1,O,e4⟩|⟨g3,w3,bj,e4,_,_,_,h5⟩
   grind;grind [Rq]
  have r:=show∃gs' v' sl' t',eT P 1 (fL gs v sl) t=(fS<|crowd gs' v' sl',t')/\
   ((∃k',xJ k' k/\J k' gs' v' t'/\gs'[0]?=ac g2/\we P X [dm] cs g w g2 v')\/
    ∃tp d g' w' g2',oT (wf P F) g (A.re w tp d) g' w'/\J k gs' v' t'/\gs'[0]?=ac g2'/\we P X [dm] cs g' w' g2' v'/\ak v.heap<=ak v'.heap/\∀x,X x->v'.heap[x]?=v.heap[x]?)from by
   obtain hF|hI:=p.uV;exact Ra (sl:=sl) Co (K.zA X) K.na K.ro Q hF h hE hJ h0;refine Q8 Co Q (λd H=>?_) hJ h0;obtain⟨l,hl,bg,U⟩:=Q.uV;have hb:Bk g.frame l:=by obtain⟨b,_⟩|⟨_,b⟩:=U;cases b;exact b
   have L:=p.eq;have D:g2=Xh g.frame (l++cs):=by rw[bg];obtain⟨fr,cs,st,dy,off⟩:=g;cases p.dy;cases p.oC;cases p.y';rfl
   obtain⟨g',w',q,bi⟩:=h v.tape d;obtain b|⟨ch,b,e,M⟩|⟨fr',w1,b,e,M,⟨Z,h4⟩,h5⟩:=i.step X g.frame _ H.iC (i.re X _ _ _ _ hI);obtain⟨o,w1,Z,e1⟩:=b g.callers;obtain⟨ba,e2,_⟩:=q;grind;obtain⟨ba,e2,e3,e4⟩:=q;cases l with
   |nil=>rw[L,hl]at e2;have e5:bF (wf P F) aw (Xh g.frame (dm::[])) (A.re w v.tape d)=_:=AY b e (M _) _;grind [Xh]
   |cons c l=>
    have y:=p.uW c Â;have bd:Bk c l:=hb;obtain⟨m,hm⟩:=Lu c ch;have f0:bF (wf P F) aw g (A.re w v.tape d)=gj (Xh (c.raise ch)<|l++[dm]) (A.re w v.tape d) #[]:=by rw[L,hl];exact AY b e (M _) _
    have S:∀x∈l++[dm],Jy P x:=λx E=>p.uW x Â;refine⟨Xh (c.raise ch)<|l++[dm],A.re w v.tape d,l,v.at d,#[],⟨#[],f0,rfl,rfl⟩,rfl,aE ⟨Ä, ?_⟩, ?_,.uT H,⟨aE<|y.gV _,λx E=>aE (S x E)⟩,⟨aE<|y.gV _,λx E=>?_⟩⟩;show Bk (c.raise ch) l;rw[hm];exact bd.bR rfl;rw[D];exact AY b e (M _) _;have bh:=E;have:=Q.CL.2 x;grind
   obtain⟨v1,O,f1,f2⟩:=h5 _ H;have f0:bF (wf P F) aw g (A.re w v.tape d)=gj (Xh fr' g.callers) w1 Z:=by rw[L];exact h4 _
   have T:=b.imp (i.mc X fr' w1) id;refine⟨Xh fr' g.callers,w1,l,v1,O,⟨Z,f0,rfl,rfl⟩,hl,aE ⟨Ä,hb.bR e⟩, ?_,f2,⟨T,λx E=>aE (p.uW x E)⟩,⟨T,λx E=>?_⟩⟩;rw[D];exact f1 _;have bh:=E;have:=Q.CL.2 x;grind
  grind)
 obtain⟨N,m',t',g',w',k',r1,r2,_,_,gs',v',sl',g2,rfl,r3,r4,r5⟩:=Y k (fL gs v sl) t ⟨R,G,gs,v,sl,Xh fr cs,rfl,hJ,h0,⟨[],rfl,rfl,aE ⟨Ä,hk⟩⟩,rfl,rfl,⟨C,λc y=>by simp only[Xh,ju]at y;subst y;exact aE j.Eg⟩,⟨C,be⟩,hS⟩;grind
end
end
end
section
open Go.Conc
open Go.ConcN (sumTo upd sumTo_upd upd_ne upd_same)
variable [pn:Pn]
section
variable {P:bT} {F:Array jE} {X:Nat->Prop}
def sy(X:ZP)(l:Loc):Prop:=∃a,l=kF a/\X a.block
def uw(X:ZP)(l:Loc):Prop:=∃r,l=nG r/\X r
structure sZ(X:ZP)(B:Nat)(t:fG):Prop where
 fM:∀said,¬Race said t
 jZ:∀i a,li t i=ac a->a.loc.isMemory=aw->Knows t 0 i\/(sy X a.loc/\a.kind= .atomic)\/(uw X a.loc/\a.write=ao)
 lC:t.HandedOver
 td:Deaf t 0=0
 gc:∀i a,li t i=ac a->a.loc.low B
def yZ(X:ZP)(B:Nat)(e:lh):Prop:=(∀x,(bN e).touch?=ac x->(sy X x.loc->x.kind≠ .plain)/\(uw X x.loc->x.write=ao)/\x.loc.low B)/\e.loc≠ .mark mR/\e.loc≠ .mark mQ
def Ep{n e}(h:sV X n e){x}(hx:(bN e).touch?=ac x):x.loc.low n/\(x.loc.isMemory=aw->¬sy X x.loc/\∀r,x.loc=nG r->X r->x.write=ao):=by
 obtain⟨l,f,g⟩:=e;cases l with
 |cell a=>
  have c:¬X a.block/\a.block<n:=h;simp only[ofEvent_cell0,bY,xj]at hx;subst hx;exact⟨c.2,λ_=>⟨λ⟨b,e,d⟩=>Â,λr e=>Ç⟩⟩
 |obj r=>
  have c:(X r->f=ao)/\r<n:=h;cases f<;>cases g
  simp only[bN,bY,xj]at hx;subst hx;exact⟨c.2,λ_=>⟨λ⟨b,e,d⟩=>Ç,λr e hx=>rfl⟩⟩;simp only[bN,bY,xj]at hx;subst hx;exact⟨c.2,λ_=>⟨λ⟨b,e,d⟩=>Ç,λr e hx=>rfl⟩⟩;simp only[bN,bY,xj]at hx;subst hx;exact⟨c.2,λ_=>⟨λ⟨b,e,d⟩=>Ç,λr e hx=>Â⟩⟩;grind [bN,bY]
 |output=>
  simp only[bN,bY,xj]at hx;subst hx;exact⟨trivial,λh=>Ê⟩
 |goroutines=>exact h.elim|mark m=>cases m<;>first|exact h.elim|grind [bN,bY]
def Er{n e}(h:sV X n e):e.loc≠ .mark mR/\e.loc≠ .mark mQ/\∀a,e.loc≠ .mark (jC a):=by
 obtain⟨l,c,b⟩:=e;cases l with
 |mark m=>cases m<;>first|exact h.elim|simp
 |_=>simp
def yZ.sX{n e}(h:sV X n e):yZ X n e:=by refine⟨λx c=>⟨λb=>?_,λb=>?_,(Ep h c).1⟩,(Er h).1,(Er h).2.1⟩;exact absurd b ((Ep h c).2<|by obtain⟨a,e,_⟩:=b;rw[e];rfl).1;obtain⟨r,e,d⟩:=b;exact((Ep h c).2<|by rw[e];rfl).2 r e d
section
variable {B B':Nat} {t u:fG}
def sZ.W(h:sZ X B t)(b:B<=B'):sZ X B' t:=⟨h.fM,h.jZ,h.lC,h.td,λi a c=>Loc.low_mono b<|h.gc i a c⟩
def Z9{i a}(h:li (t++u) i=ac a):(i<ak t/\li t i=ac a)\/(ak t<=i/\∃op∈u,(t++u)[i]?=ac op/\op.act.touch?=ac a):=by obtain⟨x,c,b⟩:=touch_of h;grind [touchAt_of]
theorem sZ.cO(h:sZ X B t){fn pos es}(j:∀e∈es,yZ X B e):sZ X B<|t++aS 0 fn pos es:=by
 have v:∀d∈aS 0 fn pos es,d.g=0:=λd c=>Ö
 have s:∀d∈aS 0 fn pos es,∀x,d.act.touch?=ac x->(sy X x.loc->x.kind≠ .plain)/\(uw X x.loc->x.write=ao)/\x.loc.low B:=λd c x q=>by obtain⟨e,n,rfl⟩:=zy c;exact(j e n).1 x q
 refine⟨λsaid=>nM (h.fM said) v λi a l d c b r m=>?_,λi a l w=>?_,handedOver_app h.lC λd c=>aF (v d c), ?_,λi a l=>?_⟩;obtain hk|⟨k,o⟩|⟨k,o⟩:=h.jZ i a l m.2.1;exact hk;have p:=(s d c b r).1<|m.1▸k;obtain x|x|⟨_,x,_⟩:=m.c;grind;grind;grind;have p:=(s d c b r).2.1<|m.1▸k;obtain x|x:=m.2.2.1;grind;grind;obtain⟨_,f⟩|⟨_,d,c,q,_⟩:=Z9 l;exact(h.jZ i a f w).imp (·.app _) id;grind [knows_own];rw[lm,deafBehind_still λe n=>⟨(j e n).2.1,(j e n).2.2⟩];exact h.td;obtain⟨_,f⟩|⟨_,d,c,q,y⟩:=Z9 l;exact h.gc i a f;grind
theorem sZ.xQ(h:sZ X B t){g}(n:g≠0){fn pos es}(l:∀e∈es,e.mute=aw):sZ X B<|t++aS g fn pos es:=by
 have m:∀d∈aS g fn pos es,d.g=g:=λd c=>Ö
 have o:∀d∈aS g fn pos es,d.act.touch?=ar:=λd c=>ă
 refine⟨λsaid=>nM (h.fM said) m λi a _ d c b q _=>Â,λi a j l=>?_,handedOver_app h.lC λd c=>aE (o d c),(cU t n _ m).trans h.td,λi a j=>?_⟩;obtain⟨_,f⟩|⟨_,d,c,p,k⟩:=Z9 j;exact(h.jZ i a f l).imp (·.app _) id;grind;obtain⟨_,f⟩|⟨_,d,c,p,k⟩:=Z9 j;exact h.gc i a f;grind
end
def JL(P:Zp)(X:ZP)(k:Nat×Nat)(gs:Array Zg)(v:Zy)(t:fG):Prop:=
 ∃q,Leavers P t gs q/\sZ X (ak v.heap) t/\(0,iX (ak gs) q)=k
def Yl:AP P X (JL P X) where
 iS k gs v t hJ i g hi hg:=by obtain⟨q,a,_⟩:=hJ;exact mW<|(a.old i _ hi hg).status.elim aF λx=>aE (aE x)
 fZ k gs v t d hJ:=hJ
 dE k gs v t i g1 g0 sl hJ hpos hi hg1 h0 hrun hdy:=by
  obtain⟨q,a,s,rfl⟩:=hJ;have f:=a.old i g1 hpos hi;have z:(i==0)=ao:=Æ
  have n:i<ak gs:=(za.1 hi).1;cases hqi:q i with
  |zero=>rw[hqi]at f;rw[f.1]at hg1;cases hg1
  |succ k=>
   rw[hqi]at f;obtain⟨K,_⟩|⟨_,g',G,I,p,J⟩:=f;grind;have l:=oS (P:=P) (sl:=sl) (i:=i) hi (by rw[z];exact p v);have C:ak (ay (gs.map<|woken P g1 g' v) i g')=ak gs:=Ä
   have F:iX (ak gs) (upd q i k)+(k+1)=iX (ak gs) q+k:=by have:=sumTo_upd q k id n;simpa[hqi]using this
   refine⟨_,v,sl,_,(0,iX (ak gs)<|upd q i k),l,.right _ À, ?_,⟨upd q i k,⟨λj x m r=>?_,λj m=>?_⟩,s.xQ À I,by rw[C]⟩,λw h=>h⟩;grind [woken_run];by_cases b:i=j;grind [upd_same,lm];rw[zl b,jt]at r;obtain⟨y,D,rfl⟩:=zv.1 r;have o:=a.old j y m D;rw[iA o,upd_ne q k<|Ne.symm b,cU t b _ λE c=>Ö];exact o;rw[cU t (g':=i) À _ λE c=>Ö];exact a.above j À
 cO k gs v t g0 g' v' G hJ h0 hst hrun hrun' hk hes hg:=by
  obtain⟨q,a,s,rfl⟩:=hJ;have n:0<ak gs:=(za.1 h0).1;refine⟨q,⟨λj x m r=>?_,λj m=>?_⟩,(s.W hg).cO λe H=> .sX (hes e H),Ä⟩;have B:0≠j:=À
  rw[zl B,jt]at r;obtain⟨y,D,rfl⟩:=zv.1 r;have f:=a.old j y m D;rw[iA f,cU t À _ λE c=>Ö];exact f;rw[cU t (g':=0) Â _ λE c=>Ö];exact a.above j Â
end
end
section
open Go.Conc
variable [pn:Pn]
section
variable {P:bT} {F:Array jE} {X:Nat->Prop} {dm:fk} {G G':cA->cY->Prop}
structure xO(P:Zp)(X:ZP)(g:Zg)(w:Zy)(m:Machine)(t:fG):Prop where
 Ef:∃gs v sl k,m=fL gs v sl/\gs[0]?=ac g/\JL P X k gs v t/\Sm P X (re w v.tape v.drawn) v
 ok:ry P g
 oC:g.status=aZ
 dy:g.dying=ar
def RX(P:Zp)(g:Zg)(w:Zy)(G:Zg->Zy->Prop):Prop:=
 ∀X m t,xO P X g w m t->∃N m' t' X' g' w',eT P N m t=(fS m',t')/\(∀x,X x->X' x)/\xO P X' g' w' m' t'/\G g' w'
theorem RX.refl{g w}(h:G g w):RX P g w G:=λX m t a=>⟨0,m,t,X,g,w,rfl,λ_ h=>h,a,h⟩
theorem RX.aA{g w}(h:RX P g w G)(k:∀g' w',G g' w'->RX P g' w' G'):RX P g w G':=λX m t r=>by obtain⟨N,v,z,b,p,w1,d,e,f,i⟩:=h X m t r;obtain⟨a,y,B,c,q,C,j,l,n,o⟩:=k p w1 i b v z f;exact⟨N+a,y,B,c,q,C,qr d j,λx s=>l x<|e x s,n,o⟩
def RX.W{g w}(h:RX P g w G)(k:∀g' w',G g' w'->G' g' w'):RX P g w G':=h.aA λg' w' a=> .refl (k g' w' a)
theorem xO.re{g:Zg}{w:Zy}{m:Machine}{t:fG}(h:xO P X g w m t)(tp:Nat->Question->Nat)(d:Nat):xO P X g (re w tp d) m t:=⟨h.Ef,h.ok,h.oC,h.dy⟩
theorem RX.re{g w tp d}(h:RX P g (A.re w tp d) G):RX P g w G:=λX m t a=>h X m t<|a.re tp d
def RX.rA(K:Yk P F)(j:mF P dm){End:Zg->Zy->Prop}(n:∀g w t d,End g (A.re w t d)↔End g w)(i:∀g w,End g w->¬ux P g)
  {fr cs w}(s:¬Mc P fr.fn)(hk:fr.kind=cJ)(b:∀t d,∃fr' cs' w',Steps (wf P F) (lone fr [dm]<|A.re w t d) (lone fr' cs' w')/\End (Xh fr' cs') w'):
  RX P (Xh fr cs) w (λg2 w'=>∃g' l,End g' w'/\g'.callers=l++[dm]/\g2={g' with callers:=l++cs}):=by
 rintro X m t⟨⟨G,v,sl,k,rfl,q,r,x⟩,a,_,_⟩;obtain⟨N,f,E,o,D,y,g',w',g2,z,B,r3,C,c⟩:=A.rA (sl:=sl) K j Yl n i (aF<|a.1.resolve_left s) hk b a.2 r q x;obtain⟨l,p,e,_⟩:=c.uV;exact⟨N,_,D,X,g2,w',z,λ_ h=>h,⟨⟨f,E,o,y,rfl,r3,B,c.sm⟩,c.CL,by rw[e];exact c.oC,by rw[e];exact c.dy⟩,g',l,C,p,e⟩
def RX.qv{g g' w es}(h:∀v,bF P aw g v=gj g' v es)(F:ry P g->ry P g')(Z:g'.status=aZ)(hd:g'.dying=ar)(D:∀(X:ZP) (n:Nat),∀e∈es,yZ X n e):RX P g w λg1 w1=>g1=g'/\w1=w:=by
 rintro X m t⟨⟨b,v,sl,k,rfl,z,K,W⟩,ok,f,C⟩;induction k using AQ.induction generalizing b v sl t with
 |_ k ih=>
  have B:∀g∈b,awake g:=by intro g1 l;obtain⟨i,r,rfl⟩:=Xd.1 l;obtain rfl|a:=jh i;grind [mW];exact Yl.iS k b v t K i _ a<|xy r
  obtain⟨i,g1,d,c,r,l,ba⟩:=crowd_pick (P:=P) (w:=v) (sl:=sl) B ⟨0,g,z,f⟩;have o:=Yl.fZ k b v t d K;have p:Sm P X (A.re w v.tape d)<|v.at d:=W.re v.tape d;obtain rfl|a:=jh i;obtain rfl:g1=g:=Â
  have H:=oS (P:=P) (sl:=c) (i:=0) r (show bF P (0==0) g1 (v.at d)=_ from h<|v.at d);have Y:0<ak b:=(za.1 z).1;obtain⟨q,L,V,rfl⟩:=o;refine⟨1,fL (ay (b.map<|woken P g1 g'<|v.at d) 0 g') (v.at d) c,t++aS 0 g1.frame.fn g1.frame.place es,X,g',w,ò,λ_ h=>h,⟨⟨ay (b.map<|woken P g1 g'<|v.at d) 0 g',v.at d,c,(0,iX (ak b) q),rfl,Â,⟨q,⟨λj x M Q=>?_,λj M=>?_⟩, ?_,Ä⟩,p⟩,F ok,Z,hd⟩,rfl,rfl⟩;have E:0≠j:=À
  rw[zl E,jt]at Q;obtain⟨y,hy,rfl⟩:=zv.1 Q;have O:=L.old j y M hy;rw[iA O,cU t À _ λop G=>Ö];exact O;rw[cU t (g':=0) Â _ λop G=>Ö];exact L.above j Â;exact V.cO<|D _ _;obtain⟨s,v',J,I,k',r1,r2,r3,r4,r5⟩:=Yl.dE k b (v.at d) t i g1 g c o a r l z f C;obtain⟨N,m',t',R,U,w2,S,T⟩:=ih k' r2 (t++I) s v' J r3 r4<|r5 w p;exact⟨1+N,m',t',R,U,w2,qr ò S,T⟩
end
section
variable {P:bT} {F:Array jE} {X:Nat->Prop} {dm:fk} {G G':cA->cY->Prop}
def RX.sY(K:Yk P F){g w}(R:¬Mc P g.frame.fn)(e:∀X,Sm P X w w->∀t d,(∃g' w',oT (wf P F) g (A.re w t d) g' w'/\G g' w')/\tX P F (aa g.callers) (bF (wf P F) aw g<|A.re w t d)):RX P g w G:=by
 rintro X m t⟨⟨M,v,sl,k,rfl,O,Q,x⟩,r,i,q⟩;have c:Sm P X w w:=x.iC.re w.tape w.drawn;induction k using AQ.induction generalizing M v sl t with
 |_ k ih=>
  obtain⟨f,B,j,z,y,U⟩:=Ra (sl:=sl) (cs1:=[]) (cs2:=[]) Yl (K.zA X) K.na K.ro (g:=g) (g2:=g) (w:=w) ⟨⟨g.callers,Ä,Ä,aF ⟨rfl,rfl⟩⟩,i,q,r,r,x⟩ (r.1.resolve_left R)
   (λt d=>by obtain⟨⟨g',w',a,_⟩,_⟩:=e X c t d;grind) (λt d=>(e X c t d).2) Q O
  obtain⟨S,n,o,p,b⟩|⟨W,d,g',w',g2,n,o,p,b,_⟩:=U;obtain⟨N,T,V,C,g2,Y,D,E⟩:=ih S n z f B j p o b.sm;exact⟨1+N,T,V,C,g2,Y,qr y D,E⟩;obtain⟨⟨L,w1,H,I⟩,_⟩:=e X c W d;obtain⟨rfl,rfl⟩:=H.AN n;obtain⟨l,s,J,_⟩:=b.uV;have:g2=L:=by rw[J,Xz];rw[Xz]at s;rw[<-s]
  subst this;exact⟨1,_,z,X,g2,w1,y,λ_ h=>h,⟨⟨f,B,j,k,rfl,p,o,b.sm⟩,b.CL,b.oC,b.dy⟩,I⟩
def AR(P:Zp)(F:Zc)(fr:Zf)(w:Zy)(e:kU):Prop:=e≠ iE/\∃t d,fr.leaving (wf P F) (re w t d) e
def CX(P:Zp)(F:Zc)(f:FuncId)(args:Za)(w:Zy)(R:kU->Zy->Prop):Prop:=
 ∀cs,RX P (Xh (aT P f args cJ) cs) w λg' w'=>∃e fr,R e w'/\g'=Xh fr cs/\fr.fn=f/\AR P F fr w' e
def CX.o0(K:Yk P F)(r:mF P dm){f args w}{R:(Nat->Question->Nat)->Nat->kU->Zy->Prop}(D:Vi P F f)(z:¬Mc P f)(x:∀t d w',¬R t d iE w')
  (h:∀t d,aG (wf P F) f args (re w t d)<|R t d):CX P F f args w λe w'=>∃t d t1 d1,R t d e<|re w' t1 d1:=by
 intro cs;have C:∀p,(aT p f args cJ).fn=f:=λ_=>rfl;have B:aT (wf P F) f args cJ=aT P f args cJ:=DQ D.1 args cJ;refine(RX.rA (fr:=aT P f args cJ) (cs:=cs) (w:=w) (dm:=dm) K r
  (End:=λm w'=>∃e fr t d t1 d1,R t d e (A.re w' t1 d1)/\e≠ iE/\m=Xh fr [dm]/\fr.fn=f/\fr.leaving (wf P F) (A.re w' t1 d1) e) (λm w' t d=>Iff.rfl) ?_ z rfl ?_).W ?_
 rintro m w'⟨e,fr,t,d,t1,d1,_,g,rfl,_,k⟩ ⟨_,hd⟩;cases e with
 |outgrown=>grind
 |returned v=>
  obtain⟨a,b,_⟩:=k;obtain⟨i,_⟩|⟨_,i,_⟩:=hd;have j:fr.mode= .run:=i;grind;have j:fr.defers=[_]:=i;grind
 |panicked c=>obtain⟨a,b,_⟩:=k;obtain⟨i,_⟩|⟨_,i,_⟩:=hd;have j:fr.mode= .run:=i;grind;have j:fr.defers=[_]:=i;grind
 intro t d;obtain⟨e,w',fr,n,o,s,k⟩:=h t d [dm];rw[B]at o;have g:e≠ iE:=by rintro rfl;exact x _ _ _ n
 refine⟨fr,[dm],w', ?_,e,fr,t,d,w'.tape,w'.drawn,n,g,rfl,s,k⟩;cases e with
 |outgrown=>grind|returned v=>exact o
 |panicked c=>exact o
 rintro E w'⟨m,l,⟨e,fr,t,d,t1,d1,n,g,rfl,s,k⟩,q,rfl⟩;have:l=[]:=by have y:[dm]=l++[dm]:=q;have:=congrArg aa y;simp only[zx,Zr]at this;exact jv À
 subst this;exact⟨e,fr,⟨t,d,t1,d1,n⟩,rfl,s,g,t1,d1,k⟩
def Ru{fn c v w}(g:Sm P X w w){b a}(h:(dX fn c).run (wf P F) (re w b a)=cT v (re w b a))(t d):
  (dX fn c).run (wf P F) (re w t d)=cT v (re w t d):=by
 have f:=(GJ (P:=P) (F:=F) (X:=X) fn c).mY (re w b a) (g.re b a) (by rw[h];trivial);rw[h]at f;have:=f.2.2 t d (λi q j=>by have:(re w b a).drawn-(re w b a).drawn=0:=GE _;have k:i<(re w b a).drawn-(re w b a).drawn:=j;omega);have e:(re w b a).drawn-(re w b a).drawn=0:=GE _;rw[yP]at this;rw[this];show cT v (re (re w b a) t<|d+((re w b a).drawn-(re w b a).drawn))=_;rw[e];rfl
def RX.wi(K:Yk P F){fr c cs w v}(m:¬Mc P fr.fn)(h:AR P F fr w<|ah v):RX P (Xh fr (c::cs)) w λg' w'=>∃t d,g'=Xh (c.finish v) cs/\w'=A.re w t d:=by
 obtain⟨_,r,o,b,f,g,fn,i,j⟩:=h;refine RX.sY K m λX n t d=>?_;have l:=Ru n j t d;have e:∃a,bF (wf P F) aw (Xh fr (c::cs)) (A.re w t d)=gj (Xh (c.finish v) cs) (A.re w t d) a:=by simp only[bF,Xh,cW,ft,b,f,g,i,ze,l];exact⟨_,rfl⟩
 obtain⟨a,e⟩:=e;refine⟨⟨_,_,⟨a,e,rfl,rfl⟩,t,d,rfl,rfl⟩,λg' w' k p q=>?_⟩;grind [Xh]
theorem RX.gV{fr c cs w a}(h:AR P F fr w<|gU a)(b:∃fn,P.funcs[fr.fn]?=ac fn):RX P (Xh fr (c::cs)) w λg' w'=>g'=Xh (c.raise a) cs/\w'=w:=by
 obtain⟨_,j,g,e,f,_⟩:=h;obtain⟨fn,b⟩:=b;refine RX.qv (es:=#[]) (λv=>?_) (λd=>⟨(d.2 c<|by simp[Xh]).gV _,λx i=>d.2 x<|by grind [Xh]⟩) rfl rfl Ä
 grind [bF,Xh,cW,Frame.catches]
end
end
section
variable [pn:Pn]
section
variable {α β:Type} {P:bT} {F:Array jE} {X:Nat->Prop}
def xmn(t:Zt)(r):B P F X<|Extern.MapsClone.clone #[gB t<|eK<|some r]:=by
 show B P F X (lS r>>=λo=>match o with
  | .map entries clock=>newObj (.map entries clock)>>=λx=>(fX (gB t<|Value.map<|some x):Sem Zv)
  |_=>stuck "maps.clone: a map expected")
 refine yO (λo c b=>?_) λo b w=>?_;grind [xq,xI,xr,xz];cases o<;>first|(cases b;done)|exact⟨id,trivial⟩
def xr3(a):B P F X<|Extern.MapsClone.clone a:=by
 obtain⟨l⟩:=a
 match l with
 |[]=>exact xz _|_::_::_=>exact xz _
 |[x]=>
  cases x with
  |iface t y=>
   cases y with
   |map r=>
    cases r with|none=>exact Yb _ trivial|some r=>exact xmn t r
   |_=>exact xz _
  |_=>exact xz _
theorem xit(n):B P F X<|cutType n:=by unfold cutType;refine Xq rfl ?_;grind [xr,xz]
theorem xmp(t:Zt):B P F X<|Extern.Rtype.handle t:=by unfold Extern.Rtype.handle;exact Xq rfl<|xr _
def xch(h):B P F X<|Extern.Rtype.ofHandle h:=by unfold Extern.Rtype.ofHandle;refine Xq rfl ?_;grind [xr,xz]
def xmy(a):B P F X<|Extern.ReflectliteType.typeOf a:=by
 obtain⟨l⟩:=a
 match l with
 |[]=>exact xz _|_::_::_=>exact xz _
 |[x]=>
  cases x with
  |nilIface=>exact xr _|iface t y=>show B P F X<|Extern.ReflectliteType.toType t;grind [Extern.ReflectliteType.toType,xq,xit,xmp,xr]
  |_=>exact xz _
def xmu(s)(t:Zt):B P F X<|Extern.Rtype.noPack s t:=by unfold Extern.Rtype.noPack;refine Xq ?_<|oF (Yb _ trivial)<|xr _;simp only[Qm]
def zv2(s)(t:Zt):B P F X<|Extern.Rtype.noPackHeld s t:=by unfold jF;refine Xq ?_<|Xq ?_<|oF (Yb _ trivial)<|xr _;grind [Cw];grind [Vx]
def xix(r):B P F X<|Extern.ReflectliteType.ofRtype r:=by
 cases r with
 |agg a=>
  obtain⟨l⟩:=a
  match l with
  |[]=>exact xz _|_::_::_=>exact xz _
  |[h]=>exact xq (xch h) λt=>xq (xmu _ t) λ_=>xr _
 |_=>exact xz _
def xiz(f:Zt->Sem Zv)(b:∀t,B P F X<|f t)(a):B P F X<|Extern.ReflectliteType.method f a:=by
 obtain⟨l⟩:=a
 match l with
 |[]=>exact xz _|_::_::_=>exact xz _
 |[r]=>exact xq (xix r) b
def zvx(a):B P F X<|Extern.ReflectliteType.method (λt=>do jF "Comparable" t;fX (aX (<-typeInfo t).comparable)) a:=
 xiz _ (λt=>xq (zv2 _ t) λ_=>xq (vY t) λ_=>xr _) a
def zv1(e f a):B P F X<|Extern.BytealgMakeNoZero.makeNoZero e f a:=by
 obtain⟨l⟩:=a
 match l with
 |[]=>exact xz _|_::_::_=>exact xz _
 |[x]=>
  cases x with
  |int k n=>
   cases k with
   |i64=>
    have d:∀b,B P F X<|choose (.appendCap (bB n) 0 b)>>=λc=>askRoom c>>=λ_=>choose (.extern "internal/bytealg.MakeNoZero.bytes" 0)>>=λbytes=>newRow b (Extern.BytealgMakeNoZero.digits c bytes #[])>>=λa=>(fX (az (ac a) (bB n) c):Sem Zv):=λb=>
     xq (Vr _) λ_=>xq (Kr _) λ_=>xq (Vr _) λ_=>xq (ig.2.2.1 _ _) λ_=>xr _
    unfold jW;dsimp only;split;refine xq (Yz _) λu=>?_;grind [xq,qW,xz];exact xz _
   |_=>exact xz _
  |_=>exact xz _
end
end
section
open Go.Conc
def jer:List Nat:=[0,1,2,106,167,168,171,213,215,216,217,219,220,221,222,223,224,225,228,230,255,256,257,258,259,309,310,311,312,313,314,315,316,317,318,319,320,321,322,323,326,327,328,329,331,332,333,334,335,336,337,338,339,340,341,343,344,345,346,347,348]
def qx(i:Nat):Bool:=jer.contains i
def wk(f:jE):jE:={f with body:=ac<|.refuse ""}
def wj(i:Nat)(f:jE):jE:=if qx i then wk f else f
noncomputable def Tryq.cP:Zc:=Tryz.prog.funcs.mapIdx wj
noncomputable def Tryq.prog:Zp:=wf au Tryq.cP
def xay:Tryq.prog.funcs=Tryq.cP:=Á
def zxc:Tryq.prog.toTables=Tryz.prog.toTables:=Á
def wo(i):Tryq.cP[i]?=(Tryz.prog.funcs[i]?).map (wj i):=by unfold Tryq.cP;simp
def Eo{i f}(h:qx i=ao)(a:Tryz.prog.funcs[i]?=ac f):Tryq.prog.funcs[i]?=ac f:=by rw[xay,wo,a];grind [wj]
theorem jck{i f}(h:qx i=ao)(d:Tryz.prog.funcs[i]?=ac f)(e:(f.name== "runtime.NumGoroutine")=ao)(g:f.body.isNone=ao)(args w):(nE i args).run Tryq.prog w=cT (mo i args) w:=by
 have a:¬f.name= "runtime.NumGoroutine":=by simpa using e
 have b:=Eo h d;cases hb':f.body with|none=>simp_all|some c=>simp[nE,b,a,hb']
theorem Ro{i f}(h:qx i=aw)(a:Tryz.prog.funcs[i]?=ac f)(b:(f.name== "runtime.NumGoroutine")=ao):sT Tryq.cP i:=⟨wk f,"",by rw[wo,a];simp[wj,h],rfl,b⟩
theorem xu5:ak Tryz.prog.funcs=350:=Á
def Rs(f:jE):Bool:=!(f.name== "runtime.NumGoroutine")
noncomputable def Eh(i:Nat):Bool:=match Tryz.prog.funcs[i]?with
 |none=>aw
 |some fn=>Rs fn&&(qx i||match fn.body with
  |none=>i==71||i==150||i==209||i==251||i==330
  |some c=>i==160||q9 au aw c)
def xsg:(gO 350).all Eh=aw:=Á
def Ln{i}(h:i<350):Eh i=aw:=D3.1 xsg i<|List.mem_range.2 h
def Lv{i f}(h:Tryz.prog.funcs[i]?=ac f):i<350:=by grind [xu5]
theorem Es{i:Nat}{f}(h:Tryz.prog.funcs[i]?=ac f):(f.name== "runtime.NumGoroutine")=ao:=by have:=Ln<|Lv h;unfold Eh at this;grind [Rs]
theorem Rp{i f c}(h:Tryz.prog.funcs[i]?=ac f)(a:qx i=ao)(d:i≠160)(b:f.body=ac c):q9 au aw c=aw:=Ķ
def xt4{i f}(h:Tryz.prog.funcs[i]?=ac f)(a:qx i=ao)(b:f.body=ar):i=71\/i=150\/i=209\/i=251\/i=330:=Ķ
def Rr{i fn}(h:Tryq.cP[i]?=ac fn):∃f,Tryz.prog.funcs[i]?=ac f/\((qx i=aw/\fn=wk f)\/(qx i=ao/\fn=f)):=by rw[wo]at h;grind [wj]
theorem Rt{i fn}(h:Tryq.cP[i]?=ac fn)(a:fn.body.isNone=aw):(i=71/\fn=Tryz.f71)\/(i=150/\fn=Tryz.f150)\/(i=209/\fn=Tryz.f209)\/(i=251/\fn=Tryz.f251)\/(i=330/\fn=Tryz.f330):=by
 obtain⟨f,c,⟨_,rfl⟩|⟨b,rfl⟩⟩:=Rr h;simp[wk]at a;have d:fn.body=ar:=by simpa using a
 obtain rfl|rfl|rfl|rfl|rfl:=xt4 c b d;simp_all;simp_all;simp_all;simp_all;simp_all
def x71:mU Tryz.f71=ac Extern.MapsClone.clone:=Á
def Ek:mU Tryz.f150=ac ow:=Á
def jfe:mU Tryz.f251=ac (jW Tryz.f251.params Tryz.f251.resultTypes):=Á
def Em:mU Tryz.f330=ac (oy λt=>do jF "Comparable" t;fX (aX (<-typeInfo t).comparable)):=Á
def Rn:mU Tryz.f209=ac Extern.AbiNoEscape.same:=Á
theorem n71:jP Tryz.f71=ar:=Á
theorem Ei:jP Tryz.f150=ar:=Á
theorem Rm:jP Tryz.f209=ar:=Á
theorem je4:jP Tryz.f251=ar:=Á
theorem Ej:jP Tryz.f330=ar:=Á
end
section
open Tryq Go.Conc
section
variable (P:bT) (F:Array jE) (t:nt) (w:cY)
theorem Lr:(typeInfo t).run (wf P F) w=(typeInfo t).run P w:=by unfold typeInfo;simp[go_sem,AF];cases P.info? t<;>simp[go_sem]
theorem xe4:(sizeOf t).run (wf P F) w=(sizeOf t).run P w:=by unfold sizeOf;simp[go_sem,Lr]
theorem Ry:(eu t).run (wf P F) w=(eu t).run P w:=by unfold eu;simp[go_sem,Yj];cases P.underlying t<;>simp[go_sem]
theorem xlb:(isAgg t).run (wf P F) w=(isAgg t).run P w:=by
 unfold isAgg;simp[go_sem,Ry];cases(eu t).run P w with
 |ok d w'=>cases d<;>simp[go_sem]
 |halt h w'=>simp[go_sem]
theorem xq3:(zeroValue t).run (wf P F) w=(zeroValue t).run P w:=by
 unfold zeroValue;simp[go_sem,Lr];cases(typeInfo t).run P w with
 |ok d w'=>cases h:d.zero<;>simp[go_sem,h]
 |halt h w'=>simp[go_sem]
end
@[simp]def Tryq.CM:prog.toTables=Tryz.prog.toTables:=zxc
@[simp]def Tryq.ex(t:Zt):prog.underlying t=Tryz.prog.underlying t:=by grind [prog,Yj]
@[simp]def Tryq.AV(t:Zt)(w):(typeInfo t).run prog w=(typeInfo t).run au w:=by grind [prog,Lr]
@[simp]def Tryq.uY(t:Zt)(w):(sizeOf t).run prog w=(sizeOf t).run au w:=by grind [prog,xe4]
@[simp]def Tryq.AU(t:Zt)(w):(eu t).run prog w=(eu t).run au w:=by grind [prog,Ry]
@[simp]def Tryq.xP(t:Zt)(w):(isAgg t).run prog w=(isAgg t).run au w:=by grind [prog,xlb]
@[simp]def Tryq.AX(t:Zt)(w):(zeroValue t).run prog w=(zeroValue t).run au w:=by grind [prog,xq3]
@[simp]def Tryq.Lm(t:Zt):prog.stoodInHeld t=Tryz.prog.stoodInHeld t:=by grind [prog,xG]
@[simp]def Tryq.GV(t:Zt):prog.eqGuardType prog.depth t=Tryz.prog.eqGuardType Tryz.prog.depth t:=by grind [prog,Vx,Cv]
def qf{i:Nat}{f:jE}(a:Tryz.prog.funcs[i]?=ac f)(h:qx i=ao:=by exact rfl):prog.funcs[i]?=ac f:=Eo h a
def qc{i:Nat}{f:jE}(a:Tryz.prog.funcs[i]?=ac f)(h:(qx i||f.name== "runtime.NumGoroutine" ||f.body.isNone)=ao:=by exact rfl)(args:Za)(w:Zy):(nE i args).run prog w=cT (mo i args) w:=by grind [jck]
def qd{i:Nat}{f:jE}(a:Tryz.prog.funcs[i]?=ac f)(g:qx i=ao:=by exact rfl)(h:(qx i||f.name== "runtime.NumGoroutine" ||f.body.isNone)=ao:=by exact rfl):prog.funcs[i]?=ac f/\∀(args:Za) (w:Zy),(nE i args).run prog w=cT (mo i args) w:=⟨qf a g,qc a h⟩
namespace Tryq
@[simp]def func4:=qd Tryz.func4
@[simp]def func5:=qd Tryz.func5
@[simp]def func6:=qd Tryz.func6
@[simp]def func7:=qd Tryz.func7
@[simp]def func8:=qd Tryz.func8
@[simp]def func9:=qd Tryz.func9
@[simp]def func10:=qd Tryz.func10
@[simp]def func11:=qd Tryz.func11
@[simp]def func12:=qd Tryz.func12
@[simp]def func13:=qd Tryz.func13
@[simp]def func14:=qd Tryz.func14
@[simp]def func15:=qd Tryz.func15
@[simp]def func16:=qd Tryz.func16
@[simp]def func17:=qd Tryz.func17
@[simp]def func18:=qd Tryz.func18
@[simp]def func19:=qd Tryz.func19
@[simp]def func20:=qd Tryz.func20
@[simp]def func21:=qd Tryz.func21
@[simp]def func22:=qd Tryz.func22
@[simp]def func23:=qd Tryz.func23
@[simp]def func24:=qd Tryz.func24
@[simp]def func25:=qd Tryz.func25
@[simp]def func26:=qd Tryz.func26
@[simp]def func27:=qd Tryz.func27
@[simp]def func28:=qd Tryz.func28
@[simp]def func29:=qd Tryz.func29
@[simp]def func30:=qd Tryz.func30
@[simp]def func31:=qd Tryz.func31
@[simp]def func32:=qd Tryz.func32
@[simp]def func33:=qd Tryz.func33
@[simp]def func34:=qd ov
@[simp]def func35:=qd Tryz.func35
@[simp]def func36:=qd Tryz.func36
@[simp]def func37:=qd Tryz.func37
@[simp]def func38:=qd Tryz.func38
@[simp]def func39:=qd Tryz.func39
@[simp]def func40:=qd Tryz.func40
@[simp]def func41:=qd Tryz.func41
@[simp]def func42:=qd Tryz.func42
@[simp]def func43:=qd Tryz.func43
@[simp]def func44:=qd Tryz.func44
@[simp]def func45:=qd Tryz.func45
@[simp]def func46:=qd Tryz.func46
@[simp]def func47:=qd Tryz.func47
@[simp]def func48:=qd Tryz.func48
@[simp]def func49:=qd Tryz.func49
@[simp]def func50:=qd Tryz.func50
@[simp]def func51:=qd Tryz.func51
@[simp]def func52:=qd Tryz.func52
@[simp]def func53:=qd Tryz.func53
@[simp]def func54:=qd Tryz.func54
@[simp]def func55:=qd Tryz.func55
@[simp]def func56:=qd Tryz.func56
@[simp]def func57:=qd Tryz.func57
@[simp]def func58:=qd Tryz.func58
@[simp]def func59:=qd Tryz.func59
@[simp]def func60:=qd Tryz.func60
@[simp]def func61:=qd Tryz.func61
@[simp]def func62:=qd Tryz.func62
@[simp]def func63:=qd Tryz.func63
@[simp]def func64:=qd Tryz.func64
@[simp]def func65:=qd Tryz.func65
@[simp]def func66:=qd Tryz.func66
@[simp]def func67:=qd Tryz.func67
@[simp]def func68:=qd Tryz.func68
@[simp]def func69:=qd Tryz.func69
@[simp]def func70:=qd Tryz.func70
@[simp]def func71:=qf Tryz.func71
@[simp]def func72:=qd Tryz.func72
@[simp]def func73:=qd Tryz.func73
@[simp]def func74:=qd Tryz.func74
@[simp]def func75:=qd Tryz.func75
@[simp]def func76:=qd Tryz.func76
@[simp]def func77:=qd Tryz.func77
@[simp]def func78:=qd Tryz.func78
@[simp]def func79:=qd Tryz.func79
@[simp]def func80:=qd Tryz.func80
@[simp]def func81:=qd Tryz.func81
@[simp]def func82:=qd Tryz.func82
@[simp]def func83:=qd Tryz.func83
@[simp]def func84:=qd Tryz.func84
@[simp]def func85:=qd Tryz.func85
@[simp]def func86:=qd Tryz.func86
@[simp]def func87:=qd Tryz.func87
@[simp]def func88:=qd Tryz.func88
@[simp]def func89:=qd Tryz.func89
@[simp]def func90:=qd Tryz.func90
@[simp]def func91:=qd Tryz.func91
@[simp]def func92:=qd Tryz.func92
@[simp]def func93:=qd Tryz.func93
@[simp]def func94:=qd Tryz.func94
@[simp]def func95:=qd Tryz.func95
@[simp]def func96:=qd Tryz.func96
@[simp]def func97:=qd Tryz.func97
@[simp]def func98:=qd Tryz.func98
@[simp]def func99:=qd Tryz.func99
@[simp]def func100:=qd Tryz.func100
@[simp]def func101:=qd Tryz.func101
@[simp]def func102:=qd Tryz.func102
@[simp]def func103:=qd Tryz.func103
@[simp]def func104:=qd Tryz.func104
@[simp]def func105:=qd Tryz.func105
@[simp]def func107:=qd Tryz.func107
@[simp]def func108:=qd Tryz.func108
@[simp]def func109:=qd Tryz.func109
@[simp]def func110:=qd Tryz.func110
@[simp]def func111:=qd Tryz.func111
@[simp]def func112:=qd Tryz.func112
@[simp]def func113:=qd Tryz.func113
@[simp]def func114:=qd Tryz.func114
@[simp]def func115:=qd Tryz.func115
@[simp]def func116:=qd Tryz.func116
@[simp]def func117:=qd Tryz.func117
@[simp]def func118:=qd Tryz.func118
@[simp]def func119:=qd Tryz.func119
@[simp]def func120:=qd Tryz.func120
@[simp]def func121:=qd Tryz.func121
@[simp]def func122:=qd Tryz.func122
@[simp]def func123:=qd Tryz.func123
@[simp]def func124:=qd Tryz.func124
@[simp]def func125:=qd Tryz.func125
@[simp]def func126:=qd Tryz.func126
@[simp]def func127:=qd Tryz.func127
@[simp]def func128:=qd Tryz.func128
@[simp]def func129:=qd Tryz.func129
@[simp]def func130:=qd Tryz.func130
@[simp]def func131:=qd Tryz.func131
@[simp]def func132:=qd Tryz.func132
@[simp]def func133:=qd Tryz.func133
@[simp]def func134:=qd Tryz.func134
@[simp]def func135:=qd Tryz.func135
@[simp]def func136:=qd Tryz.func136
@[simp]def func137:=qd Tryz.func137
@[simp]def func138:=qd Tryz.func138
@[simp]def func139:=qd Tryz.func139
@[simp]def func140:=qd Tryz.func140
@[simp]def func141:=qd Tryz.func141
@[simp]def func142:=qd Tryz.func142
@[simp]def func143:=qd Tryz.func143
@[simp]def func144:=qd Tryz.func144
@[simp]def func145:=qd Tryz.func145
@[simp]def func146:=qd Tryz.func146
@[simp]def func147:=qd Tryz.func147
@[simp]def func148:=qd Tryz.func148
@[simp]def func149:=qd Tryz.func149
@[simp]def func150:=qf Tryz.func150
@[simp]def func151:=qd Tryz.func151
@[simp]def func152:=qd Tryz.func152
@[simp]def func153:=qd Tryz.func153
@[simp]def func154:=qd Tryz.func154
@[simp]def func155:=qd Tryz.func155
@[simp]def func156:=qd Tryz.func156
@[simp]def func157:=qd Tryz.func157
@[simp]def func158:=qd Tryz.func158
@[simp]def func159:=qd Tryz.func159
@[simp]def func161:=qd Tryz.func161
@[simp]def func162:=qd Tryz.func162
@[simp]def func163:=qd Tryz.func163
@[simp]def func164:=qd Tryz.func164
@[simp]def func165:=qd Tryz.func165
@[simp]def func166:=qd Tryz.func166
@[simp]def func169:=qd Tryz.func169
@[simp]def func170:=qd Tryz.func170
@[simp]def func172:=qd Tryz.func172
@[simp]def func173:=qd Tryz.func173
@[simp]def func174:=qd Tryz.func174
@[simp]def func175:=qd Tryz.func175
@[simp]def func176:=qd Tryz.func176
@[simp]def func177:=qd Tryz.func177
@[simp]def func178:=qd Tryz.func178
@[simp]def func179:=qd Tryz.func179
@[simp]def func180:=qd Tryz.func180
@[simp]def func181:=qd Tryz.func181
@[simp]def func182:=qd Tryz.func182
@[simp]def func183:=qd Tryz.func183
@[simp]def func184:=qd Tryz.func184
@[simp]def func185:=qd Tryz.func185
@[simp]def func186:=qd Tryz.func186
@[simp]def func187:=qd Tryz.func187
@[simp]def func188:=qd Tryz.func188
@[simp]def func189:=qd Tryz.func189
@[simp]def func190:=qd Tryz.func190
@[simp]def func191:=qd Tryz.func191
@[simp]def func192:=qd Tryz.func192
@[simp]def func193:=qd Tryz.func193
@[simp]def func194:=qd Tryz.func194
@[simp]def func195:=qd Tryz.func195
@[simp]def func196:=qd Tryz.func196
@[simp]def func197:=qd Tryz.func197
@[simp]def func198:=qd Tryz.func198
@[simp]def func199:=qd Tryz.func199
@[simp]def func200:=qd Tryz.func200
@[simp]def func201:=qd Tryz.func201
@[simp]def func202:=qd Tryz.func202
@[simp]def func203:=qd Tryz.func203
@[simp]def func204:=qd Tryz.func204
@[simp]def func205:=qd Tryz.func205
@[simp]def func206:=qd Tryz.func206
@[simp]def func207:=qd Tryz.func207
@[simp]def func208:=qd Tryz.func208
@[simp]def func210:=qd Tryz.func210
@[simp]def func211:=qd Tryz.func211
@[simp]def func212:=qd Tryz.func212
@[simp]def func214:=qd Tryz.func214
@[simp]def func218:=qd Tryz.func218
@[simp]def func226:=qd Tryz.func226
@[simp]def func227:=qd Tryz.func227
@[simp]def func229:=qd Tryz.func229
@[simp]def func231:=qd Tryz.func231
@[simp]def func232:=qd Tryz.func232
@[simp]def func233:=qd Tryz.func233
@[simp]def func234:=qd Tryz.func234
@[simp]def func235:=qd Tryz.func235
@[simp]def func236:=qd Tryz.func236
@[simp]def func237:=qd Tryz.func237
@[simp]def func238:=qd Tryz.func238
@[simp]def func239:=qd Tryz.func239
@[simp]def func240:=qd Tryz.func240
@[simp]def func241:=qd Tryz.func241
@[simp]def func242:=qd Tryz.func242
@[simp]def func243:=qd Tryz.func243
@[simp]def func244:=qd Tryz.func244
@[simp]def func245:=qd Tryz.func245
@[simp]def func246:=qd Tryz.func246
@[simp]def func247:=qd Tryz.func247
@[simp]def func248:=qd Tryz.func248
@[simp]def func249:=qd Tryz.func249
@[simp]def func250:=qd Tryz.func250
@[simp]def func251:=qf Tryz.func251
@[simp]def func252:=qd Tryz.func252
@[simp]def func253:=qd Tryz.func253
@[simp]def func254:=qd Tryz.func254
@[simp]def func260:=qd Tryz.func260
@[simp]def func261:=qd Tryz.func261
@[simp]def func262:=qd Tryz.func262
@[simp]def func263:=qd Tryz.func263
@[simp]def func264:=qd Tryz.func264
@[simp]def func265:=qd Tryz.func265
@[simp]def func266:=qd Tryz.func266
@[simp]def func267:=qd Tryz.func267
@[simp]def func268:=qd Tryz.func268
@[simp]def func269:=qd Tryz.func269
@[simp]def func270:=qd Tryz.func270
@[simp]def func271:=qd Tryz.func271
@[simp]def func272:=qd Tryz.func272
@[simp]def func273:=qd Tryz.func273
@[simp]def func274:=qd Tryz.func274
@[simp]def func275:=qd Tryz.func275
@[simp]def func276:=qd Tryz.func276
@[simp]def func277:=qd Tryz.func277
@[simp]def func278:=qd Tryz.func278
@[simp]def func279:=qd Tryz.func279
@[simp]def func280:=qd Tryz.func280
@[simp]def func281:=qd Tryz.func281
@[simp]def func282:=qd Tryz.func282
@[simp]def func283:=qd Tryz.func283
@[simp]def func284:=qd Tryz.func284
@[simp]def func285:=qd Tryz.func285
@[simp]def func286:=qd Tryz.func286
@[simp]def func287:=qd Tryz.func287
@[simp]def func288:=qd Tryz.func288
@[simp]def func289:=qd Tryz.func289
@[simp]def func290:=qd Tryz.func290
@[simp]def func291:=qd Tryz.func291
@[simp]def func292:=qd Tryz.func292
@[simp]def func293:=qd Tryz.func293
@[simp]def func294:=qd Tryz.func294
@[simp]def func295:=qd Tryz.func295
@[simp]def func296:=qd Tryz.func296
@[simp]def func297:=qd Tryz.func297
@[simp]def func298:=qd Tryz.func298
@[simp]def func299:=qd Tryz.func299
@[simp]def func300:=qd Tryz.func300
@[simp]def func301:=qd Tryz.func301
@[simp]def func302:=qd Tryz.func302
@[simp]def func303:=qd Tryz.func303
@[simp]def func304:=qd Tryz.func304
@[simp]def func305:=qd Tryz.func305
@[simp]def func306:=qd Tryz.func306
def ntmps307:=Tryz.ntmps307
@[simp]def func307:=qf Tryz.func307
@[simp]def jef:=qc Tryz.func307
def ntmps308:=Tryz.ntmps308
@[simp]def func308:=qf Tryz.func308
@[simp]def jeg:=qc Tryz.func308
@[simp]def func324:=qd Tryz.func324
@[simp]def func325:=qd Tryz.func325
@[simp]def func330:=qf Tryz.func330
@[simp]def func342:=qd Tryz.func342
@[simp]def func349:=qd Tryz.func349
end Tryq
end
section
open Tryq
def Tryq.fd:prog.underlying 3=ac (.int aU):=(ex 3).trans gI
def Tryq.eo:prog.underlying 5=ac (.int .u8):=(ex 5).trans Tryz.underlying5
def Tryq.dA:prog.underlying 9=ac lz:=(ex 9).trans oN
def Tryq.fC:prog.underlying 49=ac (.slice 9):=(ex 49).trans Tryz.underlying49
def Tryq.cI:prog.underlying 163=ac (.slice 5):=(ex 163).trans Tryz.underlying163
def Tryq.kj:prog.underlying 318=ac (.array 256 3):=(ex 318).trans Tryz.underlying318
def Tryq.km:prog.underlying 320=ac (.array 176 3):=(ex 320).trans Tryz.underlying320
def Tryq.iF:prog.underlying 336=ac (.array 64 243):=(ex 336).trans Tryz.underlying336
def Tryq.dK:prog.underlying 359=ac (.array 16 5):=(ex 359).trans Tryz.underlying359
def Tryq.mb:prog.underlying 368=ac (.array 256 5):=(ex 368).trans Tryz.underlying368
end
end A
namespace P
section
open Go
def xe{p}(h:p):aK p:=h
def u(x:Z3):Int:=(x.toNat:Int)
@[go_sem] abbrev zw(x:BitVec 32):dL:=aH bQ (u x)
def jdu(x):u x=(x.toNat:Int):=rfl
def Eu(x):0<=u x:=by simp[u]
def Et(x):u x<4294967296:=by simp only[u];omega
def A'(x):cX 32 (u x)=x:=by simp[u]
def CS(n)(a:0<=n)(h:n<4294967296):IntKind.u32.wrap n=n:=by grind [eP,eQ,ek]
def zC(a b):kf .xor bQ (u a) (u b)=u (a^^^b):=by show IntKind.u32.wrap ((cX 32 (u a)^^^cX 32 (u b)).toNat:Int)=_;rw[A',A'];exact CS _ (Eu _)<|Et _
def CY(a b):kf .and bQ (u a) (u b)=u (a&&&b):=by show IntKind.u32.wrap ((cX 32 (u a)&&&cX 32 (u b)).toNat:Int)=_;rw[A',A'];exact CS _ (Eu _)<|Et _
def rT(a b):kf .or bQ (u a) (u b)=u (a|||b):=by show IntKind.u32.wrap ((cX 32 (u a)|||BitVec.ofInt 32 (u b)).toNat:Int)=_;rw[A',A'];exact CS _ (Eu _)<|Et _
def CW(a b):IntKind.u32.wrap (u a+u b)=u (a+b):=by grind [eP,eQ,ek,u]
def CZ(a):kf .xor bQ IntKind.u32.max (u a)=u (~~~ a):=by show IntKind.u32.wrap ((cX 32 4294967295^^^cX 32 (u a)).toNat:Int)=_;rw[A',show cX 32 4294967295=BitVec.allOnes 32 from Ã,BitVec.allOnes_xor];exact CS _ (Eu _)<|Et _
def t7(a n k)(hk:k=((2^n:Nat):Int)):IntKind.u32.wrap (u a*k)=u (a<<<n):=by grind [eP,eQ,ek,u,Nat.shiftLeft_eq]
def sA(a n k)(hk:k=((2^n:Nat):Int)):u a/k=u (a>>>n):=by grind [u,Nat.shiftRight_eq_div_pow]
def Sa(a):u a/(4:Int)=u (a>>>2):=sA a 2 _ rfl
def Sb(a):u a/(8:Int)=u (a>>>3):=sA a 3 _ rfl
def Sc(a):u a/(64:Int)=u (a>>>6):=sA a 6 _ rfl
def RZ(a):IntKind.u32.wrap (u a*(128:Int))=u (a<<<7):=t7 a 7 _ rfl
def Sd(a):u a/(128:Int)=u (a>>>7):=sA a 7 _ rfl
def xz1(a):IntKind.u32.wrap (u a*(256:Int))=u (a<<<8):=t7 a 8 _ rfl
def xz2(a):u a/(256:Int)=u (a>>>8):=sA a 8 _ rfl
def Rz(a):IntKind.u32.wrap (u a*(1024:Int))=u (a<<<10):=t7 a 10 _ rfl
def RK(a):u a/(1024:Int)=u (a>>>10):=sA a 10 _ rfl
def RL(a):u a/(2048:Int)=u (a>>>11):=sA a 11 _ rfl
def RA(a):IntKind.u32.wrap (u a*(8192:Int))=u (a<<<13):=t7 a 13 _ rfl
def RM(a):u a/(8192:Int)=u (a>>>13):=sA a 13 _ rfl
def RB(a):IntKind.u32.wrap (u a*(16384:Int))=u (a<<<14):=t7 a 14 _ rfl
def RD(a):IntKind.u32.wrap (u a*(32768:Int))=u (a<<<15):=t7 a 15 _ rfl
def xvm(a):IntKind.u32.wrap (u a*(65536:Int))=u (a<<<16):=t7 a 16 _ rfl
def xvo(a):u a/(65536:Int)=u (a>>>16):=sA a 16 _ rfl
def RN(a):u a/(131072:Int)=u (a>>>17):=sA a 17 _ rfl
def RP(a):u a/(262144:Int)=u (a>>>18):=sA a 18 _ rfl
def RE(a):IntKind.u32.wrap (u a*(524288:Int))=u (a<<<19):=t7 a 19 _ rfl
def RQ(a):u a/(524288:Int)=u (a>>>19):=sA a 19 _ rfl
def RG(a):IntKind.u32.wrap (u a*(2097152:Int))=u (a<<<21):=t7 a 21 _ rfl
def RR(a):u a/(4194304:Int)=u (a>>>22):=sA a 22 _ rfl
def xvn(a):IntKind.u32.wrap (u a*(16777216:Int))=u (a<<<24):=t7 a 24 _ rfl
def xvp(a):u a/(16777216:Int)=u (a>>>24):=sA a 24 _ rfl
def RH(a):IntKind.u32.wrap (u a*(33554432:Int))=u (a<<<25):=t7 a 25 _ rfl
def RT(a):u a/(33554432:Int)=u (a>>>25):=sA a 25 _ rfl
def RI(a):IntKind.u32.wrap (u a*(67108864:Int))=u (a<<<26):=t7 a 26 _ rfl
def RJ(a):IntKind.u32.wrap (u a*(1073741824:Int))=u (a<<<30):=t7 a 30 _ rfl
def rr(x:Z3)(n:Nat):Z3:=x>>>n|||x<<<(32-n)
def jc9(x:Z3):x<<<30|||x>>>2=rr x 2:=Yd _ _
def jau:kf .and .u64 (IntKind.u64.wrap<|-2) 31=30:=È
def xzm(x:Z3):x<<<19|||x>>>13=rr x 13:=Yd _ _
def xxf:kf .and .u64 (IntKind.u64.wrap<|-13) 31=19:=È
def xzq(x:Z3):x<<<10|||x>>>22=rr x 22:=Yd _ _
def xxj:kf .and .u64 (IntKind.u64.wrap<|-22) 31=10:=È
def jda(x:Z3):x<<<26|||x>>>6=rr x 6:=Yd _ _
def jav:kf .and .u64 (IntKind.u64.wrap<|-6) 31=26:=È
def xzl(x:Z3):x<<<21|||x>>>11=rr x 11:=Yd _ _
def xxe:kf .and .u64 (IntKind.u64.wrap<|-11) 31=21:=È
def xzr(x:Z3):x<<<7|||x>>>25=rr x 25:=Yd _ _
def xxk:kf .and .u64 (IntKind.u64.wrap<|-25) 31=7:=È
def jdb(x:Z3):x<<<25|||x>>>7=rr x 7:=Yd _ _
def jaw:kf .and .u64 (IntKind.u64.wrap<|-7) 31=25:=È
def xzo(x:Z3):x<<<14|||x>>>18=rr x 18:=Yd _ _
def xxh:kf .and .u64 (IntKind.u64.wrap<|-18) 31=14:=È
def xzn(x:Z3):x<<<15|||x>>>17=rr x 17:=Yd _ _
def xxg:kf .and .u64 (IntKind.u64.wrap<|-17) 31=15:=È
def xzp(x:Z3):x<<<13|||x>>>19=rr x 19:=Yd _ _
def xxi:kf .and .u64 (IntKind.u64.wrap<|-19) 31=13:=È
def ch(x y z:Z3):Z3:=(x&&&y)^^^(~~~ x&&&z)
def Ly(x y z:Z3):Z3:=(x&&&y)^^^(x&&&z)^^^(y&&&z)
def Lw(x:Z3):Z3:=rr x 2^^^rr x 13^^^rr x 22
def Lx(x:Z3):Z3:=rr x 6^^^rr x 11^^^rr x 25
def CN(x:Z3):Z3:=rr x 7^^^rr x 18^^^x>>>3
def CO(x:Z3):Z3:=rr x 17^^^rr x 19^^^x>>>10
structure St where
 a:Z3
 b:Z3
 c:Z3
 d:Z3
 e:Z3
 f:Z3
 g:Z3
 h:Z3
def T1(e f g h k:Z3):Z3:=h+Lx e+ch e f g+k
def T2(a b c:Z3):Z3:=Lw a+Ly a b c
def Se(s:St)(k:Z3):St:=⟨T1 s.e s.f s.g s.h k+T2 s.a s.b s.c,s.a,s.b,s.c,s.d+T1 s.e s.f s.g s.h k,s.e,s.f,s.g⟩
def Kt:List Z3:=[1116352408,1899447441,3049323471,3921009573,961987163,1508970993,2453635748,2870763221,3624381080,310598401,607225278,1426881987,1925078388,2162078206,2614888103,3248222580,3835390401,4022224774,264347078,604807628,770255983,1249150122,1555081692,1996064986,2554220882,2821834349,2952996808,3210313671,3336571891,3584528711,113926993,338241895,666307205,773529912,1294757372,1396182291,1695183700,1986661051,2177026350,2456956037,2730485921,2820302411,3259730800,3345764771,3516065817,3600352804,4094571909,275423344,430227734,506948616,659060556,883997877,958139571,1322822218,1537002063,1747873779,1955562222,2024104815,2227730452,2361852424,2428436474,2756734187,3204031479,3329325298]
def Kc(i:Nat):Z3:=Kt.getD i 0
def gh(s:St)(W:Nat->Z3):Nat->St
 |0=>s|n+1=>Se (gh s W n)<|Kc n+W n
def xS(s t:St):St:=⟨s.a+t.a,s.b+t.b,s.c+t.c,s.d+t.d,s.e+t.e,s.f+t.f,s.g+t.g,s.h+t.h⟩
def Jb(s:St)(W:Nat->Z3):St:=xS (gh s W 64) s
end
section
open A.Tryq Go.RowKit
attribute [local go_sem] zC CY rT CW CZ
attribute [local go_sem] RJ jau RE xxf Rz xxj RI jav RG xxe RZ xxk RH jaw RB xxh RD xxg RA xxi
def xcw(x y z w):aG prog 300 #[zw x,zw y,zw z] w λe w'=>e=ah (zw<|ch x y z)/\w'=w:=by
 go_enter func300.1,Tryz.ntmps300;go_wp2;all_goals go_ret
 all_goals exact⟨rfl,rfl⟩
def xtr(x y z w):aG prog 302 #[zw x,zw y,zw z] w λe w'=>e=ah (zw<|Ly x y z)/\w'=w:=by
 go_enter func302.1,Tryz.ntmps302;go_wp2;all_goals go_ret
 all_goals exact⟨rfl,rfl⟩
def wt(x w):∀q∈[((2:Int),2),((13:Int),13),((22:Int),22),((6:Int),6),((11:Int),11),((25:Int),25),((7:Int),7),((18:Int),18),((17:Int),17),((19:Int),19)],aG prog 303 #[zw x,zi q.1] w λe w'=>e=ah (zw<|rr x q.2)/\w'=w:=by
 intro q a;simp only[jc,GA,or_false]at a;obtain rfl|rfl|rfl|rfl|rfl|rfl|rfl|rfl|rfl|rfl:=a;all_goals
  go_enter func303.1,Tryz.ntmps303;go_wp2;all_goals go_ret
  all_goals refine⟨?_,rfl⟩
 show ah (zu<|bits .or bQ (u<|x<<<30)<|u x/4)=_;rw[Sa,rT,jc9];show ah (zu<|bits .or bQ (u<|x<<<19)<|u x/8192)=_;rw[RM,rT,xzm];show ah (zu<|bits .or bQ (u<|x<<<10)<|u x/4194304)=_;rw[RR,rT,xzq];show ah (zu<|bits .or bQ (u<|x<<<26)<|u x/64)=_;rw[Sc,rT,jda];show ah (zu<|bits .or bQ (u<|x<<<21)<|u x/2048)=_;rw[RL,rT,xzl];show ah (zu<|bits .or bQ (u<|x<<<7)<|u x/33554432)=_;rw[RT,rT,xzr];show ah (zu<|bits .or bQ (u<|x<<<25)<|u x/128)=_;rw[Sd,rT,jdb];show ah (zu<|bits .or bQ (u<|x<<<14)<|u x/262144)=_;rw[RP,rT,xzo];show ah (zu<|bits .or bQ (u<|x<<<15)<|u x/131072)=_;rw[RN,rT,xzn];show ah (zu<|bits .or bQ (u<|x<<<13)<|u x/524288)=_;rw[RQ,rT,xzp]
def xrz(x w):aG prog 301 #[zw x] w λe w'=>e=ah (zw<|Lw x)/\w'=w:=by
 go_enter func301.1,Tryz.ntmps301;go_wp2;refine(wt x _ (2,2) Ä).mono ?_;rintro e w'⟨rfl,rfl⟩;go_wp2;refine(wt x _ (13,13) Ä).mono ?_;rintro e w'⟨rfl,rfl⟩;go_wp2;refine(wt x _ (22,22) Ä).mono ?_;rintro e w'⟨rfl,rfl⟩;go_wp2;all_goals go_ret
 all_goals exact⟨rfl,rfl⟩
def xr0(x w):aG prog 299 #[zw x] w λe w'=>e=ah (zw<|Lx x)/\w'=w:=by
 go_enter func299.1,Tryz.ntmps299;go_wp2;refine(wt x _ (6,6) Ä).mono ?_;rintro e w'⟨rfl,rfl⟩;go_wp2;refine(wt x _ (11,11) Ä).mono ?_;rintro e w'⟨rfl,rfl⟩;go_wp2;refine(wt x _ (25,25) Ä).mono ?_;rintro e w'⟨rfl,rfl⟩;go_wp2;all_goals go_ret
 all_goals exact⟨rfl,rfl⟩
def xu1(x w):aG prog 287 #[zw x] w λe w'=>e=ah (zw<|CN x)/\w'=w:=by
 go_enter func287.1,Tryz.ntmps287;go_wp2;refine(wt x _ (7,7) Ä).mono ?_;rintro e w'⟨rfl,rfl⟩;go_wp2;refine(wt x _ (18,18) Ä).mono ?_;rintro e w'⟨rfl,rfl⟩;go_wp2;all_goals go_ret
 all_goals refine⟨?_,rfl⟩
 all_goals show ah (zu<|bits .xor bQ (u<|rr x 7^^^rr x 18)<|u x/8)=_
 all_goals rw[Sb,zC]
 all_goals rfl
def xu2(x w):aG prog 288 #[zw x] w λe w'=>e=ah (zw<|CO x)/\w'=w:=by
 go_enter func288.1,Tryz.ntmps288;go_wp2;refine(wt x _ (17,17) Ä).mono ?_;rintro e w'⟨rfl,rfl⟩;go_wp2;refine(wt x _ (19,19) Ä).mono ?_;rintro e w'⟨rfl,rfl⟩;go_wp2;all_goals go_ret
 all_goals refine⟨?_,rfl⟩
 all_goals show ah (zu<|bits .xor bQ (u<|rr x 17^^^rr x 19)<|u x/1024)=_
 all_goals rw[RK,zC]
 all_goals rfl
end
section
open A.Tryq Go.RowKit
attribute [local go_sem] zC CY rT CW CZ
def xqp(a b c d e f g h k w):aG prog 286 #[bM #[zw a,zw b,zw c,zw d,zw e,zw f,zw g,zw h],zw k] w λen w'=>en=ah (bM #[zw<|T1 e f g h k+T2 a b c,zw a,zw b,zw c,zw<|d+T1 e f g h k,zw e,zw f,zw g])/\aN (ak w.heap) w w':=by
 go_enter func286.1,Tryz.ntmps286;go_wp2;go_quiet (fail);go_wp2;refine(xr0 e _).mono ?_;rintro en w'⟨rfl,rfl⟩;go_wp2;refine(xcw e f g _).mono ?_;rintro en w'⟨rfl,rfl⟩;go_wp2;refine(xrz a _).mono ?_;rintro en w'⟨rfl,rfl⟩;go_wp2;refine(xtr a b c _).mono ?_;rintro en w'⟨rfl,rfl⟩;go_wp2;refine ji (v:=bM #[zw<|T1 e f g h k+T2 a b c,zw a,zw b,zw c,zw<|d+T1 e f g h k,zw e,zw f,zw g]) ?_ rfl ⟨rfl, ?_⟩
 ·simp[dX,Tryz.results286,go_sem,T1,T2]
 iterate 8 refine Below.setCell ?_ Ä _
 refine below_drewN ?_ _;iterate 2 refine Below.alloc ?_ Ä _
 exact zt _ _
def wv(W:Nat->Z3):Ze:=(gO 64).map λi=>aH bQ (u<|W i)
theorem Ba(W):aa (wv W)=64:=by simp[wv]
theorem LI(W i)(h:i<64):(wv W)[i]?=ac (zw<|W i):=by simp[wv,h]
def jR(s:St)(i:Nat):Z3:=[s.a,s.b,s.c,s.d,s.e,s.f,s.g,s.h].getD i 0
theorem CV(s i)(h:i<8):(#[zw s.a,zw s.b,zw s.c,zw s.d,zw s.e,zw s.f,zw s.g,zw s.h]:Za)[i]?=ac (zw<|jR s i):=by
 match i,h with
 |0,_=>rfl|1,_=>rfl
 |2,_=>rfl|3,_=>rfl
 |4,_=>rfl|5,_=>rfl
 |6,_=>rfl|7,_=>rfl
 |n+8,h=>omega
def RY{C:Za}{r s}(k:ak C=8)(h:∀i,i<8->C[i]?=ac (zw<|jR r i+jR s i)):C=#[zu<|u (xS r s).a,zu<|u (xS r s).b,zu<|u (xS r s).c,zu<|u (xS r s).d,zu<|u (xS r s).e,zu<|u (xS r s).f,zu<|u (xS r s).g,zu<|u (xS r s).h]:=by
 apply Vn;intro i;by_cases j:i<8;rw[h i j,CV _ i j]
 match i,j with
 |0,_=>rfl|1,_=>rfl
 |2,_=>rfl|3,_=>rfl
 |4,_=>rfl|5,_=>rfl
 |6,_=>rfl|7,_=>rfl
 |n+8,h=>omega
 simp_all
def t6(w:Zy)(g)(t:Zt)(h c1 c2 c3 i j k l v0 a v2 b c d e f)(v:w.heap[g]?=ac (aq #[h,c1,c2,c3,i,j,k,l] t (0,0))):
  (ai (ai (ai (ai (ai (ai (ai (ai w (zq g 0) v0) (zq g 1) a) (zq g 2) v2) (zq g 3) b) (zq g 4) c) (zq g 5) d) (zq g 6) e) (zq g 7) f).heap[g]?=ac (aq #[v0,a,v2,b,c,d,e,f] t (0,0)):=by
 have m:=jx w g 0 _ t v0 v;have n:=jx _ g 1 _ t a m;have o:=jx _ g 2 _ t v2 n;have p:=jx _ g 3 _ t b o;have q:=jx _ g 4 _ t c p;have r:=jx _ g 5 _ t d q;have s:=jx _ g 6 _ t e r;have x:=jx _ g 7 _ t f s;simp_all
def A9(w:Zy)(g k v0 a v2 b c d e f)(hk:k≠g):(ai (ai (ai (ai (ai (ai (ai (ai w (zq g 0) v0) (zq g 1) a) (zq g 2) v2) (zq g 3) b) (zq g 4) c) (zq g 5) d) (zq g 6) e) (zq g 7) f).heap[k]?=w.heap[k]?:=by rw[jj _ _ _ _ þ,jj _ _ _ _ þ,jj _ _ _ _ þ,jj _ _ _ _ þ,jj _ _ _ _ þ,jj _ _ _ _ þ,jj _ _ _ _ þ,jj _ _ _ _ þ]
def CQ(B w0 w g v0 b v2 c d e f i)(a:B<=g)(h:aN B w0 w):aN B w0<|ai (ai (ai (ai (ai (ai (ai (ai w (zq g 0) v0) (zq g 1) b) (zq g 2) v2) (zq g 3) c) (zq g 4) d) (zq g 5) e) (zq g 6) f) (zq g 7) i:=by
 iterate 8 refine Below.setCell ?_ a _
 exact h
def LL(w:Zy)(g v0 a v2 b c d e f):ak (ai (ai (ai (ai (ai (ai (ai (ai w (zq g 0) v0) (zq g 1) a) (zq g 2) v2) (zq g 3) b) (zq g 4) c) (zq g 5) d) (zq g 6) e) (zq g 7) f).heap=ak w.heap:=Ä
def GX{w:Zy}{r}{t:Zt}{a0 a b c d e f g}(h:w.heap[r]?=ac (aq #[a0,a,b,c,d,e,f,g] t (0,0))):ae w (zq r 0)=ac a0/\ae w (zq r 1)=ac a/\ae w (zq r 2)=ac b/\ae w (zq r 3)=ac c/\ae w (zq r 4)=ac d/\ae w (zq r 5)=ac e/\ae w (zq r 6)=ac f/\ae w (zq r 7)=ac g/\∀i,aQ w (zq r i)=ao:=by refine⟨?_, ?_, ?_, ?_, ?_, ?_, ?_, ?_,λi=>xt _ _ _ _ _ h⟩<;>rw[xb _ _ _ _ _ _ h]<;>rfl
structure xR(s:St)(W:Nat->Z3)(w:Zy)(C:Za)(wr:Zy):Prop where
 eR:aN (ak w.heap) w wr
 sz:ak w.heap+1+1+1<ak wr.heap
 b0:wr.heap[ak w.heap]?=ac (aq #[zw s.a,zw s.b,zw s.c,zw s.d,zw s.e,zw s.f,zw s.g,zw s.h] 323 (0,0))
 b1:wr.heap[ak w.heap+1]?=ac (aq (aV (wv W)) 336 (0,0))
 b2:wr.heap[ak w.heap+1+1]?=ac (aq #[zu 0,zu 0,zu 0,zu 0,zu 0,zu 0,zu 0,zu 0] 323 (0,0))
 b3:wr.heap[ak w.heap+1+1+1]?=ac (aq C 323 (0,0))
def xR.LJ{s W w b w1 a0 i j k l m n o v0 c v2 d e f g h}(inv:xR s W w #[a0,i,j,k,l,m,n,o] b)(a:aN (ak b.heap) b.drew w1):xR s W w #[v0,c,v2,d,e,f,g,h]<|ai (ai (ai (ai (ai (ai (ai (ai w1 (zq (ak w.heap+1+1+1) 0) v0) (zq (ak w.heap+1+1+1) 1) c) (zq (ak w.heap+1+1+1) 2) v2) (zq (ak w.heap+1+1+1) 3) d) (zq (ak w.heap+1+1+1) 4) e) (zq (ak w.heap+1+1+1) 5) f) (zq (ak w.heap+1+1+1) 6) g) (zq (ak w.heap+1+1+1) 7) h:=by have p:=inv.sz;refine⟨CQ _ _ _ _ _ _ _ _ _ _ _ _ À<|(inv.eR.drew).trans<|a.mono inv.eR.size,by rw[LL];exact zm inv.sz a.size, ?_, ?_, ?_,t6 _ _ _ _ _ _ _ _ _ _ _ _ _ _ _ _ _ _ _<|(a.block _ À).trans inv.b3⟩;rw[A9 _ _ _ _ _ _ _ _ _ _ _ À];exact(a.block _ À).trans inv.b0;rw[A9 _ _ _ _ _ _ _ _ _ _ _ À];exact(a.block _ À).trans inv.b1;rw[A9 _ _ _ _ _ _ _ _ _ _ _ À];exact(a.block _ À).trans inv.b2
def xR.fI(s W w):xR s W w #[zw s.a,zw s.b,zw s.c,zw s.d,zw s.e,zw s.f,zw s.g,zw s.h]<|aB (aB (aB (aB w<|aq #[zw s.a,zw s.b,zw s.c,zw s.d,zw s.e,zw s.f,zw s.g,zw s.h] 323)<|aq (aV (wv W)) 336)<|aq #[zu 0,zu 0,zu 0,zu 0,zu 0,zu 0,zu 0,zu 0] 323)<|aq #[zw s.a,zw s.b,zw s.c,zw s.d,zw s.e,zw s.f,zw s.g,zw s.h] 323:=by
 refine⟨?_, ?_, ?_, ?_, ?_, ?_⟩;exact((((zt _ _).alloc (zd _) _).alloc Ä _).alloc Æ _).alloc Æ _;simp;all_goals (show((((w.heap.push _).push _).push _).push _)[_]?=_)
 all_goals (simp only[jb,Xi])
 grind;grind;grind;grind
def xet(s W w)(G:∀i,i<64->ae w ⟨4,i,ar⟩=ac (aH bQ<|u<|Kc i)):
  aG prog 263 #[bM #[aH bQ<|u s.a,aH bQ<|u s.b,aH bQ<|u s.c,aH bQ<|u s.d,aH bQ<|u s.e,aH bQ<|u s.f,aH bQ<|u s.g,aH bQ<|u s.h],bM (aV (wv W))] w λen w'=>en=ah (bM #[aH bQ<|u (Jb s W).a,aH bQ<|u (Jb s W).b,aH bQ<|u (Jb s W).c,aH bQ<|u (Jb s W).d,aH bQ<|u (Jb s W).e,aH bQ<|u (Jb s W).f,aH bQ<|u (Jb s W).g,aH bQ<|u (Jb s W).h])/\aN (ak w.heap) w w':=by
 have F:=js (G 0 Ã);have K:=G;go_enter func263.1,Tryz.ntmps263;go_wp2;go_loopw [9] (λi wr=>∃k:Nat,k<=64/\i=aH aU k/\xR s W w #[aH bQ<|u (gh s W k).a,aH bQ<|u (gh s W k).b,aH bQ<|u (gh s W k).c,aH bQ<|u (gh s W k).d,aH bQ<|u (gh s W k).e,aH bQ<|u (gh s W k).f,aH bQ<|u (gh s W k).g,aH bQ<|u (gh s W k).h] wr) (λi _=>bB (64-dF i))
 case atStart=>exact⟨0,À,rfl,xR.fI s W w⟩
 case round=>
  obtain⟨k,hk,rfl,inv⟩:=hrel;by_cases l:k<64
  ·have O:=(inv.eR.cell F).trans (K k l);have Q:ae wr ⟨ak w.heap+1,k,ar⟩=ac (aH bQ<|u<|W k):=by rw[xb _ _ k _ _ _ inv.b1];simpa using LI W k l
   obtain⟨t,v,x,y,z,B,D,E,R⟩:=GX inv.b3;go_wp2;go_still_tail 8,Á;go_wp2;refine(xqp _ _ _ _ _ _ _ _ _ _).mono ?_;rintro en w1⟨rfl,q⟩;have L:=(q.block _<|by exact inv.sz).trans inv.b3;obtain⟨t,v,x,y,z,B,D,E,R⟩:=GX L;have r:=(inv.eR.drew).trans<|q.mono inv.eR.size;have J:=inv;have I:=q;go_wp2;go_roundw
   case rel=>exact⟨k+1,À,Å,J.LJ I⟩
   grind [dF]
  obtain rfl:k=64:=À
  go_wp2;go_loopw [22] (λi w2=>∃(k:Nat) (C:Za),k<=8/\i=aH aU k/\xR s W w C w2/\ak C=8/\∀i,i<8->C[i]?=ac (aH bQ<|u (if i<k then jR (gh s W 64) i+jR s i else jR (gh s W 64) i))) (λi _=>bB (8-dF i))
  case atStart=>exact⟨0,_,À,rfl,inv,rfl,λi H=>by grind [CV]⟩
  case round=>
   obtain⟨k,C,hk,rfl,j,p,M⟩:=hrel;by_cases l:k<8
   ·have h1:ae wr ⟨ak w.heap+1+1+1,k,ar⟩=ac (aH bQ<|u<|jR (gh s W 64) k):=by rw[xb _ _ k _ _ _ j.b3,M k l,if_neg À]
    have h2:ae wr ⟨ak w.heap,k,ar⟩=ac (aH bQ<|u<|jR s k):=by rw[xb _ _ k _ _ _ j.b0,CV s k l]
    have h3:aQ wr ⟨ak w.heap+1+1+1,k,ar⟩=ao:=xt _ _ _ _ _ j.b3;have m:xR s W w (ay C k<|aH bQ<|u<|jR (gh s W 64) k+jR s k)<|ai wr.drew ⟨ak w.heap+1+1+1,k,ar⟩<|aH bQ<|u<|jR (gh s W 64) k+jR s k:=by refine⟨(j.eR.drew).setCell Â _,by simpa[ai]using j.sz, ?_, ?_, ?_,jx _ _ _ _ _ _ j.b3⟩;rw[jj _ _ _ _ Â];exact j.b0;rw[jj _ _ _ _ Â];exact j.b1;rw[jj _ _ _ _ Â];exact j.b2
    have n:∀i,i<8->(ay C k<|aH bQ<|u<|jR (gh s W 64) k+jR s k)[i]?=ac (aH bQ<|u (if i<k+1 then jR (gh s W 64) i+jR s i else jR (gh s W 64) i)):=by intro i H;rw[Xy];by_cases e:k=i;grind;grind
    go_wp2;go_still_tail 8,Á;go_wp2;go_roundw
    case rel=>(repeat apply lU);exact⟨⟨k+1,_,À,Å,m,Â,n⟩,rfl⟩
    case measure=>simp[dF];omega
   obtain rfl:k=8:=À
   have o:C=#[aH bQ<|u (Jb s W).a,aH bQ<|u (Jb s W).b,aH bQ<|u (Jb s W).c,aH bQ<|u (Jb s W).d,aH bQ<|u (Jb s W).e,aH bQ<|u (Jb s W).f,aH bQ<|u (Jb s W).g,aH bQ<|u (Jb s W).h]:=RY p (λi H=>Â);subst o;obtain⟨S,T,U,V,X,Y,Z,g7,_⟩:=GX j.b3;obtain⟨z0,z1,z2,z3,z4,z5,z6,z7,zf⟩:=GX j.b2;go_wp2;refine ji ?_ rfl ⟨rfl, ?_⟩
   ·simp[dX,Tryz.results263,go_sem, *]
   exact CQ _ _ _ _ _ _ _ _ _ _ _ _ À j.eR
end
section
open A.Tryq Go.RowKit
def tZ(x:Z8):Z3:=BitVec.ofNat 32 (aI x)
def jds(x):u (tZ x)=(aI x:Int):=by have:=x.toNat_lt;grind [u,tZ]
def xz3(x):IntKind.u32.wrap (u x)=u x:=CS _ (Eu _)<|Et _
def A8(m:Zu)(k:Nat):Z3:=tZ (m<|4*k)<<<24|||tZ (m<|4*k+1)<<<16|||tZ (m<|4*k+2)<<<8|||tZ (m<|4*k+3)
def wl(m:Zu):Nat->List Z3
 |0=>[]|n+1=>wl m n++[if n<16 then A8 m n else(wl m n).getD (n-16) 0+CN ((wl m n).getD (n-15) 0)+(wl m n).getD (n-7) 0+CO ((wl m n).getD (n-2) 0)]
def Wf(m:Zu)(i:Nat):Z3:=(wl m<|i+1).getD i 0
theorem Hd(m):∀n,aa (wl m n)=n
 |0=>rfl|n+1=>by simp[wl,Hd m n]
theorem Sf(m i):∀n,i<n->(wl m n).getD i 0=Wf m i
 |0,h=>by omega|n+1,h=>by by_cases e:i=n;subst e;rfl;have a:=Hd m n;rw[<-Sf m i n À];grind [wl]
theorem LG(m i)(h:i<16):Wf m i=A8 m i:=by grind [Hd,Wf,wl]
theorem LF(m i)(h:16<=i):Wf m i=Wf m (i-16)+CN (Wf m<|i-15)+Wf m (i-7)+CO (Wf m<|i-2):=by
 have a:=Hd m i;have e:Wf m i=(wl m i).getD (i-16) 0+CN ((wl m i).getD (i-15) 0)+(wl m i).getD (i-7) 0+CO ((wl m i).getD (i-2) 0):=by simp only[Wf,wl,KQ];rw[Xp À];simp[a,show¬i<16 by omega]
 grind [Sf]
attribute [local go_sem] zC CY rT CW CZ xz3 xvn xvm xz1
def vc:Za:=#[aH bQ 0,aH bQ 0,aH bQ 0,aH bQ 0,aH bQ 0,aH bQ 0,aH bQ 0,aH bQ 0,aH bQ 0,aH bQ 0,aH bQ 0,aH bQ 0,aH bQ 0,aH bQ 0,aH bQ 0,aH bQ 0,aH bQ 0,aH bQ 0,aH bQ 0,aH bQ 0,aH bQ 0,aH bQ 0,aH bQ 0,aH bQ 0,aH bQ 0,aH bQ 0,aH bQ 0,aH bQ 0,aH bQ 0,aH bQ 0,aH bQ 0,aH bQ 0,aH bQ 0,aH bQ 0,aH bQ 0,aH bQ 0,aH bQ 0,aH bQ 0,aH bQ 0,aH bQ 0,aH bQ 0,aH bQ 0,aH bQ 0,aH bQ 0,aH bQ 0,aH bQ 0,aH bQ 0,aH bQ 0,aH bQ 0,aH bQ 0,aH bQ 0,aH bQ 0,aH bQ 0,aH bQ 0,aH bQ 0,aH bQ 0,aH bQ 0,aH bQ 0,aH bQ 0,aH bQ 0,aH bQ 0,aH bQ 0,aH bQ 0,aH bQ 0]
structure J8(w:Zy)(C:Za)(wr:Zy):Prop where
 eR:aN (ak w.heap) w wr
 sz:ak w.heap+1<ak wr.heap
 b0:wr.heap[ak w.heap]?=ac (aq vc 336 (0,0))
 b1:wr.heap[ak w.heap+1]?=ac (aq C 336 (0,0))
def J8.fI(w):J8 w vc<|aB (aB w<|aq vc 336)<|aq vc 336:=by
 refine⟨((zt _ _).alloc (zd _) _).alloc Ä _,Ä, ?_, ?_⟩;all_goals (show((w.heap.push _).push _)[_]?=_)
 all_goals (simp only[jb,Xi])
 grind;grind
theorem J8.H{w a C}(h:J8 w C a)(k v):J8 w (ay C k v)<|ai a.drew (zq (ak w.heap+1) k) v:=by refine⟨(h.eR.drew).setCell Â _,Ï, ?_,jx _ _ _ _ _ _ h.b1⟩;rw[jj _ _ _ _ Â];exact h.b0
def Ha{C:Za}{k}{W:Nat->Z3}(a:ak C=64)(hk:k<64)(h:∀i,i<k->C[i]?=ac (zw<|W i)):
  ∀i,i<k+1->(ay C k<|zw<|W k)[i]?=ac (zw<|W i):=by
 grind
def RU{C W}(a:ak C=64)(h:∀i,i<64->C[i]?=ac (zw<|W i)):C=aV (wv W):=by apply Vn;grind [LI,Ba]
def LM:ak vc=64:=rfl
def Lz:(prog.info? 336).map (·.size)=ac 64:=Á
def LC(W):(wv W).toArray.all (·.oneCell')=aw:=by refine jn.2 λv a=>?_;simp only[wv,GD,Xe]at a;obtain⟨i,_,rfl⟩:=a;rfl
def zxh(m g off cap w)(x:∀j,j<64->ae w ⟨g,off+j,ar⟩=ac (aH .u8<|u<|tZ<|m j)):
  aG prog 264 #[az (ac ⟨g,off,ar⟩) 64 cap] w λen w'=>en=ah (bM (aV (wv<|Wf m)))/\aN (ak w.heap) w w':=by
 have q:=js (x 0 Ã);have p:=x;go_enter func264.1,Tryz.ntmps264;go_wp2;go_loopw [7] (λi wr=>∃(k:Nat) (C:Za),k<=16/\i=aH aU k/\J8 w C wr/\ak C=64/\∀i,i<k->C[i]?=ac (aH bQ<|u<|Wf m i)) (λi _=>bB (16-dF i))
 case atStart=>exact⟨0,vc,À,rfl,J8.fI w,rfl,λi f=>À⟩
 case round=>
  obtain⟨k,C,hk,rfl,inv,b,a⟩:=hrel;have o:=inv.sz;by_cases e:k<16
  ·have H:ae wr ⟨g,off+bB (4*(k:Int)),ar⟩=ac (aH .u8<|u<|tZ<|m<|4*k):=by rw[show(4*(k:Int)).toNat=4*k by omega];exact(inv.eR.cell q).trans<|p _<|by omega
   have I:ae wr ⟨g,off+bB (4*(k:Int)+1),ar⟩=ac (aH .u8<|u<|tZ<|m<|4*k+1):=by rw[show(4*(k:Int)+1).toNat=4*k+1 by omega];exact(inv.eR.cell q).trans<|p _ À
   have J:ae wr ⟨g,off+bB (4*(k:Int)+2),ar⟩=ac (aH .u8<|u<|tZ<|m<|4*k+2):=by rw[show(4*(k:Int)+2).toNat=4*k+2 by omega];exact(inv.eR.cell q).trans<|p _ À
   have K:ae wr ⟨g,off+bB (4*(k:Int)+3),ar⟩=ac (aH .u8<|u<|tZ<|m<|4*k+3):=by rw[show(4*(k:Int)+3).toNat=4*k+3 by omega];exact(inv.eR.cell q).trans<|p _ À
   have i0:(0:Int)<=4*(k:Int):=À
   have M:4*(k:Int)<64:=À
   have i1:(0:Int)<=4*(k:Int)+1:=À
   have O:4*(k:Int)+1<64:=À
   have i2:(0:Int)<=4*(k:Int)+2:=À
   have Q:4*(k:Int)+2<64:=À
   have i3:(0:Int)<=4*(k:Int)+3:=À
   have R:4*(k:Int)+3<64:=À
   have e1:IntKind.i64.wrap (4*(k:Int)+1)=4*(k:Int)+1:=É
   have E:IntKind.i64.wrap (4*(k:Int)+2)=4*(k:Int)+2:=É
   have e3:IntKind.i64.wrap (4*(k:Int)+3)=4*(k:Int)+3:=É
   have S:(k:Int)<64:=À
   obtain⟨c,F⟩:∃c,ae wr ⟨ak w.heap+1,k,ar⟩=ac c:=⟨C[k]' À,å⟩;have G:aQ wr ⟨ak w.heap+1,k,ar⟩=ao:=xt _ _ _ _ _ inv.b1;have h:=Ha b À a;have f:=inv.H k<|aH bQ<|u<|Wf m k;rw[LG m k e]at f h;clear a;unfold A8 at f h;go_wp2;go_still_tail 31,Á;go_wp2;go_roundw
   case rel=>exact⟨k+1,_,À,Å,f,Â,h⟩
   grind [dF]
  obtain rfl:k=16:=À
  clear hk e;go_wp2;go_loopw [6] (λi w2=>∃(k:Nat) (C:Za),16<=k/\k<=64/\i=aH aU k/\J8 w C w2/\ak C=64/\∀i,i<k->C[i]?=ac (aH bQ<|u<|Wf m i)) (λi _=>bB (64-dF i))
  case atStart=>exact⟨16,C,À,À,rfl,inv,b,a⟩
  case round=>
   clear inv b a o;obtain⟨k,C,l,hk,rfl,inv,b,a⟩:=hrel;have o:=inv.sz;by_cases e:k<64
   ·have S:(k:Int)<64:=by omega
    have D:IntKind.i64.wrap ((k:Int)-16)=(k:Int)-16:=É
    have U:(16:Int)<=(k:Int):=À
    have Y:(k:Int)<80:=À
    have W:(k:Int)-16<64:=À
    have z:ae wr ⟨ak w.heap+1,bB ((k:Int)-16),ar⟩=ac (aH bQ<|u<|Wf m<|k-16):=by rw[show((k:Int)-16).toNat=k-16 by omega,xb _ _ _ _ _ _ inv.b1,a _ À]
    have B:IntKind.i64.wrap ((k:Int)-15)=(k:Int)-15:=É
    have T:(15:Int)<=(k:Int):=À
    have X:(k:Int)<79:=À
    have V:(k:Int)-15<64:=À
    have y:ae wr ⟨ak w.heap+1,bB ((k:Int)-15),ar⟩=ac (aH bQ<|u<|Wf m<|k-15):=by rw[show((k:Int)-15).toNat=k-15 by omega,xb _ _ _ _ _ _ inv.b1,a _ À]
    have e7:IntKind.i64.wrap ((k:Int)-7)=(k:Int)-7:=É
    have p7:(7:Int)<=(k:Int):=À
    have r7:(k:Int)<71:=À
    have q7:(k:Int)-7<64:=À
    have c7:ae wr ⟨ak w.heap+1,bB ((k:Int)-7),ar⟩=ac (aH bQ<|u<|Wf m<|k-7):=by rw[show((k:Int)-7).toNat=k-7 by omega,xb _ _ _ _ _ _ inv.b1,a _ À]
    have E:IntKind.i64.wrap ((k:Int)-2)=(k:Int)-2:=É
    have p2:(2:Int)<=(k:Int):=À
    have r2:(k:Int)<66:=À
    have q2:(k:Int)-2<64:=À
    have Z:ae wr ⟨ak w.heap+1,bB ((k:Int)-2),ar⟩=ac (aH bQ<|u<|Wf m<|k-2):=by rw[show((k:Int)-2).toNat=k-2 by omega,xb _ _ _ _ _ _ inv.b1,a _ À]
    obtain⟨c,F⟩:∃c,ae wr ⟨ak w.heap+1,k,ar⟩=ac c:=⟨C[k]' À,å⟩;have G:aQ wr ⟨ak w.heap+1,k,ar⟩=ao:=xt _ _ _ _ _ inv.b1;have h:=Ha b À a;have f:=inv.H k<|aH bQ<|u<|Wf m k;rw[LF m k l]at f h;clear a;go_wp2;go_still_tail 23,Á
    still_call (xu1 _ _)
    repeat still_step
    still_call (xu2 _ _)
    repeat still_step
    refine wpStill_nil ?_;go_wp2;go_roundw
    case rel=>(repeat apply lU);exact⟨⟨k+1,_,À,À,Å,f,Ë,h⟩,rfl⟩
    case measure=>simp[dF];omega
   obtain rfl:k=64:=À
   have s:=RU b a;subst s;clear a hk l e;have d:(prog.info? 336).map (·.size)=ac (ak (wv<|Wf m).toArray):=ĸ
   have r:=LC<|Wf m;have L:ak vc=ak (wv<|Wf m).toArray:=by rw[LM,jd,Ba]
   have n:(wr.setRow (ak w.heap) (aV (wv<|Wf m))).heap[ak w.heap]?=ac (aq (aV (wv<|Wf m)) 336 (0,0)):=Jr _ _ _ _ _ _ inv.b0;have t:aN (ak w.heap) w<|wr.setRow (ak w.heap) (aV (wv<|Wf m)):=inv.eR.trans ⟨rfl,rfl,rfl,Ä,λj hj=>setRow_other _ _ _ _ À⟩;go_wp2_with (first|refine J6 rfl 336 _ rfl (ak w.heap+1) rfl 336 _ (0,0) _ inv.b1 iF rfl d ?_|refine Zo rfl 336 _ _ rfl w.heap.size _ rfl rfl 336 _ inv.b0 d L r ?_);exact ji (v:=bM (aV (wv<|Wf m))) (Jf rfl _ _ (ak w.heap) 336 _ (0,0) _ rfl n iF rfl d) rfl ⟨rfl,t⟩
end
section
open A.Tryq Go.RowKit
def AZ(x:Z3):Z8:=ku x.toNat
def jdt(x):IntKind.u8.wrap (u x)=(aI (AZ x):Int):=by simp[eP,eQ,ek,u,AZ]
def wb(x:Z3):Zl:=[AZ<|x>>>24,AZ<|x>>>16,AZ<|x>>>8,AZ x]
def sb(s:St):Nat->Zl
 |0=>[]|n+1=>sb s n++wb (jR s n)
def Hc(s):∀n,aa (sb s n)=4*n
 |0=>rfl|n+1=>by simp[sb,Hc s n,wb];omega
def bv(l:Zl):Ze:=l.map λb=>aH .u8 (aI b:Int)
theorem uy(l):aa (bv l)=aa l:=by simp[bv]
def LK(a b):bv (a++b)=bv a++bv b:=by simp[bv]
def LH:∃i,prog.info? 5=ac i/\i.zero=ac (zb 0)/\i.size=1/\i.bytes=1:=by
 have h:(prog.info? 5).map (λi=>(i.zero,i.size,i.bytes))=ac (ac<|zb 0,1,1):=Á
 simp_all
def xyg(s)(k:Nat)(hk:k<8)(w):(Instr.index 323 (bM #[zw s.a,zw s.b,zw s.c,zw s.d,zw s.e,zw s.f,zw s.g,zw s.h])<|zi k).run prog w=cT (zw<|jR s k) w:=by
 obtain rfl|rfl|rfl|rfl|rfl|rfl|rfl|rfl:k=0\/k=1\/k=2\/k=3\/k=4\/k=5\/k=6\/k=7:=À
 all_goals kernel_rfl
def RV(l):∀v∈bv l,v.oneCell'=aw:=by intro v a;simp only[bv,Xe]at a;obtain⟨b,_,rfl⟩:=a;rfl
def Sg{w:Zy}{base g n cap l}(h:w.ownsRow base 5 1 (az (ac ⟨g,0,ar⟩) n cap) n<|bv l):n=aa l/\∀j (hj:j<aa l),ae w (((zq g 0):Addr).add j)=ac (zb<|aI l[j]):=by
 obtain⟨d,b⟩:=h;simp only[uy,yR]at d;refine⟨d.symm,λj hj=>?_⟩;obtain⟨b,_⟩|⟨k,c,a,i,m,e,o,_,p,f⟩:=b;cases b;cases i;rw[oB,j7,xb _ _ j _ _ _ e];have:(a.toList.take<|n*1)[j]?=(bv l)[j]?:=by rw[f]
 grind [bv]
attribute [local go_sem] xvp xvo xz2 jdt
def ztw(s w):aG prog 265 #[bM #[zw s.a,zw s.b,zw s.c,zw s.d,zw s.e,zw s.f,zw s.g,zw s.h]] w λen w'=>en=ah (aj ⟨aV (sb s 8)⟩)/\aN (ak w.heap) w w':=by
 obtain⟨R,O,L,r,t⟩:=LH;go_enter func265.1,Tryz.ntmps265;go_wp2_with (refine wpList_make_own _ rfl _ _ 163 rfl (ak w.heap+1) 5 R (zb 0) 1 cI O L r aU aU 32 32 rfl rfl rfl ?b1 ?b2 ?b3 ?_)
 case b1=>omega
 case b2=>decide
 case b3=>simp
 intro w1 m q;have l:w1.heap[ak w.heap]?=ac (aq #[zw s.a,zw s.b,zw s.c,zw s.d,zw s.e,zw s.f,zw s.g,zw s.h] 323 (0,0)):=(q.block _ Ä Ä).trans<|xn _ _;have C:ae w1 (zq (ak w.heap) 0)=ac (zw s.a):=by rw[xb _ _ 0 _ _ _ l];rfl
 have D:ae w1 (zq (ak w.heap) 1)=ac (zw s.b):=by rw[xb _ _ 1 _ _ _ l];rfl
 have E:ae w1 (zq (ak w.heap) 2)=ac (zw s.c):=by rw[xb _ _ 2 _ _ _ l];rfl
 have F:ae w1 (zq (ak w.heap) 3)=ac (zw s.d):=by rw[xb _ _ 3 _ _ _ l];rfl
 have G:ae w1 (zq (ak w.heap) 4)=ac (zw s.e):=by rw[xb _ _ 4 _ _ _ l];rfl
 have H:ae w1 (zq (ak w.heap) 5)=ac (zw s.f):=by rw[xb _ _ 5 _ _ _ l];rfl
 have I:ae w1 (zq (ak w.heap) 6)=ac (zw s.g):=by rw[xb _ _ 6 _ _ _ l];rfl
 have J:ae w1 (zq (ak w.heap) 7)=ac (zw s.h):=by rw[xb _ _ 7 _ _ _ l];rfl
 have x:aN (ak w.heap) w w1:=((zt _ _).alloc (zd _) _).grown q Ä (λ_ h=>Ê);have W:ak w.heap+1<ak w1.heap:=by obtain⟨h,_⟩|⟨X,M,T,Q,_,Y,_⟩:=m.2;cases h;grind
 clear q l;go_wp2;go_loopw [3,8] (λv i wr=>∃k:Nat,k<=8/\i=zi k/\v=az (ac ⟨ak w.heap+1,0,ar⟩) (4*k) 32/\aN (ak w.heap) w wr/\wr.ownsRow (ak w.heap+1) 5 1 (az (ac ⟨ak w.heap+1,0,ar⟩) (4*k) 32) (4*k) (bv<|sb s k)/\ak w.heap+1<ak wr.heap) (λ_ i _=>bB (8-dF i))
 case atStart=>grind [bv,sb]
 case round=>
  clear m x W C D E F G H I J;obtain⟨k,hk,rfl,rfl,p,m,K⟩:=hrel;by_cases B:k<8
  ·have V:=xyg s k B;go_wp2_with (at_builtin;refine wpList_append_fits _ rfl _ _ 163 rfl (ak w.heap+1) 5 R 1 cI O r (ak w.heap+1) (4*k) 32 (bv<|sb s k) rfl ?own (zq (ak wr.heap) 0) 4 4 (bv<|wb<|jR s k) rfl rfl ?c1 ?c2 ?c3 ?_)
   case own=>exact m.alloc _
   case c1=>intro j v Q;rw[oB,j7,xb _ _ j _ _ _<|xn _ _,<-Q];simp[bv,wb]
   case c2=>exact RV _
   case c3=>omega
   intro S n o;rw[<-LK]at n;have y:aN (ak w.heap) w S:=(p.alloc p.size _).grown o Æ (λ_ h=>Â);have t:ak w.heap+1<ak S.heap:=zm K<|xa Ä o.size;have z:4*k+4=4*(k+1):=À
   rw[z]at n;clear o m;go_wp2;go_roundw
   case rel=>exact⟨k+1,À,Å,Â,y,n,t⟩
   grind [dF]
  obtain rfl:k=8:=À
  have U:(convert 163 9<|az (ac ⟨ak w.heap+1,0,ar⟩) 32 32).run prog wr=cT (aj ⟨aV (sb s 8)⟩) wr:=by have h:=gJ (P:=prog) wr 163 9 5 (zq (ak w.heap+1) 0) 32 (sb s 8) cI eo dA (Sg m).2;rw[Hc]at h;exact h
  clear m;go_wp2;go_ret;simp_all
end
section
open A.Tryq Go.RowKit
def bq(q:Nat):Z8:=ku q
def nb(n:Nat):Nat->Zl
 |0=>[]|k+1=>bq (n/256^k)::nb n k
theorem Z2(n):∀k,aa (nb n k)=k
 |0=>rfl|k+1=>by simp[nb,Z2 n k]
def Wv(n:Nat):Nat:=64*((n+72)/64)
def uz(x:Zl)(k:Nat):Zl:=x++128::(bD (Wv (aa x)-aa x-1-k) 0++nb (aa x*8) k)
def rU(x:Zl):Zl:=uz x 8
theorem CT(n):n+9<=Wv n/\Wv n<=n+72:=ě
def LN(x k)(hk:k<=8):aa (uz x k)=Wv (aa x):=by grind [CT,uz,Z2]
def xpm(x k)(hk:k<8):(uz x k).set (Wv (aa x)-(k+1)) (bq<|aa x*8/256^k)=uz x (k+1):=by
 have h:=CT (aa x);unfold uz;have e:Wv (aa x)-aa x-1-k=(Wv (aa x)-aa x-1-(k+1))+1:=À
 rw[e,Gw];generalize hm:Wv (aa x)-aa x-1-(k+1)=m at*;have a:Wv (aa x)-(k+1)=aa x+(1+m):=À
 rw[a,Vy _ _ À];congr 1;rw[show aa x+(1+m)-aa x=m+1 by omega,Vp];congr 1;rw[jq,Vy _ _ Ä];simp[nb]
theorem Ev(l i b):(bv l).set i (zb (aI b))=bv (l.set i b):=by simp[bv,List.map_set]
def GZ{P:Zp}{w:Zy}{ops:Array fj}{rest:List fj}{o:fj}{a:jG}{Q:Exit->jG->Zy->Prop}(n:o.guard=ar)(d s:Operand)(l v:Zt)
  (ho:o.op= .call {callee:= .builtin .copy,args:=#[d,s],argTypes:=#[l,v]})(e:Zt)(D:P.underlying l=ac (.slice e))(q:(P.info? e).map (·.size)=ac 1)
  (g off c f:Nat)(x:ByteArray)(hd:a.eval d=az (ac ⟨g,off,ar⟩) c f)(C:a.eval s=aj x)
  (b:Za)(t:Zt)(r:w.heap[g]?=ac (aq b t (0,0)))(p:x.size<=c)(k:off+x.size<=ak b)(B:Nat)(w0:Zy)(z:aN B w0 w)(m:B<=g)
  (h:∀w',w'.heap[g]?=ac (aq (aV (b.toList.take off++hZ (ej x.data)++b.toList.drop (off+x.size))) t (0,0))->aN B w0 w'->wpList P ops Q rest (a.put o.dst<|goInt x.size) w'):wpList P ops Q (o::rest) a w:=by
 refine AL n λK y=>?_;have j:=Lib.run_copy_row_string (P:=P) w l v o.type e g off c f x b t D q r p k;have i:=y _ _<|h _ (Jr w g b _ t _ r)<|below_setRow z m _;unfold Oper.wp;simp only[jq]at j i;simp[aL,ho,nD,ol,builtin,hd,C,j,bG];exact i
def xdn{w:Zy}{base g n}(h:w.ownsRow base 5 1 (az (ac ⟨g,0,ar⟩) n n) n (ej (madeCells #[zb 0] n))):w.heap[g]?=ac (aq (aV (bv<|List.replicate n 0)) 5 (0,0)):=by
 obtain⟨d,_⟩|⟨k,b,a,j,l,f,o,_,p,c⟩:=h.2;cases d;cases j;rw[f];have e:ej a=bv (bD n 0):=by rw[qp Â]at c;rw[c];apply Ye;intro i;by_cases m:i<n;grind [madeCells,bv];grind [bv]
 rw[<-e]
def Hb:(prog.info? 5).map (·.size)=ac 1:=Á
def xuf(x)(hx:x.size<=60000)(w):aG prog 262 #[aj x] w λen w'=>en=ah (az (ac ⟨ak w.heap,0,ar⟩) (Wv x.size)<|Wv x.size)/\w'.heap[ak w.heap]?=ac (aq (aV (bv<|rU (ej x.data))) 5 (0,0))/\aN (ak w.heap) w w':=by
 obtain⟨T,O,F,G,S⟩:=LH;go_enter func262.1,Tryz.ntmps262;have W:=CT x.size;have I:((x.size:Int)+1+8+64-1)/64*64=((Wv x.size:Nat):Int):=ě
 have H:aK<|((x.size:Int)+1+8+64-1)/64*64=((Wv x.size:Nat):Int):=I;clear I;have K:aa x.data.toList=x.size:=rfl;have s:aK<|aa x.data.toList=x.size:=K;clear K;go_wp2_with (refine wpList_make_full _ rfl _ _ 163 rfl w.heap.size 5 T (zb 0) 1 cI O F G aU aU _ _ (Wv x.size) rfl rfl ?l1 ?l2 ?b1 ?b2 ?b3 ?_)
 case l1=>exact H.o
 case l2=>exact H.o
 case b1=>grind
 case b2=>unfold nT;omega
 case b3=>simp
 intro w1 b p;have l:w1.heap[ak w.heap]?=ac (aq (aV (bv<|List.replicate (Wv x.size) 0)) 5 (0,0)):=xdn b;have d:aN (ak w.heap) w w1:=(zt _ _).grown p (zd _) (λ_ h=>Ê);clear p b;go_wp2_with (refine GZ rfl _ _ 163 9 rfl 5 cI Hb (ak w.heap) 0 _ _ x rfl rfl _ 5 l ?c1 ?c2 (ak w.heap) w d (zd _) ?_)
 case c1=>omega
 case c2=>simp[uy];omega
 intro r n f;have a:r.heap[ak w.heap]?=ac (aq (aV (bv<|ej x.data++bD (Wv x.size-x.size) 0)) 5 (0,0)):=by rw[n];congr 2;simp[bv,hZ]
 have z:ae r (zq (ak w.heap) x.size)=ac (zb 0):=by rw[xb _ _ _ _ _ _ a];simp only[Jz,bv,qz];rw[Xp Ä,jl,s.o,GE,List.map_replicate,List.getElem?_replicate,if_pos À];rfl
 have B:aQ r (zq (ak w.heap) x.size)=ao:=xt _ _ _ _ _ a;have o:(ai r (zq (ak w.heap) x.size)<|zb 128).heap[ak w.heap]?=ac (aq (aV (bv<|uz (ej x.data) 0)) 5 (0,0)):=by rw[jx _ _ _ _ _ _ a];congr 2;rw[Zj];congr 1;rw[show(zb 128)=zb (aI (128:Z8))from rfl,Ev];congr 1;rw[Vy _ _ Ä];obtain⟨m,Q⟩:∃m,Wv x.size-x.size=m+1:=⟨Wv x.size-x.size-1,À⟩;unfold uz;rw[s.o,Q];simp[nb,List.replicate_succ]
 have g:aN (ak w.heap) w<|ai r (zq (ak w.heap) x.size)<|zb 128:=f.setCell (zd _) _;clear l n a f d;have J:(x.size:Int)<(Wv x.size:Nat):=À
 have t:((x.size:Nat):Int)*8<18446744073709551616:=À
 go_wp2;go_loopw [5,6] (λq i wr=>∃k:Nat,k<=8/\i=zi (k+1)/\q=aH .u64 ((x.size*8/256^k:Nat):Int)/\wr.heap[ak w.heap]?=ac (aq (aV (bv<|uz (ej x.data) k)) 5 (0,0))/\aN (ak w.heap) w wr) (λ_ i _=>bB (9-dF i))
 case atStart=>exact⟨0,À,rfl,Å,o,g⟩
 case round=>
  clear z B o g;obtain⟨k,hk,rfl,rfl,j,v⟩:=hrel;have R:x.size*8/256^k<=x.size*8:=Nat.div_le_self _ _;have L:aK<|x.size*8/256^k/256=x.size*8/256^(k+1):=by show _=_;rw[KW,yQ]
  by_cases E:k<8
  ·have D:=LN (ej x.data) k hk;rw[s.o]at D;have C:(ai wr (zq (ak w.heap)<|Wv x.size-(k+1))<|zb<|aI (bq<|x.size*8/256^k)).heap[ak w.heap]?=ac (aq (aV (bv<|uz (ej x.data)<|k+1)) 5 (0,0)):=by rw[jx _ _ _ _ _ _ j,Zj,Ev];have e:=xpm (ej x.data) k E;rw[s.o]at e;rw[e]
   have y:aN (ak w.heap) w<|ai wr (zq (ak w.heap)<|Wv x.size-(k+1))<|zb<|aI (bq<|x.size*8/256^k):=v.setCell (zd _) _;obtain⟨c,U⟩:∃c,ae wr (zq (ak w.heap)<|Wv x.size-(k+1))=ac c:=by refine⟨(bv<|uz (ej x.data) k)[Wv x.size-(k+1)]'(by rw[uy,D];omega), ?_⟩;rw[xb _ _ _ _ _ _ j];simp
   have V:aQ wr (zq (ak w.heap)<|Wv x.size-(k+1))=ao:=xt _ _ _ _ _ j;clear j v D;have X:(0:Int)<=((Wv x.size:Nat):Int)-((k:Int)+1):=À
   have Y:((Wv x.size:Nat):Int)-((k:Int)+1)<((Wv x.size:Nat):Int):=À
   generalize x.size*8/256^k=q at*;have M:IntKind.u8.wrap (q:Int)=(aI (bq q):Int):=Ļ
   clear t;go_wp2;go_roundw
   case rel=>exact⟨k+1,À,Å,by rw[<-L.o];go_num,C,y⟩
   grind [dF]
  obtain rfl:k=8:=À
  go_wp2;go_ret;exact⟨rfl,j,v⟩
end
end P
end Go.Proofs.YtjnbhiamaabbgaaGreatDoor
