import Derived.Test.YtjnbhiamaabbgaaGreatDoorM0
import Derived.Test.YtjnbhiamaabbgaaGreatDoorProg
import Derived.WalkSpells
import Derived.WalkLawsBesides
import Derived.BigQuiet
import Derived.Deep.RegionHeld3
import Derived.StillTailTactics
import Derived.Deep.WholeRow
import Derived.Lib.BufferWrite
import Derived.Laws.CopyOwn
set_option linter.all false
set_option maxRecDepth 100000
set_option maxHeartbeats 8000000
section
variable{P:Prop}
def Ã(h:P:=by decide):P:=h
def Ä(h:P:=by kernel_rfl):P:=h
def Å(h:P:=by go_num):P:=h
def Ç(h:P:=by simp;omega):P:=h
def Ê(h:P:=by decide+kernel):P:=h
def Í(h:P:=by rw[zh]<;>omega):P:=h
def Ð(h:P:=by grind [dV]):P:=h
def Ñ(h:P:=by grind;grind):P:=h
def Ö(h:P:=by simpa[M]using h.sz):P:=h
def Ø(h:P:=by grind [zy]):P:=h
def Ü(h:P:=by simp[go_sem]):P:=h
def Ý(h:P:=by simp[dV];omega):P:=h
def å(h:P:=by rw[e]):P:=h
def ì(h:P:=by exact hk):P:=h
def ý(h:P:=by grind;grind;grind):P:=h
def lg(h:P:=by grind [pX]):P:=h
def Ft(h:P:=by grind [zy,touch_mute]):P:=h
def za1(h:P:=by unfold Wv;omega):P:=h
def zb7(h:P:=by rw[jd,D'];exact OU):P:=h
def zb9(h:P:=by simp[fS,fT,fi,bq]):P:=h
def zbn(h:P:=by have d:bW (wf P F) ay {frame:=fr,callers:=C,status:=bK,dying:=aw} w=_:=e;rw[d];rfl):P:=h
def zcp(h:P:=by have:=OK<|OQ h;unfold Hd at this;grind):P:=h
def zdc(h:P:=by rw[h1,hl];exact D4 b y (D _) w):P:=h
end
namespace Go.Proofs.YtjnbhiamaabbgaaGreatDoor
open Go renaming Act->mh,Calls->aK,Code->pB,Ending->kH,Event->me,Frame->fZ,Func->kL,Goroutine->cR,Oper->eX,Program->cI,Trace->gA,TypeId->oW,Value->eJ,World->dN,bits->lr,callDeferred->fo,doReturn->gi,execOp->aR,getObj->na,heap_alloc_new->xn,heap_setCell_other->jj,maxLen->pu,resolve->o8,results->eR,runNT->fQ,run_convert_bytes_back->iy,setRow_heap->Jr,stepG->bW,underlying->fj,unwind->dT
open Go.Addr renaming add_mid->pS
open Go.CallKind renaming early->eK,normal->dH,report->pR
open Go.Code renaming region->fG,seq->gU
open Go.Conc renaming Deaf_other->dJ,Deaf_own->mn,awake_of->oI,crowd->gJ,mem_ofEvents->zy,noRace_append->pd,runT_crowd_go->qD,touchAt->mg,woken_quitsD->jJ
open Go.ConcN renaming sumTo->kD
open Go.Departure renaming rangeFuncRecover->iz
open Go.Ending renaming outgrown->jQ,panicked->iL,returned->ai
open Go.Extern renaming find->oH,findNext->kV
open Go.Extern.BytealgMakeNoZero renaming makeNoZero->li
open Go.Extern.ReflectliteType renaming method->pP,typeOf->pO
open Go.Extern.Rtype renaming noPackHeld->pA
open Go.Frame renaming enter->bI
open Go.FrameMode renaming panicking->fL
open Go.GStep renaming after->bJ,ended->ic,go->ij
open Go.GoStatus renaming running->bK
open Go.IntKind renaming bits->fT,i64->bB,signed->fi,u32->cJ,wrap->fS,wrap_i64->zh
open Go.Item renaming code->dE
open Go.Lib renaming byteCells->hZ
open Go.Loc renaming cell->ma,obj->pa
open Go.Mark renaming disable->oG,enable->oF,release->lK
open Go.MemAct renaming ofEvent->cA,touch?->cO
open Go.MemOp renaming ofEvents->aZ
open Go.Next renaming enter->nN
open Go.Obj renaming cells->au
open Go.Proofs.Tryz renaming func34->pN,prog->az,underlying3->is,underlying9->qv
open Go.Result renaming andThen->bN,halt->ft,ok->dG
open Go.RowKit renaming Below->aP,Hid->H,intOf->dV
open Go.RowKit.Below renaming refl->zt
open Go.Sem renaming runT_eq->ze
open Go.Stepped renaming next->gP
open Go.TypeDesc renaming string->oC
open Go.Value renaming agg->bY,bool->bG,iface->iW,int->Q,map->fu,slice->aB,string->ak
open Go.World renaming alloc->aF,cell?->N,frozen?->aX,setCell->M,heap->Z'
open Go.stepG renaming exec->aI
open _root_ renaming Array->bE,Bool->ez,ByteArray->eM,Int->U,List->bA,Nat->aD,absurd->dC,congrArg->gv,if_neg->aL,if_pos->aT,rfl->O,trivial->bD
open _root_.Array renaming setIfInBounds->aA,size->V,toList->eV
open _root_.BitVec renaming ofInt->dM
open _root_.Bool renaming false->ao,true->ay
open _root_.Exists renaming intro->ng
open _root_.Int renaming toNat->bL
open _root_.List renaming length->T,length_append->zx,range->iC,replicate->bS,take_of_length_le->qp,toArray->bH
open _root_.Option renaming none->aw,some->ac
open _root_.Or renaming inl->aJ,inr->Y
open _root_.Pure renaming pure->iu
open _root_.UInt8 renaming ofNat->mZ,toNat->aN
namespace A
variable{fr c:Zf}{w v w':Zy}{f fn:kL}{g:Zg}{End:Zg->Zy->Prop}{n i:aD}{e:me}{t:gA}
open Go
section
open Go.Conc
variable[pn:Pn]
section
variable{End:Zg→Zy→Prop}
section
variable{P:cI}{F:bE kL}{X:aD->Prop}
def xpf(b o):wk (wf P F) b o=wk P b o:=O
theorem Jo:∀(b:ez) (c:pB),q9 (wf P F) b c=q9 P b c
 |b,fG i z d=>rfl|b,gU x y=>by simp only[q9,Jo b x,Jo b y]
 |b,.cond o x y=>by simp only[q9,Jo b x,Jo b y]|b,.block i x=>by simp only[q9,Jo b x]
 |b,.loop x=>by simp only[q9,Jo b x]|b,.scope x=>by simp only[q9,Jo b x]
 |b,.rangeFunc f p x y=>by simp only[q9,Jo ao x,Jo ao y]|b,.skip=>O
 |b,.label _=>rfl|b,.ret=>O
 |b,.exit _=>rfl|b,.goto _=>O
 |b,.refuse _=>O
def UX(b I):Vt (wf P F) b I↔Vt P b I:=by cases I<;>simp[Vt,Jo,xpf]
def KW(t):Wn (wf P F) t=Wn P t:=by cases t<;>rfl
def yq:Jy (wf P F) fr↔Jy P fr:=
 ⟨λh=>⟨λb a=>(UX ..).1<|h.lk b a,λd y=>by rw[<-KW (F:=F)];exact h.nk d y,h.eH,h.lL⟩,λh=>⟨λb a=>(UX ..).2<|h.lk b a,λd y=>by rw[KW];exact h.nk d y,h.eH,h.lL⟩⟩
def xx5{o}(h:jW P o):jW (wf P F) o:=
 ⟨h.iR,λf e d y=>by rw[KW];exact h.tN f e d y,λl e=>by have⟨a,b,c,d⟩:=h.ry l e;exact⟨by rw[Jo];exact a,by rw[Jo];exact b,λx g=>mx,d⟩⟩
def OM(h:Sm P X w v):Sm (wf P F) X w v:=⟨h.Q,h.out,h.jH,λr=>xx5<|h.rA r,h.nQ,h.gY,h.os,h.cX,h.rl⟩
def Xh(fr:Zf)(C:bA Zf):Zg:={frame:=fr,callers:=C,status:=bK,dying:=aw}
def Cr(P:Zp)(F:Zc)(X:ZP)(I:Zf->Zy->Prop)(fr:Zf)(w:Zy):Prop:=
 (∀C,∃o w' z,bW (wf P F) ay (Xh fr C) w=ic o w' z)\/
 (∃ch,fr.mode=fL ch/\fr.defers=[]/\∀p,fr.catches p=ao)\/
 ∃y w',(I y w'\/Jy P y)/\y.kind=fr.kind/\(∀C,Fd w<|stepG (wf P F) ay<|Xh fr C)/\
  (∃z,∀C,bW (wf P F) ay (Xh fr C) w=ij (Xh y C) w' z)/\
  ∀v,Sm P X w v->∃x z,(∀C,bW P ay (Xh fr C) v=ij (Xh y C) x z)/\Af P X v w' x z
structure DX(P:Zp)(F:Zc)(I:ZP->Zf->Zy->Prop)(y:Zc):Prop where
 ym:∀X f a k w,Vi P F f->Mc P f->k≠ eK/\k≠ pR->I X (bI (wf P F) f a k) w
 mc:∀X fr w,I X fr w->Mc P fr.fn
 re:∀X fr w t d,I X fr w->I X fr (re w t d)
 step:∀X fr w,Sm P X w w->I X fr w->Cr P F X (I X) fr w
 Cq:∀X,nz (wf P y) F X
 oN:uL (wf P y) F
 pC:∀f,Vi P F f->¬Mc P f->Vi (wf P y) F f
 DY:∀f,¬Mc (wf P y) f
structure Yk(P:Zp)(F:Zc):Prop where
 Cq:∀X,nz P F X
 yp:∀X,nz (wf P F) F X
 oN:uL P F
 wt:∀f,F[f]?=P.funcs[f]?\/vv F f
 ro:P.follows iz=ay
 GA:∃I y,DX P F I y
def Yk.pC(y:Yk P F){f}(h:¬vv F f):Vi P F f:=⟨(y.wt f).resolve_right h,h⟩
def Yk.yo(y:Yk P F):uL (wf P F) F:=λf e=>by have⟨a,b⟩:=y.oN f<|y.pC e.2;refine⟨a,b.imp ?_ λb d c j k=>mx⟩;rintro⟨d,c,g,h,i⟩;exact⟨d,c,by rw[<-g];exact(y.pC e.2).1,h,by rw[Jo];exact i⟩
def xx4{o}(h:jW (wf P F) o):jW P o:=
 ⟨h.iR,λf e d y=>by rw[<-KW (F:=F)];exact h.tN f e d y,λl e=>by have⟨a,b,c,d⟩:=h.ry l e;exact⟨mx,mx,λx g=>mx,d⟩⟩
def OL(h:Sm (wf P F) X w v):Sm P X w v:=⟨h.Q,h.out,h.jH,λr=>xx4<|h.rA r,h.nQ,h.gY,h.os,h.cX,h.rl⟩
def OP(fr:Zf)(ch):∃m,fr.raise ch={fr with mode:=m}:=by unfold Frame.raise;split<;>exact⟨_,O⟩
theorem D4{p C ch}(b:fr.mode=fL ch)(h:fr.defers=[])(a:fr.catches p=ao)(w):
  bW p ay (Xh fr (c::C)) w=ij (Xh (c.raise ch) C) w #[]:=by
 grind [bW,Xh,dT]
def oi(p:Zp)(fr:Zf):Prop:=fr.todo=[dE<|.refuse ""]/\fr.defers=[⟨.fn (.method "") #[],#[]⟩]/\fr.kind=dH/\fr.roundOf=aw/\p.inits.idxOf? fr.fn=aw
def UM(f:FuncId):Zf:={fn:=f,tmps:=#[],todo:=[dE<|.refuse ""],defers:=[⟨.fn (.method "") #[],#[]⟩],mode:= .run,kind:=dH}
def xx3{f}(h:P.inits.idxOf? f=aw):oi P<|UM f:=⟨O,O,O,O,h⟩
def oi.Hc(h:oi P fr):Jy P fr:=by have⟨z,x,p,j,q⟩:=h;refine⟨λb a=>?_,λd y=>?_,?_,q⟩;rw[z]at a;simp only[ju]at a;subst a;rfl;rw[x]at y;simp only[ju]at y;subst y;rfl;grind
theorem oi.jM(h:oi P fr)(v):fr.finish v=fr:=by unfold Frame.finish;rw[h.1]
def oi.qJ(h:oi P fr)(m):oi P {fr with mode:=m}:=h
def xJ(p:Zp)(g:Zg):Prop:=g.dying=aw/\((g.frame.mode= .run/\∃s k,g.frame.todo=dE (.refuse s)::k)\/oi p g.frame)
def OO{p}(h:xJ p g)(w):∃o w' y,bW p ay g w=ic o w' y:=by
 have⟨fr,C,st,D,z⟩:=g;have⟨x,h⟩:=h;cases x;have r:∀s k,fr.mode= .run->fr.todo=dE (.refuse s)::k->∃o w' y,bW p ay {frame:=fr,callers:=C,status:=st,dying:=aw,offers:=z} w=ic o w' y:=λs k a c=>by
  have e:bW p ay {frame:=fr,callers:=C,status:=st,dying:=aw,offers:=z} w=aI p ay ay fr C aw w:=by simp[bW,a]
  exact Ô
 obtain⟨a,s,k,c⟩|⟨c,b,hk,_⟩:=h;grind;have d:fr.mode≠ .run->∃o w' y,dT p ay fr C aw w=ic o w' y:=λa=>by unfold dT;rw[b];simp only[fo,ze];have e:(invoke (.fn (.method "") #[]) #[]).run p w=ft _ w:=O;rw[e];simp[bJ]
 cases a:fr.mode<;>grind [bW]
def UW{p G}(h:xJ p g):¬qK p g w G w':=by rintro⟨a,e,_⟩;have⟨o,w1,y,z⟩:=OO h w;grind
structure Gd(P:Zp)(F:Zc)(X:ZP)(I:Zf->Zy->Prop)(D:Zf)(g:Zg)(w:Zy):Prop where
 yk:Jy P g.frame\/I g.frame w
 yl:∀c∈g.callers,Jy P c
 sm:Sm (wf P F) X w w
 dy:g.dying=aw
 pT:g.status=bK
 Cp:g.offers=aw
 vw:∃l,g.callers=l++[D]/\Bk g.frame l
variable{dm:fZ}{I:(aD->Prop)->fZ->dN->Prop}{Fo:bE kL}
theorem Gd.re(a:DX P F I Fo)(h:Gd P F X (I X) dm g w)(t:aD->Question->aD)(d:aD):Gd P F X (I X) dm g<|re w t d:=⟨h.yk.imp id<|a.re X _ _ t d,h.yl,h.sm.re t d,h.dy,h.pT,h.Cp,h.vw⟩
def Gd.eq(h:Gd P F X (I X) dm g w):g=Xh g.frame g.callers:=by have⟨fr,C,st,D,o⟩:=g;have⟨_,_,_,y,z,x,_⟩:=h;cases y;cases z;cases x;rfl
def Gd.step(u:Yk P F)(B:DX P F I Fo)(n:oi P dm){g w}(h:Gd P F X (I X) dm g w):
  (∃o w' es,bW (wf P F) ay g w=ic o w' es)\/∃g' w' es,bW (wf P F) ay g w=ij g' w' es/\g'.dying=aw/\g'.status=bK/\g'.offers=aw/\(xJ P g'\/(Gd P F X (I X) dm g' w'/\wo P F (T g.callers) (bW (wf P F) ay g w))):=by
 have⟨l,hl,hb⟩:=h.vw;have ba:g.callers≠[]:=by rw[hl];simp
 obtain q|hI:=h.yk;rotate_left
 ·
  have h1:=h.eq;have hS:=OL h.sm;obtain b|⟨ch,b,y,D⟩|⟨ih,w',b,y,D,⟨es,h2⟩,wr⟩:=B.step X g.frame w hS hI;left;rw[h1];exact b _;right;cases l with
  |nil=>
   have e:bW (wf P F) ay g w=ij (Xh (dm.raise ch) []) w #[]:=zdc
   refine⟨_,_,_,e,O,O,O,aJ ⟨O,Y ?_⟩⟩;have⟨m,ho⟩:=OP dm ch;rw[ho];exact n.qJ m
  |cons c l=>
   have e:bW (wf P F) ay g w=ij (Xh (c.raise ch)<|l++[dm]) w #[]:=zdc
   have hs:Bk c l:=hb;have⟨m,ho⟩:=OP c ch;refine⟨_,_,_,e,O,O,O,Y ⟨⟨aJ<|(h.yl c Á).iM _,λx hx=>h.yl x<|by rw[hl];exact jw _ hx,h.sm,O,O,O,l,O,?_⟩,λG hd d C A _=>?_⟩⟩;show Bk _ l;rw[ho];exact hs.cH O;grind [Xh]
  right;have e:bW (wf P F) ay g w=ij (Xh ih g.callers) w' es:=by rw[h1];exact h2 _
  have⟨v1,es1,_,f2⟩:=wr w hS;refine⟨_,_,_,e,O,O,O,Y ⟨⟨b.symm,h.yl,OM f2.sm.jL,O,O,O,l,hl,hb.cH y⟩,λG hd d C A _=>?_⟩⟩;grind [Xh]
 have p:Jy (wf P F) g.frame:=yq.2 q;obtain⟨g',w',es,e,b,y,D,h2,wr,h6,h7⟩|⟨o,w',es,e⟩:=xvf (F:=F) (u.yp X) h.sm p h.dy u.ro ba;rotate_left;exact aJ ⟨o,w',es,e⟩;have cs:=e;refine Y ⟨g',w',es,cs,b,y,D,?_⟩;by_cases bb:T g'.callers=0;left;refine⟨b,Y ?_⟩;have bc:l=[]:=by rw[hl]at h6;simp only[zx,Zr]at h6;exact jv À
 subst bc;rcases wr dm [] Á (by omega)with⟨v,t⟩|⟨m,t⟩;rw[t,n.jM];exact n;rw[t];exact n;have⟨l',a1,a2,a3⟩:=Ut (F:=F) (cs1:=[dm]) (cs2:=[dm]) (u.yp X) h.sm p h.dy hl hb u.ro Â _ _ _ e b Á;by_cases i:T g'.callers=T g.callers+1/\g'.frame.roundOf=aw/\vv F g'.frame.fn;left;refine⟨b,aJ ?_⟩;have⟨c1,c2,c3⟩:=i;have⟨f,a,k,_,t⟩:=h2 c1 c2;rw[t]at c3⊢;have⟨fn,s,r1,r2,_⟩:=c3;grind [bI,wf];right;have hE:wo (wf P F) F (T g.callers)<|stepG (wf (wf P F) F) ay g w:=λG hd d C A S=>by rw[e]at C;cases C;exact⟨O,λhr=>i ⟨A,S,hr⟩⟩
 have⟨v1,es1,f1,f2⟩:=(Ha (En:=True) (F:=F) (u.yp X) u.yo h.sm (⟨Y p,λc j=>Y (yq.2<|h.yl c j)⟩) p h.dy λ_=>hE).DQ bD _ _ _ e b;have z:wo P F (T g.callers)<|stepG (wf P F) ay g w:=λG hd d C A S=>u.pC λhr=>i Á;have v':(Jy P g'.frame\/I X g'.frame w')/\∀c∈g'.callers,Jy P c:=by
  by_cases h3:T g'.callers=T g.callers+1/\g'.frame.roundOf=aw/\Mc P g'.frame.fn;have⟨c1,c2,c3⟩:=h3;have⟨f,a,k,hk,t⟩:=h2 c1 c2;have L:=z g' w' es cs c1 c2;refine⟨Y ?_,λc j=>yq.1<|h7 (λc j=>yq.2<|h.yl c j) c j⟩;rw[t]at L c3⊢;exact B.ym X f a k w' L c3 hk;have W:wo _ F (T g.callers) _:=λG hd d C A S=>by refine B.pC _ (z G hd d C A S) λho=>h3 ?_;grind
  have r:Jy (wf P Fo) g.frame:=yq.2 q;have w2:=(Ha (En:=True) (F:=F) (B.Cq X) B.oN (OM<|OL h.sm) ⟨Y r,λc j=>Y (yq.2<|h.yl c j)⟩ r h.dy λ_=>W).ok bD _ _ _ cs b;exact⟨aJ<|yq.1<|w2.1.resolve_left<|B.DY _,λc j=>yq.1<|(w2.2 c j).resolve_left<|B.DY _⟩
 exact⟨⟨v'.1,v'.2,f2.sm.jL,b,y,D,l',a1,a2⟩,z⟩
def Gd.oK(z:Yk P F)(v:DX P F I Fo)(y:oi P dm)(h:Gd P F X (I X) dm g w):Fd w<|stepG (wf P F) ay g:=by
 obtain a|s:=h.yk;exact(Ha (En:=False) (F:=F) (z.yp X) z.yo h.sm ⟨Y<|yq.2 a,λc j=>Y (yq.2<|h.yl c j)⟩ (yq.2 a) h.dy λx=>x.elim).oK;have p:=h.eq;have⟨l,u,W⟩:=h.vw;obtain f|⟨ch,f,r,i⟩|⟨q,k,_,_,i,_⟩:=v.step X g.frame w (OL h.sm) s;intro n k b e _;have⟨o,w1,S,D⟩:=f g.callers;grind;have:∃c C,g.callers=c::C:=by rw[u];cases l with|nil=>grind|cons c l=>grind
 have⟨c,C,j⟩:=this;rw[p,j];intro n k b e _;have m:bW (wf P F) ay (Xh g.frame (c::C)) w=ij n k b:=e;rw[D4 f r (i _) w]at m;cases m;exact⟨zd _,O,λt d _=>⟨#[],by grind [D4]⟩⟩;rw[p];exact i _
def xr7(y:Yk P F)(b:DX P F I Fo)(a:oi P dm)(f:∀g w t d,End g (re w t d)↔End g w):zR (wf P F) End (λg w=>Gd P F X (I X) dm g w\/xJ P g) where
 iD:=f
 tS g w t d:=⟨λh=>h.imp (λh=>by have:=Gd.re b h w.tape w.drawn;grind [Ca,GI]) id,λh=>h.imp (λh=>Gd.re b h t d) id⟩
 oK g w hI _:=by obtain h|h:=hI;exact h.oK y b a;intro l m j e;have⟨o,w1,c,z⟩:=OO (p:=wf P F) h w;grind
 yj g w l m hI _ hgo:=by
  obtain h|h:=hI;have⟨j,z,x,u⟩:=hgo;obtain⟨o,w1,c,i⟩|⟨n,r,k,i,_,_,_,q⟩:=h.step y b a<;>grind
  exact dC hgo<|UW h
def zrz(y:Yk P F)(q:DX P F I Fo)(i:oi P dm){z x}(j:End (Xh z x) w'):
  ∀(n:aD) (fr:Zf) (C:bA Zf) (w:Zy),runN (wf P F) n (lone fr C w)=gP (lone z x w')->(Gd P F X (I X) dm (Xh fr C) w\/xJ P (Xh fr C))->zT (wf P F) End n (Xh fr C) w:=by
 intro n;induction n with
 |zero=>
  intro fr C w h _;simp only[runN,Stepped.next.injEq,lone,Machine.mk.injEq]at h;have⟨f,g,_⟩:=h;subst f;obtain⟨rfl,rfl⟩:=g;exact j
 |succ n W=>
  intro fr C w h c;have u:∀{o w1 b},bW _ ay (Xh fr C) w=ic o w1 b->False:=λ{o w1 b} e=>by have a:=step_lone_ended zbn;grind [runN]
  obtain c|c:=c;obtain⟨o,w1,b,e⟩|⟨k,w1,b,e,f,g,l,m⟩:=c.step y q i;grind;have⟨s,r,st,D,S⟩:=k;cases f;cases g;cases l;have a:=step_lone_go zbn;simp only[runN,a]at h;exact Y ⟨_,w1,⟨b,e,O,O⟩,W s r w1 h<|m.elim Y λh=>aJ h.1⟩;have⟨o,w1,b,e⟩:=OO (p:=wf P F) c w;grind
def Lo(y:Zp)(End:Zg->Zy->Prop)(g:Zg)(w:Zy):Prop:=∀t d,∃n,zT y End n g<|re w t d
theorem UR(e:∀g w t d,End g (re w t d)↔End g w)(a:∀g w,End g w->¬xJ P g)(h:Lo (wf P F) End g w):¬xJ P g:=by intro y;have⟨n,b⟩:=h w.tape w.drawn;cases n with|zero=>exact a _ _ b y|succ n=>obtain b|⟨f,i,c,_⟩:=b;grind;exact UW (p:=wf P F) y c
variable{J:aD×aD->bE cR->dN->gA->Prop}
def tU(hd:Yk P F)(j:oi P dm)(Co:DU P X J)(s:∀g w t d,End g (re w t d)↔End g w)(ba:∀g w,End g w->¬xJ P g)
  {fr w}(bd:Jy P fr\/∃f a,Vi P F f/\Mc P f/\fr=bI (wf P F) f a dH)(hk:fr.kind=dH)(hw:∀t d,∃fr' cs' w',Steps (wf P F) (lone fr [dm]<|re w t d) (lone fr' cs' w')/\End (Xh fr' cs') w')
  {k gs v sl t cs}(bc:∀c∈cs,ni P c)(hJ:J k gs v t)(ho:gs[0]?=ac (Xh fr cs))(hS:Sm P X (re w v.tape v.drawn) v):
  ∃h3 gs' v' sl' t' k' g' w' g2,fQ P h3 (gJ gs v sl) t=(gP<|crowd gs' v' sl',t')/\J k' gs' v' t'/\gs'[0]?=ac g2/\End g' w'/\zS P X [dm] cs g' w' g2 v':=by
 have⟨I,Fo,i⟩:=hd.GA;have z:Jy P fr\/I X fr w:=bd.imp id λ⟨f,a,b,e,h1⟩=>by rw[h1];exact i.ym X f a dH w b e ⟨Â,Â⟩
 have C:=z.symm.imp (i.mc X fr w) id;have G:Gd P F X (I X) dm (Xh fr [dm]) w:=⟨z,λc y=>by simp only[Xh,ju]at y;subst y;exact j.Hc,OM<|(hS.jL).re w.tape w.drawn,O,O,O,[],O,hk⟩;have w2:Lo _ End _ w:=λt d=>by have⟨fr',cs',w',⟨n,h2⟩,hE⟩:=hw t d;exact⟨n,zrz (X:=X) hd i j hE n fr [dm] _ h2<|aJ<|Gd.re i G t d⟩
 have B:=xr7 (X:=X) hd i j s;have W:=(B.bar (aJ G) w2).sim (P:=P) (λk g w m t=>Lo _ End g w/\Gd P F X (I X) dm g w/\∃gs v sl g2,m=gJ gs v sl/\J k gs v t/\gs[0]?=ac g2/\zS P X [dm] cs g w g2 v) (by
  rintro k g w m t⟨hL,p,gs,v,sl,g2,rfl,hJ,ho,hx⟩ hs;have next:∀t d g' w',qK _ g (A.re w t d) g' w'->Lo _ End g' w'/\Gd P F X (I X) dm g' w':=λt d g' w' q=>by have b:=B.eG (aJ p) hs hL q;refine⟨b,?_⟩;rcases B.yj g _ g' w' (aJ<|Gd.re i p t d) (λx=>hs<|(s ..).1 x) q with e|e;exact e;exact dC e<|UR s ba b
  have h:∀t d,∃g' w',qK (wf P F) g (A.re w t d) g' w'/\[dm].length<=T g'.callers:=λt d=>by have⟨n,h2⟩:=hL t d;cases n with|zero=>exact dC ((s ..).1 h2) hs|succ n=>obtain h2|⟨g',w',b,_⟩:=h2;grind;have⟨l,hl,_⟩:=(next t d g' w' b).2.vw;grind
  have hE:∀t d,wo P F (T g.callers)<|stepG (wf P F) ay g<|A.re w t d:=λt d=>by have⟨g',w',b,_⟩:=h t d;have e:=next t d g' w' b;have⟨wr,e1,e2,e3⟩:=b;rcases(Gd.re i p t d).step hd i j with⟨o,w1,ih,e4⟩|⟨g3,w3,bf,e4,_,_,_,h5⟩<;>grind [UR]
  have r:=show∃gs' v' sl' t',fQ P 1 (gJ gs v sl) t=(gP<|crowd gs' v' sl',t')/\
   ((∃k',AI k' k/\J k' gs' v' t'/\gs'[0]?=ac g2/\zS P X [dm] cs g w g2 v')\/
    ∃tp d g' w' g2',qK (wf P F) g (A.re w tp d) g' w'/\J k gs' v' t'/\gs'[0]?=ac g2'/\zS P X [dm] cs g' w' g2' v'/\V (Z' v)<=V (Z' v')/\∀x,X x->v'.heap[x]?=v.heap[x]?)from by
   obtain hF|hI:=p.yk;exact UD (sl:=sl) Co (hd.Cq X) hd.oN hd.ro hx hF h hE hJ ho;refine UB Co hx (λd es=>?_) hJ ho;have⟨l,hl,hg2,hlow⟩:=hx.yk;have hb:Bk g.frame l:=by obtain⟨b,_⟩|⟨_,b⟩:=hlow;cases b;exact b
   have L:=p.eq;have D:g2=Xh g.frame (l++cs):=by rw[hg2];have⟨fr,cs,st,dy,off⟩:=g;cases p.dy;cases p.pT;cases p.Cp;rfl
   have⟨g',w',q,hlen⟩:=h v.tape d;obtain b|⟨ch,b,e,h1⟩|⟨fr',w1,b,e,h1,⟨wr,h4⟩,h5⟩:=i.step X g.frame _ es.jL (i.re X _ _ _ _ hI);have⟨o,w1,wr,e1⟩:=b g.callers;have⟨es',e2,_⟩:=q;grind;have⟨es',e2,e3,e4⟩:=q;cases l with
   |nil=>rw[L,hl]at e2;have e5:bW (wf P F) ay (Xh g.frame (dm::[])) (A.re w v.tape d)=_:=D4 b e (h1 _) _;grind [Xh]
   |cons c l=>
    have y:=p.yl c Á;have bb:Bk c l:=hb;have⟨m,hm⟩:=OP c ch;have f0:bW (wf P F) ay g (A.re w v.tape d)=ij (Xh (c.raise ch)<|l++[dm]) (A.re w v.tape d) #[]:=by rw[L,hl];exact D4 b e (h1 _) _
    have S:∀x∈l++[dm],Jy P x:=λx u=>p.yl x Á;refine⟨Xh (c.raise ch)<|l++[dm],A.re w v.tape d,l,v.at d,#[],⟨#[],f0,O,O⟩,O,Y ⟨Â,?_⟩,?_,.yi es,⟨Y<|y.iM _,λx u=>Y (S x u)⟩,⟨Y<|y.iM _,λx u=>?_⟩⟩;show Bk (c.raise ch) l;rw[hm];exact bb.cH O;rw[D];exact D4 b e (h1 _) _;have be:=u;have:=hx.Fs.2 x;grind
   have⟨v1,ih,f1,f2⟩:=h5 _ es;have f0:bW (wf P F) ay g (A.re w v.tape d)=ij (Xh fr' g.callers) w1 wr:=by rw[L];exact h4 _
   have hr:=b.imp (i.mc X fr' w1) id;refine⟨Xh fr' g.callers,w1,l,v1,ih,⟨wr,f0,O,O⟩,hl,Y ⟨Â,hb.cH e⟩,?_,f2,⟨hr,λx u=>Y (p.yl x u)⟩,⟨hr,λx u=>?_⟩⟩;rw[D];exact f1 _;have be:=u;have:=hx.Fs.2 x;grind
  grind)
 obtain⟨h3,m',t',g',w',k',r1,r2,_,_,gs',v',sl',g2,rfl,r3,r4,r5⟩:=W k (gJ gs v sl) t ⟨w2,G,gs,v,sl,Xh fr cs,O,hJ,ho,⟨[],O,O,Y ⟨Â,hk⟩⟩,O,O,⟨C,λc y=>by simp only[Xh,ju]at y;subst y;exact Y j.Hc⟩,⟨C,bc⟩,hS⟩;grind
end
end
end
section
open Go.Conc
open Go.ConcN (sumTo upd sumTo_upd upd_ne upd_same)
variable[pn:Pn]
section
variable{P:cI}{F:bE kL}{X:aD->Prop}
def uM(X:ZP)(l:Loc):Prop:=∃a,l=ma a/\X a.block
def xI(X:ZP)(l:Loc):Prop:=∃r,l=pa r/\X r
structure vB(X:ZP)(B:aD)(t:gA):Prop where
 gB:∀S,¬Race S t
 ln:∀i a,mg t i=ac a->a.loc.isMemory=ay->Knows t 0 i\/(uM X a.loc/\a.kind= .atomic)\/(xI X a.loc/\a.write=ao)
 mD:t.HandedOver
 vC:Deaf t 0=0
 hU:∀i a,mg t i=ac a->a.loc.low B
def Cn(X:ZP)(B:aD)(e:me):Prop:=(∀x,(cA e).touch?=ac x->(uM X x.loc->x.kind≠ .plain)/\(xI X x.loc->x.write=ao)/\x.loc.low B)/\e.loc≠ .mark oG/\e.loc≠ .mark oF
def Hj(h:vx X n e){x}(hx:(cA e).touch?=ac x):x.loc.low n/\(x.loc.isMemory=ay->¬uM X x.loc/\∀r,x.loc=pa r->X r->x.write=ao):=by
 have⟨l,W,S⟩:=e;cases l with
 |cell a=>
  have c:¬X a.block/\a.block<n:=h;simp only[ofEvent_cell0,cO,xj]at hx;subst hx;exact⟨c.2,λ_=>⟨λ⟨b,e,d⟩=>Á,λr e=>Æ⟩⟩
 |obj r=>
  have c:(X r->W=ao)/\r<n:=h;cases W<;>cases S
  simp[cA,cO,xj]at hx;subst hx;exact⟨c.2,λ_=>⟨λ⟨b,e,d⟩=>Æ,λr e hx=>O⟩⟩;simp[cA,cO,xj]at hx;subst hx;exact⟨c.2,λ_=>⟨λ⟨b,e,d⟩=>Æ,λr e hx=>O⟩⟩;simp[cA,cO,xj]at hx;subst hx;exact⟨c.2,λ_=>⟨λ⟨b,e,d⟩=>Æ,λr e hx=>Á⟩⟩;grind [cA,cO]
 |output=>
  simp only[cA,cO,xj]at hx;subst hx;exact⟨bD,λh=>È⟩
 |goroutines=>exact h.elim|mark m=>cases m<;>first|exact h.elim|grind [cA,cO]
def Hk(h:vx X n e):e.loc≠ .mark oG/\e.loc≠ .mark oF/\∀a,e.loc≠ .mark (lK a):=by
 have⟨l,W,S⟩:=e;cases l with
 |mark m=>cases m<;>first|exact h.elim|simp
 |_=>simp
def Cn.vz(h:vx X n e):Cn X n e:=by refine⟨λx c=>⟨λb=>?_,λb=>?_,(Hj h c).1⟩,(Hk h).1,(Hk h).2.1⟩;exact dC b ((Hj h c).2<|by have⟨a,e,_⟩:=b;rw[e];rfl).1;have⟨r,e,y⟩:=b;exact((Hj h c).2<|by rw[e];rfl).2 r e y
section
variable{B y:aD}{u:gA}
def vB.U(h:vB X B t)(b:B<=y):vB X y t:=⟨h.gB,h.ln,h.mD,h.vC,λi a c=>Loc.low_mono b<|h.hU i a c⟩
def Z9{a}(h:mg (t++u) i=ac a):(i<V t/\mg t i=ac a)\/(V t<=i/\∃o∈u,(t++u)[i]?=ac o/\o.act.touch?=ac a):=by have⟨x,q,z⟩:=touch_of h;grind [touchAt_of]
theorem vB.cN(h:vB X B t){fn pos z}(j:∀e∈z,Cn X B e):vB X B<|t++aZ 0 fn pos z:=by
 have v:∀d∈aZ 0 fn pos z,d.g=0:=λd c=>Ø
 have s:∀d∈aZ 0 fn pos z,∀x,d.act.touch?=ac x->(uM X x.loc->x.kind≠ .plain)/\(xI X x.loc->x.write=ao)/\x.loc.low B:=λd c x q=>by obtain⟨e,n,rfl⟩:=zy c;exact(j e n).1 x q
 refine⟨λS=>pd (h.gB S) v λi a l d c b r m=>?_,λi a l w=>?_,handedOver_app h.mD λd c=>aJ (v d c),?_,λi a l=>?_⟩;obtain hk|⟨k,o⟩|⟨k,o⟩:=h.ln i a l m.2.1;exact hk;have p:=(s d c b r).1<|m.1▸k;obtain x|x|⟨_,x,_⟩:=m.c<;>grind
 have p:=(s d c b r).2.1<|m.1▸k;obtain x|x:=m.2.2.1<;>grind
 obtain⟨_,f⟩|⟨_,d,c,q,_⟩:=Z9 l;exact(h.ln i a f w).imp (·.app _) id;grind [knows_own];rw[mn,deafBehind_still λe n=>⟨(j e n).2.1,(j e n).2.2⟩];exact h.vC;obtain⟨_,f⟩|⟨_,d,c,q,y⟩:=Z9 l;exact h.hU i a f;grind
theorem vB.AO(h:vB X B t){g}(n:g≠0){fn pos z}(l:∀e∈z,e.mute=ay):vB X B<|t++aZ g fn pos z:=by
 have m:∀d∈aZ g fn pos z,d.g=g:=λd c=>Ø
 have o:∀d∈aZ g fn pos z,d.act.touch?=aw:=λd c=>Ft
 refine⟨λS=>pd (h.gB S) m λi a _ d c b q _=>Á,λi a j l=>?_,handedOver_app h.mD λd c=>Y (o d c),(dJ t n _ m).trans h.vC,λi a j=>?_⟩;obtain⟨_,f⟩|⟨_,d,c,p,k⟩:=Z9 j;exact(h.ln i a f l).imp (·.app _) id;grind;obtain⟨_,f⟩|⟨_,d,c,p,k⟩:=Z9 j;exact h.hU i a f;grind
end
def JL(P:Zp)(X:ZP)(k:aD×aD)(G:bE Zg)(v:Zy)(t:gA):Prop:=
 ∃q,Leavers P t G q/\vB X (V<|Z' v) t/\(0,kD (V G) q)=k
def Yl:DU P X (JL P X) where
 kr k gs v t hJ i g hi hg:=by have⟨q,a,_⟩:=hJ;exact oI<|(a.old i _ hi hg).status.elim aJ λx=>Y (Y x)
 gY k gs v t d hJ:=hJ
 dR k gs v t i g1 g0 sl hJ hpos hi hg1 h0 hrun hdy:=by
  obtain⟨q,a,r,rfl⟩:=hJ;have f:=a.old i g1 hpos hi;have s:(i==0)=ao:=Ç
  have z:=(za.1 hi).1;cases A:q i with
  |zero=>rw[A]at f;rw[f.1]at hg1;cases hg1
  |succ k=>
   rw[A]at f;obtain⟨S,_⟩|⟨_,g',G,I,o,L⟩:=f;grind;have l:=qD (sl:=sl) hi (by rw[s];exact o v);have C:V (aA (gs.map<|woken P g1 g' v) i g')=V gs:=Â
   have F:kD (V gs) (upd q i k)+(k+1)=kD (V gs) q+k:=by have:=sumTo_upd q k id z;simpa[A]using this
   refine⟨_,v,sl,_,(0,kD (V gs)<|upd q i k),l,.right _ À,?_,⟨upd q i k,⟨λj x m p=>?_,λj m=>?_⟩,r.AO À I,by rw[C]⟩,λw h=>h⟩;grind [woken_run];by_cases b:i=j;grind [upd_same,mn];rw[zl b,jt]at p;obtain⟨y,D,rfl⟩:=zv.1 p;have n:=a.old j y m D;rw[jJ n,upd_ne q k<|Ne.symm b,dJ t b _ λu c=>Ø];exact n;rw[dJ t (g':=i) À _ λu c=>Ø];exact a.above j À
 cN k gs v t g0 g' v' G hJ h0 hst hrun hrun' hk hes hg:=by
  obtain⟨q,a,r,rfl⟩:=hJ;refine⟨q,⟨λj x m p=>?_,λj m=>?_⟩,(r.U hg).cN λe W=> .vz (hes e W),Â⟩;have B:0≠j:=À
  rw[zl B,jt]at p;obtain⟨y,D,rfl⟩:=zv.1 p;have f:=a.old j y m D;rw[jJ f,dJ t À _ λu c=>Ø];exact f;rw[dJ t (g':=0) Á _ λu c=>Ø];exact a.above j Á
end
end
section
open Go.Conc
variable[pn:Pn]
section
variable{P:cI}{F:bE kL}{X:aD->Prop}{dm:fZ}{G y:cR->dN->Prop}
structure AM(P:Zp)(X:ZP)(g:Zg)(w:Zy)(m:Machine)(t:gA):Prop where
 Hb:∃z v S k,m=gJ z v S/\z[0]?=ac g/\JL P X k z v t/\Sm P X (re w v.tape v.drawn) v
 ok:uw P g
 pT:g.status=bK
 dy:g.dying=aw
def RX(P:Zp)(g:Zg)(w:Zy)(G:Zg->Zy->Prop):Prop:=
 ∀X m t,AM P X g w m t->∃z q p j u w',fQ P z m t=(gP q,p)/\(∀x,X x->j x)/\AM P j u w' q p/\G u w'
theorem RX.refl{g}(h:G g w):RX P g w G:=λX m t a=>⟨0,m,t,X,g,w,O,λ_ h=>h,a,h⟩
theorem RX.aE(h:RX P g w G)(k:∀q w',G q w'->RX P q w' y):RX P g w y:=λX m t a=>by have⟨z,p,j,u,o,w1,A,s,r,l⟩:=h X m t a;have⟨d,W,S,D,L,B,C,I,b3,b4⟩:=k o w1 l u p j r;exact⟨z+d,W,S,D,L,B,qr A C,λx b=>I x<|s x b,b3,b4⟩
def RX.U(h:RX P g w G)(k:∀z w',G z w'->y z w'):RX P g w y:=h.aE λz w' a=> .refl (k z w' a)
theorem AM.re{m:Machine}(h:AM P X g w m t)(tp:aD->Question->aD)(d:aD):AM P X g (re w tp d) m t:=⟨h.Hb,h.ok,h.pT,h.dy⟩
theorem RX.re{tp d}(h:RX P g (A.re w tp d) G):RX P g w G:=λX m t a=>h X m t<|a.re tp d
def RX.tU(z:Yk P F)(e:oi P dm)(f:∀g w t d,End g (A.re w t d)↔End g w)(c:∀g w,End g w->¬xJ P g)
  {fr cs w}(n:¬Mc P fr.fn)(hk:fr.kind=dH)(b:∀t d,∃q C w',Steps (wf P F) (lone fr [dm]<|A.re w t d) (lone q C w')/\End (Xh q C) w'):
  RX P (Xh fr cs) w (λs w'=>∃u l,End u w'/\u.callers=l++[dm]/\s={u with callers:=l++cs}):=by
 rintro X m t⟨⟨p,v,sl,k,rfl,i,j,o⟩,a,_,_⟩;have⟨x,W,L,S,B,I,u,w',s,r1,r2,r3,r4,r⟩:=A.tU (sl:=sl) z e Yl f c (aJ<|a.1.resolve_left n) hk b a.2 j i o;have⟨l,a1,D,_⟩:=r.yk;exact⟨x,_,B,X,s,w',r1,λ_ h=>h,⟨⟨W,L,S,I,O,r3,r2,r.sm⟩,r.Fs,by rw[D];exact r.pT,by rw[D];exact r.dy⟩,u,l,r4,a1,D⟩
def RX.sC{g g' es}(h:∀v,bW P ay g v=ij g' v es)(C:uw P g->uw P g')(h1:g'.status=bK)(hd:g'.dying=aw)(z:∀(X:ZP) (n:aD),∀e∈es,Cn X n e):RX P g w λg1 w1=>g1=g'/\w1=w:=by
 rintro X m t⟨⟨c,v,sl,k,rfl,F,G,h2⟩,hx,b,s⟩;induction k using DV.induction generalizing c v sl t with
 |_ k ih=>
  have r:∀g∈c,awake g:=by intro g1 f;obtain⟨i,p,rfl⟩:=Xd.1 f;obtain rfl|a:=jh i;grind [oI];exact Yl.kr k c v t G i _ a<|xy p
  have⟨i,g1,d,sl',p,f,hst⟩:=crowd_pick (P:=P) (w:=v) (sl:=sl) r ⟨0,g,F,b⟩;have l:=Yl.gY k c v t d G;have o:=h2.re v.tape d;obtain rfl|a:=jh i;obtain rfl:g1=g:=Á
  have cs:=qD (P:=P) (sl:=sl') (i:=0) p (show bW P (0==0) g1 (v.at d)=_ from h<|v.at d);obtain⟨q,u,L,rfl⟩:=l;refine⟨1,gJ _ _ sl',t++aZ 0 g1.frame.fn g1.frame.place es,X,g',w,ë,λ_ h=>h,⟨⟨aA (c.map<|woken P g1 g'<|v.at d) 0 g',v.at d,sl',(0,kD (V c) q),O,Á,⟨q,⟨λj x I W=>?_,λj I=>?_⟩,?_,Â⟩,o⟩,C hx,h1,hd⟩,O,O⟩;have B:0≠j:=À
  rw[zl B,jt]at W;obtain⟨y,ho,rfl⟩:=zv.1 W;have A:=u.old j y I ho;rw[jJ A,dJ t À _ λS D=>Ø];exact A;rw[dJ t (g':=0) Á _ λS D=>Ø];exact u.above j Á;exact L.cN<|z _ _;have⟨gs',v',sl2,ops,k',r1,r2,r3,r4,r5⟩:=Yl.dR k c _ t i g1 g sl' l a p f F b s;have⟨wr,m',t',X',g2,w2,a1,a2⟩:=ih k' r2 _ gs' v' sl2 r3 r4<|r5 w o;exact⟨1+wr,m',t',X',g2,w2,qr ë a1,a2⟩
end
section
variable{P:cI}{F:bE kL}{X:aD->Prop}{dm:fZ}{G y:cR->dN->Prop}
def RX.vA(u:Yk P F)(y:¬Mc P g.frame.fn)(e:∀X,Sm P X w w->∀t d,(∃L w',qK (wf P F) g (A.re w t d) L w'/\G L w')/\wo P F (T g.callers) (bW (wf P F) ay g<|A.re w t d)):RX P g w G:=by
 rintro X m t⟨⟨r,v,sl,k,rfl,s,x,q⟩,p,f,o⟩;have c:Sm P X w w:=q.jL.re w.tape w.drawn;induction k using DV.induction generalizing r v sl t with
 |_ k ih=>
  have⟨S,C,D,I,r1,r2⟩:=UD (sl:=sl) (cs1:=[]) (cs2:=[]) Yl (u.Cq X) u.oN u.ro (g2:=g) ⟨⟨g.callers,Â,Â,aJ ⟨O,O⟩⟩,f,o,p,p,q⟩ (p.1.resolve_left y)
   (λt d=>by have⟨⟨L,w',a,_⟩,_⟩:=e X c t d;grind) (λt d=>(e X c t d).2) x s
  obtain⟨z,i,j,n,b⟩|⟨B,d,L,w',g2,i,j,n,b,_⟩:=r2;have⟨W,m',t2,X',g2,w2,b1,b2⟩:=ih z i I S C D n j b.sm;exact⟨1+W,m',t2,X',g2,w2,qr r1 b1,b2⟩;have⟨⟨g1,w1,c1,c2⟩,_⟩:=e X c B d;obtain⟨rfl,rfl⟩:=c1.DR i;have⟨l,e1,e2,_⟩:=b.yk;have:g2=g1:=by rw[e2,Xz];rw[Xz]at e1;rw[<-e1]
  subst this;exact⟨1,_,I,X,g2,w1,r1,λ_ h=>h,⟨⟨S,C,D,k,O,n,j,b.sm⟩,b.Fs,b.pT,b.dy⟩,c2⟩
def DW(P:Zp)(F:Zc)(fr:Zf)(w:Zy)(e:kH):Prop:=e≠ jQ/\∃t d,fr.leaving (wf P F) (re w t d) e
def CX(P:Zp)(F:Zc)(f:FuncId)(A:Za)(w:Zy)(z:kH->Zy->Prop):Prop:=
 ∀C,RX P (Xh (bI P f A dH) C) w λx w'=>∃e fr,z e w'/\x=Xh fr C/\fr.fn=f/\DW P F fr w' e
def CX.qL(W:Yk P F)(p:oi P dm){f S}{u:(aD->Question->aD)->aD->kH->Zy->Prop}(y:Vi P F f)(x:¬Mc P f)(r:∀t d w',¬u t d jQ w')
  (h:∀t d,aK (wf P F) f S (re w t d)<|u t d):CX P F f S w λe w'=>∃t d D L,u t d e<|re w' D L:=by
 intro cs;refine(RX.tU (fr:=bI P f S dH) (cs:=cs) (dm:=dm) W p
  (End:=λm w'=>∃e fr t d D L,u t d e (A.re w' D L)/\e≠ jQ/\m=Xh fr [dm]/\fr.fn=f/\fr.leaving (wf P F) (A.re w' D L) e) (λm w' t d=>Iff.rfl) ?_ x O ?_).U ?_
 rintro m w'⟨e,fr,t,d,D,L,_,g,rfl,_,k⟩ ⟨_,C⟩;cases e with
 |outgrown=>grind
 |returned v=>
  have⟨a,b,_⟩:=k;obtain⟨i,_⟩|⟨_,i,_⟩:=C;have j:fr.mode= .run:=i;grind;have j:fr.defers=[_]:=i;grind
 |panicked c=>have⟨a,b,_⟩:=k;obtain⟨i,_⟩|⟨_,i,_⟩:=C;have j:fr.mode= .run:=i;grind;have j:fr.defers=[_]:=i;grind
 intro t d;have⟨e,w',fr,n,B,q,k⟩:=h t d [dm];rw[(GC y.1 S dH)]at B;have g:e≠ jQ:=by rintro rfl;exact r _ _ _ n
 refine⟨fr,[dm],w',?_,e,fr,t,d,w'.tape,w'.drawn,n,g,O,q,k⟩;cases e with
 |outgrown=>grind|returned v=>exact B
 |panicked c=>exact B
 rintro z w'⟨m,l,⟨e,fr,t,d,D,L,n,g,rfl,q,k⟩,o,rfl⟩;have:l=[]:=by have s:[dm]=l++[dm]:=o;have:=gv T s;simp only[zx,Zr]at this;exact jv À
 subst this;exact⟨e,fr,⟨t,d,D,L,n⟩,O,q,g,D,L,k⟩
def UV{c v}(f:Sm P X w w){b a}(h:(eR fn c).run (wf P F) (re w b a)=dG v (re w b a))(t d):
  (eR fn c).run (wf P F) (re w t d)=dG v (re w t d):=by
 have e:=(KJ (F:=F) (X:=X) fn c).oK _ (f.re b a) (by rw[h];trivial);rw[h]at e;have:=e.2.2 t d (λi q g=>by have:(re w b a).drawn-(re w b a).drawn=0:=KD _;have j:i<(re w b a).drawn-(re w b a).drawn:=g;omega);rw[Ca]at this;rw[this];show dG v (re (re w b a) t<|d+((re w b a).drawn-(re w b a).drawn))=_;rw[(KD _)];rfl
def RX.zU(z:Yk P F){C v}(b:¬Mc P fr.fn)(h:DW P F fr w<|ai v):RX P (Xh fr (c::C)) w λq w'=>∃t d,q=Xh (c.finish v) C/\w'=A.re w t d:=by
 have⟨_,m,D,p,j,u,fn,o,s⟩:=h;refine RX.vA z b λX f t d=>?_;have e:∃x,bW (wf P F) ay (Xh fr (c::C)) (A.re w t d)=ij (Xh (c.finish v) C) (A.re w t d) x:=by simp only[bW,Xh,dT,gi,p,j,u,o,ze,UV f s t d];exact⟨_,O⟩
 have⟨x,e⟩:=e;refine⟨⟨_,_,⟨x,e,O,O⟩,t,d,O,O⟩,λq w' a g i=>?_⟩;grind [Xh]
theorem RX.iM{C a}(h:DW P F fr w<|iL a)(b:∃fn,P.funcs[fr.fn]?=ac fn):RX P (Xh fr (c::C)) w λz w'=>z=Xh (c.raise a) C/\w'=w:=by
 have⟨_,q,D,A,p,_⟩:=h;have⟨fn,b⟩:=b;refine RX.sC (es:=#[]) (λv=>?_) (λd=>⟨(d.2 c<|by simp[Xh]).iM _,λx e=>d.2 x<|by grind [Xh]⟩) O O Â
 grind [bW,Xh,dT,Frame.catches]
end
end
section
variable[pn:Pn]
section
variable{y z:Type}{P:cI}{F:bE kL}{X:aD->Prop}
def xmn(t:Zt)(r):B P F X<|Extern.MapsClone.clone #[iW t<|fu<|some r]:=by
 show B P F X (na r>>=λo=>match o with
  | .map q C=>newObj _>>=λx=>(iu _:Sem Zv)|_=>stuck "maps.clone: a map expected")
 refine B7 (λo c b=>?_) λo b w=>?_;grind [xq,AH,xr,xz];cases o<;>first|(cases b;done)|exact⟨id,bD⟩
def xr3(a):B P F X<|Extern.MapsClone.clone a:=by
 have⟨l⟩:=a
 match l with
 |[]=>exact xz _|_::_::_=>exact xz _
 |[x]=>
  cases x with
  |iface t y=>
   cases y with
   |map r=>
    cases r with|none=>exact Yb _ bD|some r=>exact xmn t r
   |_=>exact xz _
  |_=>exact xz _
theorem xit(n):B P F X<|cutType n:=by refine Xq O ?_;grind [xr,xz]
theorem xmp(t:Zt):B P F X<|Extern.Rtype.handle t:=by exact Xq O<|xr _
def xch(h):B P F X<|Extern.Rtype.ofHandle h:=by refine Xq O ?_;grind [xr,xz]
def xmy(a):B P F X<|Extern.ReflectliteType.typeOf a:=by
 have⟨l⟩:=a
 match l with
 |[]=>exact xz _|_::_::_=>exact xz _
 |[x]=>
  cases x with
  |nilIface=>exact xr _|iface t y=>show B P F X<|Extern.ReflectliteType.toType t;grind [Extern.ReflectliteType.toType,xq,xit,xmp,xr]
  |_=>exact xz _
def xmu(s)(t:Zt):B P F X<|Extern.Rtype.noPack s t:=by refine Xq ?_<|pV (Yb _ bD)<|xr _;simp[TK]
def zv2(s)(t:Zt):B P F X<|Extern.Rtype.noPackHeld s t:=by refine Xq ?_ (Xq ?_<|pV (Yb _ bD)<|xr _)<;>grind [Fg,Vx]
def xix(r):B P F X<|Extern.ReflectliteType.ofRtype r:=by
 cases r with
 |agg a=>
  have⟨l⟩:=a
  match l with
  |[]=>exact xz _|_::_::_=>exact xz _
  |[h]=>exact xq (xch h) λt=>xq (xmu _ t) λ_=>xr _
 |_=>exact xz _
def xiz(f:Zt->Sem Zv)(b:∀t,B P F X<|f t)(a):B P F X<|Extern.ReflectliteType.method f a:=by
 have⟨l⟩:=a
 match l with
 |[]=>exact xz _|_::_::_=>exact xz _
 |[r]=>exact xq (xix r) b
def zvx(a):B P F X<|Extern.ReflectliteType.method (λt=>do pA "Comparable" t;iu (bG (<-typeInfo t).comparable)) a:=
 xiz _ (λt=>xq (zv2 _ t) λ_=>xq (zP t) λ_=>xr _) a
def zv1(e f a):B P F X<|Extern.BytealgMakeNoZero.makeNoZero e f a:=by
 have⟨l⟩:=a
 match l with
 |[]=>exact xz _|_::_::_=>exact xz _
 |[x]=>
  cases x with
  |int k n=>
   cases k with
   |i64=>
    have d:∀b,B P F X<|choose (.appendCap (bL n) 0 b)>>=λc=>askRoom c>>=λ_=>choose (.extern "internal/bytealg.MakeNoZero.bytes" 0)>>=λq=>newRow b (Extern.BytealgMakeNoZero.digits c q #[])>>=λa=>(iu (aB (ac a) (bL n) c):Sem Zv):=λb=>
     xq (Vr _) λ_=>xq (NJ _) λ_=>xq (Vr _) λ_=>xq (iU.2.2.1 _ _) λ_=>xr _
    unfold li;split;refine xq (Yz _) λu=>?_;grind [xq,tP,xz];exact xz _
   |_=>exact xz _
  |_=>exact xz _
end
end
section
open Go.Conc
def jer:bA aD:=[0,1,2,106,167,168,171,213,215,216,217,219,220,221,222,223,224,225,228,230,255,256,257,258,259,309,310,311,312,313,314,315,316,317,318,319,320,321,322,323,326,327,328,329,331,332,333,334,335,336,337,338,339,340,341,343,344,345,346,347,348]
def sD(i:aD):ez:=jer.contains i
def zW(f:kL):kL:={f with body:=ac<|.refuse ""}
def zV(i:aD)(f:kL):kL:=if sD i then zW f else f
noncomputable def Tryq.dA:Zc:=Tryz.prog.funcs.mapIdx zV
noncomputable def Tryq.prog:Zp:=wf az Tryq.dA
def xay:Tryq.prog.funcs=Tryq.dA:=Ä
def zxc:Tryq.prog.toTables=Tryz.prog.toTables:=Ä
def zX(i):Tryq.dA[i]?=(Tryz.prog.funcs[i]?).map (zV i):=by unfold Tryq.dA;simp
def Hi(h:sD i=ao)(a:Tryz.prog.funcs[i]?=ac f):Tryq.prog.funcs[i]?=ac f:=by rw[xay,zX,a];grind [zV]
theorem jck(h:sD i=ao)(b:Tryz.prog.funcs[i]?=ac f)(d:(f.name== "runtime.NumGoroutine")=ao)(e:f.body.isNone=ao)(A w):(callFunc i A).run Tryq.prog w=dG (nN i A) w:=by
 have a:¬f.name= "runtime.NumGoroutine":=by simpa using d
 cases y:f.body with|none=>simp_all|some c=>simp[callFunc,Hi h b,a,y]
theorem UP(h:sD i=ay)(a:Tryz.prog.funcs[i]?=ac f)(b:(f.name== "runtime.NumGoroutine")=ao):vv Tryq.dA i:=⟨zW f,"",by rw[zX,a];simp[zV,h],O,b⟩
theorem xu5:V Tryz.prog.funcs=350:=Ä
def UT(f:kL):ez:=!(f.name== "runtime.NumGoroutine")
noncomputable def Hd(i:aD):ez:=match Tryz.prog.funcs[i]?with
 |none=>ay
 |some fn=>UT fn&&(sD i||match fn.body with
  |none=>i==71||i==150||i==209||i==251||i==330
  |some c=>i==160||q9 az ay c)
def xsg:(iC 350).all Hd=ay:=Ä
def OK(h:i<350):Hd i=ay:=GM.1 xsg i<|List.mem_range.2 h
def OQ(h:Tryz.prog.funcs[i]?=ac f):i<350:=by grind [xu5]
theorem Hm(h:Tryz.prog.funcs[i]?=ac f):(f.name== "runtime.NumGoroutine")=ao:=by have:=OK<|OQ h;unfold Hd at this;grind [UT]
theorem UQ{c}(h:Tryz.prog.funcs[i]?=ac f)(a:sD i=ao)(d:i≠160)(b:f.body=ac c):q9 az ay c=ay:=zcp
def xt4(h:Tryz.prog.funcs[i]?=ac f)(a:sD i=ao)(b:f.body=aw):i=71\/i=150\/i=209\/i=251\/i=330:=zcp
def US(h:Tryq.dA[i]?=ac fn):∃f,Tryz.prog.funcs[i]?=ac f/\((sD i=ay/\fn=zW f)\/(sD i=ao/\fn=f)):=by rw[zX]at h;grind [zV]
theorem UU(h:Tryq.dA[i]?=ac fn)(a:fn.body.isNone=ay):(i=71/\fn=Tryz.f71)\/(i=150/\fn=Tryz.f150)\/(i=209/\fn=Tryz.f209)\/(i=251/\fn=Tryz.f251)\/(i=330/\fn=Tryz.f330):=by
 obtain⟨f,c,⟨_,rfl⟩|⟨b,rfl⟩⟩:=US h;simp[zW]at a;have d:fn.body=aw:=by simpa using a
 obtain rfl|rfl|rfl|rfl|rfl:=xt4 c b d<;>simp_all
def x71:oH Tryz.f71=ac Extern.MapsClone.clone:=Ä
def Hg:oH Tryz.f150=ac pO:=Ä
def jfe:oH Tryz.f251=ac (li Tryz.f251.params Tryz.f251.resultTypes):=Ä
def Hh:oH Tryz.f330=ac (pP λt=>do pA "Comparable" t;iu (bG (<-typeInfo t).comparable)):=Ä
def UO:oH Tryz.f209=ac Extern.AbiNoEscape.same:=Ä
theorem n71:kV Tryz.f71=aw:=Ä
theorem He:kV Tryz.f150=aw:=Ä
theorem UN:kV Tryz.f209=aw:=Ä
theorem je4:kV Tryz.f251=aw:=Ä
theorem Hf:kV Tryz.f330=aw:=Ä
end
section
open Tryq Go.Conc
section
variable(P:cI)(F:bE kL)(t:oW)(w:dN)
theorem ON:(typeInfo t).run (wf P F) w=(typeInfo t).run P w:=by unfold typeInfo;simp[go_sem,DH];cases P.info? t<;>simp[go_sem]
theorem xe4:(sizeOf t).run (wf P F) w=(sizeOf t).run P w:=by unfold sizeOf;simp[go_sem,ON]
theorem UY:(fj t).run (wf P F) w=(fj t).run P w:=by unfold fj;simp[go_sem,Yj];cases P.underlying t<;>simp[go_sem]
theorem xlb:(isAgg t).run (wf P F) w=(isAgg t).run P w:=by
 unfold isAgg;simp[go_sem,UY];cases(fj t).run P w with
 |ok d w'=>cases d<;>simp[go_sem]
 |halt h w'=>exact Ü
theorem xq3:(zeroValue t).run (wf P F) w=(zeroValue t).run P w:=by
 unfold zeroValue;simp[go_sem,ON];cases(typeInfo t).run P w with
 |ok d w'=>cases h:d.zero<;>simp[go_sem,h]
 |halt h w'=>exact Ü
end
@[simp]def Tryq.Fu:prog.toTables=Tryz.prog.toTables:=zxc
@[simp]def Tryq.eZ(t:Zt):prog.underlying t=Tryz.prog.underlying t:=by grind [prog,Yj]
@[simp]def Tryq.D1(t:Zt)(w):(typeInfo t).run prog w=(typeInfo t).run az w:=by grind [prog,ON]
@[simp]def Tryq.yn(t:Zt)(w):(sizeOf t).run prog w=(sizeOf t).run az w:=by grind [prog,xe4]
@[simp]def Tryq.DZ(t:Zt)(w):(fj t).run prog w=(fj t).run az w:=by grind [prog,UY]
@[simp]def Tryq.AN(t:Zt)(w):(isAgg t).run prog w=(isAgg t).run az w:=by grind [prog,xlb]
@[simp]def Tryq.D3(t:Zt)(w):(zeroValue t).run prog w=(zeroValue t).run az w:=by grind [prog,xq3]
@[simp]def Tryq.OJ(t:Zt):prog.stoodInHeld t=Tryz.prog.stoodInHeld t:=by grind [prog,AF]
@[simp]def Tryq.KU(t:Zt):prog.eqGuardType prog.depth t=Tryz.prog.eqGuardType Tryz.prog.depth t:=by grind [prog,Vx,Ff]
def qf(a:Tryz.prog.funcs[i]?=ac f)(h:sD i=ao:=by exact rfl):prog.funcs[i]?=ac f:=Hi h a
def qc(a:Tryz.prog.funcs[i]?=ac f)(h:(sD i||f.name== "runtime.NumGoroutine" ||f.body.isNone)=ao:=by exact rfl)(args:Za)(w:Zy):(callFunc i args).run prog w=dG (nN i args) w:=by grind [jck]
def qd(a:Tryz.prog.funcs[i]?=ac f)(g:sD i=ao:=by exact rfl)(h:(sD i||f.name== "runtime.NumGoroutine" ||f.body.isNone)=ao:=by exact rfl):prog.funcs[i]?=ac f/\∀(A:Za) (w:Zy),(callFunc i A).run prog w=dG (nN i A) w:=⟨qf a g,qc a h⟩
namespace Tryq
@[simp]def func4:=qd Tryz.func4
@[simp]def func5:=qd Tryz.func5
@[simp]def func6:=qd Tryz.func6
@[simp]def func7:=qd Tryz.func7
@[simp]def func8:=qd Tryz.func8
@[simp]def func9:=qd Tryz.func9
@[simp]def func10:=qd Tryz.func10
@[simp]def func11:=qd Tryz.func11
@[simp]def func12:=qd Tryz.func12
@[simp]def func13:=qd Tryz.func13
@[simp]def func14:=qd Tryz.func14
@[simp]def func15:=qd Tryz.func15
@[simp]def func16:=qd Tryz.func16
@[simp]def func17:=qd Tryz.func17
@[simp]def func18:=qd Tryz.func18
@[simp]def func19:=qd Tryz.func19
@[simp]def func20:=qd Tryz.func20
@[simp]def func21:=qd Tryz.func21
@[simp]def func22:=qd Tryz.func22
@[simp]def func23:=qd Tryz.func23
@[simp]def func24:=qd Tryz.func24
@[simp]def func25:=qd Tryz.func25
@[simp]def func26:=qd Tryz.func26
@[simp]def func27:=qd Tryz.func27
@[simp]def func28:=qd Tryz.func28
@[simp]def func29:=qd Tryz.func29
@[simp]def func30:=qd Tryz.func30
@[simp]def func31:=qd Tryz.func31
@[simp]def func32:=qd Tryz.func32
@[simp]def func33:=qd Tryz.func33
@[simp]def func34:=qd pN
@[simp]def func35:=qd Tryz.func35
@[simp]def func36:=qd Tryz.func36
@[simp]def func37:=qd Tryz.func37
@[simp]def func38:=qd Tryz.func38
@[simp]def func39:=qd Tryz.func39
@[simp]def func40:=qd Tryz.func40
@[simp]def func41:=qd Tryz.func41
@[simp]def func42:=qd Tryz.func42
@[simp]def func43:=qd Tryz.func43
@[simp]def func44:=qd Tryz.func44
@[simp]def func45:=qd Tryz.func45
@[simp]def func46:=qd Tryz.func46
@[simp]def func47:=qd Tryz.func47
@[simp]def func48:=qd Tryz.func48
@[simp]def func49:=qd Tryz.func49
@[simp]def func50:=qd Tryz.func50
@[simp]def func51:=qd Tryz.func51
@[simp]def func52:=qd Tryz.func52
@[simp]def func53:=qd Tryz.func53
@[simp]def func54:=qd Tryz.func54
@[simp]def func55:=qd Tryz.func55
@[simp]def func56:=qd Tryz.func56
@[simp]def func57:=qd Tryz.func57
@[simp]def func58:=qd Tryz.func58
@[simp]def func59:=qd Tryz.func59
@[simp]def func60:=qd Tryz.func60
@[simp]def func61:=qd Tryz.func61
@[simp]def func62:=qd Tryz.func62
@[simp]def func63:=qd Tryz.func63
@[simp]def func64:=qd Tryz.func64
@[simp]def func65:=qd Tryz.func65
@[simp]def func66:=qd Tryz.func66
@[simp]def func67:=qd Tryz.func67
@[simp]def func68:=qd Tryz.func68
@[simp]def func69:=qd Tryz.func69
@[simp]def func70:=qd Tryz.func70
@[simp]def func71:=qf Tryz.func71
@[simp]def func72:=qd Tryz.func72
@[simp]def func73:=qd Tryz.func73
@[simp]def func74:=qd Tryz.func74
@[simp]def func75:=qd Tryz.func75
@[simp]def func76:=qd Tryz.func76
@[simp]def func77:=qd Tryz.func77
@[simp]def func78:=qd Tryz.func78
@[simp]def func79:=qd Tryz.func79
@[simp]def func80:=qd Tryz.func80
@[simp]def func81:=qd Tryz.func81
@[simp]def func82:=qd Tryz.func82
@[simp]def func83:=qd Tryz.func83
@[simp]def func84:=qd Tryz.func84
@[simp]def func85:=qd Tryz.func85
@[simp]def func86:=qd Tryz.func86
@[simp]def func87:=qd Tryz.func87
@[simp]def func88:=qd Tryz.func88
@[simp]def func89:=qd Tryz.func89
@[simp]def func90:=qd Tryz.func90
@[simp]def func91:=qd Tryz.func91
@[simp]def func92:=qd Tryz.func92
@[simp]def func93:=qd Tryz.func93
@[simp]def func94:=qd Tryz.func94
@[simp]def func95:=qd Tryz.func95
@[simp]def func96:=qd Tryz.func96
@[simp]def func97:=qd Tryz.func97
@[simp]def func98:=qd Tryz.func98
@[simp]def func99:=qd Tryz.func99
@[simp]def func100:=qd Tryz.func100
@[simp]def func101:=qd Tryz.func101
@[simp]def func102:=qd Tryz.func102
@[simp]def func103:=qd Tryz.func103
@[simp]def func104:=qd Tryz.func104
@[simp]def func105:=qd Tryz.func105
@[simp]def func107:=qd Tryz.func107
@[simp]def func108:=qd Tryz.func108
@[simp]def func109:=qd Tryz.func109
@[simp]def func110:=qd Tryz.func110
@[simp]def func111:=qd Tryz.func111
@[simp]def func112:=qd Tryz.func112
@[simp]def func113:=qd Tryz.func113
@[simp]def func114:=qd Tryz.func114
@[simp]def func115:=qd Tryz.func115
@[simp]def func116:=qd Tryz.func116
@[simp]def func117:=qd Tryz.func117
@[simp]def func118:=qd Tryz.func118
@[simp]def func119:=qd Tryz.func119
@[simp]def func120:=qd Tryz.func120
@[simp]def func121:=qd Tryz.func121
@[simp]def func122:=qd Tryz.func122
@[simp]def func123:=qd Tryz.func123
@[simp]def func124:=qd Tryz.func124
@[simp]def func125:=qd Tryz.func125
@[simp]def func126:=qd Tryz.func126
@[simp]def func127:=qd Tryz.func127
@[simp]def func128:=qd Tryz.func128
@[simp]def func129:=qd Tryz.func129
@[simp]def func130:=qd Tryz.func130
@[simp]def func131:=qd Tryz.func131
@[simp]def func132:=qd Tryz.func132
@[simp]def func133:=qd Tryz.func133
@[simp]def func134:=qd Tryz.func134
@[simp]def func135:=qd Tryz.func135
@[simp]def func136:=qd Tryz.func136
@[simp]def func137:=qd Tryz.func137
@[simp]def func138:=qd Tryz.func138
@[simp]def func139:=qd Tryz.func139
@[simp]def func140:=qd Tryz.func140
@[simp]def func141:=qd Tryz.func141
@[simp]def func142:=qd Tryz.func142
@[simp]def func143:=qd Tryz.func143
@[simp]def func144:=qd Tryz.func144
@[simp]def func145:=qd Tryz.func145
@[simp]def func146:=qd Tryz.func146
@[simp]def func147:=qd Tryz.func147
@[simp]def func148:=qd Tryz.func148
@[simp]def func149:=qd Tryz.func149
@[simp]def func150:=qf Tryz.func150
@[simp]def func151:=qd Tryz.func151
@[simp]def func152:=qd Tryz.func152
@[simp]def func153:=qd Tryz.func153
@[simp]def func154:=qd Tryz.func154
@[simp]def func155:=qd Tryz.func155
@[simp]def func156:=qd Tryz.func156
@[simp]def func157:=qd Tryz.func157
@[simp]def func158:=qd Tryz.func158
@[simp]def func159:=qd Tryz.func159
@[simp]def func161:=qd Tryz.func161
@[simp]def func162:=qd Tryz.func162
@[simp]def func163:=qd Tryz.func163
@[simp]def func164:=qd Tryz.func164
@[simp]def func165:=qd Tryz.func165
@[simp]def func166:=qd Tryz.func166
@[simp]def func169:=qd Tryz.func169
@[simp]def func170:=qd Tryz.func170
@[simp]def func172:=qd Tryz.func172
@[simp]def func173:=qd Tryz.func173
@[simp]def func174:=qd Tryz.func174
@[simp]def func175:=qd Tryz.func175
@[simp]def func176:=qd Tryz.func176
@[simp]def func177:=qd Tryz.func177
@[simp]def func178:=qd Tryz.func178
@[simp]def func179:=qd Tryz.func179
@[simp]def func180:=qd Tryz.func180
@[simp]def func181:=qd Tryz.func181
@[simp]def func182:=qd Tryz.func182
@[simp]def func183:=qd Tryz.func183
@[simp]def func184:=qd Tryz.func184
@[simp]def func185:=qd Tryz.func185
@[simp]def func186:=qd Tryz.func186
@[simp]def func187:=qd Tryz.func187
@[simp]def func188:=qd Tryz.func188
@[simp]def func189:=qd Tryz.func189
@[simp]def func190:=qd Tryz.func190
@[simp]def func191:=qd Tryz.func191
@[simp]def func192:=qd Tryz.func192
@[simp]def func193:=qd Tryz.func193
@[simp]def func194:=qd Tryz.func194
@[simp]def func195:=qd Tryz.func195
@[simp]def func196:=qd Tryz.func196
@[simp]def func197:=qd Tryz.func197
@[simp]def func198:=qd Tryz.func198
@[simp]def func199:=qd Tryz.func199
@[simp]def func200:=qd Tryz.func200
@[simp]def func201:=qd Tryz.func201
@[simp]def func202:=qd Tryz.func202
@[simp]def func203:=qd Tryz.func203
@[simp]def func204:=qd Tryz.func204
@[simp]def func205:=qd Tryz.func205
@[simp]def func206:=qd Tryz.func206
@[simp]def func207:=qd Tryz.func207
@[simp]def func208:=qd Tryz.func208
@[simp]def func210:=qd Tryz.func210
@[simp]def func211:=qd Tryz.func211
@[simp]def func212:=qd Tryz.func212
@[simp]def func214:=qd Tryz.func214
@[simp]def func218:=qd Tryz.func218
@[simp]def func226:=qd Tryz.func226
@[simp]def func227:=qd Tryz.func227
@[simp]def func229:=qd Tryz.func229
@[simp]def func231:=qd Tryz.func231
@[simp]def func232:=qd Tryz.func232
@[simp]def func233:=qd Tryz.func233
@[simp]def func234:=qd Tryz.func234
@[simp]def func235:=qd Tryz.func235
@[simp]def func236:=qd Tryz.func236
@[simp]def func237:=qd Tryz.func237
@[simp]def func238:=qd Tryz.func238
@[simp]def func239:=qd Tryz.func239
@[simp]def func240:=qd Tryz.func240
@[simp]def func241:=qd Tryz.func241
@[simp]def func242:=qd Tryz.func242
@[simp]def func243:=qd Tryz.func243
@[simp]def func244:=qd Tryz.func244
@[simp]def func245:=qd Tryz.func245
@[simp]def func246:=qd Tryz.func246
@[simp]def func247:=qd Tryz.func247
@[simp]def func248:=qd Tryz.func248
@[simp]def func249:=qd Tryz.func249
@[simp]def func250:=qd Tryz.func250
@[simp]def func251:=qf Tryz.func251
@[simp]def func252:=qd Tryz.func252
@[simp]def func253:=qd Tryz.func253
@[simp]def func254:=qd Tryz.func254
@[simp]def func260:=qd Tryz.func260
@[simp]def func261:=qd Tryz.func261
@[simp]def func262:=qd Tryz.func262
@[simp]def func263:=qd Tryz.func263
@[simp]def func264:=qd Tryz.func264
@[simp]def func265:=qd Tryz.func265
@[simp]def func266:=qd Tryz.func266
@[simp]def func267:=qd Tryz.func267
@[simp]def func268:=qd Tryz.func268
@[simp]def func269:=qd Tryz.func269
@[simp]def func270:=qd Tryz.func270
@[simp]def func271:=qd Tryz.func271
@[simp]def func272:=qd Tryz.func272
@[simp]def func273:=qd Tryz.func273
@[simp]def func274:=qd Tryz.func274
@[simp]def func275:=qd Tryz.func275
@[simp]def func276:=qd Tryz.func276
@[simp]def func277:=qd Tryz.func277
@[simp]def func278:=qd Tryz.func278
@[simp]def func279:=qd Tryz.func279
@[simp]def func280:=qd Tryz.func280
@[simp]def func281:=qd Tryz.func281
@[simp]def func282:=qd Tryz.func282
@[simp]def func283:=qd Tryz.func283
@[simp]def func284:=qd Tryz.func284
@[simp]def func285:=qd Tryz.func285
@[simp]def func286:=qd Tryz.func286
@[simp]def func287:=qd Tryz.func287
@[simp]def func288:=qd Tryz.func288
@[simp]def func289:=qd Tryz.func289
@[simp]def func290:=qd Tryz.func290
@[simp]def func291:=qd Tryz.func291
@[simp]def func292:=qd Tryz.func292
@[simp]def func293:=qd Tryz.func293
@[simp]def func294:=qd Tryz.func294
@[simp]def func295:=qd Tryz.func295
@[simp]def func296:=qd Tryz.func296
@[simp]def func297:=qd Tryz.func297
@[simp]def func298:=qd Tryz.func298
@[simp]def func299:=qd Tryz.func299
@[simp]def func300:=qd Tryz.func300
@[simp]def func301:=qd Tryz.func301
@[simp]def func302:=qd Tryz.func302
@[simp]def func303:=qd Tryz.func303
@[simp]def func304:=qd Tryz.func304
@[simp]def func305:=qd Tryz.func305
@[simp]def func306:=qd Tryz.func306
def ntmps307:=Tryz.ntmps307
@[simp]def func307:=qf Tryz.func307
@[simp]def jef:=qc Tryz.func307
def ntmps308:=Tryz.ntmps308
@[simp]def func308:=qf Tryz.func308
@[simp]def jeg:=qc Tryz.func308
@[simp]def func324:=qd Tryz.func324
@[simp]def func325:=qd Tryz.func325
@[simp]def func330:=qf Tryz.func330
@[simp]def func342:=qd Tryz.func342
@[simp]def func349:=qd Tryz.func349
end Tryq
end
section
open Tryq
def Tryq.fR:prog.underlying 3=ac (.int bB):=(eZ 3).trans is
def Tryq.eY:prog.underlying 5=ac (.int .u8):=(eZ 5).trans Tryz.underlying5
def Tryq.dK:prog.underlying 9=ac oC:=(eZ 9).trans qv
def Tryq.gq:prog.underlying 49=ac (.slice 9):=(eZ 49).trans Tryz.underlying49
def Tryq.cT:prog.underlying 163=ac (.slice 5):=(eZ 163).trans Tryz.underlying163
def Tryq.lA:prog.underlying 318=ac (.array 256 3):=(eZ 318).trans Tryz.underlying318
def Tryq.lB:prog.underlying 320=ac (.array 176 3):=(eZ 320).trans Tryz.underlying320
def Tryq.jR:prog.underlying 336=ac (.array 64 243):=(eZ 336).trans Tryz.underlying336
def Tryq.ey:prog.underlying 359=ac (.array 16 5):=(eZ 359).trans Tryz.underlying359
def Tryq.nA:prog.underlying 368=ac (.array 256 5):=(eZ 368).trans Tryz.underlying368
end
end A
namespace P
variable{C:Za}{w:Zy}{W:aD->Z3}{y g n:aD}
section
open Go
def xe{p}(h:p):H p:=h
def u(x:Z3):U:=(x.toNat:U)
@[go_sem] abbrev R(x:BitVec 32):eJ:=Q cJ (u x)
def jdu(x):u x=(x.toNat:U):=O
def Ho(x):0<=u x:=by simp[u]
def Hn(x):u x<4294967296:=by simp[u];omega
def D9(x):dM 32 (u x)=x:=by simp[u]
def Fy(n)(a:0<=n)(h:n<4294967296):IntKind.u32.wrap n=n:=by grind [fS,fT,fi]
def Cs(a b):lr .xor cJ (u a) (u b)=u (a^^^b):=by show IntKind.u32.wrap ((dM 32 (u a)^^^dM 32 (u b)).toNat:U)=_;rw[D9,D9];exact Fy _ (Ho _)<|Hn _
def FD(a b):lr .and cJ (u a) (u b)=u (a&&&b):=by show IntKind.u32.wrap ((dM 32 (u a)&&&dM 32 (u b)).toNat:U)=_;rw[D9,D9];exact Fy _ (Ho _)<|Hn _
def ux(a b):lr .or cJ (u a) (u b)=u (a|||b):=by show IntKind.u32.wrap ((dM 32 (u a)|||BitVec.ofInt 32 (u b)).toNat:U)=_;rw[D9,D9];exact Fy _ (Ho _)<|Hn _
def FC(a b):IntKind.u32.wrap (u a+u b)=u (a+b):=by grind [fS,fT,fi,u]
def FE(a):lr .xor cJ IntKind.u32.max (u a)=u (~~~ a):=by show IntKind.u32.wrap ((dM 32 4294967295^^^dM 32 (u a)).toNat:U)=_;rw[D9,show dM 32 4294967295=BitVec.allOnes 32 from Ã,BitVec.allOnes_xor];exact Fy _ (Ho _)<|Hn _
def wC(a n k)(hk:k=((2^n:aD):U)):IntKind.u32.wrap (u a*k)=u (a<<<n):=by grind [fS,fT,fi,u,Nat.shiftLeft_eq]
def uN(a n k)(hk:k=((2^n:aD):U)):u a/k=u (a>>>n):=by grind [u,Nat.shiftRight_eq_div_pow]
def VL(a):u a/(4:U)=u (a>>>2):=uN a 2 _ O
def VM(a):u a/(8:U)=u (a>>>3):=uN a 3 _ O
def VN(a):u a/(64:U)=u (a>>>6):=uN a 6 _ O
def VK(a):IntKind.u32.wrap (u a*(128:U))=u (a<<<7):=wC a 7 _ O
def VO(a):u a/(128:U)=u (a>>>7):=uN a 7 _ O
def xz1(a):IntKind.u32.wrap (u a*(256:U))=u (a<<<8):=wC a 8 _ O
def xz2(a):u a/(256:U)=u (a>>>8):=uN a 8 _ O
def UZ(a):IntKind.u32.wrap (u a*(1024:U))=u (a<<<10):=wC a 10 _ O
def U8(a):u a/(1024:U)=u (a>>>10):=uN a 10 _ O
def U9(a):u a/(2048:U)=u (a>>>11):=uN a 11 _ O
def U0(a):IntKind.u32.wrap (u a*(8192:U))=u (a<<<13):=wC a 13 _ O
def U'(a):u a/(8192:U)=u (a>>>13):=uN a 13 _ O
def U1(a):IntKind.u32.wrap (u a*(16384:U))=u (a<<<14):=wC a 14 _ O
def U2(a):IntKind.u32.wrap (u a*(32768:U))=u (a<<<15):=wC a 15 _ O
def xvm(a):IntKind.u32.wrap (u a*(65536:U))=u (a<<<16):=wC a 16 _ O
def xvo(a):u a/(65536:U)=u (a>>>16):=uN a 16 _ O
def VB(a):u a/(131072:U)=u (a>>>17):=uN a 17 _ O
def VD(a):u a/(262144:U)=u (a>>>18):=uN a 18 _ O
def U3(a):IntKind.u32.wrap (u a*(524288:U))=u (a<<<19):=wC a 19 _ O
def VE(a):u a/(524288:U)=u (a>>>19):=uN a 19 _ O
def U4(a):IntKind.u32.wrap (u a*(2097152:U))=u (a<<<21):=wC a 21 _ O
def VF(a):u a/(4194304:U)=u (a>>>22):=uN a 22 _ O
def xvn(a):IntKind.u32.wrap (u a*(16777216:U))=u (a<<<24):=wC a 24 _ O
def xvp(a):u a/(16777216:U)=u (a>>>24):=uN a 24 _ O
def U5(a):IntKind.u32.wrap (u a*(33554432:U))=u (a<<<25):=wC a 25 _ O
def VG(a):u a/(33554432:U)=u (a>>>25):=uN a 25 _ O
def U6(a):IntKind.u32.wrap (u a*(67108864:U))=u (a<<<26):=wC a 26 _ O
def U7(a):IntKind.u32.wrap (u a*(1073741824:U))=u (a<<<30):=wC a 30 _ O
def rr(x:Z3)(n:aD):Z3:=x>>>n|||x<<<(32-n)
def jc9(x:Z3):x<<<30|||x>>>2=rr x 2:=Yd _ _
def jau:lr .and .u64 (IntKind.u64.wrap<|-2) 31=30:=Ê
def xzm(x:Z3):x<<<19|||x>>>13=rr x 13:=Yd _ _
def xxf:lr .and .u64 (IntKind.u64.wrap<|-13) 31=19:=Ê
def xzq(x:Z3):x<<<10|||x>>>22=rr x 22:=Yd _ _
def xxj:lr .and .u64 (IntKind.u64.wrap<|-22) 31=10:=Ê
def jda(x:Z3):x<<<26|||x>>>6=rr x 6:=Yd _ _
def jav:lr .and .u64 (IntKind.u64.wrap<|-6) 31=26:=Ê
def xzl(x:Z3):x<<<21|||x>>>11=rr x 11:=Yd _ _
def xxe:lr .and .u64 (IntKind.u64.wrap<|-11) 31=21:=Ê
def xzr(x:Z3):x<<<7|||x>>>25=rr x 25:=Yd _ _
def xxk:lr .and .u64 (IntKind.u64.wrap<|-25) 31=7:=Ê
def jdb(x:Z3):x<<<25|||x>>>7=rr x 7:=Yd _ _
def jaw:lr .and .u64 (IntKind.u64.wrap<|-7) 31=25:=Ê
def xzo(x:Z3):x<<<14|||x>>>18=rr x 18:=Yd _ _
def xxh:lr .and .u64 (IntKind.u64.wrap<|-18) 31=14:=Ê
def xzn(x:Z3):x<<<15|||x>>>17=rr x 17:=Yd _ _
def xxg:lr .and .u64 (IntKind.u64.wrap<|-17) 31=15:=Ê
def xzp(x:Z3):x<<<13|||x>>>19=rr x 19:=Yd _ _
def xxi:lr .and .u64 (IntKind.u64.wrap<|-19) 31=13:=Ê
def ch(x y z:Z3):Z3:=(x&&&y)^^^(~~~ x&&&z)
def OT(x y z:Z3):Z3:=(x&&&y)^^^(x&&&z)^^^(y&&&z)
def OR(x:Z3):Z3:=rr x 2^^^rr x 13^^^rr x 22
def OS(x:Z3):Z3:=rr x 6^^^rr x 11^^^rr x 25
def Fv(x:Z3):Z3:=rr x 7^^^rr x 18^^^x>>>3
def Fw(x:Z3):Z3:=rr x 17^^^rr x 19^^^x>>>10
structure St where
 a:Z3
 b:Z3
 c:Z3
 d:Z3
 e:Z3
 f:Z3
 g:Z3
 h:Z3
def T1(e f g h k:Z3):Z3:=h+OS e+ch e f g+k
def T2(a b c:Z3):Z3:=OR a+OT a b c
def VP(s:St)(k:Z3):St:=⟨T1 s.e s.f s.g s.h k+T2 s.a s.b s.c,s.a,s.b,s.c,s.d+T1 s.e s.f s.g s.h k,s.e,s.f,s.g⟩
def Kt:bA Z3:=[1116352408,1899447441,3049323471,3921009573,961987163,1508970993,2453635748,2870763221,3624381080,310598401,607225278,1426881987,1925078388,2162078206,2614888103,3248222580,3835390401,4022224774,264347078,604807628,770255983,1249150122,1555081692,1996064986,2554220882,2821834349,2952996808,3210313671,3336571891,3584528711,113926993,338241895,666307205,773529912,1294757372,1396182291,1695183700,1986661051,2177026350,2456956037,2730485921,2820302411,3259730800,3345764771,3516065817,3600352804,4094571909,275423344,430227734,506948616,659060556,883997877,958139571,1322822218,1537002063,1747873779,1955562222,2024104815,2227730452,2361852424,2428436474,2756734187,3204031479,3329325298]
def Kc(i:aD):Z3:=Kt.getD i 0
def hY(s:St)(W:aD->Z3):aD->St
 |0=>s|n+1=>VP (hY s W n)<|Kc n+W n
def AQ(s t:St):St:=⟨s.a+t.a,s.b+t.b,s.c+t.c,s.d+t.d,s.e+t.e,s.f+t.f,s.g+t.g,s.h+t.h⟩
def Jb(s:St)(W:aD->Z3):St:=AQ (hY s W 64) s
end
section
open A.Tryq Go.RowKit
attribute [local go_sem] Cs FD ux FC FE
attribute [local go_sem] U7 jau U3 xxf UZ xxj U6 jav U4 xxe VK xxk U5 jaw U1 xxh U2 xxg U0 xxi
def xcw(x y z w):aK prog 300 #[R x,R y,R z] w λe q=>e=ai (R<|ch x y z)/\q=w:=by
 go_enter func300.1,Tryz.ntmps300;go_wp2;all_goals go_ret
 all_goals exact⟨O,O⟩
def xtr(x y z w):aK prog 302 #[R x,R y,R z] w λe q=>e=ai (R<|OT x y z)/\q=w:=by
 go_enter func302.1,Tryz.ntmps302;go_wp2;all_goals go_ret
 all_goals exact⟨O,O⟩
def zY(x w):∀q∈[((2:U),2),((13:U),13),((22:U),22),((6:U),6),((11:U),11),((25:U),25),((7:U),7),((18:U),18),((17:U),17),((19:U),19)],aK prog 303 #[R x,J q.1] w λe z=>e=ai (R<|rr x q.2)/\z=w:=by
 intro q a;simp only[jc,Ky,or_false]at a;obtain rfl|rfl|rfl|rfl|rfl|rfl|rfl|rfl|rfl|rfl:=a;all_goals
  go_enter func303.1,Tryz.ntmps303;go_wp2;all_goals go_ret
  all_goals refine⟨?_,O⟩
 show ai (zu<|bits .or cJ (u<|x<<<30)<|u x/4)=_;rw[VL,ux,jc9];show ai (zu<|bits .or cJ (u<|x<<<19)<|u x/8192)=_;rw[U',ux,xzm];show ai (zu<|bits .or cJ (u<|x<<<10)<|u x/4194304)=_;rw[VF,ux,xzq];show ai (zu<|bits .or cJ (u<|x<<<26)<|u x/64)=_;rw[VN,ux,jda];show ai (zu<|bits .or cJ (u<|x<<<21)<|u x/2048)=_;rw[U9,ux,xzl];show ai (zu<|bits .or cJ (u<|x<<<7)<|u x/33554432)=_;rw[VG,ux,xzr];show ai (zu<|bits .or cJ (u<|x<<<25)<|u x/128)=_;rw[VO,ux,jdb];show ai (zu<|bits .or cJ (u<|x<<<14)<|u x/262144)=_;rw[VD,ux,xzo];show ai (zu<|bits .or cJ (u<|x<<<15)<|u x/131072)=_;rw[VB,ux,xzn];show ai (zu<|bits .or cJ (u<|x<<<13)<|u x/524288)=_;rw[VE,ux,xzp]
def xrz(x w):aK prog 301 #[R x] w λe z=>e=ai (R<|OR x)/\z=w:=by
 go_enter func301.1,Tryz.ntmps301;go_wp2;apply(zY x _ (2,2) Â).mono;rintro e z⟨rfl,rfl⟩;go_wp2;apply(zY x _ (13,13) Â).mono;rintro e z⟨rfl,rfl⟩;go_wp2;apply(zY x _ (22,22) Â).mono;rintro e z⟨rfl,rfl⟩;go_wp2;all_goals go_ret
 all_goals exact⟨O,O⟩
def xr0(x w):aK prog 299 #[R x] w λe z=>e=ai (R<|OS x)/\z=w:=by
 go_enter func299.1,Tryz.ntmps299;go_wp2;apply(zY x _ (6,6) Â).mono;rintro e z⟨rfl,rfl⟩;go_wp2;apply(zY x _ (11,11) Â).mono;rintro e z⟨rfl,rfl⟩;go_wp2;apply(zY x _ (25,25) Â).mono;rintro e z⟨rfl,rfl⟩;go_wp2;all_goals go_ret
 all_goals exact⟨O,O⟩
def xu1(x w):aK prog 287 #[R x] w λe z=>e=ai (R<|Fv x)/\z=w:=by
 go_enter func287.1,Tryz.ntmps287;go_wp2;apply(zY x _ (7,7) Â).mono;rintro e z⟨rfl,rfl⟩;go_wp2;apply(zY x _ (18,18) Â).mono;rintro e z⟨rfl,rfl⟩;go_wp2;all_goals go_ret
 all_goals refine⟨?_,O⟩
 all_goals show ai _=_
 all_goals rw[VM,Cs]
 all_goals rfl
def xu2(x w):aK prog 288 #[R x] w λe z=>e=ai (R<|Fw x)/\z=w:=by
 go_enter func288.1,Tryz.ntmps288;go_wp2;apply(zY x _ (17,17) Â).mono;rintro e z⟨rfl,rfl⟩;go_wp2;apply(zY x _ (19,19) Â).mono;rintro e z⟨rfl,rfl⟩;go_wp2;all_goals go_ret
 all_goals refine⟨?_,O⟩
 all_goals show ai _=_
 all_goals rw[U8,Cs]
 all_goals rfl
end
section
open A.Tryq Go.RowKit
attribute [local go_sem] Cs FD ux FC FE
def xqp(a b c d e f g h k w):aK prog 286 #[bY #[R a,R b,R c,R d,R e,R f,R g,R h],R k] w λz x=>z=ai (bY #[R<|T1 e f g h k+T2 a b c,R a,R b,R c,R<|d+T1 e f g h k,R e,R f,R g])/\aP (V<|Z' w) w x:=by
 go_enter func286.1,Tryz.ntmps286;go_wp2;go_quiet (fail);go_wp2;refine(xr0 e _).mono ?_;rintro z x⟨rfl,rfl⟩;go_wp2;refine(xcw e f g _).mono ?_;rintro z x⟨rfl,rfl⟩;go_wp2;refine(xrz a _).mono ?_;rintro z x⟨rfl,rfl⟩;go_wp2;refine(xtr a b c _).mono ?_;rintro z x⟨rfl,rfl⟩;go_wp2;refine ji (v:=bY #[R<|T1 e f g h k+T2 a b c,R a,R b,R c,R<|d+T1 e f g h k,R e,R f,R g]) ?_ O ⟨O,?_⟩
 ·simp[eR,Tryz.results286,go_sem,T1,T2]
 iterate 8 refine Below.setCell ?_ Â _
 refine below_drewN ?_ _;iterate 2 refine Below.alloc ?_ Â _
 exact zt _ _
def wv(W:aD->Z3):Ze:=(iC 64).map λi=>Q cJ (u<|W i)
theorem D'(W):T (wv W)=64:=by simp[wv]
theorem OZ(W i)(h:i<64):(wv W)[i]?=(R<|W i):=by simp[wv,h]
def kX(s:St)(i:aD):Z3:=[s.a,s.b,s.c,s.d,s.e,s.f,s.g,s.h].getD i 0
theorem FB(s i)(h:i<8):(#[R s.a,R s.b,R s.c,R s.d,R s.e,R s.f,R s.g,R s.h]:Za)[i]?=(R<|kX s i):=by
 match i,h with
 |0,_=>rfl|1,_=>rfl
 |2,_=>rfl|3,_=>rfl
 |4,_=>rfl|5,_=>rfl
 |6,_=>rfl|7,_=>rfl
 |n+8,h=>omega
def VJ{r s}(k:V C=8)(h:∀i,i<8->C[i]?=(R<|kX r i+kX s i)):C=#[zu<|u (AQ r s).a,zu<|u (AQ r s).b,zu<|u (AQ r s).c,zu<|u (AQ r s).d,zu<|u (AQ r s).e,zu<|u (AQ r s).f,zu<|u (AQ r s).g,zu<|u (AQ r s).h]:=by
 apply Vn;intro i;by_cases j:i<8;rw[h i j,FB _ i j]
 match i,j with
 |0,_=>rfl|1,_=>rfl
 |2,_=>rfl|3,_=>rfl
 |4,_=>rfl|5,_=>rfl
 |6,_=>rfl|7,_=>rfl
 |n+8,h=>omega
 simp_all
def wy(w:Zy)(g)(t:Zt)(h c1 c2 c3 i j k l z a u b c d e f)(v:w.heap[g]?=ac (au #[h,c1,c2,c3,i,j,k,l] t (0,0))):
  (M (M (M (M (M (M (M (M w (zq g 0) z) (zq g 1) a) (zq g 2) u) (zq g 3) b) (zq g 4) c) (zq g 5) d) (zq g 6) e) (zq g 7) f).heap[g]?=ac (au #[z,a,u,b,c,d,e,f] t (0,0)):=by
 have m:=jx w g 0 _ t z v;have n:=jx _ g 1 _ t a m;have o:=jx _ g 2 _ t u n;have p:=jx _ g 3 _ t b o;have q:=jx _ g 4 _ t c p;have r:=jx _ g 5 _ t d q;have s:=jx _ g 6 _ t e r;have x:=jx _ g 7 _ t f s;simp_all
def D8(w:Zy)(g k v a z b c d e f)(hk:k≠g):(M (M (M (M (M (M (M (M w (zq g 0) v) (zq g 1) a) (zq g 2) z) (zq g 3) b) (zq g 4) c) (zq g 5) d) (zq g 6) e) (zq g 7) f).heap[k]?=w.heap[k]?:=by rw[jj _ _ _ _ ì,jj _ _ _ _ ì,jj _ _ _ _ ì,jj _ _ _ _ ì,jj _ _ _ _ ì,jj _ _ _ _ ì,jj _ _ _ _ ì,jj _ _ _ _ ì]
def Fx(B z w g v b x c d e f i)(a:B<=g)(h:aP B z w):aP B z<|M (M (M (M (M (M (M (M w (zq g 0) v) (zq g 1) b) (zq g 2) x) (zq g 3) c) (zq g 4) d) (zq g 5) e) (zq g 6) f) (zq g 7) i:=by
 iterate 8 refine Below.setCell ?_ a _
 exact h
def O9(w:Zy)(g v a z b c d e f):V (M (M (M (M (M (M (M (M w (zq g 0) v) (zq g 1) a) (zq g 2) z) (zq g 3) b) (zq g 4) c) (zq g 5) d) (zq g 6) e) (zq g 7) f).heap=V (Z' w):=Â
def KX{r}{t:Zt}{A a b c d e f g}(h:w.heap[r]?=ac (au #[A,a,b,c,d,e,f,g] t (0,0))):N w (zq r 0)=ac A/\N w (zq r 1)=ac a/\N w (zq r 2)=ac b/\N w (zq r 3)=ac c/\N w (zq r 4)=ac d/\N w (zq r 5)=ac e/\N w (zq r 6)=ac f/\N w (zq r 7)=ac g/\∀i,aX w (zq r i)=ao:=by refine⟨?_,?_,?_,?_,?_,?_,?_,?_,λi=>xt _ _ _ _ _ h⟩<;>rw[xb _ _ _ _ _ _ h]<;>rfl
structure AP(s:St)(W:aD->Z3)(w:Zy)(C:Za)(z:Zy):Prop where
 fH:aP (V<|Z' w) w z
 sz:V (Z' w)+1+1+1<V (Z' z)
 b0:z.heap[V (Z' w)]?=ac (au #[R s.a,R s.b,R s.c,R s.d,R s.e,R s.f,R s.g,R s.h] 323 (0,0))
 b1:z.heap[V (Z' w)+1]?=ac (au (bH (wv W)) 336 (0,0))
 b2:z.heap[V (Z' w)+1+1]?=ac (au #[zu 0,zu 0,zu 0,zu 0,zu 0,zu 0,zu 0,zu 0] 323 (0,0))
 b3:z.heap[V (Z' w)+1+1+1]?=ac (au C 323 (0,0))
def AP.O2{s b w1 A i j k l m n o v c z d e f g h}(I:AP s W w #[A,i,j,k,l,m,n,o] b)(a:aP (V<|Z' b) b.drew w1):AP s W w #[v,c,z,d,e,f,g,h]<|M (M (M (M (M (M (M (M w1 (zq (V (Z' w)+1+1+1) 0) v) (zq (V (Z' w)+1+1+1) 1) c) (zq (V (Z' w)+1+1+1) 2) z) (zq (V (Z' w)+1+1+1) 3) d) (zq (V (Z' w)+1+1+1) 4) e) (zq (V (Z' w)+1+1+1) 5) f) (zq (V (Z' w)+1+1+1) 6) g) (zq (V (Z' w)+1+1+1) 7) h:=by have p:=I.sz;refine⟨Fx _ _ _ _ _ _ _ _ _ _ _ _ À<|(I.fH.drew).trans<|a.mono I.fH.size,by rw[O9];exact zm I.sz a.size,?_,?_,?_,wy _ _ _ _ _ _ _ _ _ _ _ _ _ _ _ _ _ _ _<|(a.block _ À).trans I.b3⟩;rw[D8 _ _ _ _ _ _ _ _ _ _ _ À];exact(a.block _ À).trans I.b0;rw[D8 _ _ _ _ _ _ _ _ _ _ _ À];exact(a.block _ À).trans I.b1;rw[D8 _ _ _ _ _ _ _ _ _ _ _ À];exact(a.block _ À).trans I.b2
def AP.gC(s W w):AP s W w #[R s.a,R s.b,R s.c,R s.d,R s.e,R s.f,R s.g,R s.h]<|aF (aF (aF (aF w<|au #[R s.a,R s.b,R s.c,R s.d,R s.e,R s.f,R s.g,R s.h] 323)<|au (bH (wv W)) 336)<|au #[zu 0,zu 0,zu 0,zu 0,zu 0,zu 0,zu 0,zu 0] 323)<|au #[R s.a,R s.b,R s.c,R s.d,R s.e,R s.f,R s.g,R s.h] 323:=by
 refine⟨?_,?_,?_,?_,?_,?_⟩;exact((((zt _ _).alloc (zd _) _).alloc Â _).alloc Ç _).alloc Ç _;simp;all_goals (show((((w.heap.push _).push _).push _).push _)[_]?=_)
 all_goals (simp only[jb,Xi])
 grind;grind;grind;grind
def xet(s W w)(d:∀i,i<64->N w ⟨4,i,aw⟩=(Q cJ<|u<|Kc i)):
  aK prog 263 #[bY #[Q cJ<|u s.a,Q cJ<|u s.b,Q cJ<|u s.c,Q cJ<|u s.d,Q cJ<|u s.e,Q cJ<|u s.f,Q cJ<|u s.g,Q cJ<|u s.h],bY (bH (wv W))] w λen w'=>en=ai (bY #[Q cJ<|u (Jb s W).a,Q cJ<|u (Jb s W).b,Q cJ<|u (Jb s W).c,Q cJ<|u (Jb s W).d,Q cJ<|u (Jb s W).e,Q cJ<|u (Jb s W).f,Q cJ<|u (Jb s W).g,Q cJ<|u (Jb s W).h])/\aP (V<|Z' w) w w':=by
 have D:=js (d 0 Ã);have c:=d;go_enter func263.1,Tryz.ntmps263;go_wp2;go_loopw [9] (λi wr=>∃k:aD,k<=64/\i=Q bB k/\AP s W w #[Q cJ<|u (hY s W k).a,Q cJ<|u (hY s W k).b,Q cJ<|u (hY s W k).c,Q cJ<|u (hY s W k).d,Q cJ<|u (hY s W k).e,Q cJ<|u (hY s W k).f,Q cJ<|u (hY s W k).g,Q cJ<|u (hY s W k).h] wr) (λi _=>bL (64-dV i));exact⟨0,À,O,AP.gC s W w⟩;obtain⟨k,hk,rfl,inv⟩:=hrel;by_cases l:k<64
 ·have a:=(inv.fH.cell D).trans (c k l);have P:N wr ⟨V (Z' w)+1,k,aw⟩=(Q cJ<|u<|W k):=by rw[xb _ _ k _ _ _ inv.b1];simpa using OZ W k l
  obtain⟨q,r,t,v,x,y,z,B,b⟩:=KX inv.b3;go_wp2;go_still_tail 8,Ä;go_wp2;refine(xqp _ _ _ _ _ _ _ _ _ _).mono ?_;rintro en w1⟨rfl,F⟩;have f:=(F.block _<|by exact inv.sz).trans inv.b3;obtain⟨q,r,t,v,x,y,z,B,b⟩:=KX f;have I:=inv;have h:=F;go_wp2;go_roundw;exact⟨k+1,À,Å,I.O2 h⟩;exact Ð
 obtain rfl:k=64:=À
 go_wp2;go_loopw [22] (λi w2=>∃(k:aD) (C:Za),k<=8/\i=Q bB k/\AP s W w C w2/\V C=8/\∀i,i<8->C[i]?=ac (Q cJ<|u (if i<k then kX (hY s W 64) i+kX s i else kX (hY s W 64) i))) (λi _=>bL (8-dV i));exact⟨0,_,À,O,inv,O,λi G=>by grind [FB]⟩;obtain⟨k,C,hk,rfl,j,p,L⟩:=hrel;by_cases l:k<8
 ·have h1:N wr ⟨V (Z' w)+1+1+1,k,aw⟩=(Q cJ<|u<|kX (hY s W 64) k):=by rw[xb _ _ k _ _ _ j.b3,L k l,aL À]
  have h2:N wr ⟨V<|Z' w,k,aw⟩=(Q cJ<|u<|kX s k):=by rw[xb _ _ k _ _ _ j.b0,FB s k l]
  have h3:aX wr ⟨V (Z' w)+1+1+1,k,aw⟩=ao:=xt _ _ _ _ _ j.b3;have m:AP s W w (aA C k<|Q cJ<|u<|kX (hY s W 64) k+kX s k)<|M wr.drew ⟨V (Z' w)+1+1+1,k,aw⟩<|Q cJ<|u<|kX (hY s W 64) k+kX s k:=by refine⟨(j.fH.drew).setCell Á _,by simpa[M]using j.sz,?_,?_,?_,jx _ _ _ _ _ _ j.b3⟩;rw[jj _ _ _ _ Á];exact j.b0;rw[jj _ _ _ _ Á];exact j.b1;rw[jj _ _ _ _ Á];exact j.b2
  have n:∀i,i<8->(aA C k<|Q cJ<|u<|kX (hY s W 64) k+kX s k)[i]?=ac (Q cJ<|u (if i<k+1 then kX (hY s W 64) i+kX s i else kX (hY s W 64) i)):=by intro i G;rw[Xy];by_cases e:k=i;grind;grind
  go_wp2;go_still_tail 8,Ä;go_wp2;go_roundw;(repeat apply ng);exact⟨⟨k+1,_,À,Å,m,Á,n⟩,O⟩;exact Ý
 obtain rfl:k=8:=À
 have o:C=#[Q cJ<|u (Jb s W).a,Q cJ<|u (Jb s W).b,Q cJ<|u (Jb s W).c,Q cJ<|u (Jb s W).d,Q cJ<|u (Jb s W).e,Q cJ<|u (Jb s W).f,Q cJ<|u (Jb s W).g,Q cJ<|u (Jb s W).h]:=VJ p (λi G=>Á);subst o;obtain⟨A,S,hd,hx,ho,X,cs,g',_⟩:=KX j.b3;obtain⟨z0,z1,z2,z3,z4,z5,z6,z7,zf⟩:=KX j.b2;go_wp2;refine ji ?_ O ⟨O,?_⟩
 ·simp[eR,Tryz.results263,go_sem, *]
 exact Fx _ _ _ _ _ _ _ _ _ _ _ _ À j.fH
end
section
open A.Tryq Go.RowKit
def wu(x:Z8):Z3:=BitVec.ofNat 32 (aN x)
def jds(x):u (wu x)=(aN x:U):=by have:=x.toNat_lt;grind [u,wu]
def xz3(x):IntKind.u32.wrap (u x)=u x:=Fy _ (Ho _)<|Hn _
def D7(m:Zu)(k:aD):Z3:=wu (m<|4*k)<<<24|||wu (m<|4*k+1)<<<16|||wu (m<|4*k+2)<<<8|||wu (m<|4*k+3)
def wl(m:Zu):aD->bA Z3
 |0=>[]|n+1=>wl m n++[if n<16 then D7 m n else(wl m n).getD (n-16) 0+Fv ((wl m n).getD (n-15) 0)+(wl m n).getD (n-7) 0+Fw ((wl m n).getD (n-2) 0)]
def Wf(m:Zu)(i:aD):Z3:=(wl m<|i+1).getD i 0
theorem La(m):∀n,T (wl m n)=n
 |0=>rfl|n+1=>by simp[wl,La m n]
theorem VQ(m i):∀n,i<n->(wl m n).getD i 0=Wf m i
 |0,h=>by omega|n+1,h=>by by_cases e:i=n;subst e;rfl;have a:=La m n;rw[<-VQ m i n À];grind [wl]
theorem OX(m i)(h:i<16):Wf m i=D7 m i:=by grind [La,Wf,wl]
theorem OW(m i)(h:16<=i):Wf m i=Wf m (i-16)+Fv (Wf m<|i-15)+Wf m (i-7)+Fw (Wf m<|i-2):=by
 have a:=La m i;have e:Wf m i=(wl m i).getD (i-16) 0+Fv ((wl m i).getD (i-15) 0)+(wl m i).getD (i-7) 0+Fw ((wl m i).getD (i-2) 0):=by simp only[Wf,wl,Oh];rw[Xp À];simp[a,show¬i<16 by omega]
 grind [VQ]
attribute [local go_sem] Cs FD ux FC FE xz3 xvn xvm xz1
def yr:Za:=#[Q cJ 0,Q cJ 0,Q cJ 0,Q cJ 0,Q cJ 0,Q cJ 0,Q cJ 0,Q cJ 0,Q cJ 0,Q cJ 0,Q cJ 0,Q cJ 0,Q cJ 0,Q cJ 0,Q cJ 0,Q cJ 0,Q cJ 0,Q cJ 0,Q cJ 0,Q cJ 0,Q cJ 0,Q cJ 0,Q cJ 0,Q cJ 0,Q cJ 0,Q cJ 0,Q cJ 0,Q cJ 0,Q cJ 0,Q cJ 0,Q cJ 0,Q cJ 0,Q cJ 0,Q cJ 0,Q cJ 0,Q cJ 0,Q cJ 0,Q cJ 0,Q cJ 0,Q cJ 0,Q cJ 0,Q cJ 0,Q cJ 0,Q cJ 0,Q cJ 0,Q cJ 0,Q cJ 0,Q cJ 0,Q cJ 0,Q cJ 0,Q cJ 0,Q cJ 0,Q cJ 0,Q cJ 0,Q cJ 0,Q cJ 0,Q cJ 0,Q cJ 0,Q cJ 0,Q cJ 0,Q cJ 0,Q cJ 0,Q cJ 0,Q cJ 0]
structure J8(w:Zy)(C:Za)(z:Zy):Prop where
 fH:aP (V<|Z' w) w z
 sz:V (Z' w)+1<V (Z' z)
 b0:z.heap[V (Z' w)]?=ac (au yr 336 (0,0))
 b1:z.heap[V (Z' w)+1]?=ac (au C 336 (0,0))
def J8.gC(w):J8 w yr<|aF (aF w<|au yr 336)<|au yr 336:=by
 refine⟨((zt _ _).alloc (zd _) _).alloc Â _,Â,?_,?_⟩;all_goals (show((w.heap.push _).push _)[_]?=_)
 all_goals (simp only[jb,Xi])
 grind;grind
theorem J8.H{a}(h:J8 w C a)(k v):J8 w (aA C k v)<|M a.drew (zq (V (Z' w)+1) k) v:=by refine⟨(h.fH.drew).setCell Á _,Ö,?_,jx _ _ _ _ _ _ h.b1⟩;rw[jj _ _ _ _ Á];exact h.b0
def K2{k}(a:V C=64)(hk:k<64)(h:∀i,i<k->C[i]?=(R<|W i)):
  ∀i,i<k+1->(aA C k<|R<|W k)[i]?=(R<|W i):=by
 grind
def VH{C}(a:V C=64)(h:∀i,i<64->C[i]?=(R<|W i)):C=bH (wv W):=by apply Vn;grind [OZ,D']
def O':V yr=64:=O
def OU:(prog.info? 336).map (·.size)=ac 64:=Ä
def OV(W):(wv W).toArray.all (·.oneCell')=ay:=by refine jn.2 λv a=>?_;simp only[wv,KC,Xe]at a;obtain⟨i,_,rfl⟩:=a;rfl
def zxh(m g off cap w)(x:∀j,j<64->N w ⟨g,off+j,aw⟩=(Q .u8<|u<|wu<|m j)):
  aK prog 264 #[aB (ac ⟨g,off,aw⟩) 64 cap] w λen w'=>en=ai (bY (bH (wv<|Wf m)))/\aP (V<|Z' w) w w':=by
 have o:=js (x 0 Ã);have n:=x;go_enter func264.1,Tryz.ntmps264;go_wp2;go_loopw [7] (λi wr=>∃(k:aD) (C:Za),k<=16/\i=Q bB k/\J8 w C wr/\V C=64/\∀i,i<k->C[i]?=(Q cJ<|u<|Wf m i)) (λi _=>bL (16-dV i));exact⟨0,yr,À,O,J8.gC w,O,λi e=>À⟩;obtain⟨k,C,hk,rfl,inv,a,d⟩:=hrel;have t:=inv.sz;by_cases h:k<16
 ·have A:N wr ⟨g,off+bL (4*(k:U)),aw⟩=(Q .u8<|u<|wu<|m<|4*k):=by rw[show(4*(k:U)).toNat=4*k by omega];exact(inv.fH.cell o).trans<|n _<|by omega
  have I:N wr ⟨g,off+bL (4*(k:U)+1),aw⟩=(Q .u8<|u<|wu<|m<|4*k+1):=by rw[show(4*(k:U)+1).toNat=4*k+1 by omega];exact(inv.fH.cell o).trans<|n _ À
  have hd:N wr ⟨g,off+bL (4*(k:U)+2),aw⟩=(Q .u8<|u<|wu<|m<|4*k+2):=by rw[show(4*(k:U)+2).toNat=4*k+2 by omega];exact(inv.fH.cell o).trans<|n _ À
  have h1:N wr ⟨g,off+bL (4*(k:U)+3),aw⟩=(Q .u8<|u<|wu<|m<|4*k+3):=by rw[show(4*(k:U)+3).toNat=4*k+3 by omega];exact(inv.fH.cell o).trans<|n _ À
  have i0:(0:U)<=4*(k:U):=À
  have h2:4*(k:U)<64:=À
  have i1:(0:U)<=4*(k:U)+1:=À
  have hx:4*(k:U)+1<64:=À
  have i2:(0:U)<=4*(k:U)+2:=À
  have ho:4*(k:U)+2<64:=À
  have i3:(0:U)<=4*(k:U)+3:=À
  have cs:4*(k:U)+3<64:=À
  have e1:IntKind.i64.wrap (4*(k:U)+1)=4*(k:U)+1:=Í
  have P:IntKind.i64.wrap (4*(k:U)+2)=4*(k:U)+2:=Í
  have e3:IntKind.i64.wrap (4*(k:U)+3)=4*(k:U)+3:=Í
  have S:(k:U)<64:=À
  obtain⟨c,F⟩:∃c,N wr ⟨V (Z' w)+1,k,aw⟩=ac c:=⟨C[k]' À,xT⟩;have G:aX wr ⟨V (Z' w)+1,k,aw⟩=ao:=xt _ _ _ _ _ inv.b1;have f:=K2 a À d;have e:=inv.H k<|Q cJ<|u<|Wf m k;rw[OX m k h]at e f;unfold D7 at e f;go_wp2;go_still_tail 31,Ä;go_wp2;go_roundw;exact⟨k+1,_,À,Å,e,Á,f⟩;exact Ð
 obtain rfl:k=16:=À
 go_wp2;go_loopw [6] (λi w2=>∃(k:aD) (C:Za),16<=k/\k<=64/\i=Q bB k/\J8 w C w2/\V C=64/\∀i,i<k->C[i]?=(Q cJ<|u<|Wf m i)) (λi _=>bL (64-dV i));exact⟨16,C,À,À,O,inv,a,d⟩;obtain⟨k,C,s,hk,rfl,inv,a,d⟩:=hrel;have t:=inv.sz;by_cases h:k<64
 ·have S:(k:U)<64:=by omega
  have D:IntKind.i64.wrap ((k:U)-16)=(k:U)-16:=Í
  have g':(16:U)<=(k:U):=À
  have v':(k:U)<80:=À
  have W:(k:U)-16<64:=À
  have z:N wr ⟨V (Z' w)+1,bL ((k:U)-16),aw⟩=(Q cJ<|u<|Wf m<|k-16):=by rw[show((k:U)-16).toNat=k-16 by omega,xb _ _ _ _ _ _ inv.b1,d _ À]
  have B:IntKind.i64.wrap ((k:U)-15)=(k:U)-15:=Í
  have es:(15:U)<=(k:U):=À
  have X:(k:U)<79:=À
  have ba:(k:U)-15<64:=À
  have y:N wr ⟨V (Z' w)+1,bL ((k:U)-15),aw⟩=(Q cJ<|u<|Wf m<|k-15):=by rw[show((k:U)-15).toNat=k-15 by omega,xb _ _ _ _ _ _ inv.b1,d _ À]
  have e7:IntKind.i64.wrap ((k:U)-7)=(k:U)-7:=Í
  have p7:(7:U)<=(k:U):=À
  have r7:(k:U)<71:=À
  have q7:(k:U)-7<64:=À
  have c7:N wr ⟨V (Z' w)+1,bL ((k:U)-7),aw⟩=(Q cJ<|u<|Wf m<|k-7):=by rw[show((k:U)-7).toNat=k-7 by omega,xb _ _ _ _ _ _ inv.b1,d _ À]
  have P:IntKind.i64.wrap ((k:U)-2)=(k:U)-2:=Í
  have p2:(2:U)<=(k:U):=À
  have r2:(k:U)<66:=À
  have q2:(k:U)-2<64:=À
  have h3:N wr ⟨V (Z' w)+1,bL ((k:U)-2),aw⟩=(Q cJ<|u<|Wf m<|k-2):=by rw[show((k:U)-2).toNat=k-2 by omega,xb _ _ _ _ _ _ inv.b1,d _ À]
  obtain⟨c,F⟩:∃c,N wr ⟨V (Z' w)+1,k,aw⟩=ac c:=⟨C[k]' À,xT⟩;have G:aX wr ⟨V (Z' w)+1,k,aw⟩=ao:=xt _ _ _ _ _ inv.b1;have f:=K2 a À d;have e:=inv.H k<|Q cJ<|u<|Wf m k;rw[OW m k s]at e f;go_wp2;go_still_tail 23,Ä
  still_call (xu1 _ _)
  repeat still_step
  still_call (xu2 _ _)
  repeat still_step
  refine wpStill_nil ?_;go_wp2;go_roundw;(repeat apply ng);exact⟨⟨k+1,_,À,À,Å,e,É,f⟩,O⟩;exact Ý
 obtain rfl:k=64:=À
 have q:=VH a d;subst q;have b:(prog.info? 336).map (·.size)=ac (V (wv<|Wf m).toArray):=zb7
 have p:=OV<|Wf m;have L:V yr=V (wv<|Wf m).toArray:=by rw[O',jd,D']
 have l:(wr.setRow (V<|Z' w) (bH (wv<|Wf m))).heap[V (Z' w)]?=ac (au (bH (wv<|Wf m)) 336 (0,0)):=Jr _ _ _ _ _ _ inv.b0;have r:aP (V<|Z' w) w<|wr.setRow (V<|Z' w) (bH (wv<|Wf m)):=inv.fH.trans ⟨O,O,O,Â,λj hj=>setRow_other _ _ _ _ À⟩;go_wp2_with (first|refine J6 O 336 _ O (V (Z' w)+1) O 336 _ (0,0) _ inv.b1 jR O b ?_|refine Zo O 336 _ _ O w.heap.size _ O O 336 _ inv.b0 b L p ?_);exact ji (v:=bY (bH (wv<|Wf m))) (Jf O _ _ (V<|Z' w) 336 _ (0,0) _ O l jR O b) O ⟨O,r⟩
end
section
open A.Tryq Go.RowKit
def D6(x:Z3):Z8:=mZ x.toNat
def jdt(x):IntKind.u8.wrap (u x)=(aN (D6 x):U):=by simp[fS,fT,fi,u,D6]
def wb(x:Z3):Zl:=[D6<|x>>>24,D6<|x>>>16,D6<|x>>>8,D6 x]
def sb(s:St):aD->Zl
 |0=>[]|n+1=>sb s n++wb (kX s n)
def K4(s):∀n,T (sb s n)=4*n
 |0=>rfl|n+1=>by simp[sb,K4 s n,wb];omega
def bv(l:Zl):Ze:=l.map λb=>Q .u8 (aN b:Int)
theorem xL(l):T (bv l)=T l:=by simp[bv]
def O7(a b):bv (a++b)=bv a++bv b:=by simp[bv]
def OY:∃i,prog.info? 5=ac i/\i.zero=zb 0/\i.size=1/\i.bytes=1:=by
 have h:(prog.info? 5).map (λi=>(i.zero,i.size,i.bytes))=ac (ac<|zb 0,1,1):=Ä
 simp_all
def xyg(s)(k:aD)(hk:k<8)(w):(Instr.index 323 (bY #[R s.a,R s.b,R s.c,R s.d,R s.e,R s.f,R s.g,R s.h])<|J k).run prog w=dG (R<|kX s k) w:=by
 obtain rfl|rfl|rfl|rfl|rfl|rfl|rfl|rfl:k=0\/k=1\/k=2\/k=3\/k=4\/k=5\/k=6\/k=7:=À
 all_goals kernel_rfl
def VI(l):∀v∈bv l,v.oneCell'=ay:=by intro v a;simp only[bv,Xe]at a;obtain⟨b,_,rfl⟩:=a;rfl
def VR{cap l}(h:w.ownsRow y 5 1 (aB (ac ⟨g,0,aw⟩) n cap) n<|bv l):n=T l/\∀j (x:j<T l),N w (((zq g 0):Addr).add j)=(zb<|aN l[j]):=by
 have⟨z,b⟩:=h;simp only[xL,Cd]at z;refine⟨z.symm,λj x=>?_⟩;obtain⟨b,_⟩|⟨i,c,a,f,k,d,m,_,o,e⟩:=b;cases b;cases f;rw[pS,j7,xb _ _ j _ _ _ d];have:(a.toList.take<|n*1)[j]?=(bv l)[j]?:=å
 grind [bv]
attribute [local go_sem] xvp xvo xz2 jdt
def ztw(s w):aK prog 265 #[bY #[R s.a,R s.b,R s.c,R s.d,R s.e,R s.f,R s.g,R s.h]] w λen w'=>en=ai (ak ⟨bH (sb s 8)⟩)/\aP (V<|Z' w) w w':=by
 have⟨i5,hi,hz0,A,hz2⟩:=OY;go_enter func265.1,Tryz.ntmps265;go_wp2_with (apply wpList_make_own _ O _ _ 163 O (V (Z' w)+1) 5 i5 _ 1 cT hi hz0 A bB bB 32 32 O O O ?b1 ?b2 ?b3)
 case b1=>omega
 case b2=>decide
 case b3=>simp
 intro w1 n q;have l:=(q.block _ Â Â).trans<|xn _ _;have G:N w1 (zq (V<|Z' w) 0)=R s.a:=by rw[xb _ _ 0 _ _ _ l];rfl
 have u:N w1 (zq (V<|Z' w) 1)=R s.b:=by rw[xb _ _ 1 _ _ _ l];rfl
 have I:N w1 (zq (V<|Z' w) 2)=R s.c:=by rw[xb _ _ 2 _ _ _ l];rfl
 have d:N w1 (zq (V<|Z' w) 3)=R s.d:=by rw[xb _ _ 3 _ _ _ l];rfl
 have c:N w1 (zq (V<|Z' w) 4)=R s.e:=by rw[xb _ _ 4 _ _ _ l];rfl
 have L:N w1 (zq (V<|Z' w) 5)=R s.f:=by rw[xb _ _ 5 _ _ _ l];rfl
 have b:N w1 (zq (V<|Z' w) 6)=R s.g:=by rw[xb _ _ 6 _ _ _ l];rfl
 have f:N w1 (zq (V<|Z' w) 7)=R s.h:=by rw[xb _ _ 7 _ _ _ l];rfl
 have D:=((zt _ _).alloc (zd _) _).grown q Â (λ_ h=>È);have S:V (Z' w)+1<V (Z' w1):=by obtain⟨h,_⟩|⟨a,z,C,B,_,e,_⟩:=n.2;cases h;grind
 go_wp2;go_loopw [3,8] (λv i wr=>∃k:aD,k<=8/\i=J k/\v=aB (ac ⟨V (Z' w)+1,0,aw⟩) (4*k) 32/\aP (V<|Z' w) w wr/\wr.ownsRow (V (Z' w)+1) 5 1 (aB (ac ⟨V (Z' w)+1,0,aw⟩) (4*k) 32) (4*k) (bv<|sb s k)/\V (Z' w)+1<V (Z' wr)) (λ_ i _=>bL (8-dV i));grind [bv,sb];obtain⟨k,hk,rfl,rfl,o,n,y⟩:=hrel;by_cases x:k<8
 ·have F:=xyg s k x;go_wp2_with (at_builtin;apply wpList_append_fits _ O _ _ 163 O (V (Z' w)+1) 5 i5 1 cT hi A (V (Z' w)+1) (4*k) 32 (bv<|sb s k) O ?own (zq (V<|Z' wr) 0) 4 4 (bv<|wb<|kX s k) O O ?c1 ?c2 ?c3)
  case own=>exact n.alloc _
  case c1=>intro j v B;rw[pS,j7,xb _ _ j _ _ _<|xn _ _,<-B];simp[bv,wb]
  case c2=>exact VI _
  case c3=>omega
  intro X m p;rw[<-O7]at m;have r:=(o.alloc o.size _).grown p Ç (λ_ h=>Á);have t:4*k+4=4*(k+1):=À
  rw[t]at m;go_wp2;go_roundw;exact⟨k+1,À,Å,Á,r,m,zm y<|xa Â p.size⟩;exact Ð
 obtain rfl:k=8:=À
 have P:(convert 163 9<|aB (ac ⟨V (Z' w)+1,0,aw⟩) 32 32).run prog wr=dG (ak ⟨bH (sb s 8)⟩) wr:=by have h:=iy wr 163 9 5 (zq (V (Z' w)+1) 0) 32 (sb s 8) cT eY dK (VR n).2;rw[K4]at h;exact h
 go_wp2;go_ret;simp_all
end
section
open A.Tryq Go.RowKit
def bq(q:aD):Z8:=mZ q
def nb(n:aD):aD->Zl
 |0=>[]|k+1=>bq (n/256^k)::nb n k
theorem Z2(n):∀k,T (nb n k)=k
 |0=>rfl|k+1=>by simp[nb,Z2 n k]
def Wv(n:aD):aD:=64*((n+72)/64)
def xM(x:Zl)(k:aD):Zl:=x++128::(bS (Wv (T x)-T x-1-k) 0++nb (T x*8) k)
def uy(x:Zl):Zl:=xM x 8
theorem Fz(n):n+9<=Wv n/\Wv n<=n+72:=za1
def Pa(x k)(hk:k<=8):T (xM x k)=Wv (T x):=by grind [Fz,xM,Z2]
def xpm(x k)(hk:k<8):(xM x k).set (Wv (T x)-(k+1)) (bq<|T x*8/256^k)=xM x (k+1):=by
 have h:=Fz (T x);unfold xM;have e:Wv (T x)-T x-1-k=(Wv (T x)-T x-1-(k+1))+1:=À
 rw[e,Ku];generalize z:Wv (T x)-T x-1-(k+1)=m at*;have a:Wv (T x)-(k+1)=T x+(1+m):=À
 rw[a,Vy _ _ À];congr 1;rw[show T x+(1+m)-T x=m+1 by omega,Vp];congr 1;rw[jq,Vy _ _ Â];simp[nb]
theorem Hp(l i b):(bv l).set i (zb (aN b))=bv (l.set i b):=by simp[bv,List.map_set]
def KZ{P:Zp}{X:bE eX}{rest:bA eX}{o:eX}{a:mh}{u:Exit->mh->Zy->Prop}(n:o.guard=aw)(d s:Operand)(l v:Zt)
  (ho:o.op= .call {callee:= .builtin .copy,args:=#[d,s],argTypes:=#[l,v]})(e:Zt)(D:P.underlying l=ac (.slice e))(q:(P.info? e).map (·.size)=ac 1)
  (g L c f:aD)(x:eM)(A:a.eval d=aB (ac ⟨g,L,aw⟩) c f)(C:a.eval s=ak x)
  (b:Za)(t:Zt)(r:w.heap[g]?=ac (au b t (0,0)))(p:x.size<=c)(k:L+x.size<=V b)(B:aD)(G:Zy)(z:aP B G w)(m:B<=g)
  (h:∀F,F.heap[g]?=ac (au (bH (b.toList.take L++hZ (eV x.data)++b.toList.drop (L+x.size))) t (0,0))->aP B G F->wpList P X u rest (a.put o.dst<|goInt x.size) F):wpList P X u (o::rest) a w:=by
 refine DP n λS y=>?_;have j:=Lib.run_copy_row_string w l v o.type e g L c f x b t D q r p k;have i:=y _ _<|h _ (Jr w g b _ t _ r)<|below_setRow z m _;unfold Oper.wp;simp only[jq]at j i;simp[aR,ho,o8,invoke,builtin,A,C,j,bN];exact i
def xdn(h:w.ownsRow y 5 1 (aB (ac ⟨g,0,aw⟩) n n) n (eV (madeCells #[zb 0] n))):w.heap[g]?=ac (au (bH (bv<|List.replicate n 0)) 5 (0,0)):=by
 obtain⟨d,_⟩|⟨k,b,a,j,l,f,o,_,p,c⟩:=h.2;cases d;cases j;rw[f];have e:eV a=bv (bS n 0):=by rw[qp Á]at c;rw[c];apply Ye;intro i;by_cases m:i<n;grind [madeCells,bv];grind [bv]
 rw[<-e]
def K3:(prog.info? 5).map (·.size)=ac 1:=Ä
def xuf(x)(hx:x.size<=60000)(w):aK prog 262 #[ak x] w λen w'=>en=ai (aB (ac ⟨V<|Z' w,0,aw⟩) (Wv x.size)<|Wv x.size)/\w'.heap[V (Z' w)]?=ac (au (bH (bv<|uy (eV x.data))) 5 (0,0))/\aP (V<|Z' w) w w':=by
 have⟨i5,hi,hz0,hz1,hz2⟩:=OY;go_enter func262.1,Tryz.ntmps262;have u:=Fz x.size;have v:((x.size:U)+1+8+64-1)/64*64=((Wv x.size:aD):U):=za1
 have t:H<|((x.size:U)+1+8+64-1)/64*64=((Wv x.size:aD):U):=v;clear v;have d:H<|T x.data.toList=x.size:=O;go_wp2_with (refine wpList_make_full _ O _ _ 163 O w.heap.size 5 i5 (zb 0) 1 cT hi hz0 hz1 bB bB _ _ (Wv x.size) O O ?l1 ?l2 ?b1 ?b2 ?b3 ?_)
 case l1=>exact t.o
 case l2=>exact t.o
 case b1=>grind
 case b2=>unfold pu;omega
 case b3=>simp
 intro w1 b p;go_wp2_with (refine KZ O _ _ 163 9 O 5 cT K3 (V<|Z' w) 0 _ _ x O O _ 5 (xdn b) ?c1 ?c2 (V<|Z' w) w ((zt _ _).grown p (zd _) λ_ h=>È) (zd _) ?_)
 case c1=>omega
 case c2=>simp[xL];omega
 intro g n l;have a:g.heap[V (Z' w)]?=ac (au (bH (bv<|eV x.data++bS (Wv x.size-x.size) 0)) 5 (0,0)):=by rw[n];congr 2;simp[bv,hZ]
 have S:N g (zq (V<|Z' w) x.size)=zb 0:=by rw[xb _ _ _ _ _ _ a];simp only[Jz,bv,qz];rw[Xp Â,jl,d.o,KD,List.map_replicate,List.getElem?_replicate,aT À];rfl
 have F:aX g (zq (V<|Z' w) x.size)=ao:=xt _ _ _ _ _ a;have o:(M g (zq (V<|Z' w) x.size)<|zb 128).heap[V (Z' w)]?=ac (au (bH (bv<|xM (eV x.data) 0)) 5 (0,0)):=by rw[jx _ _ _ _ _ _ a];congr 2;rw[Zj];congr 1;rw[show(zb 128)=zb (aN (128:Z8))from O,Hp];congr 1;rw[Vy _ _ Â];obtain⟨m,G⟩:∃m,Wv x.size-x.size=m+1:=⟨Wv x.size-x.size-1,À⟩;unfold xM;rw[d.o,G];simp[nb,List.replicate_succ]
 have B:(x.size:U)<(Wv x.size:aD):=À
 have j:((x.size:aD):U)*8<18446744073709551616:=À
 go_wp2;go_loopw [5,6] (λq i wr=>∃k:aD,k<=8/\i=J (k+1)/\q=Q .u64 ((x.size*8/256^k:aD):U)/\wr.heap[V (Z' w)]?=ac (au (bH (bv<|xM (eV x.data) k)) 5 (0,0))/\aP (V<|Z' w) w wr) (λ_ i _=>bL (9-dV i));exact⟨0,À,O,Å,o,l.setCell (zd _) _⟩;obtain⟨k,hk,rfl,rfl,f,y⟩:=hrel;have X:x.size*8/256^k<=x.size*8:=Nat.div_le_self _ _;have C:H<|x.size*8/256^k/256=x.size*8/256^(k+1):=by show _=_;rw[Om,Cb]
 by_cases s:k<8
 ·have z:=Pa (eV x.data) k hk;rw[d.o]at z;have r:(M wr (zq (V<|Z' w)<|Wv x.size-(k+1))<|zb<|aN (bq<|x.size*8/256^k)).heap[V (Z' w)]?=ac (au (bH (bv<|xM (eV x.data)<|k+1)) 5 (0,0)):=by rw[jx _ _ _ _ _ _ f,Zj,Hp];have e:=xpm (eV x.data) k s;rw[d.o]at e;rw[e]
  obtain⟨c,I⟩:∃c,N wr (zq (V<|Z' w)<|Wv x.size-(k+1))=ac c:=by refine⟨(bv<|xM (eV x.data) k)[Wv x.size-(k+1)]'(by rw[xL,z];omega),?_⟩;rw[xb _ _ _ _ _ _ f];simp
  have P:aX wr (zq (V<|Z' w)<|Wv x.size-(k+1))=ao:=xt _ _ _ _ _ f;have L:(0:U)<=((Wv x.size:aD):U)-((k:U)+1):=À
  have A:((Wv x.size:aD):U)-((k:U)+1)<((Wv x.size:aD):U):=À
  generalize x.size*8/256^k=q at*;have D:IntKind.u8.wrap (q:U)=(aN (bq q):U):=zb9
  clear j;go_wp2;go_roundw;exact⟨k+1,À,Å,by rw[<-C.o];go_num,r,y.setCell (zd _) _⟩;exact Ð
 obtain rfl:k=8:=À
 go_wp2;go_ret;exact⟨O,f,y⟩
end
end P
end Go.Proofs.YtjnbhiamaabbgaaGreatDoor
