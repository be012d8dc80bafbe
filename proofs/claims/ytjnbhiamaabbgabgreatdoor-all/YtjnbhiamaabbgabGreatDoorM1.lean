import Derived.Test.YtjnbhiamaabbgabGreatDoorM0
import Derived.Test.YtjnbhiamaabbgabGreatDoorProg
import Derived.WalkSpells
import Derived.WalkLawsBesides
import Derived.BigQuiet
import Derived.Deep.RegionHeld3
import Derived.StillTailTactics
import Derived.Deep.WholeRow
import Derived.Lib.BufferWrite
import Derived.Laws.CopyOwn
import Derived.Deep.DeepCutAuto
set_option linter.all false
set_option maxRecDepth 100000
set_option maxHeartbeats 8000000
section
variable{P:Prop}
def Ã(h:P:=by decide):=h
def Ä(h:P:=by kernel_rfl):=h
def Å(h:P:=by go_num):=h
def Ç(h:P:=by simp;omega):=h
def Ê(h:P:=by decide+kernel):=h
def Í(h:P:=by rw[zh]<;>omega):=h
def Ð(h:P:=by grind [dV]):=h
def Ö(h:P:=by simpa[ay]using h.sz):=h
def Ø(h:P:=by grind [zy]):=h
def Ü(h:P:=by simp[go_sem]):=h
def Ý(h:P:=by simp[dV];omega):=h
def å(h:P:=by rw[e]):=h
def ì(h:P:=by exact hk):=h
def lg(h:P:=by grind [pX]):=h
def Ft(h:P:=by grind [zy,touch_mute]):=h
def za1(h:P:=by unfold Wv;omega):=h
def zb7(h:P:=by rw[jd,D'];exact OU):=h
def zb9(h:P:=by simp[fS,fT,fi,bq]):=h
def zbn(h:P:=by have d:bW (wf P F) M {frame:=fr,callers:=C,status:=bK,dying:=R} w=_:=e;rw[d];rfl):=h
def zcp(h:P:=by have:=OK<|OQ h;unfold Hd at this;grind):=h
def zdc(h:P:=by rw[h1,hl];exact D4 b y (D _) w):=h
def Ï(h:P:=by rw[zh];omega):=h
def á(h:P:=by rw[b.o];rfl):=h
def oD(h:P:=by rw[<-p.o]):=h
def zb1(h:P:=by grind [bytesRow,zn,bv,st]):=h
def zba(h:P:=by apply DM;simp[st]):=h
def zdh(h:P:=by rw[qo À];omega):=h
def zdi(h:P:=by rw[xb _ _ _ _ _ _ inv.b1,b _ À]):=h
end
namespace Go.Proofs.YtjnbhiamaabbgabGreatDoor
open _root_ renaming Array->bE,Bool->ez,ByteArray->eM,Int->U,List->bA,Nat->Q,absurd->dC,rfl->O,Array.replicate->cL,Array.setIfInBounds->aA,Array.size->V,Array.toList->eV,BitVec.ofInt->dM,Bool.false->ao,Bool.true->M,ByteArray.data_extract->zaj,Decidable.decide->bR,Exists.intro->ng,Int.toNat->bL,Option.none->R,Option.some->Y,Or.inl->aJ,Or.inr->ac,Pure.pure->iu,UInt8.ofNat->mZ,UInt8.toNat->aN
open Go renaming Act->mh,Calls->aK,Code->pB,Ending->kH,Event->me,Frame->fZ,Func->kL,Goroutine->cR,Oper->eX,Program->cI,Trace->gA,TypeId->oW,Value->eJ,World->dN,bits->lr,callDeferred->fo,doReturn->gi,execOp->aR,getObj->na,heap_alloc_new->xn,heap_setCell_other->jj,maxLen->pu,resolve->o8,results->eR,runNT->fQ,run_convert_bytes_back->iy,setCell_eq_setRow->zdm,setRow_heap->Jr,stepG->bW,underlying->fj,unwind->dT,Addr.add_mid->pS,Code.region->fG,Code.seq->gU,ConcN.sumTo->kD,Departure.rangeFuncRecover->iz,Extern.find->oH,Extern.findNext->kV,Extern.BytealgMakeNoZero.makeNoZero->li,Extern.Rtype.noPackHeld->pA,Frame.enter->bI,FrameMode.panicking->fL,GStep.after->bJ,GStep.ended->ic,GStep.go->ij,GoStatus.running->bK,Item.code->dE,Lib.byteCells->hZ,Loc.cell->ma,Loc.obj->pa,Mark.disable->oG,Mark.enable->oF,Mark.release->lK,MemAct.ofEvent->cA,MemAct.touch?->cO,MemOp.ofEvents->aZ,Next.enter->nN,Obj.cells->au,RowKit.Below.heap_alloc->Xj,RowKit.Below.refl->zt,Sem.runT_eq->ze,Stepped.next->gP,TypeDesc.string->oC,stepG.exec->aI
open CallKind renaming early->eK,normal->dH,report->pR
open Conc renaming Deaf_other->dJ,Deaf_own->mn,awake_of->oI,crowd->gJ,mem_ofEvents->zy,noRace_append->pd,runT_crowd_go->qD,touchAt->mg,woken_quitsD->jJ
open Ending renaming outgrown->jQ,panicked->iL,returned->ai
open Extern.ReflectliteType renaming method->pP,typeOf->pO
open IntKind renaming bits->fT,i64->bB,signed->fi,u32->cJ,wrap->fS,wrap_i64->zh
open Proofs.Tryz renaming func39->pN,ntmps227->gj,ntmps228->qx,prog->az,underlying3->is,underlying9->qv
open Result renaming andThen->bN,halt->ft,ok->dG
open RowKit renaming Below->aP,Hid->H,intOf->dV
open Value renaming agg->bY,bool->bG,iface->iW,int->aD,map->fu,pointer->aU,slice->aB,string->ak,tuple->cE
open World renaming alloc->aF,cell?->N,frozen?->aX,heap->Z,setCell->ay,setRow_alloc_new->og
open List renaming drop_eq_getElem_cons->Zx,length->T,length_append->zx,length_take->xf,map_congr_left->W6,range->iC,replicate->bS,take_of_length_le->qp,take_succ_eq_append_getElem->zp,toArray->bH
def aT:=@if_pos
def aL:=@if_neg
def bD:=@trivial
def gv:=@congrArg
def kB:=@if_false
def dY:=@if_true
namespace A
variable{fr c:Zf}{w v w':Zy}{f fn:kL}{g:Zg}{End:Zg->Zy->Prop}{n i:Q}{e:me}{t:gA}
open Go
section
open Go.Conc
variable[pn:Pn]
section
variable{End:Zg→Zy→Prop}
section
variable{P:cI}{F:bE kL}{X:Q->Prop}
def xpf(b o):wk (wf P F) b o=wk P b o:=O
theorem Jo:∀(b:ez) (c:pB),q9 (wf P F) b c=q9 P b c
 |b,fG i z d=>rfl|b,gU x y=>by simp only[q9,Jo b x,Jo b y]
 |b,.cond o x y=>by simp only[q9,Jo b x,Jo b y]|b,.block i x=>by simp only[q9,Jo b x]
 |b,.loop x=>by simp only[q9,Jo b x]|b,.scope x=>by simp only[q9,Jo b x]
 |b,.rangeFunc f p x y=>by simp only[q9,Jo ao x,Jo ao y]|b,.skip=>O
 |b,.label _=>rfl|b,.ret=>O
 |b,.exit _=>rfl|b,.goto _=>O
 |b,.refuse _=>O
def UX(b I):Vt (wf P F) b I↔Vt P b I:=by cases I<;>simp[Vt,Jo,xpf]
def KW(t):Wn (wf P F) t=Wn P t:=by cases t<;>rfl
def yq:Jy (wf P F) fr↔Jy P fr:=
 ⟨λh=>⟨λb a=>(UX ..).1<|h.lk b a,λd y=>by rw[<-KW (F:=F)];exact h.nk d y,h.eH,h.lL⟩,λh=>⟨λb a=>(UX ..).2<|h.lk b a,λd y=>by rw[KW];exact h.nk d y,h.eH,h.lL⟩⟩
def xx5{o}(h:jW P o):jW (wf P F) o:=
 ⟨h.iR,λf e d y=>by rw[KW];exact h.tN f e d y,λl e=>by let⟨a,b,c,d⟩:=h.ry l e;exact⟨by rw[Jo];exact a,by rw[Jo];exact b,λx g=>mx,d⟩⟩
def OM(h:Sm P X w v):Sm (wf P F) X w v:=⟨h.aD,h.out,h.jH,λr=>xx5<|h.rA r,h.nQ,h.gY,h.os,h.cX,h.rl⟩
def Xh(fr:Zf)(C:bA Zf):Zg:={frame:=fr,callers:=C,status:=bK,dying:=R}
def Cr(P:Zp)(F:Zc)(X:ZP)(I:Zf->Zy->Prop)(fr:Zf)(w:Zy):Prop:=
 (∀C,∃o w' z,bW (wf P F) M (Xh fr C) w=ic o w' z)\/
 (∃ch,fr.mode=fL ch/\fr.defers=[]/\∀p,fr.catches p=ao)\/
 ∃y w',(I y w'\/Jy P y)/\y.kind=fr.kind/\(∀C,Fd w<|stepG (wf P F) M<|Xh fr C)/\
  (∃z,∀C,bW (wf P F) M (Xh fr C) w=ij (Xh y C) w' z)/\
  ∀v,Sm P X w v->∃x z,(∀C,bW P M (Xh fr C) v=ij (Xh y C) x z)/\Af P X v w' x z
structure DX(P:Zp)(F:Zc)(I:ZP->Zf->Zy->Prop)(y:Zc):Prop where
 ym:∀X f a k w,Vi P F f->Mc P f->k≠ eK/\k≠ pR->I X (bI (wf P F) f a k) w
 mc:∀X fr w,I X fr w->Mc P fr.fn
 re:∀X fr w t d,I X fr w->I X fr (re w t d)
 step:∀X fr w,Sm P X w w->I X fr w->Cr P F X (I X) fr w
 Cq:∀X,nz (wf P y) F X
 oN:uL (wf P y) F
 pC:∀f,Vi P F f->¬Mc P f->Vi (wf P y) F f
 DY:∀f,¬Mc (wf P y) f
structure Yk(P:Zp)(F:Zc):Prop where
 Cq:∀X,nz P F X
 yp:∀X,nz (wf P F) F X
 oN:uL P F
 wt:∀f,F[f]?=P.funcs[f]?\/vv F f
 ro:P.follows iz=M
 GA:∃I y,DX P F I y
def Yk.pC(y:Yk P F){f}(h:¬vv F f):Vi P F f:=⟨(y.wt f).resolve_right h,h⟩
def Yk.yo(y:Yk P F):uL (wf P F) F:=λf e=>by let⟨a,b⟩:=y.oN f<|y.pC e.2;refine⟨a,b.imp ?_ λb d c j k=>mx⟩;rintro⟨d,c,g,h,i⟩;exact⟨d,c,g▸(y.pC e.2).1,h,by rw[Jo];exact i⟩
def xx4{o}(h:jW (wf P F) o):jW P o:=
 ⟨h.iR,λf e d y=>by rw[<-KW (F:=F)];exact h.tN f e d y,λl e=>by let⟨a,b,c,d⟩:=h.ry l e;exact⟨mx,mx,λx g=>mx,d⟩⟩
def OL(h:Sm (wf P F) X w v):Sm P X w v:=⟨h.aD,h.out,h.jH,λr=>xx4<|h.rA r,h.nQ,h.gY,h.os,h.cX,h.rl⟩
def OP(fr:Zf)(ch):∃m,fr.raise ch={fr with mode:=m}:=by unfold Frame.raise;split<;>exact⟨_,O⟩
theorem D4{p C ch}(b:fr.mode=fL ch)(h:fr.defers=[])(a:fr.catches p=ao)(w):
  bW p M (Xh fr (c::C)) w=ij (Xh (c.raise ch) C) w #[]:=by
 grind [bW,Xh,dT]
def oi(p:Zp)(fr:Zf):Prop:=fr.todo=[dE<|.refuse ""]/\fr.defers=[⟨.fn (.method "") #[],#[]⟩]/\fr.kind=dH/\fr.roundOf=R/\p.inits.idxOf? fr.fn=R
def UM(f:FuncId):Zf:={fn:=f,tmps:=#[],todo:=[dE<|.refuse ""],defers:=[⟨.fn (.method "") #[],#[]⟩],mode:= .run,kind:=dH}
def xx3{f}(h:P.inits.idxOf? f=R):oi P<|UM f:=⟨O,O,O,O,h⟩
def oi.Hc(h:oi P fr):Jy P fr:=by let⟨z,x,p,j,q⟩:=h;refine⟨λb a=>?_,λd y=>?_,?_,q⟩;rw[z]at a;simp only[ju]at a;subst a;rfl;rw[x]at y;simp only[ju]at y;subst y;rfl;grind
theorem oi.jM(h:oi P fr)(v):fr.finish v=fr:=by unfold Frame.finish;rw[h.1]
def oi.qJ(h:oi P fr)(m):oi P {fr with mode:=m}:=h
def xJ(p:Zp)(g:Zg):Prop:=g.dying=R/\((g.frame.mode= .run/\∃s k,g.frame.todo=dE (.refuse s)::k)\/oi p g.frame)
def OO{p}(h:xJ p g)(w):∃o w' y,bW p M g w=ic o w' y:=by
 let⟨fr,C,st,D,z⟩:=g;let⟨x,h⟩:=h;cases x;let r:∀s k,fr.mode= .run->fr.todo=dE (.refuse s)::k->∃o w' y,bW p M {frame:=fr,callers:=C,status:=st,dying:=R,offers:=z} w=ic o w' y:=λs k a c=>by
  let e:bW p M {frame:=fr,callers:=C,status:=st,dying:=R,offers:=z} w=aI p M M fr C R w:=by simp[bW,a]
  exact Ô
 obtain⟨a,s,k,c⟩|⟨c,b,hk,_⟩:=h;grind;let d:fr.mode≠ .run->∃o w' y,dT p M fr C R w=ic o w' y:=λa=>by unfold dT;rw[b];simp only[fo,ze];let e:(invoke (.fn (.method "") #[]) #[]).run p w=ft _ w:=O;rw[e];simp[bJ]
 cases a:fr.mode<;>grind [bW]
def UW{p G}(h:xJ p g):¬qK p g w G w':=by rintro⟨a,e,_⟩;let⟨o,w1,y,z⟩:=OO h w;grind
structure Gd(P:Zp)(F:Zc)(X:ZP)(I:Zf->Zy->Prop)(D:Zf)(g:Zg)(w:Zy):Prop where
 yk:Jy P g.frame\/I g.frame w
 yl:∀c∈g.callers,Jy P c
 sm:Sm (wf P F) X w w
 dy:g.dying=R
 pT:g.status=bK
 Cp:g.offers=R
 vw:∃l,g.callers=l++[D]/\Bk g.frame l
variable{dm:fZ}{I:(Q->Prop)->fZ->dN->Prop}{Fo:bE kL}
theorem Gd.re(a:DX P F I Fo)(h:Gd P F X (I X) dm g w)(t:Q->Question->Q)(d:Q):Gd P F X (I X) dm g<|re w t d:=⟨h.yk.imp id<|a.re X _ _ t d,h.yl,h.sm.re t d,h.dy,h.pT,h.Cp,h.vw⟩
def Gd.eq(h:Gd P F X (I X) dm g w):g=Xh g.frame g.callers:=by let⟨fr,C,st,D,o⟩:=g;let⟨_,_,_,y,z,x,_⟩:=h;cases y;cases z;cases x;rfl
def Gd.step(u:Yk P F)(B:DX P F I Fo)(n:oi P dm){g w}(h:Gd P F X (I X) dm g w):
  (∃o w' es,bW (wf P F) M g w=ic o w' es)\/∃g' w' es,bW (wf P F) M g w=ij g' w' es/\g'.dying=R/\g'.status=bK/\g'.offers=R/\(xJ P g'\/(Gd P F X (I X) dm g' w'/\wo P F (T g.callers) (bW (wf P F) M g w))):=by
 let⟨l,hl,hb⟩:=h.vw;let ba:g.callers≠[]:=by rw[hl];simp
 obtain q|hI:=h.yk;rotate_left
 ·
  let h1:=h.eq;let hS:=OL h.sm;obtain b|⟨ch,b,y,D⟩|⟨ih,w',b,y,D,⟨es,h2⟩,wr⟩:=B.step X g.frame w hS hI;left;rw[h1];exact b _;right;cases l with
  |nil=>
   let e:bW (wf P F) M g w=ij (Xh (dm.raise ch) []) w #[]:=zdc
   refine⟨_,_,_,e,O,O,O,aJ ⟨O,ac ?_⟩⟩;let⟨m,ho⟩:=OP dm ch;exact ho▸n.qJ m
  |cons c l=>
   let e:bW (wf P F) M g w=ij (Xh (c.raise ch)<|l++[dm]) w #[]:=zdc
   let hs:Bk c l:=hb;let⟨m,ho⟩:=OP c ch;refine⟨_,_,_,e,O,O,O,ac ⟨⟨aJ<|(h.yl c Á).iM _,λx hx=>h.yl x<|hl▸jw _ hx,h.sm,O,O,O,l,O,?_⟩,λG hd d C A _=>?_⟩⟩;show Bk _ l;rw[ho];exact hs.cH O;grind [Xh]
  right;let e:bW (wf P F) M g w=ij (Xh ih g.callers) w' es:=h1▸h2 _
  let⟨v1,es1,_,f2⟩:=wr w hS;refine⟨_,_,_,e,O,O,O,ac ⟨⟨b.symm,h.yl,OM f2.sm.jL,O,O,O,l,hl,hb.cH y⟩,λG hd d C A _=>?_⟩⟩;grind [Xh]
 let p:Jy (wf P F) g.frame:=yq.2 q;obtain⟨g',w',es,e,b,y,D,h2,wr,h6,h7⟩|⟨o,w',es,e⟩:=xvf (F:=F) (u.yp X) h.sm p h.dy u.ro ba;rotate_left;exact aJ ⟨o,w',es,e⟩;let cs:=e;refine ac ⟨g',w',es,cs,b,y,D,?_⟩;by_cases bb:T g'.callers=0;left;refine⟨b,ac ?_⟩;have bc:l=[]:=by rw[hl]at h6;simp only[zx,Zr]at h6;exact jv À
 subst bc;rcases wr dm [] Á (by omega)with⟨v,t⟩|⟨m,t⟩;rw[t,n.jM];exact n;rw[t];exact n;let⟨l',a1,a2,a3⟩:=Ut (F:=F) (cs1:=[dm]) (cs2:=[dm]) (u.yp X) h.sm p h.dy hl hb u.ro Â _ _ _ e b Á;by_cases i:T g'.callers=T g.callers+1/\g'.frame.roundOf=R/\vv F g'.frame.fn;left;refine⟨b,aJ ?_⟩;let⟨c1,c2,c3⟩:=i;let⟨f,a,k,_,t⟩:=h2 c1 c2;rw[t]at c3⊢;let⟨fn,s,r1,r2,_⟩:=c3;grind [bI,wf];right;let hE:wo (wf P F) F (T g.callers)<|stepG (wf (wf P F) F) M g w:=λG hd d C A S=>by rw[e]at C;cases C;exact⟨O,λhr=>i ⟨A,S,hr⟩⟩
 let⟨v1,es1,f1,f2⟩:=(Ha (En:=True) (F:=F) (u.yp X) u.yo h.sm (⟨ac p,λc j=>ac (yq.2<|h.yl c j)⟩) p h.dy λ_=>hE).DQ bD _ _ _ e b;let z:wo P F (T g.callers)<|stepG (wf P F) M g w:=λG hd d C A S=>u.pC λhr=>i Á;let v':(Jy P g'.frame\/I X g'.frame w')/\∀c∈g'.callers,Jy P c:=by
  by_cases h3:T g'.callers=T g.callers+1/\g'.frame.roundOf=R/\Mc P g'.frame.fn;let⟨c1,c2,c3⟩:=h3;let⟨f,a,k,hk,t⟩:=h2 c1 c2;let L:=z g' w' es cs c1 c2;refine⟨ac ?_,λc j=>yq.1<|h7 (λc j=>yq.2<|h.yl c j) c j⟩;rw[t]at L c3⊢;exact B.ym X f a k w' L c3 hk;let W:wo _ F (T g.callers) _:=λG hd d C A S=>by refine B.pC _ (z G hd d C A S) λho=>h3 ?_;grind
  let r:Jy (wf P Fo) g.frame:=yq.2 q;let w2:=(Ha (En:=True) (F:=F) (B.Cq X) B.oN (OM<|OL h.sm) ⟨ac r,λc j=>ac (yq.2<|h.yl c j)⟩ r h.dy λ_=>W).ok bD _ _ _ cs b;exact⟨aJ<|yq.1<|w2.1.resolve_left<|B.DY _,λc j=>yq.1<|(w2.2 c j).resolve_left<|B.DY _⟩
 exact⟨⟨v'.1,v'.2,f2.sm.jL,b,y,D,l',a1,a2⟩,z⟩
def Gd.oK(z:Yk P F)(v:DX P F I Fo)(y:oi P dm)(h:Gd P F X (I X) dm g w):Fd w<|stepG (wf P F) M g:=by
 obtain a|s:=h.yk;exact(Ha (En:=False) (F:=F) (z.yp X) z.yo h.sm ⟨ac<|yq.2 a,λc j=>ac (yq.2<|h.yl c j)⟩ (yq.2 a) h.dy λx=>x.elim).oK;let p:=h.eq;let⟨l,u,W⟩:=h.vw;obtain f|⟨ch,f,r,i⟩|⟨q,k,_,_,i,_⟩:=v.step X g.frame w (OL h.sm) s;intro n k b e _;let⟨o,w1,S,D⟩:=f g.callers;grind;let:∃c C,g.callers=c::C:=by rw[u];cases l with|nil=>grind|cons c l=>grind
 let⟨c,C,j⟩:=this;rw[p,j];intro n k b e _;let m:bW (wf P F) M (Xh g.frame (c::C)) w=ij n k b:=e;rw[D4 f r (i _) w]at m;cases m;exact⟨zd _,O,λt d _=>⟨#[],by grind [D4]⟩⟩;exact p▸i _
def xr7(y:Yk P F)(b:DX P F I Fo)(a:oi P dm)(f:∀g w t d,End g (re w t d)↔End g w):zR (wf P F) End (λg w=>Gd P F X (I X) dm g w\/xJ P g) where
 iD:=f
 tS g w t d:=⟨λh=>h.imp (λh=>by let:=Gd.re b h w.tape w.drawn;grind [Ca,GI]) id,λh=>h.imp (λh=>Gd.re b h t d) id⟩
 oK g w hI _:=by obtain h|h:=hI;exact h.oK y b a;intro l m j e;let⟨o,w1,c,z⟩:=OO (p:=wf P F) h w;grind
 yj g w l m hI _ hgo:=by
  obtain h|h:=hI;let⟨j,z,x,u⟩:=hgo;obtain⟨o,w1,c,i⟩|⟨n,r,k,i,_,_,_,q⟩:=h.step y b a<;>grind
  exact dC hgo<|UW h
def zrz(y:Yk P F)(q:DX P F I Fo)(i:oi P dm){z x}(j:End (Xh z x) w'):
  ∀(n:Q) (fr:Zf) (C:bA Zf) (w:Zy),runN (wf P F) n (lone fr C w)=gP (lone z x w')->(Gd P F X (I X) dm (Xh fr C) w\/xJ P (Xh fr C))->zT (wf P F) End n (Xh fr C) w:=by
 intro n;induction n with
 |zero=>
  intro fr C w h _;simp only[runN,Stepped.next.injEq,lone,Machine.mk.injEq]at h;let⟨f,g,_⟩:=h;subst f;obtain⟨rfl,rfl⟩:=g;exact j
 |succ n W=>
  intro fr C w h c;let u:∀{o w1 b},bW _ M (Xh fr C) w=ic o w1 b->False:=λ{o w1 b} e=>by let a:=step_lone_ended zbn;grind [runN]
  obtain c|c:=c;obtain⟨o,w1,b,e⟩|⟨k,w1,b,e,f,g,l,m⟩:=c.step y q i;grind;let⟨s,r,st,D,S⟩:=k;cases f;cases g;cases l;let a:=step_lone_go zbn;simp only[runN,a]at h;exact ac ⟨_,w1,⟨b,e,O,O⟩,W s r w1 h<|m.elim ac λh=>aJ h.1⟩;let⟨o,w1,b,e⟩:=OO (p:=wf P F) c w;grind
def Lo(y:Zp)(End:Zg->Zy->Prop)(g:Zg)(w:Zy):Prop:=∀t d,∃n,zT y End n g<|re w t d
theorem UR(e:∀g w t d,End g (re w t d)↔End g w)(a:∀g w,End g w->¬xJ P g)(h:Lo (wf P F) End g w):¬xJ P g:=by intro y;let⟨n,b⟩:=h w.tape w.drawn;cases n with|zero=>exact a _ _ b y|succ n=>obtain b|⟨f,i,c,_⟩:=b;grind;exact UW (p:=wf P F) y c
variable{J:Q×Q->bE cR->dN->gA->Prop}
def tU(hd:Yk P F)(j:oi P dm)(Co:DU P X J)(s:∀g w t d,End g (re w t d)↔End g w)(ba:∀g w,End g w->¬xJ P g)
  {fr w}(bd:Jy P fr\/∃f a,Vi P F f/\Mc P f/\fr=bI (wf P F) f a dH)(hk:fr.kind=dH)(hw:∀t d,∃fr' cs' w',Steps (wf P F) (lone fr [dm]<|re w t d) (lone fr' cs' w')/\End (Xh fr' cs') w')
  {k gs v sl t cs}(bc:∀c∈cs,ni P c)(hJ:J k gs v t)(ho:gs[0]?=Y (Xh fr cs))(hS:Sm P X (re w v.tape v.drawn) v):
  ∃h3 gs' v' sl' t' k' g' w' g2,fQ P h3 (gJ gs v sl) t=(gP<|crowd gs' v' sl',t')/\J k' gs' v' t'/\gs'[0]?=Y g2/\End g' w'/\zS P X [dm] cs g' w' g2 v':=by
 let⟨I,Fo,i⟩:=hd.GA;let z:Jy P fr\/I X fr w:=bd.imp id λ⟨f,a,b,e,h1⟩=>h1▸i.ym X f a dH w b e ⟨Â,Â⟩
 let C:=z.symm.imp (i.mc X fr w) id;let G:Gd P F X (I X) dm (Xh fr [dm]) w:=⟨z,λc y=>by simp only[Xh,ju]at y;subst y;exact j.Hc,OM<|(hS.jL).re w.tape w.drawn,O,O,O,[],O,hk⟩;let w2:Lo _ End _ w:=λt d=>by let⟨fr',cs',w',⟨n,h2⟩,hE⟩:=hw t d;exact⟨n,zrz (X:=X) hd i j hE n fr [dm] _ h2<|aJ<|Gd.re i G t d⟩
 let B:=xr7 (X:=X) hd i j s;let W:=(B.bar (aJ G) w2).sim (P:=P) (λk g w m t=>Lo _ End g w/\Gd P F X (I X) dm g w/\∃gs v sl g2,m=gJ gs v sl/\J k gs v t/\gs[0]?=Y g2/\zS P X [dm] cs g w g2 v) (by
  rintro k g w m t⟨hL,p,gs,v,sl,g2,rfl,hJ,ho,hx⟩ hs;let next:∀t d g' w',qK _ g (A.re w t d) g' w'->Lo _ End g' w'/\Gd P F X (I X) dm g' w':=λt d g' w' q=>by let b:=B.eG (aJ p) hs hL q;exists b;rcases B.yj g _ g' w' (aJ<|Gd.re i p t d) (λx=>hs<|(s ..).1 x) q with e|e;exact e;exact dC e<|UR s ba b
  let h:∀t d,∃g' w',qK (wf P F) g (A.re w t d) g' w'/\[dm].length<=T g'.callers:=λt d=>by let⟨n,h2⟩:=hL t d;cases n with|zero=>exact dC ((s ..).1 h2) hs|succ n=>obtain h2|⟨g',w',b,_⟩:=h2;grind;let⟨l,hl,_⟩:=(next t d g' w' b).2.vw;grind
  let hE:∀t d,wo P F (T g.callers)<|stepG (wf P F) M g<|A.re w t d:=λt d=>by let⟨g',w',b,_⟩:=h t d;let e:=next t d g' w' b;let⟨wr,e1,e2,e3⟩:=b;rcases(Gd.re i p t d).step hd i j with⟨o,w1,ih,e4⟩|⟨g3,w3,bf,e4,_,_,_,h5⟩<;>grind [UR]
  let r:=show∃gs' v' sl' t',fQ P 1 (gJ gs v sl) t=(gP<|crowd gs' v' sl',t')/\
   ((∃k',AI k' k/\J k' gs' v' t'/\gs'[0]?=Y g2/\zS P X [dm] cs g w g2 v')\/
    ∃tp d g' w' g2',qK (wf P F) g (A.re w tp d) g' w'/\J k gs' v' t'/\gs'[0]?=Y g2'/\zS P X [dm] cs g' w' g2' v'/\V (Z v)<=V (Z v')/\∀x,X x->v'.heap[x]?=v.heap[x]?)from by
   obtain hF|hI:=p.yk;exact UD (sl:=sl) Co (hd.Cq X) hd.oN hd.ro hx hF h hE hJ ho;refine UB Co hx (λd es=>?_) hJ ho;let⟨l,hl,hg2,hlow⟩:=hx.yk;let hb:Bk g.frame l:=by obtain⟨b,_⟩|⟨_,b⟩:=hlow;cases b;exact b
   let L:=p.eq;let D:g2=Xh g.frame (l++cs):=by rw[hg2];let⟨fr,cs,st,dy,off⟩:=g;cases p.dy;cases p.pT;cases p.Cp;rfl
   let⟨g',w',q,hlen⟩:=h v.tape d;obtain b|⟨ch,b,e,h1⟩|⟨fr',w1,b,e,h1,⟨wr,h4⟩,h5⟩:=i.step X g.frame _ es.jL (i.re X _ _ _ _ hI);let⟨o,w1,wr,e1⟩:=b g.callers;let⟨es',e2,_⟩:=q;grind;let⟨es',e2,e3,e4⟩:=q;cases l with
   |nil=>rw[L,hl]at e2;let e5:bW (wf P F) M (Xh g.frame (dm::[])) (A.re w v.tape d)=_:=D4 b e (h1 _) _;grind [Xh]
   |cons c l=>
    let y:=p.yl c Á;let bb:Bk c l:=hb;let⟨m,hm⟩:=OP c ch;let f0:bW (wf P F) M g (A.re w v.tape d)=ij (Xh (c.raise ch)<|l++[dm]) (A.re w v.tape d) #[]:=by rw[L,hl];exact D4 b e (h1 _) _
    let S:∀x∈l++[dm],Jy P x:=λx u=>p.yl x Á;refine⟨Xh (c.raise ch)<|l++[dm],A.re w v.tape d,l,v.at d,#[],⟨#[],f0,O,O⟩,O,ac ⟨Â,?_⟩,?_,.yi es,⟨ac<|y.iM _,λx u=>ac (S x u)⟩,⟨ac<|y.iM _,λx u=>?_⟩⟩;show Bk (c.raise ch) l;rw[hm];exact bb.cH O;rw[D];exact D4 b e (h1 _) _;let be:=u;let:=hx.Fs.2 x;grind
   let⟨v1,ih,f1,f2⟩:=h5 _ es;let f0:bW (wf P F) M g (A.re w v.tape d)=ij (Xh fr' g.callers) w1 wr:=L▸h4 _
   let hr:=b.imp (i.mc X fr' w1) id;refine⟨Xh fr' g.callers,w1,l,v1,ih,⟨wr,f0,O,O⟩,hl,ac ⟨Â,hb.cH e⟩,?_,f2,⟨hr,λx u=>ac (p.yl x u)⟩,⟨hr,λx u=>?_⟩⟩;rw[D];exact f1 _;let be:=u;let:=hx.Fs.2 x;grind
  grind)
 obtain⟨h3,m',t',g',w',k',r1,r2,_,_,gs',v',sl',g2,rfl,r3,r4,r5⟩:=W k (gJ gs v sl) t ⟨w2,G,gs,v,sl,Xh fr cs,O,hJ,ho,⟨[],O,O,ac ⟨Â,hk⟩⟩,O,O,⟨C,λc y=>by simp only[Xh,ju]at y;subst y;exact ac j.Hc⟩,⟨C,bc⟩,hS⟩;grind
end
end
end
section
open Go.Conc
open Go.ConcN (sumTo upd sumTo_upd upd_ne upd_same)
variable[pn:Pn]
section
variable{P:cI}{F:bE kL}{X:Q->Prop}
def uM(X:ZP)(l:Loc):Prop:=∃a,l=ma a/\X a.block
def xI(X:ZP)(l:Loc):Prop:=∃r,l=pa r/\X r
structure vB(X:ZP)(B:Q)(t:gA):Prop where
 gB:∀S,¬Race S t
 ln:∀i a,mg t i=Y a->a.loc.isMemory=M->Knows t 0 i\/(uM X a.loc/\a.kind= .atomic)\/(xI X a.loc/\a.write=ao)
 mD:t.HandedOver
 vC:Deaf t 0=0
 hU:∀i a,mg t i=Y a->a.loc.low B
def Cn(X:ZP)(B:Q)(e:me):Prop:=(∀x,(cA e).touch?=Y x->(uM X x.loc->x.kind≠ .plain)/\(xI X x.loc->x.write=ao)/\x.loc.low B)/\e.loc≠ .mark oG/\e.loc≠ .mark oF
def Hj(h:vx X n e){x}(hx:(cA e).touch?=Y x):x.loc.low n/\(x.loc.isMemory=M->¬uM X x.loc/\∀r,x.loc=pa r->X r->x.write=ao):=by
 let⟨l,W,S⟩:=e;cases l with
 |cell a=>
  let c:¬X a.block/\a.block<n:=h;simp only[ofEvent_cell0,cO,xj]at hx;subst hx;exact⟨c.2,λ_=>⟨λ⟨b,e,d⟩=>Á,λr e=>Æ⟩⟩
 |obj r=>
  let c:(X r->W=ao)/\r<n:=h;cases W<;>cases S
  simp[cA,cO,xj]at hx;subst hx;exact⟨c.2,λ_=>⟨λ⟨b,e,d⟩=>Æ,λr e hx=>O⟩⟩;simp[cA,cO,xj]at hx;subst hx;exact⟨c.2,λ_=>⟨λ⟨b,e,d⟩=>Æ,λr e hx=>O⟩⟩;simp[cA,cO,xj]at hx;subst hx;exact⟨c.2,λ_=>⟨λ⟨b,e,d⟩=>Æ,λr e hx=>Á⟩⟩;grind [cA,cO]
 |output=>
  simp only[cA,cO,xj]at hx;subst hx;exact⟨bD,λh=>È⟩
 |goroutines=>exact h.elim|mark m=>cases m<;>first|exact h.elim|grind [cA,cO]
def Hk(h:vx X n e):e.loc≠ .mark oG/\e.loc≠ .mark oF/\∀a,e.loc≠ .mark (lK a):=by
 let⟨l,W,S⟩:=e;cases l with
 |mark m=>cases m<;>first|exact h.elim|simp
 |_=>simp
def Cn.vz(h:vx X n e):Cn X n e:=by refine⟨λx c=>⟨λb=>?_,λb=>?_,(Hj h c).1⟩,(Hk h).1,(Hk h).2.1⟩;exact dC b ((Hj h c).2<|by let⟨a,e,_⟩:=b;rw[e];rfl).1;let⟨r,e,y⟩:=b;exact((Hj h c).2<|by rw[e];rfl).2 r e y
section
variable{B y:Q}{u:gA}
def vB.U(h:vB X B t)(b:B<=y):vB X y t:=⟨h.gB,h.ln,h.mD,h.vC,λi a c=>Loc.low_mono b<|h.hU i a c⟩
def Z9{a}(h:mg (t++u) i=Y a):(i<V t/\mg t i=Y a)\/(V t<=i/\∃o∈u,(t++u)[i]?=Y o/\o.act.touch?=Y a):=by let⟨x,q,z⟩:=touch_of h;grind [touchAt_of]
theorem vB.cN(h:vB X B t){fn pos z}(j:∀e∈z,Cn X B e):vB X B<|t++aZ 0 fn pos z:=by
 let v:∀d∈aZ 0 fn pos z,d.g=0:=λd c=>Ø
 let s:∀d∈aZ 0 fn pos z,∀x,d.act.touch?=Y x->(uM X x.loc->x.kind≠ .plain)/\(xI X x.loc->x.write=ao)/\x.loc.low B:=λd c x q=>by obtain⟨e,n,rfl⟩:=zy c;exact(j e n).1 x q
 refine⟨λS=>pd (h.gB S) v λi a l d c b r m=>?_,λi a l w=>?_,handedOver_app h.mD λd c=>aJ (v d c),?_,λi a l=>?_⟩;obtain hk|⟨k,o⟩|⟨k,o⟩:=h.ln i a l m.2.1;exact hk;let p:=(s d c b r).1<|m.1▸k;obtain x|x|⟨_,x,_⟩:=m.c<;>grind
 let p:=(s d c b r).2.1<|m.1▸k;obtain x|x:=m.2.2.1<;>grind
 obtain⟨_,f⟩|⟨_,d,c,q,_⟩:=Z9 l;exact(h.ln i a f w).imp (·.app _) id;grind [knows_own];rw[mn,deafBehind_still λe n=>⟨(j e n).2.1,(j e n).2.2⟩];exact h.vC;obtain⟨_,f⟩|⟨_,d,c,q,y⟩:=Z9 l;exact h.hU i a f;grind
theorem vB.AO(h:vB X B t){g}(n:g≠0){fn pos z}(l:∀e∈z,e.mute=M):vB X B<|t++aZ g fn pos z:=by
 let m:∀d∈aZ g fn pos z,d.g=g:=λd c=>Ø
 let o:∀d∈aZ g fn pos z,d.act.touch?=R:=λd c=>Ft
 refine⟨λS=>pd (h.gB S) m λi a _ d c b q _=>Á,λi a j l=>?_,handedOver_app h.mD λd c=>ac (o d c),(dJ t n _ m).trans h.vC,λi a j=>?_⟩;obtain⟨_,f⟩|⟨_,d,c,p,k⟩:=Z9 j;exact(h.ln i a f l).imp (·.app _) id;grind;obtain⟨_,f⟩|⟨_,d,c,p,k⟩:=Z9 j;exact h.hU i a f;grind
end
def JL(P:Zp)(X:ZP)(k:Q×Q)(G:bE Zg)(v:Zy)(t:gA):Prop:=
 ∃q,Leavers P t G q/\vB X (V<|Z v) t/\(0,kD (V G) q)=k
def Yl:DU P X (JL P X) where
 kr k gs v t hJ i g hi hg:=by let⟨q,a,_⟩:=hJ;exact oI<|(a.old i _ hi hg).status.elim aJ λx=>ac (ac x)
 gY k gs v t d hJ:=hJ
 dR k gs v t i g1 g0 sl hJ hpos hi hg1 h0 hrun hdy:=by
  obtain⟨q,a,r,rfl⟩:=hJ;let f:=a.old i g1 hpos hi;let s:(i==0)=ao:=Ç
  let z:=(za.1 hi).1;cases A:q i with
  |zero=>rw[A]at f;rw[f.1]at hg1;cases hg1
  |succ k=>
   rw[A]at f;obtain⟨S,_⟩|⟨_,g',G,I,o,L⟩:=f;grind;let l:=qD (sl:=sl) hi (s▸o v);let C:V (aA (gs.map<|woken P g1 g' v) i g')=V gs:=Â
   let F:kD (V gs) (upd q i k)+(k+1)=kD (V gs) q+k:=by let:=sumTo_upd q k id z;simpa[A]using this
   refine⟨_,v,sl,_,(0,kD (V gs)<|upd q i k),l,.right _ À,?_,⟨upd q i k,⟨λj x m p=>?_,λj m=>?_⟩,r.AO À I,by rw[C]⟩,λw h=>h⟩;grind [woken_run];by_cases b:i=j;grind [upd_same,mn];rw[zl b,jt]at p;obtain⟨y,D,rfl⟩:=zv.1 p;let n:=a.old j y m D;rw[jJ n,upd_ne q k<|Ne.symm b,dJ t b _ λu c=>Ø];exact n;rw[dJ t (g':=i) À _ λu c=>Ø];exact a.above j À
 cN k gs v t g0 g' v' G hJ h0 hst hrun hrun' hk hes hg:=by
  obtain⟨q,a,r,rfl⟩:=hJ;refine⟨q,⟨λj x m p=>?_,λj m=>?_⟩,(r.U hg).cN λe W=> .vz (hes e W),Â⟩;let B:0≠j:=À
  rw[zl B,jt]at p;obtain⟨y,D,rfl⟩:=zv.1 p;let f:=a.old j y m D;rw[jJ f,dJ t À _ λu c=>Ø];exact f;rw[dJ t (g':=0) Á _ λu c=>Ø];exact a.above j Á
end
end
section
open Go.Conc
variable[pn:Pn]
section
variable{P:cI}{F:bE kL}{X:Q->Prop}{dm:fZ}{G y:cR->dN->Prop}
structure AM(P:Zp)(X:ZP)(g:Zg)(w:Zy)(m:Machine)(t:gA):Prop where
 Hb:∃z v S k,m=gJ z v S/\z[0]?=Y g/\JL P X k z v t/\Sm P X (re w v.tape v.drawn) v
 ok:uw P g
 pT:g.status=bK
 dy:g.dying=R
def RX(P:Zp)(g:Zg)(w:Zy)(G:Zg->Zy->Prop):Prop:=
 ∀X m t,AM P X g w m t->∃z q p j u w',fQ P z m t=(gP q,p)/\(∀x,X x->j x)/\AM P j u w' q p/\G u w'
theorem RX.refl{g}(h:G g w):RX P g w G:=λX m t a=>⟨0,m,t,X,g,w,O,λ_ h=>h,a,h⟩
theorem RX.aE(h:RX P g w G)(k:∀q w',G q w'->RX P q w' y):RX P g w y:=λX m t a=>by let⟨z,p,j,u,o,w1,A,s,r,l⟩:=h X m t a;let⟨d,W,S,D,L,B,C,I,b3,b4⟩:=k o w1 l u p j r;exact⟨z+d,W,S,D,L,B,qr A C,λx b=>I x<|s x b,b3,b4⟩
def RX.U(h:RX P g w G)(k:∀z w',G z w'->y z w'):RX P g w y:=h.aE λz w' a=> .refl (k z w' a)
theorem AM.re{m:Machine}(h:AM P X g w m t)(tp:Q->Question->Q)(d:Q):AM P X g (re w tp d) m t:=⟨h.Hb,h.ok,h.pT,h.dy⟩
theorem RX.re{tp d}(h:RX P g (A.re w tp d) G):RX P g w G:=λX m t a=>h X m t<|a.re tp d
def RX.tU(z:Yk P F)(e:oi P dm)(f:∀g w t d,End g (A.re w t d)↔End g w)(c:∀g w,End g w->¬xJ P g)
  {fr cs w}(n:¬Mc P fr.fn)(hk:fr.kind=dH)(b:∀t d,∃q C w',Steps (wf P F) (lone fr [dm]<|A.re w t d) (lone q C w')/\End (Xh q C) w'):
  RX P (Xh fr cs) w (λs w'=>∃u l,End u w'/\u.callers=l++[dm]/\s={u with callers:=l++cs}):=by
 rintro X m t⟨⟨p,v,sl,k,rfl,i,j,o⟩,a,_,_⟩;let⟨x,W,L,S,B,I,u,w',s,r1,r2,r3,r4,r⟩:=A.tU (sl:=sl) z e Yl f c (aJ<|a.1.resolve_left n) hk b a.2 j i o;let⟨l,a1,D,_⟩:=r.yk;exact⟨x,_,B,X,s,w',r1,λ_ h=>h,⟨⟨W,L,S,I,O,r3,r2,r.sm⟩,r.Fs,D▸r.pT,D▸r.dy⟩,u,l,r4,a1,D⟩
def RX.sC{g g' es}(h:∀v,bW P M g v=ij g' v es)(C:uw P g->uw P g')(h1:g'.status=bK)(hd:g'.dying=R)(z:∀(X:ZP) (n:Q),∀e∈es,Cn X n e):RX P g w λg1 w1=>g1=g'/\w1=w:=by
 rintro X m t⟨⟨c,v,sl,k,rfl,F,G,h2⟩,hx,b,s⟩;induction k using DV.induction generalizing c v sl t with
 |_ k ih=>
  let r:∀g∈c,awake g:=by intro g1 f;obtain⟨i,p,rfl⟩:=Xd.1 f;obtain rfl|a:=jh i;grind [oI];exact Yl.kr k c v t G i _ a<|xy p
  let⟨i,g1,d,sl',p,f,hst⟩:=crowd_pick (P:=P) (w:=v) (sl:=sl) r ⟨0,g,F,b⟩;let l:=Yl.gY k c v t d G;let o:=h2.re v.tape d;obtain rfl|a:=jh i;obtain rfl:g1=g:=Á
  let cs:=qD (P:=P) (sl:=sl') (i:=0) p (show bW P (0==0) g1 (v.at d)=_ from h<|v.at d);obtain⟨q,u,L,rfl⟩:=l;refine⟨1,gJ _ _ sl',t++aZ 0 g1.frame.fn g1.frame.place es,X,g',w,ë,λ_ h=>h,⟨⟨aA (c.map<|woken P g1 g'<|v.at d) 0 g',v.at d,sl',(0,kD (V c) q),O,Á,⟨q,⟨λj x I W=>?_,λj I=>?_⟩,?_,Â⟩,o⟩,C hx,h1,hd⟩,O,O⟩;let B:0≠j:=À
  rw[zl B,jt]at W;obtain⟨y,ho,rfl⟩:=zv.1 W;let A:=u.old j y I ho;rw[jJ A,dJ t À _ λS D=>Ø];exact A;rw[dJ t (g':=0) Á _ λS D=>Ø];exact u.above j Á;exact L.cN<|z _ _;let⟨gs',v',sl2,ops,k',r1,r2,r3,r4,r5⟩:=Yl.dR k c _ t i g1 g sl' l a p f F b s;let⟨wr,m',t',X',g2,w2,a1,a2⟩:=ih k' r2 _ gs' v' sl2 r3 r4<|r5 w o;exact⟨1+wr,m',t',X',g2,w2,qr ë a1,a2⟩
def RX.vA(u:Yk P F)(y:¬Mc P g.frame.fn)(e:∀X,Sm P X w w->∀t d,(∃L w',qK (wf P F) g (A.re w t d) L w'/\G L w')/\wo P F (T g.callers) (bW (wf P F) M g<|A.re w t d)):RX P g w G:=by
 rintro X m t⟨⟨r,v,sl,k,rfl,s,x,q⟩,p,f,o⟩;let c:Sm P X w w:=q.jL.re w.tape w.drawn;induction k using DV.induction generalizing r v sl t with
 |_ k ih=>
  let⟨S,C,D,I,r1,r2⟩:=UD (sl:=sl) (cs1:=[]) (cs2:=[]) Yl (u.Cq X) u.oN u.ro (g2:=g) ⟨⟨g.callers,Â,Â,aJ ⟨O,O⟩⟩,f,o,p,p,q⟩ (p.1.resolve_left y)
   (λt d=>by let⟨⟨L,w',a,_⟩,_⟩:=e X c t d;grind) (λt d=>(e X c t d).2) x s
  obtain⟨z,i,j,n,b⟩|⟨B,d,L,w',g2,i,j,n,b,_⟩:=r2;let⟨W,m',t2,X',g2,w2,b1,b2⟩:=ih z i I S C D n j b.sm;exact⟨1+W,m',t2,X',g2,w2,qr r1 b1,b2⟩;let⟨⟨g1,w1,c1,c2⟩,_⟩:=e X c B d;obtain⟨rfl,rfl⟩:=c1.DR i;let⟨l,e1,e2,_⟩:=b.yk;have:g2=g1:=by rw[e2,Xz];rw[Xz]at e1;rw[<-e1]
  subst this;exact⟨1,_,I,X,g2,w1,r1,λ_ h=>h,⟨⟨S,C,D,k,O,n,j,b.sm⟩,b.Fs,b.pT,b.dy⟩,c2⟩
def DW(P:Zp)(F:Zc)(fr:Zf)(w:Zy)(e:kH):Prop:=e≠ jQ/\∃t d,fr.leaving (wf P F) (re w t d) e
def CX(P:Zp)(F:Zc)(f:FuncId)(A:Za)(w:Zy)(z:kH->Zy->Prop):Prop:=
 ∀C,RX P (Xh (bI P f A dH) C) w λx w'=>∃e fr,z e w'/\x=Xh fr C/\fr.fn=f/\DW P F fr w' e
def CX.qL(W:Yk P F)(p:oi P dm){f S}{u:(Q->Question->Q)->Q->kH->Zy->Prop}(y:Vi P F f)(x:¬Mc P f)(r:∀t d w',¬u t d jQ w')
  (h:∀t d,aK (wf P F) f S (re w t d)<|u t d):CX P F f S w λe w'=>∃t d D L,u t d e<|re w' D L:=by
 intro cs;refine(RX.tU (fr:=bI P f S dH) (cs:=cs) (dm:=dm) W p
  (End:=λm w'=>∃e fr t d D L,u t d e (A.re w' D L)/\e≠ jQ/\m=Xh fr [dm]/\fr.fn=f/\fr.leaving (wf P F) (A.re w' D L) e) (λm w' t d=>Iff.rfl) ?_ x O ?_).U ?_
 rintro m w'⟨e,fr,t,d,D,L,_,g,rfl,_,k⟩ ⟨_,C⟩;cases e with
 |outgrown=>grind
 |returned v=>
  let⟨a,b,_⟩:=k;obtain⟨i,_⟩|⟨_,i,_⟩:=C;let j:fr.mode= .run:=i;grind;let j:fr.defers=[_]:=i;grind
 |panicked c=>let⟨a,b,_⟩:=k;obtain⟨i,_⟩|⟨_,i,_⟩:=C;let j:fr.mode= .run:=i;grind;let j:fr.defers=[_]:=i;grind
 intro t d;let⟨e,w',fr,n,B,q,k⟩:=h t d [dm];rw[(GC y.1 S dH)]at B;let g:e≠ jQ:=by rintro rfl;exact r _ _ _ n
 refine⟨fr,[dm],w',?_,e,fr,t,d,w'.tape,w'.drawn,n,g,O,q,k⟩;cases e with
 |outgrown=>grind|returned v=>exact B
 |panicked c=>exact B
 rintro z w'⟨m,l,⟨e,fr,t,d,D,L,n,g,rfl,q,k⟩,o,rfl⟩;have:l=[]:=by let s:[dm]=l++[dm]:=o;let:=gv T s;simp only[zx,Zr]at this;exact jv À
 subst this;exact⟨e,fr,⟨t,d,D,L,n⟩,O,q,g,D,L,k⟩
def UV{c v}(f:Sm P X w w){b a}(h:(eR fn c).run (wf P F) (re w b a)=dG v (re w b a))(t d):
  (eR fn c).run (wf P F) (re w t d)=dG v (re w t d):=by
 let e:=(KJ (F:=F) (X:=X) fn c).oK _ (f.re b a) (by rw[h];trivial);rw[h]at e;let:=e.2.2 t d (λi q g=>by let:(re w b a).drawn-(re w b a).drawn=0:=KD _;let j:i<(re w b a).drawn-(re w b a).drawn:=g;omega);rw[Ca]at this;rw[this];show dG v (re (re w b a) t<|d+((re w b a).drawn-(re w b a).drawn))=_;rw[(KD _)];rfl
def RX.zU(z:Yk P F){C v}(b:¬Mc P fr.fn)(h:DW P F fr w<|ai v):RX P (Xh fr (c::C)) w λq w'=>∃t d,q=Xh (c.finish v) C/\w'=A.re w t d:=by
 let⟨_,m,D,p,j,u,fn,o,s⟩:=h;refine RX.vA z b λX f t d=>?_;let e:∃x,bW (wf P F) M (Xh fr (c::C)) (A.re w t d)=ij (Xh (c.finish v) C) (A.re w t d) x:=by simp only[bW,Xh,dT,gi,p,j,u,o,ze,UV f s t d];exact⟨_,O⟩
 let⟨x,e⟩:=e;refine⟨⟨_,_,⟨x,e,O,O⟩,t,d,O,O⟩,λq w' a g i=>?_⟩;grind [Xh]
theorem RX.iM{C a}(h:DW P F fr w<|iL a)(b:∃fn,P.funcs[fr.fn]?=Y fn):RX P (Xh fr (c::C)) w λz w'=>z=Xh (c.raise a) C/\w'=w:=by
 let⟨_,q,D,A,p,_⟩:=h;let⟨fn,b⟩:=b;refine RX.sC (es:=#[]) (λv=>?_) (λd=>⟨(d.2 c<|by simp[Xh]).iM _,λx e=>d.2 x<|by grind [Xh]⟩) O O Â
 grind [bW,Xh,dT,Frame.catches]
end
end
section
variable[pn:Pn]
section
variable{y z:Type}{P:cI}{F:bE kL}{X:Q->Prop}
def xmn(t:Zt)(r):B P F X<|Extern.MapsClone.clone #[iW t<|fu<|some r]:=by
 show B P F X (na r>>=λo=>match o with
  | .map q C=>newObj _>>=λx=>(iu _:Sem Zv)|_=>stuck "maps.clone: a map expected")
 refine B7 (λo c b=>?_) λo b w=>?_;grind [xq,AH,xr,xz];cases o<;>first|(cases b;done)|exact⟨id,bD⟩
def xr3(a):B P F X<|Extern.MapsClone.clone a:=by
 let⟨l⟩:=a
 match l with
 |[]=>exact xz _|_::_::_=>exact xz _
 |[x]=>
  cases x with
  |iface t y=>
   cases y with
   |map r=>
    cases r with|none=>exact Yb _ bD|some r=>exact xmn t r
   |_=>exact xz _
  |_=>exact xz _
theorem xit(n):B P F X<|cutType n:=by refine Xq O ?_;grind [xr,xz]
theorem xmp(t:Zt):B P F X<|Extern.Rtype.handle t:=by exact Xq O<|xr _
def xch(h):B P F X<|Extern.Rtype.ofHandle h:=by refine Xq O ?_;grind [xr,xz]
def xmy(a):B P F X<|Extern.ReflectliteType.typeOf a:=by
 let⟨l⟩:=a
 match l with
 |[]=>exact xz _|_::_::_=>exact xz _
 |[x]=>
  cases x with
  |nilIface=>exact xr _|iface t y=>show B P F X<|Extern.ReflectliteType.toType t;grind [Extern.ReflectliteType.toType,xq,xit,xmp,xr]
  |_=>exact xz _
def xmu(s)(t:Zt):B P F X<|Extern.Rtype.noPack s t:=by refine Xq ?_<|pV (Yb _ bD)<|xr _;simp[TK]
def zv2(s)(t:Zt):B P F X<|Extern.Rtype.noPackHeld s t:=by refine Xq ?_ (Xq ?_<|pV (Yb _ bD)<|xr _)<;>grind [Fg,Vx]
def xix(r):B P F X<|Extern.ReflectliteType.ofRtype r:=by
 cases r with
 |agg a=>
  let⟨l⟩:=a
  match l with
  |[]=>exact xz _|_::_::_=>exact xz _
  |[h]=>exact xq (xch h) λt=>xq (xmu _ t) λ_=>xr _
 |_=>exact xz _
def xiz(f:Zt->Sem Zv)(b:∀t,B P F X<|f t)(a):B P F X<|Extern.ReflectliteType.method f a:=by
 let⟨l⟩:=a
 match l with
 |[]=>exact xz _|_::_::_=>exact xz _
 |[r]=>exact xq (xix r) b
def zvx(a):B P F X<|Extern.ReflectliteType.method (λt=>do pA "Comparable" t;iu (bG (<-typeInfo t).comparable)) a:=
 xiz _ (λt=>xq (zv2 _ t) λ_=>xq (zP t) λ_=>xr _) a
def zv1(e f a):B P F X<|Extern.BytealgMakeNoZero.makeNoZero e f a:=by
 let⟨l⟩:=a
 match l with
 |[]=>exact xz _|_::_::_=>exact xz _
 |[x]=>
  cases x with
  |int k n=>
   cases k with
   |i64=>
    let d:∀b,B P F X<|choose (.appendCap (bL n) 0 b)>>=λc=>askRoom c>>=λ_=>choose (.extern "internal/bytealg.MakeNoZero.bytes" 0)>>=λq=>newRow b (Extern.BytealgMakeNoZero.digits c q #[])>>=λa=>(iu (aB (Y a) (bL n) c):Sem Zv):=λb=>
     xq (Vr _) λ_=>xq (NJ _) λ_=>xq (Vr _) λ_=>xq (iU.2.2.1 ..) λ_=>xr _
    unfold li;split;refine xq (Yz _) λu=>?_;grind [xq,tP,xz];exact xz _
   |_=>exact xz _
  |_=>exact xz _
end
end
section
open Go.Conc
def jer:bA Q:=[0,1,2,136,209,210,213,242,244,245,246,248,249,250,251,252,253,254,257,259,296,297,298,299,300,319,320,321,322,323,324,325,326,327,328,329,330,331,332,333,336,337,338,339,341,342,343,344,345,346,347,348,349,350,351,353,354,355,356,357,358]
def sD(i:Q):ez:=jer.contains i
def zW(f:kL):kL:={f with body:=Y<|.refuse ""}
def zV(i:Q)(f:kL):kL:=if sD i then zW f else f
noncomputable def Tryq.dA:Zc:=Tryz.prog.funcs.mapIdx zV
noncomputable def Tryq.prog:Zp:=wf az Tryq.dA
def xay:Tryq.prog.funcs=Tryq.dA:=Ä
def zxc:Tryq.prog.toTables=Tryz.prog.toTables:=Ä
def zX(i):Tryq.dA[i]?=(Tryz.prog.funcs[i]?).map (zV i):=by unfold Tryq.dA;simp
def Hi(h:sD i=ao)(a:Tryz.prog.funcs[i]?=Y f):Tryq.prog.funcs[i]?=Y f:=by rw[xay,zX,a];grind [zV]
theorem jck(h:sD i=ao)(b:Tryz.prog.funcs[i]?=Y f)(d:(f.name== "runtime.NumGoroutine")=ao)(e:f.body.isNone=ao)(A w):(callFunc i A).run Tryq.prog w=dG (nN i A) w:=by
 let a:¬f.name= "runtime.NumGoroutine":=by simpa using d
 cases y:f.body with|none=>simp_all|some c=>simp[callFunc,Hi h b,a,y]
theorem UP(h:sD i=M)(a:Tryz.prog.funcs[i]?=Y f)(b:(f.name== "runtime.NumGoroutine")=ao):vv Tryq.dA i:=⟨zW f,"",by rw[zX,a];simp[zV,h],O,b⟩
theorem xu5:V Tryz.prog.funcs=360:=Ä
def UT(f:kL):ez:=!(f.name== "runtime.NumGoroutine")
noncomputable def Hd(i:Q):ez:=match Tryz.prog.funcs[i]?with
 |none=>M
 |some fn=>UT fn&&(sD i||match fn.body with
  |none=>i==141||i==203||i==275||i==276||i==340
  |some c=>i==220||q9 az M c)
def xsg:(iC 360).all Hd=M:=Ä
def OK(h:i<360):Hd i=M:=GM.1 xsg i<|List.mem_range.2 h
def OQ(h:Tryz.prog.funcs[i]?=Y f):i<360:=by grind [xu5]
theorem Hm(h:Tryz.prog.funcs[i]?=Y f):(f.name== "runtime.NumGoroutine")=ao:=by let:=OK<|OQ h;unfold Hd at this;grind [UT]
theorem UQ{c}(h:Tryz.prog.funcs[i]?=Y f)(a:sD i=ao)(d:i≠220)(b:f.body=Y c):q9 az M c=M:=zcp
def xt4(h:Tryz.prog.funcs[i]?=Y f)(a:sD i=ao)(b:f.body=R):i=141\/i=203\/i=275\/i=276\/i=340:=zcp
def US(h:Tryq.dA[i]?=Y fn):∃f,Tryz.prog.funcs[i]?=Y f/\((sD i=M/\fn=zW f)\/(sD i=ao/\fn=f)):=by rw[zX]at h;grind [zV]
theorem UU(h:Tryq.dA[i]?=Y fn)(a:fn.body.isNone=M):(i=141/\fn=Tryz.f141)\/(i=203/\fn=Tryz.f203)\/(i=275/\fn=Tryz.f275)\/(i=276/\fn=Tryz.f276)\/(i=340/\fn=Tryz.f340):=by
 obtain⟨f,c,⟨_,rfl⟩|⟨b,rfl⟩⟩:=US h;simp[zW]at a;let d:fn.body=R:=by simpa using a
 obtain rfl|rfl|rfl|rfl|rfl:=xt4 c b d<;>simp_all
def x71:oH Tryz.f141=Y Extern.MapsClone.clone:=Ä
def Hg:oH Tryz.f203=Y pO:=Ä
def jfe:oH Tryz.f276=Y (li Tryz.f276.params Tryz.f276.resultTypes):=Ä
def Hh:oH Tryz.f340=Y (pP λt=>do pA "Comparable" t;iu (bG (<-typeInfo t).comparable)):=Ä
def UO:oH Tryz.f275=Y Extern.AbiNoEscape.same:=Ä
theorem n71:kV Tryz.f141=R:=Ä
theorem He:kV Tryz.f203=R:=Ä
theorem UN:kV Tryz.f275=R:=Ä
theorem je4:kV Tryz.f276=R:=Ä
theorem Hf:kV Tryz.f340=R:=Ä
end
section
open Tryq Go.Conc
section
variable(P:cI)(F:bE kL)(t:oW)(w:dN)
theorem ON:(typeInfo t).run (wf P F) w=(typeInfo t).run P w:=by unfold typeInfo;simp[go_sem,DH];cases P.info? t<;>simp[go_sem]
theorem xe4:(sizeOf t).run (wf P F) w=(sizeOf t).run P w:=by unfold sizeOf;simp[go_sem,ON]
theorem UY:(fj t).run (wf P F) w=(fj t).run P w:=by unfold fj;simp[go_sem,Yj];cases P.underlying t<;>simp[go_sem]
theorem xlb:(isAgg t).run (wf P F) w=(isAgg t).run P w:=by
 unfold isAgg;simp[go_sem,UY];cases(fj t).run P w with
 |ok d w'=>cases d<;>simp[go_sem]
 |halt h w'=>exact Ü
theorem xq3:(zeroValue t).run (wf P F) w=(zeroValue t).run P w:=by
 unfold zeroValue;simp[go_sem,ON];cases(typeInfo t).run P w with
 |ok d w'=>cases h:d.zero<;>simp[go_sem,h]
 |halt h w'=>exact Ü
end
@[simp]def Tryq.Fu:prog.toTables=Tryz.prog.toTables:=zxc
@[simp]def Tryq.eZ(t:Zt):prog.underlying t=Tryz.prog.underlying t:=by grind [prog,Yj]
@[simp]def Tryq.D1(t:Zt)(w):(typeInfo t).run prog w=(typeInfo t).run az w:=by grind [prog,ON]
@[simp]def Tryq.yn(t:Zt)(w):(sizeOf t).run prog w=(sizeOf t).run az w:=by grind [prog,xe4]
@[simp]def Tryq.DZ(t:Zt)(w):(fj t).run prog w=(fj t).run az w:=by grind [prog,UY]
@[simp]def Tryq.AN(t:Zt)(w):(isAgg t).run prog w=(isAgg t).run az w:=by grind [prog,xlb]
@[simp]def Tryq.D3(t:Zt)(w):(zeroValue t).run prog w=(zeroValue t).run az w:=by grind [prog,xq3]
@[simp]def Tryq.OJ(t:Zt):prog.stoodInHeld t=Tryz.prog.stoodInHeld t:=by grind [prog,AF]
@[simp]def Tryq.KU(t:Zt):prog.eqGuardType prog.depth t=Tryz.prog.eqGuardType Tryz.prog.depth t:=by grind [prog,Vx,Ff]
def qf(a:Tryz.prog.funcs[i]?=Y f)(h:sD i=ao:=by exact rfl):prog.funcs[i]?=Y f:=Hi h a
def qc(a:Tryz.prog.funcs[i]?=Y f)(h:(sD i||f.name== "runtime.NumGoroutine" ||f.body.isNone)=ao:=by exact rfl)(args:Za)(w:Zy):(callFunc i args).run prog w=dG (nN i args) w:=by grind [jck]
def qd(a:Tryz.prog.funcs[i]?=Y f)(g:sD i=ao:=by exact rfl)(h:(sD i||f.name== "runtime.NumGoroutine" ||f.body.isNone)=ao:=by exact rfl):prog.funcs[i]?=Y f/\∀(A:Za) (w:Zy),(callFunc i A).run prog w=dG (nN i A) w:=⟨qf a g,qc a h⟩
namespace Tryq
@[simp]def func4:=qd Tryz.func4
@[simp]def func5:=qd Tryz.func5
@[simp]def func6:=qd Tryz.func6
@[simp]def func7:=qd Tryz.func7
@[simp]def func8:=qd Tryz.func8
@[simp]def func9:=qd Tryz.func9
@[simp]def func10:=qd Tryz.func10
@[simp]def func29:=qd Tryz.func29
@[simp]def func11:=qd Tryz.func11
@[simp]def func16:=qd Tryz.func16
@[simp]def func18:=qd Tryz.func18
@[simp]def func15:=qd Tryz.func15
@[simp]def func24:=qd Tryz.func24
@[simp]def func98:=qd Tryz.func98
@[simp]def func25:=qd Tryz.func25
@[simp]def func26:=qd Tryz.func26
@[simp]def func23:=qd Tryz.func23
@[simp]def func27:=qd Tryz.func27
@[simp]def func14:=qd Tryz.func14
@[simp]def func41:=qd Tryz.func41
@[simp]def func13:=qd Tryz.func13
@[simp]def func12:=qd Tryz.func12
@[simp]def func17:=qd Tryz.func17
@[simp]def func30:=qd Tryz.func30
@[simp]def func32:=qd Tryz.func32
@[simp]def func34:=qd Tryz.func34
@[simp]def func35:=qd Tryz.func35
@[simp]def func36:=qd Tryz.func36
@[simp]def func21:=qd Tryz.func21
@[simp]def func39:=qd pN
@[simp]def func50:=qd Tryz.func50
@[simp]def func40:=qd Tryz.func40
@[simp]def func46:=qd Tryz.func46
@[simp]def func47:=qd Tryz.func47
@[simp]def func48:=qd Tryz.func48
@[simp]def func45:=qd Tryz.func45
@[simp]def func20:=qd Tryz.func20
@[simp]def func49:=qd Tryz.func49
@[simp]def func83:=qd Tryz.func83
@[simp]def func84:=qd Tryz.func84
@[simp]def func85:=qd Tryz.func85
@[simp]def func86:=qd Tryz.func86
@[simp]def func37:=qd Tryz.func37
@[simp]def func38:=qd Tryz.func38
@[simp]def func64:=qd Tryz.func64
@[simp]def func65:=qd Tryz.func65
@[simp]def func66:=qd Tryz.func66
@[simp]def func33:=qd Tryz.func33
@[simp]def func67:=qd Tryz.func67
@[simp]def func68:=qd Tryz.func68
@[simp]def func70:=qd Tryz.func70
@[simp]def func71:=qd Tryz.func71
@[simp]def func72:=qd Tryz.func72
@[simp]def func73:=qd Tryz.func73
@[simp]def func74:=qd Tryz.func74
@[simp]def func43:=qd Tryz.func43
@[simp]def func44:=qd Tryz.func44
@[simp]def func19:=qd Tryz.func19
@[simp]def func79:=qd Tryz.func79
@[simp]def func80:=qd Tryz.func80
@[simp]def func100:=qd Tryz.func100
@[simp]def func101:=qd Tryz.func101
@[simp]def func81:=qd Tryz.func81
@[simp]def func82:=qd Tryz.func82
@[simp]def func99:=qd Tryz.func99
@[simp]def func42:=qd Tryz.func42
@[simp]def func141:=qf Tryz.func141
@[simp]def func142:=qd Tryz.func142
@[simp]def func143:=qd Tryz.func143
@[simp]def func144:=qd Tryz.func144
@[simp]def func75:=qd Tryz.func75
@[simp]def func76:=qd Tryz.func76
@[simp]def func77:=qd Tryz.func77
@[simp]def func78:=qd Tryz.func78
@[simp]def func117:=qd Tryz.func117
@[simp]def func63:=qd Tryz.func63
@[simp]def func118:=qd Tryz.func118
@[simp]def func119:=qd Tryz.func119
@[simp]def func120:=qd Tryz.func120
@[simp]def func121:=qd Tryz.func121
@[simp]def func69:=qd Tryz.func69
@[simp]def func122:=qd Tryz.func122
@[simp]def func123:=qd Tryz.func123
@[simp]def func124:=qd Tryz.func124
@[simp]def func125:=qd Tryz.func125
@[simp]def func126:=qd Tryz.func126
@[simp]def func127:=qd Tryz.func127
@[simp]def func128:=qd Tryz.func128
@[simp]def func129:=qd Tryz.func129
@[simp]def func130:=qd Tryz.func130
@[simp]def func133:=qd Tryz.func133
@[simp]def func160:=qd Tryz.func160
@[simp]def func89:=qd Tryz.func89
@[simp]def func161:=qd Tryz.func161
@[simp]def func153:=qd Tryz.func153
@[simp]def func154:=qd Tryz.func154
@[simp]def func145:=qd Tryz.func145
@[simp]def func147:=qd Tryz.func147
@[simp]def func90:=qd Tryz.func90
@[simp]def func134:=qd Tryz.func134
@[simp]def func135:=qd Tryz.func135
@[simp]def func137:=qd Tryz.func137
@[simp]def func138:=qd Tryz.func138
@[simp]def func139:=qd Tryz.func139
@[simp]def func140:=qd Tryz.func140
@[simp]def func87:=qd Tryz.func87
@[simp]def func88:=qd Tryz.func88
@[simp]def func91:=qd Tryz.func91
@[simp]def func92:=qd Tryz.func92
@[simp]def func93:=qd Tryz.func93
@[simp]def func94:=qd Tryz.func94
@[simp]def func57:=qd Tryz.func57
@[simp]def func95:=qd Tryz.func95
@[simp]def func96:=qd Tryz.func96
@[simp]def func97:=qd Tryz.func97
@[simp]def func217:=qd Tryz.func217
@[simp]def func218:=qd Tryz.func218
@[simp]def func219:=qd Tryz.func219
@[simp]def func131:=qd Tryz.func131
@[simp]def func132:=qd Tryz.func132
@[simp]def func166:=qd Tryz.func166
@[simp]def func181:=qd Tryz.func181
@[simp]def func182:=qd Tryz.func182
@[simp]def func183:=qd Tryz.func183
@[simp]def func184:=qd Tryz.func184
@[simp]def func185:=qd Tryz.func185
@[simp]def func186:=qd Tryz.func186
@[simp]def func187:=qd Tryz.func187
@[simp]def func188:=qd Tryz.func188
@[simp]def func189:=qd Tryz.func189
@[simp]def func190:=qd Tryz.func190
@[simp]def func191:=qd Tryz.func191
@[simp]def func192:=qd Tryz.func192
@[simp]def func193:=qd Tryz.func193
@[simp]def func167:=qd Tryz.func167
@[simp]def func109:=qd Tryz.func109
@[simp]def func105:=qd Tryz.func105
@[simp]def func194:=qd Tryz.func194
@[simp]def func195:=qd Tryz.func195
@[simp]def func196:=qd Tryz.func196
@[simp]def func197:=qd Tryz.func197
@[simp]def func156:=qd Tryz.func156
@[simp]def func198:=qd Tryz.func198
@[simp]def func199:=qd Tryz.func199
@[simp]def func203:=qf Tryz.func203
@[simp]def func204:=qd Tryz.func204
@[simp]def func222:=qd Tryz.func222
@[simp]def func148:=qd Tryz.func148
@[simp]def func157:=qd Tryz.func157
@[simp]def func158:=qd Tryz.func158
@[simp]def func150:=qd Tryz.func150
@[simp]def func159:=qd Tryz.func159
@[simp]def func215:=qd Tryz.func215
@[simp]def func216:=qd Tryz.func216
@[simp]def func55:=qd Tryz.func55
@[simp]def func205:=qd Tryz.func205
@[simp]def func206:=qd Tryz.func206
@[simp]def func152:=qd Tryz.func152
@[simp]def func207:=qd Tryz.func207
@[simp]def func208:=qd Tryz.func208
@[simp]def func211:=qd Tryz.func211
@[simp]def func212:=qd Tryz.func212
@[simp]def func214:=qd Tryz.func214
@[simp]def func146:=qd Tryz.func146
@[simp]def func149:=qd Tryz.func149
@[simp]def func151:=qd Tryz.func151
@[simp]def func108:=qd Tryz.func108
@[simp]def func155:=qd Tryz.func155
@[simp]def func264:=qd Tryz.func264
@[simp]def func265:=qd Tryz.func265
@[simp]def func266:=qd Tryz.func266
@[simp]def func267:=qd Tryz.func267
@[simp]def func268:=qd Tryz.func268
@[simp]def func269:=qd Tryz.func269
@[simp]def func270:=qd Tryz.func270
@[simp]def func271:=qd Tryz.func271
@[simp]def func272:=qd Tryz.func272
@[simp]def func273:=qd Tryz.func273
@[simp]def func274:=qd Tryz.func274
@[simp]def func200:=qd Tryz.func200
@[simp]def func201:=qd Tryz.func201
@[simp]def func202:=qd Tryz.func202
@[simp]def func230:=qd Tryz.func230
@[simp]def func231:=qd Tryz.func231
@[simp]def func232:=qd Tryz.func232
@[simp]def func233:=qd Tryz.func233
@[simp]def func234:=qd Tryz.func234
@[simp]def func116:=qd Tryz.func116
@[simp]def func235:=qd Tryz.func235
@[simp]def func103:=qd Tryz.func103
@[simp]def func170:=qd Tryz.func170
@[simp]def func107:=qd Tryz.func107
@[simp]def func236:=qd Tryz.func236
@[simp]def func237:=qd Tryz.func237
@[simp]def func238:=qd Tryz.func238
@[simp]def func221:=qd Tryz.func221
@[simp]def func61:=qd Tryz.func61
@[simp]def func53:=qd Tryz.func53
@[simp]def func263:=qd Tryz.func263
@[simp]def func106:=qd Tryz.func106
@[simp]def func104:=qd Tryz.func104
@[simp]def func241:=qd Tryz.func241
@[simp]def func243:=qd Tryz.func243
@[simp]def func247:=qd Tryz.func247
@[simp]def func255:=qd Tryz.func255
@[simp]def func256:=qd Tryz.func256
@[simp]def func258:=qd Tryz.func258
@[simp]def func260:=qd Tryz.func260
@[simp]def func261:=qd Tryz.func261
@[simp]def func262:=qd Tryz.func262
@[simp]def func102:=qd Tryz.func102
@[simp]def func171:=qd Tryz.func171
@[simp]def func303:=qd Tryz.func303
@[simp]def func304:=qd Tryz.func304
@[simp]def func305:=qd Tryz.func305
@[simp]def func306:=qd Tryz.func306
@[simp]def func307:=qd Tryz.func307
@[simp]def func308:=qd Tryz.func308
@[simp]def func239:=qd Tryz.func239
@[simp]def func240:=qd Tryz.func240
@[simp]def func282:=qd Tryz.func282
@[simp]def func284:=qd Tryz.func284
@[simp]def func285:=qd Tryz.func285
@[simp]def func112:=qd Tryz.func112
@[simp]def func114:=qd Tryz.func114
@[simp]def func113:=qd Tryz.func113
@[simp]def func168:=qd Tryz.func168
@[simp]def func276:=qf Tryz.func276
@[simp]def func115:=qd Tryz.func115
@[simp]def func169:=qd Tryz.func169
@[simp]def func295:=qd Tryz.func295
@[simp]def func301:=qd Tryz.func301
@[simp]def func302:=qd Tryz.func302
@[simp]def func162:=qd Tryz.func162
@[simp]def func163:=qd Tryz.func163
@[simp]def func164:=qd Tryz.func164
@[simp]def func165:=qd Tryz.func165
@[simp]def func317:=qd Tryz.func317
@[simp]def func286:=qd Tryz.func286
@[simp]def func287:=qd Tryz.func287
@[simp]def func288:=qd Tryz.func288
@[simp]def func289:=qd Tryz.func289
@[simp]def func290:=qd Tryz.func290
@[simp]def func291:=qd Tryz.func291
@[simp]def func292:=qd Tryz.func292
@[simp]def func293:=qd Tryz.func293
@[simp]def func294:=qd Tryz.func294
@[simp]def func310:=qd Tryz.func310
@[simp]def func178:=qd Tryz.func178
@[simp]def func179:=qd Tryz.func179
@[simp]def func226:=qd Tryz.func226
@[simp]def func227:=qd Tryz.func227
@[simp]def func110:=qd Tryz.func110
@[simp]def func111:=qd Tryz.func111
@[simp]def func180:=qd Tryz.func180
@[simp]def func315:=qd Tryz.func315
@[simp]def func316:=qd Tryz.func316
@[simp]def func223:=qd Tryz.func223
@[simp]def func224:=qd Tryz.func224
@[simp]def func225:=qd Tryz.func225
@[simp]def func311:=qd Tryz.func311
@[simp]def func312:=qd Tryz.func312
@[simp]def func313:=qd Tryz.func313
@[simp]def func314:=qd Tryz.func314
@[simp]def func172:=qd Tryz.func172
@[simp]def func173:=qd Tryz.func173
@[simp]def func174:=qd Tryz.func174
@[simp]def func175:=qd Tryz.func175
@[simp]def func176:=qd Tryz.func176
@[simp]def func177:=qd Tryz.func177
@[simp]def func277:=qd Tryz.func277
@[simp]def func278:=qd Tryz.func278
@[simp]def func279:=qd Tryz.func279
@[simp]def func280:=qd Tryz.func280
@[simp]def func281:=qd Tryz.func281
@[simp]def func318:=qd Tryz.func318
@[simp]def func228:=qd Tryz.func228
@[simp]def func229:=qd Tryz.func229
def ntmps309:=Tryz.ntmps309
@[simp]def func309:=qf Tryz.func309
@[simp]def jef:=qc Tryz.func309
def ntmps283:=Tryz.ntmps283
@[simp]def func283:=qf Tryz.func283
@[simp]def jeg:=qc Tryz.func283
@[simp]def func334:=qd Tryz.func334
@[simp]def func335:=qd Tryz.func335
@[simp]def func340:=qf Tryz.func340
@[simp]def func352:=qd Tryz.func352
@[simp]def func359:=qd Tryz.func359
end Tryq
end
section
open Tryq
def Tryq.fR:prog.underlying 3=Y (.int bB):=(eZ 3).trans is
def Tryq.eY:prog.underlying 5=Y (.int .u8):=(eZ 5).trans Tryz.underlying5
def Tryq.dK:prog.underlying 9=Y oC:=(eZ 9).trans qv
def Tryq.gq:prog.underlying 51=Y (.slice 9):=(eZ 51).trans Tryz.underlying51
def Tryq.cT:prog.underlying 100=Y (.slice 5):=(eZ 100).trans Tryz.underlying100
def Tryq.lA:prog.underlying 188=Y (.array 256 3):=(eZ 188).trans Tryz.underlying188
def Tryq.lB:prog.underlying 191=Y (.array 176 3):=(eZ 191).trans Tryz.underlying191
def Tryq.jR:prog.underlying 236=Y (.array 64 232):=(eZ 236).trans Tryz.underlying236
def Tryq.ey:prog.underlying 184=Y (.array 16 5):=(eZ 184).trans Tryz.underlying184
def Tryq.nA:prog.underlying 242=Y (.array 256 5):=(eZ 242).trans Tryz.underlying242
end
end A
namespace P
variable{C:Za}{w:Zy}{W:Q->Z3}{y g n:Q}
section
open Go
def xe{p}(h:p):H p:=h
def u(x:Z3):U:=(x.toNat:U)
@[go_sem] abbrev aw(x:BitVec 32):eJ:=aD cJ (u x)
def jdu(x):u x=(x.toNat:U):=O
def Ho(x):0<=u x:=by simp[u]
def Hn(x):u x<4294967296:=by simp[u];omega
def D9(x):dM 32 (u x)=x:=by simp[u]
def Fy(n)(a:0<=n)(h:n<4294967296):IntKind.u32.wrap n=n:=by grind [fS,fT,fi]
def Cs(a b):lr .xor cJ (u a) (u b)=u (a^^^b):=by show IntKind.u32.wrap ((dM 32 (u a)^^^dM 32 (u b)).toNat:U)=_;rw[D9,D9];exact Fy _ (Ho _)<|Hn _
def FD(a b):lr .and cJ (u a) (u b)=u (a&&&b):=by show IntKind.u32.wrap ((dM 32 (u a)&&&dM 32 (u b)).toNat:U)=_;rw[D9,D9];exact Fy _ (Ho _)<|Hn _
def ux(a b):lr .or cJ (u a) (u b)=u (a|||b):=by show IntKind.u32.wrap ((dM 32 (u a)|||BitVec.ofInt 32 (u b)).toNat:U)=_;rw[D9,D9];exact Fy _ (Ho _)<|Hn _
def FC(a b):IntKind.u32.wrap (u a+u b)=u (a+b):=by grind [fS,fT,fi,u]
def FE(a):lr .xor cJ IntKind.u32.max (u a)=u (~~~ a):=by show IntKind.u32.wrap ((dM 32 4294967295^^^dM 32 (u a)).toNat:U)=_;rw[D9,show dM 32 4294967295=BitVec.allOnes 32 from Ã,BitVec.allOnes_xor];exact Fy _ (Ho _)<|Hn _
def wC(a n k)(hk:k=((2^n:Q):U)):IntKind.u32.wrap (u a*k)=u (a<<<n):=by grind [fS,fT,fi,u,Nat.shiftLeft_eq]
def uN(a n k)(hk:k=((2^n:Q):U)):u a/k=u (a>>>n):=by grind [u,Nat.shiftRight_eq_div_pow]
def VL(a):u a/(4:U)=u (a>>>2):=uN a 2 _ O
def VM(a):u a/(8:U)=u (a>>>3):=uN a 3 _ O
def VN(a):u a/(64:U)=u (a>>>6):=uN a 6 _ O
def VK(a):IntKind.u32.wrap (u a*(128:U))=u (a<<<7):=wC a 7 _ O
def VO(a):u a/(128:U)=u (a>>>7):=uN a 7 _ O
def xz1(a):IntKind.u32.wrap (u a*(256:U))=u (a<<<8):=wC a 8 _ O
def xz2(a):u a/(256:U)=u (a>>>8):=uN a 8 _ O
def UZ(a):IntKind.u32.wrap (u a*(1024:U))=u (a<<<10):=wC a 10 _ O
def U8(a):u a/(1024:U)=u (a>>>10):=uN a 10 _ O
def U9(a):u a/(2048:U)=u (a>>>11):=uN a 11 _ O
def U0(a):IntKind.u32.wrap (u a*(8192:U))=u (a<<<13):=wC a 13 _ O
def U'(a):u a/(8192:U)=u (a>>>13):=uN a 13 _ O
def U1(a):IntKind.u32.wrap (u a*(16384:U))=u (a<<<14):=wC a 14 _ O
def U2(a):IntKind.u32.wrap (u a*(32768:U))=u (a<<<15):=wC a 15 _ O
def xvm(a):IntKind.u32.wrap (u a*(65536:U))=u (a<<<16):=wC a 16 _ O
def xvo(a):u a/(65536:U)=u (a>>>16):=uN a 16 _ O
def VB(a):u a/(131072:U)=u (a>>>17):=uN a 17 _ O
def VD(a):u a/(262144:U)=u (a>>>18):=uN a 18 _ O
def U3(a):IntKind.u32.wrap (u a*(524288:U))=u (a<<<19):=wC a 19 _ O
def VE(a):u a/(524288:U)=u (a>>>19):=uN a 19 _ O
def U4(a):IntKind.u32.wrap (u a*(2097152:U))=u (a<<<21):=wC a 21 _ O
def VF(a):u a/(4194304:U)=u (a>>>22):=uN a 22 _ O
def xvn(a):IntKind.u32.wrap (u a*(16777216:U))=u (a<<<24):=wC a 24 _ O
def xvp(a):u a/(16777216:U)=u (a>>>24):=uN a 24 _ O
def U5(a):IntKind.u32.wrap (u a*(33554432:U))=u (a<<<25):=wC a 25 _ O
def VG(a):u a/(33554432:U)=u (a>>>25):=uN a 25 _ O
def U6(a):IntKind.u32.wrap (u a*(67108864:U))=u (a<<<26):=wC a 26 _ O
def U7(a):IntKind.u32.wrap (u a*(1073741824:U))=u (a<<<30):=wC a 30 _ O
def rr(x:Z3)(n:Q):Z3:=x>>>n|||x<<<(32-n)
def jc9(x:Z3):x<<<30|||x>>>2=rr x 2:=Yd ..
def jau:lr .and .u64 (IntKind.u64.wrap<|-2) 31=30:=Ê
def xzm(x:Z3):x<<<19|||x>>>13=rr x 13:=Yd ..
def xxf:lr .and .u64 (IntKind.u64.wrap<|-13) 31=19:=Ê
def xzq(x:Z3):x<<<10|||x>>>22=rr x 22:=Yd ..
def xxj:lr .and .u64 (IntKind.u64.wrap<|-22) 31=10:=Ê
def jda(x:Z3):x<<<26|||x>>>6=rr x 6:=Yd ..
def jav:lr .and .u64 (IntKind.u64.wrap<|-6) 31=26:=Ê
def xzl(x:Z3):x<<<21|||x>>>11=rr x 11:=Yd ..
def xxe:lr .and .u64 (IntKind.u64.wrap<|-11) 31=21:=Ê
def xzr(x:Z3):x<<<7|||x>>>25=rr x 25:=Yd ..
def xxk:lr .and .u64 (IntKind.u64.wrap<|-25) 31=7:=Ê
def jdb(x:Z3):x<<<25|||x>>>7=rr x 7:=Yd ..
def jaw:lr .and .u64 (IntKind.u64.wrap<|-7) 31=25:=Ê
def xzo(x:Z3):x<<<14|||x>>>18=rr x 18:=Yd ..
def xxh:lr .and .u64 (IntKind.u64.wrap<|-18) 31=14:=Ê
def xzn(x:Z3):x<<<15|||x>>>17=rr x 17:=Yd ..
def xxg:lr .and .u64 (IntKind.u64.wrap<|-17) 31=15:=Ê
def xzp(x:Z3):x<<<13|||x>>>19=rr x 19:=Yd ..
def xxi:lr .and .u64 (IntKind.u64.wrap<|-19) 31=13:=Ê
def ch(x y z:Z3):Z3:=(x&&&y)^^^(~~~ x&&&z)
def OT(x y z:Z3):Z3:=(x&&&y)^^^(x&&&z)^^^(y&&&z)
def OR(x:Z3):Z3:=rr x 2^^^rr x 13^^^rr x 22
def OS(x:Z3):Z3:=rr x 6^^^rr x 11^^^rr x 25
def Fv(x:Z3):Z3:=rr x 7^^^rr x 18^^^x>>>3
def Fw(x:Z3):Z3:=rr x 17^^^rr x 19^^^x>>>10
structure St where
 a:Z3
 b:Z3
 c:Z3
 d:Z3
 e:Z3
 f:Z3
 g:Z3
 h:Z3
def T1(e f g h k:Z3):Z3:=h+OS e+ch e f g+k
def T2(a b c:Z3):Z3:=OR a+OT a b c
def VP(s:St)(k:Z3):St:=⟨T1 s.e s.f s.g s.h k+T2 s.a s.b s.c,s.a,s.b,s.c,s.d+T1 s.e s.f s.g s.h k,s.e,s.f,s.g⟩
def Kt:bA Z3:=[1116352408,1899447441,3049323471,3921009573,961987163,1508970993,2453635748,2870763221,3624381080,310598401,607225278,1426881987,1925078388,2162078206,2614888103,3248222580,3835390401,4022224774,264347078,604807628,770255983,1249150122,1555081692,1996064986,2554220882,2821834349,2952996808,3210313671,3336571891,3584528711,113926993,338241895,666307205,773529912,1294757372,1396182291,1695183700,1986661051,2177026350,2456956037,2730485921,2820302411,3259730800,3345764771,3516065817,3600352804,4094571909,275423344,430227734,506948616,659060556,883997877,958139571,1322822218,1537002063,1747873779,1955562222,2024104815,2227730452,2361852424,2428436474,2756734187,3204031479,3329325298]
def Kc(i:Q):Z3:=Kt.getD i 0
def hY(s:St)(W:Q->Z3):Q->St
 |0=>s|n+1=>VP (hY s W n)<|Kc n+W n
def AQ(s t:St):St:=⟨s.a+t.a,s.b+t.b,s.c+t.c,s.d+t.d,s.e+t.e,s.f+t.f,s.g+t.g,s.h+t.h⟩
def Jb(s:St)(W:Q->Z3):St:=AQ (hY s W 64) s
end
section
open A.Tryq Go.RowKit
abbrev aq(f a w x):=aK prog f a w λe w'=>e=ai x/\aP (V<|Z w) w w'
abbrev aG(f a w x):=aK prog f a w λe w'=>e=ai x/\w'=w
abbrev zo(f a w x):=aK prog f a w λe w'=>e=ai x/\∃m,w'=w.drewN m
attribute[local go_sem] Cs FD ux FC FE
attribute[local go_sem] U7 jau U3 xxf UZ xxj U6 jav U4 xxe VK xxk U5 jaw U1 xxh U2 xxg U0 xxi
def xcw(x y z w):aG 278 #[aw x,aw y,aw z] w (aw<|ch x y z):=by
 go_enter func278.1,Tryz.ntmps278;go_wp2;all_goals go_ret
 all_goals exact⟨O,O⟩
def xtr(x y z w):aG 280 #[aw x,aw y,aw z] w (aw<|OT x y z):=by
 go_enter func280.1,Tryz.ntmps280;go_wp2;all_goals go_ret
 all_goals exact⟨O,O⟩
def zY(x w):∀q∈[((2:U),2),((13:U),13),((22:U),22),((6:U),6),((11:U),11),((25:U),25),((7:U),7),((18:U),18),((17:U),17),((19:U),19)],aG 281 #[aw x,J q.1] w (aw<|rr x q.2):=by
 intro q a;simp only[jc,Ky,or_false]at a;obtain rfl|rfl|rfl|rfl|rfl|rfl|rfl|rfl|rfl|rfl:=a;all_goals
  go_enter func281.1,Tryz.ntmps281;go_wp2;all_goals go_ret
  all_goals refine⟨?_,O⟩
 show ai (zu<|bits .or cJ (u<|x<<<30)<|u x/4)=_;rw[VL,ux,jc9];show ai (zu<|bits .or cJ (u<|x<<<19)<|u x/8192)=_;rw[U',ux,xzm];show ai (zu<|bits .or cJ (u<|x<<<10)<|u x/4194304)=_;rw[VF,ux,xzq];show ai (zu<|bits .or cJ (u<|x<<<26)<|u x/64)=_;rw[VN,ux,jda];show ai (zu<|bits .or cJ (u<|x<<<21)<|u x/2048)=_;rw[U9,ux,xzl];show ai (zu<|bits .or cJ (u<|x<<<7)<|u x/33554432)=_;rw[VG,ux,xzr];show ai (zu<|bits .or cJ (u<|x<<<25)<|u x/128)=_;rw[VO,ux,jdb];show ai (zu<|bits .or cJ (u<|x<<<14)<|u x/262144)=_;rw[VD,ux,xzo];show ai (zu<|bits .or cJ (u<|x<<<15)<|u x/131072)=_;rw[VB,ux,xzn];show ai (zu<|bits .or cJ (u<|x<<<13)<|u x/524288)=_;rw[VE,ux,xzp]
def xrz(x w):aG 279 #[aw x] w (aw<|OR x):=by
 go_enter func279.1,Tryz.ntmps279;go_wp2;apply(zY x _ (2,2) Â).mono;rintro e z⟨rfl,rfl⟩;go_wp2;apply(zY x _ (13,13) Â).mono;rintro e z⟨rfl,rfl⟩;go_wp2;apply(zY x _ (22,22) Â).mono;rintro e z⟨rfl,rfl⟩;go_wp2;all_goals go_ret
 all_goals exact⟨O,O⟩
def xr0(x w):aG 277 #[aw x] w (aw<|OS x):=by
 go_enter func277.1,Tryz.ntmps277;go_wp2;apply(zY x _ (6,6) Â).mono;rintro e z⟨rfl,rfl⟩;go_wp2;apply(zY x _ (11,11) Â).mono;rintro e z⟨rfl,rfl⟩;go_wp2;apply(zY x _ (25,25) Â).mono;rintro e z⟨rfl,rfl⟩;go_wp2;all_goals go_ret
 all_goals exact⟨O,O⟩
def xu1(x w):aG 224 #[aw x] w (aw<|Fv x):=by
 go_enter func224.1,Tryz.ntmps224;go_wp2;apply(zY x _ (7,7) Â).mono;rintro e z⟨rfl,rfl⟩;go_wp2;apply(zY x _ (18,18) Â).mono;rintro e z⟨rfl,rfl⟩;go_wp2;all_goals go_ret
 all_goals refine⟨?_,O⟩
 all_goals show ai _=_
 all_goals rw[VM,Cs]
 all_goals rfl
def xu2(x w):aG 225 #[aw x] w (aw<|Fw x):=by
 go_enter func225.1,Tryz.ntmps225;go_wp2;apply(zY x _ (17,17) Â).mono;rintro e z⟨rfl,rfl⟩;go_wp2;apply(zY x _ (19,19) Â).mono;rintro e z⟨rfl,rfl⟩;go_wp2;all_goals go_ret
 all_goals refine⟨?_,O⟩
 all_goals show ai _=_
 all_goals rw[U8,Cs]
 all_goals rfl
end
section
open A.Tryq Go.RowKit
attribute[local go_sem] Cs FD ux FC FE
def xqp(a b c d e f g h k w):aq 223 #[bY #[aw a,aw b,aw c,aw d,aw e,aw f,aw g,aw h],aw k] w (bY #[aw<|T1 e f g h k+T2 a b c,aw a,aw b,aw c,aw<|d+T1 e f g h k,aw e,aw f,aw g]):=by
 go_enter func223.1,Tryz.ntmps223;go_wp2;go_quiet (fail);go_wp2;apply(xr0 e _).mono;rintro z x⟨rfl,rfl⟩;go_wp2;apply(xcw e f g _).mono;rintro z x⟨rfl,rfl⟩;go_wp2;apply(xrz a _).mono;rintro z x⟨rfl,rfl⟩;go_wp2;apply(xtr a b c _).mono;rintro z x⟨rfl,rfl⟩;go_wp2;refine ji (v:=bY #[aw<|T1 e f g h k+T2 a b c,aw a,aw b,aw c,aw<|d+T1 e f g h k,aw e,aw f,aw g]) ?_ O ⟨O,?_⟩
 ·simp[eR,Tryz.results223,go_sem,T1,T2]
 iterate 8 refine Below.setCell ?_ Â _
 refine below_drewN ?_ _;iterate 2 refine Below.alloc ?_ Â _
 exact zt ..
def wv(W:Q->Z3):Ze:=(iC 64).map λi=>aD cJ (u<|W i)
theorem D'(W):T (wv W)=64:=by simp[wv]
theorem OZ(W i)(h:i<64):(wv W)[i]?=(aw<|W i):=by simp[wv,h]
def kX(s:St)(i:Q):Z3:=[s.a,s.b,s.c,s.d,s.e,s.f,s.g,s.h].getD i 0
theorem FB(s i)(h:i<8):(#[aw s.a,aw s.b,aw s.c,aw s.d,aw s.e,aw s.f,aw s.g,aw s.h]:Za)[i]?=(aw<|kX s i):=by
 match i,h with
 |0,_=>rfl|1,_=>rfl
 |2,_=>rfl|3,_=>rfl
 |4,_=>rfl|5,_=>rfl
 |6,_=>rfl|7,_=>rfl
 |n+8,h=>omega
def VJ{r s}(k:V C=8)(h:∀i,i<8->C[i]?=(aw<|kX r i+kX s i)):C=#[zu<|u (AQ r s).a,zu<|u (AQ r s).b,zu<|u (AQ r s).c,zu<|u (AQ r s).d,zu<|u (AQ r s).e,zu<|u (AQ r s).f,zu<|u (AQ r s).g,zu<|u (AQ r s).h]:=by
 apply Vn;intro i;by_cases j:i<8;rw[h i j,FB _ i j]
 match i,j with
 |0,_=>rfl|1,_=>rfl
 |2,_=>rfl|3,_=>rfl
 |4,_=>rfl|5,_=>rfl
 |6,_=>rfl|7,_=>rfl
 |n+8,h=>omega
 simp_all
def wy(w:Zy)(g)(t:Zt)(h c1 c2 c3 i j k l z a u b c d e f)(v:w.heap[g]?=Y (au #[h,c1,c2,c3,i,j,k,l] t (0,0))):
  (ay (ay (ay (ay (ay (ay (ay (ay w (K g 0) z) (K g 1) a) (K g 2) u) (K g 3) b) (K g 4) c) (K g 5) d) (K g 6) e) (K g 7) f).heap[g]?=Y (au #[z,a,u,b,c,d,e,f] t (0,0)):=by
 let m:=jx w g 0 _ t z v;let n:=jx _ g 1 _ t a m;let o:=jx _ g 2 _ t u n;let p:=jx _ g 3 _ t b o;let q:=jx _ g 4 _ t c p;let r:=jx _ g 5 _ t d q;let s:=jx _ g 6 _ t e r;let x:=jx _ g 7 _ t f s;simp_all
def D8(w:Zy)(g k v a z b c d e f)(hk:k≠g):(ay (ay (ay (ay (ay (ay (ay (ay w (K g 0) v) (K g 1) a) (K g 2) z) (K g 3) b) (K g 4) c) (K g 5) d) (K g 6) e) (K g 7) f).heap[k]?=w.heap[k]?:=by rw[jj _ _ _ _ ì,jj _ _ _ _ ì,jj _ _ _ _ ì,jj _ _ _ _ ì,jj _ _ _ _ ì,jj _ _ _ _ ì,jj _ _ _ _ ì,jj _ _ _ _ ì]
def Fx(B z w g v b x c d e f i)(a:B<=g)(h:aP B z w):aP B z<|ay (ay (ay (ay (ay (ay (ay (ay w (K g 0) v) (K g 1) b) (K g 2) x) (K g 3) c) (K g 4) d) (K g 5) e) (K g 6) f) (K g 7) i:=by
 iterate 8 refine Below.setCell ?_ a _
 exact h
def O9(w:Zy)(g v a z b c d e f):V (ay (ay (ay (ay (ay (ay (ay (ay w (K g 0) v) (K g 1) a) (K g 2) z) (K g 3) b) (K g 4) c) (K g 5) d) (K g 6) e) (K g 7) f).heap=V (Z w):=Â
def KX{r}{t:Zt}{A a b c d e f g}(h:w.heap[r]?=Y (au #[A,a,b,c,d,e,f,g] t (0,0))):N w (K r 0)=Y A/\N w (K r 1)=Y a/\N w (K r 2)=Y b/\N w (K r 3)=Y c/\N w (K r 4)=Y d/\N w (K r 5)=Y e/\N w (K r 6)=Y f/\N w (K r 7)=Y g/\∀i,aX w (K r i)=ao:=by refine⟨?_,?_,?_,?_,?_,?_,?_,?_,λi=>xt _ _ _ _ _ h⟩<;>rw[xb _ _ _ _ _ _ h]<;>rfl
structure AP(s:St)(W:Q->Z3)(w:Zy)(C:Za)(z:Zy):Prop where
 fH:aP (V<|Z w) w z
 sz:V (Z w)+1+1+1<V (Z z)
 b0:z.heap[V (Z w)]?=Y (au #[aw s.a,aw s.b,aw s.c,aw s.d,aw s.e,aw s.f,aw s.g,aw s.h] 233 (0,0))
 b1:z.heap[V (Z w)+1]?=Y (au (bH (wv W)) 236 (0,0))
 b2:z.heap[V (Z w)+1+1]?=Y (au #[zu 0,zu 0,zu 0,zu 0,zu 0,zu 0,zu 0,zu 0] 233 (0,0))
 b3:z.heap[V (Z w)+1+1+1]?=Y (au C 233 (0,0))
def AP.O2{s b w1 A i j k l m n o v c z d e f g h}(I:AP s W w #[A,i,j,k,l,m,n,o] b)(a:aP (V<|Z b) b.drew w1):AP s W w #[v,c,z,d,e,f,g,h]<|ay (ay (ay (ay (ay (ay (ay (ay w1 (K (V (Z w)+1+1+1) 0) v) (K (V (Z w)+1+1+1) 1) c) (K (V (Z w)+1+1+1) 2) z) (K (V (Z w)+1+1+1) 3) d) (K (V (Z w)+1+1+1) 4) e) (K (V (Z w)+1+1+1) 5) f) (K (V (Z w)+1+1+1) 6) g) (K (V (Z w)+1+1+1) 7) h:=by let p:=I.sz;refine⟨Fx _ _ _ _ _ _ _ _ _ _ _ _ À<|(I.fH.drew).trans<|a.mono I.fH.size,by rw[O9];exact zm I.sz a.size,?_,?_,?_,wy _ _ _ _ _ _ _ _ _ _ _ _ _ _ _ _ _ _ _<|(a.block _ À).trans I.b3⟩;rw[D8 _ _ _ _ _ _ _ _ _ _ _ À];exact(a.block _ À).trans I.b0;rw[D8 _ _ _ _ _ _ _ _ _ _ _ À];exact(a.block _ À).trans I.b1;rw[D8 _ _ _ _ _ _ _ _ _ _ _ À];exact(a.block _ À).trans I.b2
def AP.gC(s W w):AP s W w #[aw s.a,aw s.b,aw s.c,aw s.d,aw s.e,aw s.f,aw s.g,aw s.h]<|aF (aF (aF (aF w<|au #[aw s.a,aw s.b,aw s.c,aw s.d,aw s.e,aw s.f,aw s.g,aw s.h] 233)<|au (bH (wv W)) 236)<|au #[zu 0,zu 0,zu 0,zu 0,zu 0,zu 0,zu 0,zu 0] 233)<|au #[aw s.a,aw s.b,aw s.c,aw s.d,aw s.e,aw s.f,aw s.g,aw s.h] 233:=by
 refine⟨?_,?_,?_,?_,?_,?_⟩;exact((((zt ..).alloc (zd _) _).alloc Â _).alloc Ç _).alloc Ç _;simp;all_goals (show((((w.heap.push _).push _).push _).push _)[_]?=_)
 all_goals (simp only[jb,Xi])
 grind;grind;grind;grind
def xet(s W w)(d:∀i,i<64->N w ⟨2,i,R⟩=(aD cJ<|u<|Kc i)):
  aq 163 #[bY #[aD cJ<|u s.a,aD cJ<|u s.b,aD cJ<|u s.c,aD cJ<|u s.d,aD cJ<|u s.e,aD cJ<|u s.f,aD cJ<|u s.g,aD cJ<|u s.h],bY (bH (wv W))] w (bY #[aD cJ<|u (Jb s W).a,aD cJ<|u (Jb s W).b,aD cJ<|u (Jb s W).c,aD cJ<|u (Jb s W).d,aD cJ<|u (Jb s W).e,aD cJ<|u (Jb s W).f,aD cJ<|u (Jb s W).g,aD cJ<|u (Jb s W).h]):=by
 have D:=js (d 0 Ã);have c:=d;go_enter func163.1,Tryz.ntmps163;go_wp2;go_loopw [9] (λi wr=>∃k:Q,k<=64/\i=aD bB k/\AP s W w #[aD cJ<|u (hY s W k).a,aD cJ<|u (hY s W k).b,aD cJ<|u (hY s W k).c,aD cJ<|u (hY s W k).d,aD cJ<|u (hY s W k).e,aD cJ<|u (hY s W k).f,aD cJ<|u (hY s W k).g,aD cJ<|u (hY s W k).h] wr) (λi _=>bL (64-dV i));exact⟨0,À,O,AP.gC s W w⟩;obtain⟨k,hk,rfl,inv⟩:=hrel;by_cases l:k<64
 ·have a:=(inv.fH.cell D).trans (c k l);have P:N wr ⟨V (Z w)+1,k,R⟩=(aD cJ<|u<|W k):=by rw[xb _ _ k _ _ _ inv.b1];simpa using OZ W k l
  obtain⟨q,r,t,v,x,y,z,B,b⟩:=KX inv.b3;go_wp2;go_still_tail 8,Ä;go_wp2;refine(xqp _ _ _ _ _ _ _ _ _ _).mono ?_;rintro en w1⟨rfl,F⟩;have f:=(F.block _<|by exact inv.sz).trans inv.b3;obtain⟨q,r,t,v,x,y,z,B,b⟩:=KX f;have I:=inv;have h:=F;go_wp2;go_roundw;exact⟨k+1,À,Å,I.O2 h⟩;exact Ð
 obtain rfl:k=64:=À
 go_wp2;go_loopw [22] (λi w2=>∃(k:Q) (C:Za),k<=8/\i=aD bB k/\AP s W w C w2/\V C=8/\∀i,i<8->C[i]?=Y (aD cJ<|u (if i<k then kX (hY s W 64) i+kX s i else kX (hY s W 64) i))) (λi _=>bL (8-dV i));exact⟨0,_,À,O,inv,O,λi G=>by grind [FB]⟩;obtain⟨k,C,hk,rfl,j,p,L⟩:=hrel;by_cases l:k<8
 ·have h1:N wr ⟨V (Z w)+1+1+1,k,R⟩=(aD cJ<|u<|kX (hY s W 64) k):=by rw[xb _ _ k _ _ _ j.b3,L k l,aL À]
  have h2:N wr ⟨V<|Z w,k,R⟩=(aD cJ<|u<|kX s k):=by rw[xb _ _ k _ _ _ j.b0,FB s k l]
  have h3:aX wr ⟨V (Z w)+1+1+1,k,R⟩=ao:=xt _ _ _ _ _ j.b3;have m:AP s W w (aA C k<|aD cJ<|u<|kX (hY s W 64) k+kX s k)<|ay wr.drew ⟨V (Z w)+1+1+1,k,R⟩<|aD cJ<|u<|kX (hY s W 64) k+kX s k:=by refine⟨(j.fH.drew).setCell Á _,by simpa[ay]using j.sz,?_,?_,?_,jx _ _ _ _ _ _ j.b3⟩;rw[jj _ _ _ _ Á];exact j.b0;rw[jj _ _ _ _ Á];exact j.b1;rw[jj _ _ _ _ Á];exact j.b2
  have n:∀i,i<8->(aA C k<|aD cJ<|u<|kX (hY s W 64) k+kX s k)[i]?=Y (aD cJ<|u (if i<k+1 then kX (hY s W 64) i+kX s i else kX (hY s W 64) i)):=by intro i G;rw[Xy];by_cases e:k=i;grind;grind
  go_wp2;go_still_tail 8,Ä;go_wp2;go_roundw;(repeat apply ng);exact⟨⟨k+1,_,À,Å,m,Á,n⟩,O⟩;exact Ý
 obtain rfl:k=8:=À
 have o:C=#[aD cJ<|u (Jb s W).a,aD cJ<|u (Jb s W).b,aD cJ<|u (Jb s W).c,aD cJ<|u (Jb s W).d,aD cJ<|u (Jb s W).e,aD cJ<|u (Jb s W).f,aD cJ<|u (Jb s W).g,aD cJ<|u (Jb s W).h]:=VJ p (λi G=>Á);subst o;obtain⟨A,S,hd,hx,ho,X,cs,g',_⟩:=KX j.b3;obtain⟨z0,z1,z2,z3,z4,z5,z6,z7,zf⟩:=KX j.b2;go_wp2;refine ji ?_ O ⟨O,?_⟩
 ·simp[eR,Tryz.results163,go_sem, *]
 exact Fx _ _ _ _ _ _ _ _ _ _ _ _ À j.fH
end
section
open A.Tryq Go.RowKit
def wu(x:Z8):Z3:=BitVec.ofNat 32 (aN x)
def jds(x):u (wu x)=(aN x:U):=by let:=x.toNat_lt;grind [u,wu]
def xz3(x):IntKind.u32.wrap (u x)=u x:=Fy _ (Ho _)<|Hn _
def D7(m:Zu)(k:Q):Z3:=wu (m<|4*k)<<<24|||wu (m<|4*k+1)<<<16|||wu (m<|4*k+2)<<<8|||wu (m<|4*k+3)
def wl(m:Zu):Q->bA Z3
 |0=>[]|n+1=>wl m n++[if n<16 then D7 m n else(wl m n).getD (n-16) 0+Fv ((wl m n).getD (n-15) 0)+(wl m n).getD (n-7) 0+Fw ((wl m n).getD (n-2) 0)]
def Wf(m:Zu)(i:Q):Z3:=(wl m<|i+1).getD i 0
theorem La(m):∀n,T (wl m n)=n
 |0=>rfl|n+1=>by simp[wl,La m n]
theorem VQ(m i):∀n,i<n->(wl m n).getD i 0=Wf m i
 |0,h=>by omega|n+1,h=>by by_cases e:i=n;subst e;rfl;have a:=La m n;rw[<-VQ m i n À];grind [wl]
theorem OX(m i)(h:i<16):Wf m i=D7 m i:=by grind [La,Wf,wl]
theorem OW(m i)(h:16<=i):Wf m i=Wf m (i-16)+Fv (Wf m<|i-15)+Wf m (i-7)+Fw (Wf m<|i-2):=by
 let a:=La m i;let e:Wf m i=(wl m i).getD (i-16) 0+Fv ((wl m i).getD (i-15) 0)+(wl m i).getD (i-7) 0+Fw ((wl m i).getD (i-2) 0):=by simp only[Wf,wl,Oh];rw[Xp À];simp[a,show¬i<16 by omega]
 grind [VQ]
attribute[local go_sem] Cs FD ux FC FE xz3 xvn xvm xz1
def yr:Za:=#[aD cJ 0,aD cJ 0,aD cJ 0,aD cJ 0,aD cJ 0,aD cJ 0,aD cJ 0,aD cJ 0,aD cJ 0,aD cJ 0,aD cJ 0,aD cJ 0,aD cJ 0,aD cJ 0,aD cJ 0,aD cJ 0,aD cJ 0,aD cJ 0,aD cJ 0,aD cJ 0,aD cJ 0,aD cJ 0,aD cJ 0,aD cJ 0,aD cJ 0,aD cJ 0,aD cJ 0,aD cJ 0,aD cJ 0,aD cJ 0,aD cJ 0,aD cJ 0,aD cJ 0,aD cJ 0,aD cJ 0,aD cJ 0,aD cJ 0,aD cJ 0,aD cJ 0,aD cJ 0,aD cJ 0,aD cJ 0,aD cJ 0,aD cJ 0,aD cJ 0,aD cJ 0,aD cJ 0,aD cJ 0,aD cJ 0,aD cJ 0,aD cJ 0,aD cJ 0,aD cJ 0,aD cJ 0,aD cJ 0,aD cJ 0,aD cJ 0,aD cJ 0,aD cJ 0,aD cJ 0,aD cJ 0,aD cJ 0,aD cJ 0,aD cJ 0]
structure J8(w:Zy)(C:Za)(z:Zy):Prop where
 fH:aP (V<|Z w) w z
 sz:V (Z w)+1<V (Z z)
 b0:z.heap[V (Z w)]?=Y (au yr 236 (0,0))
 b1:z.heap[V (Z w)+1]?=Y (au C 236 (0,0))
def J8.gC(w):J8 w yr<|aF (aF w<|au yr 236)<|au yr 236:=by
 refine⟨((zt ..).alloc (zd _) _).alloc Â _,Â,?_,?_⟩;all_goals (show((w.heap.push _).push _)[_]?=_)
 all_goals (simp only[jb,Xi])
 grind;grind
theorem J8.H{a}(h:J8 w C a)(k v):J8 w (aA C k v)<|ay a.drew (K (V (Z w)+1) k) v:=by refine⟨(h.fH.drew).setCell Á _,Ö,?_,jx _ _ _ _ _ _ h.b1⟩;rw[jj _ _ _ _ Á];exact h.b0
def K2{k}(a:V C=64)(hk:k<64)(h:∀i,i<k->C[i]?=(aw<|W i)):
  ∀i,i<k+1->(aA C k<|aw<|W k)[i]?=(aw<|W i):=by
 grind
def VH{C}(a:V C=64)(h:∀i,i<64->C[i]?=(aw<|W i)):C=bH (wv W):=by apply Vn;grind [OZ,D']
def O':V yr=64:=O
def OU:(prog.info? 236).map (·.size)=Y 64:=Ä
def OV(W):(wv W).toArray.all (·.oneCell')=M:=by refine jn.2 λv a=>?_;simp only[wv,KC,Xe]at a;obtain⟨i,_,rfl⟩:=a;rfl
def zxh(m g off cap w)(x:∀j,j<64->N w ⟨g,off+j,R⟩=(aD .u8<|u<|wu<|m j)):
  aq 164 #[aB (Y ⟨g,off,R⟩) 64 cap] w (bY (bH (wv<|Wf m))):=by
 have o:=js (x 0 Ã);have n:=x;go_enter func164.1,Tryz.ntmps164;go_wp2;go_loopw [7] (λi wr=>∃(k:Q) (C:Za),k<=16/\i=aD bB k/\J8 w C wr/\V C=64/\∀i,i<k->C[i]?=(aD cJ<|u<|Wf m i)) (λi _=>bL (16-dV i));exact⟨0,yr,À,O,J8.gC w,O,λi e=>À⟩;obtain⟨k,C,hk,rfl,inv,a,d⟩:=hrel;have t:=inv.sz;by_cases h:k<16
 ·have A:N wr ⟨g,off+bL (4*(k:U)),R⟩=(aD .u8<|u<|wu<|m<|4*k):=by rw[show(4*(k:U)).toNat=4*k by omega];exact(inv.fH.cell o).trans<|n _<|by omega
  have I:N wr ⟨g,off+bL (4*(k:U)+1),R⟩=(aD .u8<|u<|wu<|m<|4*k+1):=by rw[show(4*(k:U)+1).toNat=4*k+1 by omega];exact(inv.fH.cell o).trans<|n _ À
  have hd:N wr ⟨g,off+bL (4*(k:U)+2),R⟩=(aD .u8<|u<|wu<|m<|4*k+2):=by rw[show(4*(k:U)+2).toNat=4*k+2 by omega];exact(inv.fH.cell o).trans<|n _ À
  have h1:N wr ⟨g,off+bL (4*(k:U)+3),R⟩=(aD .u8<|u<|wu<|m<|4*k+3):=by rw[show(4*(k:U)+3).toNat=4*k+3 by omega];exact(inv.fH.cell o).trans<|n _ À
  have i0:(0:U)<=4*(k:U):=À
  have h2:4*(k:U)<64:=À
  have i1:(0:U)<=4*(k:U)+1:=À
  have hx:4*(k:U)+1<64:=À
  have i2:(0:U)<=4*(k:U)+2:=À
  have ho:4*(k:U)+2<64:=À
  have i3:(0:U)<=4*(k:U)+3:=À
  have cs:4*(k:U)+3<64:=À
  have e1:IntKind.i64.wrap (4*(k:U)+1)=4*(k:U)+1:=Í
  have P:IntKind.i64.wrap (4*(k:U)+2)=4*(k:U)+2:=Í
  have e3:IntKind.i64.wrap (4*(k:U)+3)=4*(k:U)+3:=Í
  have S:(k:U)<64:=À
  obtain⟨c,F⟩:∃c,N wr ⟨V (Z w)+1,k,R⟩=Y c:=⟨C[k]' À,xT⟩;have G:aX wr ⟨V (Z w)+1,k,R⟩=ao:=xt _ _ _ _ _ inv.b1;have f:=K2 a À d;have e:=inv.H k<|aD cJ<|u<|Wf m k;rw[OX m k h]at e f;unfold D7 at e f;go_wp2;go_still_tail 31,Ä;go_wp2;go_roundw;exact⟨k+1,_,À,Å,e,Á,f⟩;exact Ð
 obtain rfl:k=16:=À
 go_wp2;go_loopw [6] (λi w2=>∃(k:Q) (C:Za),16<=k/\k<=64/\i=aD bB k/\J8 w C w2/\V C=64/\∀i,i<k->C[i]?=(aD cJ<|u<|Wf m i)) (λi _=>bL (64-dV i));exact⟨16,C,À,À,O,inv,a,d⟩;obtain⟨k,C,s,hk,rfl,inv,a,d⟩:=hrel;have t:=inv.sz;by_cases h:k<64
 ·have S:(k:U)<64:=À;have D:IntKind.i64.wrap ((k:U)-16)=(k:U)-16:=Í
  have g':(16:U)<=(k:U):=À
  have v':(k:U)<80:=À
  have W:(k:U)-16<64:=À
  have z:N wr ⟨V (Z w)+1,bL ((k:U)-16),R⟩=(aD cJ<|u<|Wf m<|k-16):=by rw[show((k:U)-16).toNat=k-16 by omega,xb _ _ _ _ _ _ inv.b1,d _ À]
  have B:IntKind.i64.wrap ((k:U)-15)=(k:U)-15:=Í
  have es:(15:U)<=(k:U):=À
  have X:(k:U)<79:=À
  have ba:(k:U)-15<64:=À
  have y:N wr ⟨V (Z w)+1,bL ((k:U)-15),R⟩=(aD cJ<|u<|Wf m<|k-15):=by rw[show((k:U)-15).toNat=k-15 by omega,xb _ _ _ _ _ _ inv.b1,d _ À]
  have e7:IntKind.i64.wrap ((k:U)-7)=(k:U)-7:=Í
  have p7:(7:U)<=(k:U):=À
  have r7:(k:U)<71:=À
  have q7:(k:U)-7<64:=À
  have c7:N wr ⟨V (Z w)+1,bL ((k:U)-7),R⟩=(aD cJ<|u<|Wf m<|k-7):=by rw[show((k:U)-7).toNat=k-7 by omega,xb _ _ _ _ _ _ inv.b1,d _ À]
  have P:IntKind.i64.wrap ((k:U)-2)=(k:U)-2:=Í
  have p2:(2:U)<=(k:U):=À
  have r2:(k:U)<66:=À
  have q2:(k:U)-2<64:=À
  have h3:N wr ⟨V (Z w)+1,bL ((k:U)-2),R⟩=(aD cJ<|u<|Wf m<|k-2):=by rw[show((k:U)-2).toNat=k-2 by omega,xb _ _ _ _ _ _ inv.b1,d _ À]
  obtain⟨c,F⟩:∃c,N wr ⟨V (Z w)+1,k,R⟩=Y c:=⟨C[k]' À,xT⟩;have G:aX wr ⟨V (Z w)+1,k,R⟩=ao:=xt _ _ _ _ _ inv.b1;have f:=K2 a À d;have e:=inv.H k<|aD cJ<|u<|Wf m k;rw[OW m k s]at e f;go_wp2;go_still_tail 23,Ä
  still_call (xu1 _ _)
  repeat still_step
  still_call (xu2 _ _)
  repeat still_step
  refine wpStill_nil ?_;go_wp2;go_roundw;(repeat apply ng);exact⟨⟨k+1,_,À,À,Å,e,É,f⟩,O⟩;exact Ý
 obtain rfl:k=64:=À
 have q:=VH a d;subst q;have b:(prog.info? 236).map (·.size)=Y (V (wv<|Wf m).toArray):=zb7
 have p:=OV<|Wf m;have L:V yr=V (wv<|Wf m).toArray:=by rw[O',jd,D']
 have l:(wr.setRow (V<|Z w) (bH (wv<|Wf m))).heap[V (Z w)]?=Y (au (bH (wv<|Wf m)) 236 (0,0)):=Jr _ _ _ _ _ _ inv.b0;have r:aP (V<|Z w) w<|wr.setRow (V<|Z w) (bH (wv<|Wf m)):=inv.fH.trans ⟨O,O,O,Â,λj hj=>setRow_other _ _ _ _ À⟩;go_wp2_with (first|refine J6 O 236 _ O (V (Z w)+1) O 236 _ (0,0) _ inv.b1 jR O b ?_|refine Zo O 236 _ _ O w.heap.size _ O O 236 _ inv.b0 b L p ?_);exact ji (v:=bY (bH (wv<|Wf m))) (Jf O _ _ (V<|Z w) 236 _ (0,0) _ O l jR O b) O ⟨O,r⟩
end
section
open A.Tryq Go.RowKit
def D6(x:Z3):Z8:=mZ x.toNat
def jdt(x):IntKind.u8.wrap (u x)=(aN (D6 x):U):=by simp[fS,fT,fi,u,D6]
def wb(x:Z3):Zl:=[D6<|x>>>24,D6<|x>>>16,D6<|x>>>8,D6 x]
def sb(s:St):Q->Zl
 |0=>[]|n+1=>sb s n++wb (kX s n)
def K4(s):∀n,T (sb s n)=4*n
 |0=>rfl|n+1=>by simp[sb,K4 s n,wb];omega
def bv(l:Zl):Ze:=l.map λb=>aD .u8 (aN b:Int)
theorem xL(l):T (bv l)=T l:=by simp[bv]
def O7(a b):bv (a++b)=bv a++bv b:=by simp[bv]
def OY:∃i,prog.info? 5=Y i/\i.zero=zb 0/\i.size=1/\i.bytes=1:=by
 have h:(prog.info? 5).map (λi=>(i.zero,i.size,i.bytes))=Y (Y<|zb 0,1,1):=Ä
 simp_all
def xyg(s)(k:Q)(hk:k<8)(w):(Instr.index 233 (bY #[aw s.a,aw s.b,aw s.c,aw s.d,aw s.e,aw s.f,aw s.g,aw s.h])<|J k).run prog w=dG (aw<|kX s k) w:=by
 obtain rfl|rfl|rfl|rfl|rfl|rfl|rfl|rfl:k=0\/k=1\/k=2\/k=3\/k=4\/k=5\/k=6\/k=7:=À
 all_goals kernel_rfl
def VI(l):∀v∈bv l,v.oneCell'=M:=by intro v a;simp only[bv,Xe]at a;obtain⟨b,_,rfl⟩:=a;rfl
def VR{cap l}(h:w.ownsRow y 5 1 (aB (Y ⟨g,0,R⟩) n cap) n<|bv l):n=T l/\∀j (x:j<T l),N w (((K g 0):Addr).add j)=(zb<|aN l[j]):=by
 let⟨z,b⟩:=h;simp only[xL,Cd]at z;refine⟨z.symm,λj x=>?_⟩;obtain⟨b,_⟩|⟨i,c,a,f,k,d,m,_,o,e⟩:=b;cases b;cases f;rw[pS,j7,xb _ _ j _ _ _ d];let:(a.toList.take<|n*1)[j]?=(bv l)[j]?:=å
 grind [bv]
attribute[local go_sem] xvp xvo xz2 jdt
def ztw(s w):aq 165 #[bY #[aw s.a,aw s.b,aw s.c,aw s.d,aw s.e,aw s.f,aw s.g,aw s.h]] w (ak ⟨bH (sb s 8)⟩):=by
 let⟨i5,hi,hz0,A,hz2⟩:=OY;go_enter func165.1,Tryz.ntmps165;go_wp2_with (apply wpList_make_own _ O _ _ 100 O (V (Z w)+1) 5 i5 _ 1 cT hi hz0 A bB bB 32 32 O O O ?b1 ?b2 ?b3)
 case b1=>omega
 case b2=>decide
 case b3=>simp
 intro w1 n q;have l:=(q.block _ Â Â).trans<|xn _ _;have G:N w1 (K (V<|Z w) 0)=aw s.a:=by rw[xb _ _ 0 _ _ _ l];rfl
 have u:N w1 (K (V<|Z w) 1)=aw s.b:=by rw[xb _ _ 1 _ _ _ l];rfl
 have I:N w1 (K (V<|Z w) 2)=aw s.c:=by rw[xb _ _ 2 _ _ _ l];rfl
 have d:N w1 (K (V<|Z w) 3)=aw s.d:=by rw[xb _ _ 3 _ _ _ l];rfl
 have c:N w1 (K (V<|Z w) 4)=aw s.e:=by rw[xb _ _ 4 _ _ _ l];rfl
 have L:N w1 (K (V<|Z w) 5)=aw s.f:=by rw[xb _ _ 5 _ _ _ l];rfl
 have b:N w1 (K (V<|Z w) 6)=aw s.g:=by rw[xb _ _ 6 _ _ _ l];rfl
 have f:N w1 (K (V<|Z w) 7)=aw s.h:=by rw[xb _ _ 7 _ _ _ l];rfl
 have D:=((zt _ _).alloc (zd _) _).grown q Â (λ_ h=>È);have S:V (Z w)+1<V (Z w1):=by obtain⟨h,_⟩|⟨a,z,C,B,_,e,_⟩:=n.2;cases h;grind
 go_wp2;go_loopw [3,8] (λv i wr=>∃k:Q,k<=8/\i=J k/\v=aB (Y ⟨V (Z w)+1,0,R⟩) (4*k) 32/\aP (V<|Z w) w wr/\wr.ownsRow (V (Z w)+1) 5 1 (aB (Y ⟨V (Z w)+1,0,R⟩) (4*k) 32) (4*k) (bv<|sb s k)/\V (Z w)+1<V (Z wr)) (λ_ i _=>bL (8-dV i));grind [bv,sb];obtain⟨k,hk,rfl,rfl,o,n,y⟩:=hrel;by_cases x:k<8
 ·have F:=xyg s k x;go_wp2_with (at_builtin;apply wpList_append_fits _ O _ _ 100 O (V (Z w)+1) 5 i5 1 cT hi A (V (Z w)+1) (4*k) 32 (bv<|sb s k) O ?own (K (V<|Z wr) 0) 4 4 (bv<|wb<|kX s k) O O ?c1 ?c2 ?c3)
  case own=>exact n.alloc _
  case c1=>intro j v B;rw[pS,j7,xb _ _ j _ _ _<|xn _ _,<-B];simp[bv,wb]
  case c2=>exact VI _
  case c3=>omega
  intro X m p;rw[<-O7]at m;have r:=(o.alloc o.size _).grown p Ç (λ_ h=>Á);have t:4*k+4=4*(k+1):=À
  rw[t]at m;go_wp2;go_roundw;exact⟨k+1,À,Å,Á,r,m,zm y<|xa Â p.size⟩;exact Ð
 obtain rfl:k=8:=À
 have P:(convert 100 9<|aB (Y ⟨V (Z w)+1,0,R⟩) 32 32).run prog wr=dG (ak ⟨bH (sb s 8)⟩) wr:=by have h:=iy wr 100 9 5 (K (V (Z w)+1) 0) 32 (sb s 8) cT eY dK (VR n).2;rw[K4]at h;exact h
 go_wp2;go_ret;simp_all
end
section
open A.Tryq Go.RowKit
def bq(q:Q):Z8:=mZ q
def nb(n:Q):Q->Zl
 |0=>[]|k+1=>bq (n/256^k)::nb n k
theorem Z2(n):∀k,T (nb n k)=k
 |0=>rfl|k+1=>by simp[nb,Z2 n k]
def Wv(n:Q):Q:=64*((n+72)/64)
def xM(x:Zl)(k:Q):Zl:=x++128::(bS (Wv (T x)-T x-1-k) 0++nb (T x*8) k)
def uy(x:Zl):Zl:=xM x 8
theorem Fz(n):n+9<=Wv n/\Wv n<=n+72:=za1
def Pa(x k)(hk:k<=8):T (xM x k)=Wv (T x):=by grind [Fz,xM,Z2]
def xpm(x k)(hk:k<8):(xM x k).set (Wv (T x)-(k+1)) (bq<|T x*8/256^k)=xM x (k+1):=by
 have h:=Fz (T x);unfold xM;have e:Wv (T x)-T x-1-k=(Wv (T x)-T x-1-(k+1))+1:=À
 rw[e,Ku];generalize z:Wv (T x)-T x-1-(k+1)=m at*;have a:Wv (T x)-(k+1)=T x+(1+m):=À
 rw[a,Vy _ _ À];congr 1;rw[show T x+(1+m)-T x=m+1 by omega,Vp];congr 1;rw[jq,Vy _ _ Â];simp[nb]
theorem Hp(l i b):(bv l).set i (zb (aN b))=bv (l.set i b):=by simp[bv,List.map_set]
def KZ{P:Zp}{X:bE eX}{rest:bA eX}{o:eX}{a:mh}{u:Exit->mh->Zy->Prop}(n:o.guard=R)(d s:Operand)(l v:Zt)
  (ho:o.op= .call {callee:= .builtin .copy,args:=#[d,s],argTypes:=#[l,v]})(e:Zt)(D:P.underlying l=Y (.slice e))(q:(P.info? e).map (·.size)=Y 1)
  (g L c f:Q)(x:eM)(A:a.eval d=aB (Y ⟨g,L,R⟩) c f)(C:a.eval s=ak x)
  (b:Za)(t:Zt)(r:w.heap[g]?=Y (au b t (0,0)))(p:x.size<=c)(k:L+x.size<=V b)(B:Q)(G:Zy)(z:aP B G w)(m:B<=g)
  (h:∀F,F.heap[g]?=Y (au (bH (b.toList.take L++hZ (eV x.data)++b.toList.drop (L+x.size))) t (0,0))->aP B G F->wpList P X u rest (a.put o.dst<|goInt x.size) F):wpList P X u (o::rest) a w:=by
 refine DP n λS y=>?_;have j:=Lib.run_copy_row_string w l v o.type e g L c f x b t D q r p k;have i:=y _ _<|h _ (Jr w g b _ t _ r)<|below_setRow z m _;unfold Oper.wp;simp only[jq]at j i;simp[aR,ho,o8,invoke,builtin,A,C,j,bN];exact i
def xdn(h:w.ownsRow y 5 1 (aB (Y ⟨g,0,R⟩) n n) n (eV (madeCells #[zb 0] n))):w.heap[g]?=Y (au (bH (bv<|List.replicate n 0)) 5 (0,0)):=by
 obtain⟨d,_⟩|⟨k,b,a,j,l,f,o,_,p,c⟩:=h.2;cases d;cases j;rw[f];have e:eV a=bv (bS n 0):=by rw[qp Á]at c;rw[c];apply Ye;intro i;by_cases m:i<n;grind [madeCells,bv];grind [bv]
 rw[<-e]
def K3:(prog.info? 5).map (·.size)=Y 1:=Ä
def xuf(x)(hx:x.size<=60000)(w):aK prog 162 #[ak x] w λen w'=>en=ai (aB (Y ⟨V<|Z w,0,R⟩) (Wv x.size)<|Wv x.size)/\w'.heap[V (Z w)]?=Y (au (bH (bv<|uy (eV x.data))) 5 (0,0))/\aP (V<|Z w) w w':=by
 let⟨i5,hi,hz0,hz1,hz2⟩:=OY;go_enter func162.1,Tryz.ntmps162;have u:=Fz x.size;have v:((x.size:U)+1+8+64-1)/64*64=((Wv x.size:Q):U):=za1
 have t:H<|((x.size:U)+1+8+64-1)/64*64=((Wv x.size:Q):U):=v;clear v;have d:H<|T x.data.toList=x.size:=O;go_wp2_with (refine wpList_make_full _ O _ _ 100 O w.heap.size 5 i5 (zb 0) 1 cT hi hz0 hz1 bB bB _ _ (Wv x.size) O O ?l1 ?l2 ?b1 ?b2 ?b3 ?_)
 case l1=>exact t.o
 case l2=>exact t.o
 case b1=>grind
 case b2=>unfold pu;omega
 case b3=>simp
 intro w1 b p;go_wp2_with (refine KZ O _ _ 100 9 O 5 cT K3 (V<|Z w) 0 _ _ x O O _ 5 (xdn b) ?c1 ?c2 (V<|Z w) w ((zt _ _).grown p (zd _) λ_ h=>È) (zd _) ?_)
 case c1=>omega
 case c2=>simp[xL];omega
 intro g n l;have a:g.heap[V (Z w)]?=Y (au (bH (bv<|eV x.data++bS (Wv x.size-x.size) 0)) 5 (0,0)):=by rw[n];congr 2;simp[bv,hZ]
 have S:N g (K (V<|Z w) x.size)=zb 0:=by rw[xb _ _ _ _ _ _ a];simp only[Jz,bv,qz];rw[Xp Â,jl,d.o,KD,List.map_replicate,List.getElem?_replicate,aT À];rfl
 have F:aX g (K (V<|Z w) x.size)=ao:=xt _ _ _ _ _ a;have o:(ay g (K (V<|Z w) x.size)<|zb 128).heap[V (Z w)]?=Y (au (bH (bv<|xM (eV x.data) 0)) 5 (0,0)):=by rw[jx _ _ _ _ _ _ a];congr 2;rw[Zj];congr 1;rw[show(zb 128)=zb (aN (128:Z8))from O,Hp];congr 1;rw[Vy _ _ Â];obtain⟨m,G⟩:∃m,Wv x.size-x.size=m+1:=⟨Wv x.size-x.size-1,À⟩;unfold xM;rw[d.o,G];simp[nb,List.replicate_succ]
 have B:(x.size:U)<(Wv x.size:Q):=À
 have j:((x.size:Q):U)*8<18446744073709551616:=À
 go_wp2;go_loopw [5,6] (λq i wr=>∃k:Q,k<=8/\i=J (k+1)/\q=aD .u64 ((x.size*8/256^k:Q):U)/\wr.heap[V (Z w)]?=Y (au (bH (bv<|xM (eV x.data) k)) 5 (0,0))/\aP (V<|Z w) w wr) (λ_ i _=>bL (9-dV i));exact⟨0,À,O,Å,o,l.setCell (zd _) _⟩;obtain⟨k,hk,rfl,rfl,f,y⟩:=hrel;have X:x.size*8/256^k<=x.size*8:=Nat.div_le_self _ _;have C:H<|x.size*8/256^k/256=x.size*8/256^(k+1):=by show _=_;rw[Om,Cb]
 by_cases s:k<8
 ·have z:=Pa (eV x.data) k hk;rw[d.o]at z;have r:(ay wr (K (V<|Z w)<|Wv x.size-(k+1))<|zb<|aN (bq<|x.size*8/256^k)).heap[V (Z w)]?=Y (au (bH (bv<|xM (eV x.data)<|k+1)) 5 (0,0)):=by rw[jx _ _ _ _ _ _ f,Zj,Hp];have e:=xpm (eV x.data) k s;rw[d.o]at e;rw[e]
  obtain⟨c,I⟩:∃c,N wr (K (V<|Z w)<|Wv x.size-(k+1))=Y c:=by refine⟨(bv<|xM (eV x.data) k)[Wv x.size-(k+1)]'(by rw[xL,z];omega),?_⟩;rw[xb _ _ _ _ _ _ f];simp
  have P:aX wr (K (V<|Z w)<|Wv x.size-(k+1))=ao:=xt _ _ _ _ _ f;have L:(0:U)<=((Wv x.size:Q):U)-((k:U)+1):=À
  have A:((Wv x.size:Q):U)-((k:U)+1)<((Wv x.size:Q):U):=À
  generalize x.size*8/256^k=q at*;have D:IntKind.u8.wrap (q:U)=(aN (bq q):U):=zb9
  clear j;go_wp2;go_roundw;exact⟨k+1,À,Å,by rw[<-C.o];go_num,r,y.setCell (zd _) _⟩;exact Ð
 obtain rfl:k=8:=À
 go_wp2;go_ret;exact⟨O,f,y⟩
end
end P
namespace P
variable{w w' w1 a b f e:Zy}{B g k c y n b2 b3:Q}{l L:Zl}{s:St}{v z:Zv}{S:ZP}{d t:Zt}{C D:Za}
open A.Tryq Go.RowKit
section
def iv:St:=⟨1779033703,3144134277,1013904242,2773480762,1359893119,2600822924,528734635,1541459225⟩
def bT(l:Zl)(k j:Q):Z8:=l.getD (64*k+j) 0
def uO(m:Zl):Q->St
 |0=>iv|k+1=>Jb (uO m k)<|Wf<|bT m k
def oY(x:Zl):Zl:=sb (uO (uy x)<|Wv (T x)/64) 8
theorem yw(x):T (oY x)=32:=K4 _ 8
def iN(w:Zy):Prop:=∀i,i<64->N w (K 2 i)=(aw<|Kc i)
def iN.ac(h:iN w)(a:2<B)(b:aP B w w'):iN w':=λi c=>(b.cell a).trans<|h i c
def iN.iE(h:iN w):2<V (Z w):=js<|h 0 Ã
def xev(a:w.heap[g]?=Y (au (bH (bv l)) 5 (0,0)))(k)(hk:64*k+64<=T l):∀j,j<64->N w (K g<|64*k+j)=(zb<|u<|wu<|bT l k j):=by intro j b;rw[xb _ _ _ _ _ _ a,jds];grind [bv,bT]
def Cx(h:w.heap[g]?=Y (au #[aw s.a,aw s.b,aw s.c,aw s.d,aw s.e,aw s.f,aw s.g,aw s.h] 233 (0,0))):N w (K g 0)=aw s.a/\aX w (K g 0)=ao/\N w (K g 1)=aw s.b/\aX w (K g 1)=ao/\N w (K g 2)=aw s.c/\aX w (K g 2)=ao/\N w (K g 3)=aw s.d/\aX w (K g 3)=ao/\N w (K g 4)=aw s.e/\aX w (K g 4)=ao/\N w (K g 5)=aw s.f/\aX w (K g 5)=ao/\N w (K g 6)=aw s.g/\aX w (K g 6)=ao/\N w (K g 7)=aw s.h/\aX w (K g 7)=ao:=by refine⟨?_,xt _ _ _ _ _ h,?_,xt _ _ _ _ _ h,?_,xt _ _ _ _ _ h,?_,xt _ _ _ _ _ h,?_,xt _ _ _ _ _ h,?_,xt _ _ _ _ _ h,?_,xt _ _ _ _ _ h,?_,xt _ _ _ _ _ h⟩;all_goals (rw[xb _ _ _ _ _ _ h];rfl)
structure CD(w:Zy)(l:Zl)(s:St)(W:Zy):Prop where
 fH:aP (V<|Z w) w W
 sz:V (Z w)+1<V (Z W)
 b0:W.heap[V (Z w)]?=Y (au #[aw s.a,aw s.b,aw s.c,aw s.d,aw s.e,aw s.f,aw s.g,aw s.h] 233 (0,0))
 b1:W.heap[V (Z w)+1]?=Y (au (bH (bv l)) 5 (0,0))
theorem CD.eG{k o}(h:CD w l s w1)(i:aP (V w1.drew.heap) w1.drew k)(j:aP (V<|Z k) k o)(t):CD w l t<|ay (ay (ay (ay (ay (ay (ay (ay o (K (V<|Z w) 0)<|aw t.a) (K (V<|Z w) 1)<|aw t.b) (K (V<|Z w) 2)<|aw t.c) (K (V<|Z w) 3)<|aw t.d) (K (V<|Z w) 4)<|aw t.e) (K (V<|Z w) 5)<|aw t.f) (K (V<|Z w) 6)<|aw t.g) (K (V<|Z w) 7)<|aw t.h:=by have n:=zm h.sz i.size;have m:=h.fH.drew.trans<|i.mono h.fH.size;refine⟨Fx _ _ _ _ _ _ _ _ _ _ _ _ (zd _)<|m.trans<|j.mono m.size,by rw[O9];exact zm n j.size,?_,?_⟩;exact wy _ _ _ _ _ _ _ _ _ _ _ _ _ _ _ _ _ _ _<|(j.block _ À).trans<|(i.block _<|by have:=h.sz;show V (Z w)<V (Z w1);omega).trans h.b0;rw[D8 _ _ _ _ _ _ _ _ _ _ _ À];exact(j.block _ n).trans<|(i.block _<|by exact h.sz).trans h.b1
def xvg(x)(hx:x.size<=60000)(w)(D:iN w):aq 102 #[ak x] w (ak ⟨bH (oY (eV x.data))⟩):=by
 have v:=D.iE;have hp:=Fz x.size;have o:64*(Wv x.size/64)=Wv x.size:=za1
 let⟨c,u⟩:=JP<|Wv x.size/64;rw[u]at o;have G:T (uy (eV x.data))=64*c:=(Pa (eV x.data) 8 À).trans o.symm;have HL:=G;go_enter func102.1,Tryz.ntmps102;go_wp2;refine(xuf x hx _).mono ?_;rintro en w1⟨rfl,B,r⟩;rw[<-o];go_wp2;have y:CD w (uy (eV x.data)) iv w1:=by refine⟨((zt _ _).alloc (zd _) _).trans<|r.mono Â,?_,(r.block _ Â).trans ?_,?_⟩;have:=(za.1 B).1;simp_all;rw[xn];rfl;simp_all
 go_loopw [5] (λi wr=>∃k:Q,k<=c/\i=J (64*(k:U))/\CD w (uy (eV x.data)) (uO (uy (eV x.data)) k) wr) (λi _=>bL (64*(c:U)-dV i));exact⟨0,À,Å,y⟩;obtain⟨k,hk,rfl,inv⟩:=hrel;have bb:=inv.sz;by_cases S:k<c
 ·have i0:(0:U)<=64*(k:U):=À;have i1:64*(k:U)<64*(c:U):=À
  have i2:64*(k:U)+64<=64*(c:U):=À
  have i3:bL (64*(k:U))=64*k:=À
  have iw:IntKind.i64.wrap (64*(k:U)+64)=64*(k:U)+64:=Ï
  have n:V (Z w)<V (Z wr):=À
  generalize hm:uy (eV x.data)=l at*;have F:=xev inv.b1 k À;have z:=D.ac v inv.fH.drew;let⟨s,p⟩:=JP<|uO l k;rw[p]at inv;have q:=xe p;have h:N wr (K (V<|Z w) 0)=aw s.a:=by rw[xb _ _ 0 _ _ _ inv.b0];rfl
  have P:aX wr (K (V<|Z w) 0)=ao:=xt _ _ _ _ _ inv.b0;have A:N wr (K (V<|Z w) 1)=aw s.b:=by rw[xb _ _ 1 _ _ _ inv.b0];rfl
  have I:aX wr (K (V<|Z w) 1)=ao:=xt _ _ _ _ _ inv.b0;have hd:N wr (K (V<|Z w) 2)=aw s.c:=by rw[xb _ _ 2 _ _ _ inv.b0];rfl
  have h1:aX wr (K (V<|Z w) 2)=ao:=xt _ _ _ _ _ inv.b0;have W:N wr (K (V<|Z w) 3)=aw s.d:=by rw[xb _ _ 3 _ _ _ inv.b0];rfl
  have h2:aX wr (K (V<|Z w) 3)=ao:=xt _ _ _ _ _ inv.b0;have X:N wr (K (V<|Z w) 4)=aw s.e:=by rw[xb _ _ 4 _ _ _ inv.b0];rfl
  have L:aX wr (K (V<|Z w) 4)=ao:=xt _ _ _ _ _ inv.b0;have ho:N wr (K (V<|Z w) 5)=aw s.f:=by rw[xb _ _ 5 _ _ _ inv.b0];rfl
  have cs:aX wr (K (V<|Z w) 5)=ao:=xt _ _ _ _ _ inv.b0;have g':N wr (K (V<|Z w) 6)=aw s.g:=by rw[xb _ _ 6 _ _ _ inv.b0];rfl
  have v':aX wr (K (V<|Z w) 6)=ao:=xt _ _ _ _ _ inv.b0;have ba:N wr (K (V<|Z w) 7)=aw s.h:=by rw[xb _ _ 7 _ _ _ inv.b0];rfl
  have es:aX wr (K (V<|Z w) 7)=ao:=xt _ _ _ _ _ inv.b0;go_wp2;go_region_with (first
   |(go_at_call 164;refine(zxh (bT l k) (V (Z w)+1) (64*k) _ _ ?_).mono ?_;exact F;rintro en w2⟨rfl,j⟩;let⟨pc0,pf0,pc1,pf1,pc2,pf2,pc3,pf3,pc4,pf4,pc5,pf5,pc6,pf6,pc7,pf7⟩:=Cx<|(j.block _ n).trans inv.b0;have C:=zm n j.size)
   |(go_at_call 163;refine(xet s (Wf<|bT l k) _ ?_).mono ?_;exact z.ac (Nat.lt_trans v n) j;rintro en w3⟨rfl,m⟩;let⟨qc0,qf0,qc1,qf1,qc2,qf2,qc3,qf3,qc4,qf4,qc5,qf5,qc6,qf6,qc7,qf7⟩:=Cx<|(m.block _ C).trans<|(j.block _ n).trans inv.b0))
  all_goals go_wp2
  all_goals go_roundw
  refine⟨k+1,À,Å,?_⟩;show CD w l (Jb (uO l k) _) _;rw[q.o];exact inv.eG j m _
  case measure=>simp[dV];omega
  case rel=>refine⟨k+1,À,Å,?_⟩;show CD w l (Jb (uO l k) _) _;rw[q.o];exact inv.eG j m _
  case measure=>simp[dV];omega
  case rel=>refine⟨k+1,À,Å,?_⟩;show CD w l (Jb (uO l k) _) _;rw[q.o];exact inv.eG j m _
  exact Ð
 obtain rfl:k=c:=À
 let⟨s,p⟩:=JP<|uO (uy (eV x.data)) k;rw[p]at inv;have q:H<|oY (eV x.data)=sb s 8:=by show sb (uO (uy (eV x.data))<|Wv x.size/64) 8=_;rw[u,p]
 clear p;let⟨qc0,qf0,qc1,qf1,qc2,qf2,qc3,qf3,qc4,qf4,qc5,qf5,qc6,qf6,qc7,qf7⟩:=Cx inv.b0;have t:=inv.fH;have h3:¬64*(k:U)<64*(k:U):=À
 go_wp2;refine(ztw s _).mono ?_;rintro en w2⟨rfl,j⟩;go_wp2;go_ret;exact⟨by rw[q.o];rfl,t.trans<|j.mono t.size⟩
def Xs{c}(h:aP (V<|Z a) a b)(k:aP (V<|Z b) b c):aP (V<|Z a) a c:=h.trans<|k.mono h.size
def st(l:Zl):eM:=⟨bH l⟩
@[go_sem] abbrev E(x:bA UInt8):eJ:=ak (st x)
theorem zn(l):(st l).size=T l:=O
def jdi(x):st (eV x.data)=x:=O
def zg(a b):st a++st b=st (a++b):=zba
def CF(l)(b:T l<=60000)(w)(a:iN w):aq 102 #[ak<|st l] w (ak<|st<|oY l):=
 xvg (st l) b w a
attribute[local go_sem] zn zg
def kc(l:Zl)(c:Z8):Zl:=(l++bS (64-T l) 0).map (·^^^c)
def AV(l c)(h:T l<=64):T (kc l c)=64:=by simp[kc];omega
def AR(k x:Zl):Zl:=oY<|kc k 0x5c++oY (kc k 0x36++x)
def hk(k:Zl):Zl:=if 64<T k then oY k else k
def Wu(k x:Zl):Zl:=AR (hk k) x
theorem uP(k x):T (Wu k x)=32:=yw _
def FM(a c:Z8):lr .xor .u8 (aN a:U) (aN c:U)=(aN (a^^^c):U):=by
 show IntKind.u8.wrap ((dM 8 (aN a:U)^^^dM 8 (aN c:U)).toNat:U)=_;have b:dM 8 (aN a:U)=a.toBitVec:=Â
 have d:dM 8 (aN c:U)=c.toBitVec:=Â
 rw[b,d];have e:(a.toBitVec^^^c.toBitVec).toNat=aN (a^^^c):=Â
 rw[e];simp only[fS,fT,fi];generalize(a^^^c).toNat=q at*;exact Ç
def xk(L:Zl)(c:Z8)(k:Q):Zl:=(L.take k).map (·^^^c)++L.drop k
def WG(L c k):T (xk L c k)=T L:=by simp[xk];omega
def WL(L c k)(h:k<T L):(xk L c k)[k]?=Y L[k]:=by grind [xk]
def WH(L c k)(h:k<T L):(xk L c k).set k (L[k]^^^c)=xk L c (k+1):=by unfold xk;rw[Vy _ _ Á,zp h];simp only[jl,xf,DL<|Nat.le_of_lt h,KD,qz,Js,Fr,jq];grind [Zx]
def WF(L c k)(h:T L<=k):xk L c k=L.map (·^^^c):=by grind [xk,qp]
def xnb(n):bv (bS n 0)=bS n (zb 0):=by simp[bv]
def Ll(l)(p:T l<=64)(c n)(C:n=(aN c:Int))(w):aq 169 #[ak<|st l,zb n] w (ak<|st<|kc l c):=by
 subst C;go_enter func169.1,Tryz.ntmps169;go_wp2_with (apply KZ O _ _ 100 9 O 5 cT K3 (V<|Z w) 0 _ _ (st l) O O _ 300 (xn _ _) ?c1 ?c2 (V<|Z w) w ?c3<|zd _)
 case c1=>rw[zn];exact p
 case c2=>simpa[zn]using p
 case c3=>exact(zt _ _).alloc (zd _) _
 intro w1 o v;let⟨L,g⟩:=JP<|l++bS (64-T l) 0;have s:T L=64:=by rw[<-g];simp;omega
 have y:w1.heap[V (Z w)]?=Y (au (bH (bv<|xk L c 0)) 300 (0,0)):=by rw[o];congr 2;rw[<-g];show _=bH (bv<|l++bS (64-T l) 0);rw[O7];have e:([zb 0,zb 0,zb 0,zb 0,zb 0,zb 0,zb 0,zb 0,zb 0,zb 0,zb 0,zb 0,zb 0,zb 0,zb 0,zb 0,zb 0,zb 0,zb 0,zb 0,zb 0,zb 0,zb 0,zb 0,zb 0,zb 0,zb 0,zb 0,zb 0,zb 0,zb 0,zb 0,zb 0,zb 0,zb 0,zb 0,zb 0,zb 0,zb 0,zb 0,zb 0,zb 0,zb 0,zb 0,zb 0,zb 0,zb 0,zb 0,zb 0,zb 0,zb 0,zb 0,zb 0,zb 0,zb 0,zb 0,zb 0,zb 0,zb 0,zb 0,zb 0,zb 0,zb 0,zb 0]:Ze)=bS 64 _:=O;rw[e,List.drop_replicate,show hZ (eV (st l).data)=bv l from O,xnb]
 have r:H (kc l c=L.map (·^^^c)):=by show(l++bS _ 0).map _=_;rw[g]
 go_wp2;go_loopw [10] (λi wr=>∃k:Q,k<=64/\i=J k/\wr.heap[V (Z w)]?=Y (au (bH (bv<|xk L c k)) 300 (0,0))/\aP (V<|Z w) w wr) (λi _=>bL (64-dV i));grind;obtain⟨k,hk,rfl,d,t⟩:=hrel;by_cases B:k<64
 ·have f:k<T L:=À;let⟨a,q⟩:=JP<|L[k];have D:N wr (K (V<|Z w) k)=zb (aN a):=by rw[xb _ _ _ _ _ _ d];have:=WL L c k f;simp only[bv,Jz,List.getElem?_map,this,q];rfl
  have u:aX wr (K (V<|Z w) k)=ao:=xt _ _ _ _ _ d;have m:(ay wr (K (V<|Z w) k)<|zb<|aN (a^^^c)).heap[V (Z w)]?=Y (au (bH (bv<|xk L c<|k+1)) 300 (0,0)):=by rw[jx _ _ _ _ _ _ d,Zj,Hp,<-q,WH L c k f]
  have F:=FM a c;generalize a^^^c=b at*;go_wp2;go_roundw;exact⟨k+1,À,Å,m,t.setCell (zd _) _⟩;exact Ð
 obtain rfl:k=64:=À
 rw[WF L c 64 À,<-r.o]at d;have x:(convert 100 9<|aB (Y ⟨V<|Z w,0,R⟩) 64 64).run prog wr=dG (ak<|st<|kc l c) wr:=by have h:=iy wr 100 9 5 (K (V<|Z w) 0) 64 (kc l c) cT eY dK (λj z=>by rw[pS,j7,xb _ _ _ _ _ _ d];simp[bv,z]);rw[AV l c p]at h;exact h
 go_wp2;go_ret;simp_all
def Pl(k x)(q:T k<=5000)(hx:T x<=5000)(w)(m:iN w):aq 104 #[ak<|st k,ak<|st x] w (ak<|st<|Wu k x):=by
 have g:=m;have b:=m.iE;by_cases n:64<T k
 ·have p:(64:U)<(T k:Q):=À;have o:=yw k;have h:H<|Wu k x=AR (oY k) x:=by show AR (hk k) x=_;unfold hk;rw[aT n]
  go_enter func104.1,Tryz.ntmps104;go_wp2;apply(CF k À _ g).mono;rintro u w1⟨rfl,c⟩;go_wp2;apply(Ll _ À 0x36 54 O _).mono;rintro u r⟨rfl,a⟩;have i:=AV (oY k) 0x36 À
  go_wp2;apply(CF _ Á _<|(g.ac b c).ac (zm b c.size) a).mono;rintro u s⟨rfl,d⟩;go_wp2;apply(Ll _ À 0x5c 92 O _).mono;rintro u t⟨rfl,e⟩;have j:=AV (oY k) 0x5c À;have l:=yw<|kc (oY k) 0x36++x;go_wp2;apply(CF _ Á _<|(((g.ac b c).ac (zm b c.size) a).ac (zm b<|xa c.size a.size) d).ac (zm b<|xa c.size<|xa a.size d.size) e).mono;rintro u v⟨rfl,f⟩;go_wp2;go_ret;exact⟨by rw[h.o];rfl,Xs c<|Xs a<|Xs d<|Xs e f⟩
 have p:¬(64:U)<(T k:Q):=À
 have h:H<|Wu k x=AR k x:=by show AR (hk k) x=_;unfold hk;rw[aL n]
 go_enter func104.1,Tryz.ntmps104;go_wp2;apply(Ll k À 0x36 54 O _).mono;rintro u r⟨rfl,a⟩;have i:=AV k 0x36 À
 go_wp2;apply(CF _ Á _<|g.ac b a).mono;rintro u s⟨rfl,d⟩;go_wp2;apply(Ll k À 0x5c 92 O _).mono;rintro u t⟨rfl,e⟩;have j:=AV k 0x5c À;have l:=yw<|kc k 0x36++x;go_wp2;apply(CF (kc k 0x5c++oY (kc k 0x36++x)) Á _<|((g.ac b a).ac (zm b a.size) d).ac (zm b<|xa a.size d.size) e).mono;rintro u v⟨rfl,f⟩;go_wp2;go_ret;exact⟨by rw[h.o];rfl,Xs a<|Xs d<|Xs e f⟩
def xwz(k x)(b:T k<=4096)(hx:T x<=4096)(w)(a:iN w):aq 53 #[ak<|st k,ak<|st x] w (cE #[ak<|st<|Wu k x,J 0]):=by go_enter func53.1,Tryz.ntmps53;go_wp2;apply(Pl k x À À _ a).mono;rintro q w1⟨rfl,c⟩;go_wp2;go_ret2;simp_all
end
section
attribute[local go_sem] zn zg
theorem xpg(v)(w:Zy):(convert 100 9<|aB (Y ⟨V<|Z w,0,R⟩) 1 1).run prog (aF w<|au #[zb (aN v)] 5)=dG (ak<|st [v]) (aF w<|au #[zb (aN v)] 5):=by have h:=iy (aF w<|au #[zb (aN v)] 5) 100 9 5 (K (V<|Z w) 0) 1 [v] cT eY dK (λj a=>by rw[pS,j7,xb _ _ _ _ _ _<|xn _ _];grind);exact h
end
section
def VV(l n):(st l).extract 0 n=st (l.take n):=zba
attribute[local go_sem] zn zg VV
def bk(x I:Zl):Q->Zl
 |0=>[]|k+1=>Wu x<|bk x I k++(I++[bq<|k+1])
def sG(x I:Zl):Q->Zl
 |0=>[]|k+1=>sG x I k++bk x I (k+1)
def WD(x a):∀k,T (bk x a k)<=32
 |0=>by simp[bk]|k+1=>by grind [bk,uP]
theorem Lp(x a):∀k,T (sG x a k)=32*k
 |0=>rfl|k+1=>by rw[sG,zx,Lp x a k,bk,uP];omega
def yu(x I:Zl)(n:Q):Zl:=(sG x I 8).take n
def VU(x a n k)(b:n<=32*k):∀j,(sG x a<|k+j).take n=(sG x a k).take n
 |0=>rfl|j+1=>by rw[<-GU,sG,Y4<|by rw[Lp];omega];exact VU x a n k b j
def WE(x a n k)(hk:k<=8)(b:n<=32*k):(sG x a k).take n=yu x a n:=by have:=VU x a n k b<|8-k;rw[show k+(8-k)=8 by omega]at this;exact this.symm
def Ln(x a n)(h:n<=255):T (yu x a n)=n:=by grind [yu,Lp]
def Hx(n v)(a:n=(aN v:Int))(w:Zy):(convert 100 9<|aB (Y ⟨V<|Z w,0,R⟩) 1 1).run prog (aF w<|au #[zb n] 5)=dG (ak<|st [v]) (aF w<|au #[zb n] 5):=by grind [xpg]
def Wo{e b X}(h:w.ownsRow y e b v n X):∃a cap,v=aB a n cap/\n<=cap:=by obtain⟨d,f⟩|⟨g,cap,c,j,_,_,i,_⟩:=h.2;grind;grind
def Pi{e a X}(h:w.ownsRow y e a v n X)(i:aP (V<|Z w) w f):f.ownsRow y e a v n X:=by refine⟨h.1,?_⟩;obtain l|⟨g,b,c,k,j,d,r⟩:=h.2;grind;exact ac ⟨g,b,c,k,j,(i.block g (za.1 d).1).trans d,r⟩
def Cv{e a X}(h:w.ownsRow y e a v n X):∀q,v.ownBlock=Y q->y<=q:=by intro q b;obtain⟨f,_⟩|⟨g,c,d,j,i,_⟩:=h.2;rw[f]at b;cases b;rw[j]at b;cases b;exact i
def xkf{a cap m}(h:w.ownsRow y 5 1 (aB a n cap) n<|bv l)(q:m<=n):(convert 100 9<|aB a m cap).run prog w=dG (E<|l.take m) w:=by
 have p:T l=n:=by have:=h.1;simpa[xL]using this
 cases a with
 |none=>
  obtain⟨d,k⟩|⟨g,b,c,i,_⟩:=h.2;obtain rfl:m=0:=À
  rw[run_convert_bytes_string w 100 9 5 R 0 cap cT eY dK];rfl;grind
 |some A=>
  obtain⟨d,k⟩|⟨g,b,c,i,_⟩:=h.2;cases d;have e:A=(K g 0):=by cases i;rfl
  subst e;have r:=(VR h).2;have f:=iy w 100 9 5 (K g 0) cap (l.take m) cT eY dK (λj o=>Á);rw[xf,DL À]at f;exact f
def xc6(A c)(x:T A<=64)(o:T c<=4063)(n:Q)(W:n<=255)(w)(s:iN w):aq 106 #[ak<|st A,ak<|st c,aD bB n] w (ak<|st<|yu A c n):=by
 let⟨i5,hi,hz0,hz1,hz2⟩:=OY;go_enter func106.1,Tryz.ntmps106;go_wp2;go_loopw [7,8,9] (λv b q wr=>∃k:Q,k<=8/\q=aD .u8 ((k:U)+1)/\b=ak (st<|bk A c k)/\wr.ownsRow (V<|Z w) 5 1 v (32*k) (bv<|sG A c k)/\aP (V<|Z w) w wr) (λ_ _ q _=>bL (9-dV q));exact⟨0,À,O,O,jk _ _ _ _,zt _ _⟩;obtain⟨k,hk,rfl,rfl,d,f⟩:=hrel;obtain⟨a,l,rfl,t⟩:=Wo d;by_cases F:32*k<n
 ·have G:(32*(k:U))<(n:Q):=À;have D:=WD A c k;have y:=Hx ((k:U)+1) (bq<|k+1) (by simp[bq];omega);have r:H<|bk A c (k+1)=Wu A (bk A c k++(c++[bq<|k+1])):=O;generalize bk A c k=B at*;go_wp2;apply(Pl A _ À Á _ ?tab).mono
  case tab=>exact s.ac s.iE<|f.alloc f.size _
  rintro en X⟨rfl,g⟩;have e:=(f.alloc f.size<|au #[aD .u8<|(k:U)+1] 5).trans (g.mono<|xa f.size Â);have i:=Pi (d.alloc _) g;rw[<-r.o];have m:T (bk A c<|k+1)=32:=by rw[r.o];exact uP A<|B++(c++[bq<|k+1])
  go_wp2_with (apply Lib.wpList_append_own_string _ O _ _ 100 9 O w.heap.size 5 i5 cT dK hi hz0 hz1 hz2 _ (32*k) (bv<|sG A c k) O i (st<|bk A c<|k+1) O ?c1 ?c2 ?c3)
  case c1=>grind [zn,pu]
  case c2=>rw[zn,m];omega
  case c3=>exact e.size
  intro u I j h _;have p:I.ownsRow (V<|Z w) 5 1 u (32*(k+1))<|bv<|sG A c<|k+1:=by
   have z:32*k+32=32*(k+1):=À
   have C:bv (sG A c k)++Lib.strCells (st<|bk A c<|k+1)=bv (sG A c<|k+1):=by rw[sG,O7];rfl
   rw[z,C]at j;exact j
  go_wp2;go_roundw;exact⟨k+1,À,Å,O,p,e.grown h e.size<|Cv i⟩;exact Ð
 have G:¬(32*(k:U))<(n:Q):=À
 have P:(convert 100 9<|aB a n l).run prog wr=dG (ak<|st<|yu A c n) wr:=by rw[xkf d À,WE A c n k hk À]
 go_wp2;go_ret;simp_all
def xh2(a b c)(j:T a<=4096)(k:T b<=4096)(h:T c<=4063)(n:Q)(i:n<=255)(w)(g:iN w):
  aq 55 #[ak<|st a,ak<|st b,ak<|st c,aD bB n] w (cE #[ak<|st<|yu (Wu b a) c n,aD bB 0]):=by
 have f:=g;go_enter func55.1,Tryz.ntmps55;go_wp2;apply(Pl b a À À _ f).mono;rintro x w1⟨rfl,d⟩;have l:=uP b a;go_wp2;apply(xc6 _ c À h n i _<|f.ac g.iE d).mono;rintro x m⟨rfl,e⟩;go_wp2;go_ret2;exact⟨O,Xs d e⟩
end
section
attribute[local go_sem] Cs FD ux FC FE zn zg
attribute[local go_sem] U7 VL U3 U' UZ VF U6 VN U4 U9 VK VG U5 VO U1 VD U2 VB U0 VE
def xzs(x w):zo 227 #[aw x,J 2] w (aw<|rr x 2):=by go_enter func227.1,gj;go_wp2;go_quiet (fail);go_wp2;go_ret;exact⟨O,nq,O⟩
def xuu(x w):zo 227 #[aw x,J 13] w (aw<|rr x 13):=by go_enter func227.1,gj;go_wp2;go_quiet (fail);go_wp2;go_ret;exact⟨O,nq,O⟩
def xuy(x w):zo 227 #[aw x,J 22] w (aw<|rr x 22):=by go_enter func227.1,gj;go_wp2;go_quiet (fail);go_wp2;go_ret;exact⟨O,nq,O⟩
def xzt(x w):zo 227 #[aw x,J 6] w (aw<|rr x 6):=by go_enter func227.1,gj;go_wp2;go_quiet (fail);go_wp2;go_ret;exact⟨O,nq,O⟩
def xut(x w):zo 227 #[aw x,J 11] w (aw<|rr x 11):=by go_enter func227.1,gj;go_wp2;go_quiet (fail);go_wp2;go_ret;exact⟨O,nq,O⟩
def xuz(x w):zo 227 #[aw x,J 25] w (aw<|rr x 25):=by go_enter func227.1,gj;go_wp2;go_quiet (fail);go_wp2;go_ret;exact⟨O,nq,O⟩
def xzu(x w):zo 227 #[aw x,J 7] w (aw<|rr x 7):=by go_enter func227.1,gj;go_wp2;go_quiet (fail);go_wp2;go_ret;exact⟨O,nq,O⟩
def xuw(x w):zo 227 #[aw x,J 18] w (aw<|rr x 18):=by go_enter func227.1,gj;go_wp2;go_quiet (fail);go_wp2;go_ret;exact⟨O,nq,O⟩
def xuv(x w):zo 227 #[aw x,J 17] w (aw<|rr x 17):=by go_enter func227.1,gj;go_wp2;go_quiet (fail);go_wp2;go_ret;exact⟨O,nq,O⟩
def xux(x w):zo 227 #[aw x,J 19] w (aw<|rr x 19):=by go_enter func227.1,gj;go_wp2;go_quiet (fail);go_wp2;go_ret;exact⟨O,nq,O⟩
def qi(l:Zl):Q:=l.foldl (λn b=>n*256+aN b) 0
def WQ(l b):qi (l++[b])=qi l*256+aN b:=by simp[qi]
def WS:∀(l:Zl) (n:Q),l.foldl (λn b=>n*256+aN b) n<(n+1)*256^T l
 |[],n=>by simp|b::r,n=>by have a:=b.toNat_lt;rw[GQ,xg,Cb];apply zm<|WS r<|n*256+aN b;rw[Nat.mul_comm (256^T r) 256,<-Nat.mul_assoc];exact Y5 _ À
theorem AS(l):qi l<256^T l:=by have:=WS l 0;simpa[qi]using this
def V'(q:Q)(b:Z8)(e:q<281474976710656):lr .or bB ((q:U)*256) (aN b:U)=((q*256+aN b:Q):U):=by
 have d:=b.toNat_lt;show IntKind.i64.wrap ((dM 64 ((q:U)*256)|||BitVec.ofInt 64 (aN b:U)).toNat:U)=_;have a:(dM 64<|(q:U)*256).toNat=2^8*q:=by rw[show((q:U)*256)=((2^8*q:Q):U) by omega,BitVec.ofInt_natCast,GL,Jd À]
 have c:(dM 64 (aN b:U)).toNat=aN b:=by rw[BitVec.ofInt_natCast,GL,Jd À]
 rw[BitVec.toNat_or,a,c,<-Vf À];grind [zh]
def Hy(l)(n:T l<=6)(w):aG 282 #[E l] w (J (qi l:Q)):=by
 go_enter func282.1,Tryz.ntmps282;go_wp2;go_loopw [3,4] (λv i wr=>∃k:Q,k<=T l/\i=J k/\v=J (qi (l.take k):Q)/\wr=w) (λ_ i _=>bL (T l-dV i));exact⟨0,À,O,O,O⟩;obtain⟨k,hk,rfl,rfl,rfl⟩:=hrel;by_cases a:k<T l
 ·let⟨b,c⟩:=JP<|(st l)[k]'(by rw[zn];exact a);have f:=WQ (l.take k) b;have j:l.take (k+1)=l.take k++[b]:=by rw[zp a,show l[k]=b from c]
  rw[<-j]at f;have d:=AS<|l.take k;have m:256^T (l.take k)<=256^5:=J7 Ã Á;generalize x:qi (l.take k)=q at*;have h:=V' q b À;have g:=b.toNat_lt;have o:(k:U)<(T l:Q):=À
  go_wp2;go_roundw;exact⟨k+1,À,Å,by rw[(xe f).o];go_num,bD⟩;exact Ð
 obtain rfl:k=T l:=À
 rw[jz];go_wp2;go_ret;simp
theorem Pj(n:Q)(g:n<=64)(w):aq 166 #[J n] w (E<|List.replicate n 0):=by
 have b:=Hx 0 0 O;go_enter func166.1,Tryz.ntmps166;go_wp2;go_loopw [3,4] (λv i wr=>∃k:Q,k<=n/\i=J k/\v=E (bS k 0)/\aP (V<|Z w) w wr) (λ_ i _=>bL (n-dV i));exact⟨0,À,O,O,zt _ _⟩;obtain⟨k,hk,rfl,rfl,a⟩:=hrel;by_cases d:k<n
 ·have f:T (bS k (0:Z8))=k:=by simp
  have c:H<|List.replicate (k+1) (0:Z8)=bS k 0++[0]:=Ku;generalize bS k (0:Z8)=X at*;have h:(k:U)<(n:Q):=À
  go_wp2;go_roundw;exact⟨k+1,À,Å,by rw[c.o],a.alloc a.size _⟩;exact Ð
 obtain rfl:k=n:=À
 go_wp2;go_ret;simp_all
theorem FI(n k:Q)(hk:k<=8)(w):aq 167 #[J n,J k] w (E<|nb n k):=by
 go_enter func167.1,Tryz.ntmps167;go_wp2;go_loopw [0,5,6] (λq v i wr=>∃j:Q,j<=k/\i=J j/\v=E (nb n j)/\q=J (n/256^j:Q)/\aP (V<|Z w) w wr) (λ_ _ i _=>bL (k-dV i));exact⟨0,À,O,O,Â,zt _ _⟩;obtain⟨j,h,rfl,rfl,rfl,a⟩:=hrel;by_cases g:j<k
 ·have l:=Z2 n j;have c:H (nb n (j+1)=bq (n/256^j)::nb n j):=O;have d:H<|n/256^j/256=n/256^(j+1):=by show _=_;rw[Om,Cb]
  generalize n/256^j=q at*;generalize nb n j=X at*;have f:IntKind.u8.wrap (q:U)=(aN (bq q):U):=zb9
  have b:=Hx (aN (bq q):U) (bq q) O;have m:(j:U)<(k:Q):=À
  go_wp2;go_roundw;exact⟨j+1,À,Å,by rw[c.o],by rw[<-d.o];go_num,a.alloc a.size _⟩;exact Ð
 obtain rfl:j=k:=À
 go_wp2;go_ret;simp_all
def wD(b a)(n k:Q)(c:b=(n:U))(d:a=(k:U))(hk:k<=8)(w):aq 167 #[J b,J a] w (E<|nb n k):=by grind [FI]
end
section
attribute[local go_sem] zn zg
structure zj(S:ZP)(w w':Zy):Prop where
 os:w'.os=w.os
 cX:w'.output=w.output
 aD:V (Z w)<=V (Z w')
 dP:∀k,k<V (Z w)->¬S k->w'.heap[k]?=w.heap[k]?
theorem zj.refl(S w):zj S w w:=⟨O,O,zd _,λ_ _ _=>O⟩
theorem zj.aE{c}(h:zj S a b)(k:zj S b c):zj S a c:=⟨k.os.trans h.os,k.cX.trans h.cX,xa h.aD k.aD,λi d e=>(k.dP i (zm d h.aD) e).trans<|h.dP i d e⟩
def zj.U{c}(h:zj S a b)(k:∀x,S x->c x):zj c a b:=⟨h.os,h.cX,h.aD,λi d e=>h.dP i d λx=>e<|k i x⟩
def zj.J(h:aP (V<|Z w) w w'):zj S w w':=⟨h.os,h.output,h.size,λk hk _=>h.block k hk⟩
def zj.i(h:zj S w w'){p}(b:¬S p.block)(a:N w p=Y v):N w' p=Y v:=
 (Z6<|h.dP p.block (js a) b).trans a
theorem zj.re{t d}(h:zj S w<|A.re w' t d):zj S w w':=⟨h.os,h.cX,h.aD,h.dP⟩
def vD(l n):(st l).extract 0 n=st (l.take n):=zba
def Pq(l n):(st l).extract n (T l)=st (l.drop n):=by apply DM;grind [st,zaj]
theorem Pg(w):aG 152 #[bG M] w (cE #[]):=by go_enter func152.1,Tryz.ntmps152;go_wp2;go_end0;grind
def ip(z:Zv)(w:Zy):Prop:=∃t x,z=iW t x/\N w (K 1 0)=Y z
abbrev kn(z:Zv):kH:=iL [{v:=z,recovered:=ao}]
theorem WM(w)(a:ip z w):aK prog 152 #[bG ao] w λe w'=>e=kn z/\w'=w:=by obtain⟨t,x,rfl,a⟩:=a;go_enter func152.1,Tryz.ntmps152;go_wp2;exact⟨O,O,O⟩
theorem Hz(n:Q)(w):aq 148 #[J n] w (E<|nb n 1):=by
 have c:IntKind.u8.wrap (n:U)=(aN (bq n):U):=zb9
 have a:=Hx (aN (bq n):U) (bq n) O;have b:H<|nb n 1=[bq n]:=by show _=_;simp[nb]
 go_enter func148.1,Tryz.ntmps148;go_wp2;go_ret;exact⟨á,(zt _ _).alloc (zd _) _⟩
def Lf(m)(n:Q)(h:m=(n:U))(w):aq 148 #[J m] w (E<|nb n 1):=by grind [Hz]
def xyw(n):nb n 2=nb (n/256) 1++nb n 1:=by simp[nb]
def xtz(n):nb n 4=nb (n/65536) 2++nb n 2:=by grind [nb]
theorem Lx(n:Q)(w):aq 157 #[J n] w (E<|nb n 2):=by go_enter func157.1,Tryz.ntmps157;go_wp2;apply(Lf _ (n/256) À _).mono;rintro e w1⟨rfl,a⟩;go_wp2;apply(Lf _ n O _).mono;rintro e c⟨rfl,b⟩;go_wp2;go_ret;exact⟨by rw[(xyw n)];rfl,Xs a b⟩
def VT(m)(n:Q)(h:m=(n:U))(w):aq 157 #[J m] w (E<|nb n 2):=by grind [Lx]
theorem WI(n:Q)(w):aq 158 #[J n] w (E<|nb n 4):=by go_enter func158.1,Tryz.ntmps158;go_wp2;apply(VT _ (n/65536) À _).mono;rintro e w1⟨rfl,a⟩;go_wp2;apply(VT _ n O _).mono;rintro e c⟨rfl,b⟩;go_wp2;go_ret;exact⟨by rw[(xtz n)];rfl,Xs a b⟩
def Pf(m)(n:Q)(h:m=(n:U))(w):aq 158 #[J m] w (E<|nb n 4):=by grind [WI]
def Yt(h)(a:h=M)(w):aG 152 #[bG h] w (cE #[]):=by grind [Pg]
def Jw(h)(b:h=ao)(w)(a:ip z w):aK prog 152 #[bG h] w λe w'=>e=kn z/\w'=w:=by grind [WM]
theorem xvj(b l)(n:Q)(d:n<=T l)(w)(a:N w ⟨b,0,R⟩=(ak<|st l))(c:aX w ⟨b,0,R⟩=ao):aK prog 207 #[aU<|some ⟨b,0,R⟩,aD bB n] w λe w'=>e=ai (ak<|st<|l.take n)/\w'=ay w ⟨b,0,R⟩ (ak<|st<|l.drop n):=by go_enter func207.1,Tryz.ntmps207;go_wp2;apply(Yt _ Â _).mono;rintro e w1⟨rfl,rfl⟩;go_wp2;go_ret;exact⟨by rw[<-vD];rfl,by rw[<-Pq]⟩
theorem xqn(b l)(n:Q)(f:T l<n)(w)(d:N w (K b 0)=E l)(a:ip z w):aK prog 207 #[zq b,J n] w λe w'=>e=kn z/\w'=w:=by
 have c:¬(n:U)<=(T l:Q):=À
 go_enter func207.1,Tryz.ntmps207;go_wp2;apply(Jw _ Â _ a).mono;rintro e w1⟨rfl,rfl⟩;exact⟨O,O,O⟩
def WK(b l m)(n:Q)(d:m=(n:U))(f:n<=T l)(w)(a:N w (K b 0)=E l)(c:aX w (K b 0)=ao):aK prog 207 #[zq b,J m] w λe w'=>e=ai (E<|l.take n)/\w'=ay w (K b 0) (E<|l.drop n):=by grind [xvj]
def WJ(b l m)(n:Q)(d:m=(n:U))(f:T l<n)(w)(c:N w (K b 0)=E l)(a:ip z w):aK prog 207 #[zq b,J m] w λe w'=>e=kn z/\w'=w:=by grind [xqn]
end
section
attribute[local go_sem] Cs FD ux FC FE zn zg VM U8
def bm(l:Zl)(j:Q):Z8:=l.getD j 0
def xvt(m k):IntKind.u32.wrap ((qi [m<|4*k,m<|4*k+1,m<|4*k+2,m<|4*k+3]:Q):U)=u (D7 m k):=by
 have e:qi [m<|4*k,m<|4*k+1,m<|4*k+2,m<|4*k+3]=((aN (m<|4*k)*256+aN (m<|4*k+1))*256+aN (m<|4*k+2))*256+aN (m<|4*k+3):=by simp[qi]
 rw[e];unfold D7 wu;have i:=(m<|4*k).toNat_lt;have j:=(m<|4*k+1).toNat_lt;have l:=(m<|4*k+2).toNat_lt;have n:=(m<|4*k+3).toNat_lt;generalize(m _).toNat=a at*;generalize(m _).toNat=b at*;generalize(m _).toNat=c at*;generalize(m _).toNat=d at*;rw[Fy _ À À,jdu];simp only[BitVec.toNat_or,BitVec.toNat_shiftLeft,GL,Nat.shiftLeft_eq];have f:a%2^32*2^24%2^32=2^24*a:=by rw[Jd (show a<2^32 by omega),Jd À,Nat.mul_comm]
 have g:b%2^32*2^16%2^32=2^16*b:=by rw[Jd (show b<2^32 by omega),Jd À,Nat.mul_comm]
 have h:c%2^32*2^8%2^32=2^8*c:=by rw[Jd (show c<2^32 by omega),Jd À,Nat.mul_comm]
 rw[f,g,h,Jd À,<-Vf À a];rw[show 2^24*a+2^16*b=2^16*(a*256+b) by omega,<-Vf À _];rw[show 2^16*(a*256+b)+2^8*c=2^8*((a*256+b)*256+c) by omega,<-Vf À _];omega
def je0(l k)(h:4*k+4<=T l):(st l).extract (4*k) (4*k+4)=st [bm l<|4*k,bm l<|4*k+1,bm l<|4*k+2,bm l<|4*k+3]:=by apply DM;apply Array.toList_inj.1;simp only[st,zaj,List.extract_toArray,List.toList_toArray];rw[List.extract_eq_take_drop,show 4*k+4-4*k=4 by omega];apply Ye;grind [bm]
def xw2(m i)(h:16<=i):Wf m i=Fw (Wf m<|i-2)+Wf m (i-7)+Fv (Wf m<|i-15)+Wf m (i-16):=by grind [OW]
def J8.fV(h:J8 w C a)(n):J8 w C<|a.drewN n:=⟨below_drewN h.fH n,h.sz,h.b0,h.b1⟩
theorem J8.put(h:J8 w C a)(k v):J8 w (aA C k v)<|ay a (K (V (Z w)+1) k) v:=by refine⟨(h.fH).setCell Á _,Ö,?_,jx _ _ _ _ _ _ h.b1⟩;rw[jj _ _ _ _ Á];exact h.b0
def xlc(l)(hl:T l=64)(w):
  aq 226 #[ak<|st l] w (bY (bH (wv<|Wf<|bm l))):=by
 go_enter func226.1,Tryz.ntmps226;go_wp2;go_loopw [4] (λi wr=>∃(k:Q) (C:Za),k<=16/\i=aD bB k/\J8 w C wr/\V C=64/\∀i,i<k->C[i]?=(aD cJ<|u<|Wf (bm l) i)) (λi _=>bL (16-dV i));exact⟨0,yr,À,O,J8.gC w,O,λi F=>À⟩;obtain⟨k,C,hk,rfl,inv,e,b⟩:=hrel;by_cases g:k<16
 ·have hd:(k:U)<64:=À;have i5:(0:U)<=4*(k:U):=À
  have i6:4*(k:U)+4<=64:=À
  obtain⟨c,D⟩:∃c,N wr ⟨V (Z w)+1,k,R⟩=Y c:=⟨C[k]' À,xT⟩;have P:aX wr ⟨V (Z w)+1,k,R⟩=ao:=xt _ _ _ _ _ inv.b1;have m:∀i,i<k+1->(aA C k<|aD cJ<|u<|Wf (bm l) k)[i]?=(aD cJ<|u<|Wf (bm l) i):=K2 e À b;have F:=inv.put k<|aD cJ<|u<|Wf (bm l) k;rw[OX (bm l) k g]at F m;have I:=xvt (bm l) k;go_wp2;rw[je0 l k À];refine(Hy [bm l<|4*k,bm l<|4*k+1,bm l<|4*k+2,bm l<|4*k+3] Â _).mono ?_;rintro en w2⟨rfl,rfl⟩;generalize qi [bm l<|4*k,bm l<|4*k+1,bm l<|4*k+2,bm l<|4*k+3]=q at*;generalize D7 (bm l) k=W at*;go_wp2;go_roundw;exact⟨k+1,_,À,Å,F,Á,m⟩;exact Ð
 obtain rfl:k=16:=À
 go_wp2;go_loopw [5] (λi w2=>∃(k:Q) (C:Za),16<=k/\k<=64/\i=aD bB k/\J8 w C w2/\V C=64/\∀i,i<k->C[i]?=(aD cJ<|u<|Wf (bm l) i)) (λi _=>bL (64-dV i));exact⟨16,C,À,À,O,inv,e,b⟩;obtain⟨k,C,p,hk,rfl,inv,e,b⟩:=hrel;have inv.sz:=inv.sz;by_cases g:k<64
 ·have hd:(k:U)<64:=À;have g':IntKind.i64.wrap ((k:U)-16)=(k:U)-16:=Í
  have v':(16:U)<=(k:U):=À
  have ba:(k:U)<80:=À
  have es:(k:U)-16<64:=À
  have n:N wr ⟨V (Z w)+1,bL ((k:U)-16),R⟩=(aD cJ<|u<|Wf (bm l)<|k-16):=by rw[show((k:U)-16).toNat=k-16 by omega,xb _ _ _ _ _ _ inv.b1,b _ À]
  have o:N wr ⟨V (Z w)+1,k-16,R⟩=(aD cJ<|u<|Wf (bm l)<|k-16):=zdi
  have L:IntKind.i64.wrap ((k:U)-15)=(k:U)-15:=Í
  have h3:(15:U)<=(k:U):=À
  have ih:(k:U)<79:=À
  have X:(k:U)-15<64:=À
  have x:N wr ⟨V (Z w)+1,bL ((k:U)-15),R⟩=(aD cJ<|u<|Wf (bm l)<|k-15):=by rw[show((k:U)-15).toNat=k-15 by omega,xb _ _ _ _ _ _ inv.b1,b _ À]
  have y:N wr ⟨V (Z w)+1,k-15,R⟩=(aD cJ<|u<|Wf (bm l)<|k-15):=zdi
  have e7:IntKind.i64.wrap ((k:U)-7)=(k:U)-7:=Í
  have p7:(7:U)<=(k:U):=À
  have r7:(k:U)<71:=À
  have q7:(k:U)-7<64:=À
  have G:N wr ⟨V (Z w)+1,bL ((k:U)-7),R⟩=(aD cJ<|u<|Wf (bm l)<|k-7):=by rw[show((k:U)-7).toNat=k-7 by omega,xb _ _ _ _ _ _ inv.b1,b _ À]
  have A:N wr ⟨V (Z w)+1,k-7,R⟩=(aD cJ<|u<|Wf (bm l)<|k-7):=zdi
  have e2:IntKind.i64.wrap ((k:U)-2)=(k:U)-2:=Í
  have p2:(2:U)<=(k:U):=À
  have r2:(k:U)<66:=À
  have q2:(k:U)-2<64:=À
  have h1:N wr ⟨V (Z w)+1,bL ((k:U)-2),R⟩=(aD cJ<|u<|Wf (bm l)<|k-2):=by rw[show((k:U)-2).toNat=k-2 by omega,xb _ _ _ _ _ _ inv.b1,b _ À]
  have h2:N wr ⟨V (Z w)+1,k-2,R⟩=(aD cJ<|u<|Wf (bm l)<|k-2):=zdi
  obtain⟨c,D⟩:∃c,N wr ⟨V (Z w)+1,k,R⟩=Y c:=⟨C[k]' À,xT⟩;have P:aX wr ⟨V (Z w)+1,k,R⟩=ao:=xt _ _ _ _ _ inv.b1;have m:∀i,i<k+1->(aA C k<|aD cJ<|u<|Wf (bm l) k)[i]?=(aD cJ<|u<|Wf (bm l) i):=K2 e À b;have t:∀d,J8 w C d->J8 w (aA C k<|aD cJ<|u<|Wf (bm l) k) (ay d.drew ⟨V (Z w)+1,k,R⟩<|aD cJ<|u<|Wf (bm l) k):=λd h=>h.H k _;rw[xw2 (bm l) k p]at t m;unfold Fv Fw at t m;generalize Wf (bm l) (k-16)=x16 at*;generalize Wf (bm l) (k-15)=x15 at*;generalize Wf (bm l) (k-7)=x7 at*;generalize Wf (bm l) (k-2)=x2 at*;go_wp2;refine(xzu x15 _).mono ?_;rintro en w2⟨rfl,n1,rfl⟩;go_wp2;refine(xuw x15 _).mono ?_;rintro en w2⟨rfl,hx,rfl⟩;go_wp2;refine(xuv x2 _).mono ?_;rintro en w2⟨rfl,S,rfl⟩;go_wp2;refine(xux x2 _).mono ?_;rintro en w2⟨rfl,ho,rfl⟩;go_wp2;let⟨d,a⟩:=JP<|wr.drewN (n1+hx+S+ho);have s:J8 w C d:=by rw[<-a];exact inv.fV _
  have x1:N d ⟨V (Z w)+1,bL ((k:U)-7),R⟩=(aD cJ<|u x7):=by rw[<-a];exact G
  have x3:N d ⟨V (Z w)+1,bL ((k:U)-16),R⟩=(aD cJ<|u x16):=by rw[<-a];exact n
  have x4:N d ⟨V (Z w)+1,k-7,R⟩=(aD cJ<|u x7):=by rw[<-a];exact A
  have x5:N d ⟨V (Z w)+1,k-16,R⟩=(aD cJ<|u x16):=by rw[<-a];exact o
  have x6:N d ⟨V (Z w)+1,k,R⟩=Y c:=by rw[<-a];exact D
  have x8:aX d ⟨V (Z w)+1,k,R⟩=ao:=by rw[<-a];exact P
  rw[a];clear a n x G h1 o y A h2 D P inv;go_still_tail 15,Ä;go_wp2;go_roundw;(repeat apply ng);exact⟨⟨k+1,_,À,À,Å,t d s,Á,m⟩,O⟩;exact Ý
 obtain rfl:k=64:=À
 have z:C=bH (wv<|Wf<|bm l):=VH e b;subst z;clear b hk p g;have f:(prog.info? 236).map (·.size)=Y (V (wv<|Wf<|bm l).toArray):=zb7
 have cs:V yr=V (wv<|Wf<|bm l).toArray:=by rw[O',jd,D']
 have r:(wr.setRow (V<|Z w) (bH (wv<|Wf<|bm l))).heap[V (Z w)]?=Y (au (bH (wv<|Wf<|bm l)) 236 (0,0)):=Jr _ _ _ _ _ _ inv.b0;have B:aP (V<|Z w) w<|wr.setRow (V<|Z w) (bH (wv<|Wf<|bm l)):=inv.fH.trans ⟨O,O,O,Â,λj hj=>setRow_other _ _ _ _ À⟩;go_wp2_with (first|refine J6 O 236 _ O (V (Z w)+1) O 236 _ (0,0) _ inv.b1 jR O f ?_|refine Zo O 236 _ _ O w.heap.size _ O O 236 _ inv.b0 f cs (OV _) ?_);exact ji (v:=bY (bH (wv<|Wf<|bm l))) (Jf O _ _ (V<|Z w) 236 _ (0,0) _ O r jR O f) O ⟨O,B⟩
end
section
attribute[local go_sem] Cs FD ux FC FE zn zg
def xk1(h:w.heap[g]?=Y (au #[aw s.a,aw s.b,aw s.c,aw s.d,aw s.e,aw s.f,aw s.g,aw s.h] 233 (0,0))):N w (K g 0)=aw s.a/\N w (K g 1)=aw s.b/\N w (K g 2)=aw s.c/\N w (K g 3)=aw s.d/\N w (K g 4)=aw s.e/\N w (K g 5)=aw s.f/\N w (K g 6)=aw s.g/\N w (K g 7)=aw s.h:=by refine⟨?_,?_,?_,?_,?_,?_,?_,?_⟩;all_goals (rw[xb _ _ _ _ _ _ h];rfl)
def Yq(w:Zy):Prop:=∀i,i<64->N w (K 3 i)=(aw<|Kc i)
def Yq.ac(h:Yq w)(a:3<B)(b:aP B w w'):Yq w':=λi c=>(b.cell a).trans<|h i c
def Yq.iE(h:Yq w):3<V (Z w):=js<|h 0 Ã
structure Wh(w:Zy)(b2 b3:Q)(W:Q->Z3)(C D:Za)(x:Zy):Prop where
 fH:aP (V<|Z w) w x
 sz:b3<V (Z x)
 Hr:V (Z w)+1<b2
 Ht:b2<b3
 h0:x.heap[V (Z w)]?=Y (au D 233 (0,0))
 h1:x.heap[V (Z w)+1]?=Y (au #[zu 0,zu 0,zu 0,zu 0,zu 0,zu 0,zu 0,zu 0] 233 (0,0))
 h2:x.heap[b2]?=Y (au (bH (wv W)) 236 (0,0))
 h3:x.heap[b3]?=Y (au C 233 (0,0))
def Wh.gC{W}(i:aP (V<|Z w) w w1)(j:V (Z w)+1<V (Z w1))(k:w1.heap[V (Z w)]?=Y (au #[aw s.a,aw s.b,aw s.c,aw s.d,aw s.e,aw s.f,aw s.g,aw s.h] 233 (0,0)))(l:w1.heap[V (Z w)+1]?=Y (au #[zu 0,zu 0,zu 0,zu 0,zu 0,zu 0,zu 0,zu 0] 233 (0,0))):
  Wh w (V<|Z w1) (V (Z w1)+1) W #[aw s.a,aw s.b,aw s.c,aw s.d,aw s.e,aw s.f,aw s.g,aw s.h] #[aw s.a,aw s.b,aw s.c,aw s.d,aw s.e,aw s.f,aw s.g,aw s.h] (aF (aF w1<|au (bH (wv W)) 236)<|au #[aw s.a,aw s.b,aw s.c,aw s.d,aw s.e,aw s.f,aw s.g,aw s.h] 233):=by
 refine⟨(i.alloc i.size _).alloc (by have:=i.size;simp;omega) _,Â,j,À,?_,?_,heap_alloc2_old _ _ _,heap_alloc2_new _ _ _⟩;grind [Xj];grind [Xj]
theorem Wh.put{W}(h:Wh w b2 b3 W C D a)(k v):Wh w b2 b3 W C (aA D k v)<|ay a.drew (K (V<|Z w) k) v:=by have l1:=h.Hr;have b:=h.Ht;refine⟨(h.fH.drew).setCell (zd _) _,Ö,h.Hr,h.Ht,jx _ _ _ _ _ _ h.h0,?_,?_,?_⟩;rw[jj _ _ _ _ Á];exact h.h1;rw[jj _ _ _ _ Á];exact h.h2;rw[jj _ _ _ _ Á];exact h.h3
def Wh.fV{W}(h:Wh w b2 b3 W C D a)(n):Wh w b2 b3 W C D<|a.drewN n:=
 ⟨below_drewN h.fH n,h.sz,h.Hr,h.Ht,h.h0,h.h1,h.h2,h.h3⟩
def Wh.wy{g W i c1 c2 c3 j k l m}(h:Wh w b2 b3 W #[i,c1,c2,c3,j,k,l,m] D g)(x a q b c d e f):
  Wh w b2 b3 W #[x,a,q,b,c,d,e,f] D (ay (ay (ay (ay (ay (ay (ay (ay g (K b3 0) x) (K b3 1) a) (K b3 2) q) (K b3 3) b) (K b3 4) c) (K b3 5) d) (K b3 6) e) (K b3 7) f):=by
 have l1:=h.Hr;have n:=h.Ht;refine⟨Fx _ _ _ _ _ _ _ _ _ _ _ _ À h.fH,by rw[O9];exact h.sz,h.Hr,h.Ht,?_,?_,?_,P.wy _ _ _ _ _ _ _ _ _ _ _ _ _ _ _ _ _ _ _ h.h3⟩;rw[D8 _ _ _ _ _ _ _ _ _ _ _ À];exact h.h0;rw[D8 _ _ _ _ _ _ _ _ _ _ _ À];exact h.h1;rw[D8 _ _ _ _ _ _ _ _ _ _ _ À];exact h.h2
def zv9(s l)(hl:T l=64)(w)(hT:Yq w):
  aq 168 #[bY #[aw s.a,aw s.b,aw s.c,aw s.d,aw s.e,aw s.f,aw s.g,aw s.h],E l] w (bY #[zu<|u (Jb s<|Wf<|bm l).a,zu<|u (Jb s<|Wf<|bm l).b,zu<|u (Jb s<|Wf<|bm l).c,zu<|u (Jb s<|Wf<|bm l).d,zu<|u (Jb s<|Wf<|bm l).e,zu<|u (Jb s<|Wf<|bm l).f,zu<|u (Jb s<|Wf<|bm l).g,zu<|u (Jb s<|Wf<|bm l).h]):=by
 have HT:Yq w:=hT;have P:=hT.iE;go_enter func168.1,Tryz.ntmps168;go_wp2;refine(xlc l hl _).mono ?_;rintro en w1⟨rfl,m⟩;have bx:=(xk1<|(m.block (V<|Z w) Ç).trans<|heap_alloc2_old _ _ _);obtain⟨x0,x1,x2,x3,x4,x5,x6,x7⟩:=bx;have A:V (Z w)+1<V (Z w1):=by have:=m.size;simp at this;omega
 have b7:V (Z w)<V (Z w1):=À
 have t:=(((zt _ _).alloc (zd _) _).alloc Â _).trans (m.mono Ç);have hd:w1.heap[V (Z w)]?=Y (au #[aw s.a,aw s.b,aw s.c,aw s.d,aw s.e,aw s.f,aw s.g,aw s.h] 233 (0,0)):=(m.block (V<|Z w) Ç).trans<|heap_alloc2_old _ _ _;have hx:w1.heap[V (Z w)+1]?=Y (au #[zu 0,zu 0,zu 0,zu 0,zu 0,zu 0,zu 0,zu 0] 233 (0,0)):=(m.block (V (Z w)+1) Â).trans<|heap_alloc2_new _ _ _;let⟨W,hW⟩:=JP<|Wf (bm l);rw[hW];have HW:H<|Wf (bm l)=W:=hW;have G:H<|w1.heap[V (Z w)]?=Y (au #[aw s.a,aw s.b,aw s.c,aw s.d,aw s.e,aw s.f,aw s.g,aw s.h] 233 (0,0)):=hd;have ho:H<|w1.heap[V (Z w)+1]?=Y (au #[zu 0,zu 0,zu 0,zu 0,zu 0,zu 0,zu 0,zu 0] 233 (0,0)):=hx;have x:(prog.info? 236).map (·.size)=Y (V (wv W).toArray):=zb7
 have I:(wv W).toArray.all (·.oneCell')=M:=OV _;have hz:V yr=V (wv W).toArray:=by rw[O',jd,D']
 go_wp2_with (refine Zo O 236 _ _ O w1.heap.size _ O O 236 yr (xn _ _) x hz I ?_;rw[og]);go_loopw [7] (λi wr=>∃k:Q,k<=64/\i=J k/\Wh w (V<|Z w1) (V (Z w1)+1) W #[zu<|u (hY s W k).a,zu<|u (hY s W k).b,zu<|u (hY s W k).c,zu<|u (hY s W k).d,zu<|u (hY s W k).e,zu<|u (hY s W k).f,zu<|u (hY s W k).g,zu<|u (hY s W k).h] #[aw s.a,aw s.b,aw s.c,aw s.d,aw s.e,aw s.f,aw s.g,aw s.h] wr) (λi _=>bL (64-dV i));exact⟨0,À,O,Wh.gC t A G.o ho.o⟩;obtain⟨k,hk,rfl,inv⟩:=hrel;have b6:=inv.sz;by_cases n:k<64
 ·have i1:(k:U)<64:=À;have b3:N wr (K 3 k)=(aw<|Kc k):=(inv.fH.cell (p:=K 3 k) P).trans<|HT k n;have b4:N wr (K (V<|Z w1) k)=(aw<|W k):=by rw[xb _ _ k _ _ _ inv.h2];simpa using OZ W k n
  let⟨r,hr⟩:=JP<|hY s W k;rw[hr]at inv;have HR:H<|hY s W k=r:=hr;obtain⟨S,bb,cs,bc,g',bd,v',be,X,bf,es,bg,ih,bh,ba,bi⟩:=Cx inv.h3;go_wp2;go_quiet ((first|(go_at_call_of 227 (aD bB 6);exact Calls.quiet_of<|xzt _ _)|(go_at_call_of 227 (aD bB 11);exact Calls.quiet_of<|xut _ _)|(go_at_call_of 227 (aD bB 25);exact Calls.quiet_of<|xuz _ _)));go_wp2;refine(xzs r.a _).mono ?_;rintro en w2⟨rfl,n1,rfl⟩;go_wp2;refine(xuu r.a _).mono ?_;rintro en w2⟨rfl,n2,rfl⟩;go_wp2;refine(xuy r.a _).mono ?_;rintro en w2⟨rfl,n3,rfl⟩;let⟨F,z⟩:=JP<|(wr.drewN<|nq+n1+n2).drewN n3;have o:Wh w (V<|Z w1) (V (Z w1)+1) W #[aw r.a,aw r.b,aw r.c,aw r.d,aw r.e,aw r.f,aw r.g,aw r.h] #[aw s.a,aw s.b,aw s.c,aw s.d,aw s.e,aw s.f,aw s.g,aw s.h] F:=by rw[<-z];exact(inv.fV _).fV _
  rw[z];obtain⟨S,bb,cs,bc,g',bd,v',be,X,bf,es,bg,ih,bh,ba,bi⟩:=Cx o.h3;let⟨q,y⟩:=JP<|r.h+(rr r.e 6^^^rr r.e 11^^^rr r.e 25)+(r.e&&&r.f^^^ ~~~r.e&&&r.g)+Kc k+W k;rw[y];have B:Wh w (V<|Z w1) (V (Z w1)+1) W #[zu<|u (hY s W<|k+1).a,zu<|u (hY s W<|k+1).b,zu<|u (hY s W<|k+1).c,zu<|u (hY s W<|k+1).d,zu<|u (hY s W<|k+1).e,zu<|u (hY s W<|k+1).f,zu<|u (hY s W<|k+1).g,zu<|u (hY s W<|k+1).h] #[aw s.a,aw s.b,aw s.c,aw s.d,aw s.e,aw s.f,aw s.g,aw s.h]<|ay (ay (ay (ay (ay (ay (ay (ay F (K (V (Z w1)+1) 0)<|zu<|u<|q+((rr r.a 2^^^rr r.a 13^^^rr r.a 22)+(r.a&&&r.b^^^r.a&&&r.c^^^r.b&&&r.c))) (K (V (Z w1)+1) 1)<|aw r.a) (K (V (Z w1)+1) 2)<|aw r.b) (K (V (Z w1)+1) 3)<|aw r.c) (K (V (Z w1)+1) 4)<|aw<|r.d+q) (K (V (Z w1)+1) 5)<|aw r.e) (K (V (Z w1)+1) 6)<|aw r.f) (K (V (Z w1)+1) 7)<|aw r.g:=by
   have e:#[zu<|u (hY s W<|k+1).a,zu<|u (hY s W<|k+1).b,zu<|u (hY s W<|k+1).c,zu<|u (hY s W<|k+1).d,zu<|u (hY s W<|k+1).e,zu<|u (hY s W<|k+1).f,zu<|u (hY s W<|k+1).g,zu<|u (hY s W<|k+1).h]=(#[zu<|u<|q+((rr r.a 2^^^rr r.a 13^^^rr r.a 22)+(r.a&&&r.b^^^r.a&&&r.c^^^r.b&&&r.c)),aw r.a,aw r.b,aw r.c,aw<|r.d+q,aw r.e,aw r.f,aw r.g]:Za):=by
    have e1:T1 r.e r.f r.g r.h (Kc k+W k)=q:=by rw[<-y];unfold T1 OS ch;ac_rfl
    show _=_;simp only[hY,VP,HR.o,e1,T2,OR,OT]
   rw[e];exact o.wy _ _ _ _ _ _ _ _
  go_wp2;go_roundw;exact⟨k+1,À,Å,B⟩;exact Ð
 obtain rfl:k=64:=À
 go_wp2;go_loopw [14] (λi w2=>∃(k:Q) (D:Za),k<=8/\i=J k/\Wh w (V<|Z w1) (V (Z w1)+1) W #[zu<|u (hY s W 64).a,zu<|u (hY s W 64).b,zu<|u (hY s W 64).c,zu<|u (hY s W 64).d,zu<|u (hY s W 64).e,zu<|u (hY s W 64).f,zu<|u (hY s W 64).g,zu<|u (hY s W 64).h] D w2/\V D=8/\∀i,i<8->D[i]?=Y (aw (if i<k then kX (hY s W 64) i+kX s i else kX s i))) (λi _=>bL (8-dV i));exact⟨0,_,À,O,inv,O,λi h=>by rw[aL À];exact FB _ i h⟩;obtain⟨k,D,hk,rfl,j,L,hD⟩:=hrel;have bj:=j.sz;by_cases n:k<8
 ·have h1:N wr (K (V<|Z w) k)=(aw<|kX s k):=by rw[xb _ _ k _ _ _ j.h0,hD k n,aL À]
  have h2:N wr (K (V (Z w1)+1) k)=(aw<|kX (hY s W 64) k):=by rw[xb _ _ k _ _ _ j.h3,FB _ k n]
  have h3:aX wr (K (V<|Z w) k)=ao:=xt _ _ _ _ _ j.h0;have b5:kX (hY s W 64) k+kX s k=kX s k+kX (hY s W 64) k:=BitVec.add_comm _ _;have C:Wh w (V<|Z w1) (V (Z w1)+1) W #[zu<|u (hY s W 64).a,zu<|u (hY s W 64).b,zu<|u (hY s W 64).c,zu<|u (hY s W 64).d,zu<|u (hY s W 64).e,zu<|u (hY s W 64).f,zu<|u (hY s W 64).g,zu<|u (hY s W 64).h] (aA D k<|aw<|kX s k+kX (hY s W 64) k)<|ay wr.drew (K (V<|Z w) k)<|aw<|kX s k+kX (hY s W 64) k:=j.put k _;have hs:∀i,i<8->(aA D k<|aw<|kX s k+kX (hY s W 64) k)[i]?=Y (aw (if i<k+1 then kX (hY s W 64) i+kX s i else kX s i)):=by intro i h;rw[Xy];by_cases e:k=i;simp_all;rw[aL e,hD i h];by_cases e2:i<k;rw[aT e2,aT À];rw[aL e2,aL À]
  go_wp2;go_still_tail 9,Ä;go_wp2;go_roundw;(repeat apply ng);exact⟨⟨k+1,_,À,Å,C,É,hs⟩,O⟩;exact Ý
 obtain rfl:k=8:=À
 have hw:D=#[zu<|u (Jb s W).a,zu<|u (Jb s W).b,zu<|u (Jb s W).c,zu<|u (Jb s W).d,zu<|u (Jb s W).e,zu<|u (Jb s W).f,zu<|u (Jb s W).g,zu<|u (Jb s W).h]:=VJ L (λi h=>É);subst hw;obtain⟨bk,bt,bl,bu,bn,bv,bo,bw,bp,bz,bq,b0,br,b1,bs,b2⟩:=Cx j.h0;have z0:N wr (K (V (Z w)+1) 0)=zu 0:=by rw[xb _ _ 0 _ _ _ j.h1];rfl
 have f0:aX wr (K (V (Z w)+1) 0)=ao:=xt _ _ _ _ _ j.h1;have z1:N wr (K (V (Z w)+1) 1)=zu 0:=by rw[xb _ _ 1 _ _ _ j.h1];rfl
 have f1:aX wr (K (V (Z w)+1) 1)=ao:=xt _ _ _ _ _ j.h1;have z2:N wr (K (V (Z w)+1) 2)=zu 0:=by rw[xb _ _ 2 _ _ _ j.h1];rfl
 have f2:aX wr (K (V (Z w)+1) 2)=ao:=xt _ _ _ _ _ j.h1;have z3:N wr (K (V (Z w)+1) 3)=zu 0:=by rw[xb _ _ 3 _ _ _ j.h1];rfl
 have f3:aX wr (K (V (Z w)+1) 3)=ao:=xt _ _ _ _ _ j.h1;have z4:N wr (K (V (Z w)+1) 4)=zu 0:=by rw[xb _ _ 4 _ _ _ j.h1];rfl
 have f4:aX wr (K (V (Z w)+1) 4)=ao:=xt _ _ _ _ _ j.h1;have z5:N wr (K (V (Z w)+1) 5)=zu 0:=by rw[xb _ _ 5 _ _ _ j.h1];rfl
 have f5:aX wr (K (V (Z w)+1) 5)=ao:=xt _ _ _ _ _ j.h1;have z6:N wr (K (V (Z w)+1) 6)=zu 0:=by rw[xb _ _ 6 _ _ _ j.h1];rfl
 have f6:aX wr (K (V (Z w)+1) 6)=ao:=xt _ _ _ _ _ j.h1;have z7:N wr (K (V (Z w)+1) 7)=zu 0:=by rw[xb _ _ 7 _ _ _ j.h1];rfl
 have f7:aX wr (K (V (Z w)+1) 7)=ao:=xt _ _ _ _ _ j.h1;have HB:aP (V<|Z w) w wr:=j.fH;go_wp2;refine ji (v:=bY #[zu<|u (Jb s W).a,zu<|u (Jb s W).b,zu<|u (Jb s W).c,zu<|u (Jb s W).d,zu<|u (Jb s W).e,zu<|u (Jb s W).f,zu<|u (Jb s W).g,zu<|u (Jb s W).h]) ?_ O ⟨by rw[HW.o],?_⟩
 ·simp[eR,Tryz.results168,go_sem, *]
 exact Fx _ _ _ _ _ _ _ _ _ _ _ _ À HB
def jbo{X}(h:a.heap[g]?=Y X)(c:aP (V<|Z a) a b):b.heap[g]?=Y X:=
 (c.block g (za.1 h).1).trans h
def jbn{X}(b:aP (V (aF w X).drew.heap) (aF w X).drew a):a.heap[V (Z w)]?=Y X:=
 (b.block (V<|Z w) Â).trans (xn w X)
def jbp{X}(b:aP (V (aF w X).heap) (aF w X) a):a.heap[V (Z w)]?=Y X:=
 (b.block (V<|Z w) Â).trans (xn w X)
def jes{X}(b:aP (V (aF w X).drew.heap) (aF w X).drew a):aP (V<|Z w) w a:=(((zt _ w).alloc (zd _) X).drew).trans<|b.mono Â
def VS(b:aP (V w.drew.heap) w.drew a):aP (V<|Z w) w a:=((zt _ w).drew).trans b
def jet{c X}(a:aP (V<|Z w) w b)(d:aP (V (aF b X).heap) (aF b X) c):aP (V<|Z w) w c:=(a.alloc a.size X).trans<|d.mono<|by have:=a.size;simp;omega
def Lr(w g)(h:w.heap[g]?=Y (au #[zb 128] 5 (0,0))):(convert 100 9<|aB (Y ⟨g,0,R⟩) 1 1).run prog w=dG (ak<|st [128]) w:=by
 have h:=iy w 100 9 5 (K g 0) 1 [128] cT eY dK (λj a=>by
  rw[pS,j7,xb _ _ _ _ _ _ h];obtain rfl:j=0:=Á
  rfl)
 exact h
structure AY(w W:Zy)(s:St)(x:Zy):Prop where
 fH:aP (V<|Z w) w x
 sz:V (Z W)<V (Z x)
 Lu:V (Z w)<=V (Z W)
 b0:x.heap[V (Z W)]?=Y (au #[aw s.a,aw s.b,aw s.c,aw s.d,aw s.e,aw s.f,aw s.g,aw s.h] 233 (0,0))
theorem AY.eG{i k}(h:AY w i s w1)(j:aP (V w1.drew.heap) w1.drew k)(t):AY w i t<|ay (ay (ay (ay (ay (ay (ay (ay k (K (V<|Z i) 0)<|aw t.a) (K (V<|Z i) 1)<|aw t.b) (K (V<|Z i) 2)<|aw t.c) (K (V<|Z i) 3)<|aw t.d) (K (V<|Z i) 4)<|aw t.e) (K (V<|Z i) 5)<|aw t.f) (K (V<|Z i) 6)<|aw t.g) (K (V<|Z i) 7)<|aw t.h:=by have m:V (Z i)<V (Z k):=zm h.sz j.size;have l:=h.fH.drew.trans<|j.mono h.fH.size;refine⟨Fx _ _ _ _ _ _ _ _ _ _ _ _ h.Lu l,É,h.Lu,?_⟩;exact wy _ _ _ _ _ _ _ _ _ _ _ _ _ _ _ _ _ _ _<|(j.block _<|by exact h.sz).trans h.b0
theorem AY.kM{c}(h:AY w c s w1)(a:aP (V<|Z w1) w1 b):AY w c s b:=
 ⟨h.fH.trans<|a.mono h.fH.size,zm h.sz a.size,h.Lu,(a.block _ h.sz).trans h.b0⟩
def xxy(x):IntKind.i64.wrap (u x)=u x:=by have:=x.isLt;grind [zh,u]
def jbz(x):nb x.toNat 4=wb x:=by grind [nb,wb,D6,bq,Nat.shiftRight_eq_div_pow]
def je1(m k):(st m).extract (64*k) (64*k+64)=st ((m.drop<|64*k).take 64):=by apply DM;apply Array.toList_inj.1;grind [st,zaj]
theorem xmb{a b}(h:∀j,j<64->a j=b j):∀i,i<64->Wf a i=Wf b i:=by intro i;induction i using Nat.strongRecOn with|_ i I=>intro d;by_cases c:i<16;grind [OX,D7];grind [OW]
theorem WO(s){a b}:∀n,(∀i,i<n->a i=b i)->hY s a n=hY s b n
 |0,_=>rfl|n+1,h=>by rw[hY,hY,WO s n λi c=>h i À,h n À]
theorem xbp(s){a b}(h:∀i,i<64->a i=b i):Jb s a=Jb s b:=by grind [Jb,WO]
def xm5(s m k):Jb s (Wf<|bT m k)=Jb s (Wf<|bm<|(m.drop<|64*k).take 64):=by grind [xbp,xmb,bT,bm]
def Cw(l)(hl:T l<=90000)(w)(P:Yq w):aq 103 #[ak<|st l] w (ak<|st<|oY l):=by
 have HT:Yq w:=P;have bd:=P.iE;clear P;obtain⟨z,hz⟩:∃z:Q,z=(119-T l%64)%64:=⟨_,O⟩;have bh:z<64:=À
 obtain⟨y,hy⟩:∃y:Q,y=T l%64:=⟨_,O⟩;have e1:((T l:Q):U).tmod 64=(y:Q):=zdh
 have e2:IntKind.i64.wrap (119-(y:U))=119-(y:U):=Ï
 have e3:(119-(y:U)).tmod 64=(z:Q):=zdh
 obtain⟨h,hN⟩:∃h:Q,h=T l*8:=⟨_,O⟩;have e4:IntKind.i64.wrap (8*(T l:U))=8*(T l:U):=Ï
 have h1:H<|8*(T l:U)=(h:Q):=by show _=_;omega
 have HZ:H<|z=(119-T l%64)%64:=hz;have HN:H<|h=T l*8:=hN;clear hz hy hN;have g':∀o:Zy,(convert 100 9<|aB (Y ⟨V<|Z o,0,R⟩) 1 1).run prog (aF o<|au #[aD .u8 128] 5).drew=dG (ak<|st [128]) (aF o<|au #[aD .u8 128] 5).drew:=λo=>Lr _ _<|xn _ _;have v':=Hx 128 128 O;have t:∀o:Zy,aq 167 #[aD bB<|8*(T l:U),aD bB 8] o (ak<|st<|nb h 8):=λo=>wD (8*(T l:U)) 8 h 8 h1.o O Ã o;go_enter func103.1,Tryz.ntmps103;go_upto_region 1 with fail
 go_cut [3]from 8 (λv o=>v=ak (st (128::(bS z 0++nb h 8)))/\aP (V<|Z w) w o)
 case first=>
  go_region_with (first
   |(go_at_call 166;refine(Pj z À _).mono ?_;rintro en w2⟨rfl,n⟩;(first|have D:=jes n|have D:=VS n);(first|(have h2:=jbn n;have bo:=Lr _ _ h2)|skip))
   |(go_at_call 167;go_fit (t _);rintro en w3⟨rfl,q⟩;have hx:=Z2 h 8;(first|have p:=Xs D q|have p:=jet D q);(first|(have G:=jbp q;have bc:=Lr _ _ G)|(have G:=jbo h2 q;have bc:=Lr _ _ G)|skip)))
  all_goals go_wp2
  all_goals go_meet
  all_goals exact⟨O,by first|exact p|exact p.alloc p.size _⟩
 case rest=>
  obtain⟨rfl,A⟩:=hcut;clear v' g' t e1 e2 e3 e4 h1;have hp:l++128::(bS z 0++nb h 8)=uy l:=by have:=Fz (T l);rw[HN.o];unfold uy xM;congr 3;rw[HZ.o];unfold Wv;congr 1;omega
  have hx:=Z2 h 8;have ho:T (uy l)=Wv (T l):=Pa l 8 À;have ba:=Fz (T l);have F:64*(Wv (T l)/64)=Wv (T l):=za1
  let⟨c,S⟩:=JP<|Wv (T l)/64;rw[S]at F;have cs:T (uy l)=64*c:=by rw[ho,F]
  have HC:H<|Wv (T l)/64=c:=S;have bj:64*c<=90072:=À
  clear S ho ba F HZ HN;generalize hm:uy l=m at*;have es:H<|uy l=m:=hm;have bi:H<|T m=64*c:=cs;clear hm;go_wp2;clear hp hx;have C:AY w wc iv<|aF wc<|au #[aD cJ<|u iv.a,aD cJ<|u iv.b,aD cJ<|u iv.c,aD cJ<|u iv.d,aD cJ<|u iv.e,aD cJ<|u iv.f,aD cJ<|u iv.g,aD cJ<|u iv.h] 233:=⟨(A.alloc A.size _),Â,A.size,xn _ _⟩;go_loopw [5] (λi wr=>∃k:Q,k<=c/\i=aD bB (64*(k:U))/\AY w wc (uO m k) wr) (λi _=>bL (64*(c:U)-dV i));exact⟨0,À,Å,C⟩;clear C;obtain⟨k,hk,rfl,inv⟩:=hrel;have bb:=inv.sz;have bg:=inv.Lu;by_cases L:k<c
  ·have i0:(0:U)<=64*(k:U):=À;have i1:64*(k:U)<64*(c:U):=À
   have i2:64*(k:U)+64<=64*(c:U):=À
   have iw:IntKind.i64.wrap (64*(k:U)+64)=64*(k:U)+64:=Ï
   have HB:H<|(m.drop<|64*k).take 64=(m.drop<|64*k).take 64:=O;have r:T ((m.drop<|64*k).take 64)=64:=by simp;rw[cs];omega
   have bf:=je1 m k;have W:Yq wr.drew:=HT.ac bd inv.fH.drew;let⟨s,I⟩:=JP<|uO m k;rw[I]at inv;have hd:H<|uO m (k+1)=Jb s (Wf<|bm<|(m.drop<|64*k).take 64):=by show Jb (uO m k) (Wf<|bT m k)=_;rw[I,xm5]
   clear I;obtain⟨b8,cg,b9,ch,ca,ci,cb,cj,cc,ck,cd,cl,ce,cm,cf,cn⟩:=Cx inv.b0;generalize(m.drop<|64*k).take 64=B at*;have i3:bL (64*(k:U))=64*k:=À
   have i4:bL (64*(k:U)+64)=64*k+64:=À
   go_wp2;go_region_with (first
    |(go_at_call 168;go_fit (zv9 s B r _ W);rintro en w2⟨rfl,n⟩;have be:V (Z wc)<V wr.drew.heap:=bb;obtain⟨bq,bz,br,b1,bs,b2,bt,b3,bu,b4,bv,b5,bw,b6,bx,b7⟩:=Cx<|(n.block _ be).trans inv.b0))
   all_goals go_wp2
   all_goals go_roundw
   all_goals first
    |(refine⟨k+1,À,Å,?_⟩;rw[hd.o];exact inv.eG n _)
    |(simp[dV];omega)
  obtain rfl:k=c:=À
  let⟨s,I⟩:=JP<|uO m k;rw[I]at inv;have hd:H<|oY l=sb s 8:=by show sb (uO (uy l)<|Wv (T l)/64) 8=_;rw[HC.o,es.o,I]
  clear I;have r:=inv.fH;have bl:¬64*(k:U)<64*(k:U):=À
  go_wp2;go_loopw [6,7] (λv i w3=>∃j:Q,j<=8/\i=aD bB j/\v=ak (st<|sb s j)/\AY w wc s w3) (λ_ i _=>bL (8-dV i));exact⟨0,À,O,O,inv⟩;clear inv;obtain⟨j,hj,rfl,rfl,inv⟩:=hrel;by_cases L:j<8
  ·have j1:(j:U)<8:=À;have bn:=K4 s j;have h3:H<|sb s (j+1)=sb s j++wb (kX s j):=O;have S:N wr ⟨V<|Z wc,j,R⟩=(aD cJ<|u<|kX s j):=by rw[xb _ _ j _ _ _ inv.b0,FB s j L]
   have ih:H<|nb (kX s j).toNat 4=wb (kX s j):=jbz<|kX s j;have bk:=xxy<|kX s j;generalize kX s j=x at*;generalize sb s j=X at*;go_wp2;go_fit (wD (u x) 4 x.toNat 4 O O Ã _);rintro en w2⟨rfl,n⟩;rw[ih.o];have bp:T (wb x)=4:=O;go_wp2;go_roundw;refine⟨j+1,À,Å,by rw[h3.o],?_⟩;exact inv.kM n;exact Ð
  obtain rfl:j=8:=À
  have r:=inv.fH;go_wp2;go_ret;exact⟨by rw[hd.o];rfl,r⟩
end
section
attribute[local go_sem] zn zg
def Yq.gN(h:Yq w)(a:aP (V<|Z w) w w'):Yq w':=h.ac h.iE a
structure Ab(w:Zy)(L:Zl)(x:Ze)(W:Zy):Prop where
 fH:aP (V<|Z w) w W
 b0:W.heap[V (Z w)]?=Y (au (bH (bv L++x)) 5 (T (bv L++x),T (bv L++x)+1))
def Ab.i{x}(h:Ab w L x b)(k a)(c:L[k]?=Y a):N b (K (V<|Z w) k)=zb (aN a):=by rw[xb _ _ _ _ _ _ h.b0];grind [bv]
def Ab.eQ{x}(h:Ab w L x a)(k)(hk:k<T L):aX a (K (V<|Z w) k)=ao:=by unfold aX;rw[h.b0];grind [xL]
theorem Ab.H{x}(h:Ab w L x b)(k)(hk:k<T L)(a):Ab w (L.set k a) x<|ay b (K (V<|Z w) k)<|zb (aN a):=by refine⟨h.fH.setCell (zd _) _,?_⟩;rw[zdm _ _ _ _ _ _ _ h.b0,Jr _ _ _ _ _ _ h.b0];grind [xL,Hp]
def Lm(l)(z:T l<=90000)(c n)(t:n=(aN c:Int))(w):aq 170 #[E l,zb n] w (E (l.map (·^^^c))):=by
 subst t;have g:=run_bytes_of_string w 9 100 5 (st l) dK cT eY;let⟨d,m⟩:=JP<|grownCap w (st l).size 0 5;rw[m,zn]at g;obtain⟨u,r⟩:∃u:Ze,bytesRow (st l) d=bH (bv l++u):=⟨bS (d-T l)<|zb 0,zb1⟩;rw[r]at g;have q:Ab w (xk l c 0) u<|aF w.drew<|au (bH (bv l++u)) 5 (V (bv l++u).toArray,V (bv l++u).toArray+1):=by
  refine⟨((zt _ _).drew).alloc (zd _) _,?_⟩;have e:xk l c 0=l:=by simp[xk]
  rw[e];exact xn w.drew _
 generalize X:(aF w.drew _)=w1 at*;go_enter func170.1,Tryz.ntmps170;go_wp2;go_loopw [6] (λi wr=>∃k:Q,k<=T l/\i=J k/\Ab w (xk l c k) u wr) (λi _=>bL (T l-dV i));grind;obtain⟨k,hk,rfl,I⟩:=hrel;by_cases f:k<T l
 ·let⟨a,o⟩:=JP<|l[k];have C:(k:U)<(T l:Q):=À;have x:=I.i k a (by rw[WL l c k f,o]);have y:=I.eQ k (by rw[WG];exact f);have p:=I.H k (by rw[WG];exact f)<|a^^^c;have e:(xk l c k).set k (a^^^c)=xk l c (k+1):=by rw[<-o];exact WH l c k f
  rw[e]at p;have B:=FM a c;generalize a^^^c=b at*;go_wp2;go_roundw;exact⟨k+1,À,Å,p⟩;exact Ð
 obtain rfl:k=T l:=À
 rw[WF l c _<|zd _]at I;have g:(convert 100 9<|aB (Y ⟨V<|Z w,0,R⟩) (T l) d).run prog wr=dG (E (l.map (·^^^c))) wr:=by have h:=iy wr 100 9 5 (K (V<|Z w) 0) d (l.map (·^^^c)) cT eY dK (λj s=>by rw[pS,j7];exact I.i j _<|Jc s);rw[jl]at h;exact h
 have v:=I.fH;go_wp2;go_ret;simp_all
def Pe(a)(n:Q)(b:a=(n:U))(c:n<=64)(w):aq 166 #[J a] w (E<|List.replicate n 0):=by grind [Pj]
def FJ(k x)(z:T k<=5000)(hx:T x<=80000)(w)(y:Yq w):aq 105 #[E k,E x] w (E<|Wu k x):=by
 have m:Yq w:=y;by_cases t:64<T k
 ·have v:(64:U)<(T k:Q):=À;have l:=yw k;have n:H<|Wu k x=AR (oY k) x:=by show AR (hk k) x=_;unfold hk;rw[aT t]
  go_enter func105.1,Tryz.ntmps105;go_wp2;go_fit (Cw k À _ m);rintro X w1⟨rfl,j⟩;have i:Yq w1:=m.gN j;have c:T (oY k)<=64:=À
  clear l;generalize oY k=u at*;have G:IntKind.i64.wrap (64-(T u:U))=64-(T u:U):=Ï
  go_wp2;go_fit (Pe (64-(T u:U)) (64-T u) À À _);rintro X B⟨rfl,a⟩;have f:H ((u++bS (64-T u) 0).map (·^^^0x36)=kc u 0x36):=O;have g:H ((u++bS (64-T u) 0).map (·^^^0x5c)=kc u 0x5c):=O;have s:T (bS (64-T u) (0:Z8))=64-T u:=Zq;have o:T (u++bS (64-T u) (0:Z8))=64:=by rw[zx,s];omega
  go_wp2;generalize u++bS (64-T u) (0:Z8)=P at*;go_fit (Lm P À 0x36 54 O _);rintro X C⟨rfl,b⟩;rw[f.o];have p:=AV u 0x36 c;go_wp2;go_fit (Cw (kc u 0x36++x) Á _<|i.gN a |>.gN b);rintro X D⟨rfl,d⟩;go_wp2;go_fit (Lm P À 0x5c 92 O _);rintro X W⟨rfl,e⟩;rw[g.o];have q:=AV u 0x5c c;have r:=yw<|kc u 0x36++x;go_wp2;go_fit (Cw (kc u 0x5c++oY (kc u 0x36++x)) Á _<|i.gN a |>.gN b |>.gN d |>.gN e);rintro X F⟨rfl,h⟩;go_wp2;go_ret;exact⟨by rw[n.o];rfl,Xs j<|Xs a<|Xs b<|Xs d<|Xs e h⟩
 have v:¬(64:U)<(T k:Q):=À
 have n:H<|Wu k x=AR k x:=by show AR (hk k) x=_;unfold hk;rw[aL t]
 have c:T k<=64:=À
 go_enter func105.1,Tryz.ntmps105;go_wp2;go_fit (Pe (64-(T k:U)) (64-T k) À À _);rintro X B⟨rfl,a⟩;have f:H ((k++bS (64-T k) 0).map (·^^^0x36)=kc k 0x36):=O;have g:H ((k++bS (64-T k) 0).map (·^^^0x5c)=kc k 0x5c):=O;have o:T (k++bS (64-T k) (0:Z8))=64:=by rw[zx,Zq];omega
 go_wp2;generalize k++bS (64-T k) (0:Z8)=P at*;go_fit (Lm P À 0x36 54 O _);rintro X C⟨rfl,b⟩;rw[f.o];have p:=AV k 0x36 c;go_wp2;go_fit (Cw (kc k 0x36++x) Á _<|m.gN a |>.gN b);rintro X D⟨rfl,d⟩;go_wp2;go_fit (Lm P À 0x5c 92 O _);rintro X W⟨rfl,e⟩;rw[g.o];have q:=AV k 0x5c c;have r:=yw<|kc k 0x36++x;go_wp2;go_fit (Cw (kc k 0x5c++oY (kc k 0x36++x)) Á _<|m.gN a |>.gN b |>.gN d |>.gN e);rintro X F⟨rfl,h⟩;go_wp2;go_ret;exact⟨by rw[n.o];rfl,Xs a<|Xs b<|Xs d<|Xs e h⟩
def xh6(k x)(a:T k<=4096)(hx:4096<T x)(w):aG 53 #[E k,E x] w (cE #[ak<|st [],J 1]):=by go_enter func53.1,Tryz.ntmps53;go_wp2;go_ret2;exact⟨O,O⟩
def xkb(b l)(n:Q)(P:n<=6)(y:n<=T l)(w)(s:N w (K b 0)=E l)(t:aX w (K b 0)=ao):aK prog 208 #[zq b,J n] w λe w'=>e=ai (J (qi (l.take n):Q))/\aP (V<|Z w) (ay w (K b 0)<|E<|l.drop n) w':=by
 let⟨W,d⟩:=JP<|ay w (K b 0) (E<|l.drop n);have f:V (Z W)=V (Z w):=by rw[<-d];simp
 let⟨m,o⟩:=JP<|l.take n;have F:T m=n:=by rw[<-o,xf];omega
 have h:=run_bytes_of_string W 9 100 5 (st m) dK cT eY;let⟨a,g⟩:=JP<|grownCap W (st m).size 0 5;rw[g,zn]at h;obtain⟨u,D⟩:∃u:Ze,bytesRow (st m) a=bH (bv m++u):=⟨bS (a-T m)<|zb 0,zb1⟩;rw[D]at h;have inv:Ab W m u _:=
  ⟨((zt _ _).drew).alloc (zd _) _,xn W.drew _⟩
 generalize(aF W.drew _)=w1 at*;have I:aP (V<|Z w) W w1:=by show aP _ _ _;rw[<-f];exact inv.fH
 have B:=WK b l (n:U) n O y w s t;rw[d,o]at B;have C:=inv;have A:=d;have hd:=o;clear inv f s t d o y;go_enter func208.1,Tryz.ntmps208;go_wp2;apply B.mono;rintro e h1⟨rfl,rfl⟩;go_wp2;go_loopw [5,13] (λv i wr=>∃k:Q,k<=T m/\i=J k/\v=J (qi (m.take k):Q)/\wr=w1) (λ_ i _=>bL (T m-dV i));exact⟨0,À,O,O,O⟩;obtain⟨k,hk,rfl,rfl,rfl⟩:=hrel;by_cases j:k<T m
 ·let⟨c,p⟩:=JP<|m[k]'j;have r:=C.i k c Á;have z:=WQ (m.take k) c;have X:m.take (k+1)=m.take k++[c]:=by rw[zp j,p]
  rw[<-X]at z;have x:=AS<|m.take k;have L:256^T (m.take k)<=256^5:=J7 Ã Á;generalize hq:qi (m.take k)=q at*;have G:=V' q c À;have h2:=c.toNat_lt;go_wp2;go_roundw;exact⟨k+1,À,Å,by rw[z];go_num,bD⟩;exact Ð
 obtain rfl:k=T m:=À
 rw[jz];go_wp2;go_ret;simp_all
def xdw(b l)(n:Q)(d:T l<n)(w)(c:N w (K b 0)=E l)(a:ip z w):aK prog 208 #[zq b,J n] w λe w'=>e=kn z/\w'=w:=by go_enter func208.1,Tryz.ntmps208;go_wp2;apply(WJ b l (n:U) n O d w c a).mono;rintro e f⟨rfl,rfl⟩;exact⟨O,O,O⟩
end
def e8(x:Z8):U:=(aN x:U)
@[go_sem] abbrev zc(x:UInt8):eJ:=aD .u8 (e8 x)
def uz(x):0<=e8 x:=by simp[e8]
def uQ(x):e8 x<256:=by have:=x.toNat_lt;simp[e8];omega
def FK(x):bL (e8 x)=aN x:=by simp[e8]
def AX{p:Z8->Prop}(h:∀i:Fin 256,p<|UInt8.ofNat i.val)(x):p x:=by have:=h ⟨aN x,x.toNat_lt⟩;simp_all
def zZ(a b):lr .xor .u8 (e8 a) (e8 b)=e8 (a^^^b):=FM a b
def xnj(a):lr .xor .u8 (e8 a) 27=e8 (a^^^27):=FM a 27
def xss(a):lr .xor .u8 (e8 a) 9=e8 (a^^^9):=FM a 9
def xnk(a):lr .xor .u8 (e8 a) 99=e8 (a^^^99):=FM a 99
def Lj(a b):lr .or .u8 (e8 a) (e8 b)=e8 (a|||b):=by
 show IntKind.u8.wrap ((dM 8 (aN a:U)|||BitVec.ofInt 8 (aN b:U)).toNat:U)=_;have c:dM 8 (aN a:U)=a.toBitVec:=Â
 have d:dM 8 (aN b:U)=b.toBitVec:=Â
 rw[c,d];have h:=(a|||b).toNat_lt;have e:(a.toBitVec|||b.toBitVec).toNat=aN (a|||b):=Â
 rw[e];show _=((aN (a|||b):Q):U);grind [fS,fT,fi]
def Lv(n)(b:n<8)(k)(hk:k=((2^n:Q):U))(a):IntKind.u8.wrap (e8 a*k)=e8 (a<<<mZ n):=by
 subst hk;obtain rfl|rfl|rfl|rfl|rfl|rfl|rfl|rfl:n=0\/n=1\/n=2\/n=3\/n=4\/n=5\/n=6\/n=7:=À
 all_goals (revert a;exact AX Ê)
def xsk(a):IntKind.u8.wrap (e8 a*(2:U))=e8 (a<<<1):=Lv 1 Ã _ O a
def xsl(a):IntKind.u8.wrap (e8 a*(4:U))=e8 (a<<<2):=Lv 2 Ã _ O a
def xsm(a):IntKind.u8.wrap (e8 a*(8:U))=e8 (a<<<3):=Lv 3 Ã _ O a
def xsn(a):IntKind.u8.wrap (e8 a*(16:U))=e8 (a<<<4):=Lv 4 Ã _ O a
def Lw(n)(b:n<8)(k)(hk:k=((2^n:Q):U))(a):e8 a/k=e8 (a>>>mZ n):=by
 subst hk;obtain rfl|rfl|rfl|rfl|rfl|rfl|rfl|rfl:n=0\/n=1\/n=2\/n=3\/n=4\/n=5\/n=6\/n=7:=À
 all_goals (revert a;exact AX Ê)
def xso(a):e8 a/(16:U)=e8 (a>>>4):=Lw 4 Ã _ O a
def xsp(a):e8 a/(32:U)=e8 (a>>>5):=Lw 5 Ã _ O a
def xsq(a):e8 a/(64:U)=e8 (a>>>6):=Lw 6 Ã _ O a
def xsr(a):e8 a/(128:U)=e8 (a>>>7):=Lw 7 Ã _ O a
def oO(x:Z8):Z8:=if 128<=aN x then(x<<<1)^^^27 else x<<<1
def xx1(x)(h:(128:U)<=e8 x):oO x=(x<<<1)^^^27:=by grind [oO,e8]
def xx2(x)(h:¬(128:U)<=e8 x):oO x=x<<<1:=by grind [oO,e8]
def Ld(x:Z8):Z8:=x^^^x<<<1
def Le(x:Z8):Z8:=Ld x^^^Ld x<<<2
def Cu(x:Z8):Z8:=Le x^^^Le x<<<4
def FH(x:Z8):Z8:=if 128<=aN (Cu x) then Cu x^^^9 else Cu x
def pD(x:Z8)(n:Z8):Z8:=x<<<n|||x>>>(8-n)
def Lc(q:Z8):Z8:=q^^^pD q 1^^^pD q 2^^^pD q 3^^^pD q 4^^^99
def Pt:Zl:=(iC 256).map λi=>mZ (0x1f652c7b46c241cfda297847cdd4b39170df2a794858a8f8c8d7b29ee5a36120ef351c6423ee3a891868b79de4acf45ca46cbb099772d1b0907f4a563211ffc54c543c8b16f25eaaf6523e858c1b69b80898e7adfbc9d827e2aefac64d5ba9f75dabf9c742ced5bc040c9473de25ec3413f15fa5632e75dc2b76dd24e3a16fba06020e9ae93712fecad92877d2b19fea361d6bb69271d0bf0503010f957c4b59a76db49ceb398817fdcbd6bd0b99e838878281808f1a662d74d3be0a967d44ccdb26ed3b868d14fcc443c140c04f55331e6ab9070d9be6a26eb5937e45c34e5aa66221e0a0602f7a49573d84838e15f3513f8a196722e1aff5533110f050301>>>(8*i))
def Qt:Zl:=(iC 256).map λi=>Pt.getD ((255-i)%255) 0
def Pw(n:Q):Z8:=Pt.getD n 0
def Qw(n:Q):Z8:=Qt.getD n 0
def VX(n)(h:n<255):Pw (n+1)=Pw n^^^oO (Pw n):=
 (by decide+kernel:∀n:Fin 255,Pw (n.val+1)=Pw n.val^^^oO (Pw n.val)) ⟨n,h⟩
def xrs(n)(h:n<255):Qw (n+1)=FH (Qw n):=
 (by decide+kernel:∀n:Fin 255,Qw (n.val+1)=FH (Qw n.val)) ⟨n,h⟩
def Bt:Zl:=(iC 256).map λi=>Lc<|if i=0 then 0 else Qt.getD (Pt.idxOf (mZ i)) 0
def Sx(x:Z8):Z8:=Bt.getD (aN x) 0
def Sn(n:Q):Z8:=Bt.getD n 0
def VY(x):Sn (aN x)=Sx x:=O
def xN:Q->Zl
 |0=>99::bS 255 0|n+1=>(xN n).set (aN (Pw n))<|Lc<|Qw n
def Lq:∀n,T (xN n)=256
 |0=>by grind [xN]|n+1=>by rw[xN,List.length_set,Lq n]
def xsc:xN 255=Bt:=Ê
def kb(f:Zu)(n:Q):Ze:=(iC n).map λi=>aD .u8 (e8<|f i)
theorem tV(f n):T (kb f n)=n:=by simp[kb]
theorem AT(f n):V (kb f n).toArray=n:=by simp[kb]
theorem Aa(f n i)(h:i<n):(kb f n)[i]?=(zb<|e8<|f i):=by simp[kb,h]
def xyi(f n i)(h:i<n):(kb f n).toArray[i]?=(zb<|e8<|f i):=by simp[kb,h]
def Cy(f n):(kb f n).toArray.all (·.oneCell')=M:=by rw[jn];intro v a;simp only[kb,KC,Xe]at a;obtain⟨i,_,rfl⟩:=a;rfl
theorem Pk{f g}(h:∀i,i<n->f i=g i):kb f n=kb g n:=by grind [kb,W6]
theorem Pb(f n k v):(kb f n).set k (zb<|e8 v)=kb (λi=>if i=k then v else f i) n:=by apply Ye;grind [kb]
def xtf(f n k v):aA (kb f n).toArray k (zb<|e8 v)=bH (kb (λi=>if i=k then v else f i) n):=by grind [Pb]
theorem Lh(l):bv l=kb (λi=>l.getD i 0) (T l):=by apply Ye;grind [Aa,bv,e8,tV]
def kl(f:Zu)(n:Q):Zl:=(iC n).map f
def Cz(f n):T (kl f n)=n:=by simp[kl]
def VW(f n i)(h:i<n):(kl f n).getD i 0=f i:=by simp[kl,h]
def pE(f g:Zu)(i:Q):Z8:=f i^^^g i
def iq(f:Zu)(i:Q):Z8:=Sx<|f<|(i+i%4*4)%16
def oZ(f:Zu)(i:Q):Z8:=f (i/4*4)^^^f (i/4*4+1)^^^f (i/4*4+2)^^^f (i/4*4+3)^^^f i^^^oO (f i^^^f (i/4*4+(i%4+1)%4))
def yv(f:Zu)(c:Z8)(j:Q):Z8:=if j=0 then Sx (f 13)^^^c else if j=1 then Sx (f 14)else if j=2 then Sx (f 15)else Sx (f 12)
def lC(f:Zu)(c:Z8):Q->Z8
 |i+4=>lC f c i^^^f (i+4)|i=>yv f c i^^^f i
theorem Pc(f c):∀i,lC f c i=if _h:4<=i then lC f c (i-4)^^^f i else yv f c i^^^f i
 |0=>rfl|1=>O
 |2=>rfl|3=>O
 |i+4=>by rw[dif_pos À];rfl
def tC:Q->Z8
 |0=>1|n+1=>oO<|tC n
def kY(f:Zu):Q->Q->Z8
 |0=>f|n+1=>lC (kY f n)<|tC n
def FG(k x:Zu):Q->Q->Z8
 |0=>pE x<|kY k 0
 |n+1=>pE (oZ<|iq<|FG k x n)<|kY k<|n+1
def Yr(k x:Zu):Q->Z8:=pE (iq<|FG k x 9)<|kY k 10
section
attribute[local go_sem] zZ xnj xss xsk xsl xsm xsn
def Ph(x w):aG 174 #[zc x] w (zc<|oO x):=by
 by_cases h:(128:U)<=e8 x
 ·rw[xx1 x h];go_enter func174.1,Tryz.ntmps174;go_wp2;go_ret;simp
 rw[xx2 x h];go_enter func174.1,Tryz.ntmps174;go_wp2;go_ret;simp
def xk6(x w):aG 229 #[zc x] w (zc<|FH x):=by
 by_cases h:(128:U)<=e8 (Cu x)
 ·have e:FH x=Cu x^^^9:=by unfold FH;rw[aT<|by grind [e8]]
  rw[e];unfold Cu Le Ld at*;go_enter func229.1,Tryz.ntmps229;go_wp2;go_ret;simp
 have e:FH x=Cu x:=by unfold FH;rw[aL<|by grind [e8]]
 rw[e];unfold Cu Le Ld at*;go_enter func229.1,Tryz.ntmps229;go_wp2;go_ret;simp
def xw6:lr .and .u64 1 7=1:=Ê
def xzc(x w):aG 228 #[zc x,J 1] w (zc<|pD x 1):=by have a:=xw6;go_enter func228.1,qx;go_wp2;go_ret;exact⟨by show ai _=_;rw[xsr,Lj];rfl,O⟩
def xw7:lr .and .u64 2 7=2:=Ê
def xzd(x w):aG 228 #[zc x,J 2] w (zc<|pD x 2):=by have a:=xw7;go_enter func228.1,qx;go_wp2;go_ret;exact⟨by show ai _=_;rw[xsq,Lj];rfl,O⟩
def xw8:lr .and .u64 3 7=3:=Ê
def xze(x w):aG 228 #[zc x,J 3] w (zc<|pD x 3):=by have a:=xw8;go_enter func228.1,qx;go_wp2;go_ret;exact⟨by show ai _=_;rw[xsp,Lj];rfl,O⟩
def xw9:lr .and .u64 4 7=4:=Ê
def xzf(x w):aG 228 #[zc x,J 4] w (zc<|pD x 4):=by have a:=xw9;go_enter func228.1,qx;go_wp2;go_ret;exact⟨by show ai _=_;rw[xso,Lj];rfl,O⟩
end
section
attribute[local go_sem] zZ xnk
def AZ:Za:=cL 256<|aD .u8 0
def WR:V AZ=256:=by simp[AZ]
def xtd:((prog.info? 242).map λi=>(i.zero,i.size))=Y (Y<|bY AZ,256):=Ä
def VZ:(prog.info? 242).map (·.size)=Y 256:=Ä
def xm7:prog.built 242 [(0,zb 99)]=Y (bH (bv<|xN 0)):=Ä
def WN{P j rest o a q}(c:o.guard=R)(t:Zt)(p)(ho:o.op= .build t p)(b)
  (d:P.built t (p.toList.map λ(i,x)=>(i,a.eval x))=Y b)(h:wpList P j q rest (a.put o.dst<|bY b) w):wpList P j q (o::rest) a w:=
 wpList_build c t p ho É É
def zzt(w:Zy)(A c)(t:Zt):(aF (aF w A)<|au c t).heap[V (Z w)+1]?=Y (au c t (0,0)):=by have h:=xn (aF w A)<|au c t;simp_all
def ztt(w:Zy)(A c a)(t:Zt):(aF (aF w A)<|au c t).setRow (V (Z w)+1) a=aF (aF w A) (au a t):=by have h:=og (aF w A) c a t;simp_all
structure AU(w:Zy)(l:Zl)(W:Zy):Prop where
 fH:aP (V<|Z w) w W
 sz:V (Z w)+1<V (Z W)
 b0:W.heap[V (Z w)]?=Y (au AZ 242 (0,0))
 b1:W.heap[V (Z w)+1]?=Y (au (bH (bv l)) 242 (0,0))
def AU.gC(w l):AU w l<|aF (aF w<|au AZ 242)<|au (bH (bv l)) 242:=by
 refine⟨((zt _ _).alloc (zd _) _).alloc Â _,Â,?_,?_⟩;all_goals (show((w.heap.push _).push _)[_]?=_)
 all_goals (simp only[jb,Xi])
 grind;grind
theorem AU.H(h:AU w l a)(k v):AU w (l.set k v)<|ay a (K (V (Z w)+1) k)<|zc v:=by refine⟨h.fH.setCell Á _,Ö,?_,?_⟩;rw[jj _ _ _ _ Á];exact h.b0;rw[jx _ _ _ _ _ _ h.b1,Zj];congr 3;exact Hp l k v
def zps(w):aq 172 #[] w (bY (bH (kb Sn 256))):=by
 have B:=(zero_of_info xtd).1;have d:V AZ=V (bv<|xN 0).toArray:=by rw[WR,jd,xL,Lq]
 have g:(prog.info? 242).map (·.size)=Y (V (bv<|xN 0).toArray):=by rw[jd,xL,Lq];exact VZ
 generalize F:AZ=P at*;go_enter func172.1,Tryz.ntmps172;go_wp2_with (first|refine WN O 242 _ O (bv<|xN 0).toArray xm7 ?_|(refine Zo O 242 _ _ O (V (Z w)+1) _ O O 242 P (zzt _ _ _ _) g d (all_oneCell_toArray<|VI _) ?_;rw[ztt]));subst F;go_loopw [2,3,5] (λp q i wr=>∃k:Q,k<=255/\i=J k/\p=zc (Pw k)/\q=zc (Qw k)/\AU w (xN k) wr) (λ_ _ i _=>bL (255-dV i));exact⟨0,À,O,O,O,AU.gC w _⟩;obtain⟨k,hk,rfl,rfl,rfl,I⟩:=hrel;by_cases a:k<255
 ·have C:(k:U)<255:=À;have o:=xe<|VX k a;have r:=xe<|xrs k a;have l:AU w (xN<|k+1)<|ay wr (K (V (Z w)+1)<|bL (e8<|Pw k))<|zc<|Lc<|Qw k:=by show AU _ _ _;rw[FK];exact I.H _ _
  have y:aX wr (K (V (Z w)+1)<|bL (e8<|Pw k))=ao:=xt _ _ _ _ _ I.b1;obtain⟨c,x⟩:∃c,N wr (K (V (Z w)+1)<|bL (e8<|Pw k))=Y c:=by
   have t:aN (Pw k)<V (bv<|xN k).toArray:=by rw[jd,xL,Lq];exact(Pw k).toNat_lt
   exact⟨_,by rw[xb _ _ _ _ _ _ I.b1,FK];exact xy t⟩
  have D:=uz<|Pw k;have W:=uQ<|Pw k;generalize Pw k=p at*;generalize Qw k=q at*;unfold Lc at l;go_wp2;refine(xzc q _).mono ?_;rintro X b⟨rfl,rfl⟩;go_wp2;refine(xzd q _).mono ?_;rintro X b⟨rfl,rfl⟩;go_wp2;refine(xze q _).mono ?_;rintro X b⟨rfl,rfl⟩;go_wp2;refine(xzf q _).mono ?_;rintro X b⟨rfl,rfl⟩;go_wp2;refine(Ph p _).mono ?_;rintro X b⟨rfl,rfl⟩;go_wp2;refine(xk6 q _).mono ?_;rintro X b⟨rfl,rfl⟩;go_wp2;go_roundw;exact⟨k+1,À,Å,by rw[o.o],by rw[r.o],l⟩;exact Ð
 obtain rfl:k=255:=À
 have m:=I.b1;rw[xsc,Lh,show(λi=>Bt.getD i 0)=Sn from O,show T Bt=256 from O]at m;have A:=I.b0;have f:(prog.info? 242).map (·.size)=Y (V (kb Sn 256).toArray):=by rw[AT];exact VZ
 have s:(kb Sn 256).toArray.all (·.oneCell')=M:=Cy _ _;have h:V AZ=V (kb Sn 256).toArray:=by rw[WR,AT]
 have e:aP (V<|Z w) w<|wr.setRow (V<|Z w) (bH (kb Sn 256)):=I.fH.trans ⟨O,O,O,Â,λj z=>setRow_other _ _ _ _ À⟩;generalize G:bH (kb Sn 256)=u at*;have n:H<|bH (kb Sn 256)=u:=G;generalize AZ=P at*;go_wp2_with (first|refine J6 O 242 _ O (V (Z w)+1) O 242 _ (0,0) _ m nA O f ?_|refine Zo O 242 _ _ O w.heap.size _ O O 242 _ A f h s ?_);exact ji (v:=bY u) (Jf O _ _ (V<|Z w) 242 _ (0,0) _ O (Jr _ _ _ _ _ _ A) nA O f) O ⟨by rw[n.o],e⟩
end
section
attribute[local go_sem] zZ
def ia(w:Zy)(b:Q)(f:Zu)(n:Q)(t:Zt):Prop:=w.heap[b]?=Y (au (bH (kb f n)) t (0,0))
def ia.i{b f}(h:ia w b f n t)(hk:k<n):N w (K b k)=(zc<|f k):=by rw[xb _ _ _ _ _ _ h,xyi _ _ _ hk]
def ia.eQ{b f}(h:ia w b f n t):aX w (K b k)=ao:=xt _ _ _ _ _ h
theorem ia.cH{b f g}(h:ia w b f n t)(e:∀i,i<n->f i=g i):ia w b g n t:=by grind [ia,Pk]
theorem ia.H{b f}(h:ia w b f n t)(k v):ia (ay w (K b k)<|zc v) b (λi=>if i=k then v else f i) n t:=by unfold ia at*;rw[jx _ _ _ _ _ _ h,xtf]
def ia.dR{b a f}(h:ia w b f n t)(c:b≠a):ia (ay w (K a k) v) b f n t:=by grind [ia,jj]
def ia.ac{b f}(h:ia w b f n t)(c:aP B w w')(a:b<B):ia w' b f n t:=(c.block _ a).trans h
structure R3(w:Zy)(F x q:Zu)(p:Q)(j:Zt)(W:Zy):Prop where
 fH:aP (V<|Z w) w W
 sz:V (Z w)+1+1<V (Z W)
 b0:ia W (V<|Z w) F 16 184
 b1:ia W (V (Z w)+1) x 16 184
 b2:ia W (V (Z w)+1+1) q p j
def R3.gC(w a b F c)(d:Zt):R3 w a b F c d<|aF (aF (aF w<|au (bH (kb a 16)) 184)<|au (bH (kb b 16)) 184)<|au (bH (kb F c)) d:=by
 refine⟨(((zt _ _).alloc (zd _) _).alloc Â _).alloc Ç _,Â,?_,?_,?_⟩;all_goals (show(((w.heap.push _).push _).push _)[_]?=_)
 all_goals (simp[jb,Xi])
 grind;grind;grind
def R3.W{a b F}(h:R3 w a b F c d e):R3 w a b F c d e.drew:=⟨h.fH.drew,h.sz,h.b0,h.b1,h.b2⟩
def R3.fV{a b F}(h:R3 w a b F c d e)(n):R3 w a b F c d<|e.drewN n:=⟨below_drewN h.fH _,h.sz,h.b0,h.b1,h.b2⟩
def R3.Hq{a b F}(h:R3 w a b F c d e)(k v):R3 w (λi=>if i=k then v else a i) b F c d<|ay e (K (V<|Z w) k)<|zc v:=
 ⟨h.fH.setCell (zd _) _,Ö,h.b0.H k v,h.b1.dR À,h.b2.dR À⟩
def R3.yt{a b F}(h:R3 w a b F c d e)(k v):R3 w a b (λi=>if i=k then v else F i) c d<|ay e (K (V (Z w)+1+1) k)<|zc v:=
 ⟨h.fH.setCell Á _,Ö,h.b0.dR À,h.b1.dR À,h.b2.H k v⟩
def R3.sE{a f0' b F}(h:R3 w a b F c d f)(e:∀i,i<16->a i=f0' i):R3 w f0' b F c d f:=⟨h.fH,h.sz,h.b0.cH e,h.b1,h.b2⟩
def R3.qM{b c F f2' a}(h:R3 w b c F a d f)(e:∀i,i<a->F i=f2' i):R3 w b c f2' a d f:=⟨h.fH,h.sz,h.b0,h.b1,h.b2.cH e⟩
def zF(_:Q):Z8:=0
def Pd:(#[zb 0,zb 0,zb 0,zb 0,zb 0,zb 0,zb 0,zb 0,zb 0,zb 0,zb 0,zb 0,zb 0,zb 0,zb 0,zb 0]:Za)=bH (kb zF 16):=O
theorem Ls:(prog.info? 184).map (·.size)=Y 16:=Ä
def CE(f):(prog.info? 184).map (·.size)=Y (V (kb f 16).toArray):=by grind [AT,Ls]
def Ea{b}(c)(h:aP (V<|Z w) w a)(d:V (Z w)<=b):aP (V<|Z w) w<|a.setRow b c:=h.trans ⟨O,O,O,Â,λj e=>setRow_other _ _ _ _ À⟩
def Hu(f g):V (kb f 16).toArray=V (kb g 16).toArray:=by rw[AT,AT]
def xK(f g:Zu)(k i:Q):Z8:=if i<k then f i^^^g i else f i
def Pm(f g w):aq 175 #[bY (bH (kb f 16)),bY (bH (kb g 16))] w (bY (bH (kb (pE f g) 16))):=by
 go_enter func175.1,Tryz.ntmps175;go_wp2;go_loopw [6] (λi wr=>∃k:Q,k<=16/\i=J k/\R3 w (xK f g k) g zF 16 184 wr) (λi _=>bL (16-dV i));exact⟨0,À,O,R3.gC w f g zF 16 184⟩;obtain⟨k,hk,rfl,I⟩:=hrel;have q:=I.sz;by_cases j:k<16
 ·have n:N wr (K (V<|Z w) k)=(zc<|f k):=by rw[I.b0.i j];simp[xK]
  have r:N wr (K (V (Z w)+1) k)=(zc<|g k):=I.b1.i j;have s:aX wr (K (V<|Z w) k)=ao:=I.b0.eQ;have o:R3 w (xK f g<|k+1) g zF 16 184<|ay wr.drew (K (V<|Z w) k)<|zc<|f k^^^g k:=by refine(I.W.Hq k<|f k^^^g k).sE λi _=>?_;unfold xK;by_cases e:i=k;grind;grind
  generalize f k=a at*;generalize g k=b at*;go_wp2;go_still_tail 8,Ä;go_wp2;go_roundw;exact⟨k+1,À,Å,o⟩;exact Ð
 obtain rfl:k=16:=À
 have I:=I.sE (f0':=pE f g) (λi h=>by simp[xK,h,pE]);have d:=I.b0;have c:=I.b2;unfold ia at d c;have h:=CE<|pE f g;have n:=Cy (pE f g) 16;have m:=Hu zF<|pE f g;have l:=Ea (b:=(V (Z w)+1+1)) (bH (kb (pE f g) 16)) I.fH À;generalize u:bH (kb (pE f g) 16)=x at*;have p:H<|bH (kb (pE f g) 16)=x:=u;go_wp2_with (first|refine J6 O 184 _ O w.heap.size O 184 _ (0,0) _ d ey O h ?_|refine Zo O 184 _ _ O (V (Z w)+1+1) _ O O 184 _ c h m n ?_);exact ji (v:=bY x) (Jf O _ _ (V (Z w)+1+1) 184 _ (0,0) _ O (Jr _ _ _ _ _ _ c) ey O h) O ⟨oD,l⟩
def xO(w:Zy)(g:Q):Prop:=∀i,i<256->N w (K g i)=(zc<|Sn i)
def xO.ac(h:xO w g)(b:aP B w w')(a:g<B):xO w' g:=λi c=>(b.cell a).trans<|h i c
def xO.qN(h:xO w g)(x):N w (K g<|bL (e8 x))=(zc<|Sx x):=by rw[FK,h _ x.toNat_lt,VY]
def xO.lt(h:xO w g):g<V (Z w):=js<|h 0 Ã
def Hw(f:Zu)(k i:Q):Z8:=if i<k then iq f i else 0
def WP(f g w)(q:xO w g):aq 177 #[aU<|some ⟨g,0,R⟩,bY (bH (kb f 16))] w (bY (bH (kb (iq f) 16))):=by
 go_enter func177.1,Tryz.ntmps177;go_wp2;go_loopw [8] (λi wr=>∃k:Q,k<=16/\i=aD bB k/\R3 w f zF (Hw f k) 16 184 wr) (λi _=>bL (16-dV i));exact⟨0,À,O,R3.gC w f zF zF 16 184⟩;obtain⟨k,hk,rfl,A⟩:=hrel;by_cases n:k<16
 ·let⟨r,G⟩:=JP<|k%4;let⟨m,F⟩:=JP<|(k+r*4)%16;have x:(k:U).tmod 4=(r:Q):=by rw[qo À];omega
  have z:((k:U)+(r:U)*4).tmod 16=(m:Q):=zdh
  have y:IntKind.i64.wrap ((r:U)*4)=(r:U)*4:=Í
  have B:IntKind.i64.wrap ((k:U)+(r:U)*4)=(k:U)+(r:U)*4:=Í
  have t:m<16:=À
  have u:(m:U)<16:=À
  have p:=A.b0.i t;have C:=(q.ac A.fH q.lt).qN<|f m;have D:aX wr ⟨V (Z w)+1+1,k,R⟩=ao:=A.b2.eQ;have W:=A.b2.i n;have I:=uz<|f m;have X:=uQ<|f m;have s:R3 w f zF (Hw f<|k+1) 16 184<|ay wr.drew ⟨V (Z w)+1+1,k,R⟩<|aD .u8<|e8<|Sx<|f m:=by refine(A.W.yt k<|Sx<|f m).qM λi _=>?_;unfold Hw;by_cases e:i=k;grind [iq];grind
  generalize f m=a at*;generalize Hw f k k=c at*;go_wp2;go_still_tail 14,Ä;go_wp2;go_roundw;exact⟨k+1,À,Å,s⟩;exact Ð
 obtain rfl:k=16:=À
 have A:=A.qM (f2':=iq f) (λi j=>by simp[Hw,j]);have h:=A.b2;have d:=A.b1;unfold ia at h d;have j:=CE<|iq f;have p:=Cy (iq f) 16;have o:=Hu zF<|iq f;have l:=Ea (b:=(V (Z w)+1)) (bH (kb (iq f) 16)) A.fH À;generalize hKK:bH (kb (iq f) 16)=P at*;have v:=hKK;go_wp2_with (first|refine J6 O 184 _ O (V (Z w)+1+1) O 184 _ (0,0) _ h ey O j ?_|refine Zo O 184 _ _ O (V (Z w)+1) _ O O 184 _ d j o p ?_);exact ji (Jf O _ _ (V (Z w)+1) 184 _ (0,0) _ O (Jr _ _ _ _ _ _ d) ey O j) O ⟨Á,l⟩
def mK(f:Zu)(k i:Q):Z8:=if i<k then oZ f i else 0
def xtw(f w):aq 176 #[bY (bH (kb f 16))] w (bY (bH (kb (oZ f) 16))):=by
 go_enter func176.1,Tryz.ntmps176;go_wp2;go_loopw [4] (λi wr=>∃p:Q,p<=16/\p%4=0/\i=aD bB p/\R3 w f zF (mK f p) 16 184 wr) (λi _=>bL (16-dV i));exact⟨0,À,À,O,R3.gC w f zF zF 16 184⟩;obtain⟨p,X,P,rfl,inv⟩:=hrel;have I:=inv.sz;by_cases G:p<16
 ·have A:p+3<16:=À;have hd:bR ((p:U)<16)=M:=jm À;have h1:N wr ⟨V<|Z w,p,R⟩=(aD .u8<|e8<|f p):=inv.b0.i À;have y:N wr ⟨V<|Z w,p+1,R⟩=(aD .u8<|e8<|f<|p+1):=inv.b0.i À;have B:N wr ⟨V<|Z w,p+2,R⟩=(aD .u8<|e8<|f<|p+2):=inv.b0.i À;have c3:=inv.b0.i À;have v:∀j,j<4->oZ f (p+j)=f p^^^f (p+1)^^^f (p+2)^^^f (p+3)^^^f (p+j)^^^oO (f (p+j)^^^f (p+(j+1)%4)):=λj u=>by grind [oZ]
  have m:=inv;go_wp2;go_quiet (fail);go_wp2;let⟨a,D⟩:=JP<|f p^^^f (p+1)^^^f (p+2)^^^f (p+3);rw[D]at v⊢;try rw[hd]
  obtain⟨t,h2⟩:∃t:Zy,t=wr:=⟨_,O⟩;go_loopw [31] (λi wq=>∃j:Q,j<=4/\i=aD bB j/\R3 w f zF (mK f<|p+j) 16 184 wq) (λi _=>bL (4-dV i));exact⟨0,À,O,by exact m.fV _⟩;obtain⟨j,u,rfl,inv⟩:=hrel;by_cases F:j<4
  ·let⟨q,hx⟩:=JP<|(j+1)%4;have s:p+j<16:=À;have L:p+q<16:=À
   have W:IntKind.i64.wrap ((p:U)+(q:U))=(p:U)+(q:U):=Í
   have y:=inv.b0.i s;have B:=inv.b0.i L;have ho:aX wr ⟨V (Z w)+1+1,p+j,R⟩=ao:=inv.b2.eQ;have S:=inv.b2.i s;have x:∀wq,R3 w f zF (mK f<|p+j) 16 184 wq->R3 w f zF (mK f<|p+(j+1)) 16 184 (ay wq ⟨V (Z w)+1+1,p+j,R⟩<|aD .u8<|e8<|a^^^f (p+j)^^^oO (f (p+j)^^^f (p+q))):=λwq h=>by refine(h.yt (p+j) _).qM λi _=>?_;unfold mK;by_cases e:i=p+j;simp_all;rw[aL e];by_cases r:i<p+j;rw[aT r,aT À];rw[aL r,aL À]
   have m:=inv;generalize f (p+j)=b at*;generalize f (p+q)=c at*;generalize mK f (p+j) (p+j)=z at*;go_wp2;go_quiet (fail);go_wp2;refine(Ph (b^^^c) _).mono ?_;rintro en W⟨rfl,rfl⟩;go_wp2;go_roundw;exact⟨j+1,À,Å,x _<|m.fV _⟩;exact Ý
  obtain rfl:j=4:=À
  go_wp2;go_roundw;exact⟨p+4,À,À,Å,inv⟩;exact Ý
 obtain rfl:p=16:=À
 have inv:=inv.qM (f2':=oZ f) (λi k=>by simp[mK,k]);have g:=inv.b2;have d:=inv.b1;unfold ia at g d;have k:=CE<|oZ f;have C:=Cy (oZ f) 16;have o:=Hu zF<|oZ f;have l:(wr.setRow (V (Z w)+1) (bH (kb (oZ f) 16))).heap[(V (Z w)+1)]?=Y (au (bH (kb (oZ f) 16)) 184 (0,0)):=Jr _ _ _ _ _ _ d;have n:=Ea (b:=(V (Z w)+1)) (bH (kb (oZ f) 16)) inv.fH À;generalize hKK:bH (kb (oZ f) 16)=cs at*;have g':=hKK;go_wp2_with (first|refine J6 O 184 _ O (V (Z w)+1+1) O 184 _ (0,0) _ g ey O k ?_|refine Zo O 184 _ _ O (V (Z w)+1) _ O O 184 _ d k o C ?_);exact ji (Jf O _ _ (V (Z w)+1) 184 _ (0,0) _ O l ey O k) O ⟨Â,n⟩
end
end P
end Go.Proofs.YtjnbhiamaabbgabGreatDoor
