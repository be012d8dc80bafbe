import Derived.Test.YtjnbhiamaabbgabGreatDoorM10
import Derived.Test.YtjnbhiamaabbgabGreatDoorRows
import Derived.Test.YtjnbhiamaabbgabGreatDoorCards
import Derived.Test.YtjnbhiamaabbgabGreatDoorTie
set_option linter.all false
set_option maxRecDepth 100000
set_option maxHeartbeats 8000000
namespace Go.Proofs.YtjnbhiamaabbgabGreatDoor
open _root_ renaming Array->bE,Bool->ez,ByteArray->eM,Int->U,List->bA,Nat->Q,Option->dD,rfl->O,Array.replicate->cL,Array.size->V,Array.toList->eV,Bool.false->ao,Bool.true->M,Classical.choose->pf,List.length->T,List.toArray->bH,Option.none->R,Option.some->Y,Or.inl->aJ,Or.inr->ac
open Go renaming Act->mh,Code->pB,Ending->kH,Func->kL,Program->cI,Trace->gA,TypeId->oW,Value->eJ,World->dN,results->eR,runNT->fQ,stepG->bW,undef->Z',unwind->dT,CallKind.normal->dH,DataW.trod->ny,Ending.panicked->iL,Ending.returned->ai,Frame.enter->bI,FrameMode.returning->eB,GStep.ended->ic,IntKind.i64->bB,IntKind.u32->cJ,Item.code->dE,MemOp.ofEvents->aZ,Obj.cells->au,Result.ok->dG,RowKit.Below->aP,RowKit.Hid->H,Stepped.ended->lV,Stepped.next->gP,WideShapes.add_plain->zaa,World.cell?->N,World.heap->Z,stepG.exec->aI
open Conc renaming Deaf_other->dJ,Good->oJ,awake_of->oI,crowd->gJ,mem_ofEvents->zy,touchAt->mg
open Proofs.Tryz renaming prog->az,underlying212->jT,underlying3->is,underlying9->qv
open Value renaming bool->bG,iface->iW,int->aD,slice->aB,string->ak
namespace A
variable{m y:Machine}{t:gA}
open Go Go.Conc
section
variable[pn:Pn]
section
variable{S:Zv→Zy→Prop}
section
variable{P:cI}{F:bE kL}{X:Q->Prop}
def AM.EZ{g:Zg}{w:Zy}(h1:AM P X g w m t)
  (h:∀u:Zy,Sm P X (A.re w u.tape u.drawn) u->∃val es u',bW P M g u=ic (.done val) u' es/\(∀e∈es,Cn X (V<|Z u) e)/\S val u'):
  ∃W last o w' t',fQ P (W+1) m t=(lV o w',t')/\runN P W m=gP last/\step P last=lV o w'/\oJ P S last o w' t':=by
 obtain⟨⟨b,v,sl,k,rfl,z,B,D⟩,wr,f,F⟩:=h1;refine run_of_inv DV (λk m t=>∃(b:bE _) (v:Zy) (sl:dD _),m=gJ b v sl/\b[0]?=Y g/\JL P X k b v t/\Sm P X (A.re w v.tape v.drawn) v) _ ?_ k _ _ ⟨b,v,sl,O,z,B,D⟩;rintro k m t⟨b,v,sl,rfl,z,B,D⟩;let h2:∀g∈b,awake g:=by intro c l;obtain⟨i,C,rfl⟩:=Xd.1 l;obtain rfl|a:=jh i;grind [oI];exact Yl.kr k b v t B i _ a<|xy C
 obtain⟨i,c,d,y,C,l,s⟩:=crowd_pick (sl:=sl) h2 ⟨0,g,z,f⟩;let n:=Yl.gY k b v t d B;let r:Sm P X (A.re w v.tape d)<|v.at d:=D.re _ d;obtain rfl|a:=jh i;obtain rfl:c=g:=Á
 let⟨val,es,u',hend,hes,hpost⟩:=h (v.at d) r;obtain⟨q,hd,hx,rfl⟩:=n;let p:=hx.cN (fn:=c.frame.fn) (pos:=c.frame.place) hes;refine aJ ⟨_,_,_,s.trans<|runT_many_ended (sl:=y) C hend,val,O,hpost,p.gB,p.mD,⟨λx G=>?_,O⟩,λj x G I=>?_⟩;let⟨j,I⟩:=List.mem_iff_getElem?.1 G;rw[List.getElem?_drop]at I;exact⟨_,(hd.old (1+j) x À<|by grind [gJ]).leaves⟩;let ho:=hd.old j x À G;exists q j;let e:(t++aZ 0 c.frame.fn c.frame.place es).deaf j (V (t++aZ 0 c.frame.fn c.frame.place es))=Deaf t j:=
  dJ t (g':=0) À _ (λcs L=>Ø)
 rw[e];exact ho.hears _;let⟨gs',v',sl2,ops,k',r1,r2,r3,r4,r5⟩:=Yl.dR k b _ t i c g y n a C l z f F;exact ac ⟨_,ops,k',s.trans r1,r2,gs',v',sl2,O,r3,r4,r5 w r⟩
def xkj(B:Q):vB X B #[]:=
 ⟨past_nil.clean,λi a b c=>by grind [mg,Trace.act?],past_nil.over,past_nil.hears,λi a b=>by grind [mg,Trace.act?]⟩
def xjj{a:Q}{b:gA}(c:fQ P a m t=(gP y,b))(h:∃z L o W x,fQ P (z+1) y b=(lV o W,x)/\runN P z y=gP L/\step P L=lV o W/\oJ P S L o W x):
  ∃z L o W x,fQ P (z+1) m t=(lV o W,x)/\runN P z m=gP L/\step P L=lV o W/\oJ P S L o W x:=by
 let⟨z,L,o,W,x,A,j,q,p⟩:=h;refine⟨a+z,L,o,W,x,?_,?_,q,p⟩;rw[GU];exact qr c A;let d:(fQ P (a+z) m t).1=(fQ P z y b).1:=by rw[qr c O]
 grind [runNT_fst]
theorem zxv(ho:Yk P F){f:FuncId}{args:Za}{fnc:kL}{c:pB}{h1:kH->Zy->Prop}(wr:¬Mc P f)(s:Vi P F f)(B:P.funcs[f]?=Y fnc)(D:fnc.body=Y c)
  {w v0:Zy}(h:Yp P f c (sV P F fnc h1) ⟨args++cL (fnc.ntmps-V args) Z',[]⟩ w)(n:∀ch w',¬h1 (iL ch) w')(es:Sm P X (A.re w v0.tape v0.drawn) v0):
  ∃h2 last o w' t',fQ P (h2+1) (solo (G (bI P f args dH) []) v0) #[]=(lV o w',t')/\runN P h2 (solo (G (bI P f args dH) []) v0)=gP last/\step P last=lV o w'/\
   oJ P (λval u=>∃X' w',(∀x,X x->X' x)/\h1 (ai val) w'/\Sm P X' (A.re w' u.tape u.drawn) u) last o w' t':=by
 let q:bI P f args dH=(bI P f args dH).at ⟨args++cL (fnc.ntmps-V args) Z',[]⟩ [dE c]:=by simp[bI,Frame.at,B,D]
 let I:(wf P F).funcs[f]?=Y fnc:=by show F[f]?=_;exact s.1▸B
 let r:Jy P<|Frame.enter P f args dH:=by
  let e:bI (wf P F) f args dH=bI P f args dH:=by simp[bI,I,B]
  exact e▸OG ho.oN s wr args ⟨Â,Â⟩
 let S:=r.lL;let ba:AM P X _ w _ #[]:=
  ⟨⟨#[Xh _ []],v0,R,_,O,O,⟨λ_=>0,⟨λi g S hs=>Á,λj hj=>O⟩,xkj _,O⟩,es⟩,⟨ac r,λc D=>by cases D⟩,O,O⟩
 let At:Zg->Zy->Prop:=λg' w'=>∃(a:mh) (b:bA Item) (val:Zv),g'=Xh {(bI P f args dH).at a b with mode:=eB} []/\a.defers=[]/\(∀t d,∃t' d',(eR fnc a.tmps).run (wf P F) (A.re w' t d)=dG val (A.re w' t' d'))/\h1 (ai val) w';let L:RX P (Xh (bI P f args dH) []) w At:=by
  rw[q];refine h _ [] [] _ O O (λe z w' k=>?_) λe z w' g' k m=>?_;cases e with
  |normal=>trivial|ret=>exact k.1
  |panic ch=>exact k.1|exit id=>exact k.2.elim
  |goto l=>exact k.2.elim|outgrown=>exact k.2.elim
  cases e with
  |normal=>
   obtain⟨_,rfl⟩:=m;let⟨hd,v,y,n⟩:=k;refine RX.fB ho (g':=Xh {(bI P f args dH).at z []with mode:=eB} []) wr (λv=>?_) O O O<|.refl ⟨z,[],v,O,hd,y,n⟩;exact ß
  |ret=>
   obtain⟨_,b,rfl⟩:=m;let⟨hd,v,y,n⟩:=k;exact .refl ⟨z,b,v,O,hd,y,n⟩
  |panic ch=>exact(n ch w' k.2).elim|exit id=>exact k.2.elim
  |goto l=>exact k.2.elim|outgrown=>exact k.2.elim
 obtain⟨h2,m',t',X',g',w',cs,W,h3,a,b,val,rfl,hd,y,C⟩:=L X _ _ ba;refine xjj cs<|h3.EZ λu p=>?_;let⟨t1,d1,hr1⟩:=y u.tape u.drawn;let⟨v',new,hm⟩:=(KJ (F:=F) (X:=X') fnc a.tmps).nh _ u #[] p (by rw[hr1];trivial);rw[hr1]at hm;let hx:Sm P X' (A.re w' t1 d1) v':=hm.sm;refine⟨val,seen P f (#[]++new)++#[],v',?_,λe q=>?_,X',w',W,C,?_⟩;let w2:=hm.eq;show dT P M {(bI P f args dH).at a b with mode:=eB} [] R u=_;let ih:({(bI P f args dH).at a b with mode:=eB}:Zf).defers=[]:=hd;let bb:P.funcs[({(bI P f args dH).at a b with mode:=eB}:Zf).fn]?=Y fnc:=B;unfold dT;rw[ih];simp only[bb];rw[show(eR fnc ({(bI P f args dH).at a b with mode:=eB}:Zf).tmps).runT P u #[]=(dG val v',#[]++new)from w2];simp only[(KH (fr:={(bI P f args dH).at a b with mode:=eB}) (by simp[bI,Frame.at]) S val v')];rfl;let q:e∈seen P f (#[]++new):=by simpa using q
 let:=hm.tz e (by simpa using mem_seen q);rw[(hx.aD.trans p.aD.symm)]at this;exact .vz this;let cs:v'.tape=t1:=hx.nQ;let bc:v'.drawn=d1:=hx.gY;grind
end
end
end
end A
namespace P
variable{x cv tv:Zv}{v w W:Zy}{H S:Type}{X g:Q}
open Go.RowKit A
section
open Go Go.Conc
def Tl:Obj->ez
 | .pending ..=>M| .deferred _=>M
 | .loop _=>M|_=>ao
def Gu(j:Q):Obj:= .chan j #[] ao 0 0 ao
def gB(j:Q)(o:Obj):Obj:=if Tl o=M then Gu j else o
def uK(j:Q)(v:Zy):Zy:={v with heap:=v.heap.map<|gB j}
def X0(v:Zy)(r:Q):Prop:=∃o,v.heap[r]?=Y o/\Tl o=M
abbrev vt(v:Zy):Pn:=⟨⟨V<|Z v,λr=>v.heap[r]?⟩⟩
section
variable{j r:Q}{v:dN}
theorem JY:(uK j v).heap[r]?=(v.heap[r]?).map (gB j):=by simp[uK]
theorem Gt:V (uK j v).heap=V (Z v):=by simp[uK]
theorem Tq(h:¬X0 v r):(uK j v).heap[r]?=v.heap[r]?:=by rw[JY];cases e:v.heap[r]?with|none=>rfl|some o=>let:¬Tl o=M:=λa=>h ⟨o,e,a⟩;simp[gB,this]
theorem xgu(h:X0 v r):(uK j v).heap[r]?=Y (Gu j):=by let⟨o,e,y⟩:=h;grind [JY,gB]
theorem Gs{a}(h:N v a=Y x):N (uK j v) a=Y x:=by
 let⟨C,e,i,y,_⟩:=A.nI (pn:=vt v) (py:=⟨137⟩) h;let d:¬X0 v a.block:=by rintro⟨o,b,c⟩;rw[y]at b;cases b;cases c
 grind [Tq,N]
def sm0(P):Sm (pn:=vt v) P (X0 v) (A.re (uK j v) v.tape v.drawn) v:=by refine @Sm.mk (vt v) P (X0 v) _ v Gt.symm (λr a=>(Tq a).symm) (λr a=>?_) (λr=>?_) O O O O ⟨Nat.le_of_eq Gt.symm,λr _ _=>aJ O⟩;let b:=xgu (j:=j) a;let⟨o,e,y⟩:=a;exact⟨Gu j,o,b,e,aJ ⟨O,by cases o<;>first|rfl|cases y⟩⟩;show A.jW P (uK j v).heap[r]?;rw[JY];cases v.heap[r]?with|none=>exact .lz|some o=>cases o<;>exact⟨λ_ _ h=>È,λ_ h=>È,λ_ h=>È⟩
end
def nD.vn(h:nD cv tv v)(j):nD cv tv<|uK j v:=by let⟨⟨t,x,y,z⟩,⟨q,p,u,o⟩,s⟩:=h;exact⟨⟨t,x,y,Gs z⟩,⟨q,p,u,Gs o⟩,λi a=>Gs<|s i a⟩
def Sgx.vn{k}{l:bA S}{f:S->Ze}(h:Sgx k (V (Z v)) v x l f)(j):Sgx k (V (Z v)) (uK j v) x l f:=by let⟨a,C,y,z,q,p⟩:=h;refine⟨a,C,y,z,q,λi b=>?_⟩;let⟨g,o,e,t,c⟩:=p i b;exact⟨g,o,e,t,λj u d=>Gs (c j u d)⟩
def SL.vn{D}(h:SL (V<|Z v) v x D)(j):SL (V (uK j v).heap) (uK j v) x D:=by let⟨a,b,c⟩:=h;rw[Gt];exact⟨a.vn j,b,λi d=>let⟨l,s⟩:=c i d;⟨l,s.a,s.n,s.m,s.f.vn j,s.l1,s.l2⟩⟩
def CLx.vn{D}(h:CLx (V<|Z v) v x D)(j):CLx (V (uK j v).heap) (uK j v) x D:=by let⟨a,b,c⟩:=h;rw[Gt];exact⟨a.vn j,b,λi d=>let⟨l,s,e⟩:=c i d;⟨l,s.vn j,e⟩⟩
def qF.vn(h:qF (V<|Z v) cv tv v)(j):qF (V (uK j v).heap) cv tv<|uK j v:=by let⟨a,b,C,c,t,y,z,q,p,L,l,u,o⟩:=h;rw[Gt];exact⟨a,b,C,c,t,y,z,q,p,L,l,by rw[JY,u];rfl,by rw[JY,o];rfl⟩
def Tm{P o w a}:∀{n:Q} {m:Machine} {t:gA},fQ P n m t=(lV o w,a)->∀k,fQ P (n+k) m t=(lV o w,a)
 |0,m,t,h,k=>by simp[fQ]at h|n+1,m,t,h,k=>by rw[Nat.add_right_comm];unfold fQ at h⊢;split at h;exact Tm h k;omega
def Tk(v u:Zy):Prop:=u.os=v.os/\u.output=v.output/\V (Z v)<=V (Z u)/\∀r,r<V (Z v)->u.heap[r]?=v.heap[r]?
def vr(y B')(x B)(hd:nD cv tv v)(p:qF (V<|Z v) cv tv v)(h1:Yq v)(cq:CLx (V<|Z v) v y B')(q:SL (V<|Z v) v x B):
  ∃P last o w' t',fQ az (P+1) (solo (G (bI az 8 #[y,x] dH) []) v) #[]=(lV o w',t')/\runN az P (solo (G (bI az 8 #[y,x] dH) []) v)=gP last/\step az last=lV o w'/\
   oJ az (λval u=>val=bG M/\Tk v u) last o w' t':=by
 have g:∀j,_:=λj=>zxv (pn:=vt v) (bX (pn:=vt v)) oB (gy (pn:=vt v) O Tryz.func8 O) Tryz.func8 ja0 (All_wx (pn:=vt v) (hd.vn j) (p.vn j) (λi L=>Gs<|h1 i L) (cq.vn j)<|q.vn j) (λch w' h=>by cases h.1)<|sm0 az;obtain⟨P,last,o,w',t',t,D,h2,val,rfl,⟨g',w1,ho,b,l⟩,F⟩:=g 0;obtain⟨C,s,o2,a,v',H,es,W,z,rfl,⟨ba,w2,S,p,wr⟩,X⟩:=g 1;obtain rfl:a=w':=by have h3:=Tm t<|C+1;have ih:=Tm H<|P+1;grind
 have f:∀{j:Q} {k:ZP} {m:Zy},(∀r,X0 v r->k r)->Nw (uK j v) m->Sm (pn:=vt v) az k (A.re m a.tape a.drawn) a->∀r,r<V (Z v)->a.heap[r]?=v.heap[r]?\/(X0 v r/\a.heap[r]?=Y (Gu j)):=by
  intro j k m hx cs y r c;have I:=cs.dP r (by rw[Gt];exact c) id;have d:a.heap[r]?=m.heap[r]?->a.heap[r]?=v.heap[r]?\/(X0 v r/\a.heap[r]?=Y (Gu j)):=λe=>by grind [xgu,Tq]
  obtain n|n:=Classical.em (k r);rcases(Sm.rl (pn:=vt v) y).2 r n c with e|e;exact aJ e;exact d e;exact d<|Sm.out (pn:=vt v) y r n
 refine⟨P,last,_,a,t',t,D,h2,val,O,⟨?_,?_,?_,?_,λr c=>?_⟩,F⟩;have:=b.1;grind;exact(Sm.os (pn:=vt v) l).trans b.2.os;exact(Sm.cX (pn:=vt v) l).trans b.2.cX;have e0:=Sm.aD (pn:=vt v) l;have I:V (Z a)=V (Z w1):=e0;have e2:=b.2.aD;grind [Gt];obtain e|⟨h0,e⟩:=f ho b.2 l r c;exact e;obtain w|⟨_,w⟩:=f S p.2 wr r c;exact w;grind [Gu]
end
section
open Go.ChangeShapes Go.WideShapes
open Rows (uptoBulk uptoBulkAll)
def To{H:Type}:∀{D:bA<|DataW H} {d:DataW H},d∈D->uptoBulk d<=uptoBulkAll D
 |[],_,h=>È
 |e::D,d,h=>by unfold uptoBulkAll;obtain rfl|h:=jc.1 h;omega;let:=To h;omega
theorem xm9(d:DataW H):1<=uptoBulk d:=by
 cases d
 case lit l=>cases l<;>simp[uptoBulk]
 all_goals simp[uptoBulk]
def zyv{H:Type}{c}:∀{D:bA<|DataW H},(∀d∈D,c<=uptoBulk d)->c*T D<=uptoBulkAll D
 |[],_=>by simp|e::D,h=>by unfold uptoBulkAll;have a:=h e xu;let b:=zyv λd y=>h d<|jw _ y;grind [Nat.mul_add]
def zyy:Tryz.prog.cellsOf 36=2:=Ä
def xfr:Tryz.prog.cellsOf 73=8:=Ä
def xfs:Tryz.prog.cellsOf 62=6:=Ä
def xxx:Tryz.prog.cellsOf 9=1:=Ä
def Tp{B a n C}(h:w.cells? B a n=Y C)(i)(c:i<n):∃v,C[i]?=Y v/\N w (a.add i)=Y v:=by
 unfold World.cells? at h;split at h;let⟨b,y,z⟩:=Lib.mapM_at h i i<|by simp[c]
 grind;grind
def xg3(s):st (eV s.data)=s:=by cases s;simp[st]
def Nz{n}(h:(Lit.int bB n).wf=M):kh n:=by simp only[Lit.wf,jy,Y8]at h;exact h
section
variable{aw:oW×eJ->H}{W:dN}{x:DataW H×bA MemPlace}
theorem uptx{l:bA S}{a}{ok:S->DataW H->Prop}{c}(b:T a=T l)(h:∀i (h:i<T l),∃d,a[i]?=Y d/\ok l[i] d)(e:∀y d,ok y d->c<=uptoBulk d):c*T l<=uptoBulkAll a:=by rw[<-b];refine zyv λd z=>?_;grind [List.mem_iff_getElem?]
def xao{t e k}(D:Tryz.prog.underlying t=Y (.slice e))(hk:Tryz.prog.cellsOf e=k)(f:S->Ze)(G:S->DataW H->Prop)
  (s:∀{X:Q} {a:Addr} {P:Ze} {x:DataW H×bA MemPlace},W.cells? 0 a k=Y P->ny aw az W 0 (λ_=>M) M X e P=Y x->∃g L y,a=⟨g,L,R⟩/\g<V (Z W)/\(∀j u,(f y)[j]?=Y u->N W (K g<|L+j)=Y u)/\G y x.1)
  {v}(C:ny aw az W 0 (λ_=>M) M X t [v]=Y x):
  ∃l:bA S,Sgx k (V (Z W)) W v l f/\∃A:bA<|DataW H,T A=T l/\uptoBulkAll A<=uptoBulk x.1/\∀i (h:i<T l),∃d,A[i]?=Y d/\G l[i] d:=by
 obtain⟨c,_⟩|⟨a,m,cap,b,B,n,_,c,rfl,hl,u,F,z,r,_,_⟩:=DataW.trod_slice D C;cases c;exact⟨[],⟨R,0,O,Nat.le_refl _,λ_=>⟨O,O⟩,λi h=>by simp at h⟩,[],O,by simp[uptoBulkAll],λi h=>by simp at h⟩;cases c;let j:∀i,i<m->∃g L y,a.add (i*k)=⟨g,L,R⟩/\g<V (Z W)/\(∀j u,(f y)[j]?=Y u->N W (K g<|L+j)=Y u)/\∃d,(b.map (·.1))[i]?=Y d/\G y d:=by
  intro i o;let w:=r i o;let p:i<T b:=À;rw[hk,Jc p,Option.bind_eq_some_iff]at w;let⟨P,c,hy⟩:=w;let⟨g,L,y,h1,h2,h3,h4⟩:=s c hy;exact⟨g,L,y,h1,h2,h3,_,by rw[List.getElem?_map,Jc p];rfl,h4⟩
 let f':∀i,i<m->∃y,(∃g L,Y a=Y ⟨g,L,R⟩/\g<V (Z W)/\∀j u,(f y)[j]?=Y u->N W (K g<|L+i*k+j)=Y u)/\∃d,(b.map (·.1))[i]?=Y d/\G y d:=by
  intro i o;let⟨g0,o0,_,q,_⟩:=j 0 (by omega);rw[Nat.zero_mul]at q;have q:a=⟨g0,o0,R⟩:=by simpa[Addr.add]using q
  subst q;let⟨g,L,y,ha,hg,I,hd⟩:=j i o;rw[zaa]at ha;cases ha;exact⟨y,⟨_,_,O,hg,I⟩,hd⟩
 refine⟨List.ofFn λi:Fin m=>pf<|f' i i.2,⟨Y a,cap,by simp,(by simp;omega),λh=>(by cases h),λi o=>?_⟩,b.map (·.1),(by simp;omega),by grind [uptoBulk],λi o=>?_⟩;rw[List.length_ofFn]at o;rw[List.getElem_ofFn];exact(Oq<|f' i o).1;rw[List.length_ofFn]at o;rw[List.getElem_ofFn];exact(Oq<|f' i o).2
def xkc{a C}(e:W.cells? 0 a 2=Y C)(h:ny aw az W 0 (λ_=>M) M X 36 C=Y x):
  ∃g o,∃y:U×Zl,a=⟨g,o,R⟩/\g<V (Z W)/\(∀j u,(ru y)[j]?=Y u->N W (K g<|o+j)=Y u)/\kh y.1/\T y.2+1<=uptoBulk x.1:=by
 let⟨p,e0,m⟩:=Tp e 0 (by decide);let⟨u,q,t⟩:=Tp e 1 (by decide);obtain⟨l,n,_,rfl,f,d,c⟩:=DataW.trod_struct Tryz.underlying36 h;rw[zyy]at f
 match C,f with
 |[r,D],_=>
  match l,d with
  |[L,B],_=>
   simp only[qh,Jm,xj]at e0 q;obtain⟨k,hk,rfl,j⟩:=Fp is<|c 0 _ O;obtain⟨s,i,rfl,_⟩:=DataW.trod_string qv<|c 1 _ O;cases hk;cases i;subst e0;subst q;let⟨g,o,z⟩:=a;have b:z=R:=by simpa[Addr.add]using World.cell?_spot m
   subst b;rw[zaa]at m t;exact⟨g,o,(k,eV s.data),O,js m,λj u f=>(by match j,f with |0,f=>cases f;exact m |1,f=>cases f;rw[xg3];exact t |n+2,f=>cases f),Nz j,by grind [uptoBulk,uptoBulkAll]⟩
def xks1{a C}(e:W.cells? 0 a 1=Y C)(h:ny aw az W 0 (λ_=>M) M X 9 C=Y x):
  ∃g o,∃y:Zl,a=⟨g,o,R⟩/\g<V (Z W)/\(∀j u,(o5 y)[j]?=Y u->N W (K g<|o+j)=Y u)/\1<=uptoBulk x.1:=by
 let⟨p,e0,m⟩:=Tp e 0 (by decide)
 obtain⟨s,rfl,hx,_⟩:=DataW.trod_string qv h
 cases e0
 let⟨g,o,z⟩:=a
 have b:z=R:=by simpa[Addr.add]using World.cell?_spot m
 subst b
 rw[zaa]at m
 exact⟨g,o,eV s.data,O,js m,λj u f=>(by match j,f with |0,f=>cases f;rw[xg3];exact m |n+1,f=>cases f),xm9 _⟩
def xd1{v}(m:ny aw az W 0 (λ_=>M) M X 33 [v]=Y x)(hx:uptoBulk x.1<=100000000):
  ∃l,FA (V<|Z W) W v l/\T l<=100000000/\∀y∈l,kh y.1/\T y.2<=1000000000:=by
 let⟨l,s,A,k,o,b⟩:=xao Tryz.underlying33 zyy ru (λy d=>kh y.1/\T y.2+1<=uptoBulk d) (λp m=>let⟨g,z,y,j,e,k,o,b⟩:=xkc p m;⟨g,z,y,j,e,k,o,b⟩) m
 let u:=uptx (c:=1) (ok:=λ(y:U×Zl) d=>kh y.1/\T y.2+1<=uptoBulk d) k b (λy d h=>by omega)
 refine⟨l,s,by omega,λy q=>?_⟩
 obtain⟨i,n,rfl⟩:=List.mem_iff_getElem.1 q
 let⟨d,t,u,D⟩:=b i n
 let:=To<|List.mem_of_getElem? t
 exact⟨u,by omega⟩
def xs1{v}(m:ny aw az W 0 (λ_=>M) M X 51 [v]=Y x)(hx:uptoBulk x.1<=100000000):
  ∃l,Sgx 1 (V<|Z W) W v l o5/\T l<=100000000:=by
 let⟨l,s,A,k,o,b⟩:=xao Tryz.underlying51 xxx o5 (λy d=>1<=uptoBulk d) (λp m=>let⟨g,z,y,j,e,k,o⟩:=xks1 p m;⟨g,z,y,j,e,k,o⟩) m
 let u:=uptx (c:=1) (ok:=λ(y:Zl) d=>1<=uptoBulk d) k b (λy d h=>h)
 exact⟨l,s,by omega⟩
def xkd{a cs}(y:W.cells? 0 a 8=Y cs)(z:ny aw az W 0 (λ_=>M) M X 73 cs=Y x):
  ∃g off,∃o:Sp,a=(K g off)/\g<V (Z W)/\(∀j u,(eV o.G)[j]?=Y u->N W (K g<|off+j)=Y u)/\9<=uptoBulk x.1/\(uptoBulk x.1<=100000000->∃l,zN (V<|Z W) W {o with eH:=0} l):=by
 have k:=λi B=>Tp y i B;obtain⟨P,n,_,rfl,h,d,b⟩:=DataW.trod_struct Tryz.underlying73 z;rw[xfr]at h
 match cs,h with
 |[u0,u1,u2,u3,u4,u5,u6,u7],_=>
  match P,d with
  |[x0,x1,x2,x3,x4,x5,x6,x7],_=>
   obtain⟨D,e0,rfl,hx⟩:=Fp is<|b 0 _ O;obtain⟨A,p,rfl,w1⟩:=Fp is<|b 1 _ O;obtain⟨F,q,rfl,w'⟩:=Fp is<|b 2 _ O;obtain⟨G,r,rfl,L⟩:=Fp is<|b 3 _ O;obtain⟨H,s,rfl,ho⟩:=Fp is<|b 4 _ O;obtain⟨I,t,rfl,_⟩:=DataW.trod_string qv<|b 5 _ O;obtain⟨hd,w,rfl,_⟩:=DataW.trod_string qv<|b 6 _ O;cases e0;cases p;cases q;cases r;cases s;cases t;cases w;let e:=b 7 _ O;let⟨g,off,spot⟩:=a;obtain⟨wr,-,m⟩:=k 0 (by decide);have c:spot=R:=by simpa[Addr.add]using World.cell?_spot m
   subst c;refine⟨g,off,⟨D,A,F,G,H,eV I.data,eV hd.data,u7⟩,O,js m,λj u f=>?_,?_,λC=>?_⟩;rw[Array.getElem?_toList]at f;unfold Sp.G at f;simp only[xg3]at f;let⟨v,h1,h2⟩:=k j<|(za.1 f).1;grind [zaa];simp[uptoBulk,uptoBulkAll];grind [xm9];let⟨l,l1,l2,l3⟩:=xd1 e (by simp[uptoBulk,uptoBulkAll]at C;omega);exact⟨l,Nz w1,Nz w',Nz L,l1,l2,l3⟩
def xclq{a cs}(y:W.cells? 0 a 6=Y cs)(z:ny aw az W 0 (λ_=>M) M X 62 cs=Y x):
  ∃g off,∃o:Clx,a=(K g off)/\g<V (Z W)/\(∀j u,(eV o.G)[j]?=Y u->N W (K g<|off+j)=Y u)/\7<=uptoBulk x.1/\(uptoBulk x.1<=100000000->∃L,Sgx 1 (V<|Z W) W o.v L o5/\T L<=100000000):=by
 have k:=λi B=>Tp y i B;obtain⟨P,n,_,rfl,h,d,b⟩:=DataW.trod_struct Tryz.underlying62 z;rw[xfs]at h
 match cs,h with
 |[u0,u1,u2,u3,u4,u5],_=>
  match P,d with
  |[x0,x1,x2,x3,x4,x5],_=>
   obtain⟨D,e0,rfl,hx⟩:=Fp is<|b 0 _ O;obtain⟨A,p,rfl,w1⟩:=Fp is<|b 1 _ O;obtain⟨I,t,rfl,_⟩:=DataW.trod_string qv<|b 2 _ O;obtain⟨hd,w,rfl,_⟩:=DataW.trod_string qv<|b 3 _ O;obtain⟨F,q,rfl,_⟩:=DataW.trod_string qv<|b 4 _ O;cases e0;cases p;cases t;cases w;cases q;let e:=b 5 _ O;let⟨g,off,spot⟩:=a;obtain⟨wr,-,m⟩:=k 0 (by decide);have c:spot=R:=by simpa[Addr.add]using World.cell?_spot m
   subst c;refine⟨g,off,⟨D,A,eV I.data,eV hd.data,eV F.data,u5⟩,O,js m,λj u f=>?_,?_,λC=>?_⟩;rw[Array.getElem?_toList]at f;unfold Clx.G clG E at f;simp only[xg3]at f;let⟨v,h1,h2⟩:=k j<|(za.1 f).1;grind [zaa];let:=xm9 x5.1;simp[uptoBulk,uptoBulkAll];omega;exact xs1 e (by simp[uptoBulk,uptoBulkAll]at C;omega)
def xap{v}(b:ny aw az W 0 (λ_=>M) M X 58 [v]=Y x)(hx:uptoBulk x.1<=1048576):∃D,SL (V<|Z W) W v D:=by
 let⟨l,s,A,k,o,b⟩:=xao Tryz.underlying58 xfr (λ(o:Sp)=>eV o.G) (λo d=>9<=uptoBulk d/\(uptoBulk d<=100000000->∃l,zN (V<|Z W) W {o with eH:=0} l)) (λp m=>let⟨g,z,y,j,e,k,o,b⟩:=xkd p m;⟨g,z,y,j,e,k,o,b⟩) b
 let u:=uptx (c:=9) (ok:=λ(o:Sp) d=>9<=uptoBulk d/\(uptoBulk d<=100000000->∃l,zN (V<|Z W) W {o with eH:=0} l)) k b (λy d h=>h.1)
 refine⟨l,s,by omega,λi n=>?_⟩
 let⟨d,t,u,D⟩:=b i n
 let:=To<|List.mem_of_getElem? t
 exact D (by omega)
def xaq{v}(b:ny aw az W 0 (λ_=>M) M X 57 [v]=Y x)(hx:uptoBulk x.1<=1048576):∃D,CLx (V<|Z W) W v D:=by
 let⟨l,s,A,k,o,b⟩:=xao Tryz.underlying57 xfs (λ(o:Clx)=>eV o.G) (λo d=>7<=uptoBulk d/\(uptoBulk d<=100000000->∃L,Sgx 1 (V<|Z W) W o.v L o5/\T L<=100000000)) (λp m=>let⟨g,z,y,j,e,k,o,b⟩:=xclq p m;⟨g,z,y,j,e,k,o,b⟩) b
 let u:=uptx (c:=7) (ok:=λ(o:Clx) d=>7<=uptoBulk d/\(uptoBulk d<=100000000->∃L,Sgx 1 (V<|Z W) W o.v L o5/\T L<=100000000)) k b (λy d h=>h.1)
 refine⟨l,s,by omega,λi n=>?_⟩
 let⟨d,t,u,D⟩:=b i n
 let:=To<|List.mem_of_getElem? t
 exact D (by omega)
end
end
section
open Go.ChangeShapes Go.WideShapes Go.ChangeAt Go.Conc
open Go.ChangeMaps (open_string shut_string)
theorem cN:ownKnob Tryz.prog.godebug=R:=Ä
def xth:laidOutB az=M:=Ä
def jbh:Tryz.prog.globalNamed "coffer/prim.roundWords"=Y 2:=Ä
def xn0:(Tryz.prog.globals[2]?).map (·.type)=Y 236:=Ä
def xv8:Tryz.prog.globalNamed "coffer/cofferref.roots"=Y 3:=Ä
def xjp:(Tryz.prog.globals[3]?).map (·.type)=Y 236:=Ä
def jbg:Tryz.prog.globalNamed "coffer/disk.ErrCrashed"=Y 0:=Ä
def xnz:(Tryz.prog.globals[0]?).map (·.type)=Y 212:=Ä
def jbi:Tryz.prog.globalNamed "coffer/coffer.errTampered"=Y 1:=Ä
def xn1:(Tryz.prog.globals[1]?).map (·.type)=Y 212:=Ä
def zy0:Tryz.prog.cellsOf 236=64:=Ä
def zyz:Tryz.prog.cellsOf 232=1:=Ä
def Ki:bA U:=[1116352408,1899447441,3049323471,3921009573,961987163,1508970993,2453635748,2870763221,3624381080,310598401,607225278,1426881987,1925078388,2162078206,2614888103,3248222580,3835390401,4022224774,264347078,604807628,770255983,1249150122,1555081692,1996064986,2554220882,2821834349,2952996808,3210313671,3336571891,3584528711,113926993,338241895,666307205,773529912,1294757372,1396182291,1695183700,1986661051,2177026350,2456956037,2730485921,2820302411,3259730800,3345764771,3516065817,3600352804,4094571909,275423344,430227734,506948616,659060556,883997877,958139571,1322822218,1537002063,1747873779,1955562222,2024104815,2227730452,2361852424,2428436474,2756734187,3204031479,3329325298]
def xv2:∀i:Fin 64,Ki.getD i.val 0=u (Kc i.val):=Ê
def Tn{P:Zp}{x:String×DataW Unit}{rest:bA<|String×DataW Unit}(h:laidMet P (x::rest) W):laidMet P rest W:=by let⟨o,⟨g,t,C,X,p,q,s,m,r,n,y,z⟩,j,u⟩:=h;subst z;exact⟨q,y,(GK.1 j).2.1,λb a c=>u b a<|List.mem_append_right _ c⟩
def xwi: "*" ++ "errors.errorString"= "*errors.errorString":=Ã
def xzg(u:Zt)(h:Tryz.prog.typeName? 3 u=Y "*errors.errorString"):u=388:=
 typeName_ptr_named (nm:= "errors.errorString") (by rw[xwi];kernel_rfl) Ä Ã u (xwi▸h)
def xng:Tryz.prog.cellsOf 410=1:=Ä
def zoy{n:String}{v:Zv}(a:Tryz.prog.globalNamed n=Y g)(h:W.var? az n=Y #[v]):N W (K g 0)=Y v:=by simpa using World.var?_cell a h 0
def xyc(h:laidMetH az Rows.allUptoRow.laid W):∃cv tv,nD cv tv W/\qF (V<|Z W) cv tv W/\Yq W:=by let b:=h;let d:Lib.TabIs az W "coffer/cofferref.roots" cJ Ki:=Lib.tabIs_of_head (rest:=_) xv8 xjp Tryz.underlying236 Tryz.underlying232 zyz zy0 b;let t:Lib.TabIs az W "coffer/prim.roundWords" cJ Ki:=Lib.tabIs_of_head (rest:=_) jbh xn0 Tryz.underlying236 Tryz.underlying232 zyz zy0<|Tn b;let⟨A,u,n,l,C,s,m,r,q,p,_,_,_,_,_,_,j,y,z⟩:=laid_sentinels2 (Tn<|Tn b) jbg xnz jbi xn1 jT xzg Tryz.underlying388 Tryz.underlying410 O O qv xng xxx;let c:∀{i:Q} {o:Obj},W.heap[i]?=Y o->i<V (Z W):=λh=>(za.1 h).1;refine⟨_,_,⟨⟨_,_,O,zoy jbg q⟩,⟨_,_,O,zoy jbi p⟩,λi a=>?_⟩,⟨A,u,C,s,m,r,O,O,λe=>j e.symm,c y,c z,y,z⟩,λi a=>?_⟩;rw[t.cell jbh i a,xv2 ⟨i,a⟩];rw[d.cell xv8 i a,xv2 ⟨i,a⟩]
def Tk.ac{u:Zy}(h:Tk v u):aP (V v.blind.heap) v.blind u.blind:=⟨h.1,O,h.2.1,h.2.2.1,h.c⟩
abbrev xxz:eM:={data:=#[116,104,101,32,109,97,99,104,105,110,101,32,115,116,111,112,112,101,100]}
abbrev jdm:eM:={data:=#[115,111,109,101,98,111,100,121,32,104,97,115,32,98,101,101,110,32,97,116,32,116,104,101,32,100,105,115,107]}
noncomputable def vw:Q:=V (World.holding az default ⟨#[],#[],[]⟩).heap
noncomputable def zn6(z:Os):Zy:=
 let y:=World.holding az z ⟨#[au #[ak xxz] 410,au #[ak jdm] 410],#[],[]⟩
 {y with heap:=(((y.heap.modify 3 fun
   | au _ t F=>au (bH (Ki.map λx=>zu x)) t F|o=>o).modify 2 fun
   | au _ t F=>au (bH (Ki.map λx=>zu x)) t F|o=>o).modify 0 fun
   | au _ t F=>au #[iW 388<|zq vw] t F
   |o=>o).modify 1 fun
   | au _ t F=>au #[iW 388<|zq<|vw+1] t F
   |o=>o}
def xog(a:Os):laidMet az Rows.allUptoRow.laid ((zn6 a).forCall (λ_ _=>0) ⟨#[],#[aB R 0 0,aB R 0 0],[]⟩).memory:=
 laidMet_of_run' 70 Ä Ä
def jc8(a:Os)(e:Zt×Zv->H):∃P,DataW.whole e az ((zn6 a).forCall (λ_ _=>0) ⟨#[],#[aB R 0 0,aB R 0 0],[]⟩).memory (eV Tryz.f8.params) Rows.allSpec.vars ao (eV (#[aB R 0 0,aB R 0 0])) 8=Y ([.nil,.nil],[],P):=
 ⟨[],Ä⟩
def jfb{enc:Zt×Zv->H}(W:Zy)(base:Q)(A:Za)(g gs:bA<|DataW H)(a:bA MemPlace)
  (b:∀(j:Q) t v,Tryz.f8.params[j]?=Y t->A[j]?=Y v->Value.okWide az W .any base t v)(y:Rows.uptoBulkAll (g++gs)<=1048576)
  (l:DataW.Whole enc az (eV Tryz.f8.params) Rows.allSpec.vars ao W (eV A) g gs a)(s:laidMetH az Rows.allUptoRow.laid W):
  ∃u P o w' t',fQ az (u+1) (solo (G (bI az 8 A dH) []) W) #[]=(lV o w',t')/\runN az u (solo (G (bI az 8 A dH) []) W)=gP P/\step az P=lV o w'/\
   oJ az (λv W'=>Rows.allSpec.post enc az Tryz.f8 ao M ao ao W.blind A v W'.blind) P o w' t':=by
 let c:=l
 obtain⟨p,q,e,w,rfl,z,B⟩:=l
 let k:=e
 rw[Tryz.params8]at k b
 obtain⟨F1,F2,r1,r2,p1,p2,rfl,rfl,rfl,i1,i2⟩:=trodAll_two k
 obtain⟨rfl,rfl⟩:=trodVars_none w
 obtain⟨n1,f1,d1,rfl⟩:=okWide_slice Tryz.underlying57<|b 0 57 F1 O O
 obtain⟨n2,f2,d2,rfl⟩:=okWide_slice Tryz.underlying58<|b 1 58 F2 O O
 let⟨X1,hf1⟩:=id i1
 let⟨X2,hf2⟩:=id i2
 simp only[List.append_nil]at c y
 simp only[Rows.uptoBulkAll]at y
 let⟨D1,hD1⟩:=xaq hf1 (by show Rows.uptoBulk r1<=_;omega)
 let⟨D2,hD2⟩:=xap hf2 (by show Rows.uptoBulk r2<=_;omega)
 let⟨cv,tv,hG,hT2,hTb⟩:=xyc s
 let⟨u,P,o,w',t',r1,r2,r3,r4⟩:=vr _ D1 _ D2 hG hT2 hTb hD1 hD2
 refine⟨u,P,o,w',t',r1,r2,r3,r4.mono λv C=>?_⟩
 obtain⟨rfl,hk⟩:=C
 let m:=hk.ac
 let L1:DataW.Trod enc az W.blind 0 (λ_=>M) M 57 (aB n1 f1 d1) _ p1:=DataW.Trod.of_heap (by rfl) i1
 let L2:DataW.Trod enc az W.blind 0 (λ_=>M) M 58 (aB n2 f2 d2) _ p2:=DataW.Trod.of_heap (by rfl) i2
 refine⟨_,_,_,[],_,[],DataW.Whole.of_heap (w':=W.blind) (by rfl) c,trodAll_cons_mk (shut_bool Tryz.underlying4 _) trodAll_mk0,trodAll_cons_mk (Below.trod xth Ä (Xt Â) L1 m λx I=>c.lt x (by simp[I])) (trodAll_cons_mk (Below.trod xth Ä (Xt Â) L2 m λx I=>c.lt x (by simp[I])) trodAll_mk0),O,m.frame _,λh=>by cases h⟩
def xyo(d:Os)(a:d.Started)(H:Type)(enc:Zt×Zv->H):
  ReturnsInLeavingWide {} Tryz.checked d 8 .any ((Rows.OpenSpec.upto Rows.allSpec).preRow enc az Tryz.f8 Rows.allUptoRow.domain ao Rows.allUptoRow.laid) (Rows.allSpec.post enc az Tryz.f8 ao M ao ao):=by
 let⟨P,z⟩:=jc8 d enc;refine returnsInLeavingWide_of_good (C:=Tryz.checked) cN a
  (witness_row_at (enc:=enc) (C:=Tryz.checked) ao _ #[aB R 0 0,aB R 0 0] O Ä Ä Ä
   (OpenSpec.preRow_of_cond 8 z Ä (λk hk=>by cases hk;kernel_rfl) Ä<|xog d)) ?_
 intro w c i _ _ _ f b _;let⟨_,_,_,F,h,_,_,_,_,y⟩:=f;have e:=ql<|h.symm.trans Tryz.func8;subst e;let⟨⟨q,t⟩,j⟩:=b;let⟨D,G,B,p,u,hk⟩:=OpenSpec.pre_parts q;exact jfb _ (V<|Z w) i.args D G B y (Xt<|hk _ O) (DataW.Whole.of_heap (w':=w.forCall c i) Ò p)<|t.of_heap Ò
end

end P
namespace P
variable{x cv tv:Zv}{v w W:Zy}{H S:Type}{X g:Q}
open Go.RowKit A
def jeq{a b:ez}(h:a=M)(k:b=M):(a&&b)=M:=by rw[h,k];rfl
def j9:((Rows.allUptoRow.inPlace==Tryz.pinned.checked.prog.inPlace 8))=M:=Ä
def j10:((Rows.allUptoRow.unfollowed==Tryz.pinned.checked.prog.unfollowed 8))=M:=Ä
def j11:((Rows.allUptoRow.recurses==Tryz.pinned.checked.prog.recurses 8))=M:=Ä
def j12:((Rows.allUptoRow.named==Tryz.pinned.checked.prog.varsNamed 8))=M:=Ä
def jbe:joinedFacts Tryz.pinned.checked.prog 8 Tryz.f8 (Rows.OpenSpec.upto Rows.allSpec).bare Rows.allUptoRow=M:=by
 unfold joinedFacts;repeat' with_reducible refine jeq ?_ ?_
 all_goals first|with_reducible exact j9|with_reducible exact j10|with_reducible exact j11|with_reducible exact j12|kernel_rfl
def zth{p:Go.Pinned}{s:ChangeSpec}{q:OpenSpec}{c:OpenClaim}(f:FuncId)(fn:kL)
  (hn:c.program=p.name)(hs:c.sum=p.sum)(u:c.spec=q.name)
  (d:c.start= .entering)(g:c.outside=[])(P:c.inits=[])(A:c.under=R)(D:c.initsInPlace=[]/\c.initsUnfollowed=ao/\c.initsRecurse=ao/\c.initsNamed=[]/\c.initsPassed=[])(t:c.noBlocks=ao)(G:c.leaving=M)(j:c.followed=R)(r:c.narrowed=q.cond.isSome)(i:c.still=ao)
  (C:p.checked.prog.funcNamed c.func=Y f)(hf:p.checked.prog.funcs[f]?=Y fn)
  (e:joinedFacts p.checked.prog f fn q.bare c=M)
  (l:fn.isInstance p.checked.prog c.origin c.targs)(o:fn.isWrapper p.checked.prog c.wrapper c.mainSum)
  (m:∀(H:Type) (enc:Zt×Zv->H) F,q.post enc p.checked.prog fn F [] c.apart c.fresh c.handsOn c.again=s.post enc p.checked.prog fn c.apart c.fresh c.handsOn c.again)
  (h:∀os:Os,os.Started->∀(H:Type) (enc:Zt×Zv->H),(∀a b,enc a=enc b->a=b)->
   ReturnsInLeavingWide c.assume p.checked os f .any (c.pre enc p.checked.prog fn q) (s.post enc p.checked.prog fn c.apart c.fresh c.handsOn c.again)):c.holds p q:=by
 simp only[joinedFacts,jy,zQ,jn,GM,Y8]at e;obtain⟨⟨⟨⟨⟨⟨⟨⟨⟨⟨⟨⟨⟨⟨⟨⟨⟨⟨⟨⟨⟨⟨⟨⟨⟨⟨⟨⟨⟨⟨⟨k1,k2⟩,k3⟩,k4⟩,k5⟩,k6⟩,k7⟩,k8⟩,k9⟩,w'⟩,hd⟩,h1⟩,h2⟩,hx⟩,S⟩,ho⟩,wr⟩,v⟩,cs⟩,W⟩,X⟩,g'⟩,v'⟩,w⟩,x⟩,y⟩,z⟩,B⟩,ba⟩,bb⟩,bc⟩,bd⟩:=e;have hq:∀os:Os,Stop.quiet p.checked.prog os:=λos k hk=>by rw[k9]at hk;cases hk
 refine⟨k1,hn,hs,u,k2,k3,by unfold OpenClaim.startFits;rw[d];exact y,by unfold OpenClaim.startTold;rw[d];exact⟨P,A,D⟩,f,fn,C,hf,⟨k4,W⟩,(λhb=>by rw[t]at hb;cases hb),by unfold OpenClaim.namedList;rw[j];exact k5,l,o,
  k6.trans k7.symm,⟨k8.trans k9.symm,by unfold Program.envWorded;rw[k9];rfl,x⟩,w',hd,h1,h2,hx,⟨S,bc,bd⟩,⟨ho,X⟩,⟨wr,g',ba,bb⟩,⟨v',z,B,v⟩,(by rw[g,r];cases hsh:c.shortTexts with|none=>simp|some _=>rw[hsh]at w;cases w),λn I=>varReadable_some<|cs n I,
  ⟨_,by unfold OpenClaim.world;rw[g,d];exact WideRow.started_initial,hq _⟩,[],by unfold OpenClaim.lists;rw[j],λos st _ H enc L=>?_⟩
 have be:os.Started:=by unfold OpenClaim.world at st;rw[g,d]at st;exact st
 rw[OpenClaim.post_not_still i];unfold OpenClaim.form;rw[d,k6];intro F;have e1:c.okInput=Input.okWide:=by unfold OpenClaim.okInput;rw[t]
 have e2:c.atReturn p.checked.prog=leavingAtReturn p.checked.prog:=by unfold OpenClaim.atReturn;rw[G]
 have e3:c.always p.checked.prog []=nothingAlways:=by unfold OpenClaim.always;rw[j]
 rw[e1,e2,e3];show ReturnsInOpen _ _ _ _ _ _ _ _ (q.post enc p.checked.prog fn F c.outside c.apart c.fresh c.handsOn c.again) _ _;rw[g,m];exact h os be H enc L y
def xyv:Tryz.pinned.checked.prog.funcNamed Rows.allUptoRow.func=Y 8:=Ä
def jbl:Tryz.f8.isInstance Tryz.pinned.checked.prog Rows.allUptoRow.origin Rows.allUptoRow.targs:=Xt Ä
def jdx:Tryz.f8.isWrapper Tryz.pinned.checked.prog Rows.allUptoRow.wrapper Rows.allUptoRow.mainSum:=by unfold Func.isWrapper;first|(rw[aT Ê];kernel_rfl)|(rw[aL Ê];exact⟨O,O⟩)
def Tj:Rows.AllUptoSaid:=
 zth (s:=Rows.allSpec) 8 Tryz.f8 O O O O O O O ⟨O,O,O,O,O⟩ O O O O O xyv Tryz.func8 jbe jbl jdx (λ_ _ _=>O)
  (λc a H b _=>by rw[OpenClaim.pre_eq_preRow];exact xyo c a H b)
def pC(f:FuncId)(F:kL)(d:Tryz.pinned.checked.prog.funcNamed "coffer/cofferlaw.All"=Y f)(a:Tryz.pinned.checked.prog.funcs[f]?=Y F):
  M=Tryz.pinned.checked.prog.looks []/\∀(j:Q) t,F.params[j]?=Y t->Tryz.pinned.checked.prog.wantsStandIn t=ao:=by
 obtain rfl:f=8:=ql ((show Tryz.prog.funcNamed "coffer/cofferlaw.All"=Y 8 by kernel_rfl).symm.trans d) |>.symm;obtain rfl:F=Tryz.f8:=(ql<|Tryz.func8.symm.trans a).symm;refine⟨Ä,λj t c=>?_⟩;rw[Tryz.params8]at c;have b:=Ks c;simp only[KC,jc,Ky,or_false]at b;obtain rfl|rfl:=b;exact(show Tryz.prog.wantsStandIn 57=ao by kernel_rfl);exact(show Tryz.prog.wantsStandIn 58=ao by kernel_rfl)
def jbj:M=Rows.allUptoRow.goesBy Tryz.pinned.checked.prog:=Ä
def jbu:Tryz.pinned.checked.prog.mainIs=Y (M,"6112a70bf7700c9ef082f368a9341514db7d80b00d6c93fffd8a755e3258b503".toList):=Ä
def card:Rows.AllUptoCardSaid:=
 ⟨Claim7.tied_new_at .later [.data,.data,.sentinel,.sentinel] M (Claim7.new_of_sixth Tj (M,"6112a70bf7700c9ef082f368a9341514db7d80b00d6c93fffd8a755e3258b503") M O ⟨O,O⟩ jbu O pC) Ä,λD a=>(by cases a),allUpto_row_tie,(λh=>È),jbj⟩
end P
end Go.Proofs.YtjnbhiamaabbgabGreatDoor
