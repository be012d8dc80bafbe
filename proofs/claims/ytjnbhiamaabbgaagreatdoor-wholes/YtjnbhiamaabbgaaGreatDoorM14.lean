import Derived.Test.YtjnbhiamaabbgaaGreatDoorM13
import Derived.Test.YtjnbhiamaabbgaaGreatDoorRows
import Derived.Lib.LaidTab
import Derived.Test.YtjnbhiamaabbgaaGreatDoorCards
import Derived.Test.YtjnbhiamaabbgaaGreatDoorTie
import Derived.Conc.LeavingOf
import Derived.OpenShut
import Derived.Deep.DeepHandedRow
import Derived.Stop.LaidTwo
set_option linter.all false
set_option maxRecDepth 100000
set_option maxHeartbeats 8000000
section
variable{P:Prop}
def zdl(h:P:=by exact k.o .ret _ _ Â<|x _ _ O O m):P:=h
end
namespace Go.Proofs.YtjnbhiamaabbgaaGreatDoor
open Go renaming Act->mh,Calls->aK,Code->pB,Ending->kH,Func->kL,Program->cI,Trace->gA,TypeId->oW,Value->eJ,World->dN,execOp->aR,resolve->o8,results->eR,runNT->fQ,stepG->bW,undef->Z,unwind->dT
open Go.Act renaming put->ge
open Go.CallKind renaming normal->dH
open Go.Code renaming seq->gU
open Go.Conc renaming Deaf_other->dJ,Good->oJ,awake_of->oI,crowd->gJ,mem_ofEvents->zy,touchAt->mg
open Go.DataW renaming trod->ny
open Go.Ending renaming panicked->iL,returned->ai
open Go.Exit renaming normal->eE
open Go.Frame renaming enter->bI
open Go.FrameMode renaming returning->eB
open Go.GStep renaming ended->ic
open Go.IntKind renaming i64->bB,u32->cJ
open Go.Item renaming code->dE
open Go.MemOp renaming ofEvents->aZ
open Go.Obj renaming cells->au
open Go.Proofs renaming intOf->bZ
open Go.Proofs.Tryz renaming f4->nM,prog->az,underlying169->jT,underlying3->is,underlying9->qv
open Go.Result renaming ok->dG
open Go.RowKit renaming Below->aP
open Go.Stepped renaming ended->lV,next->gP
open Go.Value renaming agg->bY,bool->bG,iface->iW,int->Q,slice->aB,string->ak
open Go.WideShapes renaming add_plain->zaa
open Go.World renaming alloc->aF,cell?->N,heap->Z'
open Go.stepG renaming exec->aI
open _root_ renaming Array->bE,Bool->ez,ByteArray->eM,Int->U,List->bA,Nat->aD,Option->dD,if_neg->aL,if_pos->aT,rfl->O,trivial->bD
open _root_.Array renaming replicate->cL,size->V,toList->eV
open _root_.Bool renaming false->ao,true->ay
open _root_.Classical renaming choose->pf
open _root_.Decidable renaming decide->bR
open _root_.False renaming elim->eT
open _root_.Int renaming toNat->bL
open _root_.List renaming length->T,length_append->zx,pairwise_cons->Xw,range->iC,toArray->bH
open _root_.List.Pairwise renaming nil->iV
open _root_.Nat renaming reduceAdd->jY,reduceSub->lh
open _root_.Option renaming none->aw,some->ac
open _root_.Or renaming inl->aJ,inr->Y
namespace P
variable{B d g k n H x lo j:aD}{r r':Sr}{D:bA Sp}{M:bA Int}{a:mh}{w0 w w':Zy}{e:kH}{t:aD->Question->aD}{cv tv v:Zv}{l:FL}{o:Sp}
open A.Tryq Go.RowKit
section
open A
attribute [local go_sem] zn zg
structure Hs(B:aD)(r:Sr)(w0 w:Zy):Prop where
 st:Vq w B r
 cN:∀x,r.cN B x->V (Z' w0)<=x
 nw:Nw w0 w
section
variable{z w w':dN}
def Hs.to(h:Hs B r z w)(t:Zd B r w r' w'):Hs B r' z w':=⟨t.dI,λx a=>(t.cN x a).elim (h.cN x) λk=>xa h.nw.Q k,h.nw.lO t.y λy b=>Y (h.cN y b)⟩
def Hs.ib(h:Hs B r z w)(n:Nw w w'):Hs B r z w':=⟨h.st.y n λ_ _=>id,h.cN,h.nw.aE n⟩
end
def tu:Zl:=[48,49,50,51,52,53,54,55,56,57,97,98,99,100,101,102,48,49,50,51,52,53,54,55,56,57,65,66,67,68,69,70]
def Fa(S m:aD):kE:=Aw S {ld tu Yn 0 1 m with aQ:=0} []
def E7(D M S m:aD):Sr:={Sr.ex 100000 100 5 tu D M with op:=1,sn:=ac<|Fa S m}
def xfz(m:aD):Xr (ld tu Yn 0 1 m) []=ac ({ld tu Yn 0 1 m with aQ:=0},[]):=by
 have e:Xc (ld tu Yn 0 1 m) []=ac (ld tu Yn 0 1 m,[]):=by unfold Xc;exact aT O
 have l:Z7 [] 0=0:=by unfold Z7 yQ;exact aL λh=>h.2 O
 unfold Xr;rw[e];exact aT<|aJ ⟨O,O⟩
def xsv{D M:aD}{a:U}(h:Ds (Sr.ex 100000 100 5 tu D M) a r'):a=0/\∃S m,r'=E7 D M S m:=by
 have⟨m,h⟩:=h;have e:(Zb {ld tu Yn 0 1 m with aQ:=0} ⟨100000,M,[],aw⟩)=(ay,{ld tu Yn 0 1 m with aQ:=0},⟨100000,M,[],aw⟩):=by
  have c:Zk []=[]:=List.eq_nil_iff_forall_not_mem.2 λa h=>by grind [PN]
  rw[ϳ O];unfold Wd;simp only[c];rfl
 unfold EW EV at h;rw[show Xr (ld (Sr.ex 100000 100 5 tu D M).m (Sr.ex 100000 100 5 tu D M).bQ (Sr.ex 100000 100 5 tu D M).bF (((Sr.ex 100000 100 5 tu D M).op+1:aD):U) m) (Sr.ex 100000 100 5 tu D M).d.L=_ from xfz m]at h;rw[aL<|by simp[Sr.ex],aL<|by simp[Sr.ex]]at h;obtain⟨_,b,S,f⟩|⟨b,_⟩:=h;refine⟨b,S,m,f.trans ?_⟩;unfold Ϧ;rw[show Zb {ld tu Yn 0 1 m with aQ:=0} (Sr.ex 100000 100 5 tu D M).d=_ from e];rfl;grind [Sr.ex]
def xx7{D M S m:aD}{a:U}(h:(E7 D M S m).eD (oR [97]&&tD [49]) (.put [97] [49]) a r'):a=0/\∃P,r'={E7 D M S m with sn:=ac<|(Fa S m).kM P<|.put [97] [49]}:=by grind [Sr.eD,E7,Fa,Aw,oR,tD]
def xsw(D M S m:aD)(P:Zv):∃r',({E7 D M S m with sn:=ac<|(Fa S m).kM P<|.put [97] [49]}:Sr).fm ((Fa S m).kM P<|.put [97] [49])=(ac 0,r')/\r'.bF=1:=by
 generalize h:({E7 D M S m with sn:=ac _}:Sr)=r;generalize y:(Fa S m).kM P _=s;have f:=ZV r s;have c:r.bF=0:=by rw[<-h];rfl
 have e:r.mW=5:=by rw[<-h];rfl
 have a:r.d=⟨100000,M,[],aw⟩:=by rw[<-h];rfl
 have b:s.P=[.put [97] [49]]:=by rw[<-y];rfl
 have w:r.fc s [82] s.ep (Z5 s.P)=(ac 0,r.jI s [82] s.ep<|Z5 s.P):=by unfold Sr.fc;rw[aL À,aL<|by rw[a,b];simp[bO,Z5,vI,sQ,Z2];omega,aL<|by rw[a];simp[Dk.cS],aL<|by grind [Dk.cS,Dk.gt,Dk.dZ]]
 unfold Sr.fm;rw[aL Á,w,aT O];exact⟨_,O,by show r.bF+1=1;omega⟩
def xv7{M:aD}(h:Hs B r w0 w)(f:4<V (Z' w0))(a:r.m=tu)(b:r.bQ=Yn)(j:r.bF=0)(k:r.op<=1)(e:r.d=⟨100000,M,[],aw⟩)(l:∀s,r.sn=ac s->s.aQ=0/\T s.P<=20):pH B r:=by refine⟨by rw[a];rfl,by rw[b];rfl,À,À,Á,by rw[e];exact⟨λp g=>ò,Zz _⟩,Á,λc n=>Á,λx i=>zm f<|h.cN x i,λs o=>?_⟩;grind
variable[pn:A.Pn]
noncomputable def JX:=Qf Tryz.f28.body
noncomputable def jff:=Qa JX
noncomputable def jfg:=Qa<|Qb JX
noncomputable def jfh:=Qa<|Qb<|Qb JX
noncomputable def r28:=Qa<|Qn 3 JX
noncomputable def y28:=Qn 4 JX
def xxq:Tryz.f28.body=ac (gU jff<|gU jfg<|gU jfh<|gU r28 y28):=Ä
def zM:¬Mc az 28:=Av Ã Ã Tryz.func28
def Fc(w:Zy)(e:kH)(w':Zy):Prop:=e=ai (bG ay)/\Nw w w'
def zx6:Fc w e (re w' t d)↔Fc w e w':=⟨λh=>⟨h.1,zj.re h.2⟩,λh=>⟨h.1,Nw.lQ h.2 t d⟩⟩
def xn3(hG:nD cv tv w)(C:qF (V<|Z' w) cv tv w):CC az 28 #[] w<|Fc w:=by
 have hQ:rq<|sV az dA Tryz.f28<|Fc w:=Dh λe f t d=>zx6;refine CC.kS bX zM (gy O Tryz.func28 O).1 Tryz.func28 xxq ?_;rw[show Tryz.f28.ntmps=61 from O];generalize hPX:sV az dA Tryz.f28 (Fc w)=PX at hQ;have HR:∀a f,a.defers=[]->At a 0 (bG ay)->Nw w f->PX .ret a f:=λa f h1 C h3=>by rw[<-hPX];refine⟨h1,bG ay,λt d=>⟨t,d,?_⟩,O,h3⟩;show(eR Tryz.f28 _).run prog _=_;unfold At at C;simp[eR,Tryz.results28,go_sem,C]
 have z:=hQ;have HG:=hG;simp only[jd,xg,qy,jY,lh,qu,qw,Xa,Zh,qj,qg];refine so zM z λw1 ba h2 I be=>?_;conv=>arg 2;whnf
 go_wp2;refine I.o _ _ ?_;refine so zM z λw2 bb F hx bf=>?_;have N2:Nw w w2:=(qm h2).aE<|qm F;conv=>arg 2;whnf
 go_wp2;refine(Ġ 100000 100 5 tu Ã Ã Ã Ã Ã Ã O _).mono ?_;rintro e w3⟨B,D,M,rfl,hB,hD,hM,ho,b⟩;have H3:Hs B (Sr.ex 100000 100 5 tu D M) w w3:=⟨b,λx p=>xa N2.Q (by obtain rfl|p|⟨s,u,-⟩:=p;exact hB;obtain rfl|rfl|⟨c,o,-⟩:=p;exact hD;exact hM;cases o;cases u),N2.aE<|zj.J ho⟩;go_wp2;refine hx.o _ _ ?_;refine so zM z λw4 bc G wr bg=>?_;have l:=H3.ib<|qm G;conv=>arg 2;whnf
 go_wp2;refine wr.o _ _ ?_;have h4:=HG.iE;have y:∀f,Nw w f->nD cv tv f/\qF (V<|Z' w) cv tv f:=λf n=>⟨HG.y n λ_ x=>x.elim,C.y n λ_ x=>x.elim⟩;have j:=Ϩ l.st (Zz _) (xv7 l h4 O O O (Zz _) O λs e=>Æ) (y _ l.nw).1 (y _ l.nw).2 l.cN (λi=>Zz _) λq k L e=>by cases((xfz q).symm.trans e);exact⟨λh=>È,Á,Á⟩
 refine Yp.vU bX zM bD ?_;conv=>arg 3;whnf
 refine Yp.ig bX zM ?_;refine vh zM ⟨O,O⟩ ?_;refine Vh.lP bX zM O O (λv=>î) (gy O Tryz.func13 O) j ?_ ?_;rotate_left;rintro ch w7⟨_,P,_⟩;cases P;rintro v5 w5⟨a5,P,r5,b,p⟩;cases P;obtain⟨rfl,S,q,rfl⟩:=xsv p;refine vh zM ⟨O,O⟩ ?_;refine Vh.nil bX zM ?_;refine ?_;simp only[ge,Zj,Vp,Kr];refine Gp zM z λw6 bd H cs=>?_;have A:=(l.to b).ib<|qm H;conv=>arg 2;whnf
 go_wp2;refine(YG B _ [97] [49] _ A.st λs e=>by cases e;exact Zz _).mono ?_;rintro e w7⟨a7,r7,rfl,b,g'⟩;obtain⟨rfl,pv,rfl⟩:=xx7 g';have hd:=A.to b;go_wp2;refine(YI B _ [97] _ hd.st λs e=>by cases e;show 1<=20;decide).mono ?_;rintro e w8⟨rfl,v'⟩;rw[show Sr.iS {E7 D M S q with sn:=ac<|(Fa S q).kM pv<|.put [97] [49]} [97]=([49],0)from O];have g:=hd.ib v';go_wp2;refine(PO B _ _ g.st).mono ?_;rintro e w9⟨rfl,rfl⟩;go_wp2;have⟨rz,hz1,hz2⟩:=xsw D M S q pv;refine(ń B _ _ _ g.st O (xv7 g h4 O O O (zd 1) O λs e=>by cases e;exact⟨O,by show 1<=20;decide⟩) (y _ g.nw).1 (y _ g.nw).2 g.cN λc o=>?_).mono ?_;rw[ju.1 o];exact⟨Ã,Ã,Ã⟩;intro e X hw;have es:e=ai (J 0)/\∃r,r.bF=1/\Hs B r w X:=by obtain⟨v,r',W,q2,q3⟩|⟨r',W,q2,q3⟩:=hw;rw[hz1]at W;cases W;exact⟨q2,_,hz2,g.to q3⟩;grind
 obtain⟨rfl,rr,o,u⟩:=es;have m:=u;go_wp2;refine(PO B _ _ m.st).mono ?_;rintro e bh⟨rfl,rfl⟩;rw[o];have z1:(st [49]).toList=[49]:=xl _;go_wp2;exact cs.o .ret _ _<|HR _ _ O O m.nw
end
def Ty(w:Zy)(g e:aD):Prop:=∃C,w.heap[g]?=ac (au C e (0,0))
def Ty.eq{e y}(h:Ty w g e)(k:Ty w g y):e=y:=by obtain⟨c,h⟩:=h;obtain⟨d,k⟩:=k;grind
def Ty.lt{e}(h:Ty w g e):g<V (Z' w):=(za.1 h.choose_spec).1
def Ty.y{e S}(h:Ty w g e)(a:zj S w w')(b:¬S g):Ty w' g e:=⟨_,(a.dP g h.lt b).trans h.choose_spec⟩
def Rw.ty{y:Type}{t f}{l:bA y}(h:Rw w t k f v l)(a:v.ownBlock=ac g):Ty w g t:=by obtain⟨e,_⟩|⟨i,c,b,e,_,d,_⟩:=h.2;rw[e]at a;cases a;rw[e]at a;cases a;exact⟨b,d⟩
def xF(c:U->ez)(z:U->Zv->Prop)(y:Ze)(M:bA U):Prop:=T y=4*T (M.filter c)/\∀i (h:i<T M),c M[i]=ay->∀k,k<4->∃v,y[4*T ((M.take i).filter c)+k]?=ac v/\z M[i] v
section
variable{c:Int->ez}{R y:Int->eJ->Prop}{z X:bA eJ}{m:Int}
def xF.U(h:xF c R z M)(k:∀m v,v∈z->R m v->y m v):xF c y z M:=⟨h.1,λi b a j d=>by obtain⟨v,e,f⟩:=h.2 i b a j d;grind⟩
def xF.pJ(h:xF c R z M){i}(a:i<T M)(f:i<T (M++[m]))(b:c (M++[m])[i]=ay)(X):∀k,k<4->∃v,(z++X)[4*T (((M++[m]).take i).filter c)+k]?=ac v/\R (M++[m])[i] v:=by rw[Og a]at b⊢;rw[Y4<|Nat.le_of_lt a];intro k hk;obtain⟨v,d,e⟩:=h.2 i a b k hk;grind
def xF.add(h:xF c R z M)(f:c m=ay)(a:T X=4)(hx:∀x∈X,R m x):xF c R (z++X)<|M++[m]:=by
 refine⟨by rw[zx,h.1,a,Yu,zx];grind,λi d b k hk=>?_⟩;by_cases e:i<T M;exact h.pJ e d b X k hk;obtain rfl:i=T M:=Á
 rw[Y4<|zd _,jz,<-h.1,Xp À,Ko];simp_all
def xF.JV(h:xF c R z M)(e:c m=ao):xF c R z<|M++[m]:=by refine⟨by rw[h.1,Yu,zx];simp[e],λi b a k hk=>?_⟩;by_cases d:i<T M;have:=h.pJ d b a [] k hk;grind;grind
end
structure Hv where
 ps:Zv
 m:aD
 tv:Zv
 fv:Zv
 mv:Zv
 T:Ze
 F:Ze
 M:bA U
def Hv.cN(h:Hv)(H x:aD):Prop:=x=H\/h.ps.ownBlock=ac x\/h.tv.ownBlock=ac x\/h.fv.ownBlock=ac x\/h.mv.ownBlock=ac x\/∃v,(v∈h.T\/v∈h.F)/\v.ownBlock=ac x
structure Hl(n H:aD)(h:Hv)(P:bA aD)(w:Zy):Prop where
 b:WB w H h.ps h.m h.tv h.fv h.mv
 p:Rw w 103 1 Ns h.ps P
 t:Rw w 49 1 uG h.tv h.T
 f:Rw w 52 1 uG h.fv h.F
 m:Rw w 3 1 tJ h.mv h.M
 ot:xF (λm=>bR (0<m)) (λm v=>mu 9 1 (xW m) w v) h.T h.M
 of:xF (λm=>!bR (0<m)) (λm v=>mu 110 2 (xE<|-m) w v) h.F h.M
 tT:∀v∈h.T,∀g,v.ownBlock=ac g->Ty w g 9
 tF:∀v∈h.F,∀g,v.ownBlock=ac g->Ty w g 110
 bd:∀m∈h.M,-1000000000<=m/\m<=1000000000
 n1:h.m<=n
 n2:T h.M<=n
 n3:T P<=n
section
variable{h:Hv}{P:bA aD}{w w' w1:dN}{S:aD->Prop}
def Hl.hd(l:Hl n H h P w):jai w h.T h.F h.M:=⟨l.ot.1,l.of.1,λi a b=>l.ot.2 i a<|jm b,λi a b=>l.of.2 i a Á,l.bd⟩
def Hl.lt(l:Hl n H h P w)(hx:h.cN H x):x<V (Z' w):=by obtain rfl|hx|hx|hx|hx|⟨v,a|a,hx⟩:=hx;exact l.b.lt;exact(l.p.ty hx).lt;exact(l.t.ty hx).lt;exact(l.f.ty hx).lt;exact(l.m.ty hx).lt;exact(l.tT v a x hx).lt;exact(l.tF v a x hx).lt
def Hl.y(l:Hl n H h P w)(d:zj S w w')(e:∀x,h.cN H x->¬S x)(hk:n<=k):Hl k H h P w':=
 have j:∀v∈h.T,∀g,v.ownBlock=ac g->¬S g:=λv c g a=>e g<|Y<|Y<|Y<|Y<|Y ⟨v,aJ c,a⟩;have i:∀v∈h.F,∀g,v.ownBlock=ac g->¬S g:=λv c g a=>e g<|Y<|Y<|Y<|Y<|Y ⟨v,Y c,a⟩
 ⟨l.b.y d<|e _<|aJ O,l.p.y d λg a=>e g<|Y<|aJ a,l.t.y d λg a=>e g<|Y<|Y<|aJ a,l.f.y d λg a=>e g<|Y<|Y<|Y<|aJ a,l.m.y d λg a=>e g<|Y<|Y<|Y<|Y<|aJ a,
  l.ot.U λm v c k=>k.y d<|j v c,l.of.U λm v c k=>k.y d<|i v c,λv c g a=>(l.tT v c g a).y d<|j v c g a,λv c g a=>(l.tF v c g a).y d<|i v c g a,l.bd,xa l.n1 hk,xa l.n2 hk,xa l.n3 hk⟩
def Bu.fh{f l C e y}(b:xh w H C 67)(t:Rw w d 1 uG tv y)(m:Rw w 3 1 tJ f M)(i:∀g,l.ownBlock=ac g->V (Z' w)<=g)(a:Ty w g e)(c:e≠67/\e≠d/\e≠3):¬Bu H tv f l g:=by rintro(rfl|h|h|h);exact c.1<|a.eq ⟨_,b⟩;exact c.2.1<|a.eq<|t.ty h;exact c.2.2<|a.eq<|m.ty h;exact DN _<|zm a.lt<|i g h
theorem Hl.lc(l:Hl n H h P w)(o:n<=1000000)(k:jak w H h.ps h.fv h.m h.tv h.mv h.T h.M w'):∃F,Hl (n+1) H F P w'/\zj (h.cN H) w w'/\∀x,F.cN H x->h.cN H x\/V (Z' w)<=x:=by
 obtain⟨v,w1,q,B,s,r,X,b,t,m,I,C,d,p,D,G⟩:=k;have z:=q.Q;have l1:=l.y q (λ_ _=>id)<|zd n;have j:∀{g e},Ty w g e->(e≠67/\e≠49/\e≠3)->¬Bu H h.tv h.mv v g:=Bu.fh l.b l.t l.m B;have f:=l.n1;have W:=l.n2;have L:=l.n3;refine⟨⟨h.ps,h.m+1,s,h.fv,r,h.T++X,h.F,h.M++[(h.m:U)+1]⟩,⟨b,l1.p.y d λg a=>j (l.p.ty a) Ã,t,l1.f.y d λg a=>j (l.f.ty a) Ã,m,(l1.ot.U λm v c k=>k.y d λg a=>j (l.tT v c g a) Ã).add Á I C,(l1.of.U λm v c k=>k.y d λg a=>j (l.tF v c g a) Ã).JV Á,λv c g a=>(je.1 c).elim (λc=>(l1.tT v c g a).y d<|j (l.tT v c g a) Ã) λc=>((C v c).lt a).2,λv c g a=>(l1.tF v c g a).y d<|j (l.tF v c g a) Ã,λm o=>(je.1 o).elim (l.bd m) λo=>Á,Á,Á,À⟩,(q.U λ_=>eT).lO d ?_,?_⟩;rintro y (e|e|e|e);exact aJ<|aJ e;exact aJ<|Y<|Y<|aJ e;exact aJ<|Y<|Y<|Y<|Y<|aJ e;grind;rintro x (e|e|e|e|e|⟨u,i|i,e⟩);exact aJ<|aJ e;exact aJ<|Y<|aJ e;exact(p x e).imp (λe=>Y (Y<|aJ e)) λ_=>À
 exact aJ<|Y<|Y<|Y<|aJ e;exact(D x e).imp (λe=>Y (Y<|Y<|Y<|aJ e)) λ_=>À
 exact(je.1 i).elim (λi=>aJ (Y<|Y<|Y<|Y<|Y ⟨u,aJ i,e⟩)) λi=>Y ((G u i x e).elim (B x) λ_=>À);exact aJ<|Y<|Y<|Y<|Y<|Y ⟨u,Y i,e⟩
def Hl.cW(l:Hl n H h P w)(o:n<=1000000)(k:jaj w H h.ps h.tv h.m h.fv h.mv h.F h.M w'):∃A,Hl (n+1) H A P w'/\zj (h.cN H) w w'/\∀x,A.cN H x->h.cN H x\/V (Z' w)<=x:=by
 obtain⟨v,w1,q,B,s,r,X,b,t,m,G,I,d,D,C,p⟩:=k;have z:=q.Q;have l1:=l.y q (λ_ _=>id)<|zd n;have j:∀{g e},Ty w g e->(e≠67/\e≠52/\e≠3)->¬Bu H h.fv h.mv v g:=Bu.fh l.b l.f l.m B;have f:=l.n1;have W:=l.n2;have L:=l.n3;refine⟨⟨h.ps,h.m+1,h.tv,s,r,h.T,h.F++X,h.M++[-((h.m:U)+1)]⟩,⟨b,l1.p.y d λg a=>j (l.p.ty a) Ã,l1.t.y d λg a=>j (l.t.ty a) Ã,t,m,(l1.ot.U λm v c k=>k.y d λg a=>j (l.tT v c g a) Ã).JV Á,(l1.of.U λm v c k=>k.y d λg a=>j (l.tF v c g a) Ã).add Á G λx F=>Á,λv c g a=>(l1.tT v c g a).y d<|j (l.tT v c g a) Ã,λv c g a=>(je.1 c).elim (λc=>(l1.tF v c g a).y d<|j (l.tF v c g a) Ã) λc=>((I v c).lt a).2,λm o=>(je.1 o).elim (l.bd m) λo=>Á,Á,Á,À⟩,(q.U λ_=>eT).lO d ?_,?_⟩;rintro y (e|e|e|e);exact aJ<|aJ e;exact aJ<|Y<|Y<|Y<|aJ e;exact aJ<|Y<|Y<|Y<|Y<|aJ e;grind;rintro x (e|e|e|e|e|⟨u,i|i,e⟩);exact aJ<|aJ e;exact aJ<|Y<|aJ e;exact aJ<|Y<|Y<|aJ e;exact(D x e).imp (λe=>Y (Y<|Y<|aJ e)) λ_=>À
 exact(C x e).imp (λe=>Y (Y<|Y<|Y<|aJ e)) λ_=>À
 exact aJ<|Y<|Y<|Y<|Y<|Y ⟨u,aJ i,e⟩;exact(je.1 i).elim (λi=>aJ (Y<|Y<|Y<|Y<|Y ⟨u,Y i,e⟩)) λi=>Y ((p u i x e).elim (B x) λ_=>À)
end
structure Pp where
 q:aD
 B:aD
 C:aD
 r:Sr
 f:Rf
def Pp.cN(p:Pp)(x:aD):Prop:=x=p.q\/tr p.B p.C p.r p.f x
structure Is(cv tv:Zv)(lo H n:aD)(h:Hv)(L:bA Pp)(w0 w:Zy):Prop where
 hl:Hl n H h (L.map Pp.q) w
 pr:∀p∈L,Pr (2*n) w p.q p.B p.C p.r p.f
 ap:L.Pairwise λp q=>∀x,p.cN x->¬q.cN x
 pl:∀p∈L,∀x,p.cN x->lo<=x/\¬h.cN H x
 ll:∀x,h.cN H x->lo<=x
 pJ:zj (λx=>lo<=x) w0 w
 sz:lo<=V (Z' w)
 g:nD cv tv w
 t2:qF lo cv tv w
 tb:Yq w
 l4:4<lo
section
variable{cv tv:eJ}{h s:Hv}{L:bA Pp}{w0 w w':dN}{S:aD->Prop}
def Pr.U{q C f}(h:Pr n w q B C r f)(hk:n<=k):Pr k w q B C r f:=⟨h.qb,h.sa,h.fa,h.tw,h.ok.U hk,h.ap,h.qn⟩
def Is.JU(i:Is cv tv lo H n h L w0 w)(a:∀x,S x->lo<=x):Np lo cv tv S w:=λf b=>⟨i.g.y b λx c=>by have:=a x c;have:=i.l4;omega,i.t2.y b a,λj d=>b.i (λc=>by have e:lo<=2:=a _ c;have:=i.l4;omega)<|i.tb j d⟩
def Pp.lt{p:Pp}(a:Pr n w p.q p.B p.C p.r p.f)(hx:p.cN x):x<V (Z' w):=hx.elim (λe=>e▸a.qb.lt) λe=>a.lt e
def Is.zL(i:Is cv tv lo H n h L w0 w)(hk:n<=k)(l:Hl k H s (L.map Pp.q) w')(c:zj (h.cN H) w w')(ho:∀x,s.cN H x->h.cN H x\/V (Z' w)<=x):Is cv tv lo H k s L w0 w':=by obtain⟨g,f,j⟩:=i.JU i.ll w' c;refine⟨l,λp b=>((i.pr p b).y c (λa=>(i.pl p b _<|aJ O).2 a) λx a=>(i.pl p b x<|Y a).2).U À,i.ap,λp b x a=>⟨(i.pl p b x a).1,λe=>?_⟩,λx a=>(ho x a).elim (i.ll x) λh=>xa i.sz h,i.pJ.aE<|c.U i.ll,xa i.sz c.Q,g,f,j,i.l4⟩;obtain d|d:=ho x e;exact(i.pl p b x a).2 d;have:=Pp.lt (i.pr p b) a;omega
def Is.nw(i:Is cv tv lo H n h L w0 w)(a:Nw w w')(hk:n<=k):Is cv tv lo H k h L w0 w':=i.zL hk (i.hl.y a (λ_ _=>id) hk) (a.U λ_=>eT) λ_=>aJ
def Is.BX{A q p}(i:Is cv tv lo H n h (A++p::q) w0 w)(hk:n<=k)(hd:j<=2*k)(t:sB j p.q p.B p.C p.r p.f w w'):∃L,Is cv tv lo H k h L w0 w':=by
 obtain⟨S,h1,C,y,h2⟩:=t;have u:p∈A++p::q:=Â
 have M:∀x,tr p.B p.C p.r p.f x->lo<=x:=λx c=>(i.pl p u x<|Y c).1;obtain⟨g,hx,ho⟩:=i.JU M w' y;obtain⟨z,D,wr⟩:=Y3.1 i.ap;obtain⟨F,G⟩:=Xw.1 D;let p':Pp:=⟨p.q,p.B,p.C,S,h1⟩;have P:∀x,p'.cN x->p.cN x\/V (Z' w)<=x:=λx c=>c.elim (λe=>aJ (aJ e)) λe=>(h2 x e).imp Y id;have o:∀a∈A++q,∀x,a.cN x->¬p.cN x:=λa d x c m=>(je.1 d).elim (λd=>wr a d p xu x c m) λd=>F a d x m c;have v:∀a∈A++q,a∈A++p::q:=λa d=>Á
 have s:∀a∈A++q,∀x,a.cN x->¬p'.cN x:=λa d x c m=>(P x m).elim (o a d x c) λh=>by have:=Pp.lt (i.pr a<|v a d) c;omega
 refine⟨A++p'::q,?_,λa d=>?_,Y3.2 ⟨z,Xw.2 ⟨λa d x c m=>s a (by simp[d]) x m c,G⟩,λa d b X=>?_⟩,λa d x c=>?_,i.ll,i.pJ.aE<|y.U M,xa i.sz y.Q,g,hx,ho,i.l4⟩;have l:=i.hl.y y (λx c m=>(i.pl p u x<|Y m).2 c) hk;grind;simp[je,jc]at d;have W:a∈A++q->Pr (2*k) w' a.q a.B a.C a.r a.f:=λf=>((i.pr a<|v a f).y y (λc=>o a f _ (aJ O)<|Y c) λx c m=>o a f x (Y c)<|Y m).U À;have C:=C.U hd;grind;grind;simp[je,jc]at d;obtain h|rfl|h:=d;exact i.pl a ta x c;obtain I|I:=P x c;exact i.pl p u x I;exact⟨xa i.sz I,λm=>by have:=i.hl.lt m;omega⟩;exact i.pl a ta x c
def Is.Eo(i:Is cv tv lo H n h L w0 w)(hd:yS o.n o.m o.k o.s=ay)(t:jan w H h.ps h.m h.tv h.fv h.mv (L.map Pp.q) o w'):∃s L',Is cv tv lo H (n+1) s L' w0 w':=by
 obtain⟨q,B,C,D,M,F,z,h1,t3,W,X,h2,hx,t8,t9,wr,cs⟩:=t;let p:Pp:=⟨q,B,C,Sr.ex o.n o.m o.k o.s D M,Rf.cZ o.n o.m o.k o.s⟩;have S:∀x,p.cN x->V (Z' w)<=x/\x<=q:=λx c=>by have hB:=(t9 B<|aJ O);obtain rfl|c|c:=c;omega;grind;grind
 have f:∀x,(x=H\/h.ps.ownBlock=ac x)->h.cN H x:=λx c=>c.elim aJ λc=>Y (aJ c);have I:=z.U f;obtain⟨g,tw,tb⟩:=i.JU i.ll w' I;have u:∀{x:aD} {e:aD},Ty w x e->(e≠67/\e≠103)->¬(x=H\/h.ps.ownBlock=ac x):=λc P y=>y.elim (λe=>P.1<|c.eq ⟨_,e▸i.hl.b⟩) λe=>P.2<|c.eq<|i.hl.p.ty e;have l:=i.hl;have g':∀a∈L,∀x,a.cN x->x<V (Z' w):=λa d x c=>Pp.lt (i.pr a d) c;have G:=Ws.ex (n:=2*(n+1)) o.n o.m o.k o.s D M hd;refine⟨{h with ps:=F},L++[p],⟨h1,Á,l.t.y z λg j=>u (l.t.ty j) Ã,l.f.y z λg j=>u (l.f.ty j) Ã,l.m.y z λg j=>u (l.m.ty j) Ã,l.ot.U λm v r k=>k.y z λg j=>u (l.tT v r g j) Ã,l.of.U λm v r k=>k.y z λg j=>u (l.tF v r g j) Ã,λv r g j=>(l.tT v r g j).y z<|u (l.tT v r g j) Ã,λv r g j=>(l.tF v r g j).y z<|u (l.tF v r g j) Ã,l.bd,by have:=l.n1;grind,by have:=l.n2;grind,by have:=l.n3;grind⟩,λa d=>?_,Y3.2 ⟨i.ap,List.pairwise_singleton _ _,λa d b I x c y=>?_⟩,λa d x c=>?_,λx c=>?_,i.pJ.aE<|I.U i.ll,xa i.sz I.Q,g,tw,tb,i.l4⟩;obtain d|d:=je.1 d;exact((i.pr a d).y z (λc=>(i.pl a d _<|aJ O).2<|f _ c) λx c y=>(i.pl a d x<|Y c).2<|f _ y).U À;rw[ju.1 d];refine⟨X,h2,hx,G.1,G.2,λx c y=>?_,λc=>?_⟩;grind;obtain c|c:=c;grind;grind;grind;have A:({h with ps:=F}:Hv).cN H x->h.cN H x\/q<x:=λc=>by obtain e|e|e:=c;grind;grind;exact aJ<|Y<|Y e
 obtain d|d:=je.1 d;refine⟨(i.pl a d x c).1,λy=>(A y).elim (i.pl a d x c).2 λh=>?_⟩;grind;rw[ju.1 d]at c;have ho:=S x c;refine⟨xa i.sz ho.1,λy=>(A y).elim (λh=>?_) λh=>?_⟩;have:=i.hl.lt h;omega;omega;obtain e|e|e:=c;exact i.ll x<|aJ e;obtain e|e:=W x e;exact i.ll x<|Y<|aJ e;have:=i.sz;omega;exact i.ll x<|Y<|Y e
end
section
open A
structure zN(lo:aD)(w:Zy)(o:Sp)(l:FL):Prop where
 a:kh o.a
 n:kh o.n
 m:kh o.m
 f:FA lo w o.f l
 l1:T l<=100000000
 l2:∀x∈l,kh x.1/\T x.2<=1000000000
def vu(cv tv:Zv)(lo H n:aD)(w0:Zy)(e:kH)(w':Zy):Prop:=e=ai (bG ay)/\∃h L,Is cv tv lo H n h L w0 w'
section
variable{C q:eJ}{h:Hv}{L A f:bA Pp}{p:Pp}{S w m:dN}
def zN.nw(s:zN lo w o l)(b:Nw w m):zN lo m o l:=⟨s.a,s.n,s.m,s.f.nw b,s.l1,s.l2⟩
def xoz(i:Is C q lo H n h L S w)(f:n<120000):aK prog 49 #[K H,bY o.G] w<|vu C q lo H (n+1) S:=by cases y:yS o.n o.m o.k o.s;exact(xj3 H o w y).mono λe d⟨a,c⟩=>⟨a,_,_,i.nw c<|Xu n⟩;exact(xon H h.ps h.tv h.fv h.mv h.m _ o w i.hl.b i.hl.p (by have:=i.hl.n3;omega) y).mono λe d⟨a,c⟩=>⟨a,i.Eo y c⟩
def zy3(i:Is C q lo H n h (A++p::f) S w)(y:n<120000)(hk:o.eH=4\/o.eH=5\/o.eH=6\/o.eH=7):aK prog 51 #[K H,K p.q,bY o.G] w<|vu C q lo H (n+1) S:=by
 have k:=i.pr p Â;have c:∀{e d},(e=ai (bG ay)/\sB (2*n) p.q p.B p.C p.r p.f w d)->vu C q lo H _ S e d:=λ⟨g,j⟩=>by have⟨u,I⟩:=i.BX (Xu n) À j;exact⟨g,_,u,I⟩
 have a:∀{e d},(e=ai (bG ay)/\Nw w d)->vu C q lo H _ S e d:=λ⟨g,j⟩=>⟨g,_,_,i.nw j<|Xu n⟩;have v:=i.hl.n1;have x:=i.hl.n2;have l:T h.T<=1000000000:=by rw[i.hl.ot.1];have:=J0 (λm=>bR (0<m)) h.M;omega
 obtain hk|hk|hk|hk:=hk;exact(xcu H p.q p.B p.C _ p.r p.f o w k hk).mono λ_ _=>c;exact(xcr H p.q p.B p.C _ p.r p.f o w k hk).mono λ_ _=>c;exact(xcs H p.q p.B p.C _ p.r p.f o w k À hk).mono λ_ _=>a;cases z:p.r.sn with|none=>exact(xct H p.q p.B p.C _ p.r p.f o w k z hk).mono λ_ _=>a|some s=>refine(zy2 H p.q p.B p.C _ p.r s p.f o w h.ps h.tv h.fv h.mv h.m h.T h.M i.hl.b i.hl.t i.hl.m À l À k z À hk).mono λe d⟨g,j⟩=>⟨g,?_⟩;have⟨b,l1,W,X⟩:=i.hl.lc À j;exact⟨b,_,i.zL (Xu n) l1 W X⟩
def xjt(i:Is C q lo H n h (A++p::f) S w)(o:n<120000):aK prog 52 #[K H,K p.q] w<|vu C q lo H (n+1) S:=by
 have a:=i.pr p Â;have k:=i.hl.n1;have l:=i.hl.n2;have c:T h.F<=1000000000:=by rw[i.hl.of.1];have:=J0 (λm=>!bR (0<m)) h.M;omega
 have d:T (wh p.f)<=1000000000:=by unfold wh;rw[jl];have:=wQ a.tw.tw.gF.ne;rw[a.tw.tw.wP]at this;have:=a.ok.q8;have:=a.ok.bU;omega
 refine(xyp H p.q p.B p.C _ p.r p.f w h.ps h.tv h.fv h.mv h.m h.F h.M i.hl.b i.hl.f i.hl.m À c À a a.Nq d).mono λe s⟨g,j⟩=>⟨g,?_⟩;have⟨y,l1,z,u⟩:=i.hl.cW À j;exact⟨y,_,i.zL (Xu n) l1 z u⟩
def xop(i:Is C q lo H n h (A++p::f) S w)(s:zN lo w o l):aK prog 53 #[K p.q,o.f] w<|vu C q lo H (n+1) S:=by have a:=i.pr p Â;have g:=a.ok.bU;refine(jbt lo p.q p.B p.C _ p.r p.f o.f l w a s.f s.l1 s.l2 À λy d=>(i.pl p Â y<|Y d).1).mono λe j⟨b,c⟩=>?_;have⟨z,I⟩:=i.BX (Xu n) À c;exact⟨b,_,z,I⟩
def xjd(i:Is C q lo H n h (A++p::f) S w)(s:zN lo w o l)(G:n<120000)(hk:o.eH≠2):aK prog 54 #[K p.q,bY o.G] w<|vu C q lo H (n+1) S:=by
 have d:=i.pr p Â;have c:∀x,tr p.B p.C p.r p.f x->lo<=x:=λx y=>(i.pl p Â x<|Y y).1;have b:∀{k e m},k<=2*(n+1)->(e=ai (bG ay)/\sB k p.q p.B p.C p.r p.f w m)->vu C q lo H _ S e m:=λu⟨t,v⟩=>by have⟨W,I⟩:=i.BX (Xu n) u v;exact⟨t,_,W,I⟩
 have a:∀{e m},(e=ai (bG ay)/\Nw w m)->vu C q lo H _ S e m:=λ⟨t,v⟩=>⟨t,_,_,i.nw v<|Xu n⟩;by_cases D:o.eH=3;exact(xcz p.q p.B p.C _ p.r p.f o w d D).mono λ_ _=>b À;by_cases j:o.eH=8\/o.eH=13\/o.eH=14;exact(vq p.q p.B p.C _ p.r p.f o w d (i.JU c) (λx y=>c x<|aJ y) i.l4 À j).mono λ_ _=>b<|zd _;by_cases z:o.eH=9;by_cases F:o.n<0\/o.m<0;exact(zza p.q p.B p.C _ p.r p.f o w d z F).mono λ_ _=>a;exact(xc1 p.q p.B p.C _ p.r p.f o w d z ⟨À,s.n⟩ ⟨À,s.m⟩).mono λ_ _=>b À;by_cases g:o.eH=11;exact(xc0 p.q p.B p.C _ p.r p.f o w d g).mono λ_ _=>a;exact(xje p.q o w ⟨hk,D,λe=>j<|aJ e,z,g,λe=>j<|Y<|aJ e,λe=>j<|Y<|Y e⟩).mono λ_ _=>a
end
variable[pn:A.Pn]
def ztz:vu cv tv lo H n w0 e (re w' t d)↔vu cv tv lo H n w0 e w':=⟨λ⟨a,h,L,i⟩=>⟨a,h,L,i.nw Tf<|zd n⟩,λ⟨a,h,L,i⟩=>⟨a,h,L,i.nw (Nw.lQ (zj.refl _ _) t d)<|zd n⟩⟩
def xni{h A y p}(i:Is cv tv lo H n h (A++p::y) w0 w)(s:zN lo w o l)(m:n<120000):CC az 54 #[K p.q,bY o.G] w<|vu cv tv lo H (n+1) w0:=by by_cases hk:o.eH=2;have a:∀x,tr p.B p.C p.r p.f x->lo<=x:=λx b=>(i.pl p Â x<|Y b).1;refine(xjf p.q p.B p.C _ p.r p.f o w (i.pr p Â) (i.JU a) (λx b=>a x<|aJ b) i.l4 À hk).U λe c⟨g,j⟩=>?_;have⟨L,I⟩:=i.BX (Xu n) À j;exact⟨g,_,L,I⟩;exact M4 O Ã Tryz.func54 O (λe c t d=>ztz.1) (λc⟨k,_⟩=>by cases k) λt d=>xjd (i.nw (Nw.lQ (zj.refl _ _) t d)<|zd n) (s.nw<|Nw.lQ (zj.refl _ _) t d) m hk
end
section
open A
variable[pn:A.Pn]
attribute [local go_sem] zn zg
noncomputable def Gr:=Qf Tryz.f29.body
noncomputable def jfi:=Qa Gr
noncomputable def jfj:=Qa<|Qb Gr
noncomputable def jfk:=Qa<|Qb<|Qb Gr
noncomputable def jfl:=Qa<|Qn 3 Gr
noncomputable def jfm:=Qa<|Qn 4 Gr
noncomputable def r29:=Qa<|Qn 5 Gr
def xxr:Tryz.f29.body=ac (gU jfi<|gU jfj<|gU jfk<|gU jfl<|gU jfm<|gU r29 .ret):=Ä
def wi:¬Mc az 29:=Av Ã Ã Tryz.func29
def xve{h:Hv}{L:bA Pp}(i:Is cv tv lo H n h L w0 w)(s:zN lo w o l)(hn:n<120000):CC az 29 #[K H,bY o.G] w<|vu cv tv lo H (n+1) w0:=by
 have hQ:rq<|sV az dA Tryz.f29<|vu cv tv lo H (n+1) w0:=Dh λe w' t d=>ztz;refine CC.kS bX wi (gy O Tryz.func29 O).1 Tryz.func29 xxr ?_;rw[show Tryz.f29.ntmps=57 from O];generalize hPX:sV az dA Tryz.f29 (vu cv tv lo H (n+1) w0)=PX at hQ;have x:∀a w',a.defers=[]->At a 4 (bG ay)->(∃h L,Is cv tv lo H (n+1) h L w0 w')->PX .ret a w':=λa w' h1 h2 h3=>by rw[<-hPX];refine⟨h1,bG ay,λt d=>⟨t,d,?_⟩,O,h3⟩;show(eR Tryz.f29 _).run prog _=_;unfold At at h2;simp[eR,Tryz.results29,go_sem,h2]
 have C:=hQ;have z:=hn;have⟨kd,oa,on,om,ok,os,ot,fl⟩:=o;have S0:=s;simp only[jd,xg,qy,jY,lh,qu,qw,Xa,Zh,qj,qg];refine so wi C λw1 bf ih ba bk=>?_;have N1:Nw w<|aF w1<|au (Sp.G ⟨kd,oa,on,om,ok,os,ot,fl⟩) 69:=(qm ih).aE<|zj.E _;have I1:=i.nw N1<|zd n;have g:=S0.nw N1;have c:=xh.ex w1 (Sp.G ⟨kd,oa,on,om,ok,os,ot,fl⟩) 69;generalize hb:V (Z' w1)=b at c;conv=>arg 2;whnf
 go_wp2;refine ba.o _ _ ?_;generalize aF w1 (au (Sp.G ⟨kd,oa,on,om,ok,os,ot,fl⟩) 69)=w2 at*;refine so wi C λw3 bg W bb bd=>?_;have S:=qm W;replace I1:=I1.nw S<|zd n;replace g:=g.nw S;replace c:=c.y S id;have c0:=c.i (v:=J kd) 0 O;have u:=c.i (v:=J oa) 1 O;have c2:=c.i (v:=J on) 2 O;have c3:=c.i (v:=J om) 3 O;have c4:=c.i (v:=J ok) 4 O;have c5:=c.i (v:=E os) 5 O;have c6:=c.i (v:=E ot) 6 O;have c7:=c.i (v:=fl) 7 O;by_cases k1:kd=1
 ·subst k1;conv=>arg 2;whnf
  go_wp2;refine(xoz (o:=⟨1,oa,on,om,ok,os,ot,fl⟩) I1 z).mono ?_;rintro e w4⟨rfl,m⟩;go_wp2;exact bd.o .ret _ _ Â<|x _ _ O O m
 have bn:(kd==1)=ao:=by simp[k1]
 conv=>arg 2;whnf
 go_wp2;refine bb.o _ _ ?_;refine so wi C λw4 bh X bc be=>?_;have ho:=qm X;replace I1:=I1.nw ho<|zd n;replace g:=g.nw ho;replace c:=c.y ho id;have⟨ap,cp,hps⟩:=I1.hl.p.dL;rw[jl]at hps;have D:N w4 (zq H 0)=ac h.ps:=I1.hl.b.i 0 O;rw[hps]at D;have r:=hps;by_cases hL:(T L:U)=0
 ·have G:((T L:U)==0)=ay:=by simp[hL]
  conv=>arg 2;whnf
  go_wp2;exact be.o .ret _ _ Â<|x _ _ O O ⟨_,_,I1.nw (zj.refl _ _)<|Xu n⟩
 have G:((T L:U)==0)=ao:=jf.2 hL;conv=>arg 2;whnf
 go_wp2;refine bc.o _ _ ?_;refine so wi C λM bi hs v' bl=>?_;have wr:=qm hs;replace I1:=I1.nw wr<|zd n;replace g:=g.nw wr;replace c:=c.y wr id;have bm:Gc oa (T L)<T L:=xy5 oa À;generalize hpk:Gc oa (T L)=pk at*;have B:=hpk;have⟨q,e1,q1⟩:=I1.hl.p.lp (λ_=>O) (i:=pk) Á r;subst e1;obtain⟨A,p,cs,I,hq⟩:∃A p cs,L=A++p::cs/\L[pk]=p:=⟨L.take pk,L[pk],L.drop<|pk+1,Â,O⟩;have k0:N M (zq q pk)=K p.q:=by have:=q1 0 Ã;rw[Cd,Yy,Fl,hq]at this;exact this
 have D:N M (zq H 0)=ac h.ps:=I1.hl.b.i 0 O;rw[r]at D;have u:=c.i (v:=J oa) 1 O;have i0:(0:U)<=(pk:U):=À
 have i1:(pk:U)<(T L:U):=À
 have hb:T L<=1000000000:=by have:=I1.hl.n3;rw[jl]at this;have:=z;omega
 have g':=g.a;have I5:Is cv tv lo H n h (A++p::cs) w0 M:=by show Is _ _ _ _ _ _ _ _ _;rw[<-I];exact I1
 clear q1 hpk I hq I1;generalize T L=len at*;conv=>arg 2;whnf
 go_region_held3 (λw'=>N w' (zq H 0)=aB (ac ⟨q,0,aw⟩) len cp/\N w' (zq b 1)=J oa/\N w' (zq q pk)=K p.q) (first|exact⟨D,u,k0⟩)
  (first|(go_at_call 50;refine(xug oa len À hb g'.1 g'.2 _).mono ?_;rintro e w6⟨rfl,rfl⟩;rw[B]))
 refine v'.o _ _ ?_;clear v';refine so wi C λj bj F es k=>?_;have P:Nw M j:=(zj.refl _ M).W.aE<|qm F;replace I5:=I5.nw P<|zd n;replace g:=g.nw P;replace c:=c.y P id;have c0:=c.i (v:=J kd) 0 O;have u:=c.i (v:=J oa) 1 O;have c2:=c.i (v:=J on) 2 O;have c3:=c.i (v:=J om) 3 O;have c4:=c.i (v:=J ok) 4 O;have c5:=c.i (v:=E os) 5 O;have c6:=c.i (v:=E ot) 6 O;have c7:=c.i (v:=fl) 7 O;clear F P B r D k0 i0 i1 hb g' hL G;by_cases hx:kd=4\/kd=5\/kd=6\/kd=7
 ·have y:=zy3 (o:=⟨kd,oa,on,om,ok,os,ot,fl⟩) I5 z hx;obtain rfl|rfl|rfl|rfl:=hx;all_goals
   conv=>arg 2;whnf
   go_wp2;refine y.mono ?_;rintro e w8⟨rfl,m⟩;go_wp2;exact zdl
 simp only[not_or]at hx;have⟨n4,n5,n6,n7⟩:=hx;have e4:(kd==4)=ao:=jf.2 n4;have e5:(kd==5)=ao:=jf.2 n5;have e6:(kd==6)=ao:=jf.2 n6;have e7:(kd==7)=ao:=jf.2 n7;by_cases kA:kd=10
 ·subst kA;have y:=xjt I5 z;conv=>arg 2;whnf
  go_wp2;refine y.mono ?_;rintro e w8⟨rfl,m⟩;go_wp2;exact zdl
 have eA:(kd==10)=ao:=jf.2 kA;by_cases kC:kd=12
 ·subst kC;have y:=xop I5 g;conv=>arg 2;whnf
  go_wp2;refine y.mono ?_;rintro e w8⟨rfl,m⟩;go_wp2;exact zdl
 have eC:(kd==12)=ao:=jf.2 kC;conv=>arg 2;whnf
 go_wp2;refine es.o _ _ ?_;clear es k;have hd:=xni I5 g z;refine Yp.vU bX wi bD ?_;conv=>arg 3;whnf
 refine Yp.ig bX wi ?_;refine vh (val:=K p.q) wi ⟨O,O⟩ ?_;refine Vh.eO (val:=bY (Sp.G ⟨kd,oa,on,om,ok,os,ot,fl⟩)) (w':=j) bX wi O (λt d=>⟨t,d,?_⟩) ?_
 ·have g0:N (re j t d) (zq b 0)=_:=c0;have q:N (re j t d) (zq b 1)=_:=u;have g2:N (re j t d) (zq b 2)=_:=c2;have g3:N (re j t d) (zq b 3)=_:=c3;have g4:N (re j t d) (zq b 4)=_:=c4;have g5:N (re j t d) (zq b 5)=_:=c5;have g6:N (re j t d) (zq b 6)=_:=c6;have g7:N (re j t d) (zq b 7)=_:=c7;show(aR _ _).run prog _=_;simp[aR,go_sem,ge,g0,q,g2,g3,g4,g5,g6,g7,Sp.G]
 refine Vh.lP (f:=54) (args:=#[K p.q,bY<|Sp.G ⟨kd,oa,on,om,ok,os,ot,fl⟩]) bX wi O O (λv=>î) (gy O Tryz.func54 O) hd ?_ ?_;rotate_left;rintro ch wx⟨he,_⟩;cases he;rintro v8 w8⟨he,m⟩;cases he;refine vh (val:=bG ay) wi ⟨O,O⟩ ?_;refine Vh.nil bX wi ?_;refine Yp.zU bX wi O ?_;exact x _ _ O O m
end
section
open A
attribute [local go_sem] zn zg
section
def SL(lo:aD)(w:Zy)(v:Zv)(D:bA Sp):Prop:=∃a C,v=aB a (T D) C/\T D<120000/\∀i (h:i<T D),(∃g y,a=ac ⟨g,y,aw⟩/\g<lo/\∀j u,D[i].G[j]?=ac u->N w (zq g<|y+i*8+j)=ac u)/\∃l,zN lo w {D[i]with eH:=0} l
variable[pn:A.Pn]
noncomputable def c8:=Qf Tryz.f8.body
noncomputable def x8a:=Qa c8
noncomputable def r8a:=Qa<|Qb c8
noncomputable def x8b:=Qa<|Qb<|Qb c8
noncomputable def x8c:=Qa<|Qn 3 c8
noncomputable def x8d:=Qa<|Qa<|Qn 4 c8
noncomputable def DB:=Ql<|Qk<|Qb<|Qa<|Qn 4 c8
noncomputable def x8e:=Qa DB
noncomputable def x8f:=Qa<|Qk<|Qa<|Qb DB
noncomputable def r8b:=Qa<|Qb<|Qk<|Qa<|Qb DB
noncomputable def x8g:=Qb<|Qb<|Qk<|Qa<|Qb DB
noncomputable def Nu:=Qb<|Qb DB
noncomputable def y8:=Qn 5 c8
def ja1:Tryz.f8.body=ac (gU x8a<|gU r8a<|gU x8b<|gU x8c<|gU (gU x8d<|.block 0<|.loop DB) y8):=Ä
def xyq:DB=gU x8e (gU (.block 1<|gU x8f<|gU r8b x8g) Nu):=Ä
def oB:¬Mc az 8:=Av Ã Ã Tryz.func8
def Fb(g:aD->Zv):Za:=#[g 0,g 1,g 2,g 3,g 4,g 5,g 6,g 7,g 8,g 9,g 10,g 11,g 12,g 13,g 14,g 15,g 16,g 17,g 18,g 19,g 20,g 21,g 22,g 23,g 24,g 25,g 26,g 27,g 28,g 29,g 30,g 31,g 32,g 33,g 34,g 35,g 36,g 37,g 38,g 39,g 40,g 41,g 42,g 43]
def JZ{x:Za}(h:V x=44):∃g,(⟨x,[]⟩:mh)=⟨Fb g,[]⟩:=by refine⟨λi=>x[i]?.getD Z,?_⟩;congr 1;rw[show Fb (λi=>x[i]?.getD Z)=bH ((iC 44).map λi=>x[i]?.getD Z) from O];grind
structure yf(v:Zv)(H j:aD)(a:mh):Prop where
 lt:∃g,a=⟨Fb g,[]⟩
 a0:At a 0 v
 a1:At a 1<|J 14
 a6:At a 6<|K H
 a7:At a 7<|J j
def yf.Ti(h:yf v H j a):∃g,a=⟨Fb g,[]⟩/\g 0=v/\g 1=J 14/\g 6=K H/\g 7=J j:=by obtain⟨g,rfl⟩:=h.lt;exact⟨g,O,ql h.a0,ql h.a1,ql h.a6,ql h.a7⟩
def Ny(a:mh):aD:=120000-bL (bZ<|a.tmps[7]?.getD Z)
def yf.idx(h:yf v H j a):Ny a=120000-j:=by have:=h.a7;grind [At,Ny,bZ]
def Nv(w:Zy)(e:kH)(w':Zy):Prop:=e=ai (J<|-1)/\Nw w w'
def xrw:Nv w e (re w' t d)↔Nv w e w':=⟨λh=>⟨h.1,zj.re h.2⟩,λh=>⟨h.1,Nw.lQ h.2 t d⟩⟩
def Is.gC(d:nD cv tv w)(a:qF (V<|Z' w0) cv tv w)(f:Yq w)(n:Nw w0 w)(e:V (Z' w0)<=H)(c:4<V (Z' w0))(b:xh w H #[aB aw 0 0,J 0,aB aw 0 0,aB aw 0 0,aB aw 0 0] 67):Is cv tv (V<|Z' w0) H 0 ⟨aB aw 0 0,0,aB aw 0 0,aB aw 0 0,aB aw 0 0,[],[],[]⟩ [] w0 w:=by refine⟨⟨b,jk _ _ _ _,jk _ _ _ _,jk _ _ _ _,jk _ _ _ _,⟨O,λi h=>È⟩,⟨O,λi h=>È⟩,λv h=>È,λv h=>È,λm h=>È,zd _,zd _,zd _⟩,λp h=>È,iV,λp h=>È,λx h=>?_,n.U λ_=>eT,n.Q,d,a,f,c⟩;obtain rfl|h|h|h|h|⟨v,h|h,_⟩:=h;exact e;all_goals cases h
def xqx{w7:Zy}{h:Hv}{L:bA Pp}{m:Exit->mh->Zy->Prop}(hQ:rq m)(hf:yf v H j a)(hj:j<=T D)(hi:Is cv tv (V<|Z' w) H j h L w w7)(hs:SL (V<|Z' w) w v D)
  (hN:∀a' w' h' L',yf v H (j+1) a'->j+1<=T D->Is cv tv (V<|Z' w) H (j+1) h' L' w w'->m eE a' w')(hX:∀a' w',yf v H j a'->Is cv tv (V<|Z' w) H j h L w w'->m (.exit 0) a' w'):Yp az 8 DB m a w7:=by
 rw[xyq];obtain⟨g,rfl,e0,e1,e6,e7⟩:=hf.Ti;obtain⟨av,bb,rfl,hD,hS⟩:=hs;have ho:=hS;have HQ:=hQ;have HN:=hN;have HX:=hX;have nx:∀a' w',yf (aB av (T D) bb) H j a'->j<T D->(∃h' L',Is cv tv (V<|Z' w) H (j+1) h' L' w w')->Yp az 8 Nu m a' w':=by
  rintro a' w' bi x⟨h',L',bj⟩;obtain⟨g,rfl,e0,e1,e6,e7⟩:=bi.Ti;refine Gp oB HQ λp ba z bf=>?_;have r:=bj.nw (qm z)<|zd _;simp only[Fb,e0,e1,e6,e7];have i2:(j:U)+1<=9000000000000000000:=À
  conv=>arg 2;whnf
  go_wp2;exact bf.o eE _ _<|HN _ _ _ _ ⟨JZ O,O,O,O,by unfold At;simp⟩ x r
 refine so oB hQ λw8 bq bc bd bg=>?_;have I8:=hi.nw (qm bc)<|zd j;simp only[Fb,e0,e1,e6,e7];by_cases x:j<T D
 ·have i1:(j:U)<(T D:aD):=by omega
  conv=>arg 2;whnf
  go_wp2;refine bd.o _ _ ?_;obtain⟨⟨s,c,rfl,hg,hc⟩,l,bk⟩:=ho j x;have HG:=hg;have HC:=hc;have HP:=bk;have X:=x;generalize D[j]=o at*;obtain⟨B,b,F,S,A,hd,W,h1⟩:=o;have q:∀w',Is cv tv (V<|Z' w) H j h L w w'->∀k u,(Sp.G ⟨B,b,F,S,A,hd,W,h1⟩)[k]?=ac u->N w' (zq s<|c+j*8+k)=ac u:=λw' i k u hu=>i.pJ.i (by show¬V (Z' w)<=s;have:=HG;omega)<|HC k u hu;refine Yp.vU bX oB bD (Yp.dP bX oB ?_);have h2:=Te (HQ.nH (P:=az) (fn:=8) (y:=Nu)) (Ϸ:=1);refine so oB h2 λp ba z be bh=>?_;have r:=I8.nw (qm z)<|zd j;have c0:N p (zq s<|c+j*8)=J B:=q p r 0 _ O;by_cases hk:14<B
  ·conv=>arg 2;whnf
   go_wp2;refine bh.o (.exit 1) _ _ Â ?_;show(if 1=1 then Yp az 8 Nu m _ p else _);rw[aT O];exact nx _ _ ⟨JZ O,O,O,O,O⟩ X ⟨_,_,r.nw (zj.refl _ _)<|Xu j⟩
  conv=>arg 2;whnf
  go_wp2;refine be.o _ _ ?_;have c1:=q p r 1 _ O;have c2:=q p r 2 _ O;have c3:=q p r 3 _ O;have c4:=q p r 4 _ O;have c5:=q p r 5 _ O;have c6:=q p r 6 _ O;have c7:=q p r 7 _ O;have C:=HP;have bl:=xve (o:=⟨B,b,F,S,A,hd,W,h1⟩) r ⟨C.a,C.n,C.m,C.f.y r.pJ λ_=>id,C.l1,C.l2⟩ À;refine Yp.vU bX oB bD ?_;conv=>arg 3;whnf
  refine Yp.ig bX oB ?_;refine vh oB ⟨O,O⟩ ?_;refine vh oB ⟨O,O⟩ ?_;refine vh (val:=J j) oB ⟨O,O⟩ ?_;have i2:¬(j:U)<0:=À
  refine Vh.eO (val:=zk s<|c+j*8) (w':=p) bX oB O (λt d=>⟨t,d,by show(aR _ _).run prog _=_;simp[aR,go_sem,ge,i2,i1,X]⟩) ?_;refine Vh.eO (val:=bY (Sp.G ⟨B,b,F,S,A,hd,W,h1⟩)) (w':=p) bX oB O (λt d=>⟨t,d,?_⟩) ?_
  ·have g0:N (re p t d) (zq s<|c+j*8)=_:=c0;have g1:N (re p t d) (zq s<|c+j*8+1)=_:=c1;have g2:N (re p t d) (zq s<|c+j*8+2)=_:=c2;have g3:N (re p t d) (zq s<|c+j*8+3)=_:=c3;have g4:N (re p t d) (zq s<|c+j*8+4)=_:=c4;have g5:N (re p t d) (zq s<|c+j*8+5)=_:=c5;have g6:N (re p t d) (zq s<|c+j*8+6)=_:=c6;have g7:N (re p t d) (zq s<|c+j*8+7)=_:=c7;show(aR _ _).run prog _=_;simp[aR,go_sem,ge,g0,g1,g2,g3,g4,g5,g6,g7,Sp.G]
  refine Vh.lP (f:=29) (args:=#[K H,bY<|Sp.G ⟨B,b,F,S,A,hd,W,h1⟩]) bX oB O O (λv=>î) (gy O Tryz.func29 O) bl ?_ ?_;rotate_left;rintro ch wx⟨he,_⟩;cases he;rintro br bn⟨he,h',L',bm⟩;cases he;refine vh (val:=bG ay) oB ⟨O,O⟩ ?_;refine Vh.nil bX oB ?_;refine(show Yp az 8 x8g _ _ bn from ?_);simp only[ge,Zj,Vp,Kr];refine Gp oB h2 λbo bp G I=>?_;have hx:=bm.nw (qm G)<|zd _;have hl:=hx.hl;have ST:=xqi H h'.ps h'.tv h'.fv h'.mv h'.m h'.T h'.F h'.M bo hl.b hl.t hl.f hl.m hl.hd<|by have:=hl.n2;omega
  conv=>arg 2;whnf
  go_wp2;refine ST.mono ?_;rintro e bs⟨rfl,wr⟩;have cs:=hx.nw wr<|zd _;go_wp2;exact I.o eE _ _<|nx _ _ ⟨JZ O,O,O,O,O⟩ X ⟨_,_,cs⟩
 obtain rfl:j=T D:=À
 have i1:¬(T D:U)<(T D:aD):=À
 conv=>arg 2;whnf
 go_wp2;exact bg.o (.exit 0) _ _ Â<|HX _ _ ⟨JZ O,O,O,O,O⟩ I8
def xvr(hG:nD cv tv w)(f:qF (V<|Z' w) cv tv w)(hT:Yq w)(hs:SL (V<|Z' w) w v D):CC az 8 #[v,J 14] w<|Nv w:=by
 have hQ:rq<|sV az dA Tryz.f8<|Nv w:=Dh λe b t d=>xrw;apply CC.kS bX oB (gy O Tryz.func8 O).1 Tryz.func8 ja1;rw[show Tryz.f8.ntmps=44 from O];generalize hPX:sV az dA Tryz.f8 _=PX at hQ;have c:=hQ;have r:=hPX;have X:=hG;have W:=f;have HT:=hT;have hd:=hs;have l:=hG.iE;simp only[jd,xg,qy,jY,lh,qu,qw,Xa,Zh,qj,qg];refine so oB c λw1 bb k h2 bh=>?_;have s:=qm k;have z1:=Ϙ k;conv=>arg 2;whnf
 go_wp2;apply h2.o _ _;have hh:=xn3 (X.y s λ_ x=>x.elim) (by rw[z1];exact W.y s λ_ x=>x.elim);refine Yp.vU bX oB bD ?_;conv=>arg 3;whnf
 apply Yp.ig bX oB;refine Vh.lP bX oB O O (λv=>î) (gy O Tryz.func28 O) hh ?_ ?_;rotate_left;rintro ch wx⟨S,_⟩;cases S;rintro v2 w2⟨S,hx⟩;cases S;apply vh (val:=bG ay) oB ⟨O,O⟩;apply Vh.nil bX oB;refine ?_;have N2:=s.aE hx;refine so oB c λw3 bc C ho bi=>?_;have N3:=N2.aE<|qm C;conv=>arg 2;whnf
 go_wp2;apply ho.o _ _;refine so oB c λn bd wr M bj=>?_;have h1:=N3.aE<|qm wr;have A4:Nw n<|aF n<|au #[aB aw 0 0,J 0,aB aw 0 0,aB aw 0 0,aB aw 0 0] 67:=zj.E _;have B4:=xh.ex n #[aB aw 0 0,J 0,aB aw 0 0,aB aw 0 0,aB aw 0 0] 67;conv=>arg 2;whnf
 go_wp2;apply M.o _ _;have p:=h1.aE A4;have I5:=Is.gC (X.y p λ_ x=>x.elim) (W.y p λ_ x=>x.elim) (HT.nw p) p h1.Q l B4;generalize hH:V (Z' n)=H at*;generalize aF n _=w5 at*;refine Yp.vU bX oB bD ?_;refine so oB c.nH λw6 be F cs bk=>?_;have I6:=I5.nw (qm F)<|zd 0;conv=>arg 2;whnf
 go_wp2;apply cs.o _ _;apply Yp.dP bX oB;have g':=Te (c.nH (P:=az) (fn:=8) (y:=y8)) (Ϸ:=0);refine Yp.ry bX oB (by trivial) (λa b=>∃j h L,yf v H j a/\j<=T D/\Is cv tv (V<|Z' w) H j h L w b) (λa _=>Ny a) ?_ _ _ ⟨0,_,_,⟨JZ O,O,O,O,O⟩,Zz _,I6⟩;rintro a w7⟨j,h,L,hf,hj,u⟩;have hI:∀a b t d,(∃j h L,yf v H j a/\j<=T D/\Is cv tv (V<|Z' w) H j h L w _)↔(∃j h L,yf v H j a/\j<=T D/\Is cv tv (V<|Z' w) H j h L w b):=λa b t d=>
  ⟨λ⟨j,h,L,z,f,B⟩=>⟨j,h,L,z,f,B.nw Tf<|zd _⟩,λ⟨j,h,L,z,f,B⟩=>⟨j,h,L,z,f,B.nw (Nw.lQ (zj.refl _ _) t d)<|zd _⟩⟩
 have v':=xl5 g' (I:=λa b=>∃j h L,yf v H j a/\j<=T D/\Is cv tv (V<|Z' w) H j h L w b) (m:=λa _=>Ny a) (a0:=a) (w0:=w7) hI λ_ _ _ _=>O;have ba:=hf.idx;have bg:T D<120000:=by obtain⟨_,_,_,h,_⟩:=hd;exact h
 refine xqx v' hf hj u hd (λa' b h' L' o j' A=>⟨⟨_,_,_,o,j',A⟩,?_⟩) λa' b o A=>?_;have:=o.idx;omega;show Yp az 8 y8 PX a' b;obtain⟨g,rfl,e0,e1,e6,e7⟩:=o.Ti;refine Gp oB c λw9 bf G es=>?_;have q:=A.pJ.aE<|(qm G).U λ_=>eT;simp only[Fb];conv=>arg 2;whnf
 go_wp2;apply es.o .ret _ _;rw[<-r];refine⟨O,J<|-1,λt d=>⟨t,d,?_⟩,O,q.os,q.cX,q.Q,λi u _=>q.dP i u À⟩;simp[eR,Tryz.results8,go_sem]
end
end
section
open A
variable[pn:A.Pn]
noncomputable def c3:=Qf Tryz.f4.body
noncomputable def x3a:=Qa c3
noncomputable def r3:=Qa<|Qb c3
theorem ja0:Tryz.f4.body=ac c3:=Ä
def jaz:c3=gU x3a (gU r3 .ret):=Ä
theorem AB:¬Mc az 4:=Av Ã Ã Tryz.func4
theorem xG(k:nD cv tv w)(j:qF (V<|Z' w) cv tv w)(l:Yq w)(o:SL (V<|Z' w) w v D):
  Yp az 4 c3 (sV az dA nM<|Fc w) ⟨#[v]++cL (Tryz.f4.ntmps-#[v].size) Z,[]⟩ w:=by
 have h:rq<|sV az dA nM<|Fc w:=Dh λe w' t d=>zx6;rw[jaz,show Tryz.f4.ntmps=6 from O];generalize y:sV az dA nM _=P at h;have n:=xvr k j l o;refine so AB h λw1 i a b m=>?_;conv=>arg 2;whnf
 go_wp2;apply b.o _ _;have c:=a.cc n;refine Yp.vU bX AB bD ?_;conv=>arg 3;whnf
 apply Yp.ig bX AB;apply vh AB ⟨O,O⟩;refine Vh.lP bX AB O O (λv=>î) (gy O Tryz.func8 O) c ?_ ?_;rotate_left;rintro ch r⟨f,_⟩;cases f;rintro q p⟨f,g⟩;cases f;apply Vh.eO (val:=bG ay) (w':=p) bX AB O λt d=>⟨t,d,tk⟩;apply vh AB ⟨O,O⟩;apply Vh.nil bX AB;apply Yp.zU bX AB O;rw[<-y];refine⟨O,bG ay,λt d=>⟨t,d,?_⟩,O,g⟩;simp[eR,Tryz.results4,go_sem,ge]
end
end P
namespace A
variable{m y:Machine}{t:gA}
open Go Go.Conc
section
variable[pn:Pn]
section
variable{S:Zv→Zy→Prop}
section
variable{P:cI}{F:bE kL}{X:aD->Prop}
def AM.EZ{g:Zg}{w:Zy}(h1:AM P X g w m t)
  (h:∀u:Zy,Sm P X (A.re w u.tape u.drawn) u->∃val es u',bW P ay g u=ic (.done val) u' es/\(∀e∈es,Cn X (V<|Z' u) e)/\S val u'):
  ∃W last o w' t',fQ P (W+1) m t=(lV o w',t')/\runN P W m=gP last/\step P last=lV o w'/\oJ P S last o w' t':=by
 obtain⟨⟨b,v,sl,k,rfl,z,B,D⟩,wr,f,F⟩:=h1;refine run_of_inv DV (λk m t=>∃(b:bE _) (v:Zy) (sl:dD _),m=gJ b v sl/\b[0]?=ac g/\JL P X k b v t/\Sm P X (A.re w v.tape v.drawn) v) _ ?_ k _ _ ⟨b,v,sl,O,z,B,D⟩;rintro k m t⟨b,v,sl,rfl,z,B,D⟩;have h2:∀g∈b,awake g:=by intro c l;obtain⟨i,C,rfl⟩:=Xd.1 l;obtain rfl|a:=jh i;grind [oI];exact Yl.kr k b v t B i _ a<|xy C
 obtain⟨i,c,d,y,C,l,s⟩:=crowd_pick (sl:=sl) h2 ⟨0,g,z,f⟩;have n:=Yl.gY k b v t d B;have r:Sm P X (A.re w v.tape d)<|v.at d:=D.re _ d;obtain rfl|a:=jh i;obtain rfl:c=g:=Á
 have⟨val,es,u',hend,hes,hpost⟩:=h (v.at d) r;obtain⟨q,hd,hx,rfl⟩:=n;have p:=hx.cN (fn:=c.frame.fn) (pos:=c.frame.place) hes;refine aJ ⟨_,_,_,s.trans<|runT_many_ended (sl:=y) C hend,val,O,hpost,p.gB,p.mD,⟨λx G=>?_,O⟩,λj x G I=>?_⟩;have⟨j,I⟩:=List.mem_iff_getElem?.1 G;rw[List.getElem?_drop]at I;exact⟨_,(hd.old (1+j) x À<|by grind [gJ]).leaves⟩;have ho:=hd.old j x À G;refine⟨q j,?_⟩;have e:(t++aZ 0 c.frame.fn c.frame.place es).deaf j (V (t++aZ 0 c.frame.fn c.frame.place es))=Deaf t j:=
  dJ t (g':=0) À _ (λcs L=>Ø)
 rw[e];exact ho.hears _;have⟨gs',v',sl2,ops,k',r1,r2,r3,r4,r5⟩:=Yl.dR k b _ t i c g y n a C l z f F;exact Y ⟨_,ops,k',s.trans r1,r2,gs',v',sl2,O,r3,r4,r5 w r⟩
def xkj(B:aD):vB X B #[]:=
 ⟨past_nil.clean,λi a b c=>by grind [mg,Trace.act?],past_nil.over,past_nil.hears,λi a b=>by grind [mg,Trace.act?]⟩
def xjj{a:aD}{b:gA}(c:fQ P a m t=(gP y,b))(h:∃z L o W x,fQ P (z+1) y b=(lV o W,x)/\runN P z y=gP L/\step P L=lV o W/\oJ P S L o W x):
  ∃z L o W x,fQ P (z+1) m t=(lV o W,x)/\runN P z m=gP L/\step P L=lV o W/\oJ P S L o W x:=by
 have⟨z,L,o,W,x,A,j,q,p⟩:=h;refine⟨a+z,L,o,W,x,?_,?_,q,p⟩;rw[GU];exact qr c A;have d:(fQ P (a+z) m t).1=(fQ P z y b).1:=by rw[qr c O]
 grind [runNT_fst]
theorem zxv(ho:Yk P F){f:FuncId}{args:Za}{fnc:kL}{c:pB}{h1:kH->Zy->Prop}(wr:¬Mc P f)(s:Vi P F f)(B:P.funcs[f]?=ac fnc)(D:fnc.body=ac c)
  {w v0:Zy}(h:Yp P f c (sV P F fnc h1) ⟨args++cL (fnc.ntmps-V args) Z,[]⟩ w)(n:∀ch w',¬h1 (iL ch) w')(es:Sm P X (A.re w v0.tape v0.drawn) v0):
  ∃h2 last o w' t',fQ P (h2+1) (solo (G (bI P f args dH) []) v0) #[]=(lV o w',t')/\runN P h2 (solo (G (bI P f args dH) []) v0)=gP last/\step P last=lV o w'/\
   oJ P (λval u=>∃X' w',(∀x,X x->X' x)/\h1 (ai val) w'/\Sm P X' (A.re w' u.tape u.drawn) u) last o w' t':=by
 have q:bI P f args dH=(bI P f args dH).at ⟨args++cL (fnc.ntmps-V args) Z,[]⟩ [dE c]:=by simp[bI,Frame.at,B,D]
 have I:(wf P F).funcs[f]?=ac fnc:=by show F[f]?=_;rw[s.1];exact B
 have r:Jy P<|Frame.enter P f args dH:=by
  have e:bI (wf P F) f args dH=bI P f args dH:=by simp[bI,I,B]
  rw[<-e];exact OG ho.oN s wr args ⟨Â,Â⟩
 have S:=r.lL;have ba:AM P X _ w _ #[]:=
  ⟨⟨#[Xh _ []],v0,aw,_,O,O,⟨λ_=>0,⟨λi g S hs=>Á,λj hj=>O⟩,xkj _,O⟩,es⟩,⟨Y r,λc D=>by cases D⟩,O,O⟩
 let At:Zg->Zy->Prop:=λg' w'=>∃(a:mh) (b:bA Item) (val:Zv),g'=Xh {(bI P f args dH).at a b with mode:=eB} []/\a.defers=[]/\(∀t d,∃t' d',(eR fnc a.tmps).run (wf P F) (A.re w' t d)=dG val (A.re w' t' d'))/\h1 (ai val) w';have L:RX P (Xh (bI P f args dH) []) w At:=by
  rw[q];refine h _ [] [] _ O O (λe z w' k=>?_) λe z w' g' k m=>?_;cases e with
  |normal=>trivial|ret=>exact k.1
  |panic ch=>exact k.1|exit id=>exact k.2.elim
  |goto l=>exact k.2.elim|outgrown=>exact k.2.elim
  cases e with
  |normal=>
   obtain⟨_,rfl⟩:=m;have⟨hd,v,y,n⟩:=k;refine RX.fB ho (g':=Xh {(bI P f args dH).at z []with mode:=eB} []) wr (λv=>?_) O O O<|.refl ⟨z,[],v,O,hd,y,n⟩;exact ß
  |ret=>
   obtain⟨_,b,rfl⟩:=m;have⟨hd,v,y,n⟩:=k;exact .refl ⟨z,b,v,O,hd,y,n⟩
  |panic ch=>exact(n ch w' k.2).elim|exit id=>exact k.2.elim
  |goto l=>exact k.2.elim|outgrown=>exact k.2.elim
 obtain⟨h2,m',t',X',g',w',cs,W,h3,a,b,val,rfl,hd,y,C⟩:=L X _ _ ba;refine xjj cs<|h3.EZ λu p=>?_;have⟨t1,d1,hr1⟩:=y u.tape u.drawn;have⟨v',new,hm⟩:=(KJ (F:=F) (X:=X') fnc a.tmps).nh _ u #[] p (by rw[hr1];trivial);rw[hr1]at hm;have hx:Sm P X' (A.re w' t1 d1) v':=hm.sm;refine⟨val,seen P f (#[]++new)++#[],v',?_,λe q=>?_,X',w',W,C,?_⟩;have w2:=hm.eq;show dT P ay {(bI P f args dH).at a b with mode:=eB} [] aw u=_;have ih:({(bI P f args dH).at a b with mode:=eB}:Zf).defers=[]:=hd;have bb:P.funcs[({(bI P f args dH).at a b with mode:=eB}:Zf).fn]?=ac fnc:=B;unfold dT;rw[ih];simp only[bb];rw[show(eR fnc ({(bI P f args dH).at a b with mode:=eB}:Zf).tmps).runT P u #[]=(dG val v',#[]++new)from w2];simp only[(KH (fr:={(bI P f args dH).at a b with mode:=eB}) (by simp[bI,Frame.at]) S val v')];rfl;have q:e∈seen P f (#[]++new):=by simpa using q
 have:=hm.tz e (by simpa using mem_seen q);rw[(hx.Q.trans p.Q.symm)]at this;exact .vz this;have cs:v'.tape=t1:=hx.nQ;have bc:v'.drawn=d1:=hx.gY;grind
end
end
end
end A
namespace P
variable{x cv tv:Zv}{v w W:Zy}{H S:Type}{X g:aD}
open Go.RowKit A
section
open Go Go.Conc
def Tl:Obj->ez
 | .pending ..=>ay| .deferred _=>ay
 | .loop _=>ay|_=>ao
def Gu(j:aD):Obj:= .chan j #[] ao 0 0 ao
def gB(j:aD)(o:Obj):Obj:=if Tl o=ay then Gu j else o
def uK(j:aD)(v:Zy):Zy:={v with heap:=v.heap.map<|gB j}
def X0(v:Zy)(r:aD):Prop:=∃o,v.heap[r]?=ac o/\Tl o=ay
abbrev vt(v:Zy):Pn:=⟨⟨V<|Z' v,λr=>v.heap[r]?⟩⟩
section
variable{j r:aD}{v:dN}
theorem JY:(uK j v).heap[r]?=(v.heap[r]?).map (gB j):=by simp[uK]
theorem Gt:V (uK j v).heap=V (Z' v):=by simp[uK]
theorem Tq(h:¬X0 v r):(uK j v).heap[r]?=v.heap[r]?:=by rw[JY];cases e:v.heap[r]?with|none=>rfl|some o=>have:¬Tl o=ay:=λa=>h ⟨o,e,a⟩;simp[gB,this]
theorem xgu(h:X0 v r):(uK j v).heap[r]?=ac (Gu j):=by have⟨o,e,y⟩:=h;grind [JY,gB]
theorem Gs{a}(h:N v a=ac x):N (uK j v) a=ac x:=by
 have⟨C,e,i,y,_⟩:=A.nI (pn:=vt v) (py:=⟨132⟩) h;have d:¬X0 v a.block:=by rintro⟨o,b,c⟩;rw[y]at b;cases b;cases c
 grind [Tq,N]
def sm0(P):Sm (pn:=vt v) P (X0 v) (A.re (uK j v) v.tape v.drawn) v:=by refine @Sm.mk (vt v) P (X0 v) _ v Gt.symm (λr a=>(Tq a).symm) (λr a=>?_) (λr=>?_) O O O O ⟨Nat.le_of_eq Gt.symm,λr _ _=>aJ O⟩;have b:=xgu (j:=j) a;have⟨o,e,y⟩:=a;exact⟨Gu j,o,b,e,aJ ⟨O,by cases o<;>first|rfl|cases y⟩⟩;show A.jW P (uK j v).heap[r]?;rw[JY];cases v.heap[r]?with|none=>exact .lz|some o=>cases o<;>exact⟨λ_ _ h=>È,λ_ h=>È,λ_ h=>È⟩
end
def nD.vn(h:nD cv tv v)(j):nD cv tv<|uK j v:=by have⟨⟨t,x,y,z⟩,⟨q,p,u,o⟩,s⟩:=h;exact⟨⟨t,x,y,Gs z⟩,⟨q,p,u,Gs o⟩,λi a=>Gs<|s i a⟩
def FA.vn{l}(h:FA (V<|Z' v) v x l)(j):FA (V<|Z' v) (uK j v) x l:=by have⟨a,C,y,z,q⟩:=h;refine⟨a,C,y,z,λi b=>?_⟩;grind [Gs]
def SL.vn{D}(h:SL (V<|Z' v) v x D)(j):SL (V (uK j v).heap) (uK j v) x D:=by have⟨a,C,y,z,q⟩:=h;rw[Gt];refine⟨a,C,y,z,λi b=>?_⟩;have⟨⟨g,o,e,t,c⟩,l,s⟩:=q i b;exact⟨⟨g,o,e,t,λj u d=>Gs<|c j u d⟩,l,s.a,s.n,s.m,s.f.vn j,s.l1,s.l2⟩
def qF.vn(h:qF (V<|Z' v) cv tv v)(j):qF (V (uK j v).heap) cv tv<|uK j v:=by have⟨a,b,C,c,t,y,z,q,p,L,l,u,o⟩:=h;rw[Gt];exact⟨a,b,C,c,t,y,z,q,p,L,l,by rw[JY,u];rfl,by rw[JY,o];rfl⟩
def Tm{P o w a}:∀{n:aD} {m:Machine} {t:gA},fQ P n m t=(lV o w,a)->∀k,fQ P (n+k) m t=(lV o w,a)
 |0,m,t,h,k=>by simp[fQ]at h|n+1,m,t,h,k=>by rw[Nat.add_right_comm];unfold fQ at h⊢;split at h;exact Tm h k;omega
def Tk(v u:Zy):Prop:=u.os=v.os/\u.output=v.output/\V (Z' v)<=V (Z' u)/\∀r,r<V (Z' v)->u.heap[r]?=v.heap[r]?
def vr(x B)(hd:nD cv tv v)(p:qF (V<|Z' v) cv tv v)(h1:Yq v)(q:SL (V<|Z' v) v x B):
  ∃P last o w' t',fQ az (P+1) (solo (G (bI az 4 #[x] dH) []) v) #[]=(lV o w',t')/\runN az P (solo (G (bI az 4 #[x] dH) []) v)=gP last/\step az last=lV o w'/\
   oJ az (λval u=>val=bG ay/\Tk v u) last o w' t':=by
 have g:∀j,_:=λj=>zxv (pn:=vt v) (bX (pn:=vt v)) (AB (pn:=vt v)) (gy (pn:=vt v) O Tryz.func4 O) Tryz.func4 (ja0 (pn:=vt v)) (xG (pn:=vt v) (hd.vn j) (p.vn j) (λi L=>Gs<|h1 i L)<|q.vn j) (λch w' h=>by cases h.1)<|sm0 az;obtain⟨P,last,o,w',t',t,D,h2,val,rfl,⟨g',w1,ho,b,l⟩,F⟩:=g 0;obtain⟨C,s,o2,a,v',H,es,W,z,rfl,⟨ba,w2,S,p,wr⟩,X⟩:=g 1;obtain rfl:a=w':=by have h3:=Tm t<|C+1;have ih:=Tm H<|P+1;grind
 have f:∀{j:aD} {k:ZP} {m:Zy},(∀r,X0 v r->k r)->Nw (uK j v) m->Sm (pn:=vt v) az k (A.re m a.tape a.drawn) a->∀r,r<V (Z' v)->a.heap[r]?=v.heap[r]?\/(X0 v r/\a.heap[r]?=ac (Gu j)):=by
  intro j k m hx cs y r c;have I:=cs.dP r (by rw[Gt];exact c) id;have d:a.heap[r]?=m.heap[r]?->a.heap[r]?=v.heap[r]?\/(X0 v r/\a.heap[r]?=ac (Gu j)):=λe=>by grind [xgu,Tq]
  obtain n|n:=Classical.em (k r);rcases(Sm.rl (pn:=vt v) y).2 r n c with e|e;exact aJ e;exact d e;exact d<|Sm.out (pn:=vt v) y r n
 refine⟨P,last,_,a,t',t,D,h2,val,O,⟨?_,?_,?_,?_,λr c=>?_⟩,F⟩;have:=b.1;grind;exact(Sm.os (pn:=vt v) l).trans b.2.os;exact(Sm.cX (pn:=vt v) l).trans b.2.cX;have e0:=Sm.Q (pn:=vt v) l;have I:V (Z' a)=V (Z' w1):=e0;have e2:=b.2.Q;grind [Gt];obtain e|⟨h0,e⟩:=f ho b.2 l r c;exact e;obtain w|⟨_,w⟩:=f S p.2 wr r c;exact w;grind [Gu]
end
section
open Go.ChangeShapes Go.WideShapes
open Rows (uptoBulk uptoBulkAll)
def To{H:Type}:∀{D:bA<|DataW H} {d:DataW H},d∈D->uptoBulk d<=uptoBulkAll D
 |[],_,h=>È
 |e::D,d,h=>by unfold uptoBulkAll;obtain rfl|h:=jc.1 h;omega;have:=To h;omega
theorem xm9(d:DataW H):1<=uptoBulk d:=by
 cases d
 case lit l=>cases l<;>simp[uptoBulk]
 all_goals simp[uptoBulk]
def zyv{H:Type}{c}:∀{D:bA<|DataW H},(∀d∈D,c<=uptoBulk d)->c*T D<=uptoBulkAll D
 |[],_=>by simp|e::D,h=>by unfold uptoBulkAll;have a:=h e xu;have b:=zyv λd y=>h d<|jw _ y;grind [Nat.mul_add]
def zyy:Tryz.prog.cellsOf 110=2:=Ä
def xfr:Tryz.prog.cellsOf 69=8:=Ä
def Tp{B a n C}(h:w.cells? B a n=ac C)(i)(c:i<n):∃v,C[i]?=ac v/\N w (a.add i)=ac v:=by
 unfold World.cells? at h;split at h;have⟨b,y,z⟩:=Lib.mapM_at h i i<|by simp[c]
 grind;grind
def xg3(s):st (eV s.data)=s:=by cases s;simp[st]
def Nz{n}(h:(Lit.int bB n).wf=ay):kh n:=by simp only[Lit.wf,jy,Y8]at h;exact h
section
variable{R:oW×eJ->H}{W:dN}{x:DataW H×bA MemPlace}
def xkc{a C}(e:W.cells? 0 a 2=ac C)(h:ny R az W 0 (λ_=>ay) ay X 110 C=ac x):
  ∃g o,∃y:U×Zl,a=⟨g,o,aw⟩/\N W ⟨g,o,aw⟩=Q bB y.1/\N W ⟨g,o+1,aw⟩=(ak<|st y.2)/\kh y.1/\T y.2+1<=uptoBulk x.1:=by
 have⟨p,e0,m⟩:=Tp e 0 Ã;have⟨u,q,t⟩:=Tp e 1 Ã;obtain⟨l,n,_,rfl,f,d,c⟩:=DataW.trod_struct Tryz.underlying110 h;rw[zyy]at f
 match C,f with
 |[r,D],_=>
  match l,d with
  |[L,B],_=>
   simp only[qh,Jm,xj]at e0 q;obtain⟨k,hk,rfl,j⟩:=Fp is<|c 0 _ O;obtain⟨s,i,rfl,_⟩:=DataW.trod_string qv<|c 1 _ O;cases hk;cases i;subst e0;subst q;have⟨g,o,z⟩:=a;have b:z=aw:=by simpa[Addr.add]using World.cell?_spot m
   subst b;rw[zaa]at m t;exact⟨g,o,(k,eV s.data),O,m,by rw[xg3];exact t,Nz j,by grind [uptoBulk,uptoBulkAll]⟩
def xao{t e k}(D:Tryz.prog.underlying t=ac (.slice e))(hk:Tryz.prog.cellsOf e=k)(At:aD->aD->S->Prop)(G:S->DataW H->Prop)
  (s:∀{X:aD} {a:Addr} {P:Ze} {x:DataW H×bA MemPlace},W.cells? 0 a k=ac P->ny R az W 0 (λ_=>ay) ay X e P=ac x->∃g L y,a=⟨g,L,aw⟩/\g<V (Z' W)/\At g L y/\G y x.1)
  {v}(C:ny R az W 0 (λ_=>ay) ay X t [v]=ac x):
  ∃(a:dD Addr) (cap:aD) (l:bA S),v=aB a (T l) cap/\(a=aw->cap=0/\l=[])/\∃A:bA<|DataW H,T A=T l/\uptoBulkAll A<=uptoBulk x.1/\∀i (h:i<T l),(∃g L,a=ac ⟨g,L,aw⟩/\g<V (Z' W)/\At g (L+i*k) l[i])/\∃d,A[i]?=ac d/\G l[i] d:=by
 obtain⟨c,_⟩|⟨a,m,cap,b,B,n,_,c,rfl,_,u,F,z,r,_,_⟩:=DataW.trod_slice D C;cases c;exact⟨aw,0,[],O,λ_=>⟨O,O⟩,[],O,by simp[uptoBulkAll],λi h=>by simp at h⟩;cases c;have j:∀i,i<m->∃g L y,a.add (i*k)=⟨g,L,aw⟩/\g<V (Z' W)/\At g L y/\∃d,(b.map (·.1))[i]?=ac d/\G y d:=by
  intro i o;have w:=r i o;have p:i<T b:=À
  rw[hk,Jc p,Option.bind_eq_some_iff]at w;have⟨P,c,hy⟩:=w;have⟨g,L,y,h1,h2,h3,h4⟩:=s c hy;exact⟨g,L,y,h1,h2,h3,_,by rw[List.getElem?_map,Jc p];rfl,h4⟩
 have f:∀i,i<m->∃y,(∃g L,ac a=ac ⟨g,L,aw⟩/\g<V (Z' W)/\At g (L+i*k) y)/\∃d,(b.map (·.1))[i]?=ac d/\G y d:=by
  intro i o;have⟨g0,o0,_,q,_⟩:=j 0 À;rw[Nat.zero_mul]at q;have q:a=⟨g0,o0,aw⟩:=by simpa[Addr.add]using q
  subst q;have⟨g,L,y,ha,hg,I,hd⟩:=j i o;rw[zaa]at ha;cases ha;exact⟨y,⟨_,_,O,hg,I⟩,hd⟩
 refine⟨ac a,cap,List.ofFn λi:Fin m=>pf<|f i i.2,Á,λh=>È,b.map (·.1),Á,by grind [uptoBulk],λi o=>?_⟩;rw[List.length_ofFn]at o;rw[List.getElem_ofFn];exact Oq<|f i o
theorem xgv{l:bA S}{a}{ok:S->DataW H->Prop}{c}(b:T a=T l)(h:∀i (h:i<T l),∃d,a[i]?=ac d/\ok l[i] d)(e:∀y d,ok y d->c<=uptoBulk d):c*T l<=uptoBulkAll a:=by rw[<-b];refine zyv λd z=>?_;grind [List.mem_iff_getElem?]
def xd1{v}(m:ny R az W 0 (λ_=>ay) ay X 52 [v]=ac x)(hx:uptoBulk x.1<=100000000):
  ∃l,FA (V<|Z' W) W v l/\T l<=100000000/\∀y∈l,kh y.1/\T y.2<=1000000000:=by
 obtain⟨a,f,l,j,e,r,k,o,b⟩:=xao Tryz.underlying52 zyy (λg z (y:U×Zl)=>N W (zq g z)=ac _/\N W (zq g<|z+1)=ac _) (λy d=>kh y.1/\T y.2+1<=uptoBulk d) (λp m=>by have⟨g,z,y,j,e,k,o,b⟩:=xkc p m;exact⟨g,z,y,j,js e,⟨e,k⟩,o,b⟩) m;have s:=xgv (c:=1) (ok:=λ(y:U×Zl) d=>kh y.1/\T y.2+1<=uptoBulk d) k (λi h=>(b i h).2) λy d h=>À
 refine⟨l,⟨a,f,j,e,λi n=>(b i n).1⟩,À,λy q=>?_⟩;obtain⟨i,n,rfl⟩:=List.mem_iff_getElem.1 q;have⟨d,t,u,D⟩:=(b i n).2;have:=To<|List.mem_of_getElem? t;grind
def xkd{a cs}(y:W.cells? 0 a 8=ac cs)(z:ny R az W 0 (λ_=>ay) ay X 69 cs=ac x):
  ∃g off,∃o:Sp,a=(zq g off)/\g<V (Z' W)/\(∀j u,o.G[j]?=ac u->N W (zq g<|off+j)=ac u)/\9<=uptoBulk x.1/\(uptoBulk x.1<=100000000->∃l,zN (V<|Z' W) W {o with eH:=0} l):=by
 have k:=λi B=>Tp y i B;obtain⟨P,n,_,rfl,h,d,b⟩:=DataW.trod_struct Tryz.underlying69 z;rw[xfr]at h
 match cs,h with
 |[u0,u1,u2,u3,u4,u5,u6,u7],_=>
  match P,d with
  |[x0,x1,x2,x3,x4,x5,x6,x7],_=>
   obtain⟨D,e0,rfl,hx⟩:=Fp is<|b 0 _ O;obtain⟨A,p,rfl,w1⟩:=Fp is<|b 1 _ O;obtain⟨F,q,rfl,w'⟩:=Fp is<|b 2 _ O;obtain⟨G,r,rfl,L⟩:=Fp is<|b 3 _ O;obtain⟨H,s,rfl,ho⟩:=Fp is<|b 4 _ O;obtain⟨I,t,rfl,_⟩:=DataW.trod_string qv<|b 5 _ O;obtain⟨hd,w,rfl,_⟩:=DataW.trod_string qv<|b 6 _ O;cases e0;cases p;cases q;cases r;cases s;cases t;cases w;have e:=b 7 _ O;have⟨g,off,spot⟩:=a;obtain⟨wr,-,m⟩:=k 0 Ã;have c:spot=aw:=by simpa[Addr.add]using World.cell?_spot m
   subst c;refine⟨g,off,⟨D,A,F,G,H,eV I.data,eV hd.data,u7⟩,O,js m,λj u f=>?_,?_,λC=>?_⟩;unfold Sp.G at f;simp only[xg3]at f;have⟨v,h1,h2⟩:=k j<|(za.1 f).1;grind [zaa];simp[uptoBulk,uptoBulkAll];grind [xm9];have⟨l,l1,l2,l3⟩:=xd1 e (by simp[uptoBulk,uptoBulkAll]at C;omega);exact⟨l,Nz w1,Nz w',Nz L,l1,l2,l3⟩
def xap{v}(b:ny R az W 0 (λ_=>ay) ay X 22 [v]=ac x)(hx:uptoBulk x.1<=1048576):∃D,SL (V<|Z' W) W v D:=by have⟨a,C,l,t,s,n,p,m,q⟩:=xao Tryz.underlying22 xfr (λg z (o:Sp)=>∀j u,o.G[j]?=ac u->N W (zq g<|z+j)=ac u) (λo d=>9<=uptoBulk d/\(uptoBulk d<=100000000->∃l,zN (V<|Z' W) W {o with eH:=0} l)) (λf b=>by have⟨g,z,y,t,s,p,m,q⟩:=xkd f b;exact⟨g,z,y,t,s,p,m,q⟩) b;have k:=xgv (c:=9) (ok:=λ(o:Sp) d=>9<=uptoBulk d/\(uptoBulk d<=100000000->∃l,zN (V<|Z' W) W {o with eH:=0} l)) p (λi h=>(q i h).2) λy d h=>h.1;refine⟨l,a,C,t,À,λi e=>⟨(q i e).1,?_⟩⟩;have⟨d,r,L,B⟩:=(q i e).2;have:=To<|List.mem_of_getElem? r;grind
end
end
section
open Go.ChangeShapes Go.WideShapes Go.ChangeAt Go.Conc
open Go.ChangeMaps (open_string shut_string)
theorem cN:ownKnob Tryz.prog.godebug=aw:=Ä
def xth:laidOutB az=ay:=Ä
def jbh:Tryz.prog.globalNamed "coffer/prim.roundWords"=ac 4:=Ä
def xn0:(Tryz.prog.globals[4]?).map (·.type)=ac 336:=Ä
def xv8:Tryz.prog.globalNamed "coffer/cofferref.roots"=ac 2:=Ä
def xjp:(Tryz.prog.globals[2]?).map (·.type)=ac 336:=Ä
def jbg:Tryz.prog.globalNamed "coffer/disk.ErrCrashed"=ac 0:=Ä
def xnz:(Tryz.prog.globals[0]?).map (·.type)=ac 169:=Ä
def jbi:Tryz.prog.globalNamed "coffer/coffer.errTampered"=ac 1:=Ä
def xn1:(Tryz.prog.globals[1]?).map (·.type)=ac 169:=Ä
def zy0:Tryz.prog.cellsOf 336=64:=Ä
def zyz:Tryz.prog.cellsOf 243=1:=Ä
def Ki:bA U:=[1116352408,1899447441,3049323471,3921009573,961987163,1508970993,2453635748,2870763221,3624381080,310598401,607225278,1426881987,1925078388,2162078206,2614888103,3248222580,3835390401,4022224774,264347078,604807628,770255983,1249150122,1555081692,1996064986,2554220882,2821834349,2952996808,3210313671,3336571891,3584528711,113926993,338241895,666307205,773529912,1294757372,1396182291,1695183700,1986661051,2177026350,2456956037,2730485921,2820302411,3259730800,3345764771,3516065817,3600352804,4094571909,275423344,430227734,506948616,659060556,883997877,958139571,1322822218,1537002063,1747873779,1955562222,2024104815,2227730452,2361852424,2428436474,2756734187,3204031479,3329325298]
def xv2:∀i:Fin 64,Ki.getD i.val 0=u (Kc i.val):=Ê
def Tn{P:Zp}{x:String×DataW Unit}{rest:bA<|String×DataW Unit}(h:laidMet P (x::rest) W):laidMet P rest W:=by have⟨o,⟨g,t,C,X,p,q,s,m,r,n,y,z⟩,j,u⟩:=h;subst z;exact⟨q,y,(GK.1 j).2.1,λb a c=>u b a<|List.mem_append_right _ c⟩
def xwi: "*" ++ "errors.errorString"= "*errors.errorString":=Ã
def xzg(u:Zt)(h:Tryz.prog.typeName? 3 u=ac "*errors.errorString"):u=380:=
 typeName_ptr_named (nm:= "errors.errorString") (by rw[xwi];kernel_rfl) Ä Ã u (by rw[xwi];exact h)
def xng:Tryz.prog.cellsOf 402=1:=Ä
def xxx:Tryz.prog.cellsOf 9=1:=Ä
def zoy{n:String}{v:Zv}(a:Tryz.prog.globalNamed n=ac g)(h:W.var? az n=ac #[v]):N W (zq g 0)=ac v:=by simpa using World.var?_cell a h 0
def xyc(h:laidMetH az Rows.wholesUptoRow.laid W):∃cv tv,nD cv tv W/\qF (V<|Z' W) cv tv W/\Yq W:=by have b:=h;have d:Lib.TabIs az W "coffer/cofferref.roots" cJ Ki:=Lib.tabIs_of_head (rest:=_) xv8 xjp Tryz.underlying336 Tryz.underlying243 zyz zy0 b;have t:Lib.TabIs az W "coffer/prim.roundWords" cJ Ki:=Lib.tabIs_of_head (rest:=_) jbh xn0 Tryz.underlying336 Tryz.underlying243 zyz zy0<|Tn b;have⟨A,u,n,l,C,s,m,r,q,p,_,_,_,_,_,_,j,y,z⟩:=laid_sentinels2 (Tn<|Tn b) jbg xnz jbi xn1 jT xzg Tryz.underlying380 Tryz.underlying402 O O qv xng xxx;have c:∀{i:aD} {o:Obj},W.heap[i]?=ac o->i<V (Z' W):=λh=>(za.1 h).1;refine⟨_,_,⟨⟨_,_,O,zoy jbg q⟩,⟨_,_,O,zoy jbi p⟩,λi a=>?_⟩,⟨A,u,C,s,m,r,O,O,λe=>j e.symm,c y,c z,y,z⟩,λi a=>?_⟩;rw[t.cell jbh i a,xv2 ⟨i,a⟩];rw[d.cell xv8 i a,xv2 ⟨i,a⟩]
def Tk.Y{u:Zy}(h:Tk v u):aP (V v.blind.heap) v.blind u.blind:=⟨h.1,O,h.2.1,h.2.2.1,h.c⟩
abbrev xxz:eM:={data:=#[116,104,101,32,109,97,99,104,105,110,101,32,115,116,111,112,112,101,100]}
abbrev jdm:eM:={data:=#[115,111,109,101,98,111,100,121,32,104,97,115,32,98,101,101,110,32,97,116,32,116,104,101,32,100,105,115,107]}
noncomputable def vw:aD:=V (World.holding az default ⟨#[],#[],[]⟩).heap
noncomputable def zn6(z:Os):Zy:=
 let y:=World.holding az z ⟨#[au #[ak xxz] 402,au #[ak jdm] 402],#[],[]⟩
 {y with heap:=(((y.heap.modify 4 fun
   | au _ t F=>au (bH (Ki.map λx=>zu x)) t F|o=>o).modify 2 fun
   | au _ t F=>au (bH (Ki.map λx=>zu x)) t F|o=>o).modify 0 fun
   | au _ t F=>au #[iW 380<|K vw] t F
   |o=>o).modify 1 fun
   | au _ t F=>au #[iW 380<|K<|vw+1] t F
   |o=>o}
def xog(a:Os):laidMet az Rows.wholesUptoRow.laid ((zn6 a).forCall (λ_ _=>0) ⟨#[],#[aB aw 0 0],[]⟩).memory:=
 laidMet_of_run' 70 Ä Ä
def jc8(a:Os)(e:Zt×Zv->H):∃P,DataW.whole e az ((zn6 a).forCall (λ_ _=>0) ⟨#[],#[aB aw 0 0],[]⟩).memory (eV Tryz.f4.params) Rows.wholesSpec.vars ao (eV (#[aB aw 0 0])) 8=ac ([.nil],[],P):=
 ⟨[],Ä⟩
def jfb{enc:Zt×Zv->H}(W:Zy)(base:aD)(A:Za)(g gs:bA<|DataW H)(a:bA MemPlace)
  (b:∀(j:aD) t v,Tryz.f4.params[j]?=ac t->A[j]?=ac v->Value.okWide az W .any base t v)(y:Rows.uptoBulkAll (g++gs)<=1048576)
  (l:DataW.Whole enc az (eV Tryz.f4.params) Rows.wholesSpec.vars ao W (eV A) g gs a)(s:laidMetH az Rows.wholesUptoRow.laid W):
  ∃u P o w' t',fQ az (u+1) (solo (G (bI az 4 A dH) []) W) #[]=(lV o w',t')/\runN az u (solo (G (bI az 4 A dH) []) W)=gP P/\step az P=lV o w'/\
   oJ az (λv W'=>Rows.wholesSpec.post enc az nM ao ay ao ao W.blind A v W'.blind) P o w' t':=by
 have c:=l;obtain⟨p,q,e,w,rfl,z,B⟩:=l;have k:=e;rw[Tryz.params4]at k b;obtain⟨F,r,rfl,rfl,i⟩:=trodAll_one k;obtain⟨rfl,rfl⟩:=trodVars_none w;obtain⟨n,f,d,rfl⟩:=okWide_slice Tryz.underlying22<|b 0 22 F O O;have⟨X,hf⟩:=i;simp only[Xz]at c;have⟨D,hD⟩:=xap hf (by grind [Rows.uptoBulkAll]);have⟨cv,tv,hG,hT2,hTb⟩:=xyc s;have⟨u,P,o,w',t',r1,r2,r3,r4⟩:=vr _ D hG hT2 hTb hD;refine⟨u,P,o,w',t',r1,r2,r3,r4.mono λv C=>?_⟩;obtain⟨rfl,hk⟩:=C;have m:=hk.Y;have L:DataW.Trod enc az W.blind 0 (λ_=>ay) ay 22 (aB n f d) r p:=DataW.Trod.of_heap Ò i;refine⟨_,_,_,[],_,[],DataW.Whole.of_heap (w':=W.blind) Ò c,trodAll_cons_mk (shut_bool Tryz.underlying4 _) trodAll_mk0,trodAll_cons_mk (Below.trod xth Ä (Xt Â) L m λx I=>c.lt x À) trodAll_mk0,O,m.frame _,λh=>È⟩
def xyo(d:Os)(a:d.Started)(H:Type)(enc:Zt×Zv->H):
  ReturnsInLeavingWide {} Tryz.checked d 4 .any ((Rows.OpenSpec.upto Rows.wholesSpec).preRow enc az nM Rows.wholesUptoRow.domain ao Rows.wholesUptoRow.laid) (Rows.wholesSpec.post enc az nM ao ay ao ao):=by
 have⟨P,z⟩:=jc8 d enc;refine returnsInLeavingWide_of_good (C:=Tryz.checked) cN a
  (witness_row_at (enc:=enc) (C:=Tryz.checked) ao _ #[aB aw 0 0] O Ä Ä Ä
   (OpenSpec.preRow_of_cond 8 z Ä (λk hk=>by cases hk;kernel_rfl) Ä<|xog d)) ?_
 intro w c i _ _ _ f b _;have⟨_,_,_,F,h,_,_,_,_,y⟩:=f;have e:=ql<|h.symm.trans Tryz.func4;subst e;have⟨⟨q,t⟩,j⟩:=b;have⟨D,G,B,p,u,hk⟩:=OpenSpec.pre_parts q;exact jfb _ (V<|Z' w) i.args D G B y (Xt<|hk _ O) (DataW.Whole.of_heap (w':=w.forCall c i) Ò p)<|t.of_heap Ò
end
def jeq{a b:ez}(h:a=ay)(k:b=ay):(a&&b)=ay:=by rw[h,k];rfl
def j9:((Rows.wholesUptoRow.inPlace==Tryz.pinned.checked.prog.inPlace 4))=ay:=Ä
def j10:((Rows.wholesUptoRow.unfollowed==Tryz.pinned.checked.prog.unfollowed 4))=ay:=Ä
def j11:((Rows.wholesUptoRow.recurses==Tryz.pinned.checked.prog.recurses 4))=ay:=Ä
def j12:((Rows.wholesUptoRow.named==Tryz.pinned.checked.prog.varsNamed 4))=ay:=Ä
def jbe:joinedFacts Tryz.pinned.checked.prog 4 nM (Rows.OpenSpec.upto Rows.wholesSpec).bare Rows.wholesUptoRow=ay:=by
 unfold joinedFacts;repeat' with_reducible refine jeq ?_ ?_
 all_goals first|with_reducible exact j9|with_reducible exact j10|with_reducible exact j11|with_reducible exact j12|kernel_rfl
def zth{p:Go.Pinned}{s:ChangeSpec}{q:OpenSpec}{c:OpenClaim}(f:FuncId)(fn:kL)
  (hn:c.program=p.name)(hs:c.sum=p.sum)(u:c.spec=q.name)
  (d:c.start= .entering)(g:c.outside=[])(P:c.inits=[])(A:c.under=aw)(D:c.initsInPlace=[]/\c.initsUnfollowed=ao/\c.initsRecurse=ao/\c.initsNamed=[]/\c.initsPassed=[])(t:c.noBlocks=ao)(G:c.leaving=ay)(j:c.followed=aw)(r:c.narrowed=q.cond.isSome)(i:c.still=ao)
  (C:p.checked.prog.funcNamed c.func=ac f)(hf:p.checked.prog.funcs[f]?=ac fn)
  (e:joinedFacts p.checked.prog f fn q.bare c=ay)
  (l:fn.isInstance p.checked.prog c.origin c.targs)(o:fn.isWrapper p.checked.prog c.wrapper c.mainSum)
  (m:∀(H:Type) (enc:Zt×Zv->H) F,q.post enc p.checked.prog fn F [] c.apart c.fresh c.handsOn c.again=s.post enc p.checked.prog fn c.apart c.fresh c.handsOn c.again)
  (h:∀os:Os,os.Started->∀(H:Type) (enc:Zt×Zv->H),(∀a b,enc a=enc b->a=b)->
   ReturnsInLeavingWide c.assume p.checked os f .any (c.pre enc p.checked.prog fn q) (s.post enc p.checked.prog fn c.apart c.fresh c.handsOn c.again)):c.holds p q:=by
 simp only[joinedFacts,jy,zQ,jn,GM,Y8]at e;obtain⟨⟨⟨⟨⟨⟨⟨⟨⟨⟨⟨⟨⟨⟨⟨⟨⟨⟨⟨⟨⟨⟨⟨⟨⟨⟨⟨⟨⟨⟨⟨k1,k2⟩,k3⟩,k4⟩,k5⟩,k6⟩,k7⟩,k8⟩,k9⟩,w'⟩,hd⟩,h1⟩,h2⟩,hx⟩,S⟩,ho⟩,wr⟩,v⟩,cs⟩,W⟩,X⟩,g'⟩,v'⟩,w⟩,x⟩,y⟩,z⟩,B⟩,ba⟩,bb⟩,bc⟩,bd⟩:=e;have hq:∀os:Os,Stop.quiet p.checked.prog os:=λos k hk=>by rw[k9]at hk;cases hk
 refine⟨k1,hn,hs,u,k2,k3,by unfold OpenClaim.startFits;rw[d];exact y,by unfold OpenClaim.startTold;rw[d];exact⟨P,A,D⟩,f,fn,C,hf,⟨k4,W⟩,(λhb=>by rw[t]at hb;cases hb),by unfold OpenClaim.namedList;rw[j];exact k5,l,o,
  k6.trans k7.symm,⟨k8.trans k9.symm,by unfold Program.envWorded;rw[k9];rfl,x⟩,w',hd,h1,h2,hx,⟨S,bc,bd⟩,⟨ho,X⟩,⟨wr,g',ba,bb⟩,⟨v',z,B,v⟩,(by rw[g,r];cases hsh:c.shortTexts with|none=>simp|some _=>rw[hsh]at w;cases w),λn I=>varReadable_some<|cs n I,
  ⟨_,by unfold OpenClaim.world;rw[g,d];exact WideRow.started_initial,hq _⟩,[],by unfold OpenClaim.lists;rw[j],λos st _ H enc L=>?_⟩
 have be:os.Started:=by unfold OpenClaim.world at st;rw[g,d]at st;exact st
 rw[OpenClaim.post_not_still i];unfold OpenClaim.form;rw[d,k6];intro F;have e1:c.okInput=Input.okWide:=by unfold OpenClaim.okInput;rw[t]
 have e2:c.atReturn p.checked.prog=leavingAtReturn p.checked.prog:=by unfold OpenClaim.atReturn;rw[G]
 have e3:c.always p.checked.prog []=nothingAlways:=by unfold OpenClaim.always;rw[j]
 rw[e1,e2,e3];show ReturnsInOpen _ _ _ _ _ _ _ _ (q.post enc p.checked.prog fn F c.outside c.apart c.fresh c.handsOn c.again) _ _;rw[g,m];exact h os be H enc L y
def xyv:Tryz.pinned.checked.prog.funcNamed Rows.wholesUptoRow.func=ac 4:=Ä
def jbl:Tryz.f4.isInstance Tryz.pinned.checked.prog Rows.wholesUptoRow.origin Rows.wholesUptoRow.targs:=Xt Ä
def jdx:Tryz.f4.isWrapper Tryz.pinned.checked.prog Rows.wholesUptoRow.wrapper Rows.wholesUptoRow.mainSum:=by unfold Func.isWrapper;first|(rw[aT Ê];kernel_rfl)|(rw[aL Ê];exact⟨O,O⟩)
def Tj:Rows.WholesUptoSaid:=
 zth (s:=Rows.wholesSpec) 4 nM O O O O O O O ⟨O,O,O,O,O⟩ O O O O O xyv Tryz.func4 jbe jbl jdx (λ_ _ _=>O)
  (λc a H b _=>by rw[OpenClaim.pre_eq_preRow];exact xyo c a H b)
def pC(f:FuncId)(F:kL)(d:Tryz.pinned.checked.prog.funcNamed "coffer/cofferlaw.Wholes"=ac f)(a:Tryz.pinned.checked.prog.funcs[f]?=ac F):
  ay=Tryz.pinned.checked.prog.looks []/\∀(j:aD) t,F.params[j]?=ac t->Tryz.pinned.checked.prog.wantsStandIn t=ao:=by
 obtain rfl:f=4:=ql ((show Tryz.prog.funcNamed "coffer/cofferlaw.Wholes"=ac 4 by kernel_rfl).symm.trans d) |>.symm;obtain rfl:F=nM:=(ql<|Tryz.func4.symm.trans a).symm;refine⟨Ä,λj t c=>?_⟩;rw[Tryz.params4]at c;have b:=Ks c;simp only[KC,jc,Ky,or_false]at b;rw[b];exact(show Tryz.prog.wantsStandIn 22=ao by kernel_rfl)
def jbj:ay=Rows.wholesUptoRow.goesBy Tryz.pinned.checked.prog:=Ä
def jbu:Tryz.pinned.checked.prog.mainIs=ac (ay,"4a0ee9522534c2d428c9830cfbd97c6c1925e58f526ebf18fccfdf95455ecf2d".toList):=Ä
def card:Rows.WholesUptoCardSaid:=
 ⟨Claim7.tied_new_at .later [.data,.data,.sentinel,.sentinel] ay (Claim7.new_of_sixth Tj (ay,"4a0ee9522534c2d428c9830cfbd97c6c1925e58f526ebf18fccfdf95455ecf2d") ay O ⟨O,O⟩ jbu O pC) Ä,λD a=>(by cases a),wholesUpto_row_tie,(λh=>È),jbj⟩
end P
end Go.Proofs.YtjnbhiamaabbgaaGreatDoor
