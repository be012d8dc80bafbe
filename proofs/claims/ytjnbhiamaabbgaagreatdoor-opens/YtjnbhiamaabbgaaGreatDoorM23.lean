import Derived.Test.YtjnbhiamaabbgaaGreatDoorM22
import Derived.Test.YtjnbhiamaabbgaaGreatDoorRows
import Derived.Lib.LaidTab
import Derived.Test.YtjnbhiamaabbgaaGreatDoorCards
import Derived.Test.YtjnbhiamaabbgaaGreatDoorTie
import Derived.Conc.LeavingOf
import Derived.OpenShut
import Derived.Deep.DeepHandedRow
import Derived.Stop.LaidTwo
set_option linter.all false
set_option maxRecDepth 100000
set_option maxHeartbeats 8000000
namespace Go.Proofs.YtjnbhiamaabbgaaGreatDoor
open Go renaming Act->jG,Calls->aG,Code->nW,Ending->kU,Func->jE,Program->bT,Trace->fG,TypeId->nt,Value->dL,World->cY,execOp->aL,resolve->nD,results->dX,runNT->eT,stepG->bF,undef->aC,unwind->cW
open Go.Act renaming put->fe
open Go.CallKind renaming normal->cJ
open Go.Code renaming seq->fO
open Go.Conc renaming Deaf_other->cU,Good->mX,awake_of->mW,crowd->fL,mem_ofEvents->zy,touchAt->li
open Go.DataW renaming trod->lZ
open Go.Ending renaming panicked->gU,returned->ah
open Go.Exit renaming normal->dM
open Go.Frame renaming enter->aT
open Go.FrameMode renaming returning->dN
open Go.GStep renaming ended->gq
open Go.IntKind renaming i64->aU,u32->bQ
open Go.Item renaming code->cD
open Go.MemOp renaming ofEvents->aS
open Go.Obj renaming cells->aq
open Go.Proofs renaming intOf->bP
open Go.Proofs.Tryz renaming f3->mn,prog->au,underlying169->iG,underlying3->gI,underlying9->oN
open Go.Result renaming ok->cT
open Go.RowKit renaming Below->aN
open Go.Stepped renaming ended->kW,next->fS
open Go.Value renaming agg->bM,bool->aX,iface->gB,int->aH,slice->az,string->aj
open Go.WideShapes renaming add_plain->zaa
open Go.World renaming alloc->aB,cell?->ae
open Go.stepG renaming exec->aD
open _root_.Array renaming replicate->bV,size->ak,toList->ej
open _root_.Bool renaming false->ao,true->aw
open _root_.Classical renaming choose->nO
open _root_.Decidable renaming decide->bI
open _root_.False renaming elim->dI
open _root_.Int renaming toNat->bB
open _root_.List renaming length->aa,pairwise_cons->Xw,range->gO,toArray->aV
open _root_.List.Pairwise renaming nil->iN
open _root_.Nat renaming reduceAdd->iJ,reduceSub->jV
open _root_.Option renaming none->ar,some->ac
open _root_.Or renaming inl->aF,inr->aE
namespace P
open A.Tryq Go.RowKit
section
open A
attribute [local go_sem] zn zg
structure Hs(B:Nat)(r:Sr)(w0 w:Zy):Prop where
 st:Vq w B r
 cO:∀x,r.cO B x->ak w0.heap<=x
 nw:Nw w0 w
section
variable {B:Nat} {r r':Sr} {w0 w w':cY}
def Hs.to(h:Hs B r w0 w)(t:Zd B r w r' w'):Hs B r' w0 w':=⟨t.dS,λx a=>(t.cO x a).elim (h.cO x) λk=>xa h.nw.J k,h.nw.kL t.y λy b=>aE (h.cO y b)⟩
def Hs.gl(h:Hs B r w0 w)(n:Nw w w'):Hs B r w0 w':=⟨h.st.y n λ_ _=>id,h.cO,h.nw.aA n⟩
end
def qU:Zl:=[48,49,50,51,52,53,54,55,56,57,97,98,99,100,101,102,48,49,50,51,52,53,54,55,56,57,65,66,67,68,69,70]
def Cp(S mp:Nat):kV:=wZ S {jB qU Yn 0 1 mp with aP:=0} []
def Cn(D M S mp:Nat):Sr:={Sr.dT 100000 100 5 qU D M with op:=1,sn:=ac<|Cp S mp}
def Ϸ(mp:Nat):Xr (jB qU Yn 0 1 mp) []=ac ({jB qU Yn 0 1 mp with aP:=0},[]):=by
 have e:Xc (jB qU Yn 0 1 mp) []=ac (jB qU Yn 0 1 mp,[]):=by unfold Xc;exact if_pos rfl
 have l:Z7 [] 0=0:=by unfold Z7 vB;exact if_neg λh=>h.2 rfl
 unfold Xr;rw[e];exact if_pos<|aF ⟨rfl,rfl⟩
def xsv{D M:Nat}{a:Int}{c:Sr}(h:yG (Sr.dT 100000 100 5 qU D M) a c):a=0/\∃S mp,c=Cn D M S mp:=by
 obtain⟨mp,h⟩:=h;have e:(Zb {jB qU Yn 0 1 mp with aP:=0} ⟨100000,M,[],ar⟩)=(aw,{jB qU Yn 0 1 mp with aP:=0},⟨100000,M,[],ar⟩):=by
  have f:Zk []=[]:=List.eq_nil_iff_forall_not_mem.2 λa h=>by grind [MF]
  rw[ź rfl];unfold Wd;simp only[f];rfl
 unfold Cf Ce at h;rw[show Xr (jB (Sr.dT 100000 100 5 qU D M).m (Sr.dT 100000 100 5 qU D M).bJ (Sr.dT 100000 100 5 qU D M).bA (((Sr.dT 100000 100 5 qU D M).op+1:Nat):Int) mp) (Sr.dT 100000 100 5 qU D M).d.L=_ from Ϸ mp]at h;rw[if_neg<|by simp[Sr.dT],if_neg<|by simp[Sr.dT]]at h;obtain⟨_,b,S,g⟩|⟨b,_⟩:=h;refine⟨b,S,mp,g.trans ?_⟩;unfold ů;rw[show Zb {jB qU Yn 0 1 mp with aP:=0} (Sr.dT 100000 100 5 qU D M).d=_ from e];rfl;grind [Sr.dT]
def xx7{D M S mp:Nat}{a:Int}{b:Sr}(h:(Cn D M S mp).dH (nh [97]&&q8 [49]) (.put [97] [49]) a b):a=0/\∃pv,b={Cn D M S mp with sn:=ac<|(Cp S mp).jH pv<|.put [97] [49]}:=by grind [Sr.dH,Cn,Cp,wZ,nh,q8]
def xsw(D M S mp:Nat)(pv:Zv):∃r',({Cn D M S mp with sn:=ac<|(Cp S mp).jH pv<|.put [97] [49]}:Sr).gZ ((Cp S mp).jH pv<|.put [97] [49])=(ac 0,r')/\r'.bA=1:=by
 generalize hr:({Cn D M S mp with sn:=ac _}:Sr)=r;generalize hs:(Cp S mp).jH pv _=s;have f:=Uq r s;have c:r.bA=0:=by rw[<-hr];rfl
 have e:r.my=5:=by rw[<-hr];rfl
 have a:r.d=⟨100000,M,[],ar⟩:=by rw[<-hr];rfl
 have b:s.P=[.put [97] [49]]:=by rw[<-hs];rfl
 have w:r.eG s [82] s.ep (Z5 s.P)=(ac 0,r.pa s [82] s.ep<|Z5 s.P):=by unfold Sr.eG;rw[if_neg À,if_neg<|by rw[a,b];simp[bK,Z5,tq,vx,Z2];omega,if_neg<|by rw[a];simp[Dk.cQ],if_neg<|by grind [Dk.cQ,Dk.gk,Dk.dR]]
 unfold Sr.gZ;rw[if_neg Â,w,if_pos rfl];exact⟨_,rfl,by show r.bA+1=1;omega⟩
def ϸ{B M:Nat}{r:Sr}{w0 w:Zy}(h:Hs B r w0 w)(f:4<ak w0.heap)(a:r.m=qU)(b:r.bJ=Yn)(j:r.bA=0)(k:r.op<=1)(e:r.d=⟨100000,M,[],ar⟩)(l:∀s,r.sn=ac s->s.aP=0/\aa s.P<=20):vq B r:=by refine⟨by rw[a];rfl,by rw[b];rfl,À,À,Â,by rw[e];exact⟨λp g=>(by cases g),Zz _⟩,Â,λc n=>Â,λx i=>zm f<|h.cO x i,λs o=>?_⟩;grind
variable [pn:A.Pn]
noncomputable def Gb:=Qf Tryz.f28.body
noncomputable def jff:=Qa Gb
noncomputable def jfg:=Qa<|Qb Gb
noncomputable def jfh:=Qa<|Qb<|Qb Gb
noncomputable def r28:=Qa<|Qn 3 Gb
noncomputable def y28:=Qn 4 Gb
def xxq:Tryz.f28.body=ac (fO jff<|fO jfg<|fO jfh<|fO r28 y28):=Á
def vV:¬Mc au 28:=wY Ã Ã Tryz.func28
def Cr(w:Zy)(e:kU)(w':Zy):Prop:=e=ah (aX aw)/\Nw w w'
def θ{w w':Zy}{e:kU}{t:Nat->Question->Nat}{d:Nat}:Cr w e (re w' t d)↔Cr w e w':=⟨λh=>⟨h.1,zj.re h.2⟩,λh=>⟨h.1,Nw.kO h.2 t d⟩⟩
def xn3{cv tv:Zv}{w:Zy}(hG:oe cv tv w)(C:pj (ak w.heap) cv tv w):CC au 28 #[] w<|Cr w:=by
 have hQ:pm<|qM au cP Tryz.f28<|Cr w:=Aj λe f t d=>θ;refine CC.jK bL vV (fF rfl Tryz.func28 rfl).1 Tryz.func28 xxq ?_;rw[show Tryz.f28.ntmps=61 from rfl];generalize hPX:qM au cP Tryz.f28 (Cr w)=PX at hQ;have HR:∀a f,a.defers=[]->At a 0 (aX aw)->Nw w f->PX .ret a f:=λa f h1 C h3=>by rw[<-hPX];refine⟨h1,aX aw,λt d=>⟨t,d, ?_⟩,rfl,h3⟩;show(dX Tryz.f28 _).run prog _=_;unfold At at C;simp[dX,Tryz.results28,go_sem,C]
 have z:=hQ;have HG:=hG;have HT:=C;simp only[jd,xg,qy,iJ,jV,qu,qw,Xa,Zh,qj,qg];refine p5 vV z λw1 ba E I be=>?_;have N1:Nw w w1:=qm E;conv=>arg 2;whnf
 go_wp2;refine I.o _ _ ?_;refine p5 vV z λw2 bb F J bf=>?_;have N2:Nw w w2:=N1.aA<|qm F;conv=>arg 2;whnf
 go_wp2;refine(U0 100000 100 5 qU Ã Ã Ã Ã Ã Ã rfl _).mono ?_;rintro e w3⟨B,D,M,rfl,hB,hD,hM,Q,b⟩;have H3:Hs B (Sr.dT 100000 100 5 qU D M) w w3:=⟨b,λx p=>xa N2.J (by obtain rfl|p|⟨s,U,-⟩:=p;exact hB;obtain rfl|rfl|⟨c,o,-⟩:=p;exact hD;exact hM;cases o;cases U),N2.aA<|zj.Q Q⟩;go_wp2;refine J.o _ _ ?_;refine p5 vV z λw4 bc G K bg=>?_;have l:=H3.gl<|qm G;conv=>arg 2;whnf
 go_wp2;refine K.o _ _ ?_;have h4:=HG.gX;have y:∀f,Nw w f->oe cv tv f/\pj (ak w.heap) cv tv f:=λf n=>⟨HG.y n λ_ x=>x.elim,HT.y n λ_ x=>x.elim⟩;have j:=ű l.st (Zz _) (ϸ l h4 rfl rfl rfl (Zz _) rfl λs e=>Ç) (y _ l.nw).1 (y _ l.nw).2 l.cO (λi=>Zz _) λq k L e=>by have e':=(Ϸ q).symm.trans e;cases e';exact⟨λh=>Ê,Â,Â⟩
 refine Yp.tI bL vV trivial ?_;conv=>arg 3;whnf
 refine Yp.gv bL vV ?_;refine sN vV ⟨rfl,rfl⟩ ?_;refine Vh.kN bL vV rfl rfl (λv=>Í) (fF rfl Tryz.func13 rfl) j ?_ ?_;rotate_left;rintro ch w7⟨_,R,_⟩;cases R;rintro v5 w5⟨a5,R,r5,b,p⟩;cases R;obtain⟨rfl,S,q,rfl⟩:=xsv p;refine sN vV ⟨rfl,rfl⟩ ?_;refine Vh.nil bL vV ?_;refine ?_;simp only[fe,Zj,Vp,D1];have H5:=l.to b;refine Dz vV z λw6 bd H N=>?_;have H6:=H5.gl<|qm H;conv=>arg 2;whnf
 go_wp2;refine(TE B _ [97] [49] _ H6.st λs e=>by cases e;exact Zz _).mono ?_;rintro e w7⟨a7,r7,rfl,b,O⟩;obtain⟨rfl,pv,rfl⟩:=xx7 O;have H7:=H6.to b;go_wp2;refine(TF B _ [97] _ H7.st λs e=>by cases e;show 1<=20;decide).mono ?_;rintro e w8⟨rfl,T⟩;rw[show Sr.ib {Cn D M S q with sn:=ac<|(Cp S q).jH pv<|.put [97] [49]} [97]=([49],0)from rfl];have g:=H7.gl T;go_wp2;refine(MG B _ _ g.st).mono ?_;rintro e w9⟨rfl,rfl⟩;go_wp2;obtain⟨rz,V,W⟩:=xsw D M S q pv;refine(NW B _ _ _ g.st rfl (ϸ g h4 rfl rfl rfl (zd 1) rfl λs e=>by cases e;exact⟨rfl,by show 1<=20;decide⟩) (y _ g.nw).1 (y _ g.nw).2 g.cO λc o=>?_).mono ?_;rw[ju.1 o];exact⟨Ã,Ã,Ã⟩;intro e Z hw;have X:e=ah (zi 0)/\∃r,r.bA=1/\Hs B r w Z:=by obtain⟨v,r',Y,q2,q3⟩|⟨r',Y,q2,q3⟩:=hw;rw[V]at Y;cases Y;exact⟨q2,_,W,g.to q3⟩;grind
 obtain⟨rfl,rr,o,U⟩:=X;have m:=U;have HC:=o;go_wp2;refine(MG B _ _ m.st).mono ?_;rintro e bh⟨rfl,rfl⟩;rw[HC];have z1:(st [49]).toList=[49]:=xl _;go_wp2;exact N.o .ret _ _<|HR _ _ rfl rfl m.nw
end
def Ty(w:Zy)(g e:Nat):Prop:=∃cur,w.heap[g]?=ac (aq cur e (0,0))
def Ty.eq{w:Zy}{g e e':Nat}(h:Ty w g e)(k:Ty w g e'):e=e':=by obtain⟨c,h⟩:=h;obtain⟨d,k⟩:=k;grind
def Ty.lt{w:Zy}{g e:Nat}(h:Ty w g e):g<ak w.heap:=(za.1 h.choose_spec).1
def Ty.y{w w':Zy}{g e:Nat}{S:ZP}(h:Ty w g e)(a:zj S w w')(b:¬S g):Ty w' g e:=⟨_,(a.dB g h.lt b).trans h.choose_spec⟩
def Rw.ty{α:Type}{w:Zy}{t k g:Nat}{f:α->Ze}{v:Zv}{l:List α}(h:Rw w t k f v l)(a:v.ownBlock=ac g):Ty w g t:=by obtain⟨e,_⟩|⟨i,c,b,e,_,d,_⟩:=h.2;rw[e]at a;cases a;rw[e]at a;cases a;exact⟨b,d⟩
def uu(c:Int->Bool)(R:Int->Zv->Prop)(T:Ze)(M:List Int):Prop:=aa T=4*aa (M.filter c)/\∀i (h:i<aa M),c M[i]=aw->∀k,k<4->∃v,T[4*aa ((M.take i).filter c)+k]?=ac v/\R M[i] v
section
variable {c:Int->Bool} {R R':Int->dL->Prop} {T X:List dL} {M:List Int} {m:Int}
def uu.W(h:uu c R T M)(k:∀m v,v∈T->R m v->R' m v):uu c R' T M:=⟨h.1,λi b a j d=>by obtain⟨v,e,f⟩:=h.2 i b a j d;grind⟩
def uu.oi(h:uu c R T M){i:Nat}(a:i<aa M)(f:i<aa (M++[m]))(b:c (M++[m])[i]=aw)(X:Ze):∀k,k<4->∃v,(T++X)[4*aa (((M++[m]).take i).filter c)+k]?=ac v/\R (M++[m])[i] v:=by rw[KP a]at b⊢;rw[Y4<|Nat.le_of_lt a];intro k hk;obtain⟨v,d,e⟩:=h.2 i a b k hk;grind
def uu.Ρ(h:uu c R T M)(f:c m=aw)(a:aa X=4)(hx:∀x∈X,R m x):uu c R (T++X)<|M++[m]:=by
 refine⟨by rw[zx,h.1,a,Yu,zx];grind,λi d b k hk=>?_⟩;by_cases e:i<aa M;exact h.oi e d b X k hk;obtain rfl:i=aa M:=Â
 rw[Y4<|zd _,jz,<-h.1,Xp À,Gt];simp_all
def uu.Ga(h:uu c R T M)(e:c m=ao):uu c R T<|M++[m]:=by refine⟨by rw[h.1,Yu,zx];simp[e],λi b a k hk=>?_⟩;by_cases d:i<aa M;have:=h.oi d b a [] k hk;grind;grind
end
structure Hv where
 ps:Zv
 m:Nat
 tv:Zv
 fv:Zv
 mv:Zv
 T:Ze
 F:Ze
 M:List Int
def Hv.cO(h:Hv)(H x:Nat):Prop:=x=H\/h.ps.ownBlock=ac x\/h.tv.ownBlock=ac x\/h.fv.ownBlock=ac x\/h.mv.ownBlock=ac x\/∃v,(v∈h.T\/v∈h.F)/\v.ownBlock=ac x
structure Hl(n H:Nat)(h:Hv)(P:List Nat)(w:Zy):Prop where
 b:WB w H h.ps h.m h.tv h.fv h.mv
 p:Rw w 103 1 Ka h.ps P
 t:Rw w 49 1 sh h.tv h.T
 f:Rw w 52 1 sh h.fv h.F
 m:Rw w 3 1 rk h.mv h.M
 ot:uu (λm=>bI (0<m)) (λm v=>lr 9 1 (uJ m) w v) h.T h.M
 of:uu (λm=>!bI (0<m)) (λm v=>lr 110 2 (ut<|-m) w v) h.F h.M
 tT:∀v∈h.T,∀g,v.ownBlock=ac g->Ty w g 9
 tF:∀v∈h.F,∀g,v.ownBlock=ac g->Ty w g 110
 bd:∀m∈h.M,-1000000000<=m/\m<=1000000000
 n1:h.m<=n
 n2:aa h.M<=n
 n3:aa P<=n
section
variable {n H:Nat} {h:Hv} {P:List Nat} {w w' w1:cY} {S:Nat->Prop}
def Hl.hd(l:Hl n H h P w):Ζ w h.T h.F h.M:=⟨l.ot.1,l.of.1,λi a b=>l.ot.2 i a<|jm b,λi a b=>l.of.2 i a Â,l.bd⟩
def Hl.lt(l:Hl n H h P w){x:Nat}(hx:h.cO H x):x<ak w.heap:=by obtain rfl|hx|hx|hx|hx|⟨v,a|a,hx⟩:=hx;exact l.b.lt;exact(l.p.ty hx).lt;exact(l.t.ty hx).lt;exact(l.f.ty hx).lt;exact(l.m.ty hx).lt;exact(l.tT v a x hx).lt;exact(l.tF v a x hx).lt
def Hl.y(l:Hl n H h P w)(d:zj S w w')(e:∀x,h.cO H x->¬S x){k:Nat}(hk:n<=k):Hl k H h P w':=
 have j:∀v∈h.T,∀g,v.ownBlock=ac g->¬S g:=λv c g a=>e g<|aE<|aE<|aE<|aE<|aE ⟨v,aF c,a⟩;have i:∀v∈h.F,∀g,v.ownBlock=ac g->¬S g:=λv c g a=>e g<|aE<|aE<|aE<|aE<|aE ⟨v,aE c,a⟩
 ⟨l.b.y d<|e _<|aF rfl,l.p.y d λg a=>e g<|aE<|aF a,l.t.y d λg a=>e g<|aE<|aE<|aF a,l.f.y d λg a=>e g<|aE<|aE<|aE<|aF a,l.m.y d λg a=>e g<|aE<|aE<|aE<|aE<|aF a,
  l.ot.W λm v c k=>k.y d<|j v c,l.of.W λm v c k=>k.y d<|i v c,λv c g a=>(l.tT v c g a).y d<|j v c g a,λv c g a=>(l.tF v c g a).y d<|i v c g a,l.bd,xa l.n1 hk,xa l.n2 hk,xa l.n3 hk⟩
def yv.eF{tv f l:Zv}{cs:Za}{e d g:Nat}{T:Ze}{M:List Int}(b:xh w H cs 67)(t:Rw w d 1 sh tv T)(m:Rw w 3 1 rk f M)(i:∀g,l.ownBlock=ac g->ak w.heap<=g)(a:Ty w g e)(c:e≠67/\e≠d/\e≠3):¬yv H tv f l g:=by rintro(rfl|h|h|h);exact c.1<|a.eq ⟨_,b⟩;exact c.2.1<|a.eq<|t.ty h;exact c.2.2<|a.eq<|m.ty h;exact CG _<|zm a.lt<|i g h
def Hl.PM(l:Hl n H h P w)(o:n<=1000000)(k:Θ w H h.ps h.fv h.m h.tv h.mv h.T h.M w'):∃h',Hl (n+1) H h' P w'/\zj (h.cO H) w w'/\∀x,h'.cO H x->h.cO H x\/ak w.heap<=x:=by
 obtain⟨v,w1,q,B,s,r,X,b,t,m,I,C,d,E,D,G⟩:=k;have z:=q.J;have l1:=l.y q (λ_ _=>id)<|zd n;have j:∀{g e},Ty w g e->(e≠67/\e≠49/\e≠3)->¬yv H h.tv h.mv v g:=yv.eF l.b l.t l.m B;have J:=l.n1;have K:=l.n2;have L:=l.n3;refine⟨⟨h.ps,h.m+1,s,h.fv,r,h.T++X,h.F,h.M++[(h.m:Int)+1]⟩,⟨b,l1.p.y d λg a=>j (l.p.ty a) Ã,t,l1.f.y d λg a=>j (l.f.ty a) Ã,m,(l1.ot.W λm v c k=>k.y d λg a=>j (l.tT v c g a) Ã).Ρ Â I C,(l1.of.W λm v c k=>k.y d λg a=>j (l.tF v c g a) Ã).Ga Â,λv c g a=>(je.1 c).elim (λc=>(l1.tT v c g a).y d<|j (l.tT v c g a) Ã) λc=>((C v c).lt a).2,λv c g a=>(l1.tF v c g a).y d<|j (l.tF v c g a) Ã,λm o=>(je.1 o).elim (l.bd m) λo=>Â,Â,Â,À⟩,(q.W λ_=>dI).kL d ?_, ?_⟩;rintro y (e|e|e|e);exact aF<|aF e;exact aF<|aE<|aE<|aF e;exact aF<|aE<|aE<|aE<|aE<|aF e;grind;rintro x (e|e|e|e|e|⟨u,i|i,e⟩);exact aF<|aF e;exact aF<|aE<|aF e;exact(E x e).imp (λe=>aE (aE<|aF e)) λ_=>À
 exact aF<|aE<|aE<|aE<|aF e;exact(D x e).imp (λe=>aE (aE<|aE<|aE<|aF e)) λ_=>À
 exact(je.1 i).elim (λi=>aF (aE<|aE<|aE<|aE<|aE ⟨u,aF i,e⟩)) λi=>aE ((G u i x e).elim (B x) λ_=>À);exact aF<|aE<|aE<|aE<|aE<|aE ⟨u,aE i,e⟩
def Hl.fi(l:Hl n H h P w)(o:n<=1000000)(k:Η w H h.ps h.tv h.m h.fv h.mv h.F h.M w'):∃h',Hl (n+1) H h' P w'/\zj (h.cO H) w w'/\∀x,h'.cO H x->h.cO H x\/ak w.heap<=x:=by
 obtain⟨v,w1,q,B,s,r,X,b,t,m,G,I,d,D,C,E⟩:=k;have z:=q.J;have l1:=l.y q (λ_ _=>id)<|zd n;have j:∀{g e},Ty w g e->(e≠67/\e≠52/\e≠3)->¬yv H h.fv h.mv v g:=yv.eF l.b l.f l.m B;have J:=l.n1;have K:=l.n2;have L:=l.n3;refine⟨⟨h.ps,h.m+1,h.tv,s,r,h.T,h.F++X,h.M++[-((h.m:Int)+1)]⟩,⟨b,l1.p.y d λg a=>j (l.p.ty a) Ã,l1.t.y d λg a=>j (l.t.ty a) Ã,t,m,(l1.ot.W λm v c k=>k.y d λg a=>j (l.tT v c g a) Ã).Ga Â,(l1.of.W λm v c k=>k.y d λg a=>j (l.tF v c g a) Ã).Ρ Â G λx N=>Â,λv c g a=>(l1.tT v c g a).y d<|j (l.tT v c g a) Ã,λv c g a=>(je.1 c).elim (λc=>(l1.tF v c g a).y d<|j (l.tF v c g a) Ã) λc=>((I v c).lt a).2,λm o=>(je.1 o).elim (l.bd m) λo=>Â,Â,Â,À⟩,(q.W λ_=>dI).kL d ?_, ?_⟩;rintro y (e|e|e|e);exact aF<|aF e;exact aF<|aE<|aE<|aE<|aF e;exact aF<|aE<|aE<|aE<|aE<|aF e;grind;rintro x (e|e|e|e|e|⟨u,i|i,e⟩);exact aF<|aF e;exact aF<|aE<|aF e;exact aF<|aE<|aE<|aF e;exact(D x e).imp (λe=>aE (aE<|aE<|aF e)) λ_=>À
 exact(C x e).imp (λe=>aE (aE<|aE<|aE<|aF e)) λ_=>À
 exact aF<|aE<|aE<|aE<|aE<|aE ⟨u,aF i,e⟩;exact(je.1 i).elim (λi=>aF (aE<|aE<|aE<|aE<|aE ⟨u,aE i,e⟩)) λi=>aE ((E u i x e).elim (B x) λ_=>À)
end
structure Pp where
 q:Nat
 B:Nat
 C:Nat
 r:Sr
 f:Rf
def Pp.cO(p:Pp)(x:Nat):Prop:=x=p.q\/qT p.B p.C p.r p.f x
structure Is(cv tv:Zv)(lo H n:Nat)(h:Hv)(L:List Pp)(w0 w:Zy):Prop where
 hl:Hl n H h (L.map Pp.q) w
 pr:∀p∈L,Pr n w p.q p.B p.C p.r p.f
 ap:L.Pairwise λp q=>∀x,p.cO x->¬q.cO x
 pl:∀p∈L,∀x,p.cO x->lo<=x/\¬h.cO H x
 ll:∀x,h.cO H x->lo<=x
 oi:zj (λx=>lo<=x) w0 w
 sz:lo<=ak w.heap
 g:oe cv tv w
 t2:pj lo cv tv w
 tb:Yq w
 l4:4<lo
section
variable {cv tv:dL} {lo H n k:Nat} {h h':Hv} {L:List Pp} {w0 w w':cY} {S:Nat->Prop}
def Pr.W{q B C:Nat}{r:Sr}{f:Rf}(h:Pr n w q B C r f)(hk:n<=k):Pr k w q B C r f:=⟨h.qb,h.sa,h.fa,h.tw,h.ok.W hk,h.ap,h.qn⟩
def Is.F7(i:Is cv tv lo H n h L w0 w)(a:∀x,S x->lo<=x):Ke lo cv tv S w:=λf b=>⟨i.g.y b λx c=>by have:=a x c;have:=i.l4;omega,i.t2.y b a,λj d=>b.i (λc=>by have e:lo<=2:=a _ c;have:=i.l4;omega)<|i.tb j d⟩
def Pp.lt{p:Pp}(a:Pr n w p.q p.B p.C p.r p.f){x:Nat}(hx:p.cO x):x<ak w.heap:=hx.elim (λe=>e▸a.qb.lt) λe=>a.lt e
def Is.vU(i:Is cv tv lo H n h L w0 w)(hk:n<=k)(l:Hl k H h' (L.map Pp.q) w')(c:zj (h.cO H) w w')(ho:∀x,h'.cO H x->h.cO H x\/ak w.heap<=x):Is cv tv lo H k h' L w0 w':=by obtain⟨g,f,j⟩:=i.F7 i.ll w' c;refine⟨l,λp b=>((i.pr p b).y c (λa=>(i.pl p b _<|aF rfl).2 a) λx a=>(i.pl p b x<|aE a).2).W hk,i.ap,λp b x a=>⟨(i.pl p b x a).1,λe=>?_⟩,λx a=>(ho x a).elim (i.ll x) λh=>xa i.sz h,i.oi.aA<|c.W i.ll,xa i.sz c.J,g,f,j,i.l4⟩;obtain d|d:=ho x e;exact(i.pl p b x a).2 d;have:=Pp.lt (i.pr p b) a;omega
def Is.nw(i:Is cv tv lo H n h L w0 w)(a:Nw w w')(hk:n<=k):Is cv tv lo H k h L w0 w':=i.vU hk (i.hl.y a (λ_ _=>id) hk) (a.W λ_=>dI) λ_=>aF
def Is.yK{A Z:List Pp}{p:Pp}(i:Is cv tv lo H n h (A++p::Z) w0 w)(hk:n<=k)(t:pu k p.q p.B p.C p.r p.f w w'):∃L,Is cv tv lo H k h L w0 w':=by
 obtain⟨O,N,V,v,Q⟩:=t;have J:p∈A++p::Z:=Ä
 have K:∀x,qT p.B p.C p.r p.f x->lo<=x:=λx c=>(i.pl p J x<|aE c).1;obtain⟨g,S,R⟩:=i.F7 K w' v;obtain⟨y,z,D⟩:=Y3.1 i.ap;obtain⟨E,F⟩:=Xw.1 z;let p':Pp:=⟨p.q,p.B,p.C,O,N⟩;have M:∀x,p'.cO x->p.cO x\/ak w.heap<=x:=λx c=>c.elim (λe=>aF (aF e)) λe=>(Q x e).imp aE id;have m:∀a∈A++Z,∀x,a.cO x->¬p.cO x:=λa d x c j=>(je.1 d).elim (λd=>D a d p xu x c j) λd=>E a d x j c;have s:∀a∈A++Z,a∈A++p::Z:=λa d=>Â
 have o:∀a∈A++Z,∀x,a.cO x->¬p'.cO x:=λa d x c j=>(M x j).elim (m a d x c) λh=>by have:=Pp.lt (i.pr a<|s a d) c;omega
 refine⟨A++p'::Z, ?_,λa d=>?_,Y3.2 ⟨y,Xw.2 ⟨λa d x c j=>o a (by simp[d]) x j c,F⟩,λa d b U=>?_⟩,λa d x c=>?_,i.ll,i.oi.aA<|v.W K,xa i.sz v.J,g,S,R,i.l4⟩;have l:=i.hl.y v (λx c j=>(i.pl p J x<|aE j).2 c) hk;grind;simp[je,jc]at d;have T:a∈A++Z->Pr k w' a.q a.B a.C a.r a.f:=λI=>((i.pr a<|s a I).y v (λc=>m a I _ (aF rfl)<|aE c) λx c j=>m a I x (aE c)<|aE j).W hk;grind;grind;simp[je,jc]at d;obtain h|rfl|h:=d;exact i.pl a Ĵ x c;obtain G|G:=M x c;exact i.pl p J x G;exact⟨xa i.sz G,λj=>by have:=i.hl.lt j;omega⟩;exact i.pl a Ĵ x c
def Is.Bq{o:Sp}(i:Is cv tv lo H n h L w0 w)(R:vD o.n o.m o.k o.s=aw)(t:Ŷ w H h.ps h.m h.tv h.fv h.mv (L.map Pp.q) o w'):∃h' L',Is cv tv lo H (n+1) h' L' w0 w':=by
 obtain⟨q,B,C,D,M,F,z,V,t3,W,X,Y,Z,t8,t9,T,U⟩:=t;let p:Pp:=⟨q,B,C,Sr.dT o.n o.m o.k o.s D M,Rf.cR o.n o.m o.k o.s⟩;have S:∀x,p.cO x->ak w.heap<=x/\x<=q:=λx c=>by have hB:=(t9 B<|aF rfl);obtain rfl|c|c:=c;omega;grind;grind
 have J:∀x,(x=H\/h.ps.ownBlock=ac x)->h.cO H x:=λx c=>c.elim aF λc=>aE (aF c);have I:=z.W J;obtain⟨g,tw,tb⟩:=i.F7 i.ll w' I;have E:∀{x:Nat} {e:Nat},Ty w x e->(e≠67/\e≠103)->¬(x=H\/h.ps.ownBlock=ac x):=λc K y=>y.elim (λe=>K.1<|c.eq ⟨_,e▸i.hl.b⟩) λe=>K.2<|c.eq<|i.hl.p.ty e;have l:=i.hl;have O:∀a∈L,∀x,a.cO x->x<ak w.heap:=λa d x c=>Pp.lt (i.pr a d) c;have G:=Ws.dT (n:=n+1) o.n o.m o.k o.s D M R;refine⟨{h with ps:=F},L++[p],⟨V,Â,l.t.y z λg j=>E (l.t.ty j) Ã,l.f.y z λg j=>E (l.f.ty j) Ã,l.m.y z λg j=>E (l.m.ty j) Ã,l.ot.W λm v r k=>k.y z λg j=>E (l.tT v r g j) Ã,l.of.W λm v r k=>k.y z λg j=>E (l.tF v r g j) Ã,λv r g j=>(l.tT v r g j).y z<|E (l.tT v r g j) Ã,λv r g j=>(l.tF v r g j).y z<|E (l.tF v r g j) Ã,l.bd,by have:=l.n1;grind,by have:=l.n2;grind,by have:=l.n3;grind⟩,λa d=>?_,Y3.2 ⟨i.ap,List.pairwise_singleton _ _,λa d b I x c y=>?_⟩,λa d x c=>?_,λx c=>?_,i.oi.aA<|I.W i.ll,xa i.sz I.J,g,tw,tb,i.l4⟩;obtain d|d:=je.1 d;exact((i.pr a d).y z (λc=>(i.pl a d _<|aF rfl).2<|J _ c) λx c y=>(i.pl a d x<|aE c).2<|J _ y).W<|Xu n;rw[ju.1 d];refine⟨X,Y,Z,G.1,G.2,λx c y=>?_,λc=>?_⟩;grind;obtain c|c:=c;grind;grind;grind;have N:({h with ps:=F}:Hv).cO H x->h.cO H x\/q<x:=λc=>by obtain e|e|e:=c;grind;grind;exact aF<|aE<|aE e
 obtain d|d:=je.1 d;refine⟨(i.pl a d x c).1,λy=>(N y).elim (i.pl a d x c).2 λh=>?_⟩;grind;rw[ju.1 d]at c;have Q:=S x c;refine⟨xa i.sz Q.1,λy=>(N y).elim (λh=>?_) λh=>?_⟩;have:=i.hl.lt h;omega;omega;obtain e|e|e:=c;exact i.ll x<|aF e;obtain e|e:=W x e;exact i.ll x<|aE<|aF e;have:=i.sz;omega;exact i.ll x<|aE<|aE e
end
section
open A
structure vW(lo:Nat)(w:Zy)(o:Sp)(l:FL):Prop where
 k:o.dW<=12
 a:jS o.a
 n:jS o.n
 m:jS o.m
 f:FA lo w o.f l
 l1:aa l<=100000000
 l2:∀x∈l,jS x.1/\aa x.2<=1000000000
def sS(cv tv:Zv)(lo H n:Nat)(w0:Zy)(e:kU)(w':Zy):Prop:=e=ah (aX aw)/\∃h L,Is cv tv lo H n h L w0 w'
section
variable {cv tv:dL} {lo H n:Nat} {h:Hv} {L A Z:List Pp} {p:Pp} {w0 w w':cY} {o:Sp} {l:FL}
def vW.nw(s:vW lo w o l)(b:Nw w w'):vW lo w' o l:=⟨s.k,s.a,s.n,s.m,s.f.nw b,s.l1,s.l2⟩
def xoz(i:Is cv tv lo H n h L w0 w)(f:n<120000):aG prog 49 #[zo H,bM o.G] w<|sS cv tv lo H (n+1) w0:=by cases hf:vD o.n o.m o.k o.s;exact(xj3 H o w hf).mono λe d⟨a,c⟩=>⟨a,_,_,i.nw c<|Xu n⟩;exact(xon H h.ps h.tv h.fv h.mv h.m _ o w i.hl.b i.hl.p (by have:=i.hl.n3;omega) hf).mono λe d⟨a,c⟩=>⟨a,i.Bq hf c⟩
def zy3(i:Is cv tv lo H n h (A++p::Z) w0 w)(G:n<120000)(hk:o.dW=4\/o.dW=5\/o.dW=6\/o.dW=7):aG prog 51 #[zo H,zo p.q,bM o.G] w<|sS cv tv lo H (n+1) w0:=by
 have k:=i.pr p Ä;have c:∀{e d},(e=ah (aX aw)/\pu n p.q p.B p.C p.r p.f w d)->sS cv tv lo H _ w0 e d:=λ⟨g,j⟩=>by obtain⟨l,y⟩:=i.yK (zd n) j;exact⟨g,_,l,y.nw (zj.refl _ _)<|Xu n⟩
 have a:∀{e d},(e=ah (aX aw)/\Nw w d)->sS cv tv lo H _ w0 e d:=λ⟨g,j⟩=>⟨g,_,_,i.nw j<|Xu n⟩;have E:=i.hl.n1;have F:=i.hl.n2;have v:aa h.T<=1000000000:=by rw[i.hl.ot.1];have:=J0 (λm=>bI (0<m)) h.M;omega
 obtain hk|hk|hk|hk:=hk;exact(xcu H p.q p.B p.C n p.r p.f o w k hk).mono λ_ _=>c;exact(xcr H p.q p.B p.C n p.r p.f o w k hk).mono λ_ _=>c;exact(xcs H p.q p.B p.C n p.r p.f o w k À hk).mono λ_ _=>a;cases hs:p.r.sn with|none=>exact(xct H p.q p.B p.C n p.r p.f o w k hs hk).mono λ_ _=>a|some s=>refine(zy2 H p.q p.B p.C n p.r s p.f o w h.ps h.tv h.fv h.mv h.m h.T h.M i.hl.b i.hl.t i.hl.m À v À k hs À hk).mono λe d⟨g,j⟩=>⟨g, ?_⟩;obtain⟨x,l1,z,D⟩:=i.hl.PM À j;exact⟨x,_,i.vU (Xu n) l1 z D⟩
def xjt(i:Is cv tv lo H n h (A++p::Z) w0 w)(v:n<120000):aG prog 52 #[zo H,zo p.q] w<|sS cv tv lo H (n+1) w0:=by
 have a:=i.pr p Ä;have s:=i.hl.n1;have t:=i.hl.n2;have c:aa h.F<=1000000000:=by rw[i.hl.of.1];have:=J0 (λm=>!bI (0<m)) h.M;omega
 have d:aa (tS p.f)<=1000000000:=by unfold tS;rw[jl];have:=vA a.tw.tw.gF.ne;rw[a.tw.tw.yr]at this;have:=a.ok.pE;have:=a.ok.bS;omega
 refine(xyp H p.q p.B p.C n p.r p.f w h.ps h.tv h.fv h.mv h.m h.F h.M i.hl.b i.hl.f i.hl.m À c À a a.Ε d).mono λe x⟨g,j⟩=>⟨g, ?_⟩;obtain⟨k,l1,l,o⟩:=i.hl.fi À j;exact⟨k,_,i.vU (Xu n) l1 l o⟩
def xop(i:Is cv tv lo H n h (A++p::Z) w0 w)(s:vW lo w o l):aG prog 53 #[zo p.q,o.f] w<|sS cv tv lo H (n+1) w0:=by have a:=i.pr p Ä;have k:=a.ok.bS;refine(jbt lo p.q p.B p.C n p.r p.f o.f l w a s.f s.l1 s.l2 À λy g=>(i.pl p Ä y<|aE g).1).mono λe m⟨c,d⟩=>?_;obtain⟨b,j⟩:=i.yK (zd n) d;exact⟨c,_,b,j.nw (zj.refl _ _)<|Xu n⟩
def xjd(i:Is cv tv lo H n h (A++p::Z) w0 w)(s:vW lo w o l)(O:n<120000)(hk:o.dW≠2):aG prog 54 #[zo p.q,bM o.G] w<|sS cv tv lo H (n+1) w0:=by
 have c:=i.pr p Ä;have g:∀x,qT p.B p.C p.r p.f x->lo<=x:=λx z=>(i.pl p Ä x<|aE z).1;have d:∀x,p.r.cO p.B x->lo<=x:=λx z=>g x<|aF z;have E:=i.F7 g;have b:∀{k e w'},k<=n+1->n<=k->(e=ah (aX aw)/\pu k p.q p.B p.C p.r p.f w w')->sS cv tv lo H _ w0 e w':=λJ K⟨v,y⟩=>by obtain⟨I,M⟩:=i.yK K y;exact⟨v,_,I,M.nw (zj.refl _ _) J⟩
 have a:∀{e w'},(e=ah (aX aw)/\Nw w w')->sS cv tv lo H _ w0 e w':=λ⟨v,y⟩=>⟨v,_,_,i.nw y<|Xu n⟩;by_cases G:o.dW=3;exact(xcz p.q p.B p.C n p.r p.f o w c G).mono λ_ _=>b (Xu n)<|zd n;by_cases t:o.dW=8;cases hs:p.r.sn with|none=>exact(zwb p.q p.B p.C n p.r p.f o w c hs t).mono λ_ _=>a|some s=>by_cases F:s.P=[];exact(xc2 p.q p.B p.C n p.r p.f s o w c E d i.l4 À hs F t).mono λ_ _=>b (Xu n)<|zd n;exact(xjg p.q p.B p.C n p.r p.f s o w c E d i.l4 À hs F t).mono λ_ _=>b (zd _)<|Xu n
 by_cases D:o.dW=9;by_cases L:o.n<0\/o.m<0;exact(zza p.q p.B p.C n p.r p.f o w c D L).mono λ_ _=>a;exact(xc1 p.q p.B p.C n p.r p.f o w c D ⟨À,s.n⟩ ⟨À,s.m⟩).mono λ_ _=>b (Xu n)<|zd n;by_cases j:o.dW=11;exact(xc0 p.q p.B p.C n p.r p.f o w c j).mono λ_ _=>a;have:=s.k;exact(xje p.q o w ⟨hk,G,t,D,j,À,À⟩).mono λ_ _=>a
end
variable [pn:A.Pn]
def η{cv tv:Zv}{lo H n:Nat}{w0 w':Zy}{e:kU}{t:Nat->Question->Nat}{d:Nat}:sS cv tv lo H n w0 e (re w' t d)↔sS cv tv lo H n w0 e w':=⟨λ⟨a,h,L,i⟩=>⟨a,h,L,i.nw PJ<|zd n⟩,λ⟨a,h,L,i⟩=>⟨a,h,L,i.nw (Nw.kO (zj.refl _ _) t d)<|zd n⟩⟩
def xni{cv tv:Zv}{lo H n:Nat}{h:Hv}{A Z:List Pp}{p:Pp}{w0 w:Zy}{o:Sp}{l:FL}(i:Is cv tv lo H n h (A++p::Z) w0 w)(s:vW lo w o l)(v:n<120000):CC au 54 #[zo p.q,bM o.G] w<|sS cv tv lo H (n+1) w0:=by by_cases hk:o.dW=2;have a:∀x,qT p.B p.C p.r p.f x->lo<=x:=λx b=>(i.pl p Ä x<|aE b).1;refine(xjf p.q p.B p.C n p.r p.f o w (i.pr p Ä) (i.F7 a) (λx b=>a x<|aF b) i.l4 À hk).W λe c⟨j,k⟩=>?_;obtain⟨g,y⟩:=i.yK (Xu n) k;exact⟨j,_,g,y⟩;exact JK rfl Ã Tryz.func54 rfl (λe c t d=>η.1) (λc⟨m,_⟩=>by cases m) λt d=>xjd (i.nw (Nw.kO (zj.refl _ _) t d)<|zd n) (s.nw<|Nw.kO (zj.refl _ _) t d) v hk
end
section
open A
variable [pn:A.Pn]
attribute [local go_sem] zn zg
noncomputable def DF:=Qf Tryz.f29.body
noncomputable def jfi:=Qa DF
noncomputable def jfj:=Qa<|Qb DF
noncomputable def jfk:=Qa<|Qb<|Qb DF
noncomputable def jfl:=Qa<|Qn 3 DF
noncomputable def jfm:=Qa<|Qn 4 DF
noncomputable def r29:=Qa<|Qn 5 DF
def xxr:Tryz.f29.body=ac (fO jfi<|fO jfj<|fO jfk<|fO jfl<|fO jfm<|fO r29 .ret):=Á
def tU:¬Mc au 29:=wY Ã Ã Tryz.func29
def xve{cv tv:Zv}{lo H n:Nat}{h:Hv}{L:List Pp}{w0 w:Zy}{o:Sp}{l:FL}(i:Is cv tv lo H n h L w0 w)(s:vW lo w o l)(hn:n<120000):CC au 29 #[zo H,bM o.G] w<|sS cv tv lo H (n+1) w0:=by
 have hQ:pm<|qM au cP Tryz.f29<|sS cv tv lo H (n+1) w0:=Aj λe w' t d=>η;refine CC.jK bL tU (fF rfl Tryz.func29 rfl).1 Tryz.func29 xxr ?_;rw[show Tryz.f29.ntmps=57 from rfl];generalize hPX:qM au cP Tryz.f29 (sS cv tv lo H (n+1) w0)=PX at hQ;have I:∀a w',a.defers=[]->At a 4 (aX aw)->(∃h L,Is cv tv lo H (n+1) h L w0 w')->PX .ret a w':=λa w' h1 h2 h3=>by rw[<-hPX];refine⟨h1,aX aw,λt d=>⟨t,d, ?_⟩,rfl,h3⟩;show(dX Tryz.f29 _).run prog _=_;unfold At at h2;simp[dX,Tryz.results29,go_sem,h2]
 have N:=hQ;have K:=hn;obtain⟨g,j,C,B,z,D,E,r⟩:=o;have I0:=i;have S0:=s;simp only[jd,xg,qy,iJ,jV,qu,qw,Xa,Zh,qj,qg];refine p5 tU N λw1 bj ba be bo=>?_;have N1:Nw w<|aB w1<|aq (Sp.G ⟨g,j,C,B,z,D,E,r⟩) 69:=(qm ba).aA<|zj.E _;have I1:=I0.nw N1<|zd n;have k:=S0.nw N1;have c:=xh.dT w1 (Sp.G ⟨g,j,C,B,z,D,E,r⟩) 69;generalize hb:ak w1.heap=b at c;conv=>arg 2;whnf
 go_wp2;refine be.o _ _ ?_;generalize aB w1 (aq (Sp.G ⟨g,j,C,B,z,D,E,r⟩) 69)=w2 at*;refine p5 tU N λw3 bk bb bf bh=>?_;have N3:=qm bb;replace I1:=I1.nw N3<|zd n;replace k:=k.nw N3;replace c:=c.y N3 id;have c0:=c.i (v:=zi g) 0 rfl;have Y:=c.i (v:=zi j) 1 rfl;have c2:=c.i (v:=zi C) 2 rfl;have c3:=c.i (v:=zi B) 3 rfl;have c4:=c.i (v:=zi z) 4 rfl;have c5:=c.i (v:=zs D) 5 rfl;have c6:=c.i (v:=zs E) 6 rfl;have c7:=c.i (v:=r) 7 rfl;by_cases k1:g=1
 ·subst k1;conv=>arg 2;whnf
  go_wp2;refine(xoz (o:=⟨1,j,C,B,z,D,E,r⟩) I1 K).mono ?_;rintro e w4⟨rfl,y⟩;go_wp2;exact bh.o .ret _ _ Ä<|I _ _ rfl rfl y
 have br:(g==1)=ao:=by simp[k1]
 conv=>arg 2;whnf
 go_wp2;refine bf.o _ _ ?_;refine p5 tU N λw4 bl bc bg bi=>?_;have N4:=qm bc;replace I1:=I1.nw N4<|zd n;replace k:=k.nw N4;replace c:=c.y N4 id;obtain⟨ap,cp,G⟩:=I1.hl.p.dC;rw[jl]at G;have O:ae w4 (zq H 0)=ac h.ps:=I1.hl.b.i 0 rfl;rw[G]at O;have F:=G;by_cases hL:(aa L:Int)=0
 ·have S:((aa L:Int)==0)=aw:=by simp[hL]
  conv=>arg 2;whnf
  go_wp2;exact bi.o .ret _ _ Ä<|I _ _ rfl rfl ⟨_,_,I1.nw (zj.refl _ _)<|Xu n⟩
 have S:((aa L:Int)==0)=ao:=jf.2 hL;conv=>arg 2;whnf
 go_wp2;refine bg.o _ _ ?_;refine p5 tU N λW bm bd U bp=>?_;have N5:=qm bd;replace I1:=I1.nw N5<|zd n;replace k:=k.nw N5;replace c:=c.y N5 id;have bq:Dn j (aa L)<aa L:=xy5 j À;generalize hpk:Dn j (aa L)=pk at*;have M:=hpk;obtain⟨Q,e1,q1⟩:=I1.hl.p.kq (λ_=>rfl) (i:=pk) Â F;subst e1;obtain⟨A,p,Z,T,hq⟩:∃A p Z,L=A++p::Z/\L[pk]=p:=⟨L.take pk,L[pk],L.drop<|pk+1,Ä,rfl⟩;have k0:ae W (zq Q pk)=ac (zo p.q):=by have:=q1 0 Ã;rw[yR,Yy,CD,hq]at this;exact this
 have O:ae W (zq H 0)=ac h.ps:=I1.hl.b.i 0 rfl;rw[F]at O;have Y:=c.i (v:=zi j) 1 rfl;have i0:(0:Int)<=(pk:Int):=À
 have i1:(pk:Int)<(aa L:Int):=À
 have hb:aa L<=1000000000:=by have:=I1.hl.n3;rw[jl]at this;have:=K;omega
 have HA:=k.a;have I5:Is cv tv lo H n h (A++p::Z) w0 W:=by show Is _ _ _ _ _ _ _ _ _;rw[<-T];exact I1
 clear q1 hpk T hq I1;generalize aa L=len at*;conv=>arg 2;whnf
 go_region_held3 (λw'=>ae w' (zq H 0)=ac (az (ac ⟨Q,0,ar⟩) len cp)/\ae w' (zq b 1)=ac (zi j)/\ae w' (zq Q pk)=ac (zo p.q)) (first|exact⟨O,Y,k0⟩)
  (first|(go_at_call 50;refine(xug j len À hb HA.1 HA.2 _).mono ?_;rintro e w6⟨rfl,rfl⟩;rw[M]))
 refine U.o _ _ ?_;clear U;refine p5 tU N λm bn R V x=>?_;have X:Nw W m:=(zj.refl _ W).U.aA<|qm R;replace I5:=I5.nw X<|zd n;replace k:=k.nw X;replace c:=c.y X id;have c0:=c.i (v:=zi g) 0 rfl;have Y:=c.i (v:=zi j) 1 rfl;have c2:=c.i (v:=zi C) 2 rfl;have c3:=c.i (v:=zi B) 3 rfl;have c4:=c.i (v:=zi z) 4 rfl;have c5:=c.i (v:=zs D) 5 rfl;have c6:=c.i (v:=zs E) 6 rfl;have c7:=c.i (v:=r) 7 rfl;clear R X M F O k0 i0 i1 hb HA hL S;by_cases k4:g=4\/g=5\/g=6\/g=7
 ·have J:=zy3 (o:=⟨g,j,C,B,z,D,E,r⟩) I5 K k4;obtain rfl|rfl|rfl|rfl:=k4;all_goals
   conv=>arg 2;whnf
   go_wp2;refine J.mono ?_;rintro e w8⟨rfl,y⟩;go_wp2;exact x.o .ret _ _ Ä<|I _ _ rfl rfl y
 simp only[not_or]at k4;obtain⟨n4,n5,n6,n7⟩:=k4;have e4:(g==4)=ao:=jf.2 n4;have e5:(g==5)=ao:=jf.2 n5;have e6:(g==6)=ao:=jf.2 n6;have e7:(g==7)=ao:=jf.2 n7;by_cases kA:g=10
 ·subst kA;have J:=xjt I5 K;conv=>arg 2;whnf
  go_wp2;refine J.mono ?_;rintro e w8⟨rfl,y⟩;go_wp2;exact x.o .ret _ _ Ä<|I _ _ rfl rfl y
 have eA:(g==10)=ao:=jf.2 kA;by_cases kC:g=12
 ·subst kC;have J:=xop I5 k;conv=>arg 2;whnf
  go_wp2;refine J.mono ?_;rintro e w8⟨rfl,y⟩;go_wp2;exact x.o .ret _ _ Ä<|I _ _ rfl rfl y
 have eC:(g==12)=ao:=jf.2 kC;conv=>arg 2;whnf
 go_wp2;refine V.o _ _ ?_;clear V x;have hd:=xni I5 k K;refine Yp.tI bL tU trivial ?_;conv=>arg 3;whnf
 refine Yp.gv bL tU ?_;refine sN (val:=zo p.q) tU ⟨rfl,rfl⟩ ?_;refine Vh.ea (val:=bM (Sp.G ⟨g,j,C,B,z,D,E,r⟩)) (w':=m) bL tU rfl (λt d=>⟨t,d, ?_⟩) ?_
 ·have g0:ae (re m t d) (zq b 0)=_:=c0;have Q:ae (re m t d) (zq b 1)=_:=Y;have g2:ae (re m t d) (zq b 2)=_:=c2;have g3:ae (re m t d) (zq b 3)=_:=c3;have g4:ae (re m t d) (zq b 4)=_:=c4;have g5:ae (re m t d) (zq b 5)=_:=c5;have g6:ae (re m t d) (zq b 6)=_:=c6;have g7:ae (re m t d) (zq b 7)=_:=c7;show(aL _ _).run prog _=_;simp[aL,go_sem,fe,g0,Q,g2,g3,g4,g5,g6,g7,Sp.G]
 refine Vh.kN (f:=54) (args:=#[zo p.q,bM<|Sp.G ⟨g,j,C,B,z,D,E,r⟩]) bL tU rfl rfl (λv=>Í) (fF rfl Tryz.func54 rfl) hd ?_ ?_;rotate_left;rintro ch wx⟨he,_⟩;cases he;rintro v8 w8⟨he,y⟩;cases he;refine sN (val:=aX aw) tU ⟨rfl,rfl⟩ ?_;refine Vh.nil bL tU ?_;refine Yp.wi bL tU rfl ?_;exact I _ _ rfl rfl y
end
section
open A
attribute [local go_sem] zn zg
section
variable {v:Zv} {D:List Sp}
def SL(lo:Nat)(w:Zy)(v:Zv)(D:List Sp):Prop:=∃a cap,v=az a (aa D) cap/\aa D<120000/\∀i (h:i<aa D),(∃g off,a=ac ⟨g,off,ar⟩/\g<lo/\∀j u,D[i].G[j]?=ac u->ae w (zq g<|off+i*8+j)=ac u)/\∃l,vW lo w {D[i]with dW:=0} l
variable [pn:A.Pn]
noncomputable def c8:=Qf Tryz.f8.body
noncomputable def x8a:=Qa c8
noncomputable def r8a:=Qa<|Qb c8
noncomputable def x8b:=Qa<|Qb<|Qb c8
noncomputable def x8c:=Qa<|Qn 3 c8
noncomputable def x8d:=Qa<|Qa<|Qn 4 c8
noncomputable def AA:=Ql<|Qk<|Qb<|Qa<|Qn 4 c8
noncomputable def x8e:=Qa AA
noncomputable def x8f:=Qa<|Qk<|Qa<|Qb AA
noncomputable def r8b:=Qa<|Qb<|Qk<|Qa<|Qb AA
noncomputable def Χ:=Qb<|Qb<|Qk<|Qa<|Qb AA
noncomputable def Kf:=Qb<|Qb AA
noncomputable def y8:=Qn 5 c8
def ja1:Tryz.f8.body=ac (fO x8a<|fO r8a<|fO x8b<|fO x8c<|fO (fO x8d<|.block 0<|.loop AA) y8):=Á
def xyq:AA=fO x8e (fO (.block 1<|fO x8f<|fO r8b Χ) Kf):=Á
def mO:¬Mc au 8:=wY Ã Ã Tryz.func8
def Cq(g:Nat->Zv):Za:=#[g 0,g 1,g 2,g 3,g 4,g 5,g 6,g 7,g 8,g 9,g 10,g 11,g 12,g 13,g 14,g 15,g 16,g 17,g 18,g 19,g 20,g 21,g 22,g 23,g 24,g 25,g 26,g 27,g 28,g 29,g 30,g 31,g 32,g 33,g 34,g 35,g 36,g 37,g 38,g 39,g 40,g 41,g 42,g 43]
def Gf{x:Za}(h:ak x=44):∃g,(⟨x,[]⟩:jG)=⟨Cq g,[]⟩:=by refine⟨λi=>x[i]?.getD aC, ?_⟩;congr 1;rw[show Cq (λi=>x[i]?.getD aC)=aV ((gO 44).map λi=>x[i]?.getD aC) from rfl];grind
structure uQ(v:Zv)(H j:Nat)(a:jG):Prop where
 lt:∃g,a=⟨Cq g,[]⟩
 a0:At a 0 v
 a1:At a 1<|zi 12
 a6:At a 6<|zo H
 a7:At a 7<|zi j
def uQ.PL{H j:Nat}{a:jG}(h:uQ v H j a):∃g,a=⟨Cq g,[]⟩/\g 0=v/\g 1=zi 12/\g 6=zo H/\g 7=zi j:=by obtain⟨g,rfl⟩:=h.lt;exact⟨g,rfl,ql h.a0,ql h.a1,ql h.a6,ql h.a7⟩
def Kg(a:jG):Nat:=120000-bB (bP<|a.tmps[7]?.getD aC)
def uQ.Ο{H j:Nat}{a:jG}(h:uQ v H j a):Kg a=120000-j:=by have:=h.a7;grind [At,Kg,bP]
def Gc(w:Zy)(e:kU)(w':Zy):Prop:=e=ah (zi<|-1)/\Nw w w'
def xrw{w w':Zy}{e:kU}{t:Nat->Question->Nat}{d:Nat}:Gc w e (re w' t d)↔Gc w e w':=⟨λh=>⟨h.1,zj.re h.2⟩,λh=>⟨h.1,Nw.kO h.2 t d⟩⟩
def Is.fI{cv tv:Zv}{w0 w:Zy}{H:Nat}(d:oe cv tv w)(a:pj (ak w0.heap) cv tv w)(f:Yq w)(n:Nw w0 w)(e:ak w0.heap<=H)(c:4<ak w0.heap)(b:xh w H #[az ar 0 0,zi 0,az ar 0 0,az ar 0 0,az ar 0 0] 67):Is cv tv (ak w0.heap) H 0 ⟨az ar 0 0,0,az ar 0 0,az ar 0 0,az ar 0 0,[],[],[]⟩ [] w0 w:=by refine⟨⟨b,jk _ _ _ _,jk _ _ _ _,jk _ _ _ _,jk _ _ _ _,⟨rfl,λi h=>Ê⟩,⟨rfl,λi h=>Ê⟩,λv h=>Ê,λv h=>Ê,λm h=>Ê,zd _,zd _,zd _⟩,λp h=>Ê,iN,λp h=>Ê,λx h=>?_,n.W λ_=>dI,n.J,d,a,f,c⟩;obtain rfl|h|h|h|h|⟨v,h|h,_⟩:=h;exact e;all_goals cases h
def xqx{cv tv:Zv}{w w7:Zy}{H j:Nat}{h:Hv}{L:List Pp}{a:jG}{Q:Exit->jG->Zy->Prop}(hQ:pm Q)(hf:uQ v H j a)(hj:j<=aa D)(hi:Is cv tv (ak w.heap) H j h L w w7)(hs:SL (ak w.heap) w v D)
  (hN:∀a' w' h' L',uQ v H (j+1) a'->j+1<=aa D->Is cv tv (ak w.heap) H (j+1) h' L' w w'->Q dM a' w')(hX:∀a' w',uQ v H j a'->Is cv tv (ak w.heap) H j h L w w'->Q (.exit 0) a' w'):Yp au 8 AA Q a w7:=by
 rw[xyq];obtain⟨g,rfl,e0,e1,e6,e7⟩:=hf.PL;obtain⟨av,G,rfl,hD,hS⟩:=hs;have Z:=hS;have HQ:=hQ;have HN:=hN;have HX:=hX;have nx:∀a' w',uQ (az av (aa D) G) H j a'->j<aa D->(∃h' L',Is cv tv (ak w.heap) H (j+1) h' L' w w')->Yp au 8 Kf Q a' w':=by
  rintro a' w' bi x⟨h',L',bj⟩;obtain⟨g,rfl,e0,e1,e6,e7⟩:=bi.PL;refine Dz mO HQ λp bb z bf=>?_;have s:=bj.nw (qm z)<|zd _;simp only[Cq,e0,e1,e6,e7];have i2:(j:Int)+1<=9000000000000000000:=À
  conv=>arg 2;whnf
  go_wp2;exact bf.o dM _ _<|HN _ _ _ _ ⟨Gf rfl,rfl,rfl,rfl,by unfold At;simp⟩ x s
 refine p5 mO hQ λw8 bq bc bd bg=>?_;have I8:=hi.nw (qm bc)<|zd j;simp only[Cq,e0,e1,e6,e7];by_cases x:j<aa D
 ·have i1:(j:Int)<(aa D:Nat):=by omega
  conv=>arg 2;whnf
  go_wp2;refine bd.o _ _ ?_;obtain⟨⟨r,c,rfl,hg,hc⟩,l,bk⟩:=Z j x;have HG:=hg;have HC:=hc;have HP:=bk;have Y:=x;generalize D[j]=o at*;obtain⟨B,R,V,U,S,W,X,I⟩:=o;have q:∀w',Is cv tv (ak w.heap) H j h L w w'->∀k u,(Sp.G ⟨B,R,V,U,S,W,X,I⟩)[k]?=ac u->ae w' (zq r<|c+j*8+k)=ac u:=λw' i k u hu=>i.oi.i (by show¬ak w.heap<=r;have:=HG;omega)<|HC k u hu;refine Yp.tI bL mO trivial (Yp.dB bL mO ?_);have N:=PH (HQ.mg (P:=au) (fn:=8) (y:=Kf)) (id:=1);refine p5 mO N λp bb z be bh=>?_;have s:=I8.nw (qm z)<|zd j;have c0:ae p (zq r<|c+j*8)=ac (zi B):=q p s 0 _ rfl;by_cases hk:12<B
  ·conv=>arg 2;whnf
   go_wp2;refine bh.o (.exit 1) _ _ Ä ?_;show(if 1=1 then Yp au 8 Kf Q _ p else _);rw[if_pos rfl];exact nx _ _ ⟨Gf rfl,rfl,rfl,rfl,rfl⟩ Y ⟨_,_,s.nw (zj.refl _ _)<|Xu j⟩
  conv=>arg 2;whnf
  go_wp2;refine be.o _ _ ?_;have c1:=q p s 1 _ rfl;have c2:=q p s 2 _ rfl;have c3:=q p s 3 _ rfl;have c4:=q p s 4 _ rfl;have c5:=q p s 5 _ rfl;have c6:=q p s 6 _ rfl;have c7:ae p (zq r<|c+j*8+7)=ac I:=q p s 7 _ rfl;have C:=HP;have bl:=xve (o:=⟨B,R,V,U,S,W,X,I⟩) s ⟨hk,C.a,C.n,C.m,C.f.y s.oi λ_=>id,C.l1,C.l2⟩ À;refine Yp.tI bL mO trivial ?_;conv=>arg 3;whnf
  refine Yp.gv bL mO ?_;refine sN (val:=zo H) mO ⟨rfl,rfl⟩ ?_;refine sN (val:=az (ac ⟨r,c,ar⟩) (aa D) G) mO ⟨rfl,rfl⟩ ?_;refine sN (val:=zi j) mO ⟨rfl,rfl⟩ ?_;have i2:¬(j:Int)<0:=À
  refine Vh.ea (val:=zk r<|c+j*8) (w':=p) bL mO rfl (λt d=>⟨t,d,by show(aL _ _).run prog _=_;simp[aL,go_sem,fe,i2,i1,Y]⟩) ?_;refine Vh.ea (val:=bM (Sp.G ⟨B,R,V,U,S,W,X,I⟩)) (w':=p) bL mO rfl (λt d=>⟨t,d, ?_⟩) ?_
  ·have g0:ae (re p t d) (zq r<|c+j*8)=_:=c0;have g1:ae (re p t d) (zq r<|c+j*8+1)=_:=c1;have g2:ae (re p t d) (zq r<|c+j*8+2)=_:=c2;have g3:ae (re p t d) (zq r<|c+j*8+3)=_:=c3;have g4:ae (re p t d) (zq r<|c+j*8+4)=_:=c4;have g5:ae (re p t d) (zq r<|c+j*8+5)=_:=c5;have g6:ae (re p t d) (zq r<|c+j*8+6)=_:=c6;have g7:ae (re p t d) (zq r<|c+j*8+7)=_:=c7;show(aL _ _).run prog _=_;simp[aL,go_sem,fe,g0,g1,g2,g3,g4,g5,g6,g7,Sp.G]
  refine Vh.kN (f:=29) (args:=#[zo H,bM<|Sp.G ⟨B,R,V,U,S,W,X,I⟩]) bL mO rfl rfl (λv=>Í) (fF rfl Tryz.func29 rfl) bl ?_ ?_;rotate_left;rintro ch wx⟨he,_⟩;cases he;rintro br bn⟨he,h',L',bm⟩;cases he;refine sN (val:=aX aw) mO ⟨rfl,rfl⟩ ?_;refine Vh.nil bL mO ?_;refine(show Yp au 8 Χ _ _ bn from ?_);simp only[fe,Zj,Vp,D1];refine Dz mO N λbo bp J K=>?_;have E:=bm.nw (qm J)<|zd _;have hl:=E.hl;have ST:=xqi H h'.ps h'.tv h'.fv h'.mv h'.m h'.T h'.F h'.M bo hl.b hl.t hl.f hl.m hl.hd<|by have:=hl.n2;omega
  conv=>arg 2;whnf
  go_wp2;refine ST.mono ?_;rintro e bs⟨rfl,O⟩;have ba:=E.nw O<|zd _;go_wp2;exact K.o dM _ _<|nx _ _ ⟨Gf rfl,rfl,rfl,rfl,rfl⟩ Y ⟨_,_,ba⟩
 obtain rfl:j=aa D:=À
 have i1:¬(aa D:Int)<(aa D:Nat):=À
 conv=>arg 2;whnf
 go_wp2;exact bg.o (.exit 0) _ _ Ä<|HX _ _ ⟨Gf rfl,rfl,rfl,rfl,rfl⟩ I8
def xvr{cv tv:Zv}{w:Zy}(hG:oe cv tv w)(k:pj (ak w.heap) cv tv w)(hT:Yq w)(hs:SL (ak w.heap) w v D):CC au 8 #[v,zi 12] w<|Gc w:=by
 have hQ:pm<|qM au cP Tryz.f8<|Gc w:=Aj λe b t d=>xrw;apply CC.jK bL mO (fF rfl Tryz.func8 rfl).1 Tryz.func8 ja1;rw[show Tryz.f8.ntmps=44 from rfl];generalize hPX:qM au cP Tryz.f8 (Gc w)=PX at hQ;have c:=hQ;have r:=hPX;have X:=hG;have W:=k;have HT:=hT;have Y:=hs;have n:=hG.gX;simp only[jd,xg,qy,iJ,jV,qu,qw,Xa,Zh,qj,qg];refine p5 mO c λw1 bb l J bh=>?_;have s:=qm l;have z1:=Š l;conv=>arg 2;whnf
 go_wp2;apply J.o _ _;have hh:=xn3 (X.y s λ_ x=>x.elim) (by rw[z1];exact W.y s λ_ x=>x.elim);refine Yp.tI bL mO trivial ?_;conv=>arg 3;whnf
 apply Yp.gv bL mO;refine Vh.kN bL mO rfl rfl (λv=>Í) (fF rfl Tryz.func28 rfl) hh ?_ ?_;rotate_left;rintro ch wx⟨S,_⟩;cases S;rintro v2 w2⟨S,U⟩;cases S;apply sN (val:=aX aw) mO ⟨rfl,rfl⟩;refine Vh.nil bL mO ?_;refine ?_;simp only[fe,Zj,Vp,D1];have N2:Nw w w2:=s.aA U;refine p5 mO c λw3 bc C K bi=>?_;have N3:Nw w w3:=N2.aA<|qm C;conv=>arg 2;whnf
 go_wp2;refine K.o _ _ ?_;refine p5 mO c λf bd E M bj=>?_;have Z:Nw w f:=N3.aA<|qm E;have A4:Nw f<|aB f<|aq #[az ar 0 0,zi 0,az ar 0 0,az ar 0 0,az ar 0 0] 67:=zj.E _;have B4:=xh.dT f #[az ar 0 0,zi 0,az ar 0 0,az ar 0 0,az ar 0 0] 67;conv=>arg 2;whnf
 go_wp2;refine M.o _ _ ?_;have p:=Z.aA A4;have I5:=Is.fI (X.y p λ_ x=>x.elim) (W.y p λ_ x=>x.elim) (HT.nw p) p Z.J n B4;generalize hH:ak f.heap=H at*;generalize aB f _=w5 at*;refine Yp.tI bL mO trivial ?_;refine p5 mO c.mg λw6 be F N bk=>?_;have I6:=I5.nw (qm F)<|zd 0;conv=>arg 2;whnf
 go_wp2;refine N.o _ _ ?_;refine Yp.dB bL mO ?_;have Q:=PH (c.mg (P:=au) (fn:=8) (y:=y8)) (id:=0);refine Yp.pw bL mO (by trivial) (λa b=>∃j h L,uQ v H j a/\j<=aa D/\Is cv tv (ak w.heap) H j h L w b) (λa _=>Kg a) ?_ _ _ ⟨0,_,_,⟨Gf rfl,rfl,rfl,rfl,rfl⟩,Zz _,I6⟩;rintro a w7⟨j,h,L,hf,hj,T⟩;have hI:∀a b t d,(∃j h L,uQ v H j a/\j<=aa D/\Is cv tv (ak w.heap) H j h L w (re b t d))↔(∃j h L,uQ v H j a/\j<=aa D/\Is cv tv (ak w.heap) H j h L w b):=λa b t d=>
  ⟨λ⟨j,h,L,z,k,B⟩=>⟨j,h,L,z,k,B.nw PJ<|zd _⟩,λ⟨j,h,L,z,k,B⟩=>⟨j,h,L,z,k,B.nw (Nw.kO (zj.refl _ _) t d)<|zd _⟩⟩
 have R:=xl5 Q (I:=λa b=>∃j h L,uQ v H j a/\j<=aa D/\Is cv tv (ak w.heap) H j h L w b) (m:=λa _=>Kg a) (a0:=a) (w0:=w7) hI λ_ _ _ _=>rfl;have ba:=hf.Ο;have bg:aa D<120000:=by obtain⟨_,_,_,h,_⟩:=Y;exact h
 refine xqx R hf hj T Y (λa' b h' L' o j' V=>⟨⟨_,_,_,o,j',V⟩, ?_⟩) λa' b o V=>?_;have:=o.Ο;omega;show Yp au 8 y8 PX a' b;obtain⟨g,rfl,e0,e1,e6,e7⟩:=o.PL;refine Dz mO c λw9 bf G O=>?_;have q:=V.oi.aA<|(qm G).W λ_=>dI;simp only[Cq];conv=>arg 2;whnf
 go_wp2;refine O.o .ret _ _ ?_;rw[<-r];refine⟨rfl,zi<|-1,λt d=>⟨t,d, ?_⟩,rfl,q.os,q.cM,q.J,λi T _=>q.dB i T À⟩;simp[dX,Tryz.results8,go_sem]
end
end
section
open A
variable [pn:A.Pn]
noncomputable def c3:=Qf Tryz.f3.body
noncomputable def x3a:=Qa c3
noncomputable def r3:=Qa<|Qb c3
theorem ja0:Tryz.f3.body=ac c3:=Á
def jaz:c3=fO x3a (fO r3 .ret):=Á
theorem xD:¬Mc au 3:=wY Ã Ã Tryz.func3
theorem xl0{cv tv:Zv}{w:Zy}{v:Zv}{D:List Sp}(k:oe cv tv w)(j:pj (ak w.heap) cv tv w)(l:Yq w)(o:SL (ak w.heap) w v D):
  Yp au 3 c3 (qM au cP mn<|Cr w) ⟨#[v]++bV (Tryz.f3.ntmps-#[v].size) aC,[]⟩ w:=by
 have h:pm<|qM au cP mn<|Cr w:=Aj λe w' t d=>θ;rw[jaz,show Tryz.f3.ntmps=6 from rfl];generalize hPX:qM au cP mn _=PX at h;have n:=xvr k j l o;refine p5 xD h λw1 i a b m=>?_;conv=>arg 2;whnf
 go_wp2;apply b.o _ _;have c:=a.cc n;refine Yp.tI bL xD trivial ?_;conv=>arg 3;whnf
 apply Yp.gv bL xD;apply sN xD ⟨rfl,rfl⟩;refine Vh.kN bL xD rfl rfl (λv=>Í) (fF rfl Tryz.func8 rfl) c ?_ ?_;rotate_left;rintro ch r⟨f,_⟩;cases f;rintro q p⟨f,g⟩;cases f;apply Vh.ea (val:=aX aw) (w':=p) bL xD rfl λt d=>⟨t,d,Õ⟩;apply sN xD ⟨rfl,rfl⟩;apply Vh.nil bL xD;apply Yp.wi bL xD rfl;rw[<-hPX];refine⟨rfl,aX aw,λt d=>⟨t,d, ?_⟩,rfl,g⟩;simp[dX,Tryz.results3,go_sem,fe]
end
end P
namespace A
open Go Go.Conc
section
variable [pn:Pn]
section
variable {Post:Zv→Zy→Prop}
section
variable {P:bT} {F:Array jE} {X:Nat->Prop}
def xO.Ck{g:Zg}{w:Zy}{m:Machine}{t:fG}(T:xO P X g w m t)
  (h:∀u:Zy,Sm P X (A.re w u.tape u.drawn) u->∃val es u',bF P aw g u=gq (.done val) u' es/\(∀e∈es,yZ X (ak u.heap) e)/\Post val u'):
  ∃N last o w' t',eT P (N+1) m t=(kW o w',t')/\runN P N m=fS last/\step P last=kW o w'/\mX P Post last o w' t':=by
 obtain⟨⟨c,v,sl,k,rfl,r,s,F⟩,ok,f,J⟩:=T;refine run_of_inv AQ (λk m t=>∃(c:Array _) (v:Zy) (sl:Option _),m=fL c v sl/\c[0]?=ac g/\JL P X k c v t/\Sm P X (A.re w v.tape v.drawn) v) _ ?_ k _ _ ⟨c,v,sl,rfl,r,s,F⟩;clear s F r;rintro k m t⟨c,v,sl,rfl,r,s,F⟩;have I:∀g∈c,awake g:=by intro b l;obtain⟨i,G,rfl⟩:=Xd.1 l;obtain rfl|a:=jh i;grind [mW];exact Yl.iS k c v t s i _ a<|xy G
 obtain⟨i,b,d,E,G,l,D⟩:=crowd_pick (P:=P) (w:=v) (sl:=sl) I ⟨0,g,r,f⟩;have y:=Yl.fZ k c v t d s;have B:Sm P X (A.re w v.tape d)<|v.at d:=F.re _ d;obtain rfl|a:=jh i;obtain rfl:b=g:=Â
 obtain⟨val,es,u',C,K,n⟩:=h (v.at d) B;have p:=runT_many_ended (sl:=E) G (show bF P _ b _=_ from C);obtain⟨q,Q,S,rfl⟩:=y;have z:=S.cO (fn:=b.frame.fn) (pos:=b.frame.place) K;refine aF ⟨_,_,_,D.trans p,val,rfl,n,z.fM,z.lC,⟨λx L=>?_,rfl⟩,λj x L R=>?_⟩;obtain⟨j,R⟩:=List.mem_iff_getElem?.1 L;rw[List.getElem?_drop]at R;exact⟨_,(Q.old (1+j) x À<|by grind [fL]).leaves⟩;have V:=Q.old j x À L;refine⟨q j, ?_⟩;have e:(t++aS 0 b.frame.fn b.frame.place es).deaf j (ak (t++aS 0 b.frame.fn b.frame.place es))=Deaf t j:=
  cU t (g':=0) À _ (λop U=>Ö)
 rw[e];exact V.hears _;obtain⟨H,v',O,M,W,Y,Z,r3,r4,r5⟩:=Yl.dE k c (v.at d) t i b g E y a G l r f J;exact aE ⟨_,M,W,D.trans Y,Z,H,v',O,rfl,r3,r4,r5 w B⟩
def xkj(B:Nat):sZ X B #[]:=
 ⟨past_nil.clean,λi a b c=>by grind [li,Trace.act?],past_nil.over,past_nil.hears,λi a b=>by grind [li,Trace.act?]⟩
def xjj{b:Nat}{m m1:Machine}{t a:fG}(c:eT P b m t=(fS m1,a))(h:∃N last o w' t',eT P (N+1) m1 a=(kW o w',t')/\runN P N m1=fS last/\step P last=kW o w'/\mX P Post last o w' t'):
  ∃N last o w' t',eT P (N+1) m t=(kW o w',t')/\runN P N m=fS last/\step P last=kW o w'/\mX P Post last o w' t':=by
 obtain⟨N,last,o,w',t',d,g,e,f⟩:=h;refine⟨b+N,last,o,w',t', ?_, ?_,e,f⟩;rw[D'];exact qr c d;have i:(eT P (b+N) m t).1=(eT P N m1 a).1:=by rw[qr c (r:=(eT P N m1 a)) rfl]
 grind [runNT_fst]
theorem zxv(K:Yk P F){f:FuncId}{args:Za}{fnc:jE}{c:nW}{R:kU->Zy->Prop}(Z:¬Mc P f)(B:Vi P F f)(H:P.funcs[f]?=ac fnc)(L:fnc.body=ac c)
  {w v0:Zy}(h:Yp P f c (qM P F fnc R) ⟨args++bV (fnc.ntmps-ak args) aC,[]⟩ w)(q:∀ch w',¬R (gU ch) w')(hS:Sm P X (A.re w v0.tape v0.drawn) v0):
  ∃N last o w' t',eT P (N+1) (solo (G (aT P f args cJ) []) v0) #[]=(kW o w',t')/\runN P N (solo (G (aT P f args cJ) []) v0)=fS last/\step P last=kW o w'/\
   mX P (λval u=>∃X' w',(∀x,X x->X' x)/\R (ah val) w'/\Sm P X' (A.re w' u.tape u.drawn) u) last o w' t':=by
 have s:aT P f args cJ=(aT P f args cJ).at ⟨args++bV (fnc.ntmps-ak args) aC,[]⟩ [cD c]:=by simp[aT,Frame.at,H,L]
 have Q:(wf P F).funcs[f]?=ac fnc:=by show F[f]?=_;rw[B.1];exact H
 have z:Jy P<|Frame.enter P f args cJ:=by
  have e:aT (wf P F) f args cJ=aT P f args cJ:=by simp[aT,Q,H]
  rw[<-e];exact Lj K.na B Z args ⟨Ä,Ä⟩
 have hi:P.inits.idxOf? f=ar:=z.kG;have hb:xO P X (Xh (aT P f args cJ) []) w (solo (G (aT P f args cJ) []) v0) #[]:=
  ⟨⟨#[Xh _ []],v0,ar,_,rfl,rfl,⟨λ_=>0,⟨λi g hi hg=>Â,λj hj=>rfl⟩,xkj _,rfl⟩,hS⟩,⟨aE z,λc L=>by cases L⟩,rfl,rfl⟩
 let At:Zg->Zy->Prop:=λg' w'=>∃(a:jG) (b:List Item) (val:Zv),g'=Xh {(aT P f args cJ).at a b with mode:=dN} []/\a.defers=[]/\(∀t d,∃t' d',(dX fnc a.tmps).run (wf P F) (A.re w' t d)=cT val (A.re w' t' d'))/\R (ah val) w';have T:RX P (Xh (aT P f args cJ) []) w At:=by
  rw[s];refine h (aT P f args cJ) [] [] _ rfl rfl (λe E w' k=>?_) λe E w' g' k n=>?_;cases e with
  |normal=>trivial|ret=>exact k.1
  |panic ch=>exact k.1|exit id=>exact k.2.elim
  |goto l=>exact k.2.elim|outgrown=>exact k.2.elim
  cases e with
  |normal=>
   obtain⟨_,rfl⟩:=n;obtain⟨hd,v,C,q⟩:=k;refine RX.eO K (g':=Xh {(aT P f args cJ).at E []with mode:=dN} []) Z (λv=>?_) rfl rfl rfl<|.refl ⟨E,[],v,rfl,hd,C,q⟩;simp[bF,Xh,Frame.at,aD]
  |ret=>
   obtain⟨_,b,rfl⟩:=n;obtain⟨hd,v,C,q⟩:=k;exact .refl ⟨E,b,v,rfl,hd,C,q⟩
  |panic ch=>exact(q ch w' k.2).elim|exit id=>exact k.2.elim
  |goto l=>exact k.2.elim|outgrown=>exact k.2.elim
 obtain⟨N,m',t',X',g',w',Y,x1,b1,a,b,val,rfl,hd,C,J⟩:=T X _ _ hb;refine xjj Y<|b1.Ck λu r=>?_;obtain⟨t1,W,D⟩:=C u.tape u.drawn;obtain⟨p,m,I⟩:=(GJ (P:=P) (F:=F) (X:=X') fnc a.tmps).lV _ u #[] r (by rw[D];trivial);rw[D]at I;have U:Sm P X' (A.re w' t1 W) p:=I.sm;have V:ak p.heap=ak u.heap:=U.J.trans r.J.symm;refine⟨val,seen P f (#[]++m)++#[],p, ?_,λe s=>?_,X',w',x1,J, ?_⟩;have S:(dX fnc a.tmps).runT P u #[]=(cT val p,#[]++m):=I.eq;have y:=GH (fr:={(aT P f args cJ).at a b with mode:=dN}) (by simp[aT,Frame.at]) hi val p;show cW P aw {(aT P f args cJ).at a b with mode:=dN} [] ar u=_;have M:({(aT P f args cJ).at a b with mode:=dN}:Zf).defers=[]:=hd;have O:P.funcs[({(aT P f args cJ).at a b with mode:=dN}:Zf).fn]?=ac fnc:=H;unfold cW;rw[M];simp only[O];rw[show(dX fnc ({(aT P f args cJ).at a b with mode:=dN}:Zf).tmps).runT P u #[]=(cT val p,#[]++m)from S];simp only[y];rfl;have s:e∈seen P f (#[]++m):=by simpa using s
 have:=I.qV e (by simpa using mem_seen s);rw[V]at this;exact .sX this;have Y:p.tape=t1:=U.ms;have e2:p.drawn=W:=U.fZ;grind
end
end
end
end A
namespace P
open Go.RowKit A
section
open Go Go.Conc
section
variable {v:Zy}
def PQ:Obj->Bool
 | .pending ..=>aw| .deferred _=>aw
 | .loop _=>aw|_=>ao
def DI(j:Nat):Obj:= .chan j #[] ao 0 0 ao
def fM(j:Nat)(o:Obj):Obj:=if PQ o=aw then DI j else o
def sw(j:Nat)(v:Zy):Zy:={v with heap:=v.heap.map<|fM j}
def X0(v:Zy)(r:Nat):Prop:=∃o,v.heap[r]?=ac o/\PQ o=aw
abbrev sR(v:Zy):Pn:=⟨⟨ak v.heap,λr=>v.heap[r]?⟩⟩
section
variable {j r:Nat} {v:cY}
theorem Ge:(sw j v).heap[r]?=(v.heap[r]?).map (fM j):=by simp[sw]
theorem DH:ak (sw j v).heap=ak v.heap:=by simp[sw]
theorem PV(h:¬X0 v r):(sw j v).heap[r]?=v.heap[r]?:=by rw[Ge];cases e:v.heap[r]?with|none=>rfl|some o=>have:¬PQ o=aw:=λa=>h ⟨o,e,a⟩;simp[fM,this]
theorem Ϲ(h:X0 v r):(sw j v).heap[r]?=ac (DI j):=by obtain⟨o,e,a⟩:=h;grind [Ge,fM]
theorem DG{a:Addr}{x:Zv}(h:ae v a=ac x):ae (sw j v) a=ac x:=by
 obtain⟨f,e,i,d,_⟩:=A.mi (pn:=sR v) (py:=⟨132⟩) h;have g:¬X0 v a.block:=by rintro⟨o,b,c⟩;rw[d]at b;cases b;cases c
 grind [PV,ae]
def sm0(P:Zp):Sm (pn:=sR v) P (X0 v) (A.re (sw j v) v.tape v.drawn) v:=by refine @Sm.mk (sR v) P (X0 v) _ v DH.symm (λr a=>(PV a).symm) (λr a=>?_) (λr=>?_) rfl rfl rfl rfl ⟨Nat.le_of_eq DH.symm,λr _ _=>aF rfl⟩;have b:=Ϲ (j:=j) a;obtain⟨o,e,c⟩:=a;exact⟨DI j,o,b,e,aF ⟨rfl,by cases o<;>first|rfl|cases c⟩⟩;show A.iR P (sw j v).heap[r]?;rw[Ge];cases v.heap[r]?with|none=>exact .kZ|some o=>cases o<;>exact⟨λ_ _ h=>Ê,λ_ h=>Ê,λ_ h=>Ê⟩
end
def oe.su{cv tv:Zv}(h:oe cv tv v)(j:Nat):oe cv tv<|sw j v:=by obtain⟨⟨t,x,a,b⟩,⟨g,k,c,d⟩,e⟩:=h;exact⟨⟨t,x,a,DG b⟩,⟨g,k,c,DG d⟩,λi f=>DG<|e i f⟩
def FA.su{x:Zv}{l:FL}(h:FA (ak v.heap) v x l)(j:Nat):FA (ak v.heap) (sw j v) x l:=by obtain⟨a,b,c,d,e⟩:=h;refine⟨a,b,c,d,λi f=>?_⟩;grind [DG]
def SL.su{x:Zv}{D:List Sp}(h:SL (ak v.heap) v x D)(j:Nat):SL (ak (sw j v).heap) (sw j v) x D:=by obtain⟨a,b,o,p,q⟩:=h;rw[DH];refine⟨a,b,o,p,λi t=>?_⟩;obtain⟨⟨g,d,e,r,c⟩,l,s⟩:=q i t;exact⟨⟨g,d,e,r,λj u w=>DG<|c j u w⟩,l,s.k,s.a,s.n,s.m,s.f.su j,s.l1,s.l2⟩
def pj.su{cv tv:Zv}(h:pj (ak v.heap) cv tv v)(j:Nat):pj (ak (sw j v).heap) cv tv<|sw j v:=by obtain⟨a,b,c,d,n,o,e,f,g,l,m,i,k⟩:=h;rw[DH];exact⟨a,b,c,d,n,o,e,f,g,l,m,by rw[Ge,i];rfl,by rw[Ge,k];rfl⟩
def PR{P:Zp}{o:Outcome}{w:Zy}{a:fG}:∀{n:Nat} {m:Machine} {t:fG},eT P n m t=(kW o w,a)->∀k,eT P (n+k) m t=(kW o w,a)
 |0,m,t,h,k=>by simp[eT]at h|n+1,m,t,h,k=>by rw[Nat.add_right_comm];unfold eT at h⊢;split at h;exact PR h k;omega
def PO(v u:Zy):Prop:=u.os=v.os/\u.output=v.output/\ak v.heap<=ak u.heap/\∀r,r<ak v.heap->u.heap[r]?=v.heap[r]?
def xia{cv tv:Zv}(x:Zv)(B:List Sp)(J:oe cv tv v)(p:pj (ak v.heap) cv tv v)(K:Yq v)(q:SL (ak v.heap) v x B):
  ∃N last o w' t',eT au (N+1) (solo (G (aT au 3 #[x] cJ) []) v) #[]=(kW o w',t')/\runN au N (solo (G (aT au 3 #[x] cJ) []) v)=fS last/\step au last=kW o w'/\
   mX au (λval u=>val=aX aw/\PO v u) last o w' t':=by
 have g:∀j,_:=λj=>zxv (pn:=sR v) (bL (pn:=sR v)) (xD (pn:=sR v)) (fF (pn:=sR v) rfl Tryz.func3 rfl) Tryz.func3 (ja0 (pn:=sR v)) (xl0 (pn:=sR v) (J.su j) (p.su j) (λi L=>DG<|K i L)<|q.su j) (λch w' h=>by cases h.1)<|sm0 au;obtain⟨N,last,o,w',t',t,D,E,val,rfl,⟨T,w1,R,b,l⟩,F⟩:=g 0;obtain⟨C,s,o2,a,Q,H,V,W,z,rfl,⟨U,w2,S,p,O⟩,X⟩:=g 1;obtain rfl:a=w':=by have Y:=PR t<|C+1;have Z:=PR H<|N+1;grind
 have f:∀{j:Nat} {k:ZP} {m:Zy},(∀r,X0 v r->k r)->Nw (sw j v) m->Sm (pn:=sR v) au k (A.re m a.tape a.drawn) a->∀r,r<ak v.heap->a.heap[r]?=v.heap[r]?\/(X0 v r/\a.heap[r]?=ac (DI j)):=by
  intro j k m hx M y r c;have I:=M.dB r (by rw[DH];exact c) id;have d:a.heap[r]?=m.heap[r]?->a.heap[r]?=v.heap[r]?\/(X0 v r/\a.heap[r]?=ac (DI j)):=λe=>by grind [Ϲ,PV]
  obtain n|n:=Classical.em (k r);rcases(Sm.pf (pn:=sR v) y).2 r n c with e|e;exact aF e;exact d e;exact d<|Sm.out (pn:=sR v) y r n
 refine⟨N,last,_,a,t',t,D,E,val,rfl,⟨?_, ?_, ?_, ?_,λr c=>?_⟩,F⟩;have:=b.1;grind;exact(Sm.os (pn:=sR v) l).trans b.2.os;exact(Sm.cM (pn:=sR v) l).trans b.2.cM;have e0:=Sm.J (pn:=sR v) l;have I:ak a.heap=ak w1.heap:=e0;have e2:=b.2.J;grind [DH];obtain e|⟨h0,e⟩:=f R b.2 l r c;exact e;obtain w|⟨_,w⟩:=f S p.2 O r c;exact w;grind [DI]
end
end
section
open Go.ChangeShapes Go.WideShapes
open Rows (uptoBulk uptoBulkAll)
def PT{H:Type}:∀{ds:List<|DataW H} {d:DataW H},d∈ds->uptoBulk d<=uptoBulkAll ds
 |[],_,h=>Ê
 |e::ds,d,h=>by unfold uptoBulkAll;obtain rfl|h:=jc.1 h;omega;have:=PT h;omega
theorem xm9{H:Type}(d:DataW H):1<=uptoBulk d:=by
 cases d
 case lit l=>cases l<;>simp[uptoBulk]
 all_goals simp[uptoBulk]
def κ{H:Type}{c:Nat}:∀{ds:List<|DataW H},(∀d∈ds,c<=uptoBulk d)->c*aa ds<=uptoBulkAll ds
 |[],_=>by simp|e::ds,h=>by unfold uptoBulkAll;have a:=h e xu;have b:=κ λd hd=>h d<|jw _ hd;grind [Nat.mul_add]
def μ:Tryz.prog.cellsOf 110=2:=Á
def Ω:Tryz.prog.cellsOf 69=8:=Á
def PU{w:Zy}{base:Nat}{a:Addr}{n:Nat}{cs:Ze}(h:w.cells? base a n=ac cs)(i:Nat)(c:i<n):∃v,cs[i]?=ac v/\ae w (a.add i)=ac v:=by
 unfold World.cells? at h;split at h;obtain⟨b,d,e⟩:=Lib.mapM_at h i i<|by simp[c]
 grind;grind
def Ϻ(s:ByteArray):st (ej s.data)=s:=by cases s;simp[st]
def Kh{n:Int}(h:(Lit.int aU n).wf=aw):jS n:=by simp only[Lit.wf,jy,Y8]at h;exact h
section
variable {H:Type} {enc:nt×dL->H} {W:cY} {fuel:Nat} {x:DataW H×List MemPlace}
def xkc{a:Addr}{cs:Ze}(i:W.cells? 0 a 2=ac cs)(p:lZ enc au W 0 (λ_=>aw) aw fuel 110 cs=ac x):
  ∃g off,∃y:Int×Zl,a=⟨g,off,ar⟩/\ae W ⟨g,off,ar⟩=ac (aH aU y.1)/\ae W ⟨g,off+1,ar⟩=ac (aj<|st y.2)/\jS y.1/\aa y.2+1<=uptoBulk x.1:=by
 obtain⟨v,e0,f⟩:=PU i 0 Ã;obtain⟨w,h,l⟩:=PU i 1 Ã;obtain⟨t,n,_,rfl,j,d,c⟩:=DataW.trod_struct Tryz.underlying110 p;rw[μ]at j
 match cs,j with
 |[u0,u1],_=>
  match t,d with
  |[x0,x1],_=>
   have m:=c 0 _ rfl;have o:=c 1 _ rfl;simp only[qh,Jm,xj]at e0 h;obtain⟨k,hk,rfl,r⟩:=CJ gI m;obtain⟨s,q,rfl,_⟩:=DataW.trod_string oN o;cases hk;cases q;subst e0;subst h;obtain⟨g,off,e⟩:=a;have b:e=ar:=by simpa[Addr.add]using World.cell?_spot f
   subst b;rw[zaa]at f l;exact⟨g,off,(k,ej s.data),rfl,f,by rw[Ϻ];exact l,Kh r,by grind [uptoBulk,uptoBulkAll]⟩
def Ψ{α:Type}{t e k:Nat}(M:Tryz.prog.underlying t=ac (.slice e))(hk:Tryz.prog.cellsOf e=k)(At:Nat->Nat->α->Prop)(ok:α->DataW H->Prop)
  (w:∀{fuel:Nat} {a:Addr} {cs:Ze} {x:DataW H×List MemPlace},W.cells? 0 a k=ac cs->lZ enc au W 0 (λ_=>aw) aw fuel e cs=ac x->∃g off y,a=⟨g,off,ar⟩/\g<ak W.heap/\At g off y/\ok y x.1)
  {v:Zv}(K:lZ enc au W 0 (λ_=>aw) aw fuel t [v]=ac x):
  ∃(a:Option Addr) (cap:Nat) (l:List α),v=az a (aa l) cap/\(a=ar->cap=0/\l=[])/\∃ds:List<|DataW H,aa ds=aa l/\uptoBulkAll ds<=uptoBulk x.1/\∀i (h:i<aa l),(∃g off,a=ac ⟨g,off,ar⟩/\g<ak W.heap/\At g (off+i*k) l[i])/\∃d,ds[i]?=ac d/\ok l[i] d:=by
 obtain⟨c,_⟩|⟨a,m,cap,b,D,n,_,c,rfl,_,Q,R,C,s,_,_⟩:=DataW.trod_slice M K;cases c;exact⟨ar,0,[],rfl,λ_=>⟨rfl,rfl⟩,[],rfl,by simp[uptoBulkAll],λi h=>by simp at h⟩;cases c;have j:∀i,i<m->∃g off y,a.add (i*k)=⟨g,off,ar⟩/\g<ak W.heap/\At g off y/\∃d,(b.map (·.1))[i]?=ac d/\ok y d:=by
  intro i o;have B:=s i o;have p:i<aa b:=À
  rw[hk,Jc p,Option.bind_eq_some_iff]at B;obtain⟨cs,c,N⟩:=B;obtain⟨g,off,y,F,G,I,J⟩:=w c N;exact⟨g,off,y,F,G,I,_,by rw[List.getElem?_map,Jc p];rfl,J⟩
 have f:∀i,i<m->∃y,(∃g off,ac a=ac ⟨g,off,ar⟩/\g<ak W.heap/\At g (off+i*k) y)/\∃d,(b.map (·.1))[i]?=ac d/\ok y d:=by
  intro i o;obtain⟨E,O,_,q,_⟩:=j 0 À;rw[Nat.zero_mul]at q;have q:a=⟨E,O,ar⟩:=by simpa[Addr.add]using q
  subst q;obtain⟨g,off,y,z,L,r,hd⟩:=j i o;rw[zaa]at z;cases z;exact⟨y,⟨_,_,rfl,L,r⟩,hd⟩
 refine⟨ac a,cap,List.ofFn λi:Fin m=>nO<|f i i.2,Â,λh=>Ê,b.map (·.1),Â,by grind [uptoBulk],λi o=>?_⟩;rw[List.length_ofFn]at o;rw[List.getElem_ofFn];exact KZ<|f i o
theorem ϻ{α:Type}{l:List α}{a:List<|DataW H}{ok:α->DataW H->Prop}{c:Nat}(b:aa a=aa l)(h:∀i (h:i<aa l),∃d,a[i]?=ac d/\ok l[i] d)(e:∀y d,ok y d->c<=uptoBulk d):c*aa l<=uptoBulkAll a:=by rw[<-b];refine κ λd hd=>?_;grind [List.mem_iff_getElem?]
def xd1{v:Zv}(n:lZ enc au W 0 (λ_=>aw) aw fuel 52 [v]=ac x)(hx:uptoBulk x.1<=100000000):
  ∃l,FA (ak W.heap) W v l/\aa l<=100000000/\∀y∈l,jS y.1/\aa y.2<=1000000000:=by
 obtain⟨a,j,l,k,f,s,m,p,e⟩:=Ψ Tryz.underlying52 μ (λg b (y:Int×Zl)=>ae W (zq g b)=ac _/\ae W (zq g<|b+1)=ac _) (λy d=>jS y.1/\aa y.2+1<=uptoBulk d) (λq n=>by obtain⟨g,b,y,k,f,m,p,e⟩:=xkc q n;exact⟨g,b,y,k,js f,⟨f,m⟩,p,e⟩) n;have z:=ϻ (c:=1) (ok:=λ(y:Int×Zl) d=>jS y.1/\aa y.2+1<=uptoBulk d) m (λi h=>(e i h).2) λy d h=>À
 refine⟨l,⟨a,j,k,f,λi o=>(e i o).1⟩,À,λy r=>?_⟩;obtain⟨i,o,rfl⟩:=List.mem_iff_getElem.1 r;obtain⟨d,hd,t,w⟩:=(e i o).2;have:=PT<|List.mem_of_getElem? hd;grind
def xkd{a:Addr}{cs:Ze}(I:W.cells? 0 a 8=ac cs)(J:lZ enc au W 0 (λ_=>aw) aw fuel 69 cs=ac x):
  ∃g off,∃o:Sp,a=(zq g off)/\g<ak W.heap/\(∀j u,o.G[j]?=ac u->ae W (zq g<|off+j)=ac u)/\9<=uptoBulk x.1/\(uptoBulk x.1<=100000000->∃l,vW (ak W.heap) W {o with dW:=0} l):=by
 have m:=λi K=>PU I i K;obtain⟨xs,n,_,rfl,k,d,b⟩:=DataW.trod_struct Tryz.underlying69 J;rw[Ω]at k
 match cs,k with
 |[u0,u1,u2,u3,u4,u5,u6,u7],_=>
  match xs,d with
  |[x0,x1,x2,x3,x4,x5,x6,x7],_=>
   have z:=b 0 _ rfl;have B:=b 1 _ rfl;have C:=b 2 _ rfl;have D:=b 3 _ rfl;have E:=b 4 _ rfl;have F:=b 5 _ rfl;have G:=b 6 _ rfl;have H:=b 7 _ rfl;obtain⟨N,e0,rfl,w0⟩:=CJ gI z;obtain⟨O,q,rfl,w1⟩:=CJ gI B;obtain⟨Q,r,rfl,Y⟩:=CJ gI C;obtain⟨R,s,rfl,Z⟩:=CJ gI D;obtain⟨S,t,rfl,w4⟩:=CJ gI E;obtain⟨V,w,rfl,_⟩:=DataW.trod_string oN F;obtain⟨X,y,rfl,_⟩:=DataW.trod_string oN G;cases e0;cases q;cases r;cases s;cases t;cases w;cases y;have f:=H;obtain⟨g,off,e⟩:=a;obtain⟨v0,-,p⟩:=m 0 Ã;have c:e=ar:=by simpa[Addr.add]using World.cell?_spot p
   subst c;refine⟨g,off,⟨N,O,Q,R,S,ej V.data,ej X.data,u7⟩,rfl,js p,λj u h=>?_, ?_,λM=>?_⟩;unfold Sp.G at h;simp only[Ϻ]at h;have L:=(za.1 h).1;obtain⟨v,h1,h2⟩:=m j L;grind [zaa];simp[uptoBulk,uptoBulkAll];grind [xm9];obtain⟨l,l1,T,U⟩:=xd1 f (by simp[uptoBulk,uptoBulkAll]at M;omega);exact⟨l,Â,Kh w1,Kh Y,Kh Z,l1,T,U⟩
def xap{v:Zv}(n:lZ enc au W 0 (λ_=>aw) aw fuel 22 [v]=ac x)(hx:uptoBulk x.1<=1048576):∃D,SL (ak W.heap) W v D:=by obtain⟨a,f,l,k,p,t,m,q,e⟩:=Ψ Tryz.underlying22 Ω (λg b (o:Sp)=>∀j u,o.G[j]?=ac u->ae W (zq g<|b+j)=ac u) (λo d=>9<=uptoBulk d/\(uptoBulk d<=100000000->∃l,vW (ak W.heap) W {o with dW:=0} l)) (λs n=>by obtain⟨g,b,y,k,p,m,q,e⟩:=xkd s n;exact⟨g,b,y,k,p,m,q,e⟩) n;have B:=ϻ (c:=9) (ok:=λ(o:Sp) d=>9<=uptoBulk d/\(uptoBulk d<=100000000->∃l,vW (ak W.heap) W {o with dW:=0} l)) m (λi h=>(e i h).2) λy d h=>h.1;refine⟨l,a,f,k,À,λi r=>⟨(e i r).1, ?_⟩⟩;obtain⟨d,hd,w,z⟩:=(e i r).2;have:=PT<|List.mem_of_getElem? hd;grind
end
end
section
open Go.ChangeShapes Go.WideShapes Go.ChangeAt Go.Conc
open Go.ChangeMaps (open_string shut_string)
theorem cO:ownKnob Tryz.prog.godebug=ar:=Á
def xth:laidOutB au=aw:=Á
def Υ:Tryz.prog.globalNamed "coffer/prim.roundWords"=ac 4:=Á
def xn0:(Tryz.prog.globals[4]?).map (·.type)=ac 336:=Á
def zQA:Tryz.prog.globalNamed "coffer/cofferref.roots"=ac 2:=Á
def xjp:(Tryz.prog.globals[2]?).map (·.type)=ac 336:=Á
def Τ:Tryz.prog.globalNamed "coffer/disk.ErrCrashed"=ac 0:=Á
def xnz:(Tryz.prog.globals[0]?).map (·.type)=ac 169:=Á
def Φ:Tryz.prog.globalNamed "coffer/coffer.errTampered"=ac 1:=Á
def xn1:(Tryz.prog.globals[1]?).map (·.type)=ac 169:=Á
def ι:Tryz.prog.cellsOf 336=64:=Á
def ν:Tryz.prog.cellsOf 243=1:=Á
def Ki:List Int:=[1116352408,1899447441,3049323471,3921009573,961987163,1508970993,2453635748,2870763221,3624381080,310598401,607225278,1426881987,1925078388,2162078206,2614888103,3248222580,3835390401,4022224774,264347078,604807628,770255983,1249150122,1555081692,1996064986,2554220882,2821834349,2952996808,3210313671,3336571891,3584528711,113926993,338241895,666307205,773529912,1294757372,1396182291,1695183700,1986661051,2177026350,2456956037,2730485921,2820302411,3259730800,3345764771,3516065817,3600352804,4094571909,275423344,430227734,506948616,659060556,883997877,958139571,1322822218,1537002063,1747873779,1955562222,2024104815,2227730452,2361852424,2428436474,2756734187,3204031479,3329325298]
def zQB:∀i:Fin 64,Ki.getD i.val 0=u (Kc i.val):=È
def PS{P:Zp}{W:Zy}{x:String×DataW Unit}{rest:List<|String×DataW Unit}(h:laidMet P (x::rest) W):laidMet P rest W:=by obtain⟨r,⟨g,t,k,c,p,q,l,m,n,o,d,e⟩,j,f⟩:=h;subst e;exact⟨q,d,(DY.1 j).2.1,λb a i=>f b a<|List.mem_append_right _ i⟩
def δ: "*" ++ "errors.errorString"= "*errors.errorString":=Ã
def xzg(u:Zt)(h:Tryz.prog.typeName? 3 u=ac "*errors.errorString"):u=380:=
 typeName_ptr_named (nm:= "errors.errorString") (by rw[δ];kernel_rfl) Á Ã u (by rw[δ];exact h)
def xng:Tryz.prog.cellsOf 402=1:=Á
def xxx:Tryz.prog.cellsOf 9=1:=Á
def ζ{W:Zy}{n:String}{g:Nat}{v:Zv}(a:Tryz.prog.globalNamed n=ac g)(h:W.var? au n=ac #[v]):ae W (zq g 0)=ac v:=by simpa using World.var?_cell a h 0
def xyc{W:Zy}(h:laidMetH au Rows.opensUptoRow.laid W):∃cv tv,oe cv tv W/\pj (ak W.heap) cv tv W/\Yq W:=by have d:=h;have s:Lib.TabIs au W "coffer/cofferref.roots" bQ Ki:=Lib.tabIs_of_head (rest:=_) zQA xjp Tryz.underlying336 Tryz.underlying243 ν ι d;have t:Lib.TabIs au W "coffer/prim.roundWords" bQ Ki:=Lib.tabIs_of_head (rest:=_) Υ xn0 Tryz.underlying336 Tryz.underlying243 ν ι<|PS d;obtain⟨l,m,v,w,n,p,q,r,g,j,_,_,_,_,_,_,f,a,b⟩:=laid_sentinels2 (PS<|PS d) Τ xnz Φ xn1 iG xzg Tryz.underlying380 Tryz.underlying402 rfl rfl oN xng xxx;have k:∀{i:Nat} {o:Obj},W.heap[i]?=ac o->i<ak W.heap:=λh=>(za.1 h).1;refine⟨_,_,⟨⟨_,_,rfl,ζ Τ g⟩,⟨_,_,rfl,ζ Φ j⟩,λi c=>?_⟩,⟨l,m,n,p,q,r,rfl,rfl,λe=>f e.symm,k a,k b,a,b⟩,λi c=>?_⟩;rw[t.cell Υ i c,zQB ⟨i,c⟩];rw[s.cell zQA i c,zQB ⟨i,c⟩]
def PO.Y{v u:Zy}(h:PO v u):aN (ak v.blind.heap) v.blind u.blind:=⟨h.1,rfl,h.2.1,h.2.2.1,h.c⟩
abbrev xxz:ByteArray:={data:=#[116,104,101,32,109,97,99,104,105,110,101,32,115,116,111,112,112,101,100]}
abbrev jdm:ByteArray:={data:=#[115,111,109,101,98,111,100,121,32,104,97,115,32,98,101,101,110,32,97,116,32,116,104,101,32,100,105,115,107]}
noncomputable def sU:Nat:=ak (World.holding au default ⟨#[],#[],[]⟩).heap
noncomputable def ε(os:Os):Zy:=
 let w0:=World.holding au os ⟨#[aq #[aj xxz] 402,aq #[aj jdm] 402],#[],[]⟩
 {w0 with heap:=(((w0.heap.modify 4 fun
   | aq _ t frozen=>aq (aV (Ki.map λx=>zu x)) t frozen|o=>o).modify 2 fun
   | aq _ t frozen=>aq (aV (Ki.map λx=>zu x)) t frozen|o=>o).modify 0 fun
   | aq _ t frozen=>aq #[gB 380<|zo sU] t frozen
   |o=>o).modify 1 fun
   | aq _ t frozen=>aq #[gB 380<|zo<|sU+1] t frozen
   |o=>o}
def xog(a:Os):laidMet au Rows.opensUptoRow.laid ((ε a).forCall (λ_ _=>0) ⟨#[],#[az ar 0 0],[]⟩).memory:=
 laidMet_of_run' 70 Á Á
def jc8(a:Os){H:Type}(enc:Zt×Zv->H):∃places,DataW.whole enc au ((ε a).forCall (λ_ _=>0) ⟨#[],#[az ar 0 0],[]⟩).memory (ej Tryz.f3.params) Rows.opensSpec.vars ao (ej (#[az ar 0 0])) 8=ac ([.nil],[],places):=
 ⟨[],Á⟩
def jfb{H:Type}{enc:Zt×Zv->H}(W:Zy)(base:Nat)(args:Za)(n gs:List<|DataW H)(a:List MemPlace)
  (b:∀(j:Nat) t v,Tryz.f3.params[j]?=ac t->args[j]?=ac v->Value.okWide au W .any base t v)(K:Rows.uptoBulkAll (n++gs)<=1048576)
  (y:DataW.Whole enc au (ej Tryz.f3.params) Rows.opensSpec.vars ao W (ej args) n gs a)(I:laidMetH au Rows.opensUptoRow.laid W):
  ∃M last o w' t',eT au (M+1) (solo (G (aT au 3 args cJ) []) W) #[]=(kW o w',t')/\runN au M (solo (G (aT au 3 args cJ) []) W)=fS last/\step au last=kW o w'/\
   mX au (λv W'=>Rows.opensSpec.post enc au mn ao aw ao ao W.blind args v W'.blind) last o w' t':=by
 have c:=y;obtain⟨p,q,f,J,rfl,N,O⟩:=y;have w:=f;rw[Tryz.params3]at w b;obtain⟨V,C,rfl,rfl,s⟩:=trodAll_one w;obtain⟨rfl,rfl⟩:=trodVars_none J;have e:=s;obtain⟨B,m,d,rfl⟩:=okWide_slice Tryz.underlying22<|b 0 22 V rfl rfl;obtain⟨r,L⟩:=s;simp only[Xz]at c;have k:∀x∈p,x.block<ak W.heap:=λx Y=>c.lt x À;obtain⟨D,E⟩:=xap L (by grind [Rows.uptoBulkAll]);obtain⟨X,Z,F,g,i⟩:=xyc I;obtain⟨M,last,o,w',t',R,S,r3,T⟩:=xia _ D F g i E;refine⟨M,last,o,w',t',R,S,r3,T.mono λv Q=>?_⟩;obtain⟨rfl,hk⟩:=Q;have z:=hk.Y;have l:=DataW.Whole.of_heap (w':=W.blind) à c;have U:DataW.Trod enc au W.blind 0 (λ_=>aw) aw 22 (az B m d) C p:=DataW.Trod.of_heap à e;refine⟨_,_,_,[],_,[],l,trodAll_cons_mk (shut_bool Tryz.underlying4 _) trodAll_mk0,trodAll_cons_mk (Below.trod xth Á (Xt Ä) U z k) trodAll_mk0,rfl,z.frame _,λh=>Ê⟩
def xyo(h:Os)(a:h.Started)(H:Type)(enc:Zt×Zv->H):
  ReturnsInLeavingWide {} Tryz.checked h 3 .any ((Rows.OpenSpec.upto Rows.opensSpec).preRow enc au mn Rows.opensUptoRow.domain ao Rows.opensUptoRow.laid) (Rows.opensSpec.post enc au mn ao aw ao ao):=by
 obtain⟨j,t⟩:=jc8 h enc;refine returnsInLeavingWide_of_good (C:=Tryz.checked) cO a
  (witness_row_at (enc:=enc) (C:=Tryz.checked) ao _ #[az ar 0 0] rfl Á Á Á
   (OpenSpec.preRow_of_cond 8 t Á (λk hk=>by cases hk;kernel_rfl) Á<|xog h)) ?_
 intro w g i _ _ _ l d _;obtain⟨_,_,_,o,c,_,_,_,_,f⟩:=l;have e:=ql<|c.symm.trans Tryz.func3;subst e;obtain⟨⟨r,q⟩,x⟩:=d;obtain⟨n,p,b,s,v,hk⟩:=OpenSpec.pre_parts r;have m:=DataW.Whole.of_heap (w':=w.forCall g i) à s;exact jfb _ (ak w.heap) i.args n p b f (Xt<|hk _ rfl) m<|q.of_heap à
end
def jeq{a b:Bool}(h:a=aw)(k:b=aw):(a&&b)=aw:=by rw[h,k];rfl
def j9:((Rows.opensUptoRow.inPlace==Tryz.pinned.checked.prog.inPlace 3))=aw:=Á
def j10:((Rows.opensUptoRow.unfollowed==Tryz.pinned.checked.prog.unfollowed 3))=aw:=Á
def j11:((Rows.opensUptoRow.recurses==Tryz.pinned.checked.prog.recurses 3))=aw:=Á
def j12:((Rows.opensUptoRow.named==Tryz.pinned.checked.prog.varsNamed 3))=aw:=Á
def jbe:joinedFacts Tryz.pinned.checked.prog 3 mn (Rows.OpenSpec.upto Rows.opensSpec).bare Rows.opensUptoRow=aw:=by
 unfold joinedFacts;repeat' with_reducible refine jeq ?_ ?_
 all_goals first|with_reducible exact j9|with_reducible exact j10|with_reducible exact j11|with_reducible exact j12|kernel_rfl
def zth{p:Go.Pinned}{s:ChangeSpec}{q:OpenSpec}{c:OpenClaim}(f:FuncId)(fn:jE)
  (hn:c.program=p.name)(hs:c.sum=p.sum)(J:c.spec=q.name)
  (d:c.start= .entering)(g:c.outside=[])(E:c.inits=[])(K:c.under=ar)(D:c.initsInPlace=[]/\c.initsUnfollowed=ao/\c.initsRecurse=ao/\c.initsNamed=[]/\c.initsPassed=[])(t:c.noBlocks=ao)(G:c.leaving=aw)(j:c.followed=ar)(r:c.narrowed=q.cond.isSome)(i:c.still=ao)
  (C:p.checked.prog.funcNamed c.func=ac f)(hf:p.checked.prog.funcs[f]?=ac fn)
  (e:joinedFacts p.checked.prog f fn q.bare c=aw)
  (l:fn.isInstance p.checked.prog c.origin c.targs)(o:fn.isWrapper p.checked.prog c.wrapper c.mainSum)
  (m:∀(H:Type) (enc:Zt×Zv->H) F,q.post enc p.checked.prog fn F [] c.apart c.fresh c.handsOn c.again=s.post enc p.checked.prog fn c.apart c.fresh c.handsOn c.again)
  (h:∀os:Os,os.Started->∀(H:Type) (enc:Zt×Zv->H),(∀a b,enc a=enc b->a=b)->
   ReturnsInLeavingWide c.assume p.checked os f .any (c.pre enc p.checked.prog fn q) (s.post enc p.checked.prog fn c.apart c.fresh c.handsOn c.again)):c.holds p q:=by
 simp only[joinedFacts,jy,yS,jn,D3,Y8]at e;obtain⟨⟨⟨⟨⟨⟨⟨⟨⟨⟨⟨⟨⟨⟨⟨⟨⟨⟨⟨⟨⟨⟨⟨⟨⟨⟨⟨⟨⟨⟨⟨k1,k2⟩,k3⟩,k4⟩,k5⟩,k6⟩,k7⟩,k8⟩,k9⟩,M⟩,N⟩,O⟩,Q⟩,R⟩,S⟩,T⟩,U⟩,v⟩,V⟩,W⟩,X⟩,Y⟩,Z⟩,w⟩,x⟩,y⟩,z⟩,B⟩,ba⟩,bb⟩,bc⟩,bd⟩:=e;have hq:∀os:Os,Stop.quiet p.checked.prog os:=λos k hk=>by rw[k9]at hk;cases hk
 refine⟨k1,hn,hs,J,k2,k3,by unfold OpenClaim.startFits;rw[d];exact y,by unfold OpenClaim.startTold;rw[d];exact⟨E,K,D⟩,f,fn,C,hf,⟨k4,W⟩,(λhb=>by rw[t]at hb;cases hb),by unfold OpenClaim.namedList;rw[j];exact k5,l,o,
  k6.trans k7.symm,⟨k8.trans k9.symm,by unfold Program.envWorded;rw[k9];rfl,x⟩,M,N,O,Q,R,⟨S,bc,bd⟩,⟨T,X⟩,⟨U,Y,ba,bb⟩,⟨Z,z,B,v⟩,(by rw[g,r];cases hsh:c.shortTexts with|none=>simp|some _=>rw[hsh]at w;cases w),λn I=>varReadable_some<|V n I,
  ⟨_,by unfold OpenClaim.world;rw[g,d];exact WideRow.started_initial,hq _⟩,[],by unfold OpenClaim.lists;rw[j],λos st _ H enc L=>?_⟩
 have be:os.Started:=by unfold OpenClaim.world at st;rw[g,d]at st;exact st
 rw[OpenClaim.post_not_still i];unfold OpenClaim.form;rw[d,k6];intro F;have e1:c.okInput=Input.okWide:=by unfold OpenClaim.okInput;rw[t]
 have e2:c.atReturn p.checked.prog=leavingAtReturn p.checked.prog:=by unfold OpenClaim.atReturn;rw[G]
 have e3:c.always p.checked.prog []=nothingAlways:=by unfold OpenClaim.always;rw[j]
 rw[e1,e2,e3];show ReturnsInOpen _ _ _ _ _ _ _ _ (q.post enc p.checked.prog fn F c.outside c.apart c.fresh c.handsOn c.again) _ _;rw[g,m];exact h os be H enc L y
def xyv:Tryz.pinned.checked.prog.funcNamed Rows.opensUptoRow.func=ac 3:=Á
def jbl:Tryz.f3.isInstance Tryz.pinned.checked.prog Rows.opensUptoRow.origin Rows.opensUptoRow.targs:=Xt Á
def jdx:Tryz.f3.isWrapper Tryz.pinned.checked.prog Rows.opensUptoRow.wrapper Rows.opensUptoRow.mainSum:=by unfold Func.isWrapper;first|(rw[if_pos È];kernel_rfl)|(rw[if_neg È];exact⟨rfl,rfl⟩)
def PN:Rows.OpensUptoSaid:=
 zth (s:=Rows.opensSpec) 3 mn rfl rfl rfl rfl rfl rfl rfl ⟨rfl,rfl,rfl,rfl,rfl⟩ rfl rfl rfl rfl rfl xyv Tryz.func3 jbe jbl jdx (λ_ _ _=>rfl)
  (λc a H b _=>by rw[OpenClaim.pre_eq_preRow];exact xyo c a H b)
def nY(f:FuncId)(fn:jE)(d:Tryz.pinned.checked.prog.funcNamed "coffer/cofferlaw.Opens"=ac f)(a:Tryz.pinned.checked.prog.funcs[f]?=ac fn):
  aw=Tryz.pinned.checked.prog.looks []/\∀(j:Nat) t,fn.params[j]?=ac t->Tryz.pinned.checked.prog.wantsStandIn t=ao:=by
 obtain rfl:f=3:=ql ((show Tryz.prog.funcNamed "coffer/cofferlaw.Opens"=ac 3 by kernel_rfl).symm.trans d) |>.symm;obtain rfl:fn=mn:=(ql<|Tryz.func3.symm.trans a).symm;refine⟨Á,λj t c=>?_⟩;rw[Tryz.params3]at c;have b:=Gu c;simp only[GD,jc,GA,or_false]at b;rw[b];exact(show Tryz.prog.wantsStandIn 22=ao by kernel_rfl)
def jbj:aw=Rows.opensUptoRow.goesBy Tryz.pinned.checked.prog:=Á
def jbu:Tryz.pinned.checked.prog.mainIs=ac (aw,"4a0ee9522534c2d428c9830cfbd97c6c1925e58f526ebf18fccfdf95455ecf2d".toList):=Á
def card:Rows.OpensUptoCardSaid:=
 ⟨Claim7.tied_new_at .later [.data,.data,.sentinel,.sentinel] aw (Claim7.new_of_sixth PN (aw,"4a0ee9522534c2d428c9830cfbd97c6c1925e58f526ebf18fccfdf95455ecf2d") aw rfl ⟨rfl,rfl⟩ jbu rfl nY) Á,λD a=>(by cases a),opensUpto_row_tie,(λh=>Ê),jbj⟩
end P
end Go.Proofs.YtjnbhiamaabbgaaGreatDoor
