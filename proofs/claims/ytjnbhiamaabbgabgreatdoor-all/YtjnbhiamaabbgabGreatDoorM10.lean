import Derived.Test.YtjnbhiamaabbgabGreatDoorM9
import Derived.Lib.LaidTab
import Derived.Conc.LeavingOf
import Derived.OpenShut
import Derived.Deep.DeepHandedRow
import Derived.Stop.LaidTwo
set_option linter.all false
set_option maxRecDepth 100000
set_option maxHeartbeats 8000000
section
variable{P:Prop}
def zdl(h:P:=by exact k.o .ret _ _ Â<|x _ _ O O m):=h
end
namespace Go.Proofs.YtjnbhiamaabbgabGreatDoor
open _root_ renaming Bool->ez,Int->U,List->bA,Nat->Q,Option->dD,rfl->O,Array.replicate->cL,Array.size->V,Array.toList->eV,Bool.false->ao,Bool.true->M,Decidable.decide->bR,False.elim->eT,Int.toNat->bL,List.length->T,List.length_append->zx,List.pairwise_cons->Xw,Nat.reduceAdd->jY,Nat.reduceSub->lh,Option.none->R,Option.some->Y,Or.inl->aJ,Or.inr->ac
open Go renaming Act->mh,Calls->aK,Ending->kH,Value->eJ,World->dN,execOp->aR,resolve->o8,results->eR,undef->Z',Act.put->ge,Code.seq->gU,Ending.returned->ai,Exit.normal->eE,FrameMode.returning->eB,Lib.byteCells->hZ,Loc.obj->pa,Obj.cells->au,Proofs.intOf->bZ,Proofs.Tryz.prog->az,Region.wanted->bP,Result.ok->dG,RowKit.Below->aP,RowKit.Hid->H,RowKit.Below.refl->zt
open Value renaming agg->bY,bool->bG,int->aD,slice->aB,string->ak,tuple->cE
open World renaming alloc->aF,cell?->N,frozen?->aX,heap->Z,setCell->ay
namespace P
variable{B d g k n H x lo j c':Q}{r r':Sr}{D:bA Sp}{ay:bA Int}{a:mh}{w0 w w':Zy}{e:kH}{t:Q->Question->Q}{cv tv v:Zv}{l:FL}{o:Sp}
open A.Tryq Go.RowKit
section
open A
attribute[local go_sem] zn zg
structure Hs(B:Q)(r:Sr)(w0 w:Zy):Prop where
 st:Vq w B r
 cN:∀x,r.cN B x->V (Z w0)<=x
 nw:Nw w0 w
section
variable{z w w':dN}
def Hs.to(h:Hs B r z w)(t:Zd B r w r' w'):Hs B r' z w':=⟨t.dI,λx a=>(t.cN x a).elim (h.cN x) λk=>xa h.nw.aD k,h.nw.lO t.y λy b=>ac (h.cN y b)⟩
def Hs.ib(h:Hs B r z w)(n:Nw w w'):Hs B r z w':=⟨h.st.y n λ_ _=>id,h.cN,h.nw.aE n⟩
end
def tu:Zl:=[48,49,50,51,52,53,54,55,56,57,97,98,99,100,101,102,48,49,50,51,52,53,54,55,56,57,65,66,67,68,69,70]
def Fa(S m:Q):kE:=Aw S {ld tu Yn 0 1 m with aQ:=0} []
def E7(D ay S m:Q):Sr:={Sr.ex 100000 100 5 tu D ay with op:=1,sn:=Y<|Fa S m}
def xfz(m:Q):Xr (ld tu Yn 0 1 m) []=Y ({ld tu Yn 0 1 m with aQ:=0},[]):=by
 let e:Xc (ld tu Yn 0 1 m) []=Y (ld tu Yn 0 1 m,[]):=by unfold Xc;exact aT O
 let l:Z7 [] 0=0:=by unfold Z7 yQ;exact aL λh=>h.2 O
 unfold Xr;rw[e];exact aT<|aJ ⟨O,O⟩
def xsv{D ay:Q}{a:U}(h:Ds (Sr.ex 100000 100 5 tu D ay) a r'):a=0/\∃S m,r'=E7 D ay S m:=by
 let⟨m,h⟩:=h;let e:(Zb {ld tu Yn 0 1 m with aQ:=0} ⟨100000,ay,[],R⟩)=(M,{ld tu Yn 0 1 m with aQ:=0},⟨100000,ay,[],R⟩):=by
  let c:Zk []=[]:=List.eq_nil_iff_forall_not_mem.2 λa h=>by grind [PN]
  rw[ϳ O];unfold Wd;simp only[c];rfl
 unfold EW EV at h;rw[show Xr (ld (Sr.ex 100000 100 5 tu D ay).m (Sr.ex 100000 100 5 tu D ay).bQ (Sr.ex 100000 100 5 tu D ay).bF (((Sr.ex 100000 100 5 tu D ay).op+1:Q):U) m) (Sr.ex 100000 100 5 tu D ay).d.L=_ from xfz m]at h;rw[aL<|by simp[Sr.ex],aL<|by simp[Sr.ex]]at h;obtain⟨_,b,S,f⟩|⟨b,_⟩:=h;refine⟨b,S,m,f.trans ?_⟩;unfold Ϧ;rw[show Zb {ld tu Yn 0 1 m with aQ:=0} (Sr.ex 100000 100 5 tu D ay).d=_ from e];rfl;grind [Sr.ex]
def xx7{D ay S m:Q}{a:U}(h:(E7 D ay S m).eD (oR [97]&&tD [49]) (.put [97] [49]) a r'):a=0/\∃P,r'={E7 D ay S m with sn:=Y<|(Fa S m).kM P<|.put [97] [49]}:=by grind [Sr.eD,E7,Fa,Aw,oR,tD]
def xsw(D ay S m:Q)(P:Zv):∃r',({E7 D ay S m with sn:=Y<|(Fa S m).kM P<|.put [97] [49]}:Sr).fm ((Fa S m).kM P<|.put [97] [49])=(Y 0,r')/\r'.bF=1:=by
 generalize h:({E7 D ay S m with sn:=Y _}:Sr)=r;generalize y:(Fa S m).kM P _=s;let f:=ZV r s;let c:r.bF=0:=by rw[<-h];rfl
 let e:r.mW=5:=by rw[<-h];rfl
 let a:r.d=⟨100000,ay,[],R⟩:=by rw[<-h];rfl
 let b:s.P=[.put [97] [49]]:=by rw[<-y];rfl
 let w:r.fc s [82] s.ep (Z5 s.P)=(Y 0,r.jI s [82] s.ep<|Z5 s.P):=by unfold Sr.fc;rw[aL À,aL<|by rw[a,b];simp[bO,Z5,vI,sQ,Z2];omega,aL<|by rw[a];simp[Dk.cS],aL<|by grind [Dk.cS,Dk.gt,Dk.dZ]]
 unfold Sr.fm;rw[aL Á,w,aT O];exact⟨_,O,by show r.bF+1=1;omega⟩
def xv7{ay:Q}(h:Hs B r w0 w)(f:2<V (Z w0))(a:r.m=tu)(b:r.bQ=Yn)(j:r.bF=0)(k:r.op<=1)(e:r.d=⟨100000,ay,[],R⟩)(l:∀s,r.sn=Y s->s.aQ=0/\T s.P<=20):pH B r:=by refine⟨by rw[a];rfl,by rw[b];rfl,À,À,Á,e▸⟨λp g=>ò,Zz _⟩,Á,λc n=>Á,λx i=>zm f<|h.cN x i,λs o=>?_⟩;grind
variable[pn:A.Pn]
noncomputable def JX:=Qf Tryz.f30.body
noncomputable def jff:=Qa JX
noncomputable def jfg:=Qa<|Qb JX
noncomputable def jfh:=Qa<|Qb<|Qb JX
noncomputable def r28:=Qa<|Qn 3 JX
noncomputable def y28:=Qn 4 JX
def xxq:Tryz.f30.body=Y (gU jff<|gU jfg<|gU jfh<|gU r28 y28):=Ä
def zM:¬Mc az 30:=Av Ã Ã Tryz.func30
def Fc(w:Zy)(e:kH)(w':Zy):Prop:=e=ai (bG M)/\Nw w w'
def zx6:Fc w e (re w' t d)↔Fc w e w':=⟨λh=>⟨h.1,zj.re h.2⟩,λh=>⟨h.1,Nw.lQ h.2 t d⟩⟩
def xn3(hG:nD cv tv w)(C:qF (V<|Z w) cv tv w):CC az 30 #[] w<|Fc w:=by
 have hQ:rq<|sV az dA Tryz.f30<|Fc w:=Dh λe f t d=>zx6;apply CC.kS bX zM (gy O Tryz.func30 O).1 Tryz.func30 xxq;rw[show Tryz.f30.ntmps=61 from O];generalize hPX:sV az dA Tryz.f30 (Fc w)=PX at hQ;let HR:∀a f,a.defers=[]->At a 0 (bG M)->Nw w f->PX .ret a f:=λa f h1 C h3=>by rw[<-hPX];refine⟨h1,bG M,λt d=>⟨t,d,?_⟩,O,h3⟩;show(eR Tryz.f30 _).run prog _=_;unfold At at C;simp[eR,Tryz.results30,go_sem,C]
 let z:=hQ;let HG:=hG;simp only[jd,xg,qy,jY,lh,qu,qw,Xa,Zh,qj,qg];refine so zM z λw1 ba h2 I be=>?_;conv=>arg 2;whnf
 go_wp2;apply I.o _ _;refine so zM z λw2 bb F hx bf=>?_;let N2:Nw w w2:=(qm h2).aE<|qm F;conv=>arg 2;whnf
 go_wp2;apply(Ġ 100000 100 5 tu Ã Ã Ã Ã Ã Ã O _).mono;rintro e w3⟨B,D,ay,rfl,hB,hD,hM,ho,b⟩;let H3:Hs B (Sr.ex 100000 100 5 tu D ay) w w3:=⟨b,λx p=>xa N2.aD (by obtain rfl|p|⟨s,u,-⟩:=p;exact hB;obtain rfl|rfl|⟨c,o,-⟩:=p;exact hD;exact hM;cases o;cases u),N2.aE<|zj.J ho⟩;go_wp2;apply hx.o _ _;refine so zM z λw4 bc G wr bg=>?_;let l:=H3.ib<|qm G;conv=>arg 2;whnf
 go_wp2;apply wr.o _ _;let h4:=HG.iE;let y:∀f,Nw w f->nD cv tv f/\qF (V<|Z w) cv tv f:=λf n=>⟨HG.y n λ_ x=>x.elim,C.y n λ_ x=>x.elim⟩;let j:=Ϩ l.st (Zz _) (xv7 l h4 O O O (Zz _) O λs e=>Æ) (y _ l.nw).1 (y _ l.nw).2 l.cN (λi=>Zz _) λq k L e=>by cases((xfz q).symm.trans e);exact⟨λh=>È,Á,Á⟩
 refine Yp.vU bX zM bD ?_;conv=>arg 3;whnf
 apply Yp.ig bX zM;apply vh zM ⟨O,O⟩;refine Vh.lP bX zM O O (λv=>î) (gy O Tryz.func16 O) j ?_ ?_;rotate_left;rintro ch w7⟨_,P,_⟩;cases P;rintro v5 w5⟨a5,P,r5,b,p⟩;cases P;obtain⟨rfl,S,q,rfl⟩:=xsv p;apply vh zM ⟨O,O⟩;apply Vh.nil bX zM;refine ?_;simp only[ge,Zj,Vp,Kr];refine Gp zM z λw6 bd H cs=>?_;let A:=(l.to b).ib<|qm H;conv=>arg 2;whnf
 go_wp2;refine(YG B _ [97] [49] _ A.st λs e=>by cases e;exact Zz _).mono ?_;rintro e w7⟨a7,r7,rfl,b,g'⟩;obtain⟨rfl,pv,rfl⟩:=xx7 g';let hd:=A.to b;go_wp2;refine(YI B _ [97] _ hd.st λs e=>by cases e;show 1<=20;decide).mono ?_;rintro e w8⟨rfl,v'⟩;rw[show Sr.iS {E7 D ay S q with sn:=Y<|(Fa S q).kM pv<|.put [97] [49]} [97]=([49],0)from O];let g:=hd.ib v';go_wp2;apply(PO B _ _ g.st).mono;rintro e w9⟨rfl,rfl⟩;go_wp2;let⟨rz,hz1,hz2⟩:=xsw D ay S q pv;refine(ń B _ _ _ g.st O (xv7 g h4 O O O (zd 1) O λs e=>by cases e;exact⟨O,by show 1<=20;decide⟩) (y _ g.nw).1 (y _ g.nw).2 g.cN λc o=>?_).mono ?_;rw[ju.1 o];exact⟨Ã,Ã,Ã⟩;intro e X hw;let es:e=ai (J 0)/\∃r,r.bF=1/\Hs B r w X:=by obtain⟨v,r',W,q2,q3⟩|⟨r',W,q2,q3⟩:=hw;rw[hz1]at W;cases W;exact⟨q2,_,hz2,g.to q3⟩;grind
 obtain⟨rfl,rr,o,u⟩:=es;let m:=u;go_wp2;apply(PO B _ _ m.st).mono;rintro e bh⟨rfl,rfl⟩;rw[o];let z1:(st [49]).toList=[49]:=xl _;go_wp2;exact cs.o .ret _ _<|HR _ _ O O m.nw
end
def Ty(w:Zy)(g e:Q):Prop:=∃C,w.heap[g]?=Y (au C e (0,0))
def Ty.eq{e y}(h:Ty w g e)(k:Ty w g y):e=y:=by let⟨c,h⟩:=h;let⟨d,k⟩:=k;grind
def Ty.lt{e}(h:Ty w g e):g<V (Z w):=(za.1 h.choose_spec).1
def Ty.y{e S}(h:Ty w g e)(a:zj S w w')(b:¬S g):Ty w' g e:=⟨_,(a.dP g h.lt b).trans h.choose_spec⟩
def Rw.ty{y:Type}{t f}{l:bA y}(h:Rw w t k f v l)(a:v.ownBlock=Y g):Ty w g t:=by obtain⟨e,_⟩|⟨i,c,b,e,_,d,_⟩:=h.2;rw[e]at a;cases a;rw[e]at a;cases a;exact⟨b,d⟩
def xF(c:U->ez)(z:U->Zv->Prop)(y:Ze)(ay:bA U):Prop:=T y=4*T (ay.filter c)/\∀i (h:i<T ay),c ay[i]=M->∀k,k<4->∃v,y[4*T ((ay.take i).filter c)+k]?=Y v/\z ay[i] v
section
variable{c:Int->ez}{aw y:Int->eJ->Prop}{z X:bA eJ}{m:Int}
def xF.U(h:xF c aw z ay)(k:∀m v,v∈z->aw m v->y m v):xF c y z ay:=⟨h.1,λi b a j d=>by let⟨v,e,f⟩:=h.2 i b a j d;grind⟩
def xF.pJ(h:xF c aw z ay){i}(a:i<T ay)(f:i<T (ay++[m]))(b:c (ay++[m])[i]=M)(X):∀k,k<4->∃v,(z++X)[4*T (((ay++[m]).take i).filter c)+k]?=Y v/\aw (ay++[m])[i] v:=by rw[Og a]at b⊢;rw[Y4<|Nat.le_of_lt a];intro k hk;let⟨v,d,e⟩:=h.2 i a b k hk;grind
def xF.add(h:xF c aw z ay)(f:c m=M)(a:T X=4)(hx:∀x∈X,aw m x):xF c aw (z++X)<|ay++[m]:=by
 refine⟨by rw[zx,h.1,a,Yu,zx];grind,λi d b k hk=>?_⟩;by_cases e:i<T ay;exact h.pJ e d b X k hk;obtain rfl:i=T ay:=Á
 rw[Y4<|zd _,jz,<-h.1,Xp À,Ko];simp_all
def xF.JV(h:xF c aw z ay)(e:c m=ao):xF c aw z<|ay++[m]:=by refine⟨by rw[h.1,Yu,zx];simp[e],λi b a k hk=>?_⟩;by_cases d:i<T ay;let:=h.pJ d b a [] k hk;grind;grind
end
structure Hv where
 ps:Zv
 m:Q
 tv:Zv
 fv:Zv
 mv:Zv
 T:Ze
 F:Ze
 ay:bA U
def Hv.cN(h:Hv)(H x:Q):Prop:=x=H\/h.ps.ownBlock=Y x\/h.tv.ownBlock=Y x\/h.fv.ownBlock=Y x\/h.mv.ownBlock=Y x\/∃v,(v∈h.T\/v∈h.F)/\v.ownBlock=Y x
structure Hl(n H:Q)(h:Hv)(P:bA Q)(w:Zy):Prop where
 b:WB w H h.ps h.m h.tv h.fv h.mv
 p:Rw w 75 1 Ns h.ps P
 t:Rw w 51 1 uG h.tv h.T
 f:Rw w 33 1 uG h.fv h.F
 m:Rw w 3 1 tJ h.mv h.ay
 ot:xF (λm=>bR (0<m)) (λm v=>mu 9 1 (xW m) w v) h.T h.ay
 of:xF (λm=>!bR (0<m)) (λm v=>mu 36 2 (xE<|-m) w v) h.F h.ay
 tT:∀v∈h.T,∀g,v.ownBlock=Y g->Ty w g 9
 tF:∀v∈h.F,∀g,v.ownBlock=Y g->Ty w g 36
 bd:∀m∈h.ay,-1000000000000<=m/\m<=1000000000000
 n1:h.m<=n
 n2:T h.ay<=n
section
variable{h:Hv}{P:bA Q}{w w' w1:dN}{S:Q->Prop}
def Hl.hd(l:Hl n H h P w):jai w h.T h.F h.ay:=⟨l.ot.1,l.of.1,λi a b=>l.ot.2 i a<|jm b,λi a b=>l.of.2 i a Á,l.bd⟩
def Hl.lt(l:Hl n H h P w)(hx:h.cN H x):x<V (Z w):=by obtain rfl|hx|hx|hx|hx|⟨v,a|a,hx⟩:=hx;exact l.b.lt;exact(l.p.ty hx).lt;exact(l.t.ty hx).lt;exact(l.f.ty hx).lt;exact(l.m.ty hx).lt;exact(l.tT v a x hx).lt;exact(l.tF v a x hx).lt
def Hl.y(l:Hl n H h P w)(d:zj S w w')(e:∀x,h.cN H x->¬S x)(hk:n<=k):Hl k H h P w':=
 let j:∀v∈h.T,∀g,v.ownBlock=Y g->¬S g:=λv c g a=>e g<|ac<|ac<|ac<|ac<|ac ⟨v,aJ c,a⟩;let i:∀v∈h.F,∀g,v.ownBlock=Y g->¬S g:=λv c g a=>e g<|ac<|ac<|ac<|ac<|ac ⟨v,ac c,a⟩
 ⟨l.b.y d<|e _<|aJ O,l.p.y d λg a=>e g<|ac<|aJ a,l.t.y d λg a=>e g<|ac<|ac<|aJ a,l.f.y d λg a=>e g<|ac<|ac<|ac<|aJ a,l.m.y d λg a=>e g<|ac<|ac<|ac<|ac<|aJ a,
  l.ot.U λm v c k=>k.y d<|j v c,l.of.U λm v c k=>k.y d<|i v c,λv c g a=>(l.tT v c g a).y d<|j v c g a,λv c g a=>(l.tF v c g a).y d<|i v c g a,l.bd,xa l.n1 hk,xa l.n2 hk⟩
def Bu.fh{f l C e y}(b:xh w H C 70)(t:Rw w d 1 uG tv y)(m:Rw w 3 1 tJ f ay)(i:∀g,l.ownBlock=Y g->V (Z w)<=g)(a:Ty w g e)(c:e≠70/\e≠d/\e≠3):¬Bu H tv f l g:=by rintro(rfl|h|h|h);exact c.1<|a.eq ⟨_,b⟩;exact c.2.1<|a.eq<|t.ty h;exact c.2.2<|a.eq<|m.ty h;exact DN _<|zm a.lt<|i g h
theorem Hl.lc(l:Hl n H h P w)(o:n<=90000000000)(k:jak w H h.ps h.fv h.m h.tv h.mv h.T h.ay w'):∃F,Hl (n+1) H F P w'/\zj (h.cN H) w w'/\∀x,F.cN H x->h.cN H x\/V (Z w)<=x:=by
 let⟨v,w1,q,B,s,r,X,b,t,m,I,C,d,p,D,G⟩:=k;let z:=q.aD;let l1:=l.y q (λ_ _=>id)<|zd n;let j:∀{g e},Ty w g e->(e≠70/\e≠51/\e≠3)->¬Bu H h.tv h.mv v g:=Bu.fh l.b l.t l.m B;let f:=l.n1;let W:=l.n2;refine⟨⟨h.ps,h.m+1,s,h.fv,r,h.T++X,h.F,h.ay++[(h.m:U)+1]⟩,⟨b,l1.p.y d λg a=>j (l.p.ty a) Ã,t,l1.f.y d λg a=>j (l.f.ty a) Ã,m,(l1.ot.U λm v c k=>k.y d λg a=>j (l.tT v c g a) Ã).add Á I C,(l1.of.U λm v c k=>k.y d λg a=>j (l.tF v c g a) Ã).JV Á,λv c g a=>(je.1 c).elim (λc=>(l1.tT v c g a).y d<|j (l.tT v c g a) Ã) λc=>((C v c).lt a).2,λv c g a=>(l1.tF v c g a).y d<|j (l.tF v c g a) Ã,λm o=>(je.1 o).elim (l.bd m) λo=>Á,Á,Á⟩,(q.U λ_=>eT).lO d ?_,?_⟩;rintro y (e|e|e|e);exact aJ<|aJ e;exact aJ<|ac<|ac<|aJ e;exact aJ<|ac<|ac<|ac<|ac<|aJ e;grind;rintro x (e|e|e|e|e|⟨u,i|i,e⟩);exact aJ<|aJ e;exact aJ<|ac<|aJ e;exact(p x e).imp (λe=>ac (ac<|aJ e)) λ_=>À
 exact aJ<|ac<|ac<|ac<|aJ e;exact(D x e).imp (λe=>ac (ac<|ac<|ac<|aJ e)) λ_=>À
 exact(je.1 i).elim (λi=>aJ (ac<|ac<|ac<|ac<|ac ⟨u,aJ i,e⟩)) λi=>ac ((G u i x e).elim (B x) λ_=>À);exact aJ<|ac<|ac<|ac<|ac<|ac ⟨u,ac i,e⟩
def Hl.cW(l:Hl n H h P w)(o:n<=90000000000)(k:jaj w H h.ps h.tv h.m h.fv h.mv h.F h.ay w'):∃A,Hl (n+1) H A P w'/\zj (h.cN H) w w'/\∀x,A.cN H x->h.cN H x\/V (Z w)<=x:=by
 let⟨v,w1,q,B,s,r,X,b,t,m,G,I,d,D,C,p⟩:=k;let z:=q.aD;let l1:=l.y q (λ_ _=>id)<|zd n;let j:∀{g e},Ty w g e->(e≠70/\e≠33/\e≠3)->¬Bu H h.fv h.mv v g:=Bu.fh l.b l.f l.m B;let f:=l.n1;let W:=l.n2;refine⟨⟨h.ps,h.m+1,h.tv,s,r,h.T,h.F++X,h.ay++[-((h.m:U)+1)]⟩,⟨b,l1.p.y d λg a=>j (l.p.ty a) Ã,l1.t.y d λg a=>j (l.t.ty a) Ã,t,m,(l1.ot.U λm v c k=>k.y d λg a=>j (l.tT v c g a) Ã).JV Á,(l1.of.U λm v c k=>k.y d λg a=>j (l.tF v c g a) Ã).add Á G λx F=>Á,λv c g a=>(l1.tT v c g a).y d<|j (l.tT v c g a) Ã,λv c g a=>(je.1 c).elim (λc=>(l1.tF v c g a).y d<|j (l.tF v c g a) Ã) λc=>((I v c).lt a).2,λm o=>(je.1 o).elim (l.bd m) λo=>Á,Á,Á⟩,(q.U λ_=>eT).lO d ?_,?_⟩;rintro y (e|e|e|e);exact aJ<|aJ e;exact aJ<|ac<|ac<|ac<|aJ e;exact aJ<|ac<|ac<|ac<|ac<|aJ e;grind;rintro x (e|e|e|e|e|⟨u,i|i,e⟩);exact aJ<|aJ e;exact aJ<|ac<|aJ e;exact aJ<|ac<|ac<|aJ e;exact(D x e).imp (λe=>ac (ac<|ac<|aJ e)) λ_=>À
 exact(C x e).imp (λe=>ac (ac<|ac<|ac<|aJ e)) λ_=>À
 exact aJ<|ac<|ac<|ac<|ac<|ac ⟨u,aJ i,e⟩;exact(je.1 i).elim (λi=>aJ (ac<|ac<|ac<|ac<|ac ⟨u,ac i,e⟩)) λi=>ac ((p u i x e).elim (B x) λ_=>À)
end
structure Pp where
 q:Q
 B:Q
 C:Q
 r:Sr
 f:Rf
def Pp.cN(p:Pp)(x:Q):Prop:=x=p.q\/tr p.B p.C p.r p.f x
structure Is(cv tv:Zv)(lo H n c':Q)(h:Hv)(L:bA Pp)(w0 w:Zy):Prop where
 hl:Hl c' H h (L.map Pp.q) w
 pr:∀p∈L,Pr (2*n) w p.q p.B p.C p.r p.f
 ap:L.Pairwise λp q=>∀x,p.cN x->¬q.cN x
 pl:∀p∈L,∀x,p.cN x->lo<=x/\¬h.cN H x
 ll:∀x,h.cN H x->lo<=x
 pJ:zj (λx=>lo<=x) w0 w
 sz:lo<=V (Z w)
 g:nD cv tv w
 t2:qF lo cv tv w
 tb:Yq w
 l4:3<lo
 ln:T L<=n
section
variable{cv tv:eJ}{h s:Hv}{L:bA Pp}{w0 w w':dN}{S:Q->Prop}
def Pr.U{q C f}(h:Pr n w q B C r f)(hk:n<=k):Pr k w q B C r f:=⟨h.qb,h.sa,h.fa,h.tw,h.ok.U hk,h.ap,h.qn⟩
def Is.JU(i:Is cv tv lo H n c' h L w0 w)(a:∀x,S x->lo<=x):Np lo cv tv S w:=λf b=>⟨i.g.y b λx c=>by let:=a x c;let:=i.l4;omega,i.t2.y b a,λj d=>b.i (λc=>by let e:lo<=3:=a _ c;let:=i.l4;omega)<|i.tb j d⟩
def Pp.lt{p:Pp}(a:Pr n w p.q p.B p.C p.r p.f)(hx:p.cN x):x<V (Z w):=hx.elim (λe=>e▸a.qb.lt) λe=>a.lt e
def Is.zL(i:Is cv tv lo H n c' h L w0 w)(hk:n<=k)(l:Hl j H s (L.map Pp.q) w')(c:zj (h.cN H) w w')(ho:∀x,s.cN H x->h.cN H x\/V (Z w)<=x):Is cv tv lo H k j s L w0 w':=by let⟨g,f,j⟩:=i.JU i.ll w' c;refine⟨l,λp b=>((i.pr p b).y c (λa=>(i.pl p b _<|aJ O).2 a) λx a=>(i.pl p b x<|ac a).2).U À,i.ap,λp b x a=>⟨(i.pl p b x a).1,λe=>?_⟩,λx a=>(ho x a).elim (i.ll x) λh=>xa i.sz h,i.pJ.aE<|c.U i.ll,xa i.sz c.aD,g,f,j,i.l4,xa i.ln hk⟩;obtain d|d:=ho x e;exact(i.pl p b x a).2 d;let:=Pp.lt (i.pr p b) a;omega
def Is.nw(i:Is cv tv lo H n c' h L w0 w)(a:Nw w w')(hk:n<=k)(hj:c'<=j):Is cv tv lo H k j h L w0 w':=i.zL hk (i.hl.y a (λ_ _=>id) hj) (a.U λ_=>eT) λ_=>aJ
def Is.BX{A q p d'}(i:Is cv tv lo H n c' h (A++p::q) w0 w)(hk:n<=k)(hc:c'<=d')(hd:j<=2*k)(t:sB j p.q p.B p.C p.r p.f w w'):∃L,Is cv tv lo H k d' h L w0 w':=by
 let⟨S,h1,C,y,h2⟩:=t;let u:p∈A++p::q:=Â
 let ay:∀x,tr p.B p.C p.r p.f x->lo<=x:=λx c=>(i.pl p u x<|ac c).1;let⟨g,hx,ho⟩:=i.JU ay w' y;let⟨z,D,wr⟩:=Y3.1 i.ap;let⟨F,G⟩:=Xw.1 D;let p':Pp:=⟨p.q,p.B,p.C,S,h1⟩;let P:∀x,p'.cN x->p.cN x\/V (Z w)<=x:=λx c=>c.elim (λe=>aJ (aJ e)) λe=>(h2 x e).imp ac id;let o:∀a∈A++q,∀x,a.cN x->¬p.cN x:=λa d x c m=>(je.1 d).elim (λd=>wr a d p xu x c m) λd=>F a d x m c;let v:∀a∈A++q,a∈A++p::q:=λa d=>Á
 let s:∀a∈A++q,∀x,a.cN x->¬p'.cN x:=λa d x c m=>(P x m).elim (o a d x c) λh=>by let:=Pp.lt (i.pr a<|v a d) c;omega
 refine⟨A++p'::q,?_,λa d=>?_,Y3.2 ⟨z,Xw.2 ⟨λa d x c m=>s a (by simp[d]) x m c,G⟩,λa d b X=>?_⟩,λa d x c=>?_,i.ll,i.pJ.aE<|y.U ay,xa i.sz y.aD,g,hx,ho,i.l4,by let:=i.ln;grind⟩;let l:=i.hl.y y (λx c m=>(i.pl p u x<|ac m).2 c) hc;grind;simp[je,jc]at d;let W:a∈A++q->Pr (2*k) w' a.q a.B a.C a.r a.f:=λf=>((i.pr a<|v a f).y y (λc=>o a f _ (aJ O)<|ac c) λx c m=>o a f x (ac c)<|ac m).U À;let C:=C.U hd;grind;grind;simp[je,jc]at d;obtain h|rfl|h:=d;exact i.pl a ta x c;obtain I|I:=P x c;exact i.pl p u x I;exact⟨xa i.sz I,λm=>by let:=i.hl.lt m;omega⟩;exact i.pl a ta x c
def Is.Eo(i:Is cv tv lo H n c' h L w0 w)(hd:yS o.n o.m o.k o.s=M)(t:jan w H h.ps h.m h.tv h.fv h.mv (L.map Pp.q) o w'):∃s L',Is cv tv lo H (n+1) (c'+1) s L' w0 w':=by
 let⟨q,B,C,D,ay,F,z,h1,t3,W,X,h2,hx,t8,t9,wr,cs⟩:=t;let p:Pp:=⟨q,B,C,Sr.ex o.n o.m o.k o.s D ay,Rf.cZ o.n o.m o.k o.s⟩;let S:∀x,p.cN x->V (Z w)<=x/\x<=q:=λx c=>by let hB:=(t9 B<|aJ O);obtain rfl|c|c:=c;omega;grind;grind
 let f:∀x,(x=H\/h.ps.ownBlock=Y x)->h.cN H x:=λx c=>c.elim aJ λc=>ac (aJ c);let I:=z.U f;let⟨g,tw,tb⟩:=i.JU i.ll w' I;let u:∀{x:Q} {e:Q},Ty w x e->(e≠70/\e≠75)->¬(x=H\/h.ps.ownBlock=Y x):=λc P y=>y.elim (λe=>P.1<|c.eq ⟨_,e▸i.hl.b⟩) λe=>P.2<|c.eq<|i.hl.p.ty e;let l:=i.hl;let g':∀a∈L,∀x,a.cN x->x<V (Z w):=λa d x c=>Pp.lt (i.pr a d) c;let G:=Ws.ex (n:=2*(n+1)) o.n o.m o.k o.s D ay hd;refine⟨{h with ps:=F},L++[p],⟨h1,Á,l.t.y z λg j=>u (l.t.ty j) Ã,l.f.y z λg j=>u (l.f.ty j) Ã,l.m.y z λg j=>u (l.m.ty j) Ã,l.ot.U λm v r k=>k.y z λg j=>u (l.tT v r g j) Ã,l.of.U λm v r k=>k.y z λg j=>u (l.tF v r g j) Ã,λv r g j=>(l.tT v r g j).y z<|u (l.tT v r g j) Ã,λv r g j=>(l.tF v r g j).y z<|u (l.tF v r g j) Ã,l.bd,by let:=l.n1;grind,by let:=l.n2;grind⟩,λa d=>?_,Y3.2 ⟨i.ap,List.pairwise_singleton ..,λa d b I x c y=>?_⟩,λa d x c=>?_,λx c=>?_,i.pJ.aE<|I.U i.ll,xa i.sz I.aD,g,tw,tb,i.l4,by let:=i.ln;grind⟩;obtain d|d:=je.1 d;exact((i.pr a d).y z (λc=>(i.pl a d _<|aJ O).2<|f _ c) λx c y=>(i.pl a d x<|ac c).2<|f _ y).U À;rw[ju.1 d];refine⟨X,h2,hx,G.1,G.2,λx c y=>?_,λc=>?_⟩;grind;obtain c|c:=c;grind;grind;grind;let A:({h with ps:=F}:Hv).cN H x->h.cN H x\/q<x:=λc=>by obtain e|e|e:=c;grind;grind;exact aJ<|ac<|ac e
 obtain d|d:=je.1 d;refine⟨(i.pl a d x c).1,λy=>(A y).elim (i.pl a d x c).2 λh=>?_⟩;grind;rw[ju.1 d]at c;let ho:=S x c;refine⟨xa i.sz ho.1,λy=>(A y).elim (λh=>?_) λh=>?_⟩;let:=i.hl.lt h;omega;omega;obtain e|e|e:=c;exact i.ll x<|aJ e;obtain e|e:=W x e;exact i.ll x<|ac<|aJ e;let:=i.sz;omega;exact i.ll x<|ac<|ac e
end
section
open A
structure zN(lo:Q)(w:Zy)(o:Sp)(l:FL):Prop where
 a:kh o.a
 n:kh o.n
 m:kh o.m
 f:FA lo w o.f l
 l1:T l<=100000000
 l2:∀x∈l,kh x.1/\T x.2<=1000000000
def vu(cv tv:Zv)(lo H n c':Q)(w0:Zy)(e:kH)(w':Zy):Prop:=e=ai (bG M)/\∃h L,Is cv tv lo H n c' h L w0 w'
section
variable{C q:eJ}{h:Hv}{L A f:bA Pp}{p:Pp}{S w m:dN}
def zN.nw(s:zN lo w o l)(b:Nw w m):zN lo m o l:=⟨s.a,s.n,s.m,s.f.nw b,s.l1,s.l2⟩
def xoz(i:Is C q lo H n c' h L S w)(f:n<120000):aK prog 64 #[zq H,bY o.G] w<|vu C q lo H (n+1) (c'+1) S:=by cases y:yS o.n o.m o.k o.s;exact(xj3 H o w y).mono λe d⟨a,c⟩=>⟨a,_,_,i.nw c (Xu n) (Xu _)⟩;exact(xon H h.ps h.tv h.fv h.mv h.m _ o w i.hl.b i.hl.p (by let:=i.ln;grind) y).mono λe d⟨a,c⟩=>⟨a,i.Eo y c⟩
def zy3(i:Is C q lo H n c' h (A++p::f) S w)(y:n<120000)(hc:c'<=80000000000)(hk:o.eH=4\/o.eH=5\/o.eH=6\/o.eH=7):aK prog 66 #[zq H,zq p.q,bY o.G] w<|vu C q lo H (n+1) (c'+1) S:=by
 let k:=i.pr p Â;let c:∀{e d},(e=ai (bG M)/\sB (2*n) p.q p.B p.C p.r p.f w d)->vu C q lo H _ _ S e d:=λ⟨g,j⟩=>by let⟨u,I⟩:=i.BX (Xu n) (Xu _) À j;exact⟨g,_,u,I⟩
 let a:∀{e d},(e=ai (bG M)/\Nw w d)->vu C q lo H _ _ S e d:=λ⟨g,j⟩=>⟨g,_,_,i.nw j (Xu n) (Xu _)⟩;let v:=i.hl.n1;let x:=i.hl.n2;let l:T h.T<=900000000000:=by rw[i.hl.ot.1];let:=J0 (λm=>bR (0<m)) h.ay;omega
 obtain hk|hk|hk|hk:=hk;exact(xcu H p.q p.B p.C _ p.r p.f o w k hk).mono λ_ _=>c;exact(xcr H p.q p.B p.C _ p.r p.f o w k hk).mono λ_ _=>c;exact(xcs H p.q p.B p.C _ p.r p.f o w k À hk).mono λ_ _=>a;cases z:p.r.sn with|none=>exact(xct H p.q p.B p.C _ p.r p.f o w k z hk).mono λ_ _=>a|some s=>refine(zy2 H p.q p.B p.C _ p.r s p.f o w h.ps h.tv h.fv h.mv h.m h.T h.ay i.hl.b i.hl.t i.hl.m À l À k z À hk).mono λe d⟨g,j⟩=>⟨g,?_⟩;let⟨b,l1,W,X⟩:=i.hl.lc À j;exact⟨b,_,i.zL (Xu n) l1 W X⟩
def xjt(i:Is C q lo H n c' h (A++p::f) S w)(o:n<=120000)(hc:c'<=80000000000):aK prog 33 #[zq H,zq p.q] w λe w'=>e=ai (bG M)/\∃h,Is C q lo H n (c'+1) h (A++p::f) S w':=by
 let a:=i.pr p Â;let k:=i.hl.n1;let l:=i.hl.n2;let c:T h.F<=900000000000:=by rw[i.hl.of.1];let:=J0 (λm=>!bR (0<m)) h.ay;omega
 let d:T (wh p.f)<=1000000000:=by unfold wh;rw[jl];let:=wQ a.tw.tw.gF.ne;rw[a.tw.tw.wP]at this;let:=a.ok.q8;let:=a.ok.bU;omega
 refine(xyp H p.q p.B p.C _ p.r p.f w h.ps h.tv h.fv h.mv h.m h.F h.ay i.hl.b i.hl.f i.hl.m À c À a a.Nq d).mono λe s⟨g,j⟩=>⟨g,?_⟩;let⟨y,l1,z,u⟩:=i.hl.cW À j;exact⟨y,i.zL (zd n) l1 z u⟩
def xop(i:Is C q lo H n c' h (A++p::f) S w)(s:zN lo w o l):aK prog 67 #[zq p.q,o.f] w<|vu C q lo H (n+1) (c'+1) S:=by let a:=i.pr p Â;let g:=a.ok.bU;refine(jbt lo p.q p.B p.C _ p.r p.f o.f l w a s.f s.l1 s.l2 À λy d=>(i.pl p Â y<|ac d).1).mono λe j⟨b,c⟩=>?_;let⟨z,I⟩:=i.BX (Xu n) (Xu _) À c;exact⟨b,_,z,I⟩
def xjd(i:Is C q lo H n c' h (A++p::f) S w)(s:zN lo w o l)(G:n<120000)(hk:o.eH≠2):aK prog 68 #[zq p.q,bY o.G] w<|vu C q lo H (n+1) (c'+1) S:=by
 let d:=i.pr p Â;let c:∀x,tr p.B p.C p.r p.f x->lo<=x:=λx y=>(i.pl p Â x<|ac y).1;let b:∀{k e m},k<=2*(n+1)->(e=ai (bG M)/\sB k p.q p.B p.C p.r p.f w m)->vu C q lo H _ _ S e m:=λu⟨t,v⟩=>by let⟨W,I⟩:=i.BX (Xu n) (Xu _) u v;exact⟨t,_,W,I⟩
 let a:∀{e m},(e=ai (bG M)/\Nw w m)->vu C q lo H _ _ S e m:=λ⟨t,v⟩=>⟨t,_,_,i.nw v (Xu n) (Xu _)⟩;by_cases D:o.eH=3;exact(xcz p.q p.B p.C _ p.r p.f o w d D).mono λ_ _=>b À;by_cases j:o.eH=8\/o.eH=13\/o.eH=14;exact(vq p.q p.B p.C _ p.r p.f o w d (i.JU c) (λx y=>c x<|aJ y) (by let:=i.l4;omega) À j).mono λ_ _=>b<|zd _;by_cases z:o.eH=9;by_cases F:o.n<0\/o.m<0;exact(zza p.q p.B p.C _ p.r p.f o w d z F).mono λ_ _=>a;exact(xc1 p.q p.B p.C _ p.r p.f o w d z ⟨À,s.n⟩ ⟨À,s.m⟩).mono λ_ _=>b À;by_cases g:o.eH=11;exact(xc0 p.q p.B p.C _ p.r p.f o w d g).mono λ_ _=>a;exact(xje p.q o w ⟨hk,D,λe=>j<|aJ e,z,g,λe=>j<|ac<|aJ e,λe=>j<|ac<|ac e⟩).mono λ_ _=>a
end
variable[pn:A.Pn]
def ztz:vu cv tv lo H n c' w0 e (re w' t d)↔vu cv tv lo H n c' w0 e w':=⟨λ⟨a,h,L,i⟩=>⟨a,h,L,i.nw Tf (zd n) (zd _)⟩,λ⟨a,h,L,i⟩=>⟨a,h,L,i.nw (Nw.lQ (zj.refl ..) t d) (zd n) (zd _)⟩⟩
def xni{h A y p}(i:Is cv tv lo H n c' h (A++p::y) w0 w)(s:zN lo w o l)(m:n<120000):CC az 68 #[zq p.q,bY o.G] w<|vu cv tv lo H (n+1) (c'+1) w0:=by by_cases hk:o.eH=2;let a:∀x,tr p.B p.C p.r p.f x->lo<=x:=λx b=>(i.pl p Â x<|ac b).1;refine(xjf p.q p.B p.C _ p.r p.f o w (i.pr p Â) (i.JU a) (λx b=>a x<|aJ b) (by let:=i.l4;omega) À hk).U λe c⟨g,j⟩=>?_;let⟨L,I⟩:=i.BX (Xu n) (Xu _) À j;exact⟨g,_,L,I⟩;exact M4 O Ã Tryz.func68 O (λe c t d=>ztz.1) (λc⟨k,_⟩=>by cases k) λt d=>xjd (i.nw (Nw.lQ (zj.refl ..) t d) (zd n) (zd _)) (s.nw<|Nw.lQ (zj.refl ..) t d) m hk
end
section
open A
variable[pn:A.Pn]
attribute[local go_sem] zn zg
noncomputable def Gr:=Qf Tryz.f32.body
noncomputable def jfi:=Qa Gr
noncomputable def jfj:=Qa<|Qb Gr
noncomputable def jfk:=Qa<|Qb<|Qb Gr
noncomputable def jfl:=Qa<|Qn 3 Gr
noncomputable def jfm:=Qa<|Qn 4 Gr
noncomputable def r29:=Qa<|Qn 5 Gr
def xxr:Tryz.f32.body=Y (gU jfi<|gU jfj<|gU jfk<|gU jfl<|gU jfm<|gU r29 .ret):=Ä
def wi:¬Mc az 32:=Av Ã Ã Tryz.func32
def xve{h:Hv}{L:bA Pp}(i:Is cv tv lo H n c' h L w0 w)(s:zN lo w o l)(hn:n<120000)(hcc:c'<=80000000000):CC az 32 #[zq H,bY o.G] w<|vu cv tv lo H (n+1) (c'+1) w0:=by
 have hQ:rq<|sV az dA Tryz.f32<|vu cv tv lo H (n+1) (c'+1) w0:=Dh λe w' t d=>ztz;refine CC.kS bX wi (gy O Tryz.func32 O).1 Tryz.func32 xxr ?_;rw[show Tryz.f32.ntmps=57 from O];generalize hPX:sV az dA Tryz.f32 (vu cv tv lo H (n+1) (c'+1) w0)=PX at hQ;let x:∀a w',a.defers=[]->At a 4 (bG M)->(∃h L,Is cv tv lo H (n+1) (c'+1) h L w0 w')->PX .ret a w':=λa w' h1 h2 h3=>by rw[<-hPX];refine⟨h1,bG M,λt d=>⟨t,d,?_⟩,O,h3⟩;show(eR Tryz.f32 _).run prog _=_;unfold At at h2;simp[eR,Tryz.results32,go_sem,h2]
 let C:=hQ;let z:=hn;let⟨kd,oa,on,om,ok,os,ot,fl⟩:=o;let S0:=s;simp only[jd,xg,qy,jY,lh,qu,qw,Xa,Zh,qj,qg];refine so wi C λw1 bf ih ba bk=>?_;have N1:Nw w<|aF w1<|au (Sp.G ⟨kd,oa,on,om,ok,os,ot,fl⟩) 73:=(qm ih).aE<|zj.E _;let I1:=i.nw N1 (zd n) (zd _);let g:=S0.nw N1;have c:=xh.ex w1 (Sp.G ⟨kd,oa,on,om,ok,os,ot,fl⟩) 73;generalize hb:V (Z w1)=b at c;conv=>arg 2;whnf
 go_wp2;refine ba.o _ _ ?_;generalize aF w1 (au (Sp.G ⟨kd,oa,on,om,ok,os,ot,fl⟩) 73)=w2 at*;refine so wi C λw3 bg W bb bd=>?_;have S:=qm W;replace I1:=I1.nw S (zd n) (zd _);replace g:=g.nw S;replace c:=c.y S id;have c0:=c.i (v:=J kd) 0 O;have u:=c.i (v:=J oa) 1 O;have c2:=c.i (v:=J on) 2 O;have c3:=c.i (v:=J om) 3 O;have c4:=c.i (v:=J ok) 4 O;have c5:=c.i (v:=E os) 5 O;have c6:=c.i (v:=E ot) 6 O;have c7:=c.i (v:=fl) 7 O;by_cases k1:kd=1
 ·subst k1;conv=>arg 2;whnf
  go_wp2;refine(xoz (o:=⟨1,oa,on,om,ok,os,ot,fl⟩) I1 z).mono ?_;rintro e w4⟨rfl,m⟩;go_wp2;exact bd.o .ret _ _ Â<|x _ _ O O m
 have bn:(kd==1)=ao:=by simp[k1]
 conv=>arg 2;whnf
 go_wp2;refine bb.o _ _ ?_;refine so wi C λw4 bh X bc be=>?_;have ho:=qm X;replace I1:=I1.nw ho (zd n) (zd _);replace g:=g.nw ho;replace c:=c.y ho id;let⟨ap,cp,hps⟩:=I1.hl.p.dL;rw[jl]at hps;have D:N w4 (K H 0)=Y h.ps:=I1.hl.b.i 0 O;rw[hps]at D;have r:=hps;by_cases hL:(T L:U)=0
 ·have G:((T L:U)==0)=M:=by simp[hL]
  conv=>arg 2;whnf
  go_wp2;exact be.o .ret _ _ Â<|x _ _ O O ⟨_,_,I1.nw (zj.refl ..) (Xu n) (Xu _)⟩
 have G:((T L:U)==0)=ao:=jf.2 hL;conv=>arg 2;whnf
 go_wp2;refine bc.o _ _ ?_;refine so wi C λay bi hs v' bl=>?_;have wr:=qm hs;replace I1:=I1.nw wr (zd n) (zd _);replace g:=g.nw wr;replace c:=c.y wr id;have bm:Gc oa (T L)<T L:=xy5 oa À;generalize hpk:Gc oa (T L)=pk at*;have B:=hpk;let⟨q,e1,q1⟩:=I1.hl.p.lp (λ_=>O) (i:=pk) Á r;subst e1;obtain⟨A,p,cs,I,hq⟩:∃A p cs,L=A++p::cs/\L[pk]=p:=⟨L.take pk,L[pk],L.drop<|pk+1,Â,O⟩;have k0:N ay (K q pk)=zq p.q:=by have:=q1 0 Ã;rw[Cd,Yy,Fl,hq]at this;exact this
 have D:N ay (K H 0)=Y h.ps:=I1.hl.b.i 0 O;rw[r]at D;have u:=c.i (v:=J oa) 1 O;have i0:(0:U)<=(pk:U):=À
 have i1:(pk:U)<(T L:U):=À
 have hb:T L<=1000000000:=by have:=I1.ln;have:=z;omega
 have g':=g.a;have I5:Is cv tv lo H n c' h (A++p::cs) w0 ay:=by show Is ..;rw[<-I];exact I1
 clear q1 hpk I hq I1;generalize T L=len at*;conv=>arg 2;whnf
 go_region_held3 (λw'=>N w' (K H 0)=aB (Y ⟨q,0,R⟩) len cp/\N w' (K b 1)=J oa/\N w' (K q pk)=zq p.q) (first|exact⟨D,u,k0⟩)
  (first|(go_at_call 65;refine(xug oa len À hb g'.1 g'.2 _).mono ?_;rintro e w6⟨rfl,rfl⟩;rw[B]))
 refine v'.o _ _ ?_;clear v';refine so wi C λj bj F es k=>?_;have P:Nw ay j:=(zj.refl _ ay).W.aE<|qm F;replace I5:=I5.nw P (zd n) (zd _);replace g:=g.nw P;replace c:=c.y P id;have c0:=c.i (v:=J kd) 0 O;have u:=c.i (v:=J oa) 1 O;have c2:=c.i (v:=J on) 2 O;have c3:=c.i (v:=J om) 3 O;have c4:=c.i (v:=J ok) 4 O;have c5:=c.i (v:=E os) 5 O;have c6:=c.i (v:=E ot) 6 O;have c7:=c.i (v:=fl) 7 O;clear F P B r D k0 i0 i1 hb g' hL G;by_cases hx:kd=4\/kd=5\/kd=6\/kd=7
 ·have y:=zy3 (o:=⟨kd,oa,on,om,ok,os,ot,fl⟩) I5 z hcc hx;obtain rfl|rfl|rfl|rfl:=hx;all_goals
   conv=>arg 2;whnf
   go_wp2;refine y.mono ?_;rintro e w8⟨rfl,m⟩;go_wp2;exact zdl
 simp only[not_or]at hx;let⟨n4,n5,n6,n7⟩:=hx;have e4:(kd==4)=ao:=jf.2 n4;have e5:(kd==5)=ao:=jf.2 n5;have e6:(kd==6)=ao:=jf.2 n6;have e7:(kd==7)=ao:=jf.2 n7;by_cases kA:kd=10
 ·subst kA;have y:=xjt I5 (Nat.le_of_lt z) hcc;conv=>arg 2;whnf
  go_wp2;refine y.mono ?_;rintro e w8⟨rfl,m⟩;replace m:∃h L,Is cv tv lo H (n+1) (c'+1) h L w0 w8:=by obtain⟨h',m⟩:=m;exact⟨h',_,m.nw (zj.refl ..) (Xu n) (zd _)⟩
  go_wp2;exact zdl
 have eA:(kd==10)=ao:=jf.2 kA;by_cases kC:kd=12
 ·subst kC;have y:=xop I5 g;conv=>arg 2;whnf
  go_wp2;refine y.mono ?_;rintro e w8⟨rfl,m⟩;go_wp2;exact zdl
 have eC:(kd==12)=ao:=jf.2 kC;conv=>arg 2;whnf
 go_wp2;refine es.o _ _ ?_;clear es k;have hd:=xni I5 g z;refine Yp.vU bX wi bD ?_;conv=>arg 3;whnf
 refine Yp.ig bX wi ?_;refine vh (val:=zq p.q) wi ⟨O,O⟩ ?_;refine Vh.eO (val:=bY (Sp.G ⟨kd,oa,on,om,ok,os,ot,fl⟩)) (w':=j) bX wi O (λt d=>⟨t,d,?_⟩) ?_
 ·have g0:N (re j t d) (K b 0)=_:=c0;have q:N (re j t d) (K b 1)=_:=u;have g2:N (re j t d) (K b 2)=_:=c2;have g3:N (re j t d) (K b 3)=_:=c3;have g4:N (re j t d) (K b 4)=_:=c4;have g5:N (re j t d) (K b 5)=_:=c5;have g6:N (re j t d) (K b 6)=_:=c6;have g7:N (re j t d) (K b 7)=_:=c7;show(aR ..).run prog _=_;simp[aR,go_sem,ge,g0,q,g2,g3,g4,g5,g6,g7,Sp.G]
 refine Vh.lP (f:=68) (args:=#[zq p.q,bY<|Sp.G ⟨kd,oa,on,om,ok,os,ot,fl⟩]) bX wi O O (λv=>î) (gy O Tryz.func68 O) hd ?_ ?_;rotate_left;rintro ch wx⟨he,_⟩;cases he;rintro v8 w8⟨he,m⟩;cases he;refine vh (val:=bG M) wi ⟨O,O⟩ ?_;refine Vh.nil bX wi ?_;refine Yp.zU bX wi O ?_;exact x _ _ O O m
end
end P
namespace A.Tryq
@[simp]def func31:=qd Tryz.func31
@[simp]def func51:=qd Tryz.func51
@[simp]def func52:=qd Tryz.func52
@[simp]def func54:=qd Tryz.func54
@[simp]def func56:=qd Tryz.func56
@[simp]def func58:=qd Tryz.func58
@[simp]def func59:=qd Tryz.func59
@[simp]def func60:=qd Tryz.func60
@[simp]def func62:=qd Tryz.func62
end A.Tryq
namespace P
open A.Tryq Go.RowKit
section
attribute[local go_sem]zn zg
abbrev Anz(r:Zl)(z:U)(w:Zy)(e:kH)(w':Zy):Prop:=e=ai (cE #[E r,J z])/\aP (V<|Z w) w w'
def Btz(p q:Q)(a:Za):Prop:=∃r z,(∀w,iN w->aK prog p a w (Anz r z w))/\∀w,Yq w->aK prog q a w (Anz r z w)
def eBe{P:Prop}(h:P:=by(first|(show aK prog 51 _ _ _;go_enter func51.1,Tryz.ntmps51)|(show aK prog 52 _ _ _;go_enter func52.1,Tryz.ntmps52)|(show aK prog 53 _ _ _;go_enter func53.1,Tryz.ntmps53)|(show aK prog 54 _ _ _;go_enter func54.1,Tryz.ntmps54)|(show aK prog 55 _ _ _;go_enter func55.1,Tryz.ntmps55)|(show aK prog 56 _ _ _;go_enter func56.1,Tryz.ntmps56)|(show aK prog 59 _ _ _;go_enter func59.1,Tryz.ntmps59)|(show aK prog 60 _ _ _;go_enter func60.1,Tryz.ntmps60)|(show aK prog 61 _ _ _;go_enter func61.1,Tryz.ntmps61)|(show aK prog 62 _ _ _;go_enter func62.1,Tryz.ntmps62));go_wp2;(first|(go_ret2;exact⟨O,zt _ _⟩)|(go_fit (y);rintro e w1⟨rfl,c⟩;go_wp2;go_ret2;exact⟨O,c⟩))):=h
def eB{p q a}(z)(h:∀w,aK prog p a w (Anz [] z w):=by intro w;exact eBe)(k:∀w,aK prog q a w (Anz [] z w):=by intro w;exact eBe):Btz p q a:=⟨[],z,λw _=>h w,λw _=>k w⟩
def bt1(S):Btz 51 52 #[E S]:=if h:4096<T S then eB 1 else⟨oY S,0,λw y=>let y:=CF S À w y;eBe,λw y=>let y:=Cw S À w y;eBe⟩
def bt2(S t):Btz 53 54 #[E S,E t]:=if h:4096<T S then eB 1 else if k:4096<T t then eB 1 else⟨Wu S t,0,λw y=>xwz S t À À w y,λw y=>let y:=FJ S t À À w y;eBe⟩
def bt3(S t u)(n:U):Btz 55 56 #[E S,E t,E u,J n]:=if a:4096<T S then eB 1 else if b:4096<T t then eB 1 else if c:4063<T u then eB 1 else if d:n<0 then eB 2 else if e:255<n then eB 2 else by
 obtain⟨k,rfl⟩:=Int.eq_ofNat_of_zero_le (by omega:0<=n);exact⟨yu (Wu t S) u k,0,λw y=>xh2 S t u À À À k À w y,λw y=>let y:=xa1 S t u À À À k À w y;eBe⟩
def bt6(k a x):Btz 61 62 #[E k,E a,E x]:=if h:T k=16 then if ha:T a=8 then if hx:4096<T x then eB 1 else⟨nT k a x,0,λw _=>xie k a x h ha À w,λw _=>let y:=QZ k a x h ha À w;eBe⟩else let:¬((T a:Q):U)=8:=À;eB 2 else let:¬((T k:Q):U)=16:=À;eB 2
section
attribute[local go_sem↓]xrq xru
def conv16(x:Zl)(hx:T x=16):∃(cp:Zy->Q) (cw:Zy->Zy),(∀W,(convert 9 100 (E x)).run prog W=dG (aB (Y ⟨V (Z W),0,R⟩) 16 (cp W)) (cw W))/\(∀W,(cw W).rangeAt (V (Z W)) 0 (kb (λi=>x.getD i 0) 16))/\∀W,aP (V<|Z W) W (cw W):=by
 refine⟨λW=>grownCap W 16 0 5,λW=>aF W.drew (.cells (bytesRow (st x) (grownCap W 16 0 5)) 5 ((bytesRow (st x) (grownCap W 16 0 5)).size,(bytesRow (st x) (grownCap W 16 0 5)).size+1)),λW=>?_,λW=>?_,λW=>((zt ..).drew).alloc (zd _) _⟩
 · let h:=run_bytes_of_string (P:=prog) W 9 100 5 (st x) dK cT eY;rw[show(st x).size=16 by simp[zn,hx]]at h;exact h
 intro j v hv;let hj:j<16:=by let:=(List.getElem?_eq_some_iff.1 hv).1;simpa[kb] using this
 let hrow:=heap_alloc_new W.drew (.cells (bytesRow (st x) (grownCap W 16 0 5)) 5 ((bytesRow (st x) (grownCap W 16 0 5)).size,(bytesRow (st x) (grownCap W 16 0 5)).size+1));rw[Nat.zero_add,←hv];apply(cell_of_row _ _ _ _ _ _ hrow).trans;unfold bytesRow;rw[show(st x).size=16 by simp[zn,hx]];rw[Array.getElem?_append_left (by simp[st,hx,hj])];simp[st,hx,hj,kb,e8]
def rgB{W U':Zy}{b}{X:Ze}(h:W.rangeAt b 0 X)(k:aP (V<|Z W) W U'):U'.rangeAt b 0 X:=λj u e=>by
 let:=h j u e;exact(k.cell (p:=⟨b,0+j,R⟩) (js this)).trans this
def thB{W U':Zy}{b}(h:W.there b 0 16)(k:aP (V<|Z W) W U'):U'.there b 0 16:=λj e=>by
 let⟨u,hu⟩:=Option.isSome_iff_exists.1 (h 0 Ã).1;let hl:b<V (Z W):=js hu;let c:=k.cell (p:=⟨b,0+j,R⟩) hl;let f:aX U' ⟨b,0+j,R⟩=aX W ⟨b,0+j,R⟩:=by unfold Go.World.frozen?;rw[k.block b hl]
 rw[c,f];exact h j e
def arr16(W:Zy)(b cap:Q):(Instr.arrayAt 184 (aB (Y ⟨b,0,R⟩) 16 cap)).run prog W=dG (zq b) W:=by
 unfold Instr.arrayAt;simp[Go.Sem.run_bind,Go.run_underlying ey]
section
variable{P:Prop}
def zqA(h:P:=by have q1:=H1.o;have q2:=H2.o;have q3:=H3.o;have q4:=H4.o;have q5:=H5.o;have q6:=H6.o;have q7:=H7.o;have q8:=H8.o;have q9:=HT.o;have qa:∀W:Zy,V (Z W.drew)=V (Z W):=λ_=>rfl;have qb:∀W U':Zy,aP (V (Z W)) W U'->V (Z W)<=V (Z U'):=λ_ _ h=>h.size;grind[World.size_alloc]):=h
end
def blkR{w:Zy}{k x:Zl}(hk:T k=16)(hx:T x=16)(aD:Exit->mh->Zy->Prop)(c2 c3 c4 c5 c6 c7 c8 c9 c10 c11 c12 c13 c14 c15 c16 c17 c18 c19 c20 c21 c22 c23:Zv)
  (hQ:∀(u15 u16 u17 u18 u19 u20 u21:Zv) (b:Q) (w9:Zy),V (Z w)<=b->w9.rangeAt b 0 (kb (Yr (λi=>k.getD i 0) λi=>x.getD i 0) 16)->aP (V<|Z w) w w9->aD eE ⟨#[E k,E x,c2,c3,c4,c5,zq b,c7,c8,c9,c10,c11,c12,c13,c14,u15,u16,u17,u18,u19,u20,u21,c22,c23],[]⟩ w9):Code.wp prog (Pv 3 Tryz.f59) aD ⟨#[E k,E x,c2,c3,c4,c5,c6,c7,c8,c9,c10,c11,c12,c13,c14,c15,c16,c17,c18,c19,c20,c21,c22,c23],[]⟩ w:=by
 have HN:=xe (ztl k hk);obtain⟨cp,cw,hcv,hbase,hcb⟩:=conv16 x hx;have HE:=xe (λg W h=>zzd (λi=>k.getD i 0) (λi=>x.getD i 0) g W h);have HL:=xe λ(W:Zy) b (h:W.rangeAt b 0 (kb (λi=>x.getD i 0) 16))=>FU W b 0 _ h;have HS:=xe λ(W:Zy) b (h:W.there b 0 16)=>Ps W b 0 (Yr (λi=>k.getD i 0) λi=>x.getD i 0) h;have HR:=xe λ(W:Zy) b (h:W.there b 0 16)=>World.rangeAt_setCells_same W b 0 (kb (Yr (λi=>k.getD i 0) λi=>x.getD i 0) 16) (by rw[show T (kb (Yr (λi=>k.getD i 0) λi=>x.getD i 0) 16)=16 by simp[kb]];exact h);have HB:=xe λ(W:Zy) b (h:V (Z w)<=b) (hh:aP (V (Z w)) w W)=>LC h (kb (Yr (λi=>k.getD i 0) λi=>x.getD i 0) 16) 0 W hh;have HT:=xe λ(W:Zy)=>(show (aF W (au #[.int .u8 0,.int .u8 0,.int .u8 0,.int .u8 0,.int .u8 0,.int .u8 0,.int .u8 0,.int .u8 0,.int .u8 0,.int .u8 0,.int .u8 0,.int .u8 0,.int .u8 0,.int .u8 0,.int .u8 0,.int .u8 0] 184)).there (V (Z W)) 0 16 from ia.tW (f:=zF) (n:=16) (t:=184) (o:=0) (m:=16) (Go.heap_alloc_new _ _) Ã);generalize kb (Yr (λi=>k.getD i 0) λi=>x.getD i 0) 16=XX at *;generalize kb (λi=>x.getD i 0) 16=X at *;generalize (λi=>k.getD i 0)=key at *;have hsp:=arr16;have G1:∀W U' b,W.rangeAt b 0 X->aP (V (Z W)) W U'->U'.rangeAt b 0 X:=λ_ _ _=>rgB;have G2:∀W U' b,W.there b 0 16->aP (V (Z W)) W U'->U'.there b 0 16:=λ_ _ _=>thB;have G3:∀(W U':Zy) g f,ia W g f 432 246->aP (V (Z W)) W U'->ia U' g f 432 246:=λ_ _ _ _ h k=>h.ac k (js (h.i (k:=0) Ã));have G4:∀a b c:Zy,aP (V (Z a)) a b->aP (V (Z b)) b c->aP (V (Z a)) a c:=λ_ _ _=>Xs;have G5:∀W:Zy,aP (V (Z W)) W W.drew:=λ_=>(zt _ _).drew;have G6:∀(W:Zy) o,aP (V (Z W)) W (aF W o):=λ_ _=>(zt _ _).alloc (zd _) _;have H1:=xe G1;have H2:=xe G2;have H3:=xe G3;have H4:=xe G4;have H5:=xe G5;have H6:=xe G6;have H7:=xe hbase;have H8:=xe hcb;clear G1 G2 G3 G4 G5 G6 hbase hcb;conv=>arg 2;whnf
 refine wp_region_noPanic ?_;go_region_with (first
  |(go_at_call 110;refine(HN.o _).mono ?_;rintro en v⟨g,rfl,hg,rowv,hb3⟩)
  |(go_at_call 111;refine(HE.o _ _ zqA).mono ?_;rintro en v4⟨rfl,hb4⟩)
  |(rw[HL.o];rotate_left 1;exact zqA;go_simp)
  |(rw[HS.o];rotate_left 1;exact zqA;go_simp))
 all_goals exact NoPanic.normal (hQ _ _ _ _ _ _ _ _ _ zqA (HR.o _ _ zqA) (HB.o _ _ zqA zqA))
attribute[-go_sem]xrq xru
def pblk(k x)(hk:T k=16)(hx:T x=16)(w):aK prog 59 #[E k,E x] w (Anz (kl (Yr (λi=>k.getD i 0) λi=>x.getD i 0) 16) 0 w):=by
 go_enter func59.1,Tryz.ntmps59;go_upto_region 3 with fail;refine blkR hk hx _ _ _ _ _ _ _ _ _ _ _ _ _ _ _ _ _ _ _ _ _ _ _ ?_;intro v15 v16 v17 v18 v19 v20 v21 b w9 hle hr hb;have hcv:(convert 100 9 (aB (Y ⟨b,0,R⟩) 16 16)).run prog w9=dG (ak (st (kl (Yr (λi=>k.getD i 0) λi=>x.getD i 0) 16))) w9:=by
  have h:=run_convert_bytes_back (P:=prog) w9 100 9 5 ⟨b,0,R⟩ 16 (kl (Yr (λi=>k.getD i 0) λi=>x.getD i 0) 16) cT eY dK (λj hj=>by
   rw[Go.Addr.add_mid];have hj:j<16:=by simpa[kl] using hj
   rw[hr j (.int .u8 (e8 (Yr (λi=>k.getD i 0) (λi=>x.getD i 0) j))) (by simp[kb,hj])];simp[kl,e8])
  rw[show T (kl (Yr (λi=>k.getD i 0) λi=>x.getD i 0) 16)=16 by simp[kl]]at h;exact h
 clear hr;go_wp2;go_ret2;exact⟨O,hb⟩
end
section
attribute[local go_sem↓]ĺ Ĺ
def rblk(k x)(hk:T k=16)(hx:T x=16)(w):aK prog 60 #[E k,E x] w (Anz (kl (Yr (λi=>k.getD i 0) λi=>x.getD i 0) 16) 0 w):=by
 have bs:=(zero_of_info Ĝ).1;have bl:V Ap=V (ki Sn 256).toArray:=by rw[QO,xV,xV]
 have bf:(prog.info? 188).map (·.size)=Y (V (ki Sn 256).toArray):=by rw[xV];exact QS
 have bj:=Mq Sn 256;have hr:(prog.info? 188).map (·.size)=Y (T (ki Sn 256)):=by rw[Mp];exact QS
 obtain⟨c,ih⟩:∃c:Q->Z8,(λi=>k.getD i 0)=c:=⟨_,O⟩;have HC:=xe (λW=>(show aK prog 114 #[E k,bY (ki Sn 256).toArray] W λen w'=>en=ai (bY (ki (iO c) 176).toArray)/\aP (V<|Z W) W w' from by grind [zxi]));let⟨aw,hR⟩:=JP<|kl (Yr c λi=>x.getD i 0) 16;have HB:=xe (λW=>(show aK prog 113 #[E x,bY (ki (iO c) 176).toArray,bY (ki Sn 256).toArray] W λen w'=>en=ai (E aw)/\aP (V<|Z W) W w' from by rw[←hR];exact xi5 c x hx W));have L:∀W b,Jp W b Sn 256 188->(L6<|K b 0).run prog W=dG (bY (ki Sn 256).toArray) W:=λW b h=>run_loadVar_mid W b 0 188 (ki Sn 256) _ h.mE lA O hr;rw[ih,hR];clear ih hR hr;generalize Ap=zz6 at *;go_enter func60.1,Tryz.ntmps60;go_wp2;refine(xi8 _).mono ?_;rintro en w1⟨rfl,r⟩;have t:aP (V<|Z w) w<|aF w1<|au (ki Sn 256).toArray 188:=r.alloc r.size _;have D:Jp (aF w1<|au (ki Sn 256).toArray 188) (V<|Z w1) Sn 256 188:=Go.heap_alloc_new _ _;go_upto_region 4 with(refine Go.wpList_store_row O 188 _ _ O w1.heap.size _ O O 188 zz6 (Go.heap_alloc_new _ _) bf bl bj ?_;rw[Go.World.setRow_alloc_new]);generalize aF w1 (au (ki Sn 256).toArray 188)=w2 at*;generalize V (Z w1)=b at*;have B:=D.lt Ã;have HD:=xe D;have S0:=L w2.drew b D;have Lx:=xe L;clear L D bs bl bf bj;generalize ki Sn 256=X at *;generalize ki (iO c) 176=ac at *;go_region_with (first
  |(go_at_call 114;refine(HC.o _).mono ?_;rintro en w3⟨rfl,h3⟩;have S2:=Lx.o w3 b (HD.o.ac (w:=w2.drew) h3 B))
  |(go_at_call 113;refine(HB.o _).mono ?_;rintro en w4⟨rfl,h4⟩))
 all_goals go_wp2
 all_goals go_ret2
 all_goals exact⟨O,t.drew.trans ((h3.mono t.size).trans (h4.mono (Nat.le_trans t.size h3.size)))⟩
end
def bt5(k x):Btz 59 60 #[E k,E x]:=if h:T k=16 then if hx:T x=16 then⟨_,0,λw _=>pblk k x h hx w,λw _=>rblk k x h hx w⟩else have:¬((T x:Q):U)=16:=À;eB 2 else have:¬((T k:Q):U)=16:=À;eB 2
def bt4a(L:bA Zl)(g y cap w)(f:iN w)(h:wN w g y L)(hb:¬(T L<=256/\∀x∈L,T x<=4095)):aK prog 57 #[aB (Y ⟨g,y,R⟩) (T L) cap] w (Anz [] 1 w):=by
 have h0:0<T L:=by
  cases L
  · simp at hb
  simp
 by_cases c:256<T L
 · have:(256:U)<(T L:Q):=À;go_enter func57.1,Tryz.ntmps57;go_wp2;go_ret2;exact⟨O,zt _ _⟩
 have hb:¬∀x∈L,T x<=4095:=λd=>hb ⟨by omega,d⟩;have HB:=xe hb;have HL:=xe h;have h1:¬(256:U)<(T L:Q):=À;clear hb h;go_enter func57.1,Tryz.ntmps57;go_wp2;go_loopw [11] (λi wr=>∃k:Q,k<=T L/\i=J k/\wr=w/\H (∀j (hj:j<k) (h:j<T L),T L[j]<=4095)) (λi _=>bL (T L-bZ i))
 case atStart=>exact⟨0,by omega,O,O,xe λj h=>by omega⟩
 obtain⟨k,hk,rfl,rfl,aD⟩:=hrel;by_cases b:k<T L
 · let⟨x,l⟩:=JP<|L[k];have m:N wr (K g<|y+k)=E x:=by have:=HL.o k b;rw[l]at this;exact this
   have o:(k:U)<(T L:Q):=À;by_cases p:4095<T x
   · clear l;go_wp2;go_ret2;exact⟨O,zt _ _⟩
   have Q2:H (∀j (hj:j<k+1) (h:j<T L),T L[j]<=4095):=xe λj hj h=>by
    by_cases e:j=k
    · subst e;rw[l];omega
    exact aD.o j À h
   clear l;go_wp2;go_roundw
   case rel=>exact⟨k+1,by omega,by go_num,trivial,Q2⟩
   case measure=>simp[bZ];omega
 exact absurd (λx hx=>by obtain⟨j,hj,rfl⟩:=List.getElem_of_mem hx;exact aD.o j À hj) HB.o
def Hsx(w:Zy)(a:dD Go.Addr)(L:bA Zl):Prop:=0<T L->∃g y,a=Y ⟨g,y,R⟩/\wN w g y L
def Hsx.ac{w w' a L}(h:Hsx w a L)(b:aP (V<|Z w) w w'):Hsx w' a L:=λo=>by
 obtain⟨g,y,e,c⟩:=h o;exact⟨g,y,e,λj d=>(b.cell (js<|c j d)).trans<|c j d⟩
def bt4b(L r z)(g y cap w)(hc:T L<=cap)(h2:Yq w)(h:wN w g y L)(h0:0<T L)(hr:(T L<=256/\(∀x∈L,T x<=4095)/\r=J9 L/\z=0)\/(¬(T L<=256/\∀x∈L,T x<=4095)/\r=[]/\z=1)):aK prog 58 #[aB (Y ⟨g,y,R⟩) (T L) cap] w (Anz r z w):=by
 by_cases c:256<T L
 · obtain⟨a,-⟩|⟨-,rfl,rfl⟩:=hr
   · omega
   have:(256:U)<(T L:Q):=À;go_enter func58.1,Tryz.ntmps58;go_wp2;go_ret2;exact⟨O,zt _ _⟩
 have HR:=xe hr;have HL:=xe h;have h1:¬(256:U)<(T L:Q):=À;clear hr h;go_enter func58.1,Tryz.ntmps58;go_wp2;go_loopw [4] (λi wr=>∃k:Q,k<=T L/\i=J k/\wr=w/\H (∀j (hj:j<k) (h:j<T L),T L[j]<=4095)) (λi _=>bL (T L-bZ i))
 case atStart=>exact⟨0,by omega,O,O,xe λj h=>by omega⟩
 obtain⟨k,hk,rfl,rfl,aD⟩:=hrel;by_cases b:k<T L
 · let⟨x,l⟩:=JP<|L[k];have m:N wr (K g<|y+k)=E x:=by have:=HL.o k b;rw[l]at this;exact this
   have o:(k:U)<(T L:Q):=À;by_cases p:4095<T x
   · have:r=[]/\z=1:=by
      obtain⟨-,a,-⟩|a:=HR.o
      · have:=a _ (List.getElem_mem b);rw[l]at this;omega
      exact a.2
     obtain⟨rfl,rfl⟩:=this;clear l;go_wp2;go_ret2;exact⟨O,zt _ _⟩
   have Q2:H (∀j (hj:j<k+1) (h:j<T L),T L[j]<=4095):=xe λj hj h=>by
    by_cases e:j=k
    · subst e;rw[l];omega
    exact aD.o j À h
   clear l;go_wp2;go_roundw
   case rel=>exact⟨k+1,by omega,by go_num,trivial,Q2⟩
   case measure=>simp[bZ];omega
 obtain rfl:k=T L:=À;have a:∀x∈L,T x<=4095:=λx hx=>by obtain⟨j,hj,rfl⟩:=List.getElem_of_mem hx;exact aD.o j hj hj
 have:r=J9 L/\z=0:=by
  obtain⟨-,-,e⟩|⟨e,-⟩:=HR.o
  · exact e
  exact absurd ⟨by omega,a⟩ e
 obtain⟨rfl,rfl⟩:=this;have A:=xe a;have i1:¬((T L:Q):U)<(T L:Q):=À;clear a;go_wp2;go_fit (xkr (T L) L O h0 À A.o g y cap hc _ h2 HL.o);rintro e w1⟨rfl,hb⟩;go_wp2;go_ret2;exact⟨O,hb⟩
def bt4(L):∃r z,(∀w a cap,iN w->Hsx w a L->aK prog 57 #[aB a (T L) cap] w (Anz r z w))/\∀w a cap,T L<=cap->Yq w->Hsx w a L->aK prog 58 #[aB a (T L) cap] w (Anz r z w):=by
 by_cases h0:L=[]
 · subst h0;refine⟨J9 [],0,λw a cap t _=>ĕ a cap w t,λw a cap _ t _=>?_⟩;go_enter func58.1,Tryz.ntmps58;go_wp2;go_loopw [4] (λi wr=>i=J 0/\wr=w) (λ_ _=>0)
   case atStart=>exact⟨O,O⟩
   obtain⟨rfl,rfl⟩:=hrel;go_wp2;go_fit (xks a cap _ t);rintro e w1⟨rfl,c⟩;go_wp2;go_ret2;exact⟨O,c⟩
 have h0:=List.length_pos_iff.2 h0;by_cases h:T L<=256/\∀x∈L,T x<=4095
 · refine⟨J9 L,0,λw a cap t k=>?_,λw a cap c t k=>?_⟩
   · obtain⟨g,y,rfl,k'⟩:=k h0;exact xrt L h0 h.1 h.2 g y cap w t k'
   obtain⟨g,y,rfl,k'⟩:=k h0;exact bt4b L _ _ g y cap w c t k' h0 (.inl ⟨h.1,h.2,O,O⟩)
 refine⟨[],1,λw a cap t k=>?_,λw a cap c t k=>?_⟩
 · obtain⟨g,y,rfl,k'⟩:=k h0;exact bt4a L g y cap w t k' h
 obtain⟨g,y,rfl,k'⟩:=k h0;exact bt4b L _ _ g y cap w c t k' h0 (.inr ⟨h,O,O⟩)
def Rw.hsx{w a cap}{L:bA Zl}(h:Rw w 9 1 o5 (aB a (T L) cap) L):Hsx w a L:=λo=>by
 obtain⟨g,rfl,-⟩:=h.lp (λ_=>O) o O;refine⟨g,0,O,λj d=>?_⟩;obtain⟨g2,e,k⟩:=h.lp (λ_=>O) d O;cases e;have:=k 0 Ã;simpa[o5] using this
def Sgx.hsx{w lo a cap}{L:bA Zl}(h:Sgx 1 lo w (aB a (T L) cap) L o5):Hsx w a L:=λo=>by
 obtain⟨g,y,rfl,-,-⟩:=h.lp o;refine⟨g,y,O,λj d=>?_⟩;obtain⟨g2,y2,e,-,k⟩:=h.lp d;cases e;have:=k 0 _ O;simpa using this
def clG(kd n:U)(S t u:Zl)(v:Zv):Za:=#[J kd,J n,E S,E t,E u,v]
def called_any(kd n:U)(S t u:Zl)(lo)(w:Zy)(h1:iN w)(h2:Yq w)(v)(L:bA Zl)(hv:Sgx 1 lo w v L o5)(hT:T L<=100000000)(hlo:lo<=V (Z w)):aK prog 31 #[bY (clG kd n S t u v)] w λe w'=>e=ai (bG M)/\Nw w w':=by
 have b0:Nw w (aF w<|au (clG kd n S t u v) 62):=zj.E _;have B0:=xh.ex w (clG kd n S t u v) 62;have H1:=xe (h1.nw b0);have H2:=xe (h2.nw b0);have HV:=xe (hv.nw b0);clear h1 h2 hv;have hsz:V (Z w)<V (Z (aF w<|au (clG kd n S t u v) 62)):=B0.lt;go_enter func31.1,Tryz.ntmps31;go_upto_region 5 with fail;generalize aF w (au (clG kd n S t u v) 62)=w0 at *;have c0:=B0.i (v:=J kd) 0 O;have c1:=B0.i (v:=J n) 1 O;have c2:=B0.i (v:=E S) 2 O;have c3:=B0.i (v:=E t) 3 O;have c4:=B0.i (v:=E u) 4 O;have c5:=B0.i (v:=v) 5 O;by_cases ha:kd=1\/kd=2\/kd=3\/kd=5\/kd=6
 · obtain rfl|rfl|rfl|rfl|rfl:=ha;obtain⟨r,z,C,D⟩:=bt1 S;rotate_left;obtain⟨r,z,C,D⟩:=bt2 S t;rotate_left;obtain⟨r,z,C,D⟩:=bt3 S t u n;rotate_left;obtain⟨r,z,C,D⟩:=bt5 S t;rotate_left;obtain⟨r,z,C,D⟩:=bt6 S t u;rotate_left
   all_goals
    have HC:=xe C;have HD:=xe D;clear C D;go_wp2;refine(HC.o _ H1.o).mono ?_;rintro e w1⟨rfl,b1⟩;have N1:Nw w0 w1:=zj.J b1;have B1:=B0.nw N1;have H3:=xe (H2.o.nw N1);clear c0 c1 c2 c3 c4 c5 b1;have c1:=B1.i (v:=J n) 1 O;have c2:=B1.i (v:=E S) 2 O;have c3:=B1.i (v:=E t) 3 O;have c4:=B1.i (v:=E u) 4 O;go_wp2;refine(HD.o _ H3.o).mono ?_;rintro e w2⟨rfl,b2⟩;go_wp2;refine(vR _ _).mono ?_;rintro e w3⟨rfl,rfl⟩;go_wp2;go_ret;exact⟨O,b0.aE (N1.aE (zj.J b2))⟩
 simp only[not_or]at ha;obtain⟨n1,n2,n3,n5,n6⟩:=ha;have e1:(kd==1)=ao:=beq_eq_false_iff_ne.2 n1;have e2:(kd==2)=ao:=beq_eq_false_iff_ne.2 n2;have e3:(kd==3)=ao:=beq_eq_false_iff_ne.2 n3;have e5:(kd==5)=ao:=beq_eq_false_iff_ne.2 n5;have e6:(kd==6)=ao:=beq_eq_false_iff_ne.2 n6;by_cases k4:kd=4;rotate_left
 · have e4:(kd==4)=ao:=beq_eq_false_iff_ne.2 k4;go_wp2;refine(vR _ _).mono ?_;rintro e w3⟨rfl,rfl⟩;go_wp2;go_ret;exact⟨O,b0⟩
 subst k4;clear e1 e2 e3 e5 e6 n1 n2 n3 n5 n6;obtain⟨r,z,C,D⟩:=bt4 L;have HC:=xe C;have HD:=xe D;obtain⟨pa,cap,rfl,hcap,-,-⟩:=id HV.o;have NA:=xe (zj.E (S:=λ_=>False) (w:=w0) (au #[] 9));have E0:=xe (Rw.JO w0 9 1 o5);clear C D;go_wp2_with (refine Rw.JPx Ew E0.o (Zz _) hT (HV.o.nw NA.o) Ã (λ_=>O) (λu b=>by obtain⟨p,-,a⟩:=List.mem_flatMap.1 b;simp only[o5,List.mem_singleton]at a;subst a;rfl) O O O O ?_);intro v1 w1 r1 b1 n1;have N1:Nw w0 w1:=NA.o.lO b1 λy D=>ac (by cases D;simp);obtain⟨a1,k1,rfl⟩:=r1.dL;have B1:=B0.nw N1;have V1:=HV.o.nw N1;have H3:=xe (H1.o.nw N1);have H4:=xe (H2.o.nw N1);have R1:=xe r1;clear c0 c1 c2 c3 c4 c5 b1 n1 E0 NA;have c5:=B1.i (v:=aB pa (T L) cap) 5 O;go_wp2;refine(HC.o w1 a1 k1 H3.o r1.hsx).mono ?_;rintro e w2⟨rfl,b2⟩;have N2:Nw w1 w2:=zj.J b2;have B2:=B1.nw N2;have V2:=V1.nw N2;have R2:=xe (R1.o.y N2 λ_ _=>id);have H5:=xe (H4.o.nw N2);clear c5 b2 r1;have c5:=B2.i (v:=aB pa (T L) cap) 5 O;go_wp2;refine(HD.o w2 pa cap hcap H5.o V2.hsx).mono ?_;rintro e w3⟨rfl,b3⟩;have N3:Nw w2 w3:=zj.J b3;have B3:=xe (B2.nw N3);have V3:=xe (V2.nw N3);have R3:=xe (R2.o.y N3 λ_ _=>id);have NN:=xe (b0.aE (N1.aE (N2.aE N3)));clear c5 b3 V1 V2 R1 R2 B0 B1 B2 HC HD H1 H2 H3 H4 H5 HV b0 N1 N2 N3;go_wp2;go_loopw [8] (λi wr=>∃k:Q,k<=T L/\i=J k/\Nw w3 wr) (λi _=>bL (T L-bZ i))
 case atStart=>exact⟨0,by omega,O,zj.refl _ _⟩
 obtain⟨k,hk,rfl,q⟩:=hrel;have aD:=xe q;by_cases b:k<T L
 · have o:(k:U)<(T L:Q):=À;have c5:=(B3.o.nw q).i (v:=aB pa (T L) cap) 5 O;obtain⟨g,rfl,k2⟩:=(R3.o.y q λ_ _=>id).lp (λ_=>O) b O;obtain⟨g3,y3,rfl,-,k3⟩:=(V3.o.nw q).lp b;have d0:N wr (K g k)=E L[k]:=by have:=k2 0 Ã;simpa[o5]using this
   have d1:N wr (K g3<|y3+k)=E L[k]:=by have:=k3 0 _ O;simpa using this
   clear k2 k3 q;generalize L[k]=x at *;go_wp2;go_quiet (fail);go_wp2;go_roundw
   case rel=>exact⟨k+1,by omega,by go_num,aD.o.fV⟩
   case measure=>simp[bZ];omega
 obtain rfl:k=T L:=À;have i1:¬((T L:Q):U)<(T L:Q):=À;clear q;go_wp2;refine(vR _ _).mono ?_;rintro e w4⟨rfl,rfl⟩;go_wp2;go_ret;exact⟨O,NN.o.aE aD.o⟩
end
end P
namespace P
variable{B d g k n H x lo j c':Q}{r r':Sr}{D:bA Sp}{ay:bA Int}{a:mh}{w0 w w':Zy}{e:kH}{t:Q->Question->Q}{cv tv v:Zv}{l:FL}{o:Sp}
open A.Tryq Go.RowKit
section
open A
attribute[local go_sem] zn zg
section
def SL(lo:Q)(w:Zy)(v:Zv)(D:bA Sp):Prop:=Sgx 8 lo w v D (λo=>eV o.G)/\T D<120000/\∀i (h:i<T D),∃l,zN lo w {D[i]with eH:=0} l
variable[pn:A.Pn]
noncomputable def c8:=Qf Tryz.f8.body
noncomputable def x8a:=Qa c8
noncomputable def r8a:=Qa<|Qb c8
noncomputable def x8b:=Qa<|Qn 2 c8
noncomputable def x8l:=Qa<|Qn 3 c8
noncomputable def x8c:=Qa<|Qn 4 c8
noncomputable def x8d:=Qa<|Qa<|Qn 5 c8
noncomputable def DB:=Ql<|Qk<|Qb<|Qa<|Qn 5 c8
noncomputable def x8e:=Qa DB
noncomputable def r8b:=Qa<|Qk<|Qa<|Qb DB
noncomputable def x8g:=Qb<|Qk<|Qa<|Qb DB
noncomputable def Nu:=Qb<|Qb DB
noncomputable def y8:=Qn 6 c8
def ja1:Tryz.f8.body=Y (gU x8a<|gU r8a<|gU x8b<|gU x8l<|gU x8c<|gU (gU x8d<|.block 2<|.loop DB) y8):=by kernel_rfl
def xyq:DB=gU x8e (gU (.block 3<|gU r8b x8g) Nu):=by kernel_rfl
def oB:¬Mc az 8:=Av (by decide) (by decide) Tryz.func8
def Fb(g:Q->Zv):Za:=#[g 0,g 1,g 2,g 3,g 4,g 5,g 6,g 7,g 8,g 9,g 10,g 11,g 12,g 13,g 14,g 15,g 16,g 17,g 18,g 19,g 20,g 21,g 22,g 23,g 24,g 25,g 26,g 27,g 28,g 29,g 30,g 31,g 32,g 33,g 34,g 35,g 36,g 37,g 38,g 39,g 40,g 41,g 42,g 43,g 44,g 45,g 46,g 47,g 48,g 49,g 50,g 51,g 52,g 53,g 54,g 55,g 56,g 57,g 58,g 59,g 60,g 61,g 62,g 63,g 64,g 65,g 66,g 67,g 68,g 69,g 70,g 71,g 72,g 73,g 74,g 75,g 76,g 77,g 78,g 79,g 80,g 81,g 82,g 83,g 84,g 85,g 86,g 87,g 88,g 89,g 90,g 91,g 92,g 93,g 94,g 95,g 96,g 97,g 98]
def JZ{x:Za}(h:V x=99):∃g,(⟨x,[]⟩:mh)=⟨Fb g,[]⟩:=by
 refine⟨λi=>x[i]?.getD Z',?_⟩
 congr 1
 rw[show Fb (λi=>x[i]?.getD Z')=((List.range 99).map λi=>x[i]?.getD Z').toArray from O]
 grind
structure yf(v:Zv)(H j:Q)(a:mh):Prop where
 lt:∃g,a=⟨Fb g,[]⟩
 a1:At a 1 v
 a7:At a 7<|zq H
 a8:At a 8<|J j
def yf.Ti(h:yf v H j a):∃g,a=⟨Fb g,[]⟩/\g 1=v/\g 7=zq H/\g 8=J j:=by
 obtain⟨g,rfl⟩:=h.lt
 exact⟨g,O,Option.some.inj h.a1,Option.some.inj h.a7,Option.some.inj h.a8⟩
def Ny(a:mh):Q:=120000-bL (bZ<|a.tmps[8]?.getD Z')
def yf.idx(h:yf v H j a):Ny a=120000-j:=by
 have:=h.a8
 unfold At at this
 simp[Ny,this,bZ]
def Is.gC(d:nD cv tv w)(a:qF (V<|Z w0) cv tv w)(f:Yq w)(n:Nw w0 w)(e:V (Z w0)<=H)(c:3<V (Z w0))(b:xh w H #[aB R 0 0,J 0,aB R 0 0,aB R 0 0,aB R 0 0] 70):Is cv tv (V<|Z w0) H 0 0 ⟨aB R 0 0,0,aB R 0 0,aB R 0 0,aB R 0 0,[],[],[]⟩ [] w0 w:=by
 refine⟨⟨b,World.ownsRow_nil _ _ _ _,World.ownsRow_nil _ _ _ _,World.ownsRow_nil _ _ _ _,World.ownsRow_nil _ _ _ _,⟨O,λi h=>(by cases h)⟩,⟨O,λi h=>(by cases h)⟩,λv h=>(by cases h),λv h=>(by cases h),λm h=>(by cases h),zd _,zd _⟩,λp h=>(by cases h),.nil,λp h=>(by cases h),λx h=>?_,n.U λ_=>eT,n.aD,d,a,f,c,zd _⟩
 obtain rfl|h|h|h|h|⟨v,h|h,_⟩:=h
 · exact e
 all_goals cases h
theorem rest8{bo:Zy}{h':Hv}{L':bA Pp}{bp:Exit->mh->Zy->Prop}(hf:yf v H j a)(h5:At a 5 (bG M))(hjD:j<120000)(hc:c'<=120001*j)(hx:Is cv tv (V<|Z w) H (j+1) (c'+1) h' L' w bo)
  (I:∀a' w' h'' d',yf v H j a'->Is cv tv (V<|Z w) H (j+1) d' h'' L' w w'->d'<=120001*(j+1)->bp eE a' w'):Code.wp prog x8g bp a bo:=by
 obtain⟨g,rfl,e1,e7,e8⟩:=hf.Ti
 have e5:g 5=bG M:=Option.some.inj h5
 replace hx:=xe hx
 replace I:=xe I
 simp only[Fb,e1,e5,e7,e8]
 clear e1 e5 e7 e8 h5 hf
 have hfin:Hid (∀i h'' wr,Is cv tv (V<|Z w) H (j+1) (c'+1+i) h'' L' w wr->i<=T L'->c'+1+i<=120001*(j+1)):=xe λi h'' wr I hi=>by have:=I.ln;omega
 conv=>arg 2;whnf
 go_wp2
 go_loopw [9] (λq wr=>∃i:Q,i<=T L'/\q=J i/\∃h'',Is cv tv (V<|Z w) H (j+1) (c'+1+i) h'' L' w wr) (λq _=>bL (T L'-bZ q))
 case atStart=>exact⟨0,Nat.zero_le _,O,_,hx.o⟩
 obtain⟨i,hi,rfl,h2,J2⟩:=hrel
 have J3:=xe J2
 clear hx
 obtain⟨ap,cp,hps⟩:=J2.hl.p.dL
 rw[List.length_map]at hps
 have d0:N wr (K H 0)=Y h2.ps:=J2.hl.b.i 0 O
 rw[hps]at d0
 by_cases y:i<T L'
 rotate_left
 · obtain rfl:i=T L':=by omega
   have i5:¬(T L':U)<(T L':Q):=by omega
   have hl:=J2.hl
   have hb:T h2.ay<=100000000000:=by have:=hl.n2;have:=hfin.o _ _ _ J2 (Nat.le_refl _);omega
   have ST:=xe (xqi H h2.ps h2.tv h2.fv h2.mv h2.m h2.T h2.F h2.ay wr hl.b hl.t hl.f hl.m hl.hd hb)
   clear hl hb J2 hps
   go_wp2
   refine ST.o.mono ?_
   rintro e w4⟨rfl,N4⟩
   go_wp2
   exact I.o _ _ _ _ ⟨JZ O,O,O,O⟩ (J3.o.nw N4 (zd _) (zd _)) (hfin.o _ _ _ J3.o (Nat.le_refl _))
 have i5:(i:U)<(T L':Q):=by omega
 have i6:(0:U)<=(i:U):=by omega
 have i7:(i:U)+1<=9000000000000000000:=by have:=J2.ln;omega
 obtain⟨A,p,cs,e5,hp⟩:∃A p cs,L'=A++p::cs/\L'[i]=p:=⟨L'.take i,L'[i],L'.drop (i+1),by simp,O⟩
 obtain⟨qb,e6,q1⟩:=J2.hl.p.lp (λ_=>O) (i:=i) (by rw[List.length_map];exact y) hps
 subst e6
 have k0:N wr (K qb i)=zq p.q:=by have:=q1 0 (by decide);simpa[Ns,hp] using this
 clear q1 hps
 have J4:Hid (Is cv tv (V<|Z w) H (j+1) (c'+1+i) h2 (A++p::cs) w wr):=by show Is _ _ _ _ _ _ _ _ _ _;rw[<-e5];exact J2
 have hbd:=xe (hfin.o _ _ _ J2 hi)
 have HE:=xe e5
 have HQ2:=xe hp
 clear J2 e5 hp
 have IM:=xe (xjt J4.o (by omega) (by have:=hbd.o;omega))
 go_wp2
 refine IM.o.mono ?_
 rintro e w4⟨rfl,h4,K4⟩
 have K5:=xe K4
 clear IM d0 k0
 obtain⟨ap,cp,hps⟩:=K4.hl.p.dL
 rw[List.length_map,←HE.o]at hps
 have d0:N w4 (K H 0)=Y h4.ps:=K4.hl.b.i 0 O
 rw[hps]at d0
 obtain⟨q4,e6,q1⟩:=K4.hl.p.lp (λ_=>O) (i:=i) (by rw[List.length_map,←HE.o];exact y) hps
 subst e6
 have k0:N w4 (K q4 i)=zq p.q:=by
  have:=q1 0 (by decide)
  have e:((A++p::cs).map Pp.q)[i]'(by rw[List.length_map,←HE.o];exact y)=p.q:=by
   rw[List.getElem_map]
   simp only[←HE.o]
   rw[HQ2.o]
  rw[Nat.mul_one,Nat.add_zero]at this
  exact this.trans (by show(Ns _)[0]?=_;rw[e];rfl)
 have pr:=K4.pr p (by simp)
 have k1:N w4 (K p.q 0)=zq p.B:=pr.qb.i 0 O
 have k2:N w4 (K p.q 1)=zq p.C:=pr.qb.i 1 O
 have k3:N w4 (K p.C 8)=J (p.f.bF:U):=pr.fa.bT.i 8 O
 rw[pr.tw.bF]at k3
 have CT:=xe (PO p.B p.r w4 pr.sa)
 clear q1 hps pr K4
 go_wp2
 refine CT.o.mono ?_
 rintro e w5⟨rfl,rfl⟩
 go_wp2
 go_roundw
 case rel=>
  repeat apply Exists.intro
  exact⟨⟨i+1,by omega,by go_num,h4,by rw[HE.o];exact K5.o⟩,O⟩
 case measure=>simp[bZ];omega
theorem all_round{w7:Zy}{h:Hv}{L:bA Pp}{m:Exit->mh->Zy->Prop}(hQ:rq m)(hf:yf v H j a)(hj:j<=T D)(hi:Is cv tv (V<|Z w) H j c' h L w w7)(hc:c'<=120001*j)(hs:SL (V<|Z w) w v D)
  (hN:∀a' w' h' L' d',yf v H (j+1) a'->j+1<=T D->Is cv tv (V<|Z w) H (j+1) d' h' L' w w'->d'<=120001*(j+1)->m eE a' w')(hX:∀a' w',yf v H j a'->Is cv tv (V<|Z w) H j c' h L w w'->m (.exit 2) a' w'):Yp az 8 DB m a w7:=by
 rw[xyq]
 obtain⟨g,rfl,e1,e7,e8⟩:=hf.Ti
 obtain⟨⟨av,bb,rfl,-,-,hS⟩,hD,hZ⟩:=hs
 have ho:=xe hS
 have HZ:=xe hZ
 have HQ:=xe hQ
 have HN:=xe hN
 have HX:=xe hX
 have nx:Hid (∀a' w',yf (aB av (T D) bb) H j a'->j<T D->(∃h' L' d',Is cv tv (V<|Z w) H (j+1) d' h' L' w w'/\d'<=120001*(j+1))->Yp az 8 Nu m a' w'):=by
  rintro a' w' bi x⟨h',L',d',bj,hd⟩
  obtain⟨g,rfl,e1,e7,e8⟩:=bi.Ti
  refine Gp oB HQ.o λp ba z bf=>?_
  have r:=xe (bj.nw (qm z) (zd _) (zd _))
  simp only[Fb,e1,e7,e8]
  clear e1 e7 e8 bi bj z hf hi hN hX hQ hS hZ
  have i2:(j:U)+1<=9000000000000000000:=by omega
  conv=>arg 2;whnf
  go_wp2
  exact bf.o eE _ _ (HN.o _ _ _ _ _ ⟨JZ O,O,O,by unfold At;simp⟩ x r.o hd)
 refine so oB HQ.o λw8 bq bc bd bg=>?_
 have I8:=xe (hi.nw (qm bc) (zd j) (zd _))
 simp only[Fb,e1,e7,e8]
 clear e1 e7 e8 hS hZ hN hX hf hi bc hQ
 by_cases x:j<T D
 rotate_left
 · obtain rfl:j=T D:=by omega
   have i1:¬(T D:U)<(T D:Q):=by omega
   conv=>arg 2;whnf
   go_wp2
   exact bg.o (.exit 2) _ _ (by simp) (HX.o _ _ ⟨JZ O,O,O,O⟩ I8.o)
 have i1:(j:U)<(T D:Q):=by omega
 conv=>arg 2;whnf
 go_wp2
 refine bd.o _ _ ?_
 clear bd bg
 obtain⟨s,c,rfl,hg,hcc⟩:=ho.o j x
 obtain⟨l,bk⟩:=HZ.o j x
 have HG:=xe hg
 have HC:=xe hcc
 have HP:=xe bk
 have X:=xe x
 clear hcc bk hg
 generalize D[j]=o at *
 obtain⟨kd,oa,on,om,ok,os,ot,fl⟩:=o
 have q:Hid (∀w',Is cv tv (V<|Z w) H j c' h L w w'->∀k u,(eV (Sp.G ⟨kd,oa,on,om,ok,os,ot,fl⟩))[k]?=Y u->N w' (K s<|c+j*8+k)=Y u):=xe λw' i k u hu=>i.pJ.i (by show¬V (Z w)<=s;have:=HG.o;omega) (HC.o k u hu)
 refine Yp.vU bX oB bD (Yp.dP bX oB ?_)
 have h2:=xe (Te (HQ.o.nH (P:=az) (fn:=8) (y:=Nu)) (Ϸ:=3))
 have c0:=q.o _ I8.o 0 _ O
 have c1:=q.o _ I8.o 1 _ O
 have c2:=q.o _ I8.o 2 _ O
 have c3:=q.o _ I8.o 3 _ O
 have c4:=q.o _ I8.o 4 _ O
 have c5:=q.o _ I8.o 5 _ O
 have c6:=q.o _ I8.o 6 _ O
 have c7:=q.o _ I8.o 7 _ O
 have C:=HP.o
 have bl:=xve (o:=⟨kd,oa,on,om,ok,os,ot,fl⟩) I8.o ⟨C.a,C.n,C.m,C.f.y I8.o.pJ λ_=>id,C.l1,C.l2⟩ (by omega) (by omega)
 refine Yp.vU bX oB bD ?_
 conv=>arg 3;whnf
 refine Yp.ig bX oB ?_
 refine vh oB ⟨O,O⟩ ?_
 refine vh oB ⟨O,O⟩ ?_
 refine vh (val:=J j) oB ⟨O,O⟩ ?_
 have i2:¬(j:U)<0:=by omega
 refine Vh.eO (val:=zk s<|c+j*8) (w':=w8) bX oB O (λt d=>⟨t,d,by show(aR _ _).run prog _=_;simp[aR,go_sem,ge,i2,i1,X.o]⟩) ?_
 refine Vh.eO (val:=bY (Sp.G ⟨kd,oa,on,om,ok,os,ot,fl⟩)) (w':=w8) bX oB O (λt d=>⟨t,d,?_⟩) ?_
 · have g0:N (re w8 t d) (K s<|c+j*8)=_:=c0
   have g1:N (re w8 t d) (K s<|c+j*8+1)=_:=c1
   have g2:N (re w8 t d) (K s<|c+j*8+2)=_:=c2
   have g3:N (re w8 t d) (K s<|c+j*8+3)=_:=c3
   have g4:N (re w8 t d) (K s<|c+j*8+4)=_:=c4
   have g5:N (re w8 t d) (K s<|c+j*8+5)=_:=c5
   have g6:N (re w8 t d) (K s<|c+j*8+6)=_:=c6
   have g7:N (re w8 t d) (K s<|c+j*8+7)=_:=c7
   show(aR _ _).run prog _=_
   simp[aR,go_sem,ge,g0,g1,g2,g3,g4,g5,g6,g7,Sp.G]
 refine Vh.lP (f:=32) (args:=#[zq H,bY<|Sp.G ⟨kd,oa,on,om,ok,os,ot,fl⟩]) bX oB O O (λv=>î) (gy O Tryz.func32 O) bl ?_ ?_
 rotate_left
 · rintro ch wx⟨he,_⟩
   cases he
 rintro br bn⟨he,h',L',bm⟩
 cases he
 refine vh (val:=bG M) oB ⟨O,O⟩ ?_
 refine Vh.nil bX oB ?_
 refine(show Yp az 8 x8g _ _ bn from ?_)
 simp only[ge,Zj,Vp,Kr]
 refine Gp oB h2.o λbo bp G I=>?_
 have hx:=xe (bm.nw (qm G) (zd _) (zd _))
 exact rest8 ⟨JZ O,O,O,O⟩ O (by omega) hc hx.o λa' w' h'' d' y i hd=>I eE _ _ (nx.o _ _ y X.o ⟨_,_,_,i,hd⟩)
structure Clx where
 kd:U
 n:U
 s:Zl
 t:Zl
 u:Zl
 v:Zv
def Clx.G(o:Clx):Za:=clG o.kd o.n o.s o.t o.u o.v
def CLx(lo:Q)(w:Zy)(v:Zv)(D:bA Clx):Prop:=Sgx 6 lo w v D (λo=>eV o.G)/\T D<200000/\∀i (h:i<T D),∃L,Sgx 1 lo w D[i].v L o5/\T L<=100000000
def c8eq:c8=gU x8a (gU r8a<|gU x8b<|gU x8l<|gU x8c<|gU (gU x8d<|.block 2<|.loop DB) y8):=by kernel_rfl
def ja0:Tryz.f8.body=Y c8:=by kernel_rfl
def Fcx(w:Zy)(e:kH)(w':Zy):Prop:=Fc w e w'
theorem All_wx{vc:Zv}{cs:bA Clx}(hG:nD cv tv w)(f:qF (V<|Z w) cv tv w)(hT:Yq w)(hc:CLx (V<|Z w) w vc cs)(hs:SL (V<|Z w) w v D):Yp az 8 c8 (sV az dA Tryz.f8<|Fc w) ⟨#[vc,v]++cL (Tryz.f8.ntmps-(#[vc,v]:Za).size) Z',[]⟩ w:=by
 have hQ:rq (sV az dA Tryz.f8<|Fc w):=Dh λe b t d=>zx6
 rw[c8eq,show Tryz.f8.ntmps=99 from O]
 generalize hPX:sV az dA Tryz.f8 (Fc w)=PX at hQ
 have c:=xe hQ
 have r:=xe hPX
 have X:=xe hG
 have W:=xe f
 have HT:=xe hT
 have HC:=xe hc
 have hd:=xe hs
 have l4:=hT.iE
 clear hQ hPX hG f hT hc hs
 simp only[List.size_toArray,List.length_cons,List.length_nil,Nat.reduceAdd,Nat.reduceSub,Array.replicate_succ,Array.replicate_zero,List.push_toArray,List.append_toArray,List.nil_append,List.cons_append]
 refine so oB c.o λw1 bb k h2 bh=>?_
 have s:=xe (qm k)
 have z1:=xe (Ϙ k)
 clear bh k
 conv=>arg 2;whnf
 go_wp2
 refine h2.o _ _ ?_
 clear h2
 have hh:=xn3 (X.o.y s.o λ_ x=>x.elim) (by rw[z1.o];exact W.o.y s.o λ_ x=>x.elim)
 refine Yp.vU bX oB bD ?_
 conv=>arg 3;whnf
 refine Yp.ig bX oB ?_
 refine Vh.lP bX oB O O (λv=>î) (gy O Tryz.func30 O) hh ?_ ?_
 rotate_left
 · rintro ch wx⟨S,_⟩
   cases S
 rintro v2 w2⟨S,hx⟩
 cases S
 refine vh (val:=bG M) oB ⟨O,O⟩ ?_
 refine Vh.nil bX oB ?_
 refine(show Yp az 8 _ PX _ w2 from ?_)
 simp only[ge,Zj,Vp,Kr]
 have N2:=xe (s.o.aE hx)
 clear hh hx s z1
 refine so oB c.o λw3 bc C ho bi=>?_
 have N3:=xe (N2.o.aE (qm C))
 clear C N2 bi
 conv=>arg 2;whnf
 go_wp2
 refine ho.o _ _ ?_
 clear ho
 refine so oB c.o λw4 bd C ho bj=>?_
 have N4:=xe (N3.o.aE (qm C))
 clear C N3 bj
 conv=>arg 2;whnf
 go_wp2
 go_loopw [6] (λq wr=>∃i:Q,i<=T cs/\q=J i/\Nw w wr) (λq _=>bL (T cs-bZ q))
 case atStart=>exact⟨0,Nat.zero_le _,O,N4.o⟩
 obtain⟨i,hi,rfl,q⟩:=hrel
 have aD:=xe q
 obtain⟨⟨av,ca,rfl,-,-,hcc⟩,hcl,hcd⟩:=id HC.o
 have HCC:=xe hcc
 have HCD:=xe hcd
 have HCL:=xe hcl
 clear hcc hcd N4 q hcl
 by_cases y:i<T cs
 · have i1:(i:U)<(T cs:Q):=by omega
   have i0:(0:U)<=(i:U):=by omega
   have i7:(i:U)+1<=9000000000000000000:=by have:=HCL.o;omega
   obtain⟨g,off,rfl,hg,hk⟩:=HCC.o i y
   obtain⟨L,hL,hLT⟩:=HCD.o i y
   have kk:∀k u,(eV cs[i].G)[k]?=Y u->N wr (K g<|off+i*6+k)=Y u:=λk u h=>aD.o.i id (hk k u h)
   generalize cs[i]=o at *
   obtain⟨kd,n,S,t,u,lv⟩:=o
   have k0:N wr (K g<|off+i*6)=(J kd):=kk 0 _ O
   have k1:N wr (K g<|off+i*6+1)=(J n):=kk 1 _ O
   have k2:N wr (K g<|off+i*6+2)=(ak<|st S):=kk 2 _ O
   have k3:N wr (K g<|off+i*6+3)=(ak<|st t):=kk 3 _ O
   have k4:N wr (K g<|off+i*6+4)=(ak<|st u):=kk 4 _ O
   have k5:N wr (K g<|off+i*6+5)=(lv):=kk 5 _ O
   have CA:=xe (called_any kd n S t u (V<|Z w) wr (X.o.y aD.o λ_ x=>x.elim).uV (HT.o.nw aD.o) lv L (hL.nw aD.o) hLT aD.o.aD)
   clear kk hk hL hLT hg
   go_wp2
   refine CA.o.mono ?_
   rintro e w5⟨rfl,N5⟩
   go_wp2
   go_roundw
   case rel=>exact⟨i+1,by omega,by go_num,aD.o.aE N5⟩
   case measure=>simp[bZ];omega
 obtain rfl:i=T cs:=by omega
 have i1:¬(T cs:U)<(T cs:Q):=by omega
 go_wp2
 refine ho.o _ _ ?_
 clear ho i1
 clear HC HCC HCL HCD hi y
 refine so oB c.o λn bd wr2 ay bj=>?_
 have h1:=xe (aD.o.aE (qm wr2))
 have A4:=xe (zj.E (S:=λ_=>False) (w:=n) (au #[aB R 0 0,J 0,aB R 0 0,aB R 0 0,aB R 0 0] 70))
 have B4:=xe (xh.ex n #[aB R 0 0,J 0,aB R 0 0,aB R 0 0,aB R 0 0] 70)
 clear bj wr2
 conv=>arg 2;whnf
 go_wp2
 refine ay.o _ _ ?_
 clear ay
 have p:=xe (h1.o.aE A4.o)
 have I5:=xe (Is.gC (X.o.y p.o λ_ x=>x.elim) (W.o.y p.o λ_ x=>x.elim) (HT.o.nw p.o) p.o h1.o.aD l4 B4.o)
 clear A4 B4 h1
 generalize hH:V (Z n)=H at *
 generalize aF n _=w5 at *
 clear hH p
 refine Yp.vU bX oB bD ?_
 refine so oB c.o.nH λw6 be F cs2 bk=>?_
 have I6:=xe (I5.o.nw (qm F) (zd 0) (zd 0))
 clear I5 F bk
 conv=>arg 2;whnf
 go_wp2
 refine cs2.o _ _ ?_
 clear cs2
 refine Yp.dP bX oB ?_
 have g':=Te (c.o.nH (P:=az) (fn:=8) (y:=y8)) (Ϸ:=2)
 let INV:mh->Zy->Prop:=λa b=>∃j h L d',yf v H j a/\j<=T D/\Is cv tv (V<|Z w) H j d' h L w b/\d'<=120001*j
 refine Yp.ry bX oB (by trivial) INV (λa _=>Ny a) ?_ _ _ ⟨0,_,_,0,⟨JZ O,O,O,O⟩,Nat.zero_le _,I6.o,Nat.zero_le _⟩
 rintro a w7⟨j,h,L,d',hf,hj,u,hd'⟩
 have hI:∀a b t d,INV a (re b t d)↔INV a b:=λa b t d=>⟨λ⟨j,h,L,d',z,f,B,e⟩=>⟨j,h,L,d',z,f,B.nw Tf (zd _) (zd _),e⟩,λ⟨j,h,L,d',z,f,B,e⟩=>⟨j,h,L,d',z,f,B.nw (Nw.lQ (zj.refl _ _) t d) (zd _) (zd _),e⟩⟩
 have v':=xl5 g' (I:=INV) (m:=λa _=>Ny a) (a0:=a) (w0:=w7) hI λ_ _ _ _=>O
 have ba:=hf.idx
 have bg:T D<120000:=hd.o.2.1
 refine all_round v' hf hj u hd' hd.o (λa' b h' L' d2 o j' A e=>⟨⟨_,_,_,_,o,j',A,e⟩,?_⟩) λa' b o A=>?_
 · have:=o.idx
   omega
 show Yp az 8 y8 PX a' b
 obtain⟨g,rfl,e1,e7,e8⟩:=o.Ti
 refine Gp oB c.o λw9 bf G es=>?_
 have q:=A.pJ.aE ((qm G).U λ_=>eT)
 simp only[Fb]
 conv=>arg 2;whnf
 go_wp2
 refine es.o .ret _ _ ?_
 rw[←r.o]
 refine⟨O,bG M,λt d=>⟨t,d,?_⟩,O,q.os,q.cX,q.aD,λi u _=>q.dP i u (by show¬V (Z w)<=i;omega)⟩
 show(eR Tryz.f8 _).run prog _=_
 simp[eR,Tryz.results8,go_sem]
end
end
end P
end Go.Proofs.YtjnbhiamaabbgabGreatDoor
