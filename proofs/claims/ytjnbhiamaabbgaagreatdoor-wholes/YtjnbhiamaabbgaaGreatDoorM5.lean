import Derived.Test.YtjnbhiamaabbgaaGreatDoorM4
set_option linter.all false
set_option maxRecDepth 100000
set_option maxHeartbeats 8000000
section
variable{P:Prop}
def Î(h:P:=by simp[bZ];omega):P:=h
def Ò(h:P:=by rfl):P:=h
def è(h:P:=by unfold pu;omega):P:=h
def za7(h:P:=by exact⟨O,zj.refl _ _⟩):P:=h
def za8(h:P:=by grind [bP]):P:=h
def zad(h:P:=by grind [Dk.eS]):P:=h
def zai(h:P:=by rintro e w1⟨rfl,rfl⟩;exact⟨O,(zj.refl _ _).fV,Y ⟨O,a⟩⟩):P:=h
def zao(h:P:=by simp[eR,Tryz.results96,go_sem]):P:=h
def zau(h:P:=by show _=_;simp[fS,fT,fi];omega):P:=h
def zbj(h:P:=by have:=d.o;omega):P:=h
def zby(h:P:=by apply(Ir C f n _ c l).mono;rintro e w1⟨rfl,⟨k,hk,rfl,j,b⟩|⟨rfl,b⟩⟩):P:=h
def zc6(h:P:=by rintro e hd⟨rfl,rfl⟩;exact⟨O,Jl (by rw[a.o];grind [Vd]) At.W⟩):P:=h
def zcg(h:P:=by exact FW A.o (At.aE<|W.U λ_ h=>aJ h) LE<|F.y W<|Ne.symm bc):P:=h
def zct(h:P:=by show _=_;rw[a.o];unfold Vd;rw[aL p]):P:=h
def zcx(h:P:=by show _=_;unfold Wx;simp only;omega):P:=h
def zdp(h:P:=by refine ji (v:=cE #[J<|IntKind.i64.wrap<|(c:U)+1,E<|Vb (c+1)<|r.bF+1]) zao O ⟨by rw[l.o,g.o],m⟩):P:=h
end
namespace Go.Proofs.YtjnbhiamaabbgaaGreatDoor
open Go renaming Act->mh,Calls->aK,Ending->kH,Oper->eX,Value->eJ,World->dN,maxLen->pu,results->eR,yielded->fN
open Go.Calls renaming quiet_of_same->qE
open Go.Ending renaming returned->ai
open Go.IntKind renaming bits->fT,i64->bB,signed->fi,wrap->fS,wrap_i64->zh
open Go.Obj renaming cells->au
open Go.Proofs renaming intOf->bZ
open Go.Proofs.Tryz renaming ntmps81->lW
open Go.Region renaming wanted->bP
open Go.RowKit renaming Below->aP,Hid->H
open Go.RowKit.Below renaming refl->zt
open Go.Value renaming agg->bY,bool->bG,int->Q,pointer->aU,slice->aB,string->ak,tuple->cE
open Go.World renaming alloc->aF,cell?->N,frozen?->aX,news_of_block->gX,setCell->M,size_alloc->xp,heap->Z'
open _root_ renaming Array->bE,Bool->ez,Int->U,List->bA,Nat->aD,Option->dD,congrArg->gv,if_neg->aL,if_pos->aT,if_true->dY,rfl->O,trivial->bD
open _root_.Array renaming setIfInBounds->aA,size->V,toList->eV
open _root_.Bool renaming false->ao,true->ay
open _root_.Decidable renaming decide->bR
open _root_.False renaming elim->eT
open _root_.Int renaming toNat->bL
open _root_.List renaming drop_eq_getElem_cons->Zx,length->T,length_append->zx,length_take->xf,pairwise_cons->Xw,take_succ_eq_append_getElem->zp,toArray->bH
open _root_.List.Pairwise renaming nil->iV
open _root_.Option renaming none->aw,some->ac
open _root_.Or renaming inl->aJ,inr->Y
namespace P
variable{w w' w0 w1 W:Zy}{n t k C cnt num e B g c:aD}{X:Type}{l z q x:Zl}{L L':KV}{k':Lk}{tv v m:Zv}{R:Prop}{r:Sr}
open A.Tryq Go.RowKit
section
attribute [local go_sem] zn zg
def F7(m y):T (Ji m y)=16:=Ln _ _ 16 Ã
theorem Ek(m y):T (Y7 m y)=32:=Ln _ _ 32 Ã
def Ad(y:Zl)(p o cnt n:aD):Zl:=y++(nb p 1++(nb o 2++(nb (cnt+1) 4++nb n 2)))
def CV(m y:Zl)(p o cnt:aD)(P:Zl):Zl:=nT (Ji m p) ((Ad y p o cnt (T P)).take 8) P
def ua(m p y:Zl)(j o cnt:aD)(P:Zl):Zl:=Wu (Y7 m j)<|p++Ad y j o cnt (T P)++CV m y j o cnt P
def rn(m p y:Zl)(j o cnt:aD)(P:Zl):Zl:=Ad y j o cnt (T P)++CV m y j o cnt P++ua m p y j o cnt P
def xkw(m mark kind)(ep op cnt:aD)(plain)(hm:T m=32)(bf:T mark=32)(L:T kind=1)(bg:T plain<=4000)(bb:cnt<1000000000)(w)(R:iN w):
  aK prog 98 #[bY #[ak<|st m,Q bB (cnt:U),ak<|st mark,Q bB (op:U)],ak<|st kind,Q bB (ep:U),ak<|st plain] w λe w'=>e=ai (ak<|st<|rn m mark kind ep op cnt plain)/\aP (V<|Z' w) w w':=by
 have y:=R;have X:=hm;have l1:=Z2 ep 1;have l2:=Z2 op 2;have l3:=Z2 (cnt+1) 4;have l4:=Z2 (T plain) 2;have h2:H<|IntKind.i64.wrap ((cnt:U)+1)=((cnt+1:aD):U):=zau
 have W0:aP (V<|Z' w) w<|aF w<|au #[ak<|st m,Q bB (cnt:U),ak<|st mark,Q bB (op:U)] 78:=(zt _ _).alloc (zd _) _;have z:xh (aF w<|au #[ak<|st m,Q bB (cnt:U),ak<|st mark,Q bB (op:U)] 78) (V<|Z' w) #[ak<|st m,Q bB (cnt:U),ak<|st mark,Q bB (op:U)] 78:=xh.ex _ _ _;go_enter func98.1,Tryz.ntmps98;go_wp2;generalize aF w (au #[ak<|st m,Q bB (cnt:U),ak<|st mark,Q bB (op:U)] 78)=W at*;have c:∀w1,aP (V<|Z' W) W w1->N w1 ⟨V<|Z' w,3,aw⟩=Q bB (op:U)/\N w1 ⟨V<|Z' w,1,aw⟩=Q bB (cnt:U):=λw1 h=>⟨(z.Y h).i 3 O,(z.Y h).i 1 O⟩;have u:=c W<|zt _ _;have a:aP (V<|Z' W) W W.drew:=(zt _ _).drew;go_region_held3 (λw'=>N w' ⟨V<|Z' w,3,aw⟩=Q bB (op:U)/\N w' ⟨V<|Z' w,1,aw⟩=Q bB (cnt:U)) (first|exact u|exact v)
  (first
   |(go_at_call 153;refine(Lf _ ep O _).mono ?_;rintro e w1⟨rfl,j⟩;replace a:=Xs a j;have v:=c _ a)
   |(go_at_call 154;refine(Lx _ _).mono ?_;rintro e w1⟨rfl,j⟩;replace a:=Xs a j;have v:=c _ a)
   |(go_at_call 155;refine(Pf _ _ h2.o _).mono ?_;rintro e w1⟨rfl,j⟩;replace a:=Xs a j;have v:=c _ a))
 obtain⟨hd,n⟩:∃hd,kind++(nb ep 1++(nb op 2++(nb (cnt+1) 4++nb (T plain) 2)))=hd:=⟨_,O⟩;have hx:H<|Ad kind ep op cnt (T plain)=hd:=n;have bc:T hd=10:=by rw[<-n];simp[L,l1,l2,l3,l4]
 rw[n];have f:=z.Y a;have P:=W0.trans<|a.mono W0.size;have T1:=y.Y y.iE P;have d0:=f.i 0 O;have d2:=f.i 2 O;have d3:=f.i 3 O;try clear hHeld
 go_wp2;refine(FV m mark _ _ ep X _ T1).mono ?_;rintro e p⟨rfl,x⟩;have W2:=Xs P x;have t:=f.Y x;have g':=t.lt;obtain⟨d,l⟩:∃d,Ji m ep=d:=⟨_,O⟩;obtain⟨b,o⟩:∃b,Y7 m ep=b:=⟨_,O⟩;rw[l,o];have F:=l;have I:=o;have G:H<|T d=16:=by show _=_;rw[<-l];exact F7 m ep
 have v':T b<=4096:=by show _<=_;rw[<-o,Ek m ep];omega
 go_wp2;have i:xh (aF p<|au #[ak<|st d,ak<|st b] 120) (V<|Z' p) #[ak<|st d,ak<|st b] 120:=xh.ex _ _ _;have B:=t.E<|au #[ak<|st d,ak<|st b] 120;have A:=W2.alloc À<|au #[ak<|st d,ak<|st b] 120;have KS:∀q s,s=st (hd.take 8)->aK prog 156 #[bY #[ak<|st d,ak<|st b],ak s,ak<|st plain] q λe w'=>e=ai (ak<|st<|nT d (hd.take 8) plain)/\aP (V<|Z' q) q w':=λq s S=>by rw[S];exact PA d b _ plain G.o Á À q
 generalize aF p (au #[ak<|st d,ak<|st b] 120)=W at*;have c:∀w1,aP (V<|Z' W) W w1->N w1 ⟨V<|Z' p,0,aw⟩=(ak<|st d)/\N w1 ⟨V<|Z' p,1,aw⟩=(ak<|st b):=λw1 h=>⟨(i.Y h).i 0 O,(i.Y h).i 1 O⟩;have u:=c W<|zt _ _;have a:aP (V<|Z' W) W W.drew:=(zt _ _).drew;have h8:(8:U)<=(T hd:aD):=À
 go_region_held3 (λw'=>N w' ⟨V<|Z' p,0,aw⟩=(ak<|st d)/\N w' ⟨V<|Z' p,1,aw⟩=(ak<|st b)) (first|exact u|exact v)
  ((go_at_call 156;refine(KS _ _<|vD hd 8).mono ?_;rintro e q⟨rfl,j⟩;replace a:=Xs a j;have v:=c _ a))
 obtain⟨g,k⟩:∃g,nT d (hd.take 8) plain=g:=⟨_,O⟩;rw[k];have D:=k;have ba:T g=T plain:=by rw[<-k];exact A' _ _ _
 have C:=B.Y a;have es:=i.Y a;have h1:=A.trans<|a.mono A.size;have T4:=y.Y y.iE h1;have d2:=C.i 2 O;have ho:∀r s,s=st (mark++(hd++g))->iN r->aK prog 157 #[bY #[ak<|st d,ak<|st b],ak s] r λe w'=>e=ai (ak<|st<|Wu b<|mark++(hd++g))/\aP (V<|Z' r) r w':=λr s S R=>by grind [LJ]
 try clear hHeld
 go_wp2;refine(ho _ _ O T4).mono ?_;rintro e r⟨rfl,wr⟩;have be:=uP b<|mark++(hd++g);have cs:H<|st (hd++(g++Wu b (mark++(hd++g))))=st (rn m mark kind ep op cnt plain):=by show _=_;simp only[rn,ua,CV,hx.o,F,I,D,jq]
 have W5:=Xs h1 wr;go_wp2;go_ret;exact⟨by rw[<-cs.o];rfl,W5⟩
def zj.eL{S}(h:zj S w w'):zj S w<|w'.drewN n:=⟨h.os,h.cX,h.Q,h.dP⟩
def Vb(n c:aD):Zl:=83::(nb n 4++nb c 4)
def Sr.cD(r:Sr)(s:kE):aD×Zl:=
 if s.bM<s.aQ/\(T (jp r.d.L s.aQ):U)<r.ov then(bL s.aQ,[])else(bL s.aQ+1,Vb (bL s.aQ+1)<|r.bF+1)
def xpo(B r s w)(h:Vq w B r)(S:r.sn=ac s)(A:0<=s.aQ)(hd:s.aQ<=1000000000000)(h1:r.bF<1000000000):aK prog 96 #[K B] w λe w'=>e=ai (cE #[J<|(r.cD s).1,ak<|st (r.cD s).2])/\Nw w w':=by
 obtain⟨c,o⟩:∃c:aD,s.aQ=(c:U):=⟨bL s.aQ,À⟩;have h2:N w (zq B 7)=K s.S:=by rw[h.bT.i 7 O];simp[Sr.G,Sr.my,S]
 have X:N w (zq B 0)=J r.ov:=h.bT.i 0 O;have hx:=h.bT.i 2 O;have q:N w (zq B 4)=J r.bF:=h.bT.i 4 O;have D:=(h.fP s S).1;have d3:N w (zq s.S 3)=J s.bM:=D.bT.i 3 O;have t:N w (zq s.S 4)=J c:=by rw[<-o];exact D.bT.i 4 O
 have f:H<|r.cD s=if s.bM<s.aQ/\(T (jp r.d.L s.aQ):U)<r.ov then(bL s.aQ,[])else(bL s.aQ+1,Vb (bL s.aQ+1)<|r.bF+1):=O;rw[o]at f;have ho:(c:U)<=1000000000000:=À
 have p:∀n,aK prog 76 #[K r.D,J c] (w.drewN n) λe w'=>e=ai (E<|jp r.d.L (c:U))/\w'=w.drewN n:=λn=>Ei r.D r.d (c:U) (w.drewN n) ⟨h.fA.bT,h.fA.jS,h.fA.ku⟩;have k:H<|IntKind.i64.wrap ((r.bF:U)+1)=((r.bF+1:aD):U):=zau
 have g:H<|IntKind.i64.wrap ((c:U)+1)=((c+1:aD):U):=zau
 have I:∀w1 a b,a=((c+1:aD):U)->b=((r.bF+1:aD):U)->aK prog 152 #[J a,J b] w1 λe w'=>e=ai (E<|Vb (c+1)<|r.bF+1)/\aP (V<|Z' w1) w1 w':=λw1 a b P i=>by subst P i;exact XR (c+1) (r.bF+1) w1
 obtain⟨y,G⟩:∃y,jp r.d.L (c:U)=y:=⟨_,O⟩;rw[G]at p f;generalize r.ov=sg at*;generalize s.bM=ba at*;go_enter func96.1,Tryz.ntmps96;go_wp2;by_cases i:ba<(c:U)
 ·by_cases F:(T y:U)<sg
  ·have l:H<|r.cD s=(c,[]):=by show _=_;rw[f.o,aT ⟨i,F⟩];simp
   go_quiet ((go_at_call 76;refine qE<|p _));go_wp2;refine ji (v:=cE #[J c,ak ⟨#[]⟩]) zao O ⟨by rw[l.o];rfl,(zj.refl _ _).eL⟩
  have l:H<|r.cD s=(c+1,Vb (c+1)<|r.bF+1):=by show _=_;rw[f.o,aL λx=>F x.2];simp
  have R:bR ((T y:U)<sg)=ao:=by simpa using F
  go_quiet ((go_at_call 76;refine qE<|p _));go_wp2;have C:N (w.drewN nq) (zq s.S 4)=J c/\N (w.drewN nq) (zq B 4)=J r.bF:=⟨t,q⟩;have z:Nw w<|w.drewN nq:=(zj.refl _ _).eL;have j:∀w1,Nw w w1->N w1 (zq s.S 4)=J c/\N w1 (zq B 4)=J r.bF:=λw1 h=>⟨h.i id t,h.i id q⟩;generalize w.drewN nq=W at*;go_region_held3 (λw'=>N w' (zq s.S 4)=J c/\N w' (zq B 4)=J r.bF) (first|exact C|exact u)
  ((go_at_call 152;refine(I _ _ _ g.o k.o).mono ?_;rintro e d⟨rfl,i⟩;have m:Nw w d:=z.W.aE<|zj.J i;have u:=j _ m))
  go_wp2;refine ji (v:=cE #[J<|IntKind.i64.wrap<|(c:U)+1,E<|Vb (c+1)<|r.bF+1]) zao O ⟨by rw[l.o,g.o],m⟩
 have l:H<|r.cD s=(c+1,Vb (c+1)<|r.bF+1):=by show _=_;rw[f.o,aL λx=>i x.1];simp
 have wr:bR (ba<(c:U))=ao:=by simpa using i
 go_quiet ((go_at_call 76;refine Calls.quiet_of_same<|p _));go_wp2;have C:N (w.drewN nq) (zq s.S 4)=J c/\N (w.drewN nq) (zq B 4)=J r.bF:=⟨t,q⟩;have z:Nw w<|w.drewN nq:=(zj.refl _ _).eL;have j:∀w1,Nw w w1->N w1 (zq s.S 4)=J c/\N w1 (zq B 4)=J r.bF:=λw1 h=>⟨h.i id t,h.i id q⟩;generalize w.drewN nq=W at*;go_region_held3 (λw'=>N w' (zq s.S 4)=J c/\N w' (zq B 4)=J r.bF) (first|exact C|exact u)
 ((go_at_call 152;refine(I _ _ _ g.o k.o).mono ?_;rintro e d⟨rfl,i⟩;have m:Nw w d:=z.W.aE<|zj.J i;have u:=j _ m))
 go_wp2;refine ji (v:=cE #[J<|IntKind.i64.wrap<|(c:U)+1,E<|Vb (c+1)<|r.bF+1]) zao O ⟨by rw[l.o,g.o],m⟩
section
variable{w w':dN}{f:X->bA eJ}{v:eJ}{l:bA X}{S:aD->Prop}
def Rw(w:Zy)(t k:aD)(f:X->Ze)(v:Zv)(l:bA X):Prop:=w.ownsRow 0 t k v (T l)<|l.flatMap f
def Rw.y(h:Rw w t k f v l)(i:zj S w w')(m:∀g,v.ownBlock=ac g->¬S g):Rw w' t k f v l:=by refine⟨h.1,?_⟩;obtain e|⟨g,a,b,d,j,c,r⟩:=h.2;grind;exact Y ⟨g,a,b,d,j,(i.dP g (za.1 c).1<|m g<|by rw[d];rfl).trans c,r⟩
def Rw.dL(h:Rw w t k f v l):∃a cap,v=aB a (T l) cap:=by obtain⟨e,c⟩|⟨g,cap,b,d,_⟩:=h.2<;>grind
def P7(b:∀a,T (f a)=k):∀(l:bA X) (i j:aD) (y:i<T l),j<k->(l.flatMap f)[i*k+j]?=(f l[i])[j]?
 |a::l,0,j,_,h=>by grind|a::l,i+1,j,y,h=>by rw[Wi,Xp Á,b,show(i+1)*k+j-k=i*k+j by grind];exact P7 b l i j Á h
def Rw.lp(h:Rw w t k f v l)(p:∀a,T (f a)=k){i}(d:i<T l){a cap}(m:v=aB a n cap):∃g,a=ac ⟨g,0,aw⟩/\∀j,j<k->N w (zq g<|i*k+j)=(f l[i])[j]?:=by obtain⟨e,r⟩|⟨g,c,o,b,_⟩:=id h.2;omega;rw[m]at b;cases b;refine⟨g,O,λj q=>?_⟩;rw[m]at h;have:(i+1)*k<=T l*k:=Y5 k d;rw[h.cellAt _ Á,P7 p l i j d q]
end
structure Rf where
 bU:U
 ov:U
 mW:U
 fv:Zv
 F:Xv
 nE:ez
 ko:U
 cQ:U
 m:Zl
 bF:aD
 op:aD
 bQ:Zl
 gw:ez
 sv:Zv
 L:KV
 pv:Zv
 P:bA Vk
 ep:aD
 dX:Zl
 bM:U
 sg:U
 bC:U
 dB:U
def Rf.G(f:Rf):Za:=#[Q bB f.bU,Q bB f.ov,Q bB f.mW,f.fv,bG f.nE,Q bB f.ko,Q bB f.cQ,ak<|st f.m,Q bB (f.bF:U),Q bB (f.op:U),ak<|st f.bQ,bG f.gw,f.sv,f.pv,Q bB (f.ep:U),ak<|st f.dX,Q bB f.bM,Q bB f.sg,Q bB f.bC,Q bB f.dB]
def mr(p:U×(Zl×U)):Ze:=[Q bB p.1,ak<|st p.2.1,Q bB p.2.2]
def kT(p:Zl×Zl):Ze:=[ak<|st p.1,ak<|st p.2]
def cK:Vk->Zl
 | .put k _=>k| .del k=>k
def cV:Vk->Zl
 | .put _ v=>v| .del _=>[]
def cG:Vk->ez
 | .put _ _=>ao| .del _=>ay
def t6(c:Vk):Ze:=[bG<|cG c,ak<|st<|cK c,ak<|st<|cV c]
structure Ju(w:Zy)(C:aD)(f:Rf):Prop where
 bT:xh w C f.G 154
 fs:Rw w 159 3 mr f.fv f.F
 ss:Rw w 157 2 kT f.sv f.L
 ps:Rw w 147 3 t6 f.pv f.P
 fn:f.F=[]->f.fv=aB aw 0 0
def Ju.y{f}(h:Ju w C f)(a:Nw w w'):Ju w' C f:=⟨h.bT.y a id,h.fs.y a λ_ _=>id,h.ss.y a λ_ _=>id,h.ps.y a λ_ _=>id,h.fn⟩
def AtP(F:Xv)(n:U)(e:kH):Prop:=(∃k,∃h:k<T F,e=ai (J k)/\F[k].1=n/\Xm F n=ac F[k].2)\/(e=ai (J<|-1)/\Xm F n=aw)
def xjm{F:Xv}(h:k<T F)(n):Xm (F.drop k) n=if n=F[k].1 then ac F[k].2 else Xm (F.drop<|k+1) n:=by rw[Zx h];rfl
def ZE(l)(k:aD)(h:T l<=k)(a:∀p∈l,T p.2.1<=1000000):0<=bO l/\bO l<=1000000*(k:U):=by induction l generalizing k<;>grind [bO]
def Ir(C f n w)(h:Ju w C f)(m:T f.F<=1000000):aK prog 193 #[K C,J n] w λe w'=>w'=w/\AtP f.F n e:=by
 have⟨a,y,p⟩:=h.fs.dL;have c3:N w (zq C 3)=aB a (T f.F) y:=p▸h.bT.i 3 O;go_enter func193.1,Tryz.ntmps193;go_wp2;go_loopw [5] (λi wr=>∃k:aD,k<=T f.F/\i=J k/\H (Xm f.F n=Xm (f.F.drop k) n)/\wr=w) (λi _=>bL (T f.F-bZ i));exact⟨0,À,O,O,O⟩;obtain⟨k,hk,rfl,j,rfl⟩:=hrel;by_cases b:k<T f.F
 ·obtain⟨g,rfl,l⟩:=h.fs.lp (λ_=>O) b p;have e0:N wr (zq g<|k*3)=J f.F[k].1:=l 0 À;have u:=j.o.trans<|xjm b n;have o:(k:U)<(T f.F:aD):=by omega
  by_cases d:f.F[k].1=n
  ·have c:H<|Xm f.F n=ac f.F[k].2:=by show _=_;rw[u,aT d.symm]
   go_wp2;go_ret;exact⟨O,aJ ⟨k,b,O,d,c.o⟩⟩
  have c:H<|Xm f.F n=Xm (f.F.drop<|k+1) n:=by show _=_;rw[u,aL<|Ne.symm d]
  generalize f.F[k].1=q at*;go_wp2;go_roundw;exact⟨k+1,À,Å,c,bD⟩;exact Ì
 obtain rfl:k=T f.F:=À
 go_wp2;go_ret;exact⟨O,Y ⟨O,by rw[j.o,Vl];rfl⟩⟩
def LS(C f n w)(h:Ju w C f)(l:T f.F<=1000000):aK prog 130 #[K C,J n] w λe w'=>w'=w/\e=ai (E<|jp f.F n):=by
 have⟨a,y,p⟩:=h.fs.dL;have c3:N w (zq C 3)=aB a (T f.F) y:=p▸h.bT.i 3 O;have c:=h;go_enter func130.1,Tryz.ntmps130;go_wp2;apply(Ir C f n _ c l).mono;rintro e w1⟨rfl,⟨k,hk,rfl,j,b⟩|⟨rfl,b⟩⟩
 ·obtain⟨g,rfl,d⟩:=c.fs.lp (λ_=>O) hk p;have m:N w1 (zq g<|k*3+1)=(E<|jp f.F n):=by rw[d 1 À];simp[mr,jp,b]
  clear d j b;go_wp2;go_ret;simp
 have i:H<|jp f.F n=[]:=by show _=_;simp[jp,b]
 go_wp2;go_ret;exact⟨O,by rw[i.o];rfl⟩
def ZD(C f n w)(h:Ju w C f)(l:T f.F<=1000000):aK prog 137 #[K C,J n] w λe w'=>w'=w/\e=ai (J (T (jp f.F n):aD)):=by
 have⟨a,y,p⟩:=h.fs.dL;have c3:N w (zq C 3)=aB a (T f.F) y:=p▸h.bT.i 3 O;have c:=h;go_enter func137.1,Tryz.ntmps137;go_wp2;apply(Ir C f n _ c l).mono;rintro e w1⟨rfl,⟨k,hk,rfl,j,b⟩|⟨rfl,b⟩⟩
 ·obtain⟨g,rfl,d⟩:=c.fs.lp (λ_=>O) hk p;have m:N w1 (zq g<|k*3+1)=(E<|jp f.F n):=by rw[d 1 À];simp[mr,jp,b]
  clear d j b;go_wp2;go_ret;simp
 have i:H<|jp f.F n=[]:=by show _=_;simp[jp,b]
 go_wp2;go_ret;exact⟨O,by rw[i.o];rfl⟩
def ZG(C f w)(h:Ju w C f)(o:T f.F<=1000000)(l:∀p∈f.F,T p.2.1<=1000000):aK prog 136 #[K C] w λe w'=>w'=w/\e=ai (J<|bO f.F):=by
 have⟨a,y,u⟩:=h.fs.dL;have c3:N w (zq C 3)=aB a (T f.F) y:=u▸h.bT.i 3 O;have c:=l;go_enter func136.1,Tryz.ntmps136;go_wp2;go_loopw [3,4] (λs i wr=>∃k:aD,k<=T f.F/\i=J k/\s=J (bO<|f.F.take k)/\wr=w) (λ_ i _=>bL (T f.F-bZ i));exact⟨0,À,O,O,O⟩;obtain⟨k,hk,rfl,rfl,rfl⟩:=hrel;by_cases b:k<T f.F
 ·obtain⟨g,rfl,d⟩:=h.fs.lp (λ_=>O) b u;have e0:N wr (zq g<|k*3+1)=(ak<|st f.F[k].2.1):=d 1 À;have S:bO (f.F.take<|k+1)=bO (f.F.take k)+(T f.F[k].2.1:aD):=by unfold bO;rw[zp b,qz,List.sum_append];simp
  have j:=S;have n:=c _<|Xk b;have r:0<=bO _/\bO _<=1000000*(k:U):=ZE (f.F.take k) k Á λp m=>c p<|Fq m;have t:(k:U)<(T f.F:aD):=À
  clear d S;generalize bO (f.F.take k)=q at*;generalize f.F[k].2.1=x at*;go_wp2;go_roundw;exact⟨k+1,À,Å,by rw[j],bD⟩;exact Ì
 obtain rfl:k=T f.F:=À
 rw[jz];go_wp2;go_ret;simp
structure Lk.ok(k:Lk):Prop where
 m:T k.m=32
 ep:k.ep<=255
 bF:k.bF<4294967296
 dX:T k.dX=32
theorem PU(l):jX l<=65535:=by
 unfold jX;have h:=AS<|(l.drop 8).take 2;have:T ((l.drop 8).take 2)<=2:=ù
 have:256^T ((l.drop 8).take 2)<=256^2:=J7 Ã this;omega
def Jv(k:Lk)(L:KV)(l:Zl):dD<|Lk×KV:=uB k L (l.take 1) (qi<|(l.drop 1).take 1) (qi<|(l.drop 4).take 4) (l.take 10) ((l.drop 10).take<|jX l)<|(l.drop<|10+jX l).take 32
def t7:aD->Lk->KV->Zl->dD (Lk×KV×Zl)
 |0,k,L,l=>ac (k,L,l)
 |n+1,k,L,l=>if J5 l=ay then(match Jv k L l with
   |some (k',L')=>t7 n k' L'<|l.drop<|42+jX l
   |none=>aw)else ac (k,L,l)
def Wt(h:J5 l=ay):42+jX l<=T l:=by grind [J5]
theorem ZO:∀(n m:aD) (k:Lk) (L:KV) (l:Zl),T l<=n->T l<=m->t7 n k L l=t7 m k L l
 |0,0,_,_,_,_,_=>rfl|0,m+1,k,L,l,h,_=>by grind [t7,J5]
 |n+1,0,k,L,l,_,h=>by grind [t7,J5]
 |n+1,m+1,k,L,l,y,p=>by
  unfold t7;by_cases a:J5 l=ay;have:=Wt a;rw[aT a,aT a];cases Jv k L l with|none=>rfl|some q=>exact ZO n m q.1 q.2 _ Á Á
  grind
def ms(k:Lk)(L:KV)(l:Zl):dD<|Lk×KV×Zl:=t7 (T l) k L l
theorem ZJ{k}(h:J5 l=ao):ms k L l=ac (k,L,l):=by unfold ms;cases y:T l with|zero=>rfl|succ n=>grind [t7]
def ZH{k}(h:J5 l=ay)(b:Jv k L l=ac (k',L')):ms k L l=ms k' L' (l.drop<|42+jX l):=by have:=Wt h;unfold ms;obtain⟨n,a⟩:∃n,T l=n+1:=⟨T l-1,À⟩;rw[a];show(if J5 l=ay then _ else _)=_;grind [ZO]
theorem ZI{k}(h:J5 l=ay)(b:Jv k L l=aw):ms k L l=aw:=by have:=Wt h;unfold ms;obtain⟨n,a⟩:∃n,T l=n+1:=⟨T l-1,À⟩;rw[a];show(if J5 l=ay then _ else _)=_;grind
def Io{k r a}(h:pX k L r cnt a z q=ac (k',L')):k'={k with bF:=cnt,fD:=k.dX,dX:=q}:=lg
def xea{k y a p}(h:uB k L y p cnt a z q=ac (k',L'))(hk:k.ok)(c:T q=32)(b:cnt<4294967296):k'.ok/\k'.mp=k.mp/\k'.aQ=k.aQ:=by unfold uB at h;split at h;cases h;split at h;split at h;rw[Io h];exact⟨⟨hk.m,hk.ep,b,c⟩,O,O⟩;grind;split at h;split at h;rename_i j;rw[Io h];exact⟨⟨hk.m,show p<=255 by omega,b,c⟩,O,O⟩;grind;grind
def ZM{k}(h:Jv k L l=ac (k',L'))(b:J5 l=ay)(hk:k.ok):k'.ok/\k'.mp=k.mp/\k'.aQ=k.aQ:=by
 have a:=Wt b;apply xea h hk Á
 grind [AS,xf]
def Vd(k:Lk)(L:KV)(num:U)(len y:aD):dD<|Lk×KV:=
 if y<len then(if num=k.aQ then ac ({k with cQ:=ay,cY:=y},L)else aw)else ac (k,L)
def mX(k:Lk)(L:KV)(num:aD)(b:Zl):dD<|Lk×KV:=
 if 9<=T b then
  (if b.take 9≠83::(nb num 4++nb (k.bF+1) 4)then aw
  else match ms k L (b.drop 9)with
   |some (k',L',r)=>Vd k' L' num (T b) (if T r=T b-9 then 0 else T b-T r)
   |none=>aw)
 else Vd k L num (T b) 0
def ZR{k}(h:¬9<=T x):mX k L num x=Vd k L num (T x) 0:=aL h
def ZQ{k}(h:9<=T x)(a:x.take 9≠83::(nb num 4++nb (k.bF+1) 4)):mX k L num x=aw:=by grind [mX]
def ZS{k}(h:9<=T x)(a:x.take 9=83::(nb num 4++nb (k.bF+1) 4)):mX k L num x=match ms k L (x.drop 9)with
   |some (k',L',r)=>Vd k' L' num (T x) (if T r=T x-9 then 0 else T x-T r)
   |none=>aw:=by grind [mX]
def W8(num:aD)(x:Zl):Za:=#[Q bB (num:U),ak<|st x]
def jfa(b k)(hk:k.ok)(L l)(n:J5 l=ay)(w)(f:1<V (Z' w))(a:b≠1)(c:b≠4)(y:k.mp≠1)(e:k.mp≠4)(d:b≠k.mp)(j:Jh w b k)(o:Je w k.mp L)(i:iN w)(h:ip tv w):
  aK prog 232 #[K b,Pz l] w (CO tv b k.mp (Jv k L l) w):=by
 have g:=Wt n;exact zq5 b k L hk.m _ _ _ _ _ _ hk.ep hk.bF Á (by grind [PU]) hk.dX w f a c y e d j o i h
def zpp(b k)(hk:k.ok)(L num x)(hx:T x<=100000)(w)(bk:1<V (Z' w))(ce:4<V (Z' w))(bs:b≠1)(bt:b≠4)(hm1:k.mp≠1)(cb:k.mp≠4)(bc:b≠k.mp)(hb:Jh w b k)(hs:Je w k.mp L)(hT:iN w)(hG:ip tv w):
  aK prog 172 #[K b,bY<|W8 num x] w (CO tv b k.mp (mX k L num x) w):=by
 have I:=hb;have HT:=hT;have HG:=hG;have HS:=hs;have HK:=hk;have ca:=hb.lt;have cc:=hs.lt;have kc:=hk.bF;have e1:IntKind.i64.wrap ((k.bF:U)+1)=((k.bF+1:aD):U):=Ï
 unfold W8;go_enter func172.1,Tryz.ntmps172;have Q0:xh (aF w<|au (W8 num x) 248) (V<|Z' w) (W8 num x) 248:=xh.ex _ _ _;have L0:Jh (aF w<|au (W8 num x) 248) b k:=xh.E I _;have G0:=HG.E<|au (W8 num x) 248;have A0:zj (λy=>y=b\/y=k.mp) w<|aF w<|au (W8 num x) 248:=zj.E _;have M0:=HS.y (S:=λ_=>False) (zj.E<|au (W8 num x) 248) id;have T0:=HT.y (S:=λ_=>False) (zj.E<|au (W8 num x) 248) id;by_cases h9:9<=T x
 ·have j9:(9:U)<=(T x:U):=by omega
  have C1:xh (aF (aF w<|au (W8 num x) 248)<|au #[E x] 234) (V (Z' w)+1) #[E x] 234:=by have h:=xh.ex (aF w<|au (W8 num x) 248) #[E x] 234;rwa[xp]at h
  have Q1:=Q0.E<|au #[E x] 234;have L1:Jh (aF (aF w<|au (W8 num x) 248)<|au #[E x] 234) b k:=xh.E L0 _;have G1:=G0.E<|au #[E x] 234;have A1:=A0.aE<|zj.E<|au #[E x] 234;have M1:=M0.y (S:=λ_=>False) (zj.E<|au #[E x] 234) id;have T1:=T0.y (S:=λ_=>False) (zj.E<|au #[E x] 234) id;go_wp2;have R:(aF w<|au #[J num,E x] 248)=(aF w<|au (W8 num x) 248):=O;rw[R];generalize(aF w<|au (W8 num x) 248).alloc (au #[E x] 234)=w1 at*;have HC:∀g,zj (·=V (Z' w)+1) w1 g->N g (zq (V<|Z' w) 0)=J num/\N g (zq b 8)=J k.bF:=λg h=>by have r3:=Q1.y h À;have l3:=xh.y L1 h À;exact⟨r3.i 0 O,l3.i 8 O⟩
  have S0:=HC w1<|zj.refl _ _;obtain⟨fb,be⟩:∃fb,(83::(nb num 4++nb (k.bF+1) 4))=fb:=⟨_,O⟩;have h2:=be;have KF:∀g:Zy,aK prog 152 #[J num,J (k.bF+1:aD)] g λe w'=>e=ai (E fb)/\aP (V<|Z' g) g w':=λg=>by rw[<-be];exact XR num (k.bF+1) g
  go_region_held2 (λw'=>N w' (zq (V<|Z' w) 0)=J num/\N w' (zq b 8)=J k.bF) (first|exact S0|exact S1|exact S2)
   (first
    |(go_at_call 165;refine(wH (w:=w1.drew) C1.W 9 9 O h9).mono ?_;rintro e hd⟨rfl,l,bd⟩;have ho:H (zj (·=V (Z' w)+1) w1 hd):=⟨l.os,l.cX,l.Q,l.dP⟩;have v':=bd;have S1:=HC hd ho.o;clear l bd)
    |(go_at_call 152;refine(KF _).mono ?_;rintro e g⟨rfl,cs⟩;have X:=cs;have c:=ho.o.aE<|zj.J cs;have S2:=HC g c;clear cs)
    |(go_at_call 164;refine(Eh _ _<|G1.y c À).mono ?_;rintro e w4⟨bl,bu⟩;obtain rfl:=bl.symm;obtain⟨rfl,z⟩|⟨rfl,z⟩:=bu;rotate_left;(exact⟨O,Jl (ZQ h9<|by rw[h2];intro hh;have:=z.o;grind)<|A1.cZ (r:=V (Z' w)+1) À c⟩)))
  have es:H<|x.take 9=fb:=by have:=z.o;rw[zQ,xl,xl]at this;exact this
  have B:H (mX k L num x=match ms k L (x.drop 9)with
   |some (k',L',r)=>Vd k' L' num (T x) (if T r=T x-9 then 0 else T x-T r)
   |none=>aw):=ZS h9<|es.o.trans h2.symm
  have Q3:=Q1.y c À;have C3:=v'.Y X;have L3:Jh g b k:=xh.y L1 c À;have G3:=G1.y c À;have A3:=A1.cZ (r:=V (Z' w)+1) À c;have M3:=M1.y c À;have T3:=T1.y c À;clear HC KF S0 z c ho X v' Q1 C1 L1 G1 A1 M1 T1 es h2;clear S1;clear S2;try clear hHeld
  have bo:T (x.drop 9)=T x-9:=Â
  obtain⟨x9,h3⟩:∃y,x.drop 9=y:=⟨_,O⟩;rw[h3]at B C3 bo;clear h3;go_wp2;go_loopw [4] (λv wr=>∃(q:Lk) (u:KV) (r:Zl) (i:aD),v=J i/\q.ok/\q.mp=k.mp/\T r<=T x9/\i=(if T r=T x9 then 0 else T x-T r)/\ms k L x9=ms q u r/\xh wr (V (Z' w)+1) #[E r] 234/\xh wr (V<|Z' w) (W8 num x) 248/\Jh wr b q/\ip tv wr/\zj (λy=>y=b\/y=k.mp) w wr/\Je wr k.mp u/\iN wr) (λ_ wr=>qP (V (Z' w)+1) wr);grind;obtain⟨q,u,r,i,rfl,bh,bi,cd,bm,G,hC,hQ,hL,hG,hA,hM,hT⟩:=hrel;have bb:=xe bm;have j:=G;have ba:=bh;have g':=bi;have Ct:=hC;have Qt:=hQ;have Lt:=hL;have h1:=hG;have At:=hA;have F:=hM;have Tt:=hT;have HZ:=FN hC;have c0:N wr (zq (V (Z' w)+1) 0)=E r:=hC.i 0 O;clear bm G bh bi hC hQ hL hG hA hM hT Q3 C3 L3 G3 A3 M3 T3;go_wp2;refine(zwm r _).mono ?_;rintro e t⟨rfl,C⟩;have cf:=zm bk (At.aE<|C.U λ_ h=>h.elim).Q;have C5:=Ct.y C id;have Q5:=Qt.y C id;have L5:Jh t b q:=xh.y Lt C id;have G5:=h1.y C id;have A5:=At.aE<|C.U λ_ h=>h.elim;have M5:=F.y C id;have T5:=Tt.y C id;clear C Ct Qt Lt h1 At F Tt c0;by_cases m:J5 r=ay
  ·rw[m];have f:=m;clear m;go_wp2;refine(xkn (V (Z' w)+1) r f _ C5).mono ?_;rintro e w6⟨rfl,P,k6⟩;have C6:=k6;have Q6:=Q5.y P À;have L6:Jh w6 b q:=xh.y L5 P À;have G6:=G5.y P À;have A6:=A5.cZ (r:=V (Z' w)+1) À P;have M6:=M5.y P À;have T6:=T5.y P À;have bv:=zm bk A6.Q;clear P k6 C5 Q5 L5 G5 A5 M5 T5;go_wp2;refine(jfa (tv:=tv) b q ba u r f _ bv bs bt À À À L6 Á T6 G6).mono ?_;intro e w7 hp;unfold CO at hp;cases hra:Jv q u r with
   |none=>
    rw[hra]at hp;obtain⟨rfl,s⟩:=hp;rw[g']at s;exact⟨O,Jl (by rw[B.o,j,ZI f hra])<|A6.aE s⟩
   |some qq=>
    obtain⟨q2,L2⟩:=qq;rw[hra]at hp;obtain⟨rfl,s,l7,m7⟩:=hp;rw[g']at s m7;obtain⟨bf,bg,_⟩:=ZM hra f ba;have b2:=Wt f;have D:H<|ms k L x9=ms q2 L2 (r.drop<|42+jX r):=by show _=_;rw[j];exact ZH f hra
    have d:H<|T (r.drop<|42+jX r)=T r-(42+jX r):=by show _=_;simp
    obtain⟨r2,bj⟩:∃y,r.drop (42+jX r)=y:=⟨_,O⟩;rw[bj]at D C6 d;clear bj;have C7:=C6.y s À;have Q7:=Q6.y s À;have L7:=l7;have G7:=G6.y s À;have A7:=A6.aE s;have M7:=m7;have T7:=T6.y s À;have bp:=bf;have bq:=bg.trans g';have br:=FN C7;have z1:N w7 (zq (V<|Z' w) 1)=E x:=Q7.i 1 O;have z2:N w7 (zq (V (Z' w)+1) 0)=E r2:=C7.i 0 O;have b3:T r2<=T x:=zbj
    obtain⟨wn,bn⟩:∃wn,T x-T r2=wn:=⟨_,O⟩;have b9:=bn;have zz:IntKind.i64.wrap ((T x:U)-(T r2:U))=(wn:U):=Ï
    clear bn;clear s l7 m7 hra bf bg C6 Q6 L6 G6 A6 M6 T6 j;go_wp2;go_roundw;exact⟨q2,L2,r2,wn,O,bp,bq,zbj,by rw[aL zbj];omega,D.o,C7,Q7,L7,G7,A7,M7,T7⟩;rw[HZ,br];have:=d.o;omega
  have n:J5 r=ao:=by simpa using m
  rw[n];have a:H<|mX k L num x=Vd q u num (T x) i:=by show _=_;rw[B.o,j,ZJ n,bb.o,bo]
  have Qt:=Q5;have Lt:=L5;have h1:=G5;have At:=A5;have F:=M5;clear bb j B C5 Q5 L5 G5 A5 M5 T5 m n HZ;have t1:N t (zq (V<|Z' w) 1)=E x:=Qt.i 1 O;have t0:N t (zq (V<|Z' w) 0)=J num:=Qt.i 0 O;have bw:N t (zq b 12)=J q.aQ:=xh.i Lt 12 O;have bx:N t (zq b 15)=bG q.cQ:=xh.i Lt 15 O;have bz:N t (zq b 16)=J q.cY:=xh.i Lt 16 O;have b0:=xh.dS Lt 15;have b1:=xh.dS Lt 16;by_cases p:i<T x
  ·have i1:(i:U)<(T x:U):=by omega
   go_wp2;go_still_tail 7,Ä;go_wp2;by_cases o:(num:U)=q.aQ
   ·refine(Yt _ Á _).mono ?_;rintro e hd⟨rfl,rfl⟩;have LE:Jh (M (M t (zq b 15)<|bG ay) (zq b 16)<|J i).drew b {q with cQ:=ay,cY:=i}:=((xh.H Lt 15<|bG ay).H 16<|J i).W;have W:zj (λy=>y=b) t (M (M t (zq b 15)<|bG ay) (zq b 16)<|J i).drew:=((zj.H t (zq b 15)<|bG ay).aE<|zj.H _ (zq b 16)<|J i).W;have A:H<|mX k L num x=ac ({q with cQ:=ay,cY:=i},u):=by show _=_;rw[a.o];unfold Vd;rw[aT p,aT o];try rfl
    clear o;go_wp2;go_end0;exact zcg
   refine(Jw _ Á _ h1.W).mono ?_;exact zc6
  have i1:¬(i:U)<(T x:U):=À
  have A:H<|mX k L num x=ac (q,u):=zct
  go_wp2;go_end0;exact FW A.o At Lt F
 have j9:¬(9:U)<=(T x:U):=À
 have a:H<|mX k L num x=Vd k L num (T x) 0:=ZR h9;have Qt:xh (aF w<|au #[J num,E x] 248) (V<|Z' w) (W8 num x) 248:=Q0;have Lt:Jh (aF w<|au #[J num,E x] 248) b k:=L0;have h1:ip tv<|aF w<|au #[J num,E x] 248:=G0;have At:zj (λy=>y=b\/y=k.mp) w<|aF w<|au #[J num,E x] 248:=A0;have F:Je (aF w<|au #[J num,E x] 248) k.mp L:=M0;have b4:N w (zq b 12)=J k.aQ:=xh.i I 12 O;have b5:N w (zq b 15)=bG k.cQ:=xh.i I 15 O;have b6:N w (zq b 16)=J k.cY:=xh.i I 16 O;have b7:=xh.dS I 15;have b8:=xh.dS I 16;clear Q0 L0 G0 A0 M0 T0 I HT HG HS;have cg:(T x:U)<9:=À
 have t1:N (aF w<|au #[J num,E x] 248) (zq (V<|Z' w) 1)=E x:=Qt.i 1 O;have t0:N (aF w<|au #[J num,E x] 248) (zq (V<|Z' w) 0)=J num:=Qt.i 0 O;have bw:N (aF w<|au #[J num,E x] 248) (zq b 12)=J k.aQ:=xh.i Lt 12 O;have bx:N (aF w<|au #[J num,E x] 248) (zq b 15)=bG k.cQ:=xh.i Lt 15 O;have bz:N (aF w<|au #[J num,E x] 248) (zq b 16)=J k.cY:=xh.i Lt 16 O;have b0:=xh.dS Lt 15;have b1:=xh.dS Lt 16;by_cases p:0<T x
 ·have i1:0<(T x:U):=by omega
  go_wp2;generalize(aF w<|au #[J num,E x] 248)=wq at*;go_still_tail 7,Ä;go_wp2;by_cases o:(num:U)=k.aQ
  ·refine(Yt _ Á _).mono ?_;rintro e hd⟨rfl,rfl⟩;have LE:Jh (M (M wq (zq b 15)<|bG ay) (zq b 16)<|J 0).drew b {k with cQ:=ay,cY:=0}:=((xh.H Lt 15<|bG ay).H 16<|J 0).W;have W:zj (λy=>y=b) wq (M (M wq (zq b 15)<|bG ay) (zq b 16)<|J 0).drew:=((zj.H wq (zq b 15)<|bG ay).aE<|zj.H _ (zq b 16)<|J 0).W;have A:H<|mX k L num x=ac ({k with cQ:=ay,cY:=0},L):=by show _=_;rw[a.o];unfold Vd;rw[aT p,aT o];rfl
   clear o;go_wp2;go_end0;exact zcg
  refine(Jw _ Á _ h1.W).mono ?_;exact zc6
 have i1:¬0<(T x:U):=À
 have A:H<|mX k L num x=ac (k,L):=zct
 go_wp2;go_end0;exact FW A.o At Lt F
end
section
variable{S:Exit→mh→Zy→Prop}{s x:Operand}{K:mh→Zy→Prop}{ops:bE eX}{o:eX}{a:mh}{cs:Za}
structure El(t e k:aD):Prop where
 Bf:prog.underlying t=ac (.slice e)
 FY:∃i z,prog.info? e=ac i/\i.zero=ac z/\i.size=k/\i.bytes<=100/\V z.cells=k
 iE:0<k
def El.Be{t e b z}(h:prog.underlying t=ac (.slice e))(c:(prog.info? e).map (λi=>(i.zero,i.size,i.bytes))=ac (ac z,k,b))(a:b<=100)(d:V z.cells=k)(hk:0<k):El t e k:=by refine⟨h,?_,hk⟩;cases y:prog.info? e<;>grind
def LQ:El 151 157 2:= .Be ((eZ 151).trans Tryz.underlying151) (z:=bY #[ak ⟨#[]⟩,ak ⟨#[]⟩]) (b:=32) Ä Ã O Ã
def CT:El 150 159 3:= .Be ((eZ 150).trans Tryz.underlying150) (z:=bY #[J 0,ak ⟨#[]⟩,J 0]) (b:=32) Ä Ã O Ã
def PW:El 152 147 3:= .Be ((eZ 152).trans Tryz.underlying152) (z:=bY #[bG ao,ak ⟨#[]⟩,ak ⟨#[]⟩]) (b:=40) Ä Ã O Ã
def zj.ib{S p}(h:zj S w0 w)(k:zj p w w')(c:∀y,p y->V (Z' w0)<=y):zj S w0 w':=
 ⟨k.os.trans h.os,k.cX.trans h.cX,xa h.Q k.Q,λi a b=>(k.dP i (zm a h.Q) λe=>Á).trans<|h.dP i a b⟩
structure ff{X:Type}(w0 w:Zy)(e k:aD)(f:X->Ze)(v:Zv)(l:bA X):Prop where
 nw:Nw w0 w
 cN:w.ownsRow (V<|Z' w0) e k v (T l)<|l.flatMap f
 nl:l=[]->v=aB aw 0 0
section
variable{D w w':dN}{f:X->bA eJ}{v:eJ}{l:bA X}
theorem ff.nil(D):ff D D e k f (aB aw 0 0) []:=⟨zj.refl _ _,jk _ _ _ _,λ_=>O⟩
def ff.ib(h:ff D w e k f v l)(c:Nw w w'):ff D w' e k f v l:=by refine⟨h.nw.aE c,⟨h.cN.1,?_⟩,h.nl⟩;obtain e|⟨g,a,b,j,i,d,r⟩:=h.cN.2;grind;exact Y ⟨g,a,b,j,i,(c.dP g (za.1 d).1 id).trans d,r⟩
theorem ff.bM(h:ff w1 w e k f v l)(c:Nw D w1):ff D w e k f v l:=by refine⟨c.aE h.nw,⟨h.cN.1,?_⟩,h.nl⟩;obtain e|⟨g,a,b,i,d,r⟩:=h.cN.2;grind;exact Y ⟨g,a,b,i,xa c.Q d,r⟩
def ff.dL(h:ff D w e k f v l):∃a cap,v=aB a (T l) cap:=by obtain⟨e,c⟩|⟨g,cap,b,d,_⟩:=h.cN.2<;>grind
def ff.rw(h:ff D w e k f v l):Rw w e k f v l:=⟨h.cN.1,h.cN.2.imp id λ⟨g,a,b,c,_,r⟩=>⟨g,a,b,c,Zz _,r⟩⟩
theorem ff.ex(h:ff D w e k f v l)(g)(a:v.ownBlock=ac g):V (Z' D)<=g:=(h.cN.lt g a).1
def LU{d G:aD}(P:El t e k)(b:X)(h:W.ownsRow d e k v (T l)<|l.flatMap f)(hd:d<=V (Z' W))(h1:T l<=1000000000000)(r:xh W B cs G)(w:f b=eV cs)(hk:T (f b)=k)(n:∀u∈f b,u.oneCell'=ay)
  (F:a.eval s=v)(hx:a.eval x=aB (ac ⟨B,0,aw⟩) 1 1)(ho:o.op= .call {callee:= .builtin .append,args:=#[s,x],argTypes:=#[t,t]})
  (A:∀g cap w',w'.ownsRow d e k (aB (ac ⟨g,0,aw⟩) (T l+1) cap) (T (l++[b])) ((l++[b]).flatMap f)->zj (λy=>v.ownBlock=ac y) W w'->(v.ownBlock=ac g\/g=V (Z' W))->K (a.put o.dst<|aB (ac ⟨g,0,aw⟩) (T l+1) cap) w'):o.wp prog a W K S:=by
 have⟨i,z,hi,hz,hs1,hb,hzs⟩:=P.FY;refine wp_append_lies _ s x t ho d e i z k i.bytes P.Bf hi hz hs1 O hzs P.iE v (T l) _ F h (zq B 0) 1 1 (f b) hx À ?_ n Ã è ?_ hd _ O ?_;intro j u m;rw[w]at m;exact gX r j u m;have:(T l+1)*i.bytes<=1000000000001*100:=GP À hb;omega;intro g cap w' I c p _;refine A g cap w' ?_ ⟨c.os,c.output,c.size,λq D C=>c.block q D λe=>C e.symm⟩ p;grind
def ff.jK{rest:bA eX}(F:El t e k)(b:X)(h:ff D w e k f v l)(p:T l<=1000000000000)(n:f b=eV cs)(hk:T (f b)=k)(d:∀u∈f b,u.oneCell'=ay)
  (q:a.eval s=v)(hx:a.eval x=aB (ac ⟨V<|Z' w,0,aw⟩) 1 1)(c:o.guard=aw)(ho:o.op= .call {callee:= .builtin .append,args:=#[s,x],argTypes:=#[t,t]})
  (K:∀g cap w',ff D w' e k f (aB (ac ⟨g,0,aw⟩) (T l+1) cap) (l++[b])->wpList prog ops S rest (a.put o.dst<|aB (ac ⟨g,0,aw⟩) (T l+1) cap) w'):wpList prog ops S (o::rest) a<|aF w<|au cs e:=
 DP c λ_ m=>LU F b (h.cN.alloc _) (xa h.nw.Q Â) p (xh.ex w cs e) n hk d q hx ho λg cap w' i j _=>m _ _<|K g cap w' ⟨(h.nw.aE<|zj.E _).ib j λy r=>(h.cN.lt y r).1,i,λe=>oz⟩
def Rw.rX{p:aD}(F:El t e k)(b:X)(h:Rw W e k f v l)(m:T l<=1000000000000)(d:xh W B cs p)(i:f b=eV cs)(hk:T (f b)=k)(c:∀u∈f b,u.oneCell'=ay)
  (n:a.eval s=v)(hx:a.eval x=aB (ac ⟨B,0,aw⟩) 1 1)(j:o.guard=aw)(ho:o.op= .call {callee:= .builtin .append,args:=#[s,x],argTypes:=#[t,t]})
  (G:∀g cap w',Rw w' e k f (aB (ac ⟨g,0,aw⟩) (T l+1) cap) (l++[b])->zj (λy=>v.ownBlock=ac y) W w'->(v.ownBlock=ac g\/g=V (Z' W))->K (a.put o.dst<|aB (ac ⟨g,0,aw⟩) (T l+1) cap) w'):
  if bP o (fN ops a.tmps)=ay then o.wp prog a W K S else R:=by
 rw[aT za8];exact LU F b h (Zz _) m d i hk c n hx ho G
def ff.rX{w:aD}(F:El t e k)(b:X)(h:ff D W e k f v l)(p:T l<=1000000000000)(j:xh W B cs w)(m:f b=eV cs)(hk:T (f b)=k)(c:∀u∈f b,u.oneCell'=ay)
  (q:a.eval s=v)(hx:a.eval x=aB (ac ⟨B,0,aw⟩) 1 1)(n:o.guard=aw)(ho:o.op= .call {callee:= .builtin .append,args:=#[s,x],argTypes:=#[t,t]})
  (G:∀g cap w',ff D w' e k f (aB (ac ⟨g,0,aw⟩) (T l+1) cap) (l++[b])->K (a.put o.dst<|aB (ac ⟨g,0,aw⟩) (T l+1) cap) w'):
  if bP o (fN ops a.tmps)=ay then o.wp prog a W K S else R:=by
 rw[aT za8];exact LU F b h.cN h.nw.Q p j m hk c q hx ho λg cap w' d i _=>G g cap w' ⟨h.nw.ib i λy r=>(h.cN.lt y r).1,d,λe=>oz⟩
end
end
section
attribute [local go_sem] zn zg
def uD(c:Vk)(s:ez×KV)(q:Zl×Zl):ez×KV:=
 ((s.1||decide (cK c<=q.1)),(s.2++if s.1=ao/\cK c<=q.1 then [(cK c,cV c)]else [])++if q.1=cK c then []else [q])
def tG(l:KV)(c:Vk):ez×KV:=l.foldl (uD c) (cG c,[])
def yD(l:KV)(c:Vk):KV:=(tG l c).2++if(tG l c).1=ao then [(cK c,cV c)]else []
def xjz(l:KV)(c j)(h:j<T l):tG (l.take<|j+1) c=uD c (tG (l.take j) c) l[j]:=by grind [tG,zp]
theorem xoh(l:KV)(c):∀s:ez×KV,T (l.foldl (uD c) s).2<=T s.2+2*T l:=by induction l with|nil=>grind|cons q l I=>grind [uD]
def xtj(a b):(Op.bytesLess (st a).toList (st b).toList||(st a).toList==(st b).toList)=bR (a<=b):=by grind [xl,bytesLess_eq]
def ZY(l hx c)(hl:T l<=300000000000)(w)(h:Rw w 157 2 kT hx l):
  aK prog 127 #[hx,bY (bH (t6 c))] w λe w'=>∃v,e=ai v/\ff w w' 157 2 kT v (yD l c):=by
 obtain⟨a,ba,rfl⟩:=h.dL;have S:Nw w<|aF w<|au #[bG<|cG c,E<|cK c,E<|cV c] 147:=zj.E _;have X0:xh (aF w<|au #[bG<|cG c,E<|cK c,E<|cV c] 147) (V<|Z' w) #[bG<|cG c,E<|cK c,E<|cV c] 147:=xh.ex _ _ _;have u:H<|yD l c=(tG l c).2++if(tG l c).1=ao then [(cK c,cV c)]else []:=O;have m:∀j,T (tG (l.take j) c).2<=600000000000:=λj=>by grind [xoh,tG]
 unfold t6;go_enter func127.1,Tryz.ntmps127;go_wp2;generalize aF w (au #[bG<|cG c,E<|cK c,E<|cV c] 147)=w1 at*;go_loopw [5,6,7] (λv d i wr=>∃j:aD,j<=T l/\i=J j/\d=bG (tG (l.take j) c).1/\ff w1 wr 157 2 kT v (tG (l.take j) c).2) (λ_ _ i _=>bL (T l-bZ i));exact⟨0,À,O,O,ff.nil _⟩;obtain⟨j,hj,rfl,rfl,I⟩:=hrel;replace m:=m j;by_cases ho:j<T l
 ·have i1:(j:U)<(T l:aD):=by omega
  obtain⟨g,rfl,cs⟩:=h.lp (λ_=>O) ho O;have F:∀w',Nw w1 w'->N w' (zq (V<|Z' w) 1)=(E<|cK c)/\N w' (zq (V<|Z' w) 2)=(E<|cV c)/\N w' (zq g<|j*2)=(ak<|st l[j].1)/\N w' (zq g<|j*2+1)=(ak<|st l[j].2):=λw' P=>⟨P.i id<|X0.i 1 O,P.i id<|X0.i 2 O,(S.aE P).i id<|cs 0 À,(S.aE P).i id<|cs 1 À⟩;have L:H<|tG (l.take<|j+1) c=uD c (tG (l.take j) c) l[j]:=xjz l c j ho;obtain⟨⟨k,R⟩,g'⟩:∃q,l[j]=q:=⟨_,O⟩;rw[g']at F L;obtain⟨⟨C,out⟩,B⟩:∃s,tG (l.take j) c=s:=⟨_,O⟩;rw[B]at L I m⊢;simp only at F I m⊢;have n:=I;have hd:=xtj (cK c) k;have G:((st k).toList==(st<|cK c).toList)=bR (k=cK c):=by rw[xl,xl];by_cases h:k=cK c<;>simp[h]
  by_cases f:C=ao/\cK c<=k;focus
   obtain⟨rfl,X⟩:=f;rw[jm X]at hd;have b:H<|uD c (ao,out) (k,R)=(ay,(out++[(cK c,cV c)])++if k=cK c then []else [(k,R)]):=by show _=_;simp[uD,X]
   have r:=F _ n.nw;go_wp2;go_quiet (fail);have D:ff w1 (wr.drewN nq) 157 2 kT _ out:=n.ib (zj.refl _ _).eL;generalize wr.drewN nq=w2 at*;clear r n hd;have r:=F _ D.nw;go_wp2_with (refine ff.jK LQ (cK c,cV c) D À O O zw O O O O ?_);intro g3 v' W h1;have y:=h1;have h1:T (out++[(cK c,cV c)])<=600000000001:=Ç
   generalize out++[(cK c,cV c)]=A at*;generalize aB (ac ⟨g3,0,aw⟩) (T out+1) v'=v3 at*;clear r D
  rotate_left;focus
   have b:H<|uD c (C,out) (k,R)=(C,out++if k=cK c then []else [(k,R)]):=by show _=_;unfold uD;rw[aL f];cases C<;>simp at f⊢;exact f
   have o:C=ao->(Op.bytesLess (st<|cK c).toList (st k).toList||(st<|cK c).toList==(st k).toList)=ao:=λe=>Á
   have r:=F _ n.nw;obtain⟨A,rfl⟩:∃x,x=out:=⟨_,O⟩;have h1:T A<=600000000001:=À
   clear f hd;cases C;all_goals
    try replace o:=o O
    go_wp2;go_quiet (fail);have y:ff w1 (wr.drewN nq) 157 2 kT _ A:=n.ib (zj.refl _ _).eL;generalize wr.drewN nq=W at*;clear r n o
  all_goals
   by_cases t:k=cK c;all_goals
    first|rw[jm t]at G|rw[jo t]at G
    first|rw[aT t]at b|rw[aL t]at b
    have r:=F _ y.nw;go_wp2;go_quiet (fail);have z:ff w1 (W.drewN nq) 157 2 kT _ A:=y.ib (zj.refl _ _).eL;generalize W.drewN nq=w5 at*;clear r y G t
   focus
    rw[Xz]at b;go_wp2;go_roundw;exact⟨j+1,À,Å,by rw[L.o,b.o],by rw[L.o,b.o];exact z⟩;exact Ì
   have r:=F _ z.nw;go_wp2_with (refine ff.jK LQ (k,R) z À O O zw O O O O ?_);intro g6 es w6 p;have h2:=p;clear p r z;go_wp2;go_roundw;exact⟨j+1,À,Å,by rw[L.o,b.o],by rw[L.o,b.o];exact h2⟩;exact Ì
 obtain rfl:j=T l:=À
 have i1:¬(T l:U)<(T l:aD):=À
 rw[jz]at*;obtain⟨⟨C,out⟩,B⟩:∃s,tG l c=s:=⟨_,O⟩;rw[B]at I m u⊢;simp only at I m u⊢;have n:=I;clear B I;have r:=X0.y n.nw id;cases C with
 |true=>rw[aL Â,Xz]at u;go_wp2;go_ret;exact⟨_,O,by rw[u.o];exact n.bM S⟩
 |false=>rw[aT O]at u;have r1:=r.i (v:=ak _) 1 O;have r2:=r.i (v:=ak _) 2 O;go_wp2_with (refine ff.jK LQ (cK c,cV c) n À O O zw O O O O ?_);intro g6 es w6 p;have h2:=p;clear p r1 r2 n;go_wp2;go_ret;exact⟨_,O,by rw[u.o];exact h2.bM S⟩
def tE(l:KV)(D:bA Vk):KV:=D.foldl yD l
def ZT(c):∀(l:KV) (s:ez×KV),T (l.foldl (uD c) s).2+(!(l.foldl (uD c) s).1).toNat<=T s.2+T l+(!s.1).toNat
 |[],s=>by simp|q::l,s=>by have a:=ZT c l<|uD c s q;grind [uD]
theorem xoi(l c):T (yD l c)<=T l+1:=by have h:=ZT c l (cG c,[]);grind [Bool.toNat_le,yD,tG]
def P6(D):∀l:KV,T (tE l D)<=T l+T D:=by induction D with|nil=>intro l;simp[tE]|cons c D I=>grind [xoi,tE]
def Rf.hU(f:Rf):KV:=tE f.L f.P
def P9(C f w)(h:Ju w C f)(I:T f.L<=200000000000)(G:T f.P<=20):aK prog 83 #[aU<|some ⟨C,0,aw⟩] w λe w'=>∃v,e=ai v/\Nw w w'/\Rw w' 157 2 kT v f.hU/\∀g,v.ownBlock=ac g->f.sv.ownBlock=ac g\/V (Z' w)<=g:=by
 have⟨a,cap,hv⟩:=h.ps.dL;have r:=h;have s:=hv;have p:N w ⟨C,12,aw⟩=ac f.sv:=h.bT.i 12 O;have t:=P6;have⟨a12,cap12,A⟩:=h.ss.dL;have b:=A;rw[A]at p;go_enter func83.1,Tryz.ntmps83;go_wp2;go_loopw [3,4] (λv i wr=>∃j:aD,j<=T f.P/\i=Q bB j/\Nw w wr/\Rw wr 157 2 kT v (tE f.L<|f.P.take j)/\∀g,v.ownBlock=ac g->f.sv.ownBlock=ac g\/V (Z' w)<=g) (λ_ i _=>bL (T f.P-bZ i));exact⟨0,À,O,zj.refl _ _,by rw[<-b];exact r.ss,λg d=>aJ (by rw[b];exact d)⟩;obtain⟨j,u,rfl,x,D,d⟩:=hrel;have m:=x;have o:=D;have q:=Ju.y r x;have c13:N wr ⟨C,13,aw⟩=aB a (T f.P) cap:=s▸q.bT.i 13 O;by_cases k:j<T f.P
 ·obtain⟨g,rfl,l⟩:=q.ps.lp (λ_=>O) k s;have e0:N wr ⟨g,j*3,aw⟩=(bG<|cG f.P[j]):=l 0 À;have S:N wr ⟨g,j*3+1,aw⟩=(ak<|st<|cK f.P[j]):=l 1 À;have F:N wr ⟨g,j*3+2,aw⟩=(ak<|st<|cV f.P[j]):=l 2 À;have y:H<|tE f.L (f.P.take<|j+1)=yD (tE f.L<|f.P.take j) f.P[j]:=by show _=_;unfold tE;rw[zp k,Kw];rfl
  have B:=t (f.P.take j) f.L;rw[xf]at B;clear l t;generalize f.P[j]=c at*;generalize tE f.L _=L1 at*;go_wp2;apply(ZY L1 _ c À _ o).mono;rintro e w1⟨P,rfl,z⟩;have n:=z;go_wp2;go_roundw;exact⟨j+1,À,Å,m.aE n.nw,by rw[y.o];exact n.rw,λg d=>Y (xa m.Q<|n.ex g d)⟩;exact Ì
 obtain rfl:j=T f.P:=À
 rw[jz]at o;go_wp2;go_ret;exact⟨_,O,m,o,d⟩
def zj.fV{S}(h:zj S w w'):zj S w<|w'.drewN n:=⟨h.os,h.cX,h.Q,h.dP⟩
def ip.fV(h:ip tv w):ip tv<|w.drewN n:=h
def rp(k:Lk):Prop:=((k.bF:U)=k.tc/\k.dX=k.bQ)\/((k.bF:U)=k.tc+1/\k.fD=k.bQ)
def ztr(b k w)(f:Jh w b k)(C:0<=k.tc)(D:k.tc<=1000000000000)(s:ip tv w):aK prog 107 #[K b] w λe w'=>zj (λ_=>False) w w'/\((e=ai (cE #[])/\H (rp k))\/(e=kn tv/\H (¬rp k))):=by
 have j:=s;have v:N w (zq b 1)=J k.tc:=f.i 1 O;have y:N w (zq b 2)=E k.bQ:=f.i 2 O;have z:N w (zq b 8)=J k.bF:=f.i 8 O;have B:N w (zq b 9)=E k.dX:=f.i 9 O;have q:N w (zq b 10)=E k.fD:=f.i 10 O;have d:H<|rp k↔(((k.bF:U)=k.tc/\k.dX=k.bQ)\/((k.bF:U)=k.tc+1/\k.fD=k.bQ)):=Iff.rfl;have t:IntKind.i64.wrap (k.tc+1)=k.tc+1:=by simp[fS,fT,fi];omega
 generalize(k.bF:U)=u at*;generalize k.tc=S at*;go_enter func107.1,Tryz.ntmps107;by_cases h:u=S
 ·subst h;have p:¬u=u+1:=by omega
  by_cases i:k.dX=k.bQ
  ·have a:=d.o.2 (aJ ⟨O,i⟩);have c:((st k.dX).toList==(st k.bQ).toList)=ay:=by rw[i];exact beq_self_eq_true _
   go_wp2;go_quiet (fail);go_wp2;go_quiet (fail);go_wp2;refine(Yt _ Ò _).mono ?_;rintro e w1⟨rfl,rfl⟩;go_wp2;go_end0;exact⟨(zj.refl _ _).fV,aJ ⟨O,a⟩⟩
  have a:¬rp k:=λg=>by obtain⟨_,x⟩|⟨x,_⟩:=d.o.1 g;exact i x;omega
  have l:¬(st k.dX).toList=(st k.bQ).toList:=by rw[xl,xl];exact i
  have c:((st k.dX).toList==(st k.bQ).toList)=ao:=by rw[jf];exact l
  go_wp2;go_quiet (fail);go_wp2;go_quiet (fail);go_wp2;refine(Jw _ Ò _<|j.fV (n:=_)).mono ?_;exact zai
 have r:bR (u=S)=ao:=ta
 by_cases p:u=S+1
 ·subst p;by_cases m:k.fD=k.bQ
  ·have a:=d.o.2 (Y ⟨O,m⟩);have c:((st k.fD).toList==(st k.bQ).toList)=ay:=by rw[m];exact beq_self_eq_true _
   go_wp2;go_quiet (fail);go_wp2;go_quiet (fail);go_wp2;refine(Yt _ Ò _).mono ?_;rintro e w1⟨rfl,rfl⟩;go_wp2;go_end0;exact⟨(zj.refl _ _).fV,aJ ⟨O,a⟩⟩
  have a:¬rp k:=λg=>by obtain⟨x,_⟩|⟨_,x⟩:=d.o.1 g;exact h x;grind
  have o:¬(st k.fD).toList=(st k.bQ).toList:=by rw[xl,xl];exact m
  have c:((st k.fD).toList==(st k.bQ).toList)=ao:=by rw[jf];exact o
  go_wp2;go_quiet (fail);go_wp2;go_quiet (fail);go_wp2;refine(Jw _ Ò _<|j.fV (n:=_)).mono ?_;exact zai
 have a:¬rp k:=λg=>by obtain⟨x,_⟩|⟨x,_⟩:=d.o.1 g;exact h x;omega
 go_wp2;go_quiet (fail);go_wp2;go_quiet (fail);go_wp2;refine(Jw _ Ò _<|j.fV (n:=_)).mono ?_;exact zai
def Ej(k:Lk)(n:U):ez:=bR (n=0)||(bR (n=k.gR)||(bR (k.bM<n)&&bR (n<=k.aQ)))
def xcl(b k n w)(a:Jh w b k):aK prog 110 #[K b,J n] w λe w'=>e=ai (bG<|Ej k n)/\w'=w:=by
 have d:N w (zq b 11)=J k.bM:=a.i 11 O;have f:N w (zq b 12)=J k.aQ:=a.i 12 O;have g:N w (zq b 14)=J k.gR:=a.i 14 O;have c:H<|∀n,Ej k n=(bR _||(bR _||(bR _&&bR _))):=λ_=>O;generalize k.bM=y at*;generalize k.aQ=p at*;generalize k.gR=S at*;go_enter func110.1,Tryz.ntmps110;by_cases h:y<n<;>by_cases i:n<=p<;>by_cases j:n=0<;>by_cases l:n=S
 all_goals
  go_wp2;go_ret;refine⟨?_,O⟩;rw[c.o];refine gv ai<|congrArg bG ?_;grind
def Rf.cN(C:aD)(f:Rf)(x:aD):Prop:=x=C\/f.fv.ownBlock=ac x\/f.sv.ownBlock=ac x\/f.pv.ownBlock=ac x
structure Xf(C:aD)(f:Rf)(w:Zy)(F:Rf)(w':Zy):Prop where
 y:zj (f.cN C) w w'
 dI:Ju w' C F
 cN:∀x,F.cN C x->f.cN C x\/V (Z' w)<=x
theorem Xf.refl{f}(h:Ju w C f):Xf C f w f w:=⟨zj.refl _ _,h,λ_=>aJ⟩
def Rw.ir{g}{l:bA X}{y}{t:Zt}(h:Rw w e k g v l)(i:xh w C y t)(m:t≠e):∀x,v.ownBlock=ac x->¬x=C:=by rintro x a rfl;obtain⟨e,_⟩|⟨b,c,d,f,_,j,_⟩:=h.2;rw[e]at a;cases a;rw[f]at a;cases a;grind [xh]
def Rw.fh{u:Type}{y k' f F p}{l:bA X}{o:bA u}(h:Rw w e k f v l)(d:Rw w y k' F p o)(g:e≠y){x}(hx:v.ownBlock=ac x):¬p.ownBlock=ac x:=by intro m;obtain⟨q,_⟩|⟨b,a,c,j,_,i,_⟩:=h.2;rw[q]at hx;cases hx;rw[j]at hx;cases hx;exact d.ir i g b m O
theorem Xf.H{f f':Rf}(h:Ju w C f)(i:aD)(v:Zv)(j:f'.G=aA f.G i v)(c:f'.F=f.F)(e:f'.L=f.L)(g:f'.P=f.P)(a:f'.fv=f.fv/\f'.sv=f.sv/\f'.pv=f.pv:=by exact⟨rfl,rfl,rfl⟩):Xf C f w f'<|M w (zq C i) v:=by
 have b:=zj.H w (zq C i) v;refine⟨b.U λx d=>aJ d,⟨j▸h.bT.H i v,?_,?_,?_,by rw[c,a.1];exact h.fn⟩,λx d=>aJ ?_⟩;rw[c,a.1];exact h.fs.y b (h.fs.ir h.bT Ã);rw[e,a.2.1];exact h.ss.y b (h.ss.ir h.bT Ã);rw[g,a.2.2];exact h.ps.y b<|h.ps.ir h.bT Ã
 grind [Rf.cN]
def xhx(C f w)(h:Ju w C f):aK prog 88 #[K C] w λe w'=>e=ai (J (if f.gw then 0 else 5))/\Xf C f w {f with gw:=ao} w':=by
 have a:N w (zq C 11)=bG f.gw:=h.bT.i 11 O;have g:=h.bT.dS 11;have b:=h;have d:Xf C f w {f with gw:=ao}<|M w (zq C 11)<|bG ao:=Xf.H b 11 _ O O O O;cases y:f.gw
 ·rw[y]at a;have c:H<|{f with gw:=ao}=f:=by show _=_;rw[<-y]
  go_enter func88.1,Tryz.ntmps88;go_wp2;go_ret;exact⟨O,by rw[c.o];exact .refl b⟩
 rw[y]at a;go_enter func88.1,Tryz.ntmps88;go_wp2;go_ret;exact⟨O,d⟩
theorem Xf.aE{f b F d}(h:Xf C f w b w1)(k:Xf C b w1 F d):Xf C f w F d:=
 ⟨⟨k.y.os.trans h.y.os,k.y.cX.trans h.y.cX,xa h.y.Q k.y.Q,λx a c=>(k.y.dP x (zm a h.y.Q) λe=>(h.cN x e).elim c λ_=>À).trans<|h.y.dP x a c⟩,k.dI,λx a=>(k.cN x a).elim (h.cN x) λq=>Y (xa h.y.Q q)⟩
def Xf.nw{f}(h:Ju w C f)(k:Nw w w'):Xf C f w f w':=⟨k.U λ_=>eT,h.y k,λ_=>aJ⟩
def Xf.iR{f i P}(h:Ju w C f)(n:Nw w W)(r:Rw i 147 3 t6 v P)(b:zj (λy=>f.pv.ownBlock=ac y) W i)(m:∀g,v.ownBlock=ac g->f.pv.ownBlock=ac g\/V (Z' w)<=g):Xf C f w {f with pv:=v,P:=P}<|M i (zq C 13) v:=by have p:=h.y n;have c:=p.bT.y b λe=>p.ps.ir p.bT Ã _ e O;have d:=zj.H i (zq C 13) v;have k:=p.fs.y b λg j=>p.fs.fh p.ps Ã j;have l:=p.ss.y b λg j=>p.ss.fh p.ps Ã j;refine⟨(n.U λ_=>eT).aE<|(b.U λx a=>Y (Y<|Y a)).aE<|d.U λx a=>aJ a,⟨c.H 13 v,k.y d<|k.ir c Ã,l.y d<|l.ir c Ã,r.y d<|r.ir c Ã,h.fn⟩,λx a=>?_⟩;obtain a|a|a|a:=a;exact aJ<|aJ a;exact aJ<|Y<|aJ a;exact aJ<|Y<|Y<|aJ a;exact(m x a).imp (λe=>Y (Y<|Y e)) id
def xhy(C a t)(h:a<0\/t<0)(w):aK prog 90 #[K C,J a,J t] w λe w'=>e=ai (J 3)/\w'=w:=by
 by_cases b:a<0
 ·clear h;go_enter func90.1,Tryz.ntmps90;go_wp2;go_ret;simp
 have c:t<0:=À
 go_enter func90.1,Tryz.ntmps90;go_wp2;go_ret;simp
def xh0(C f a t)(n:0<=a)(o:0<=t)(w)(h:Ju w C f):aK prog 90 #[K C,J a,J t] w λe w'=>e=ai (J 0)/\Xf C f w {f with nE:=ay,ko:=a,cQ:=t} w':=by have k:=h.bT.dS 4;have l:=h.bT.dS 5;have m:=h.bT.dS 6;have g:N w (zq C 4)=bG f.nE:=h.bT.i 4 O;have i:N w (zq C 5)=J f.ko:=h.bT.i 5 O;have j:N w (zq C 6)=J f.cQ:=h.bT.i 6 O;have b:=Xf.H (f':={f with nE:=ay}) h 4 _ O O O O;have c:=b.aE<|Xf.H (f':={f with nE:=ay,ko:=a}) b.dI 5 _ O O O O;have d:=c.aE<|Xf.H (f':={f with nE:=ay,ko:=a,cQ:=t}) c.dI 6 _ O O O O;go_enter func90.1,Tryz.ntmps90;go_wp2;go_ret;exact⟨O,d⟩
def Rf.eD(f:Rf)(c:Vk)(a:U)(F:Rf):Prop:=
 if f.gw=ao then a=5/\F=f else if(oR (cK c)&&tD (cV c))=ao then a=6/\F=f else if T f.P=20 then a=7/\F=f else a=0/\∃v,F={f with pv:=v,P:=f.P++[c]}
def ZA(C:aD)(f:Rf)(c:Vk)(w:Zy)(e:kH)(w':Zy):Prop:=∃a F,e=ai (J a)/\Xf C f w F w'/\f.eD c a F
theorem xbx(C f c w)(h:Ju w C f)(hP:T f.P<=20):aK prog 81 #[K C,bY (bH (t6 c))] w<|ZA C f c w:=by
 obtain⟨m,o,A⟩:=h.ps.dL;have j:=A;have a:=h;have d:Nw w<|aF w<|au #[bG<|cG c,E<|cK c,E<|cV c] 147:=zj.E _;have X0:xh (aF w<|au #[bG<|cG c,E<|cK c,E<|cV c] 147) (V<|Z' w) #[bG<|cG c,E<|cK c,E<|cV c] 147:=xh.ex _ _ _;have hC:=h.bT.lt;have n:N w (zq C 11)=bG f.gw:=h.bT.i 11 O;have c13:N w (zq C 13)=aB m (T f.P) o:=A▸h.bT.i 13 O;unfold t6;cases ho:f.gw
 ·rw[ho]at n;have b:f.eD c 5 f:=by show Rf.eD _ _ _ _;unfold Rf.eD;rw[aT ho];exact⟨O,O⟩
  go_enter func81.1,lW;go_wp2;go_ret;exact⟨5,f,O,.nw a d,b⟩
 rw[ho]at n;have k1:(oR (cK c)&&tD (cV c))=bR ((0<T (cK c)/\T (cK c)<=16)/\T (cV c)<=32):=by simp[oR,tD]
 by_cases hk:(0<T (cK c)/\T (cK c)<=16)/\T (cV c)<=32;rotate_left
 ·have b:f.eD c 6 f:=by show Rf.eD _ _ _ _;unfold Rf.eD;rw[aL<|by simp[ho],aT Á];exact⟨O,O⟩
  by_cases z:T (cK c)=0
  ·have B:((T (cK c):U)==0)=ay:=by simp[z]
   go_enter func81.1,lW;go_wp2;go_ret;exact⟨6,f,O,.nw a d,b⟩
  have B:((T (cK c):U)==0)=ao:=ê
  by_cases W:(16:U)<(T (cK c):aD)
  ·clear hk z;go_enter func81.1,lW;go_wp2;go_ret;exact⟨6,f,O,.nw a d,b⟩
  have X:(32:U)<(T (cV c):aD):=À
  go_enter func81.1,lW;go_wp2;go_ret;exact⟨6,f,O,.nw a d,b⟩
 have z:((T (cK c):U)==0)=ao:=ê
 have W:¬(16:U)<(T (cK c):aD):=À
 have X:¬(32:U)<(T (cV c):aD):=À
 by_cases s:T f.P=20
 ·have b:f.eD c 7 f:=by show Rf.eD _ _ _ _;unfold Rf.eD;rw[aL<|by simp[ho],aL Á,aT s];exact⟨O,O⟩
  have hx:(20:U)<=(T f.P:aD):=À
  go_enter func81.1,lW;go_wp2;go_ret;exact⟨7,f,O,.nw a d,b⟩
 have b:∀v,f.eD c 0 {f with pv:=v,P:=f.P++[c]}:=λv=>by grind [Rf.eD]
 have hx:¬(20:U)<=(T f.P:aD):=À
 go_enter func81.1,lW;go_wp2;have D:=a.y d;generalize aF w (au #[bG<|cG c,E<|cK c,E<|cV c] 147)=w1 at*;have p:Nw w1 (aF w1<|au #[bG<|cG c,E<|cK c,E<|cV c] 147).drew:=(zj.E _).W;have wr:xh (aF w1<|au #[bG<|cG c,E<|cK c,E<|cV c] 147).drew (V<|Z' w1) #[bG<|cG c,E<|cK c,E<|cV c] 147:=xh.ex w1 _ _;have hd:=D.y p;have cs:Rw (aF w1<|au #[bG<|cG c,E<|cK c,E<|cV c] 147).drew 147 3 t6 (aB m (T f.P) o) f.P:=j▸hd.ps;have G:∀k,Nw w1 k->N k (zq C 13)=aB m (T f.P) o/\N k (zq (V<|Z' w) 0)=(bG<|cG c)/\N k (zq (V<|Z' w) 1)=(E<|cK c)/\N k (zq (V<|Z' w) 2)=(E<|cV c):=λk h=>⟨j▸(D.y h).bT.i 13 O,(X0.y h id).i 0 O,(X0.y h id).i 1 O,(X0.y h id).i 2 O⟩;have h3:=G _<|zj.refl _ _;have S1:=G _ p;have g':∀u∈t6 c,u.oneCell'=ay:=by intro u I;simp[t6]at I;obtain rfl|rfl|rfl:=I<;>rfl
 have L:∀y,(aB m (T f.P) o).ownBlock=ac y->¬y=C/\y<V (Z' w):=λy x=>by rw[<-j]at x;exact⟨a.ps.ir a.bT Ã y x,(a.ps.lt y x).2⟩
 go_region_law (first|(refine Rw.rX PW c cs À wr O O g' O O O O ?_;intro h1 i h2 v' S t;have r:=v';have l:=S;have q:=t;have F:=hd.bT.y l λe=>(L _ e).1 O;have R:=F.dS 13;have c13:N h2 (zq C 13)=aB m (T f.P) o:=j▸F.i 13 O));all_goals
  have es:Xf C f w {f with pv:=aB (ac ⟨h1,0,aw⟩) (T f.P+1) i,P:=f.P++[c]}<|M h2 (zq C 13)<|aB (ac ⟨h1,0,aw⟩) (T f.P+1) i:=Xf.iR a (d.aE p) r (by rw[j];exact l) λg ba=>by cases ba;rw[j];exact q.imp id λe=>by rw[e];exact(d.aE p).Q
  go_wp2;go_ret;exact⟨0,_,O,es,b _⟩
def Rf.iS(f:Rf)(y:Zl):Zl×U:=
 if f.gw=ao then([],5)else if oR y=ao then([],6)else match Xg f.hU y with
  |some v=>(v,0)|none=>([],8)
def xik(h:k<T L)(n):Xg (L.drop k) n=if n=L[k].1 then ac L[k].2 else Xg (L.drop<|k+1) n:=by rw[Zx h];rfl
theorem xrm(C f P w)(h:Ju w C f)(D:T f.L<=200000000000)(B:T f.P<=20):aK prog 82 #[K C,E P] w λe w'=>e=ai (cE #[ak<|st (f.iS P).1,Q bB (f.iS P).2])/\Nw w w':=by
 have d:N w (zq C 11)=bG f.gw:=h.bT.i 11 O;have o:=P6 f.P f.L;cases A:f.gw
 ·rw[A]at d;have b:H<|f.iS P=([],5):=by show _=_;unfold Rf.iS;rw[aT A]
  rw[b.o];go_enter func82.1,Tryz.ntmps82;go_wp2;go_ret2;exact za7
 rw[A]at d;have S:oR P=bR (0<T P/\T P<=16):=O;by_cases hk:0<T P/\T P<=16;rotate_left
 ·have b:H<|f.iS P=([],6):=by show _=_;unfold Rf.iS;rw[aL<|by simp[A],aT Á]
  rw[b.o];by_cases s:T P=0
  ·have p:((T P:U)==0)=ay:=by simp[s]
   go_enter func82.1,Tryz.ntmps82;go_wp2;go_ret2;exact za7
  have p:((T P:U)==0)=ao:=ê
  have F:(16:U)<(T P:aD):=À
  go_enter func82.1,Tryz.ntmps82;go_wp2;go_ret2;exact za7
 have b:H<|f.iS P=match Xg f.hU P with|some v=>(v,0)|none=>([],8):=by show _=_;unfold Rf.iS;rw[aL<|by simp[A],aL Á]
 have s:((T P:U)==0)=ao:=ê
 have F:¬(16:U)<(T P:aD):=À
 go_enter func82.1,Tryz.ntmps82;go_wp2;refine(P9 C f _ h D B).mono ?_;rintro e w1⟨v,rfl,c,r,-⟩;obtain⟨a,z,rfl⟩:=r.dL;have q:=c;have o:T f.hU<=300000000000:=by unfold Rf.hU;omega
 generalize f.hU=L at*;go_wp2;go_loopw [7] (λi wr=>∃k:aD,k<=T L/\i=J k/\H (Xg L P=Xg (L.drop k) P)/\wr=w1) (λi _=>bL (T L-bZ i));exact⟨0,À,O,O,O⟩;obtain⟨k,hk,rfl,m,rfl⟩:=hrel;by_cases l:k<T L
 ·obtain⟨g,rfl,n⟩:=r.lp (λ_=>O) l O;have e0:N wr (zq g<|k*2)=(ak<|st L[k].1):=n 0 À;have G:N wr (zq g<|k*2+1)=(ak<|st L[k].2):=n 1 À;have I:=m.o.trans<|xik l P;have u:(k:U)<(T L:aD):=by omega
  have j:((st L[k].1).toList==(st P).toList)=bR (L[k].1=P):=by rw[xl,xl];by_cases h:L[k].1=P<;>simp[h]
  clear n m;by_cases c:L[k].1=P
  ·rw[aT c.symm]at I;rw[I]at b;rw[jm c]at j;generalize L[k].1=x at*;generalize L[k].2=y at*;go_wp2;go_ret2;exact⟨á,q⟩
  have t:H<|Xg L P=Xg (L.drop<|k+1) P:=by show _=_;rw[I,aL<|Ne.symm c]
  rw[jo c]at j;generalize L[k].1=x at*;generalize L[k].2=y at*;go_wp2;go_roundw;exact⟨k+1,À,Å,t,bD⟩;exact Ì
 obtain rfl:k=T L:=À
 have u:¬((T L:aD):U)<(T L:aD):=À
 rw[Vl]at m;rw[m.o]at b;go_wp2;go_ret2;exact⟨á,q⟩
abbrev wJ(F:Xv):Prop:=F.Pairwise λa b=>a.1<b.1
def o4(p:U×(Zl×U)):ez:=!p.2.1.isEmpty
def CQ(p):∀u∈mr p,u.oneCell'=ay:=by intro u a;simp[mr]at a;obtain rfl|rfl|rfl:=a<;>rfl
def Xf.fW{f p}(h:Ju w C f)(o:ff w W 159 3 mr v p):Xf C f w {f with fv:=v,F:=p}<|M W (zq C 3) v:=by have y:=h.y o.nw;have b:=zj.H W (zq C 3) v;refine⟨(o.nw.U λ_=>eT).aE<|b.U λx a=>aJ a,⟨y.bT.H 3 v,o.rw.y b<|o.rw.ir y.bT Ã,y.ss.y b<|y.ss.ir y.bT Ã,y.ps.y b<|y.ps.ir y.bT Ã,o.nl⟩,λx a=>?_⟩;obtain a|a|a|a:=a;exact aJ<|aJ a;exact Y<|o.ex x a;exact aJ<|Y<|Y<|aJ a;exact aJ<|Y<|Y<|Y a
def Rw.wI{f A B}{p:X}(h:Rw w e k f (aB (ac ⟨g,0,aw⟩) n c) (A++p::B))(b:∀a,T (f a)=k)(j)(o:j<k):N w (zq g<|T A*k+j)=(f p)[j]?:=by obtain⟨d,m,l⟩:=h.lp b (i:=T A) Â O;grind
theorem Rw.bT{f}{l:bA X}(h:Rw w e k f (aB (ac ⟨g,0,aw⟩) n c) l):∃y,xh w g y e/\y.toList.take (T l*k)=l.flatMap f:=by obtain⟨q,_⟩|⟨b,a,y,j,_,d,_,_,_,i⟩:=h.2;cases q;cases j;exact⟨y,d,i⟩
def Rw.dS{f}{l:bA X}(h:Rw w e k f (aB (ac ⟨g,0,aw⟩) n c) l)(i):aX w (zq g i)=ao:=by obtain⟨a,b,_⟩:=h.bT;exact b.dS i
def Bh{f:X->Ze}{k}(b:∀a,T (f a)=k):∀l:bA X,T (l.flatMap f)=T l*k
 |[]=>by simp|a::l=>by rw[Wi,zx,b,Bh b l,xg,Nat.add_mul];omega
def ff.Im{f A B}{p q:X}{a b d}(h:ff w0 w e 3 f (aB (ac ⟨g,0,aw⟩) n c) (A++p::B))(D:f q=[a,b,d])(j:∀a,T (f a)=3):ff w0 (M (M (M w (zq g<|T A*3) a) (zq g<|T A*3+1) b) (zq g<|T A*3+2) d) e 3 f (aB (ac ⟨g,0,aw⟩) n c) (A++q::B):=by
 obtain⟨q,_⟩|⟨F,o,i,u,t,v,G,r,S,k⟩:=h.cN.2;cases q;cases u;have s:xh w g i e:=v;have l:=((s.H (T A*3) a).H (T A*3+1) b).H (T A*3+2) d;have m:=((zj.H w (zq g<|T A*3) a).aE<|zj.H _ (zq g<|T A*3+1) b).aE<|zj.H _ (zq g<|T A*3+2) d;obtain⟨x,y,z,C⟩:∃x y z,f p=[x,y,z]:=match f p,j p with
  |[x,y,z],_=>⟨x,y,z,O⟩
 refine⟨h.nw.ib m λy I=>Á,⟨?_,Y ⟨g,c,_,?_,t,l,?_,r,Á,?_⟩⟩,λe=>oz⟩;rw[Bh j];simp;grind;simp only[Array.toList_setIfInBounds,List.take_set];simp only[zx,xg]at k⊢;rw[k,Wz,Wi,Wz,Wi,D,C,<-Bh j A];grind
def ZX{A B p}(e:wJ<|A++B)(c:∀a∈A,a.1<p.1)(d:∀b∈B,p.1<b.1):wJ (A++p::B):=by grind [Xw]
def ZW{A B X}{p:U×(Zl×U)}(h:(A++B).Perm X):(A++p::B).Perm<|X++[p]:=
 List.perm_middle.trans ((h.cons p).trans (List.perm_append_singleton p X).symm)
def Qe(C f l lv w)(h:Ju w C f)(hr:Rw w 159 3 mr lv l)(g':(l.map (·.1)).Nodup)(bg:T l<=999999):aK prog 196 #[aU<|some ⟨C,0,aw⟩,lv] w λe w'=>e=ai (cE #[])/\∃v F',Xf C f w {f with fv:=v,F:=F'} w'/\F'.Perm (l.filter o4)/\wJ F':=by
 obtain⟨a,bi,rfl⟩:=hr.dL;have HH:=h;have HR:=hr;have HN:=g';go_enter func196.1,Tryz.ntmps196;go_wp2;go_loopw [4,5] (λv i wr=>∃(j:aD) (u:Xv),j<=T l/\i=Q bB j/\ff w wr 159 3 mr v u/\u.Perm ((l.take j).filter o4)/\wJ u) (λ_ i _=>bL (T l-bZ i));exact⟨0,[],À,O,ff.nil _,List.Perm.refl _,iV⟩;obtain⟨j,u,hj,rfl,ho,hp,hs⟩:=hrel;have cs:=ho;have I:=hp;have v':=hs;by_cases ih:j<T l
 ·have i1:(j:U)<(T l:aD):=by omega
  obtain⟨g,rfl,L⟩:=HR.lp (λ_=>O) ih O;have HQ:∀w',Nw w w'->N w' ⟨g,j*3,aw⟩=Q bB l[j].1/\N w' ⟨g,j*3+1,aw⟩=(ak<|st l[j].2.1)/\N w' ⟨g,j*3+2,aw⟩=Q bB l[j].2.2:=λw' hw=>⟨hw.i id<|L 0 À,hw.i id<|L 1 À,hw.i id<|L 2 À⟩;have h2:H<|(l.take<|j+1).filter o4=(l.take j).filter o4++if o4 l[j]then [l[j]]else []:=by show _=_;rw[zp ih,Yu];congr 1;simp[KB]
  have r:=HQ _ cs.nw;have S:((T l[j].2.1:U)==0)= !o4 l[j]:=by
   unfold o4;cases l[j].2.1<;>simp
   omega
  have bq:T u<=999999:=by have h1:=I.length_eq;have R:=J0 o4<|l.take j;rw[xf]at R;omega
  obtain⟨⟨o,P,D⟩,bc⟩:∃p,l[j]=p:=⟨_,O⟩;rw[bc]at HQ h2 S r;have W:∀x∈u,x.1≠o:=λx hx e=>by obtain⟨i,hi,rfl⟩:=List.mem_iff_getElem.1 (Ja.1<|I.mem_iff.1 hx).1;rw[xf]at hi;rw[List.getElem_take]at e;have R:=(List.getElem_inj (xs:=l.map (·.1)) (i:=i) (j:=j) (h₀:=Á) (h₁:=Á) HN).1 Á;omega
  cases hf:o4 (o,P,D)with
  |false=>rw[hf]at S h2;go_wp2;go_roundw;exact⟨j+1,u,À,Å,cs,by rw[h2.o];simpa using I,v'⟩;exact Î
  |true=>
   rw[hf]at S h2;simp only[dY]at h2;go_wp2_with (refine ff.jK CT (o,P,D) cs À O O (CQ _) O O O O ?_);intro s y w3 bb;have X:=bb;go_wp2;go_loopw [6] (λk wq=>∃A B:Xv,k=Q bB (T A:aD)/\A++B=u/\(∀q∈B,o<q.1)/\ff w wq 159 3 mr (aB (ac ⟨s,0,aw⟩) (T u+1) y) (A++(o,P,D)::B)) (λk _=>bL (bZ k));exact⟨u,[],Å,Â,Â,X⟩;obtain⟨A,B,rfl,e1,hB,ho⟩:=hrel;have c:=ho;have b:=e1;have es:=hB;obtain rfl|⟨t,q,rfl⟩:=List.eq_nil_or_concat A
   ·have k1:¬(0:U)<((0:aD):U):=by omega
    rw[qj]at b c;go_wp2;go_quiet (fail);have d:ff w (wr.drewN nq) 159 3 mr _ _:=c.ib (zj.refl _ _).eL;generalize wr.drewN nq=w5 at*;go_wp2;go_roundw;exact⟨j+1,(o,P,D)::B,À,Å,d,by rw[h2.o];exact ZW (A:=[])<|by rw[qj,b];exact I,ZX (A:=[]) (by rw[qj,b];exact v') Â es⟩;exact Î
   have ba:=gv T b;simp only[List.concat_eq_append,zx,xg,qy,j7]at ba c b⊢;rw[jq,Vz]at c;obtain⟨⟨z,hd,G⟩,rfl⟩:∃x,x=q:=⟨_,O⟩;have w2:Rw wr 159 3 mr (aB (ac ⟨s,0,aw⟩) (T u+1) y) ((t++[(z,hd,G)])++(o,P,D)::B):=by rw[jq];exact c.rw
   have p0:N wr ⟨s,(T t+1)*3,aw⟩=Q bB o:=by simpa[mr]using w2.wI (λ_=>O) 0 À
   have p1:N wr ⟨s,(T t+1)*3+1,aw⟩=(ak<|st P):=by simpa[mr]using w2.wI (λ_=>O) 1 À
   have p2:N wr ⟨s,(T t+1)*3+2,aw⟩=Q bB D:=by simpa[mr]using w2.wI (λ_=>O) 2 À
   have q0:N wr ⟨s,T t*3,aw⟩=Q bB z:=c.rw.wI (λ_=>O) 0 À;have q1:N wr ⟨s,T t*3+1,aw⟩=(ak<|st hd):=c.rw.wI (λ_=>O) 1 À;have q2:N wr ⟨s,T t*3+2,aw⟩=Q bB G:=c.rw.wI (λ_=>O) 2 À;generalize g':T t=n at*;have k1:(0:U)<((n+1:aD):U):=À
   have k2:((n+1:aD):U)<((T u+1:aD):U):=À
   by_cases bh:o<z
   ·go_wp2;go_quiet (fail);have d:ff w (wr.drewN nq) 159 3 mr _ _:=c.ib (zj.refl _ _).eL;replace p0:N (wr.drewN nq) _=_:=p0;replace p1:N (wr.drewN nq) _=_:=p1;replace p2:N (wr.drewN nq) _=_:=p2;replace q0:N (wr.drewN nq) _=_:=q0;replace q1:N (wr.drewN nq) _=_:=q1;replace q2:N (wr.drewN nq) _=_:=q2;generalize wr.drewN nq=w5 at*;have m:∀i,aX w5 ⟨s,i,aw⟩=ao:=d.rw.dS;have bj:=m<|(n+1)*3;have bk:=m<|(n+1)*3+1;have bl:=m<|(n+1)*3+2;have bm:=m<|n*3;have bn:=m<|n*3+1;have bo:=m<|n*3+2;have bp:s<V (Z' w5):=by obtain⟨_,S,_⟩:=d.rw.bT;exact S.lt
    have bf:¬s=V (Z' w5):=À
    have be:¬V (Z' w5)=s:=À
    clear m;go_wp2;refine⟨⟨t,(z,hd,G)::B,by rw[g'],by rw[<-b,jq];rfl,λq L=>?_,?_⟩,?_⟩;obtain rfl|L:=jc.1 L;omega;exact es q L;have o1:ff w w5 159 3 mr (aB (ac ⟨s,0,aw⟩) (T u+1) y) ((t++[(z,hd,G)])++(o,P,D)::B):=by rw[jq];exact d
    have o2:=o1.Im (q:=(z,hd,G)) O λ_=>O;rw[jq,Vz,zx,g']at o2;have o3:=o2.Im (q:=(o,P,D)) O λ_=>O;rw[g']at o3;exact o3.ib<|zj.E _;simp[bZ]
   go_wp2;go_quiet (fail);have d:ff w (wr.drewN nq) 159 3 mr _ _:=c.ib (zj.refl _ _).eL;have fr:∀a∈t++[(z,hd,G)],a.1<o:=λa ha=>by
    have h1:z<o:=by have:=W (z,hd,G) (by rw[<-b];simp);omega
    obtain h|h:=je.1 ha;have R:=v';rw[<-b]at R;have h3:=(Y3.1 (Y3.1 R).1).2.2 a h (z,hd,G) Â;omega;simp_all
   generalize wr.drewN nq=w5 at*;clear p0 p1 p2 q0 q1 q2;go_wp2;go_roundw;exact⟨j+1,t++[(z,hd,G)]++(o,P,D)::B,À,Å,by rw[jq];exact d,by rw[h2.o];exact ZW<|by rw[b];exact I,ZX (by rw[b];exact v') fr es⟩;exact Î
 obtain rfl:j=T l:=À
 have i1:¬(T l:U)<(T l:aD):=À
 rw[jz]at I;obtain⟨a4,bd,rfl⟩:=cs.dL;have HE:=Xf.fW HH cs;have A:=HH.y cs.nw;have c3:N wr ⟨C,3,aw⟩=ac f.fv:=A.bT.i 3 O;have f3:=A.bT.dS 3;clear A;go_wp2;go_end0;exact⟨O,_,u,HE,I,v'⟩
end
section
attribute [local go_sem] zn zg vD
def sJ(t:U)(p:U×(Zl×U)):U×(Zl×U):=(p.1,(p.2.1.take (bL (Wx t p.2)),Wx t p.2))
def Rf.cS(f:Rf):ez:=f.nE&&bR (f.ko<=0)
def Rf.dZ(f:Rf):Rf:=if f.nE=ay then {f with ko:=f.ko-1}else f
def LR(C:aD)(f:Rf)(w w':Zy):Prop:=∃v y,Xf C f w {f with nE:=ao,gw:=ao,fv:=v,F:=y} w'/\y.Perm ((f.F.map<|sJ f.cQ).filter o4)/\wJ y
structure Iq(C:aD)(f:Rf)(w:Zy)(e:kH)(w':Zy):Prop where
 go:f.cS=ao->e=ai (bG ay)/\Xf C f w f.dZ w'
 cr:f.cS=ay->e=ai (bG ao)/\LR C f w w'
def ZC(C f w)(h:Ju w C f)(hF:oQ f.F)(hn:(f.F.map (·.1)).Nodup)(hl:T f.F<=999999)(ht:0<=f.cQ)(ha:f.ko<=9223372036854775807):aK prog 195 #[K C] w<|Iq C f w:=by
 have c4:N w (zq C 4)=bG f.nE:=h.bT.i 4 O;have c5:N w (zq C 5)=J f.ko:=h.bT.i 5 O;have f4:=h.bT.dS 4;have f5:=h.bT.dS 5;have s:=h;cases hr:f.nE
 ·rw[hr]at c4;have cs:Iq C f w (ai<|bG ay) w:=⟨λ_=>⟨O,by unfold Rf.dZ;rw[aL<|by simp[hr]];exact .refl s⟩,λq=>(by simp[Rf.cS,hr]at q)⟩;go_enter func195.1,Tryz.ntmps195;go_wp2;go_ret;exact cs
 rw[hr]at c4;by_cases h5:0<f.ko
 ·have cs:Iq C f w (ai<|bG ay)<|M w (zq C 5)<|J<|f.ko-1:=⟨λ_=>⟨O,by unfold Rf.dZ;rw[aT hr];exact Xf.H s 5 _ O O O O⟩,λq=>(by grind [Rf.cS])⟩;generalize f.ko=q at*;go_enter func195.1,Tryz.ntmps195;go_wp2;go_ret;exact cs
 have HK:∀r,LR C f w r->Iq C f w (ai<|bG ao) r:=λr q=>⟨λx=>(by grind [Rf.cS]),λ_=>⟨O,q⟩⟩;have r1:=Xf.H (f':={f with nE:=ao}) s 4 (bG ao) O O O O;have g':=r1.aE<|Xf.H (f':={f with nE:=ao,gw:=ao}) r1.dI 11 (bG ao) O O O O;have bc:N w (zq C 11)=bG f.gw:=s.bT.i 11 O;have bd:=s.bT.dS 11;have⟨a,cap,hv⟩:=s.fs.dL;have HV:=hv;go_enter func195.1,Tryz.ntmps195;go_wp2;generalize(M w (zq C 4)<|bG ao).setCell (zq C 11) (bG ao)=w1 at*;go_loopw [3,4] (λv i wr=>∃j:aD,j<=T f.F/\i=J j/\ff w1 wr 159 3 mr v ((f.F.take j).map<|sJ f.cQ)) (λ_ i _=>bL (T f.F-bZ i));grind [ff.nil];obtain⟨j,hj,rfl,ho⟩:=hrel;have l:=ho;have A:=g'.dI.y ho.nw;have c3:N wr (zq C 3)=aB a (T f.F) cap:=HV▸A.bT.i 3 O;by_cases o:j<T f.F
 ·have i1:(j:U)<(T f.F:aD):=by omega
  obtain⟨g,rfl,F⟩:=A.fs.lp (λ_=>O) o HV;have e0:N wr (zq g<|j*3)=J f.F[j].1:=F 0 À;have v':N wr (zq g<|j*3+1)=(ak<|st f.F[j].2.1):=F 1 À;have es:N wr (zq g<|j*3+2)=J f.F[j].2.2:=F 2 À;have hE:=hF _<|Xk o;have HT:H<|(f.F.take<|j+1).map (sJ f.cQ)=(f.F.take j).map (sJ f.cQ)++[sJ f.cQ f.F[j]]:=by show _=_;rw[zp o,qz];rfl
  have n:N wr (zq C 6)=J f.cQ:=A.bT.i 6 O;clear F;obtain⟨⟨d,b,c⟩,D⟩:∃p,f.F[j]=p:=⟨_,O⟩;rw[D]at e0 v' es hE HT;simp only at e0 v' es hE;clear D;have hC:=A.bT.lt;go_wp2;have k:xh (aF wr<|au #[J d,E b,J c] 159) (V<|Z' wr) #[J d,E b,J c] 159:=xh.ex _ _ _;have y:Nw wr<|aF wr<|au #[J d,E b,J c] 159:=zj.E _;have hs:V (Z' wr)<V (aF wr<|au #[J d,E b,J c] 159).heap:=k.lt;have be:T ((f.F.take j).map<|sJ f.cQ)<=999999:=Ç
  generalize(f.F.take j).map (sJ f.cQ)=P at*;have ih:∀r,Nw wr r->N r (zq C 6)=J f.cQ:=λr hw=>hw.i id n;clear c3 n e0 v' es hC;generalize hw2:aF wr (au #[J d,E b,J c] 159)=w2 at*;generalize V (Z' wr)=B at*;have hd:=k.i (v:=J _) 0 O;have hx:=k.i (v:=ak _) 1 O;have L:=k.i (v:=J _) 2 O;have n:=ih _ y;have bf:=hE.2;generalize htn:f.cQ=tn at*;have W:=htn;clear htn;by_cases e1:tn<(T b:U)-c;focus
   obtain⟨u,z⟩:∃u:aD,c+tn=(u:U):=⟨bL (c+tn),À⟩;have HL:H<|Wx tn (b,c)=(u:U):=zcx
   have ba:u<=T b:=À
   go_wp2;go_quiet (fail);have t:ff w1 (w2.drewN nq) 159 3 mr _ P:=(l.ib y).ib (zj.refl _ _).eL;have X3:xh (w2.drewN nq) B _ 159:=k;replace hd:N (w2.drewN nq) _=_:=hd;replace hx:N (w2.drewN nq) _=_:=hx;replace L:N (w2.drewN nq) _=_:=L;replace n:N (w2.drewN nq) _=_:=n;clear l k hw2 hs y ih;generalize w2.drewN nq=I at*;go_wp2;go_quiet (fail);have m:ff w1 (I.drewN nq) 159 3 mr _ P:=t.ib (zj.refl _ _).eL;have X:xh (I.drewN nq) B _ 159:=X3;try rw[z]
   clear t X3 hd hx L n;generalize I.drewN nq=w4 at*;clear e1 z
  rotate_left;focus
   obtain⟨u,z⟩:∃u:aD,T b=u:=⟨_,O⟩;have G:¬tn<(u:U)-c:=À
   have HL:H<|Wx tn (b,c)=(u:U):=zcx
   have ba:u<=T b:=À
   go_wp2;go_quiet (fail);have m:ff w1 (w2.drewN nq) 159 3 mr _ P:=(l.ib y).ib (zj.refl _ _).eL;have X:xh (w2.drewN nq) B _ 159:=k;try rw[z]
   clear l k hw2 hs y ih hd hx L n;generalize w2.drewN nq=w4 at*;go_wp2;clear e1 z G
  all_goals
   have d0:=X.i (v:=J _) 0 O;have d1:=X.i (v:=ak _) 1 O;have n1:(u:U)<=(T b:aD):=À
   have hc:mr (sJ tn (d,b,c))=[J d,E<|b.take u,J u]:=by simp[mr,sJ,HL.o]
   have HC:=hc;have w3:ff w1 (aF w4<|au #[J d,E<|b.take u,J u] 159).drew 159 3 mr _ P:=m.ib (zj.E _).W;have XA:xh (aF w4<|au #[J d,E<|b.take u,J u] 159).drew (V<|Z' w4) #[J d,E<|b.take u,J u] 159:=xh.ex w4 _ _;clear hc m;go_wp2;go_region_law (first|(refine ff.rX CT (sJ tn (d,b,c)) w3 À XA HC O (CQ _) O O O O ?_;intro g3 bb w6 hR;have S:=hR;clear hR));all_goals
    go_wp2;go_roundw;exact⟨j+1,À,Å,by rw[W,HT.o];exact S⟩;exact Ì
 obtain rfl:j=T f.F:=À
 have i1:¬(T f.F:U)<(T f.F:aD):=À
 rw[jz]at l;have HM:((f.F.map<|sJ f.cQ).map (·.1)).Nodup:=by show List.Nodup _;rw[Wj];exact hn
 have R:T (f.F.map<|sJ f.cQ)<=999999:=by show _<=_;simpa using hl
 go_wp2;refine(Qe C _ _ _ _ A l.rw HM R).mono ?_;rintro e I⟨rfl,v3,F3,h1,h2,h3⟩;have HX:Iq C f w (ai<|bG ao) I:=HK _ ⟨v3,F3,(g'.aE<|.nw g'.dI l.nw).aE h1,h2,h3⟩;clear h1 h2 h3;go_wp2;go_ret;exact HX
end
section
attribute [local go_sem] zn zg
structure ZB(f:Rf):Prop where
 fU:oQ f.F
 nd:(f.F.map (·.1)).Nodup
 gT:T f.F<=900000
 cQ:0<=f.cQ
 ko:f.ko<=9223372036854775807
def Rf.yC(f:Rf):f.dZ.F=f.F/\f.dZ.fv=f.fv/\f.dZ.cQ=f.cQ:=by grind [Rf.dZ]
structure PV(C:aD)(f:Rf)(n:U)(x:Zl)(w:Zy)(e:kH)(w':Zy):Prop where
 go:f.cS=ao->e=ai (bG ay)/\∃v y,Xf C f w {f.dZ with fv:=v,F:=y} w'/\y.Perm ((f.F.filter (λp=>p.1 != n)++[(n,x,(T x:U))]).filter o4)/\wJ y
 cr:f.cS=ay->e=ai (bG ao)/\LR C f w w'
def xui(C f n x w)(h:Ju w C f)(hk:ZB f):aK prog 129 #[K C,J n,E x] w<|PV C f n x w:=by
 have l:=hk;go_enter func129.1,Tryz.ntmps129;go_wp2;refine(ZC C f _ h l.fU l.nd (by have:=l.gT;omega) l.cQ l.ko).mono ?_;rintro e w1 hx;cases hst:f.cS;rotate_left
 ·obtain⟨rfl,u⟩:=hx.cr hst;have h1:PV C f n x w (ai<|bG ao) w1:=⟨λq=>Á,λ_=>⟨O,u⟩⟩;go_wp2;go_ret;exact h1
 obtain⟨rfl,u⟩:=hx.go hst;have I:=u;have h1:∀S,(∃v F',Xf C f w {f.dZ with fv:=v,F:=F'} S/\F'.Perm ((f.F.filter (λp=>p.1 != n)++[(n,x,(T x:U))]).filter o4)/\wJ F')->PV C f n x w (ai<|bG ay) S:=λS q=>⟨λ_=>⟨O,q⟩,λy=>Á⟩;have⟨a,cap,hv⟩:=u.dI.fs.dL;have h2:=hv;have hF:=f.yC;have m:=f.yC;have es:=l.gT;rw[m.1]at h2;go_wp2;go_loopw [8,9] (λv i wr=>∃j:aD,j<=T f.F/\i=J j/\ff w1 wr 159 3 mr v ((f.F.take j).filter λp=>p.1 != n)) (λ_ i _=>bL (T f.F-bZ i));grind [ff.nil];obtain⟨j,hj,rfl,R⟩:=hrel;have P:=R;have A:=I.dI.y R.nw;have c3:N wr (zq C 3)=aB a (T f.F) cap:=h2▸A.bT.i 3 O;have D:=J0 (λp:U×(Zl×U)=>p.1 != n)<|f.F.take j;rw[xf]at D;clear R;by_cases B:j<T f.F
 ·have i1:(j:U)<(T f.F:aD):=by omega
  have k:j<T f.dZ.F:=by rw[m.1];exact B
  obtain⟨g,rfl,G⟩:=A.fs.lp (λ_=>O) k h2;have z:f.dZ.F[j]=f.F[j]:=by congr 1;exact m.1
  rw[z]at G;have e0:N wr (zq g<|j*3)=J f.F[j].1:=G 0 À;have ho:N wr (zq g<|j*3+1)=(ak<|st f.F[j].2.1):=G 1 À;have cs:N wr (zq g<|j*3+2)=J f.F[j].2.2:=G 2 À;have o:((f.F.take<|j+1).filter λp=>p.1 != n)=((f.F.take j).filter λp=>p.1 != n)++if f.F[j].1 != n then [f.F[j]]else []:=by show _=_;rw[zp B,Yu];congr 1;simp[KB]
  clear G z k;obtain⟨⟨s,px,ps⟩,g'⟩:∃p,f.F[j]=p:=⟨_,O⟩;rw[g']at e0 ho cs o;simp only at e0 ho cs o;clear g';generalize((f.F.take j).filter λp=>p.1 != n)=ba at*;by_cases r:s=n
  ·have hd:(s==n)=ay:=by simp[r]
   rw[show(s != n)=ao by simp[r]]at o;clear r;go_wp2;go_roundw;exact⟨j+1,À,Å,by rw[o];simpa using P⟩;exact Ì
  have hd:(s==n)=ao:=by simp[r]
  rw[show(s != n)=ay by simp[r]]at o;clear r;go_wp2_with (refine ff.jK CT (s,px,ps) P À O O (CQ _) O O O O ?_);intro g3 t w3 d;have c:=d;clear d;go_wp2;go_roundw;exact⟨j+1,À,Å,by rw[o];exact c⟩;exact Ì
 obtain rfl:j=T f.F:=À
 have i1:¬(T f.F:U)<(T f.F:aD):=À
 rw[jz]at P D;have HM:((f.F.filter (λp=>p.1 != n)++[(n,x,(T x:U))]).map (·.1)).Nodup:=by show List.Nodup _;rw[qz,GK];refine⟨l.nd.sublist<|List.filter_sublist.map _,Â,λa ha b hd=>?_⟩;obtain⟨p,hp,rfl⟩:=Xe.1 ha;simp at hd;rw[hd];simpa using(Ja.1 hp).2
 have L:T (f.F.filter (λp=>p.1 != n)++[(n,x,(T x:U))])<=999999:=by show _<=_;simp;omega
 go_wp2_with (refine ff.jK CT (n,x,(T x:U)) P À O O (CQ _) O O O O ?_);intro g3 t w3 d;have c:=d;clear d;go_wp2;refine(Qe C _ _ _ _ (I.dI.y c.nw) c.rw HM L).mono ?_;rintro e w4⟨rfl,v4,F4,v',W,X⟩;have HE:=h1 _ ⟨v4,F4,(I.aE<|.nw I.dI c.nw).aE v',W,X⟩;clear v' W X;go_wp2;go_ret;exact HE
end
def ZN:∀(n:aD) {k k':Lk} {L L':KV} {l r:Zl},t7 n k L l=ac (k',L',r)->k.ok->k'.ok/\k'.mp=k.mp/\k'.aQ=k.aQ
 |0,k,k',L,L',l,r,h,hk=>by grind [t7]
 |n+1,k,k',L,L',l,r,h,hk=>by
  unfold t7 at h;by_cases a:J5 l=ay;rw[aT a]at h;cases y:Jv k L l with|none=>grind|some p=>obtain⟨b,L1⟩:=p;rw[y]at h;have⟨j,u,o⟩:=ZM y a hk;have⟨s,i,d⟩:=ZN n h j;grind
  grind
theorem ZL{k num len y}(h:Vd k L num len y=ac (k',L'))(hk:k.ok):k'.ok/\k'.mp=k.mp/\k'.aQ=k.aQ:=by unfold Vd at h;split at h;split at h;simp[xj,GV]at h;obtain⟨rfl,_⟩:=h;exact⟨⟨hk.m,hk.ep,hk.bF,hk.dX⟩,O,O⟩;grind;grind
theorem xej{k}(h:mX k L num x=ac (k',L'))(hk:k.ok):k'.ok/\k'.mp=k.mp/\k'.aQ=k.aQ:=by unfold mX at h;split at h;split at h;cases h;split at h;rename_i p L1 r y;have⟨j,u,o⟩:=ZN _ y hk;grind [ZL];grind;grind [ZL]
def ow(F:aD->Zl)(n:aD)(k:Lk)(L:KV):aD->dD (Lk×KV)
 |0=>ac (k,L)
 |r+1=>match ow F n k L r with
  |some (k',L')=>mX k' L' (n+r)<|F<|n+r
  |none=>aw
def PY{F n k L}(hk:k.ok):∀(r:aD) {k':Lk} {L':KV},ow F n k L r=ac (k',L')->k'.ok/\k'.mp=k.mp/\k'.aQ=k.aQ
 |0,k',L',h=>by grind [ow]|r+1,k',L',h=>by unfold ow at h;cases y:ow F n k L r with|none=>grind|some p=>obtain⟨a,L1⟩:=p;rw[y]at h;have⟨j,u,o⟩:=PY hk r y;grind [xej]
def ZU{F r k}(h:ow F n k L r=ac (k',L')):ow F n k L (r+1)=mX k' L' (n+r) (F<|n+r):=by rw[ow,h]
def PZ{F n r k L}(h:ow F n k L r=aw):∀d,ow F n k L (r+d)=aw
 |0=>h|d+1=>by rw[<-GU,ow,PZ h d]
structure nD(m tv:Zv)(w:Zy):Prop where
 Il:xP m w
 Y':ip tv w
 uV:iN w
def nD.y{S}(h:nD m tv w)(a:zj S w w')(b:∀x,S x->4<x):nD m tv w':=
 ⟨h.Il.y a λx=>Á,h.Y'.y a λx=>Á,h.uV.y a λx=>Á⟩
def nD.iE(h:nD m tv w):4<V (Z' w):=h.uV.iE
structure pH(B:aD)(r:Sr):Prop where
 m:T r.m=32
 bQ:T r.bQ=32
 bF:r.bF<1000000
 op:r.op<1000000
 bU:0<=r.d.bU/\r.d.bU<=1000000
 fW:rU r.d.L
 Ip:T r.d.L<1000000
 nx:∀c,r.d.nx=ac c->kh c.2.1/\0<=c.2.2/\kh c.2.2
 cN:∀x,r.cN B x->4<x
 fP:∀s,r.sn=ac s->0<=s.aQ/\s.aQ<=1000000000000/\T s.P<=20
def pH.F0(h:pH B r):jW r.D r.d:=⟨h.fW,h.nx,λx=>by have:=h.cN 0<|Y<|aJ x;omega⟩
def Zd.fA{D}(h:Vq w B r)(b:zj (r.d.cN r.D) w w')(y:Jt w' r.D D)(g:D.M=r.d.M)(ho:∀x,D.cN r.D x->r.d.cN r.D x):Zd B r w {r with d:=D} w':=by refine⟨b.U λx a=>Y (aJ a),⟨?_,y,λs c=>?_⟩,λx a=>?_⟩;exact h.bT.y b h.kP;exact⟨(h.fP s c).1.y b λx a f=>h.fh c a f,by rw[g];exact(h.fP s c).2⟩;obtain e|e|e:=a;exact aJ<|aJ e;exact aJ<|Y<|aJ<|ho x e;exact aJ<|Y<|Y e
theorem Dk.uU(d:Dk):d.eS.M=d.M:=zad
def Dk.mL(d:Dk)(D x)(h:d.eS.cN D x):d.cN D x:=by
 obtain e|e|⟨c,a,e⟩:=h;exact aJ e;exact Y<|aJ<|by grind [Dk.uU]
 exact zad
theorem vF.st{L' e}(h:Vq w B r)(g:vF m r.D r.d L' w e w'):
  (e=ai (cE #[])/\r.d.cS=ao/\Zd B r w {r with d:={r.d.dZ with L:=L'}} w')\/(e=kn m/\r.d.cS=ay/\Zd B r w {r with d:=r.d.eS} w'):=by
 obtain⟨f,⟨a,y,b⟩|⟨a,y,b⟩⟩:=g;exact aJ ⟨a,b.o,Zd.fA h f y (Dk.nU r.d) λx c=>(Dk.kO r.d r.D x).1 c⟩;exact Y ⟨a,b.o,Zd.fA h f y (Dk.uU r.d) λx c=>Dk.mL r.d r.D x c⟩
def Dk.gt(d:Dk)(n:U)(x:Zl):Dk:={d.dZ with L:=Vm d.L n (jp d.L n++x,(Zm d.L n).2)}
def Dk.uC(d:Dk)(n:U):Dk:={d.dZ with L:=Vm d.L n (jp d.L n,T (jp d.L n))}
def Dk.nC(d:Dk)(n:U)(x:Zl):Dk:={d.dZ with L:=Vm d.L n (x,T x)}
def Dk.qR(d:Dk)(n:U):Dk:={d.dZ with L:=nS d.L n}
def Dk.rL(d:Dk)(n:U)(m:aD):Dk:={d.dZ with L:=Vm d.L n ((jp d.L n).take m,T ((jp d.L n).take m))}
def Dk.jO(d:Dk):d.dZ.bU=d.bU:=za4
def ZK(L):0<=bO L:=by induction L with|nil=>simp[bO]|cons p L I=>grind [bO]
def In(L n):(T (jp L n):U)<=bO L:=by unfold jp;induction L with|nil=>simp[Xm,bO]|cons p L I=>grind [bO,Xm]
def rU.np{L}(h:rU L){n}{f:Zl×U}(b:kh n)(a:0<=f.2/\f.2<=(T f.1:aD)/\T f.1<=1000000)(c:T L<1000000):rU<|Vm L n f:=by refine⟨h.fU.np b a,?_⟩;grind [Vm,PT,YJ]
section
attribute [local go_sem] zn zg
def Sr.jI(r:Sr)(s:kE)(y:Zl)(p:aD)(P:Zl):Sr:=
 {r with d:=(r.d.gt (r.cD s).1<|(r.cD s).2++rn r.m r.bQ y p r.op r.bF P).uC (r.cD s).1,bF:=r.bF+1,bQ:=ua r.m r.bQ y p r.op r.bF P,sn:=ac {s with aQ:=(r.cD s).1}}
def Sr.fc(r:Sr)(s:kE)(y:Zl)(p:aD)(P:Zl):dD U×Sr:=
 if(r.bF:U)=r.mW then(ac 10,r)
 else if r.d.bU-bO r.d.L<(T (r.cD s).2:U)+10+T P+32 then(ac 9,r)
 else if r.d.cS=ay then(aw,{r with d:=r.d.eS})
 else if(r.d.gt (r.cD s).1<|(r.cD s).2++rn r.m r.bQ y p r.op r.bF P).cS=ay then(aw,{r with d:=(r.d.gt (r.cD s).1<|(r.cD s).2++rn r.m r.bQ y p r.op r.bF P).eS})
 else(ac 0,r.jI s y p P)
def FZ(m:Zv):dD U->kH
 |some v=>ai (J v)|none=>kn m
def ZV(r:Sr)(s):T (r.cD s).2<=9:=by grind [Sr.cD,Vb,Z2]
def P8(m p y j o cnt P)(hk:T y=1):T (rn m p y j o cnt P)=42+T P:=by grind [rn,Ad,CV,ua,Z2,A',uP]
def xkv(m p y j o cnt P)(hk:T y=1):(rn m p y j o cnt P).drop (10+T P)=ua m p y j o cnt P:=by
 have h:T (Ad y j o cnt (T P)++CV m y j o cnt P)=10+T P:=by simp[Ad,CV,Z2,A',hk];omega
 grind [rn]
def jW.step{D:aD}{d:Dk}(h:jW D d){L':Xv}(b:d.cS=ao)(e:rU L'):jW D {d.dZ with L:=L'} where
 fW:=e
 nx:=λc a=>by have a:=a;unfold Dk.dZ at a;unfold Dk.cS at b;split at a;grind;rename_i p y;rw[y]at b;have:=h.nx p y;grind [kh]
 sI:=λx=>h.sI<|(Dk.kO d D 0).1 x
def Zd.Bg{s n t}(h:Vq w B r)(f:r.sn=ac s):
  Zd B r w {r with bF:=c,bQ:=t,sn:=ac {s with aQ:=n}} (M (M (M w (zq s.S 4)<|J n) (zq B 4)<|J c) (zq B 5)<|E t):=by
 obtain⟨k,o⟩:=h.fP s f;have b:s.S≠B:=λe=>k.bT.ne h.bT Ã e;have i:zj (λx=>x=s.S\/x=B) w<|M (M (M w (zq s.S 4)<|J n) (zq B 4)<|J c) (zq B 5)<|E t:=
  (((zj.H w (zq s.S 4) _).U λx a=>aJ a).aE<|(zj.H _ (zq B 4) _).U λx a=>Y a).aE ((zj.H _ (zq B 5) _).U λx a=>Y a)
 refine⟨i.U λx a=>?_,⟨?_,?_,λu d=>?_⟩,λx a=>?_⟩;obtain e|e:=a;exact Y<|Y ⟨s,f,aJ e⟩;exact aJ e;have:=((h.bT.dR (p:=zq s.S 4) (Ne.symm b)<|J n).H 4<|J c).H 5<|E t;have e:aA (aA (r.G) 4<|J c) 5 (E t)=Sr.G {r with bF:=c,bQ:=t,sn:=ac {s with aQ:=n}}:=by simp[Sr.G,Sr.my,f]
 grind;refine h.fA.y i λx a q=>?_;obtain e|e:=q;exact h.fh f (aJ e) a;exact h.kP Á;cases d;refine⟨⟨?_,?_,?_⟩,o⟩;have:=((k.bT.H 4<|J n).dR (p:=zq B 4) b<|J c).dR (p:=zq B 5) b<|E t;exact this;refine k.jS.y i λa=>?_;obtain⟨G,F,y⟩:=k.jS.bT;obtain e|e:=a;exact k.bT.gV y e.symm;exact h.bT.gV y e.symm;refine⟨k.iR.1,?_⟩;obtain S|⟨g,j,l,C,z,m,D⟩:=k.iR.2;grind;refine Y ⟨g,j,l,C,z,(i.dP g (za.1 m).1 λa=>?_).trans m,D⟩;have v:=m;obtain e|e:=a;exact k.bT.ne v Ã e.symm;exact h.bT.ne v Ã e.symm;obtain e|e|⟨u,d,a⟩:=a;exact aJ<|aJ e;exact aJ<|Y<|aJ e;cases d;exact aJ<|Y<|Y ⟨s,f,a⟩
def ZF(B r s kind)(ep:aD)(plain w)(h:Vq w B r)(hs:r.sn=ac s)(wr:pH B r)(hG:nD m tv w)(X:T kind=1)(bb:T plain<=4000):
  aK prog 65 #[K B,E kind,J ep,E plain] w λe w'=>∃a r',r.fc s kind ep plain=(a,r')/\e=FZ m a/\Zd B r w r' w':=by
 have HH:=h;have b:=wr;have HG:=hG;have q:=hs;have p:=X;have c1:N w (zq B 1)=J r.mW:=h.bT.i 1 O;have c4:N w (zq B 4)=J r.bF:=h.bT.i 4 O;go_enter func65.1,Tryz.ntmps65;by_cases j:(r.bF:U)=r.mW
 ·have A:H<|r.fc s kind ep plain=(ac 10,r):=by show _=_;unfold Sr.fc;rw[aT j]
  rw[<-j]at c1;go_wp2;go_quiet (fail);go_wp2;go_ret;exact⟨_,_,A.o,O,⟨(zj.refl _ _).eL,HH.y ((zj.refl _ _).eL) λ_ _=>id,λx l=>aJ l⟩⟩
 have cs:=j;go_wp2;go_quiet (fail);have hd:Zd B r w r<|w.drewN nq:=⟨(zj.refl _ _).eL,HH.y ((zj.refl _ _).eL) λ_ _=>id,λx l=>aJ l⟩;have G0:nD m tv<|w.drewN nq:=HG.y (S:=λ_=>False) ((zj.refl _ _).eL) λ_ x=>x.elim;generalize w.drewN nq=w0 at*;go_wp2;refine(xpo B r s _ hd.dI q (b.fP s q).1 (b.fP s q).2.1<|by have:=b.bF;omega).mono ?_;rintro e w1⟨rfl,z⟩;have T1:=hd.aE ⟨z.U λ_ x=>x.elim,hd.dI.y z λ_ _=>id,λx l=>aJ l⟩;have G1:=G0.y z λ_ x=>x.elim;obtain⟨i,hx⟩:∃i,(r.cD s).1=i:=⟨_,O⟩;obtain⟨n,C⟩:∃n,(r.cD s).2=n:=⟨_,O⟩;have bg:T n<=9:=by rw[<-C];exact ZV r s
 rw[hx,C];have g':=hx;have be:i<=2000000000000:=by show i<=_;rw[<-hx];have:=(b.fP s q).2.1;unfold Sr.cD;split<;>simp only<;>omega
 have R:=C;have c2:=T1.dI.bT.i 2 O;go_wp2;refine(YK r.D r.d _ T1.dI.fA b.fW (by have:=b.bU;omega)<|by have:=b.bU;omega).mono ?_;rintro e w2⟨rfl,t⟩;have T2:=T1.aE ⟨zj.J t,T1.dI.y (zj.J t) λ_ _=>id,λx l=>aJ l⟩;have G2:=G1.y (S:=λ_=>False) (zj.J t) λ_ x=>x.elim;obtain⟨D,ho⟩:∃D,r.d.bU-bO r.d.L=D:=⟨_,O⟩;have bi:=ho;rw[ho];by_cases bl:D<(T n:U)+10+T plain+32
 ·have A:H<|r.fc s kind ep plain=(ac 9,r):=by show _=_;unfold Sr.fc;rw[aL cs,aT Á]
  go_wp2;go_ret;exact⟨_,_,A.o,O,T2⟩
 have bh:(T n:U)+10+T plain+32<=D:=À
 have d3:=T2.dI.bT.i 3 O;have d4:=T2.dI.bT.i 4 O;have d5:=T2.dI.bT.i 5 O;have d6:=T2.dI.bT.i 6 O;go_wp2;refine(xkw r.m _ kind ep r.op r.bF plain b.m b.bQ p bb (by have:=b.bF;omega) _ G2.uV).mono ?_;rintro e w3⟨rfl,v⟩;have u:=T2.aE ⟨zj.J v,T2.dI.y (zj.J v) λ_ _=>id,λx l=>aJ l⟩;have G3:=G2.y (S:=λ_=>False) (zj.J v) λ_ x=>x.elim;obtain⟨o,F⟩:∃o,rn r.m r.bQ kind ep r.op r.bF plain=o:=⟨_,O⟩;have bc:T o=42+T plain:=by rw[<-F];exact P8 _ _ _ _ _ _ _ p
 have I:=F;rw[F];have e2:=u.dI.bT.i 2 O;go_wp2;refine(YF r.D r.d _ _ Á _ u.dI.fA b.F0 G3.Il).mono ?_;intro e w4 v';obtain⟨rfl,g,f⟩|⟨rfl,g,f⟩:=v'.st u.dI;rotate_left;refine⟨O,aw,{r with d:=r.d.eS},?_,O,u.aE f⟩;grind [Sr.fc];have G:=u.aE f;have G4:=HG.y G.y b.cN;have bj:=g;have es:jW r.D<|r.d.gt (i:U)<|n++o:=by refine b.F0.step g<|b.fW.np ⟨À,À⟩ ?_ b.Ip;have h1:=b.fW.fU.mJ (i:U);have h2:=In r.d.L (i:U);have h4:=b.bU;have h5:T (Zm r.d.L (i:U)).1=T (jp r.d.L (i:U)):=O;simp only[zx];omega
 have f2:=G.dI.bT.i 2 O;go_wp2;refine(YH r.D (r.d.gt _ _) _ _ G.dI.fA es G4.Il).mono ?_;intro e P ba;obtain⟨rfl,g,f⟩|⟨rfl,g,f⟩:=ba.st (r:={r with d:=r.d.gt (i:U)<|n++o}) G.dI;rotate_left;refine⟨O,aw,{r with d:=(r.d.gt _ _).eS},?_,O,G.aE f⟩;grind [Sr.fc];have k:=G.aE f;have bf:=g;have c:=(k.dI.fP s q).1;have g7:N P (zq B 7)=K s.S:=by rw[k.dI.bT.i 7 O];simp[Sr.G,Sr.my,q]
 have g4:N P (zq B 4)=J r.bF:=k.dI.bT.i 4 O;have g5:N P (zq B 5)=E r.bQ:=k.dI.bT.i 5 O;have k4:=k.dI.bT.dS 4;have k5:=k.dI.bT.dS 5;have s4:N P (zq s.S 4)=J s.aQ:=c.bT.i 4 O;have j4:=c.bT.dS 4;have W:¬s.S=B:=λe=>c.bT.ne k.dI.bT Ã e;have bk:¬B=s.S:=λe=>W e.symm;go_wp2;have bd:wrap64 ((r.bF:U)+1)=((r.bF+1:aD):U):=by have:=b.bF;unfold wrap64;omega
 have y:(st o).extract (42+T plain-32) (42+T plain)=st (ua r.m r.bQ kind ep r.op r.bF plain):=by rw[<-xkv r.m r.bQ kind ep r.op r.bF plain p,I,<-bc,Pq,show T o-32=10+T plain by omega]
 rw[bd,y];go_ret;refine⟨ac 0,r.jI s kind ep plain,?_,O,k.aE ?_⟩;grind [Sr.fc];have hw:r.jI s kind ep plain={{r with d:=(r.d.gt (i:U)<|n++o).uC (i:U)}with bF:=r.bF+1,bQ:=ua r.m r.bQ kind ep r.op r.bF plain,sn:=ac {s with aQ:=(i:U)}}:=by unfold Sr.jI;rw[g',R,I]
 rw[hw];exact Zd.Bg k.dI q
end
end P
end Go.Proofs.YtjnbhiamaabbgaaGreatDoor
