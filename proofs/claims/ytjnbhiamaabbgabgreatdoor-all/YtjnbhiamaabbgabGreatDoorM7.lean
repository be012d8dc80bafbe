import Derived.Test.YtjnbhiamaabbgabGreatDoorM6
set_option linter.all false
set_option maxRecDepth 100000
set_option maxHeartbeats 8000000
section
variable{P:Prop}
def î(h:P:=by show(aR _ _).run prog _=_;simp[aR,go_sem,o8,ge]):=h
def ó(h:P:=by exact xB.rh f.o _<|b.ou.nw.aE<|zj.E _):=h
def ø(h:P:=by simpa using o):=h
def za5(h:P:=by simp[Rf.G]):=h
def zak(h:P:=by first|exact zj.refl _ _|exact(zj.refl _ _).W):=h
def zas(h:P:=by show _=_;rw[Nat.add_comm];simp):=h
def zb6(h:P:=by simp[go_sem,gD]):=h
def zbs(h:P:=by subst h;obtain⟨k,hk⟩:=SE;exact⟨a,_,k,_,_,_,_,by rw[hk],_,_,_,O⟩):=h
def zce(h:P:=by show _=_;rw[b.go,Ed<|by rw[p.o,aL hk]];rfl):=h
def zcf(h:P:=by show(aR _ _).run prog _=_;simp[aR,go_sem]):=h
def zci(h:P:=by rw[es.o];simp only[Y8];rw[B.o];omega):=h
def zdr(h:P:=by obtain rfl|rfl:=d;exact(x.o O).trans (aL À);exact(t.o O).trans<|if_neg À):=h
end
namespace Go.Proofs.YtjnbhiamaabbgabGreatDoor
open _root_ renaming Array->bE,Bool->ez,ByteArray->eM,Int->U,List->bA,Nat->Q,Option->dD,absurd->dC,rfl->O,Array.replicate->cL,Array.setIfInBounds->aA,Array.size->V,Array.toList->eV,Bool.false->ao,Bool.true->M,Decidable.decide->bR,Int.toNat->bL,Nat.reduceAdd->jY,Nat.reduceSub->lh,Option.none->R,Option.some->Y,Or.inl->aJ,Or.inr->ac,UInt8.toNat->aN
open Go renaming Act->mh,Calls->aK,Deferred->nt,Ending->kH,Frame->fZ,Goroutine->cR,Oper->eX,World->dN,execOp->aR,resolve->o8,results->eR,stepG->bW,undef->Z',Act.put->ge,CallKind.normal->dH,Calls.quiet_of_same->qE,Code.region->fG,Code.seq->gU,Exit.normal->eE,Frame.enter->bI,FrameMode.panicking->fL,FrameMode.returning->eB,Ground.data->fw,IntKind.i64->bB,IntKind.wrap_i64->zh,Item.code->dE,Item.inRegion->aS,Next.enter->nN,Obj.cells->au,Operand.tmp->cP,Proofs.intOf->bZ,Result.ok->dG,RowKit.Below->aP,RowKit.Hid->H,stepG.exec->aI
open Ending renaming outgrown->jQ,panicked->iL,returned->ai
open Proofs.Tryz renaming func39->pN,prog->az,results39->pM
open Value renaming agg->bY,bool->bG,int->aD,pointer->aU,slice->aB,string->ak,tuple->cE
open World renaming alloc->aF,cell?->N,frozen?->aX,heap->Z,setCell->ay,size_alloc->xp
open List renaming drop_drop->zbd,drop_take->Xb,length->T,length_append->zx,length_take->xf,range->iC,take->eI,take_of_length_le->qp,take_succ_eq_append_getElem->zp
namespace P
variable{z b p e s S d g m c b0 b1 b2 b3 b4 b5 b6 b7 b8 b9 b10 b11 b12:Zv}{w w' w0 v x W:Zy}{a:mh}{q:bE eX}{Ϸ B r i j:Q}{l:Zl}{D:Type}{t:Zt}{k:Lk}{aw:bA eX}{o:eX}{C:Za}{L:KV}{f:Rf}
open A.Tryq Go.RowKit
section
open A
variable[pn:A.Pn]
noncomputable def SH:=Qa<|Qf Tryz.f39.body
noncomputable def SJ:=Qa<|Qb<|Qf Tryz.f39.body
noncomputable def Nh:bE eX:=match Tryz.f39.body with
 |some (gU _<|gU _<|gU (fG _ q _) _)=>q
 |_=>#[]
def xxs:Tryz.f39.body=Y (gU SH<|gU SJ<|gU (fG 2 Nh ao) .ret):=Ä
def jb0:¬Mc az 39:=Av Ã Ã pN
def xye{a}(c:H<|a eE ⟨#[z,b,zq (V<|Z w),Z',zq<|V (Z w)+1,Z',Z',Z'],[]⟩<|aF (aF w<|au #[z] 23)<|au #[J 0] 30)(d:z.oneCell'=M):
  SH.wp prog a ⟨#[z,b,Z',Z',Z',Z',Z',Z'],[]⟩ w:=by
 conv=>arg 2;whnf
 go_wp2;exact c.o
def xyf{a q}(c:H<|a eE ⟨#[z,b,p,Z',q,.func (.func 79) #[] #[p,q],Z',Z'],[⟨.fn (.func 79) #[p,q],#[]⟩]⟩ w):
  SJ.wp prog a ⟨#[z,b,p,Z',q,Z',Z',Z'],[]⟩ w:=by
 conv=>arg 2;whnf
 go_wp2;exact c.o
def gW(B:Q)(w:Zy):Zy:=aF (aF w<|au #[zq B] 23)<|au #[J 0] 30
def gD(w:Zy):nt:=⟨.fn (.func 79) #[zq (V<|Z w),zq<|V (Z w)+1],#[]⟩
def SF{b:Zf}{x y k C G}(c:¬Mc az b.fn)(h:RX az (Xh (b.at a (dE x:: dE y::k)) C) w G):RX az (Xh (b.at a (dE (gU x y)::k)) C) w G:=
 RX.fB bX (g':=Xh (b.at a (dE x:: dE y::k)) C) c (λv=>ß) O O O h
section
variable{b:fZ}{k:bA Item}{C:bA fZ}{w:dN}{G:cR->dN->Prop}
def xku(c:¬Mc az b.fn)(h:RX az (Xh (b.at a (aS q (iC (V q))::k)) C) w G):RX az (Xh (b.at a (dE (fG Ϸ q ao)::k)) C) w G:=
 RX.fB bX (g':=Xh (b.at a (aS q (iC (V q))::k)) C) c (λv=>ß) O O O h
def xzw(c:¬Mc az b.fn)(h:RX az (Xh (b.at a k) C) w G):RX az (Xh (b.at a (aS q []::k)) C) w G:=
 RX.fB bX (g':=Xh (b.at a k) C) c (λv=>ß) O O O h
def xzx(c:¬Mc az b.fn)(h:RX az (Xh {b.at a (dE .ret::k)with mode:=eB} C) w G):RX az (Xh (b.at a (dE .ret::k)) C) w G:=
 RX.fB bX (g':=Xh {b.at a _ with mode:=eB} C) c (λv=>ß) O O O h
end
def xd3:V Nh=3:=Ä
def SM:Nh=#[⟨Y 6,.move<|cP 1,31,"coffer.go:236",#[],R⟩,⟨Y 7,.call ⟨.value<|cP 6,#[],#[]⟩,30,"coffer.go:236",#[⟨0,fw⟩],R⟩,⟨R,.store 30 (cP 4)<|cP 7,0,"coffer.go:236",#[⟨1,fw⟩,⟨1,.chain⟩,⟨0,.phase⟩,⟨1,.phase⟩],R⟩]:=Ä
def xde{f Rw aw}(P:Vi az dA f)(k:∀args w,(callFunc f args).run prog w=dG (nN f args) w)(A:CC az f #[zq B] (gW B w) Rw)
  (o:∀e w t d,aw e (re w t d)->aw e w)(F:∀e w t d,aw e w->aw e (re w t d))(m:∀w',¬aw jQ w')
  (p:∀v w',Rw (ai v) w'->∃x,v=J x/\xh w' (V (Z w)+1) #[J 0] 30/\aw (ai v) (ay w' (K (V (Z w)+1) 0) v))
  (n:∀ch w',Rw (iL ch) w'->∀tm:Za,tm[4]?=(zq<|V (Z w)+1)->∀t d,Leaves prog Tryz.f39 tm aw [gD w] (fL ch)<|re w' t d):
  CC az 39 #[zq B,.func (.func f) #[zq B] #[]] w aw:=by
 intro S h2;obtain⟨b,C⟩:∃b,b=bI az 39 #[zq B,.func (.func f) #[zq B] #[]] dH:=⟨_,O⟩;let L:bI az 39 #[zq B,.func (.func f) #[zq B] #[]] dH=b.at ⟨#[zq B,.func (.func f) #[zq B] #[],Z',Z',Z',Z',Z',Z'],[]⟩ [dE<|gU SH<|gU SJ<|gU (fG 2 Nh ao) .ret]:=by rw[C];simp only[bI,Frame.at,pN,Xl,qt,GO,xxs];rfl
 let c:b.fn=39:=by rw[C];rfl
 let g:b.kind=dH:=by rw[C];rfl
 let a:¬Mc az b.fn:=by rw[c];exact jb0
 rw[L];refine SF a<|RX.wp bX sY a g (Post:=λe h w'=>e=eE/\h=⟨#[zq B,.func (.func f) #[zq B] #[],zq (V<|Z w),Z',zq<|V (Z w)+1,Z',Z',Z'],[]⟩/\sT (gW B w) w') ?_ ?_ (λt d=>?_) ?_;rintro e h w' t d;constructor;rintro⟨i,j,D,q,hd⟩;exact⟨i,j,w'.tape,w'.drawn,by grind [re,GI]⟩;rintro⟨i,j,D,q,rfl⟩;exact⟨i,j,t,d,by rw[Ca]⟩;rintro e h w'⟨rfl,_⟩;trivial;exact xye ⟨O,O,t,d,O⟩ O;rintro e hx w1 ho⟨rfl,rfl,s⟩ ⟨_,rfl⟩;apply s.rx;refine SF a<|RX.wp bX sY a g (Post:=λe h w'=>e=eE/\h=⟨#[zq B,.func (.func f) #[zq B] #[],zq (V<|Z w),Z',zq<|V (Z w)+1,.func (.func 79) #[] #[zq (V<|Z w),zq<|V (Z w)+1],Z',Z'],[gD w]⟩/\sT (gW B w) w') ?_ ?_ (λt d=>?_) ?_;rintro e h w' t d;constructor;rintro⟨i,j,D,q,hd⟩;exact⟨i,j,w'.tape,w'.drawn,by grind [re,GI]⟩;rintro⟨i,j,D,q,rfl⟩;exact⟨i,j,t,d,by rw[Ca]⟩;rintro e h w'⟨rfl,_⟩;trivial;exact xyf ⟨O,O,t,d,O⟩;rintro e wr X cs⟨rfl,rfl,y⟩ ⟨_,rfl⟩;apply y.rx;refine SF a<|xku a ?_;rw[xd3,show iC 3=[0,1,2]from O];refine RX.eO bX a (val:= .func (.func f) #[zq B] #[]) (w':=gW B w) (by rw[SM];rfl) O Á (λt d=>⟨t,d,zcf⟩) ?_;refine RX.lP bX a (by rw[SM];rfl) O Á (λv=>?_) P A ?_ ?_
 ·show(aR ..).run prog _=_;simp[aR,go_sem,o8,ge,k]
 ·intro v l z;obtain⟨x,rfl,r,g'⟩:=p v l z;refine RX.rK bX a (w':=ay l (K (V (Z w)+1) 0)<|J x) (by rw[SM];rfl) O Á (λt d=>⟨t,d,?_⟩) ?_
  ·let G:N (re l t d) (K (V (Z w)+1) 0)=J 0:=r.i 0 O;let I:aX (re l t d) (K (V (Z w)+1) 0)=ao:=r.dS 0;show(aR ..).run prog _=_;simp[aR,go_sem,ge,G,I];rfl
  refine xzw a<|xzx a ?_;refine RX.zB bX sY (fnc:=Tryz.f39) (u:=eB) g a ⟨_,by rw[show({b.at _ _ with mode:=eB}:Zf).fn=39 from c];exact pN⟩ (by rw[show({b.at _ _ with mode:=eB}:Zf).fn=39 from c];exact func39.1) O o m λt d=>?_;show Leaves prog ..;refine leaves_cons (f:=79) (args:=#[zq (V<|Z w),zq<|V (Z w)+1]) Â zb6 ?_;apply(Ń _ _ _).mono;rintro e W v'⟨rfl,rfl,rfl⟩;let h1:N (re (ay l (K (V (Z w)+1) 0)<|J x) t d) (K (V (Z w)+1) 0)=J x:=(r.H 0 _).i 0 O;simp[Leaves,settle,eR,pM,go_sem,ge,Frame.at,h1];grind
 intro ch l z;refine RX.zB bX sY (fnc:=Tryz.f39) (u:=fL ch) g a ⟨_,by rw[show({b.at _ _ with mode:=fL ch}:Zf).fn=39 from c];exact pN⟩ (by rw[show({b.at _ _ with mode:=fL ch}:Zf).fn=39 from c];exact func39.1) O o m λt d=>?_;exact n ch l z _ O t d
end
section
open A
variable[pn:A.Pn]
attribute[local go_sem] zn zg
noncomputable def Ng:=Qf Tryz.f16.body
noncomputable def ϟ:=Qa Ng
noncomputable def Ϡ:=Qa<|Qb Ng
noncomputable def ϝ:=Qa<|Qb<|Qb Ng
noncomputable def Ϟ:=Qa<|Qn 3 Ng
noncomputable def je9:=Qa<|Qn 4<|Qf Tryz.f16.body
def xxp:Tryz.f16.body=Y (gU ϟ<|gU Ϡ<|gU ϝ<|gU Ϟ<|gU je9 .ret):=Ä
def vZ:¬Mc az 16:=Av Ã Ã Tryz.func16
def EY(B:Q)(a:mh):Prop:=∃v2 x1 x3 x4 x5 x6 x7 x8 x9 X y u n h F G P A I x20 x21 x22 x23 x24 x25 x26,a=⟨#[zq B,x1,v2,x3,x4,x5,x6,x7,x8,x9,X,y,u,n,h,F,G,P,A,I,x20,x21,x22,x23,x24,x25,x26],[]⟩
section
variable{r:Sr}{w:dN}{P:Exit->mh->dN->Prop}
def jb9(a:H<|∀A,EY B A->P eE A w):ϟ.wp prog P ⟨#[zq B]++cL (27-1) Z',[]⟩ w:=by
 simp only[jd,xg,qy,jY,lh,qu,qw,Xa,Zh,qj,qg];conv=>arg 2;whnf
 go_wp2;exact a.o _ (by repeat constructor)
def jca(d:EY B a)(h:xh w B r.G 94)(b:r.sn=R)(c:H<|∀a',EY B a'->P eE a' w):Ϡ.wp prog P a w:=by
 obtain⟨C,D,u,F,G,X,I,A,hd,e,f,g,i,j,k,l,m,n,o,p,q,s,t,v,x,y,rfl⟩:=d;let z:N w (K B 7)=aU R:=(h.i 7 O).trans<|by simp[Sr.G,Sr.my,b]
 conv=>arg 2;whnf
 go_wp2;exact c.o _ (by repeat constructor)
def jcb(c:EY B a)(h:xh w B r.G 94)(hop:r.op<999)(b:H<|∀a',EY B a'->P eE a' w):ϝ.wp prog P a w:=by
 obtain⟨z,C,D,u,F,G,X,I,A,d,e,f,g,i,j,k,l,m,n,o,p,q,s,t,v,x,rfl⟩:=c;let y:N w (K B 6)=J r.op:=h.i 6 O;conv=>arg 2;whnf
 go_wp2;exact b.o _ (by repeat constructor)
def jcc(c:EY B a)(h:xh w B r.G 94)(hop:r.op<999)(b:H<|∀a' w',EY B a'->w'=ay w (K B 6) (J (r.op+1:Q))->P eE a' w'):Ϟ.wp prog P a w:=by
 obtain⟨C,D,u,F,G,X,I,A,hd,d,e,f,g,i,j,k,l,m,n,o,p,q,s,t,v,x,rfl⟩:=c;let y:N w (K B 6)=J r.op:=h.i 6 O;let z:=h.dS 6;conv=>arg 2;whnf
 go_wp2;exact b.o _ _ (by repeat constructor) O
end
def Ϧ(r:Sr)(k:Lk)(S:Q)(L:KV):Sr:={r with op:=r.op+1,bF:=k.bF,bQ:=k.dX,d:=(Zb k r.d).2.2,sn:=Y<|Aw S (Zb k r.d).2.1 L}
def Zd.gw{r}(h:Vq w B r)(b:r.sn=R):Zd B r w {r with op:=r.op+1}<|ay w (K B 6)<|J (r.op+1:Q):=by
 refine⟨(zj.H w (K B 6) _).U λx a=>aJ a,⟨h.bT.H 6 _,?_,λs e=>?_⟩,λx a=>?_⟩;exact h.fA.y (zj.H w ..) λx a e=>h.kP Á
 grind;obtain e|e|⟨s,e,_⟩:=a;exact aJ<|aJ e;exact aJ<|ac<|aJ e;grind
def xh9{r:Sr}{C:U->Zy->Prop}(h:Vq w B r)(g:r.sn=R)(hop:r.op<999)(G:∀n w' t d,C n (re w' t d)↔C n w')
  (s:∀w5,Zd B r w {r with op:=r.op+1} w5->CC az 39 #[zq B,.func (.func 40) #[zq B] #[]] w5 λe w'=>∃n,e=ai (J n)/\C n w'):
  CC az 16 #[zq B] w λe w'=>∃n,e=ai (J n)/\C n w':=by
 let i:rq (sV az dA Tryz.f16 λe w'=>∃n,e=ai (J n)/\C n w'):=Dh λe w' t d=>exists_congr λn=>and_congr_right λ_=>G n w' t d;apply CC.kS bX vZ (gy O Tryz.func16 O).1 Tryz.func16 xxp;rw[show Tryz.f16.ntmps=27 from O];refine Yp.Aq bX sY vZ i bD λw1 Po a u hX=>jb9 λa1 m=>u.o _ _ ?_;refine Yp.Aq bX sY vZ i bD λw2 z b j P=>jca m ((h.bT.nw<|qm a).nw<|qm b) g λa2 o=>j.o _ _ ?_;refine Yp.Aq bX sY vZ i bD λw3 D c k A=>jcb o (((h.bT.nw<|qm a).nw<|qm b).nw<|qm c) hop λa3 p=>k.o _ _ ?_;refine Yp.Aq bX sY vZ i bD λw4 hd f l L=>jcc p ((((h.bT.nw<|qm a).nw<|qm b).nw<|qm c).nw<|qm f) hop λa4 w5 q x=>l.o _ _ ?_;let y:=(((qm a).aE<|qm b).aE<|qm c).aE<|qm f;let F:Zd B r w {r with op:=r.op+1} w5:=by rw[x];exact(Zd.nw h y).aE<|Zd.gw (h.y y λ_ _=>id) g
 obtain⟨v2,x1,x3,x4,x5,x6,x7,x8,x9,h1,h2,hx,ho,aw,S,wr,cs,g',W,X,v',es,ba,bb,bc,bd,rfl⟩:=q;refine Yp.vU bX vZ bD ?_;conv=>arg 3;whnf
 apply Yp.ig bX vZ;apply Vh.eO (val:=zq B) (w':=w5) bX vZ O λt d=>⟨t,d,zcf⟩;apply vh vZ ⟨O,O⟩;apply Vh.eO (val:= .func (.func 40) #[zq B] #[]) (w':=w5) bX vZ O λt d=>⟨t,d,tk⟩;refine Vh.lP bX vZ O O (λv=>î) (gy O pN O) (s _ F) ?_ ?_
 ·rintro v w6 I;let⟨n,he,hr⟩:=I;cases he;apply vh vZ ⟨O,O⟩;apply Vh.nil bX vZ;refine Yp.zU bX vZ O ⟨O,J n,λt d=>⟨t,d,?_⟩,n,O,hr⟩;simp[eR,Tryz.results16,go_sem,ge]
 grind
def EV(r:Sr)(u:Q)(a:U)(y:Sr):Prop:=match Xr (ld r.m r.bQ r.bF ((r.op+1:Q):U) u) r.d.L with
 |none=>a=11/\y={r with op:=r.op+1}
 |some (k,L)=>((Zb k r.d).1=M/\a=0/\∃S,y=Ϧ r k S L)\/((Zb k r.d).1=ao/\a=12/\y=Sr.kZ {r with op:=r.op+1,bF:=k.bF,bQ:=k.dX,d:=(Zb k r.d).2.2})
def EW(r:Sr)(u:Q)(a:U)(y:Sr):Prop:=if r.sn.isSome then a=4/\y=r else if r.op=999 then a=10/\y=r else EV r u a y
def Ds(r:Sr)(a:U)(y:Sr):Prop:=∃u,EW r u a y
def ϛ(B:Q)(r:Sr)(w:Zy)(e:kH)(w':Zy):Prop:=∃a,e=ai (J a)/\∃y,Zd B r w y w'/\Ds r a y
def xh8(B r w)(h:Vq w B r)(ho:r.sn.isSome=M\/(r.sn=R/\r.op=999)):aK prog 16 #[zq B] w<|ϛ B r w:=by
 let b:=h;obtain ho|⟨a,ho⟩:=ho
 ·let⟨s,a⟩:=Wr.1 ho;let d:N w (K B 7)=zq s.S:=(h.bT.i 7 O).trans (by simp[Sr.G,Sr.my,a]);let c:Ds r 4 r:=⟨0,by grind [EW]⟩;go_enter func16.1,Tryz.ntmps16;go_wp2;go_ret;exact⟨4,O,r,Zd.nw b<|zj.refl ..,c⟩
 let d:N w (K B 7)=aU R:=(h.bT.i 7 O).trans (by simp[Sr.G,Sr.my,a]);let e:N w (K B 6)=J 999:=(h.bT.i 6 O).trans (by simp[Sr.G,ho]);go_enter func16.1,Tryz.ntmps16;go_wp2;go_ret;exact⟨10,O,r,Zd.nw b<|zj.refl ..,⟨0,by grind [EW]⟩⟩
def Ϩ{cv tv lo r}(h:Vq w B r)(hop:r.op<=999)(o:pH B r)(hG:nD cv tv w)(A:qF lo cv tv w)(hx:∀x,r.cN B x->lo<=x)(h3:∀i,T (jp r.d.L i)<=100000)
  (bb:∀mp k L,Xr (ld r.m r.bQ r.bF ((r.op+1:Q):U) mp) r.d.L=Y (k,L)->(k.cQ=M->0<=k.cY/\k.cY<=(T (jp r.d.L k.aQ):Q))/\ -1000000000000<=k.aQ/\k.aQ<=1000000000000):
  CC az 16 #[zq B] w (ϛ B r w):=by
 by_cases ho:r.sn.isSome=M\/(r.sn=R/\r.op=999);exact M4 O Ã Tryz.func16 O (λe g t d⟨a,wr,l,A,cs⟩=>⟨a,wr,l,Zd.re A,cs⟩) (λg⟨_,y,_⟩=>û) λt d=>(xh8 B r _ (h.y (Nw.lQ (zj.refl ..) t d) λ_ _=>id) ho).mono λe g⟨a,wr,l,A,cs⟩=>⟨a,wr,l,(Zd.nw h<|Nw.lQ (zj.refl ..) t d).aE A,cs⟩;let g':r.sn=R:=by cases hs:r.sn with|none=>rfl|some s=>simp_all
 let h9:r.op≠999:=λe=>ho<|ac ⟨g',e⟩;let hC:∀(n:U) g t d,(∃l,Zd B r w l (re g t d)/\Ds r n l)↔(∃l,Zd B r w l g/\Ds r n l):=λn g t d=>exists_congr λl=>and_congr_left λ_=>⟨Zd.re,λh=>Zd.lQ h t d⟩;let hR:∀mp a l,EV r mp a l->Ds r a l:=λmp a l x=>⟨mp,by unfold EW;simp_all⟩;refine xh9 (C:=λn g=>∃l,Zd B r w l g/\Ds r n l) h g' À hC λj I=>?_;let z:pH B {r with op:=r.op+1}:=⟨o.m,o.bQ,o.bF,by show r.op+1<1000000;omega,o.bU,o.fW,o.Ip,o.nx,λx u=>o.cN x u,λs e=>o.fP s e⟩;let W:Nw j<|gW B j:=(Nw.E ..).aE<|Nw.E ..;let v':=(hG.y I.y o.cN).y W λ_ x=>x.elim;let h6:=(A.y I.y hx).y W λ_ x=>x.elim;let G:∀{x:Q},({r with op:=r.op+1}:Sr).cN B x->x<V (Z j):=Sr.fg I.dI;let bf:V (gW B j).heap=V (Z j)+2:=by simp[gW]
 let ba:xh (gW B j) (V (Z j)+1) #[J 0] 30:=by let:=xh.ex (aF j<|au #[zq B] 23) #[J 0] 30;rw[xp]at this;exact this
 let F:∀{l:Sr} {g:Zy} (v:Zv),Zd B {r with op:=r.op+1} (gW B j) l g->Zd B r w l (ay g (K (V (Z j)+1) 0) v)/\xh g (V (Z j)+1) #[J 0] 30/\xh g (V<|Z j) #[zq B] 23:=λ{l g} v c=>
  ⟨Zd.cZ (I.aE<|(Zd.nw I.dI W).aE c) (b:=V (Z j)+1) (by let:=I.y.aD;omega) (λu=>by obtain h4|h4:=c.cN _ u;let:=G h4;omega;omega)<|zj.H g (K (V (Z j)+1) 0) v,ba.y c.y λu=>(by let:=G u;omega),((xh.ex j ..).E _).y c.y λu=>(by let:=G u;omega)⟩
 refine xde (aw:=λe g=>∃n,e=ai (J n)/\∃l,Zd B r w l g/\Ds r n l) (gy O Tryz.func40 O) (λargs w=>func40.2 args w) (xub (I.dI.y W λ_ _=>id) g' z v' h3 bb) (λe g t d⟨n,hn,y⟩=>⟨n,hn,(hC n g t d).1 y⟩) (λe g t d⟨n,hn,y⟩=>⟨n,hn,(hC n g t d).2 y⟩) (λg⟨_,y,_⟩=>û) ?_ ?_;rintro v g⟨mp,bc,y⟩;cases hl:Xr (ld r.m r.bQ r.bF ((r.op+1:Q):U) mp) r.d.L with
 |none=>rw[show Xr _ _=R from hl]at y;cases y.1
 |some p=>let⟨k,L⟩:=p;rw[show Xr _ _=Y (k,L)from hl]at y;obtain⟨hd,P,S,c⟩|⟨hd,P,_⟩:=y;cases P;obtain⟨h1,D,-⟩:=F (J 0) c;refine⟨0,O,D,0,O,_,h1,hR mp _ _ ?_⟩;unfold EV;rw[hl];exact aJ ⟨hd,O,S,O⟩;cases P
 rintro ch g⟨mp,bc,y⟩ tm es t d;cases hl:Xr (ld r.m r.bQ r.bF ((r.op+1:Q):U) mp) r.d.L with
 |none=>
  rw[show Xr _ _=R from hl]at y;let⟨P,c⟩:=y;cases P;let⟨h1,D,h2⟩:=F (J 11) c;let⟨⟨_,_,_,c0⟩,⟨_,_,_,c1⟩,_⟩:=v'.y c.y z.cN;let h7:=h6.y c.y hx;refine leaves_cons (f:=79) (args:=#[zq (V<|Z j),zq<|V (Z j)+1]) Â zb6 ?_;refine(xi9 (re g t d) h7 c0 c1 (h2.i 0 O) (D.i 0 O)<|D.dS 0).mono ?_;rintro e u' bd⟨rfl,rfl,rfl⟩;let X:N (ay (re g t d) (K (V (Z j)+1) 0)<|J 11) (K (V (Z j)+1) 0)=J 11:=(D.H 0 _).i 0 O;simp[Leaves,settle,eR,pM,go_sem,es,X];refine⟨_,Zd.lQ h1 t d,hR mp _ _ ?_⟩;unfold EV;simp_all
 |some p=>let⟨k,L⟩:=p;rw[show Xr _ _=Y (k,L)from hl]at y;obtain⟨hd,P,_⟩|⟨hd,P,c⟩:=y;cases P;cases P;let⟨h1,D,h2⟩:=F (J 12) c.kZ;obtain⟨-,D,h2⟩:=F (J 12) c;let⟨⟨_,_,_,c0⟩,_,_⟩:=v'.y c.y z.cN;let h7:=h6.y c.y hx;let be:B<V (Z j):=G<|aJ O;refine leaves_cons (f:=79) (args:=#[zq (V<|Z j),zq<|V (Z j)+1]) Â zb6 ?_;apply(ņ (q:=V (Z j)+1) (re g t d) h7 c0 (c.dI.bT.i 7 O) (c.dI.bT.dS 7) (h2.i 0 O) D À).mono;rintro e u' bd⟨rfl,rfl,rfl⟩;let X:N (ay (ay (re g t d) (K B 7)<|aU R) (K (V (Z j)+1) 0)<|J 12) (K (V (Z j)+1) 0)=J 12:=((D.y (zj.H g (K B 7)<|aU R) (show V (Z j)+1≠B by omega)).H 0 _).i 0 O;simp[Leaves,settle,eR,pM,go_sem,es,X];refine⟨_,Zd.lQ h1 t d,hR mp _ _ ?_⟩;unfold EV;exact hl▸ac ⟨hd,O,O⟩
end
section
attribute[local go_sem] zn zg CI
section
variable{aD:Exit→mh→Zy→Prop}
theorem ϧ(a b r):Wy (a::b::r)=if(0<aN a/\aN a<=16)/\aN b<=32/\aN a+aN b<=T r then Y ((r.take (aN a),(r.drop (aN a)).take (aN b)),r.drop<|aN a+aN b)else R:=by unfold Wy;rw[aT Â];simp only[List.take_succ_cons,List.take_zero,List.drop_succ_cons,List.drop_zero,Ib,Zn,zbd];grind
theorem ϩ(c d r):oq (80::c::d::r)=if(0<aN c/\aN c<=16)/\aN d<=32/\aN c+aN d<=T r then Y (.put (r.take (aN c))<|(r.drop (aN c)).take (aN d),r.drop<|aN c+aN d)else R:=by grind [oq,ϧ]
def xB(l:Zl)(w:Zy)(e:kH)(w':Zy):Prop:=match Wl l with
 |some D=>∃v,e=ai (cE #[v,bG M])/\ff w w' 197 3 t6 v D|none=>∃v,e=ai (cE #[v,bG ao])/\Nw w w'
def xB.rh(h:mq (T l) l=R)(v)(n:Nw w w'):xB l w (ai<|cE #[v,bG ao]) w':=by grind [xB,Wl]
structure OpI(w:Zy)(l:Zl)(s v:Zv)(y:Zy)(r:Zl)(D:bA Vk):Prop where
 s:s=E r
 go:mq (T l) l=(mq (T r) r).map (D++·)
 gT:T D+T r<=T l
 ou:ff w y 197 3 t6 v D
def ff.Dt{t e k:Q}{f:D->Ze}{v:Zv}{l:bA D}{s x:Operand}{X:Obj}(y:El t e k)(b:D)(h:ff w0 w e k f v l)(j:T l<=1000000000000)(i:f b=eV C)(hk:T (f b)=k)(d:∀u∈f b,u.oneCell'=M)
  (m:a.eval s=v)(hx:a.eval x=aB (Y ⟨V (Z w)+1,0,R⟩) 1 1)(c:o.guard=R)(ho:o.op= .call {callee:= .builtin .append,args:=#[s,x],argTypes:=#[t,t]})
  (n:∀g cap w',ff w0 w' e k f (aB (Y ⟨g,0,R⟩) (T l+1) cap) (l++[b])->wpList prog q aD aw (a.put o.dst<|aB (Y ⟨g,0,R⟩) (T l+1) cap) w'):wpList prog q aD (o::aw) a<|aF (aF w X)<|au C e:=
 ff.jK y b (h.ib<|zj.E _) j i hk d m É c ho n
def SG{P:Zp}{A:bE Operand}{y:bE Zt}(_:o.op= .call {callee:= .builtin .append,args:=A,argTypes:=y})(h:wpList P q aD (o::aw) a W):wpList P q aD (o::aw) a W:=h
def ϣ(c):∀u∈t6 c,u.oneCell'=M:=by intro u a;simp[t6]at a;obtain rfl|rfl|rfl:=a<;>rfl
def xue(l)(hx:T l<=100000)(w):aK prog 310 #[E l] w<|xB l w:=by
 go_enter func310.1,Tryz.ntmps310;go_wp2;go_loopw [0,4] (λs v wr=>∃r D,OpI w l s v wr r D) (λs _ _=>match s with| ak x=>x.size|_=>0);exact⟨l,[],O,Â,Â,ff.nil _⟩;let⟨r,D,hi⟩:=hrel;obtain rfl:=hi.s;have b:=hi;have ho:=hi.gT;obtain⟨cs,g',rfl⟩:=hi.ou.dL;clear hi
 match r with
 |[]=>
  have f:H<|mq (T l) l=Y D:=by show _=_;rw[b.go];simp[mq]
  by_cases z:1<=T D/\T D<=20
  ·have u:(1:U)<=(T D:Q):=À;have P:(T D:U)<=20:=À
   have k:H<|Wl l=Y D:=by show _=_;unfold Wl;rw[f.o];simp only;rw[aT z]
   clear z;go_wp2;go_ret2;unfold xB;rw[k.o];exact⟨_,O,b.ou⟩
  have k:H<|Wl l=R:=by show _=_;unfold Wl;rw[f.o];simp only;rw[aL z]
  by_cases u:(1:U)<=(T D:Q)
  case' pos=>have P:¬(T D:U)<=20:=À
  all_goals
   clear z;go_wp2;go_ret2;unfold xB;rw[k.o];exact⟨_,O,b.ou.nw⟩
 |a::r=>
  have v':∀h,(st (a::r))[0]'h=a:=λ_=>O;have es:=a.toNat_lt;by_cases j:a=68
  ·subst j
   match r with
   |[]=>
    have f:H<|mq (T l) l=R:=by show _=_;rw[b.go,Ed Ò];rfl
    go_wp2;go_ret2;exact ó
   |c::r=>
    have A:∀h,(st (68::c::r))[1]'h=c:=λ_=>O;have L:=c.toNat_lt;have p:H<|oq (68::c::r)=if 0<aN c/\aN c<=16/\aN c<=T r then Y (.del<|r.take (aN c),r.drop (aN c))else R:=by show _=_;simp[oq]
    by_cases hk:0<aN c/\aN c<=16/\aN c<=T r
    case neg=>
     have f:H<|mq (T l) l=R:=zce
     have i:((aN c:Q):U)<1\/(1<=((aN c:Q):U)/\16<((aN c:Q):U))\/(1<=((aN c:Q):U)/\((aN c:Q):U)<=16/\(T r:U)<((aN c:Q):U)):=À
     clear hk;obtain i|⟨i,t⟩|⟨i,t,G⟩:=i;all_goals
      go_wp2;go_ret2;exact ó
    case pos=>
     let⟨k1,k2,k3⟩:=hk;have aD:(aN c:U)<=(T r:Q):=À
     have B:H<|List.drop 2 (eI (2+aN c) (68::c::r))=r.take (aN c):=zas
     have k:H (mq (T l) l=(mq (T (r.drop (aN c)))<|r.drop (aN c)).map ((D++[.del<|r.take (aN c)])++·)):=by show _=_;rw[b.go,PB<|by rw[p.o,aT ⟨k1,k2,k3⟩],Option.map_map];congr 1;funext y;simp
     go_wp2_with (refine SG O ?_;refine ff.Dt PW (.del<|r.take (aN c)) b.ou À (by show [_,_,_]=[_,_,_];rw[B.o];rfl) O (ϣ _) O O O O ?_);intro h1 q S g;have m:=g;clear g;go_wp2;go_roundw;exact⟨r.drop (aN c),_,Á,k.o,Á,m⟩;grind [zn]
  have o:¬(aN a:U)=68:=λe=>j (GT.1 Á);have F:((aN a:U)==68)=ao:=ø
  have h2:((aN a:U) != 68)=M:=ø
  by_cases n:a=80
  case neg=>
   have C:¬(aN a:U)=80:=λe=>n (GT.1 Á);have aw:((aN a:U) != 80)=M:=by simpa using C
   have f:H<|mq (T l) l=R:=by show _=_;rw[b.go,Ed<|by simp[oq,j,n]];rfl
   go_wp2;go_ret2;exact ó
  subst n;clear o F h2 j
  match r with
  |[]=>
   have f:H<|mq (T l) l=R:=by show _=_;rw[b.go,Ed Ò];rfl
   go_wp2;go_ret2;exact ó
  |[c]=>
   have f:H<|mq (T l) l=R:=by show _=_;rw[b.go,Ed<|by simp[oq,Wy]];rfl
   go_wp2;go_ret2;exact ó
  |c::d::r=>
   have A:∀h,(st (80::c::d::r))[1]'h=c:=λ_=>O;have W:∀h,(st (80::c::d::r))[2]'h=d:=λ_=>O;have L:=c.toNat_lt;have hd:=d.toNat_lt;have p:H<|oq (80::c::d::r)=if(0<aN c/\aN c<=16)/\aN d<=32/\aN c+aN d<=T r then Y (.put (r.take (aN c))<|(r.drop (aN c)).take (aN d),r.drop<|aN c+aN d)else R:=by exact ϩ c d r
   by_cases hk:(0<aN c/\aN c<=16)/\aN d<=32/\aN c+aN d<=T r
   case neg=>
    have f:H<|mq (T l) l=R:=zce
    have i:((aN c:Q):U)<1\/(1<=((aN c:Q):U)/\16<((aN c:Q):U))\/(1<=((aN c:Q):U)/\((aN c:Q):U)<=16/\32<((aN d:Q):U))\/(1<=((aN c:Q):U)/\((aN c:Q):U)<=16/\((aN d:Q):U)<=32/\(T r:U)<((aN c:Q):U)+((aN d:Q):U)):=À
    clear hk;obtain i|⟨i,t⟩|⟨i,t,G⟩|⟨i,t,G,X⟩:=i;all_goals
     go_wp2;go_ret2;exact ó
   case pos=>
    let⟨⟨k1,k2⟩,k3,k4⟩:=hk;have aD:(aN c:U)+(aN d:U)<=(T r:Q):=À
    have j2:(aN c:U)<=(T r:Q):=À
    have B:H<|List.drop 3 (eI (3+aN c) (80::c::d::r))=r.take (aN c):=zas
    have I:H<|List.drop (3+aN c) (eI (3+aN c+aN d) (80::c::d::r))=(r.drop (aN c)).take (aN d):=by show _=_;rw[show 3+aN c+aN d=aN c+aN d+3 by omega,show 3+aN c=aN c+3 by omega];simp[Xb]
    have k:H (mq (T l) l=(mq (T (r.drop<|aN c+aN d))<|r.drop<|aN c+aN d).map ((D++[.put (r.take (aN c))<|(r.drop (aN c)).take (aN d)])++·)):=by show _=_;rw[b.go,PB<|by rw[p.o,aT ⟨⟨k1,k2⟩,k3,k4⟩],Option.map_map];congr 1;funext y;simp
    go_wp2_with (refine SG O ?_;refine ff.Dt PW (.put (r.take (aN c))<|(r.drop (aN c)).take (aN d)) b.ou À (by show [_,_,_]=[_,_,_];rw[B.o,I.o];rfl) O (ϣ _) O O O O ?_);intro h1 q S g;have m:=g;clear g;go_wp2;go_roundw;exact⟨r.drop<|aN c+aN d,_,Á,k.o,Á,m⟩;grind [zn]
def Ϫ{k v}(h:∀p∈L,p.1≠k):gS L k v=L++[(k,v)]:=by induction L with|nil=>rfl|cons p L I=>grind [gS]
def yd(l:Zl)(w:Zy)(e:kH)(w':Zy):Prop:=match Yo l with
 |some L=>∃v,e=ai (cE #[v,bG M])/\ff w w' 200 2 kT v L|none=>e=ai (cE #[aB R 0 0,bG ao])/\Nw w w'
def yd.rh(h:Yo l=R)(n:Nw w w'):yd l w (ai<|cE #[aB R 0 0,bG ao]) w':=by grind [yd]
def yd.AL{v}(h:Yo l=Y L)(n:ff w w' 200 2 kT v L):yd l w (ai<|cE #[v,bG M]) w':=by grind [yd]
structure PrI(w:Zy)(l:Zl)(s v:Zv)(y:Zy)(r A:Zl)(D:KV):Prop where
 s:s=E r
 go:Yo l=yM r A D
 lo:∀p∈D,p.1<=A
 la:D=[]\/∃u x,D=u++[(A,x)]
 nil:D=[]->A=[]
 gT:T D+T r<=T l
 ou:ff w y 200 2 kT v D
def xki(l)(hl:T l<=100000)(w):aK prog 284 #[E l] w<|yd l w:=by
 go_enter func284.1,Tryz.ntmps284;go_wp2;go_loopw [0,4] (λs v wr=>∃r ab D,PrI w l s v wr r ab D) (λs _ _=>match s with| ak x=>x.size|_=>0);exact⟨l,[],[],O,O,Â,aJ O,λ_=>O,Â,ff.nil _⟩;let⟨r,ab,D,hi⟩:=hrel;obtain rfl:=hi.s;have j:=hi;have v':=hi.gT;obtain⟨hx,ho,rfl⟩:=hi.ou.dL
 match r with
 |[]=>go_wp2;go_ret2;exact yd.AL (by rw[j.go];rfl) j.ou
 |[a]=>
  have k:H<|Yo l=R:=by show _=_;rw[j.go,L8 Â];simp[Wy]
  go_wp2;go_ret2;exact yd.rh k.o j.ou.nw
 |a::b::r=>
  have L:=ϧ a b r;have g0:∀h,(st (a::b::r))[0]'h=a:=λ_=>O;have g1:∀h,(st (a::b::r))[1]'h=b:=λ_=>O;have hb:=b.toNat_lt;have ha:=a.toNat_lt;by_cases aw:(0<aN a/\aN a<=16)/\aN b<=32/\aN a+aN b<=T r
  case neg=>
   have k:H<|Yo l=R:=by show _=_;rw[j.go,L8 Â,L,aL aw]
   have n:((aN a:Q):U)<1\/(1<=((aN a:Q):U)/\16<((aN a:Q):U))\/(1<=((aN a:Q):U)/\((aN a:Q):U)<=16/\32<((aN b:Q):U))\/(1<=((aN a:Q):U)/\((aN a:Q):U)<=16/\((aN b:Q):U)<=32/\(T r:U)<((aN a:Q):U)+((aN b:Q):U)):=À
   obtain n|⟨n,aD⟩|⟨n,aD,h5⟩|⟨n,aD,h5,h6⟩:=n;all_goals
    go_wp2;go_ret2;exact yd.rh k.o j.ou.nw
  case pos=>
   let⟨⟨k1,k2⟩,k3,k4⟩:=aw;have j1:(aN a:U)+(aN b:U)<=(T r:Q):=À
   have j2:(aN a:U)<=(T r:Q):=À
   have W:H<|List.drop 2 (eI (2+aN a) (a::b::r))=r.take (aN a):=zas
   have X:H<|List.drop (2+aN a) (eI (2+aN a+aN b) (a::b::r))=(r.drop (aN a)).take (aN b):=by show _=_;rw[show 2+aN a+aN b=aN a+aN b+2 by omega,show 2+aN a=aN a+2 by omega];simp[Xb]
   have u:H<|Yo l=if ab<r.take (aN a) then yM (r.drop<|aN a+aN b) (r.take (aN a)) (gS D (r.take (aN a))<|(r.drop (aN a)).take (aN b))else R:=by show _=_;rw[j.go,L8 Â,L,aT ⟨⟨k1,k2⟩,k3,k4⟩]
   go_wp2;go_region;rw[W.o,X.o];have cs:r.take (aN a)≠[]:=by show _≠_;intro e;have:=gv T e;rw[xf]at this;simp only[qy]at this;omega
   generalize r.take (aN a)=ky at*;generalize(r.drop (aN a)).take (aN b)=vl at*;have d:ff w (aF wr<|au #[E ky,E vl] 200).drew 200 2 kT (aB hx (T D) ho) D:=j.ou.ib (zj.E _).W;have I:xh (aF wr<|au #[E ky,E vl] 200).drew (V<|Z wr) #[E ky,E vl] 200:=xh.ex _ _ _;generalize(aF wr<|au #[E ky,E vl] 200).drew=w1 at*;generalize V (Z wr)=P at*;have S1:N w1 (K P 0)=E ky:=I.i 0 O;have t:(!Op.bytesLess (st ab).toList (st ky).toList)=bR (¬ab<ky):=by rw[xl,xl,bytesLess_eq];simp only[decide_not]
   have y:=j.la;have m:=j.lo;have z:=j.nil;by_cases c:ab<ky
   case neg=>
    have k:H<|Yo l=R:=by show _=_;rw[u.o,aL c]
    rw[jm c]at t;obtain rfl|⟨f,x,rfl⟩:=y;rw[z O]at c;cases ky;exact(cs O).elim;simp_all;obtain⟨g,rfl,C⟩:=d.rw.lp (λ_=>O) (i:=T f) Â O;have e0:N w1 (K g<|T f*2)=E ab:=by rw[show T f*2=T f*2+0 from O,C 0 À];simp[kT]
    simp only[zx,Zr]at*;go_wp2;go_quiet (fail);go_wp2;go_ret2;exact yd.rh k.o<|d.nw.aE (zj.refl _ _).eL
   case pos=>
    rw[jo λh=>h c]at t;have hd:H<|gS D ky vl=D++[(ky,vl)]:=Ϫ λp A e=>dC (e▸c)<|List.not_lt.2<|m p A;have k:H<|Yo l=yM (r.drop<|aN a+aN b) ky (D++[(ky,vl)]):=by show _=_;rw[u.o,aT c,hd.o]
    have F:∀p∈D++[(ky,vl)],p.1<=ky:=by intro p A;obtain h|h:=je.1 A;exact List.le_of_lt<|List.lt_of_le_of_lt (m p h) c;simp_all
    clear c u hd m;obtain o|⟨f,x,o⟩:=y
    case' inr=>
     have q:T D=T f+1:=by rw[o];simp
     have h1:D[T f]' À=(ab,x):=by simp[o]
     obtain⟨g,rfl,C⟩:=d.rw.lp (λ_=>O) (i:=T f) À O;have e0:N w1 (K g<|T f*2)=E ab:=by rw[show T f*2=T f*2+0 from O,C 0 À,h1];rfl
     clear C h1
    case' inl=>have q:T D=0:=by rw[o];rfl
    all_goals
     have ba:T D<=100000:=À
     rw[q]at d⊢;clear o z;go_wp2;go_quiet (fail);have G:=d.ib (zj.refl _ _).eL (w':=w1.drewN nq);have h2:=I.y (S:=λ_=>False) (zj.refl _ _).eL (w':=w1.drewN nq) id;generalize w1.drewN nq=w2 at*;clear d I;have T0:N w2 (K P 0)=E ky:=h2.i 0 O;have T1:N w2 (K P 1)=E vl:=h2.i 1 O;go_wp2_with (refine SG O ?_;refine ff.jK LQ (ky,vl) G À O O zw O O O O ?_);intro g3 es w3 B;have g':=B;clear B;go_wp2;go_roundw;exact⟨r.drop<|aN a+aN b,ky,_,Á,k.o,F,ac ⟨_,_,O⟩,Â,Á,g'⟩;grind [zn]
end
end
section
attribute[local go_sem] zn zg vD
def SD(n:Q)(a:U)(h:0<=a/\a<=8)(w:Zy):aq 167 #[J n,J a] w (E<|nb n (bL a)):=by obtain⟨k,rfl⟩:∃k:Q,a=(k:U):=⟨bL a,À⟩;grind [FI]
def Yq.nw(h:Yq w)(a:Nw w w'):Yq w':=λi b=>a.i id<|h i b
def Rf.vj(f:Rf):ez:=bR (f.ov<=(T (jp f.F f.sg):Q))
def Rf.cD(f:Rf):U×Zl:=if f.sg=0 then(f.bM+1,Vb (bL (f.bM+1))<|f.bF+1)else if f.vj=M then(f.sg+1,Vb (bL (f.sg+1))<|f.bF+1)else(f.sg,[])
def Rf.BH(f:Rf)(n:U)(y:Zl):Rf:={f with sg:=n,bF:=f.bF+1,bQ:=y,dX:=y}
def Xf.BH{C:Q}(h:Ju w C f)(n:U)(y:Zl):Xf C f w (f.BH n y)<|ay (ay (ay (ay w (K C 17)<|J n) (K C 8)<|J<|(f.bF:U)+1) (K C 10)<|E y) (K C 15)<|E y:=by have a:Xf C f w {f with sg:=n} _:=Xf.H h 17 (J n) za5 O O O;have b:Xf C _ _ {f with sg:=n,bF:=f.bF+1} _:=Xf.H a.dI 8 (J<|(f.bF:U)+1) za5 O O O;have c:Xf C _ _ {f with sg:=n,bF:=f.bF+1,bQ:=y} _:=Xf.H b.dI 10 (E y) za5 O O O;have d:Xf C _ _ (f.BH n y) _:=Xf.H c.dI 15 (E y) (by simp[Rf.G,Rf.BH]) O O O;grind [aE]
def Sz(C:Q)(f:Rf)(d:Dk)(n:U)(y u:Zl)(w:Zy)(e:kH)(w':Zy):Prop:=
 (f.bU<bO d.L+(T y:U)/\e=ai (J 9)/\Xf C f w f w')\/
 (¬f.bU<bO d.L+(T y:U)/\(d.gu n y).1=ao/\e=ai (J 12)/\∃v F a k,Xf C f w (f.dk v F a k ao) w'/\Tw (d.gu n y).2 (f.dk v F a k ao))\/
 (¬f.bU<bO d.L+(T y:U)/\(d.gu n y).1=M/\e=ai (J 0)/\∃v F a k,Xf C f w ((f.dk v F a k f.gw).BH n u) w'/\Tw (d.gu n y).2 ((f.dk v F a k f.gw).BH n u))
def xle(C:Q)(f:Rf)(d:Dk)(kind plain:Zl)(ep:Q)(w:Zy)(h:Ju w C f)(ht:Tw d f)(A:Yq w)(hm:T f.m=32)(bw:T f.dX=32)(hk:T kind=1)(hp:T plain<=1100)(hc:f.bF<=1000000)(bf:¬(f.bF:U)=f.mW)(hu:bO d.L<=390000)(bv:0<=f.sg/\f.sg<=1000000000000)(bu:0<=f.bM/\f.bM<=1000000000000):aK prog 186 #[zq C,E kind,J ep,E plain] w<|Sz C f d f.cD.1 (f.cD.2++rn f.m f.dX kind ep f.op f.bF plain) (ua f.m f.dX kind ep f.op f.bF plain) w:=by
 have o:=h;have HT:=A;have c8:N w (K C 8)=J f.bF:=h.bT.i 8 O;have c2:N w (K C 2)=J f.mW:=h.bT.i 2 O;have s:∀c,Nw w c->N c (K C 8)=J f.bF/\N c (K C 9)=J f.op/\N c (K C 15)=E f.dX:=λc aw=>⟨(o.y aw).bT.i 8 O,(o.y aw).bT.i 9 O,(o.y aw).bT.i 15 O⟩;have q0:((f.bF:U)==f.mW)=ao:=by simpa using bf
 have bx:IntKind.i64.wrap ((f.bF:U)+1)=(f.bF:U)+1:=Ï
 have l1:=Z2 ep 1;have l2:=Z2 f.op 2;have l3:=Z2 (f.bF+1) 4;have l4:=Z2 (T plain) 2;have HE:H<|st kind++st (nb ep 1)++st (nb f.op 2)++st (nb (f.bF+1) 4)++st (nb (T plain) 2)=st (Ad kind ep f.op f.bF (T plain)):=by show _=_;rw[zg,zg,zg,zg];simp[Ad]
 have m1:¬9223372036854775807<T kind+1:=À
 clear h A;go_enter func186.1,Tryz.ntmps186;go_wp2;go_quiet (fail);have N1:Nw w<|w.drewN nq:=(zj.refl _ _).eL;generalize w.drewN nq=w1 at*;clear c8 c2;go_wp2;have l:=s _ N1;have b:Nw w w1.drew:=N1.W;go_region_held3 (λc=>N c (K C 8)=J f.bF/\N c (K C 9)=J f.op/\N c (K C 15)=E f.dX) (first|exact l|exact i)
  (first
   |(go_at_call 167;refine(SD _ _ Ã _).mono ?_;rintro e w3⟨rfl,g⟩;replace b:=b.aE<|zj.J g;have i:=s _ b)
   |(go_at_call 167;refine(wD _ _ (f.bF+1) 4 À rfl Ã _).mono ?_;rintro e w3⟨rfl,g⟩;replace b:=b.aE<|zj.J g;have i:=s _ b))
 clear l HE m1 l1 l2 l3 l4 N1;clear i;try clear hHeld
 let⟨P,hH⟩:=JP<|kind++(nb ep 1++(nb f.op 2++(nb (f.bF+1) 4++nb (T plain) 2)));have G:H<|Ad kind ep f.op f.bF (T plain)=P:=hH;have bk:T P=10:=by rw[<-hH];simp[Z2,hk]
 rw[hH];clear hH;have g':H<|T (Ji f.m ep)=16:=F7 _ _;have bb:H<|T (Y7 f.m ep)=32:=Ek _ _;have h8:(8:U)<=(T P:Q):=À
 have l:=s _ b;replace b:=b.W;go_wp2;go_region_held3 (λc=>N c (K C 8)=J f.bF/\N c (K C 9)=J f.op/\N c (K C 15)=E f.dX) (first|exact l|exact i)
  (first
   |(go_at_call 235;refine(Q8 C f ep _ (o.y b) (HT.nw b) hm).mono ?_;rintro e w4⟨rfl,g⟩;replace b:=b.aE<|zj.J g;have i:=s _ b)
   |(go_at_call 116;refine(QZ _ _ plain g'.o Ç À _).mono ?_;rintro e w4⟨rfl,g⟩;replace b:=b.aE<|zj.J g;have i:=s _ b))
 clear l i;clear g';let⟨S,z⟩:=JP<|nT (Ji f.m ep) (eI 8 P) plain;have h2:H<|nT (Ji f.m ep) (eI 8 P) plain=S:=z;have bj:T S=T plain:=by rw[<-z,A']
 rw[z];clear z;have m2:¬9223372036854775807<42+T plain:=À
 have m3:¬9223372036854775807<10+T plain:=À
 have l:=s _ b;replace b:=b.W;go_wp2;go_region_held3 (λc=>N c (K C 8)=J f.bF/\N c (K C 9)=J f.op/\N c (K C 15)=E f.dX) (first|exact l|exact i)
  (first
   |(go_at_call 194;refine(Ms C f ep _ (o.y b) (HT.nw b) hm).mono ?_;rintro e w5⟨rfl,g⟩;replace b:=b.aE<|zj.J g;have i:=s _ b)
   |(go_at_call 105;refine(FJ _ _ (by rw[bb.o];decide) Ç _<|HT.nw b).mono ?_;rintro e w5⟨rfl,g⟩;replace b:=b.aE<|zj.J g;have i:=s _ b))
 clear l i;let⟨hd,A⟩:=JP<|Wu (Y7 f.m ep) (f.dX++(P++S));have bc:H<|ua f.m f.dX kind ep f.op f.bF plain=hd:=by show _=_;rw[<-A,<-h2.o];unfold ua CV;rw[G.o,jq]
 have bs:T hd=32:=by rw[<-A];exact uP _ _
 rw[A];clear A m2 m3 bb
 rename Zy=>w5
 have hx:N w5 (K C 17)=J f.sg:=(o.y b).bT.i 17 O;go_wp2;clear hx;let⟨X,hX⟩:=JP<|P++(S++hd);have HX:H<|rn f.m f.dX kind ep f.op f.bF plain=X:=by show _=_;rw[<-hX,<-h2.o,<-bc.o];unfold rn CV;rw[G.o,jq]
 have bt:T X=42+T plain:=by rw[<-hX];simp;omega
 rw[hX];clear hX h2 G bk bj h8;have HN:=o.y b;have ba:T f.F<=1000000:=by have j:=wQ ht.gF.ne;rw[ht.wP]at j;show _<=_;omega
 have ho:∀c,Nw w c->N c (K C 1)=J f.ov:=λc aw=>(o.y aw).bT.i 1 O;have l:=ho _ b;replace b:=b.W;go_region_held3 (λc=>N c (K C 1)=J f.ov) (first|exact l|exact i)
  (first|(go_at_call 191;refine(ZD C f _ _ (o.y b) ba).mono ?_;rintro e w6⟨rfl,rfl⟩;have i:=ho _ b))
 clear l i ho HN;generalize w5.drew=w6 at*;have q:H<|∀c,Nw w c->N c (K C 8)=J f.bF:=λc aw=>(s c aw).1;clear s;have hx:N w6 (K C 17)=J f.sg:=(o.y b).bT.i 17 O;have bi:N w6 (K C 16)=J f.bM:=(o.y b).bT.i 16 O;have bm:IntKind.i64.wrap (f.bM+1)=f.bM+1:=Ï
 have bn:IntKind.i64.wrap (f.sg+1)=f.sg+1:=Ï
 have m4:¬9223372036854775807<9+T X:=À
 have m5:¬9223372036854775807<T X+9:=À
 have m6:¬9223372036854775807<9+(42+T plain):=À
 have m7:¬9223372036854775807<51+T plain:=À
 have bh:H<|f.vj=bR (f.ov<=(T (jp f.F f.sg):Q)):=O;rw[<-bh.o];have I:H<|f.cD=if f.sg=0 then(f.bM+1,Vb (bL (f.bM+1))<|f.bF+1)else if f.vj=M then(f.sg+1,Vb (bL (f.sg+1))<|f.bF+1)else(f.sg,[]):=O;have l4:=Z2 (f.bF+1) 4;have D:H<|∀n:Q,({data:=#[83]}:eM)++st (nb n 4)++st (nb (f.bF+1) 4)++st X=st (Vb n (f.bF+1)++X):=by intro n;rw[show({data:=#[83]}:eM)=st [83]from O,zg,zg,zg];simp[Vb]
 have HW:H<|∀n u,(f.cD.1,f.cD.2++X)=(n,u)->∀e c,Sz C f d n u hd w e c->Sz C f d f.cD.1 (f.cD.2++rn f.m f.dX kind ep f.op f.bF plain) (ua f.m f.dX kind ep f.op f.bF plain) w e c:=by intro n u hp e c k;cases hp;rw[HX.o,bc.o];exact k
 have h3:f.sg=0\/(¬f.sg=0/\f.vj=M)\/(¬f.sg=0/\f.vj=ao):=by cases f.vj<;>by_cases f.sg=0<;>simp[*]
 obtain B|⟨B,be⟩|⟨B,be⟩:=h3;focus
  have q1:(f.sg==0)=M:=by simpa using B
  have l5:=Z2 (bL (f.bM+1)) 4;have y:H<|(f.cD.1,f.cD.2++X)=(f.bM+1,Vb (bL (f.bM+1)) (f.bF+1)++X):=by show _=_;rw[I.o,aT B]
  go_wp2;have l:=q.o _ b;replace b:=b.W;go_region_held3 (λc=>N c (K C 8)=J f.bF) (first|exact l|exact i)
   (first
    |(go_at_call 167;refine(wD _ _ (bL (f.bM+1)) 4 À O Ã _).mono ?_;rintro e w7⟨rfl,g⟩;replace b:=b.aE<|zj.J g;have i:=q.o _ b)
    |(go_at_call 167;refine(wD _ _ (f.bF+1) 4 À O Ã _).mono ?_;rintro e w7⟨rfl,g⟩;replace b:=b.aE<|zj.J g;have i:=q.o _ b))
  clear l i;go_wp2;rw[D.o];generalize r:Vb (bL (f.bM+1)) (f.bF+1)++X=u;have bd:T u<=9+T X/\42<=T u:=by rw[<-r];simp[Vb,Z2];omega
  replace y:H<|(f.cD.1,f.cD.2++X)=(f.bM+1,u):=by show _=_;rw[y.o,r]
  have bg:0<=f.bM+1/\f.bM+1<=1000000000001:=À
  clear r bm l5;generalize f.bM+1=n at*
 rotate_left;focus
  have q1:(f.sg==0)=ao:=by simpa using B
  have l5:=Z2 (bL (f.sg+1)) 4;have y:H<|(f.cD.1,f.cD.2++X)=(f.sg+1,Vb (bL (f.sg+1)) (f.bF+1)++X):=by show _=_;rw[I.o,aL B,aT be]
  go_wp2;have l:=q.o _ b;replace b:=b.W;go_region_held3 (λc=>N c (K C 8)=J f.bF) (first|exact l|exact i)
   (first
    |(go_at_call 167;refine(wD _ _ (bL (f.sg+1)) 4 À O Ã _).mono ?_;rintro e w7⟨rfl,g⟩;replace b:=b.aE<|zj.J g;have i:=q.o _ b)
    |(go_at_call 167;refine(wD _ _ (f.bF+1) 4 À O Ã _).mono ?_;rintro e w7⟨rfl,g⟩;replace b:=b.aE<|zj.J g;have i:=q.o _ b))
  clear l i;go_wp2;rw[D.o];generalize r:Vb (bL (f.sg+1)) (f.bF+1)++X=u;have bd:T u<=9+T X/\42<=T u:=by rw[<-r];simp[Vb,Z2];omega
  replace y:H<|(f.cD.1,f.cD.2++X)=(f.sg+1,u):=by show _=_;rw[y.o,r]
  have bg:0<=f.sg+1/\f.sg+1<=1000000000001:=À
  clear r bn l5;generalize f.sg+1=n at*
 rotate_left;focus
  have q1:(f.sg==0)=ao:=by simpa using B
  have y:H<|(f.cD.1,f.cD.2++X)=(f.sg,X):=by show _=_;rw[I.o,aL B,aL É];rfl
  go_wp2;let⟨u,r⟩:=JP X;let⟨n,hn⟩:=JP f.sg;replace y:H<|(f.cD.1,f.cD.2++X)=(n,u):=by show _=_;rw[y.o,r,hn]
  have bd:T u<=9+T X/\42<=T u:=by rw[<-r];omega
  have bg:0<=n/\n<=1000000000001:=À
  rw[hn,r];clear r hn
 all_goals
  clear hx bi B q1 m4 m5 m6 m7 l4
  rename Zy=>W
  have HV:=HW.o n u y.o;have wr:H<|bO f.F=bO d.L:=ht.wP;have bl:0<=bO f.F/\bO f.F<=390000:=by rw[wr.o];exact⟨ZK _,hu⟩
  have bo:IntKind.i64.wrap (bO f.F+(T u:U))=bO f.F+(T u:U):=Ï
  have v':H<|∀p∈f.F,T p.2.1<=1000000:=λp hp=>(ht.rZ p hp).c;refine(ZG C f _ (o.y b) ba v'.o).mono ?_;rintro e w8⟨rfl,rfl⟩;have c0:N w8 (K C 0)=J f.bU:=(o.y b).bT.i 0 O;by_cases hr:f.bU<bO f.F+(T u:U);focus
   have HR:H<|f.bU<bO d.L+(T u:U):=by show _<_;rw[<-wr.o];exact hr
   go_wp2;go_ret;exact HV _ _<|aJ ⟨HR.o,O,Xf.nw o b⟩
  have HR:H<|¬f.bU<bO d.L+(T u:U):=by show¬_;rw[<-wr.o];exact hr
  go_wp2;refine(Ł C f d n u _ (o.y b) ht À ï Á).mono ?_;rintro e w9⟨rfl,v,F,a,k,j,h1⟩;replace j:=(Xf.nw o b).aE j;clear c0 hr bo bl v';cases g:(d.gu n u).1;focus
   rw[g,Vo]at j h1;have HB:=g;have x:=j;have cs:=h1;clear j h1 g;go_wp2;go_ret;exact HV _ _<|ac<|aJ ⟨Int.not_lt.2 HR.o,HB,O,v,F,a,k,x,cs⟩
  rw[g,Cc]at j h1;have HB:=g;have br:N w9 (K C 17)=J f.sg:=j.dI.bT.i 17 O;have g8:N w9 (K C 8)=J f.bF:=j.dI.bT.i 8 O;have bp:N w9 (K C 10)=E f.bQ:=j.dI.bT.i 10 O;have bq:N w9 (K C 15)=E f.dX:=j.dI.bT.i 15 O;have b1:=j.dI.bT.dS 17;have k8:=j.dI.bT.dS 8;have bz:=j.dI.bT.dS 10;have b0:=j.dI.bT.dS 15;have x:=j;have cs:=h1;clear j h1 g;go_wp2;go_ret;have t:=cs;exact HV _ _<|ac<|ac ⟨Int.not_lt.2 HR.o,HB,O,v,F,a,k,x.aE<|Xf.BH x.dI n hd,⟨t.bU,t.gF,t.gL,t.mJ,t.mt,t.fU,t.nx,t.cQ,t.ko⟩⟩
def xe6(C:Q)(f:Rf)(y P:Zl)(u:Q)(w:Zy)(h:Ju w C f)(a:(f.bF:U)=f.mW):aK prog 186 #[zq C,E y,J u,E P] w λe w'=>e=ai (J 10)/\Xf C f w f w':=by have b:=h;have c8:N w (K C 8)=J f.bF:=h.bT.i 8 O;have c:N w (K C 2)=J f.mW:=h.bT.i 2 O;rw[<-a]at c;go_enter func186.1,Tryz.ntmps186;go_wp2;go_quiet (fail);go_wp2;go_ret;exact⟨O,Xf.nw b (zj.refl _ _).eL⟩
end
def xjy(c s q):uD c s q=wR (cK c) (cV c) s q:=by grind [uD,wR]
def xj0(l c):yD l c=C0 l (cK c) (cV c) (cG c):=by
 have e:tG l c=Ev l (cK c) (cV c) (cG c):=by unfold tG Ev;rw[show uD c=wR (cK c) (cV c)from funext λs=>funext λq=>xjy c s q]
 grind [yD,C0]
def xqd(h:Nd L)(c):gG (mF L c)=yD (gG L) c:=by rw[xj0];cases c with|put k v=>exact xvc h k v|del k=>exact xvb h k []
theorem SO(D):∀{L:KV},Nd L->gG (gh L D)=tE (gG L) D:=by induction D with|nil=>intro L _;rfl|cons c D I=>intro L h;show gG (gh (mF L c) D)=tE (yD (gG L) c) D;rw[I<|h.mF c,xqd h]
section
attribute[local go_sem] zn zg CI vD
def LV(b:ez)(sv:Zv)(k:Lk)(y:U)(u:ez)(G n:U):Za:=#[bG b,sv,aD bB (k.ep:U),aD bB (k.bF:U),ak<|st k.dX,ak<|st k.fD,aD bB k.bM,aD bB k.dB,aD bB k.gR,aD bB y,bG u,aD bB G,aD bB n]
def nZ(b:ez):Za:=#[bG b,aB R 0 0,aD bB 0,aD bB 0,ak ⟨#[]⟩,ak ⟨#[]⟩,aD bB 0,aD bB 0,aD bB 0,aD bB 0,bG ao,aD bB 0,aD bB 0]
def EX(w0:Zy)(o:dD<|Lk×KV)(y:U)(u:ez)(G n:U)(w:Zy)(e:kH)(w':Zy):Prop:=match o with
 |some (k,L)=>∃v,e=ai (bY<|LV ao v k y u G n)/\Nw w w'/\ff w0 w' 200 2 kT v (gG L)
 |none=>e=ai (bY<|nZ M)/\Nw w w'
structure ri(f:Rf)(k:Lk)(L:KV):Prop where
 m:k.m=f.m
 ml:T f.m=32
 ep:k.ep<=5
 bF:k.bF<4294967296
 dX:T k.dX=32
 nd:Nd L
 gT:T L<=6000+20*k.bF
 ks:rY L
def ϥ{b}(a:b.take 1=[82]):Jv k L b=if qi ((b.drop 4).take 4)=k.bF+1/\qi ((b.drop 1).take 1)=k.ep then pX k L M (k.bF+1) (b.take 10) ((b.drop 10).take<|jX b) ((b.drop<|10+jX b).take 32)else R:=by grind [Jv,uB]
def Ϥ{b}(a:b.take 1=[75])(c:10+jX b<=T b):Jv k L b=if qi ((b.drop 4).take 4)=k.bF+1/\qi ((b.drop 1).take 1)=k.ep+1/\k.ep+1<=5/\jX b=0 then pX {k with ep:=k.ep+1} L ao (k.bF+1) (b.take 10) ((b.drop 10).take<|jX b) ((b.drop<|10+jX b).take 32)else R:=by
 have d:(b.drop 10).take (jX b)=[]↔jX b=0:=by rw[<-List.length_eq_zero_iff,xf,Zn];omega
 unfold Jv uB;grind
def ϡ{b}(a:b.take 1≠[82])(c:b.take 1≠[75]):Jv k L b=R:=by grind [Jv,uB]
def xsf{r c}(h:oq l=Y (c,r)):T l<=T r+51/\qX c:=by
 match l with
 |[]=>cases h
 |[a]=>simp[oq,Wy]at h
 |a::y::l=>
  by_cases b:a=80;subst b
  match l with
  |[]=>simp[oq,Wy]at h|d::l=>grind [ϩ,qX]
  grind [oq,qX]
def Ϣ:∀(n:Q) (l:Zl) (D:bA Vk),mq n l=Y D->T l<=51*T D/\∀c∈D,qX c
 |n,[],D,h=>by grind [mq]|0,a::l,D,h=>È
 |n+1,a::l,D,h=>by simp only[mq]at h;cases u:oq (a::l)with|none=>grind|some q=>obtain⟨c,r⟩:=q;rw[u]at h;obtain⟨y,b,rfl⟩:=zv.1 h;have d:=Ϣ n r y b;have e:=xsf u;grind
theorem SK{D}(h:Wl l=Y D):T l<=1020/\T D<=20/\∀c∈D,qX c:=by unfold Wl at h;split at h;split at h;rename_i y u;cases h;have:=Ϣ _ _ _ y;grind;grind;grind
def xum{r u a body y}(b:T k.dX=32)(c:T a=10)(d:r=ao->T body<=1020):pX k L r u a body y=if y=Wu (Y7 k.m k.ep) (k.dX++a++body)then(if r then(Wl<|nT (Ji k.m k.ep) (a.take 8) body).map λD=>({k with bF:=u,fD:=k.dX,dX:=y},gh L D)else Y ({k with bF:=u,fD:=k.dX,dX:=y},L))else R:=by grind [pX,Wl,SK,A']
structure sZ(w v:Zy)(C:Za):Prop where
 l:xh v (V<|Z w) C 258
 z:xh v (V (Z w)+1) (nZ ao) 258
 b:xh v (V (Z w)+1+1) (nZ M) 258
 n:Nw w v
def sZ.ib{v'}(h:sZ w v C)(a:Nw v v'):sZ w v' C:=⟨h.l.y a id,h.z.y a id,h.b.y a id,h.n.aE a⟩
abbrev BL(x:Zy)(r:Q)(b0 b1 b2 b3 b4 b5 b6 b7 b8 b9 b10 b11 b12:Zv):Zy:=ay (ay (ay (ay (ay (ay (ay (ay (ay (ay (ay (ay (ay x (K r 0) b0) (K r 1) b1) (K r 2) b2) (K r 3) b3) (K r 4) b4) (K r 5) b5) (K r 6) b6) (K r 7) b7) (K r 8) b8) (K r 9) b9) (K r 10) b10) (K r 11) b11) (K r 12) b12
def xh.zD{f i j l n a}(h:xh x r #[S,d,e,f,g,i,j,l,m,n,a,b,c] t):xh (BL x r b0 b1 b2 b3 b4 b5 b6 b7 b8 b9 b10 b11 b12) r #[b0,b1,b2,b3,b4,b5,b6,b7,b8,b9,b10,b11,b12] t:=by have k:=(((((((((((((h.H 0 b0).H 1 b1).H 2 b2).H 3 b3).H 4 b4).H 5 b5).H 6 b6).H 7 b7).H 8 b8).H 9 b9).H 10 b10).H 11 b11).H 12 b12);simp_all
def xh.eu{f i j k l a}(h:xh x r #[S,d,e,f,g,i,j,k,l,m,a,b,c] t):N x (K r 0)=Y S/\N x (K r 1)=Y d/\N x (K r 2)=Y e/\N x (K r 3)=Y f/\N x (K r 4)=Y g/\N x (K r 5)=Y i/\N x (K r 6)=Y j/\N x (K r 7)=Y k/\N x (K r 8)=Y l/\N x (K r 9)=Y m/\N x (K r 10)=Y a/\N x (K r 11)=Y b/\N x (K r 12)=Y c:=⟨h.i 0 O,h.i 1 O,h.i 2 O,h.i 3 O,h.i 4 O,h.i 5 O,h.i 6 O,h.i 7 O,h.i 8 O,h.i 9 O,h.i 10 O,h.i 11 O,h.i 12 O⟩
def xh.gM{f i j k l a}(h:xh x r #[S,d,e,f,g,i,j,k,l,m,a,b,c] t):aX x (K r 0)=ao/\aX x (K r 1)=ao/\aX x (K r 2)=ao/\aX x (K r 3)=ao/\aX x (K r 4)=ao/\aX x (K r 5)=ao/\aX x (K r 6)=ao/\aX x (K r 7)=ao/\aX x (K r 8)=ao/\aX x (K r 9)=ao/\aX x (K r 10)=ao/\aX x (K r 11)=ao/\aX x (K r 12)=ao:=⟨h.dS 0,h.dS 1,h.dS 2,h.dS 3,h.dS 4,h.dS 5,h.dS 6,h.dS 7,h.dS 8,h.dS 9,h.dS 10,h.dS 11,h.dS 12⟩
def zj.Ni(x):zj (·=r) x<|BL x r b0 b1 b2 b3 b4 b5 b6 b7 b8 b9 b10 b11 b12:=by
 iterate 13 refine zj.aE ?_<|zj.H _ (K r _) _
 exact zj.refl _ _
def tM{f aw q i j l o t}(h:xh x r #[S,g,i,j,l,m,o,p,s,t,b,c,d] 258)(y:f.results=#[.cell q 258])(e:a.tmps.getD q Z'=zq r)(G:a.defers=[])(w:∀v,zj (·=r) x v->aw (ai<|bY #[b0,b1,b2,b3,b4,b5,b6,b7,b8,b9,b10,b11,b12]) v):bodyPost prog f aw .ret a<|BL x r b0 b1 b2 b3 b4 b5 b6 b7 b8 b9 b10 b11 b12:=by have k:=(xh.zD (b0:=b0) (b1:=b1) (b2:=b2) (b3:=b3) (b4:=b4) (b5:=b5) (b6:=b6) (b7:=b7) (b8:=b8) (b9:=b9) (b10:=b10) (b11:=b11) (b12:=b12) h).eu;have n:zj (·=r) x<|BL x r b0 b1 b2 b3 b4 b5 b6 b7 b8 b9 b10 b11 b12:=zj.Ni x;generalize(BL x r b0 b1 b2 b3 b4 b5 b6 b7 b8 b9 b10 b11 b12)=v at*;refine ji ?_ G<|w v n;let⟨P,A,I,k3,k4,k5,k6,k7,k8,k9,u,X,F⟩:=k;rw[Jj]at e;simp[eR,y,e,go_sem,P,A,I,k3,k4,k5,k6,k7,k8,k9,u,X,F]
def xud(l)(a:T l<=100000)(w):aK prog 310 #[E l] w λe w'=>∃v y,e=ai (cE #[v,bG y])/\Nw w w'/\(∀D,Wl l=Y D->y=M/\ff w w' 197 3 t6 v D)/\(Wl l=R->y=ao):=by refine(xue l a w).mono λe w' h=>?_;unfold xB at h;cases u:Wl l with|none=>grind|some D=>rw[u]at h;let⟨v,n,X⟩:=h;exact⟨v,M,n,X.nw,λ_ e=>Á,λe=>Æ⟩
def zj.uj(x){l m a}:zj (·=r) x<|ay (ay (ay (ay x (K r i) a) (K r j) b) (K r l) c) (K r m) d:=(((zj.H x (K r i) a).aE<|zj.H _ (K r j) b).aE<|zj.H _ (K r l) c).aE<|zj.H _ (K r m) d
def ff.y{e k f v}{l:bA D}{S}(h:ff w0 w e k f v l)(i:zj S w w')(n:∀g,v.ownBlock=Y g->¬S g)(m:Nw w0 w'):ff w0 w' e k f v l:=by refine⟨m,⟨h.cN.1,?_⟩,h.nl⟩;obtain e|⟨g,a,b,d,j,c,r⟩:=h.cN.2;grind;exact ac ⟨g,a,b,d,j,(i.dP g (za.1 c).1<|n g<|by rw[d];rfl).trans c,r⟩
structure JJ(w0 w h:Zy)(k:Lk)(L:KV)(D:bA Vk)(v s:Zv)(y:U)(u:ez)(G n:U)(j:Q):Prop where
 g3:sZ w h<|LV ao s k y u G n
 Ma:Rw h 197 3 t6 v D
 st:ff w0 h 200 2 kT s<|tE (gG L)<|D.take j
theorem JJ.eG{i d D v X y u a n}(h:JJ w0 w i k L D v s y u a n j)(e:Nw w0 w)(m:j<T D)(hw:Nw i w')(ho:ff w' d 200 2 kT X<|yD (tE (gG L)<|D.take j) D[j]):JJ w0 w (ay d (K (V<|Z w) 1) X) k L D v X y u a n<|j+1:=by
 have c:=h.g3.ib<|hw.aE ho.nw;have b:=zj.H d (K (V<|Z w) 1) X;have g:=h.Ma.y (hw.aE ho.nw) λ_ _=>id;have f:ff w0 d 200 2 kT X<|tE (gG L)<|D.take<|j+1:=by rw[zp m,tE,Kw];exact ho.bM<|(e.aE h.g3.n).aE hw
 refine⟨⟨c.l.H 1 X,c.z.y b Á,c.b.y b Á,c.n.cZ (zd _) b⟩,g.y b<|g.ir c.l Ã,f.y b (f.rw.ir c.l Ã)<|e.aE<|c.n.cZ (zd _) b⟩
def xee(C f k L sv last torn g recs b)(F:T b=42+jX b)(w0 w)(h:Ju w C f)(hT:Yq w)(ho:ri f k L)(hO:ff w0 w 200 2 kT sv<|gG L):aK prog 285 #[zq C,bY<|LV ao sv k last torn g recs,E b] w<|EX w0 (Jv k L b) last torn g recs w:=by
 have HH:=h;have HT:=hT;have W:=ho;have HS:=hO;obtain⟨av,bc,rfl⟩:=hO.dL
 match b,F with
 |b0::b1::b2,F=>
 let⟨b,I⟩:=JP<|b0::b1::b2;have g0:∀h,(st b)[0]'h=b0:=by rw[<-I];exact λ_=>O
 have g1:∀h,(st b)[1]'h=b1:=by rw[<-I];exact λ_=>O
 have H1:H<|b.take 1=[b0]/\qi ((b.drop 1).take 1)=aN b1:=by rw[<-I];exact⟨O,Ib b1⟩
 rw[I]at F⊢;clear I;have ci:=b0.toNat_lt;have cj:=b1.toNat_lt;have cs:H<|List.drop 8 (eI 10 b)=(b.drop 8).take 2:=by show _=_;rw[Xb]
 have bj:H<|List.drop 4 (eI 8 b)=(b.drop 4).take 4:=by show _=_;rw[Xb]
 have cn:=PU b;have N3:H<|sZ w (aF (aF (aF w<|au (LV ao (aB av (T (gG L)) bc) k last torn g recs) 258)<|au (nZ ao) 258)<|au (nZ M) 258)<|LV ao (aB av (T (gG L)) bc) k last torn g recs:=
  ⟨((xh.ex _ _ _).E _).E _,by have:=(xh.ex (aF w<|au (LV ao (aB av (T (gG L)) bc) k last torn g recs) 258) (nZ ao) 258).E<|au (nZ M) 258;simp_all,by grind [xh.ex,xp],((zj.E _).aE<|zj.E _).aE<|zj.E _⟩
 unfold LV nZ at N3;unfold LV;clear h hT ho hO;have i1:(10:U)<=(T b:Q):=À
 have i2:(8:U)<=(T b:Q):=À
 have i3:(1:U)<(T b:Q):=À
 have i4:(0:U)<(T b:Q):=À
 go_enter func285.1,Tryz.ntmps285;go_wp2;generalize(aF (aF (aF w<|au _ 258)<|au _ 258)<|au _ 258)=w3 at*;rw[cs.o];refine(Hy _ Ç _).mono ?_;rintro e w4⟨rfl,rfl⟩;have HZ:H<|qi ((b.drop 8).take 2)=jX b:=O;rw[HZ.o];generalize hz:jX b=z at*;clear cs HZ;have bb:=F;have ck:=W.bF;have cl:=W.ep;have bi:IntKind.i64.wrap ((k.bF:U)+1)=(k.bF:U)+1:=Ï
 have cc:IntKind.i64.wrap ((k.ep:U)+1)=(k.ep:U)+1:=Ï
 have ba:H<|∀w,aG 282 #[E<|List.drop 4<|List.take 8 b] w (J (qi ((b.drop 4).take 4):Q)):=by rw[bj.o];exact λw=>Hy _ Ç w
 have x:H<|b0=82->Jv k L b=_:=λe=>ϥ (k:=k) (L:=L)<|e▸H1.o.1;have t:H<|b0=75->Jv k L b=_:=λe=>Ϥ (k:=k) (L:=L) (e▸H1.o.1) À;rw[H1.o.2,hz]at x t;generalize qi ((b.drop 4).take 4)=cv at*;have hx:(b0≠82/\b0≠75)\/((b0=82\/b0=75)/\cv≠k.bF+1)\/((b0=82\/b0=75)/\cv=k.bF+1/\5<aN b1)\/(b0=82/\cv=k.bF+1/\aN b1<=5/\aN b1≠k.ep)\/(b0=75/\cv=k.bF+1/\aN b1<=5/\aN b1≠k.ep+1)\/(b0=75/\cv=k.bF+1/\aN b1<=5/\aN b1=k.ep+1/\0<z)\/(b0=82/\cv=k.bF+1/\aN b1=k.ep)\/(b0=75/\cv=k.bF+1/\aN b1=k.ep+1/\k.ep+1<=5/\z=0):=by
  by_cases bu:b0=82;have:¬b0=75:=by rw[bu];decide
  simp only[bu,true_and,true_or,ne_eq,not_true,false_and,false_or];omega;by_cases ca:b0=75;simp only[ca,true_and,or_true,ne_eq,not_true,and_false,false_or];rw[show((75:Z8)=82)=False by decide];simp only[false_and,or_false,false_or];omega;simp_all
 obtain⟨d,q⟩|⟨d,q⟩|⟨d,q,B⟩|⟨d,q,B,h4⟩|⟨d,q,B,h4⟩|⟨d,q,B,h4,h5⟩|hx:=hx
 case' inl=>
  have hd:H<|Jv k L b=R:=ϡ (by rw[H1.o.1];simp_all) (by rw[H1.o.1];simp_all);have n1:¬(aN b0:U)=82:=λe=>d (GT.1<|by show aN b0=82;omega);have n2:¬(aN b0:U)=75:=λe=>q (GT.1<|by show aN b0=75;omega);have p1:((aN b0:U) != 82)=M:=by simpa using n1
  have p2:((aN b0:U)==75)=ao:=by simpa using n2
 case' inr.inl=>
  have hd:H<|Jv k L b=R:=zdr
  have n1:¬(cv:U)=(k.bF:U)+1:=À
  have p1:((cv:U) != (k.bF:U)+1)=M:=by simpa using n1
  obtain rfl|rfl:=d
 case' inr.inr.inl=>
  have hd:H<|Jv k L b=R:=zdr
  have n1:(cv:U)=(k.bF:U)+1:=À
  have n2:(5:U)<(aN b1:Q):=À
  obtain rfl|rfl:=d
 case' inr.inr.inr.inl=>
  subst d;have hd:H<|Jv k L b=R:=(x.o O).trans (aL À);have n1:(cv:U)=(k.bF:U)+1:=À
  have n2:¬(5:U)<(aN b1:Q):=À
  have n3:¬(aN b1:U)=(k.ep:U):=À
  have p3:((aN b1:U) != (k.ep:U))=M:=by simpa using n3
 case' inr.inr.inr.inr.inl=>
  subst d;have hd:H<|Jv k L b=R:=(t.o O).trans (aL À);have n1:(cv:U)=(k.bF:U)+1:=À
  have n2:¬(5:U)<(aN b1:Q):=À
  have n3:¬(aN b1:U)=(k.ep:U)+1:=À
  have p3:((aN b1:U) != (k.ep:U)+1)=M:=by simpa using n3
 case' inr.inr.inr.inr.inr.inl=>
  subst d;have hd:H<|Jv k L b=R:=(t.o O).trans (aL À);have n1:(cv:U)=(k.bF:U)+1:=À
  have n2:¬(5:U)<(aN b1:Q):=À
  have n3:(aN b1:U)=(k.ep:U)+1:=À
  have n4:(0:U)<(z:U):=À
 case inr.inr.inr.inr.inr.inr=>
  obtain⟨kk,r,bw,bz,bh,be,bf,bv,bd⟩:∃(kk:Lk) (r:ez),H (Jv k L b=pX kk L r (k.bF+1) (b.take 10) ((b.drop 10).take z) ((b.drop<|10+z).take 32))/\(r=ao->z=0)/\H (b0=if r then 82 else 75)/\H (kk.ep=aN b1/\aN b1=if r then k.ep else k.ep+1)/\H (kk={k with ep:=aN b1})/\H (cv=k.bF+1)/\aN b1<=5:=by obtain⟨d,q,B⟩|⟨d,q,B,h4,h5⟩:=hx;exact⟨k,M,(x.o d).trans<|if_pos ⟨q,B⟩,Â,d,⟨B.symm,B⟩,É,q,À⟩;exact⟨{k with ep:=k.ep+1},ao,(t.o d).trans<|if_pos ⟨q,B,h4,h5⟩,λ_=>h5,d,⟨B.symm,B⟩,É,q,À⟩
  clear hx x t;have bs:H<|(b.drop<|10+z).take 32=b.drop (10+z):=by show _=_;exact qp<|by rw[Zn];omega
  have bk:H<|List.drop 10 (eI (10+z) b)=(b.drop 10).take z:=by show _=_;rw[Xb,Ko]
  have cg:T ((b.drop 10).take z)=z:=by rw[xf,Zn];omega
  have cb:T (b.take 10)=10:=ù
  have c:H<|Jv k L b=if b.drop (10+z)=Wu (Y7 f.m (aN b1)) (k.dX++b.take 10++(b.drop 10).take z)then(if r then(Wl<|nT (Ji f.m (aN b1)) ((b.take 10).take 8)<|(b.drop 10).take z).map λD=>({k with ep:=aN b1,bF:=k.bF+1,fD:=k.dX,dX:=b.drop<|10+z},gh L D)else Y ({k with ep:=aN b1,bF:=k.bF+1,fD:=k.dX,dX:=b.drop<|10+z},L))else R:=by show _=_;rw[bw.o,bs.o,xum (by rw[bf.o];exact W.dX) cb (λe=>É),bf.o];simp only[W.m]
  have n1:(cv:U)=(k.bF:U)+1:=by have:=bv.o;omega
  have cf:H<|aN b1<=5:=bd;have n2:¬(5:U)<(aN b1:Q):=by have:=bd;omega
  have c0:=N3.o.l.eu;clear hz F bw bf bv bd;have i5:(10:U)+(z:U)<=(T b:Q):=by have:=bb;omega
  have i6:(0:U)<=10+(z:U):=À
  have i7:(10:U)<=10+(z:U):=À
  cases r
  case' false=>
   have cm:¬(0:U)<(z:U):=by have:=bz O;omega
   obtain rfl:b0=75:=bh.o;have n3:((aN b1:U) != (k.ep:U)+1)=ao:=by have:=be.o.2;simp only[ja,kB]at this;exact Ç
  case' true=>obtain rfl:b0=82:=bh.o;have n3:((aN b1:U) != (k.ep:U))=ao:=by have:=be.o.2;simp only[dY]at this;simp;omega
  all_goals
   clear bz bh be;go_wp2;go_quiet (exact qE<|ba.o _);have G:=N3.o.ib (zj.refl _ _).eL (v':=w4.drewN nq);generalize w4.drewN nq=w5 at*;have c4:=G.l.eu;clear c0;go_wp2;have b8:H<|T (b.drop<|10+z)=32:=by show _=_;rw[Zn];have:=bb;omega
   rw[bk.o];clear c4 n1 n2 n3 ba bj g0 g1 bi cc bs bk bb;have b5:H<|List.take 8 (b.take 10)=b.take 8:=by show _=_;rw[List.take_take];rfl
   generalize(b.drop 10).take z=Bd at*;have u:H<|∀p,Nw w5 p->N p (K (V<|Z w) 4)=E k.dX:=λp A=>(G.ib A).l.i 4 O;have S0:=u.o _<|zj.refl _ _;have a:H<|Nw w5 w5.drew:=(zj.refl _ _).W;have ce:=W.dX;have HM:=W.ml;have br:H<|T (Y7 f.m (aN b1))=32:=Ek _ _;have m1:¬9223372036854775807<42+T Bd:=À
   have m2:¬9223372036854775807<42:=Ã
   have m3:¬9223372036854775807<42+z:=À
   have X:H<|Nw w w5:=G.n;go_region_held3 (λp=>N p (K (V<|Z w) 4)=E k.dX) (first|exact S0|exact S)
    (first
     |(go_at_call 194;refine(Ms C f (aN b1) _ (HH.y<|X.o.aE a.o) (HT.nw<|X.o.aE a.o) HM).mono ?_;rintro e w6⟨rfl,F⟩;replace a:=xe<|a.o.aE<|zj.J F;have S:=u.o _ a.o)
     |(go_at_call 105;refine(FJ _ _ (by rw[br.o];decide) Ç _<|HT.nw<|X.o.aE a.o).mono ?_;rintro e w6⟨rfl,F⟩;replace a:=xe<|a.o.aE<|zj.J F;have S:=u.o _ a.o))
   clear S0 S;try clear hHeld
   have y:=xe<|G.ib a.o;clear u G a X br;rw[jq]at c;let⟨h2,hT⟩:=JP<|Wu (Y7 f.m (aN b1)) (k.dX++(b.take 10++Bd));rw[hT]at c⊢;clear hT;have b3:((st h2).toList==(st<|b.drop<|10+z).toList)=bR (b.drop (10+z)=h2):=by rw[xl,xl,Bool.beq_comm];by_cases h:b.drop (10+z)=h2<;>simp[h]
   by_cases h1:b.drop (10+z)=h2
   case neg=>
    have hd:H<|Jv k L b=R:=by show _=_;rw[c.o,aL h1]
    rw[jo h1]at b3;clear h1;have c1:=y.o.b.eu;have c2:=y.o.z.eu;have c3:=y.o.z.gM;go_wp2;refine tM y.o.z O O O λv n=>?_;unfold EX;rw[hd.o];exact⟨O,y.o.n.cZ À n⟩
   rw[jm h1]at b3;have b9:=xe h1;replace c:=xe<|c.o.trans<|if_pos h1;rw[h1]at c;clear h1;have ch:T h2<=32:=by rw[<-b9.o,b8.o];decide
  rotate_left
  ·replace c:=xe (c.o.trans<|if_neg Ã);have c2:=y.o.z.eu;have c3:=y.o.z.gM;have c4:=y.o.l.eu;have c5:=y.o.l.gM;have bi:IntKind.i64.wrap ((k.bF:U)+1)=(k.bF:U)+1:=by rw[zh];omega
   go_wp2;refine tM (y.o.z.y (zj.uj w6) Â) O O O λv n=>?_;unfold EX;rw[c.o];have nv:Nw w v:=(y.o.n.cZ (zd _)<|zj.uj w6).cZ À n;exact⟨_,O,nv,HS.ib nv⟩
  have u:H<|∀p,Nw w6 p->N p (K (V<|Z w) 4)=E k.dX:=λp A=>(y.o.ib A).l.i 4 O;have S0:=u.o _<|zj.refl _ _;have a:H<|Nw w6 w6.drew:=(zj.refl _ _).W;have X:=xe y.o.n;have bl:H<|T (Ji f.m (aN b1))=16:=F7 _ _;have cs:H<|T (b.take 8)=8:=by show _=_;rw[xf];omega
  rw[b5.o]at c;have bq:=xe<|A' (Ji f.m (aN b1)) (b.take 8) Bd;have bn:H<|∀w,aK prog 310 #[E<|nT (Ji f.m (aN b1)) (b.take 8) Bd] w λe p=>∃v bo,e=ai (cE #[v,bG bo])/\Nw w p/\_:=λw=>xud _ (by rw[bq.o];omega) w;go_wp2;go_region_held3 (λp=>N p (K (V<|Z w) 4)=E k.dX) (first|exact S0|exact S)
   (first
    |(go_at_call 235;refine(Q8 C f (aN b1) _ (HH.y<|X.o.aE a.o) (HT.nw<|X.o.aE a.o) HM).mono ?_;rintro e w7⟨rfl,F⟩;replace a:=xe<|a.o.aE<|zj.J F;have S:=u.o _ a.o)
    |(go_at_call 116;refine(QZ _ _ Bd bl.o cs.o À _).mono ?_;rintro e w7⟨rfl,F⟩;replace a:=xe<|a.o.aE<|zj.J F;have S:=u.o _ a.o)
    |(go_at_call 310;refine(bn.o _).mono ?_;rintro e w8⟨v,bo,rfl,hn,d⟩;have HP:=xe d;clear d;have b4:=xe a.o;replace a:=xe<|a.o.aE hn;have S:=u.o _ a.o))
  clear S0 S;try clear hHeld
  have N8:=xe<|y.o.ib a.o;have bp:=xe<|(HS.ib X.o).ib a.o;let⟨o,bg⟩:=JP<|Wl (nT (Ji f.m (aN b1)) (b.take 8) Bd);rw[bg]at c HP;clear u bn bq cs bl b4 y HH HT;cases o with
  |none=>
   obtain rfl:=HP.o.2 O;have c1:=N8.o.b.eu;have c2:=N8.o.z.eu;have c3:=N8.o.z.gM;go_wp2;refine tM N8.o.z O O O λv n=>?_;unfold EX;rw[c.o];exact⟨O,N8.o.n.cZ À n⟩
  |some D=>
   obtain⟨rfl,h3⟩:=HP.o.1 D O;have bm:=xe (SK bg).2.1;clear bg;obtain⟨a8,bt,rfl⟩:=h3.dL;have HI:H<|JJ w0 w w8 k L D _ _ last torn g recs 0:=⟨N8.o,h3.rw,bp.o⟩;clear h3 HP bp N8;go_wp2;go_loopw [15] (λi wr=>∃(j:Q) (s:Zv),j<=T D/\i=J j/\JJ w0 w wr k L D (aB a8 (T D) bt) s last torn g recs j) (λi _=>bL (T D-bZ i));exact⟨0,_,À,O,HI.o⟩;obtain⟨j,s,hj,rfl,hi⟩:=hrel;have P:=xe hi;clear hi HI;have w2:=xe HS.nw;have cd:=bm.o;by_cases bx:j<T D
   ·have i8:(j:U)<(T D:Q):=À;have i9:(0:U)<=(j:U):=À
    obtain⟨ag,rfl,hq⟩:=P.o.Ma.lp (λ_=>O) bx O;have u:H<|∀p,Nw wr p->N p (K (V<|Z w) 1)=Y s/\N p (K ag<|j*3)=(bG<|cG D[j])/\N p (K ag<|j*3+1)=(E<|cK D[j])/\N p (K ag<|j*3+2)=(E<|cV D[j])/\aX p (K (V<|Z w) 1)=ao:=λp A=>⟨(P.o.g3.ib A).l.i 1 O,A.i id<|hq 0 À,A.i id<|hq 1 À,A.i id<|hq 2 À,(P.o.g3.ib A).l.dS 1⟩;have S0:=u.o _<|zj.refl _ _;have S:=u.o _ (zj.refl _ _).W;have b6:H<|T (tE (gG L)<|D.take j)<=300000000000:=by
     have d:=P6 (D.take j)<|gG L;have q:T (gG L)=T L:=by rw[<-jl (f:=(·.1)),QN,(QI L).length_eq,jl]
     have B:=W.gT;have h4:=List.length_take_le j D;have h5:=bm.o;show _<=_;omega
    clear hq;let⟨sa,sc,hsv⟩:=P.o.st.dL;subst hsv;go_wp2;go_region_with (go_at_call 181;refine(ZY (tE (gG L)<|D.take j) _ D[j] b6.o _<|by first|exact P.o.st.rw|exact(P.o.st.and (zj.refl _ _).drew).rw).mono ?_;rintro e w9⟨s9,rfl,g'⟩;obtain⟨a9,c9,rfl⟩:=g'.dL;have S9:=u.o w9 (by first|exact g'.nw|exact((zj.refl _ _).W).aE g'.nw);have b7:=xe g';clear g');all_goals
     have HN:=xe<|P.o.eG w2.o bx zak b7.o;go_wp2;go_roundw;exact⟨j+1,_,À,Å,HN.o⟩;exact Ì
   obtain rfl:j=T D:=À
   have i8:¬(T D:U)<(T D:Q):=À
   have aw:=xe P.o.g3;have es:H<|ff w0 wr 200 2 kT s<|gG<|gh L D:=by rw[SO D W.nd];have:=P.o.st;rw[jz]at this;exact this
   clear P;let⟨a9,c9,hs9⟩:=es.o.dL;subst hs9;have c2:=aw.o.z.eu;have c3:=aw.o.z.gM;have c4:=aw.o.l.eu;have c5:=aw.o.l.gM;have bi:IntKind.i64.wrap ((k.bF:U)+1)=(k.bF:U)+1:=Ï
   go_wp2;refine tM (aw.o.z.y (zj.uj wr (r:=V (Z w))) À) O O O λv n=>?_;unfold EX;rw[c.o];have nw:Nw w v:=(aw.o.n.cZ (zd _)<|zj.uj wr).cZ À n;exact⟨_,O,nw,(es.o.y (zj.uj wr) (es.o.rw.ir aw.o.l Ã)<|w2.o.aE<|aw.o.n.cZ (zd _)<|zj.uj wr).y n (es.o.rw.ir aw.o.z Ã)<|w2.o.aE nw⟩
 all_goals
  have c0:=N3.o.l.eu;clear hz F x t;first|clear d q B h4 h5|clear q B h4|clear q B|clear d q|clear q
  go_wp2;go_quiet (exact qE<|ba.o _);have G:=N3.o.ib (zj.refl _ _).eL (v':=w4.drewN nq);generalize w4.drewN nq=w5 at*;have c1:=G.b.eu;have c2:=G.z.eu;have c3:=G.z.gM;have c4:=G.l.eu;go_wp2;refine tM G.z O O O λv n=>?_;unfold EX;rw[hd.o];exact⟨O,G.n.cZ À n⟩
def xmi(L:KV)(k v:Zl):T (gS L k v)<=T L+1:=zc5
def xme(L:KV)(k:Zl):T (jN L k)<=T L:=by induction L with|nil=>simp[jN]|cons p L I=>grind [jN]
def JK:∀(D:bA Vk) (L:KV),T (gh L D)<=T L+T D
 |[],L=>zd _
 |c::D,L=>by
  have a:=JK D<|mF L c;have b:T (mF L c)<=T L+1:=by cases c with|put k v=>exact xmi L k v|del k=>have:=xme L k;show(jN L k).length<=_;omega
  grind [gh]
def xkm(h:42+jX l<=T l):jX (l.take<|42+jX l)=jX l/\Jv k L (l.take<|42+jX l)=Jv k L l:=by
 have a:jX (l.take<|42+jX l)=jX l:=by unfold jX;rw[Xb,List.take_take,DL À]
 refine⟨a,?_⟩;unfold Jv;rw[a];simp only[Xb,List.take_take];grind
structure Kp(k y:Lk):Prop where
 m:y.m=k.m
 aQ:y.aQ=k.aQ
 cQ:y.cQ=k.cQ
 cY:y.cY=k.cY
 bM:y.bM=k.bM
 dB:y.dB=k.dB
 gR:y.gR=k.gR
 tc:y.tc=k.tc
 bQ:y.bQ=k.bQ
def un{k v:Zl}(hk:k≠[]/\T k<=16/\T v<=32):∀{L:KV},rY L->rY (gS L k v)
 |[],_,p,a=>by simp[gS]at a;subst a;exact hk
 |(y,u)::L,h,p,a=>by
  unfold gS at a;split at a<;>obtain rfl|a:=jc.1 a
  exact hk;exact h p<|jw _ a;exact h _ xu;exact un hk (λx b=>h x<|jw _ b) p a
def sr{k:Zl}{p:Zl×Zl}:∀{L:KV},p∈jN L k->p∈L
 |[],h=>È
 |(y,u)::L,h=>by have a:=sr (k:=k) (p:=p) (L:=L);unfold jN at h;grind
def mQ:∀(D:bA Vk) {L:KV},rY L->(∀c∈D,qX c)->rY (gh L D)
 |[],L,h,_=>h|c::D,L,h,y=>mQ D (L:=mF L c) (by have a:=y c xu;cases c with|put k v=>exact un a h|del k=>exact λp b=>h p<|sr b) λc a=>y c<|jw _ a
theorem ri.eG{y:Lk}{u:KV}(h:ri f k L)(x:42+jX l<=T l)(d:Jv k L l=Y (y,u)):ri f y u/\Kp k y:=by
 have w:qi ((l.drop 4).take 4)<4294967296:=by have:=AS<|(l.drop 4).take 4;rw[show((l.drop 4).take 4).length=4 by grind]at this;omega
 have g:∀(i:Lk) (r:ez),i.m=k.m->i.ep<=5->Kp k i->k.bF+1<4294967296->pX i L r (k.bF+1) (l.take 10) ((l.drop 10).take<|jX l) ((l.drop<|10+jX l).take 32)=Y (y,u)->ri f y u/\Kp k y:=by
  intro i r p q b s a;have e:=Io a;have v:∃D,u=gh L D/\T D<=20/\∀c∈D,qX c:=by unfold pX at a;split at a;cases a;split at a;cases a;split at a;split at a;rename_i D o;cases a;exact⟨D,O,(SK o).2⟩;grind;cases a;exact⟨[],O,Â,Â⟩
  obtain⟨D,rfl,o,t⟩:=v;subst e;have:=JK D L;have:=h.gT;exact⟨⟨p.trans h.m,h.ml,q,s,Á,h.nd.gh D,Á,mQ D h.ks t⟩,⟨b.m,b.aQ,b.cQ,b.cY,b.bM,b.dB,b.gR,b.tc,b.bQ⟩⟩
 cases l with|nil=>grind|cons b0 l=>by_cases n:b0=82;subst n;rw[ϥ Á]at d;split at d;rename_i X;exact g k M O h.ep ⟨O,O,O,O,O,O,O,O,O⟩ À d;grind;by_cases j:b0=75;subst j;rw[Ϥ Á À]at d;split at d;rename_i X;exact g {k with ep:=k.ep+1} ao O X.2.2.1 ⟨O,O,O,O,O,O,O,O,O⟩ À d;grind;rw[ϡ Á Á]at d;cases d
def sZ.mk3(w:Zy)(C:Za):sZ w (aF (aF (aF w<|au C 258)<|au (nZ ao) 258)<|au (nZ M) 258) C:=
 ⟨((xh.ex _ _ _).E _).E _,by have:=(xh.ex (aF w<|au C 258) (nZ ao) 258).E<|au (nZ M) 258;simp_all,by grind [xh.ex,xp],((zj.E _).aE<|zj.E _).aE<|zj.E _⟩
theorem sZ.H(h:sZ w v C)(i:Q)(u:Zv):sZ w (ay v (K (V<|Z w) i) u)<|aA C i u:=⟨h.l.H i u,h.z.y (zj.H v (K (V<|Z w) i) u) Á,h.b.y (zj.H v (K (V<|Z w) i) u) Á,h.n.cZ (zd _)<|zj.H v (K (V<|Z w) i) u⟩
def zj.wt(x:Zy){a:Zv}:zj (·=r) x<|ay (ay x (K r i) a) (K r j) b:=(zj.H x (K r i) a).aE<|zj.H _ (K r j) b
def sZ.np{f i j k o a:Zv}(h:sZ w v #[S,e,f,g,i,j,k,m,o,p,a,c,d]):sZ w (BL v (V<|Z w) b0 b1 b2 b3 b4 b5 b6 b7 b8 b9 b10 b11 b12) #[b0,b1,b2,b3,b4,b5,b6,b7,b8,b9,b10,b11,b12]:=by have n:zj (·=V (Z w)) v<|BL v (V<|Z w) b0 b1 b2 b3 b4 b5 b6 b7 b8 b9 b10 b11 b12:=zj.Ni v;exact⟨h.l.zD,h.z.y n À,h.b.y n À,h.n.cZ (zd _) n⟩
def ff.np{l:KV}(h:ff w0 v 200 2 kT s l)(g:sZ w v C)(a:Nw w0 w):ff w0 (BL v (V<|Z w) b0 b1 b2 b3 b4 b5 b6 b7 b8 b9 b10 b11 b12) 200 2 kT s l:=by have n:zj (·=V (Z w)) v<|BL v (V<|Z w) b0 b1 b2 b3 b4 b5 b6 b7 b8 b9 b10 b11 b12:=zj.Ni v;exact h.y n (h.rw.ir g.l Ã)<|a.aE<|g.n.cZ (zd _) n
theorem SE:∃k:Lk,nZ M=LV M (aB R 0 0) k 0 ao 0 0:=⟨⟨[],0,[],0,0,0,0,[],[],0,0,0,0,ao,0⟩,O⟩
def ff.wt{a:Zv}{l:KV}(h:ff w0 v 200 2 kT s l)(g:sZ w v C)(c:Nw w0 w):ff w0 (ay (ay v (K (V<|Z w) i) a) (K (V<|Z w) j) b) 200 2 kT s l:=h.y (zj.wt v) (h.rw.ir g.l Ã)<|c.aE<|g.n.cZ (zd _)<|zj.wt v
def zj.su(x:Zy){l:Q}{a:Zv}:zj (·=r) x<|ay (ay (ay x (K r i) a) (K r j) b) (K r l) c:=(zj.wt x).aE<|zj.H _ (K r l) c
def xed(C:Q)(f:Rf)(k:Lk)(L:KV)(sv:Zv)(X:U)(y:ez)(d u:U)(b:Zl)(o:T b=42+jX b)(w0 w:Zy)(h:Ju w C f)(n:Yq w)(ho:ri f k L)(m:ff w0 w 200 2 kT sv<|gG L):aK prog 285 #[zq C,bY<|LV ao sv k X y d u,E b] w λe w'=>∃(F:ez) (a:dD Addr) (i c:Q) (A:Lk) (l:U) (t:ez) (g r:U),e=ai (bY<|LV F (aB a i c) A l t g r)/\Nw w w'/\(∀G P,Jv k L b=Y (G,P)->F=ao/\A=G/\t=y/\g=d/\r=u/\ff w0 w' 200 2 kT (aB a i c) (gG P))/\(Jv k L b=R->F=M):=by refine(xee C f k L sv X y d u b o w0 w h n ho m).mono λe w' h=>?_;unfold EX at h;cases I:Jv k L b with|none=>grind [SE]|some q=>obtain⟨G,P⟩:=q;rw[I]at h;obtain⟨v,p,s,j⟩:=h;obtain⟨a,c,rfl⟩:=j.dL;grind
def BJ(w0:Zy)(o:dD<|Lk×KV)(n:U)(w:Zy)(e:kH)(w':Zy):Prop:=Nw w w'/\match o with
 |some (k,L)=>∃v G y,e=ai (bY<|LV ao v k n k.cQ G y)/\ff w0 w' 200 2 kT v (gG L)/\(k.cQ=M->(0<y/\G=k.cY/\0<G)\/(y=0/\k.cY=0))
 |none=>∃v k l t G y,e=ai (bY<|LV M v k l t G y)/\∃a i j,v=aB a i j
def BJ.rh{o:dD<|Lk×KV}{n:U}(h:o=R)(a:Nw w w'):BJ w0 o n w (ai<|bY<|nZ M) w':=zbs
theorem Kp.aE{a b c:Lk}(h:Kp a b)(k:Kp b c):Kp a c:=⟨k.m.trans h.m,k.aQ.trans h.aQ,k.cQ.trans h.cQ,k.cY.trans h.cY,k.bM.trans h.bM,k.dB.trans h.dB,k.gR.trans h.gR,k.tc.trans h.tc,k.bQ.trans h.bQ⟩
def Nw.sO{a b c:Zy}(h:Nw a b)(k:Nw b c):Nw a c:=zj.aE h k
structure Ϝ(w0 w h:Zy)(f:Rf)(k:Lk)(L:KV)(n:Q)(x:Zl)(p j:Q)(y:Lk)(u:KV)(s:Zv)(X:ez):Prop where
 g3:sZ w h<|LV ao s y n X 0 j
 ok:ri f y u
 kp:Kp k y
 st:ff w0 h 200 2 kT s<|gG u
 go:ms k L (x.drop 9)=ms y u (x.drop p)
 lo:9<=p/\p<=T x
 nj:9+42*j<=p
 j0:j=0->p=9
def xbd(C:Q)(f:Rf)(k:Lk)(L:KV)(sv:Zv)(ls:U)(tn:ez)(gd rc:U)(n:Q)(lb:ez)(hn:n<=9999)(bq:lb=bR ((n:U)=k.aQ))(hx:T (jp f.F n)<=100000)(bs:jp f.F n≠[])(hk:k.cQ=ao)(w0 w:Zy)(h:Ju w C f)(hF:T f.F<=1000000)(hT:Yq w)(ho:ri f k L)(hO:ff w0 w 200 2 kT sv<|gG L):aK prog 232 #[zq C,bY<|LV ao sv k ls tn gd rc,J n,bG lb] w<|BJ w0 (mX k L n<|jp f.F n) n w:=by
 have HH:=h;have HT:=hT;have HO:=ho;have HS:=hO;obtain⟨av,bg,rfl⟩:=hO.dL;have N3:H<|sZ w (aF (aF (aF w<|au (LV ao (aB av (T (gG L)) bg) k ls tn gd rc) 258)<|au (nZ ao) 258)<|au (nZ M) 258)<|LV ao (aB av (T (gG L)) bg) k ls tn gd rc:=sZ.mk3 w _;unfold LV nZ at N3;have HX:H<|∀w,Ju w C f->aK prog 184 #[zq C,J n] w λe S=>S=w/\e=ai (E<|jp f.F n):=λw h=>LS C f n w h hF;generalize jp f.F n=x at*;have HL:=xe bq;have HK:=hk;have bz:=xe bs;have b9:=HO.bF;clear h hT ho hO bq hk bs;unfold LV;go_enter func232.1,Tryz.ntmps232;go_wp2;generalize(aF (aF (aF w<|au _ 258)<|au _ 258)<|au _ 258)=w3 at*;refine(HX.o _<|HH.y N3.o.n).mono ?_;rintro e w4⟨rfl,rfl⟩;have c0:=N3.o.l.eu;have c1:=N3.o.l.gM;go_wp2;have N5:H<|sZ w (ay (ay (ay w4 (K (V<|Z w) 9)<|J n) (K (V<|Z w) 11)<|J 0) (K (V<|Z w) 12)<|J 0)<|LV ao (aB av (T (gG L)) bg) k n tn 0 0:=(((N3.o.H 9 _).H 11 _).H 12 _);generalize(ay (ay w4 (K (V<|Z w) 9)<|J n) (K (V<|Z w) 11)<|J 0).setCell (K (V<|Z w) 12) (J 0)=w5 at*;clear c0 c1 N3 HX;have HQ:H<|∀S,Nw w5 S->N S (K (V<|Z w) 3)=J k.bF:=λS hw=>(N5.o.ib hw).l.i 3 O;have S0:=HQ.o _<|zj.refl _ _;have m:H<|Nw w5 w5.drew:=(zj.refl _ _).W;have b6:IntKind.i64.wrap ((k.bF:U)+1)=(k.bF:U)+1:=Ï
 have l1:=Z2 n 4;have l2:=Z2 (k.bF+1) 4;have HE:H<|({data:=#[83]}:eM)++st (nb n 4)++st (nb (k.bF+1) 4)=st (83::(nb n 4++nb (k.bF+1) 4)):=by show _=_;rw[show({data:=#[83]}:eM)=st [83]from O,zg,zg];simp
 go_region_held3 (λS=>N S (K (V<|Z w) 3)=J k.bF) (first|exact S0|exact S1)
  (first
   |(go_at_call 167;refine(SD _ _ Ã _).mono ?_;rintro e w6⟨rfl,hb⟩;replace m:=xe<|m.o.aE<|zj.J hb;have S1:=HQ.o _ m.o)
   |(go_at_call 167;refine(wD _ _ (k.bF+1) 4 À rfl Ã _).mono ?_;rintro e w6⟨rfl,hb⟩;replace m:=xe<|m.o.aE<|zj.J hb;have S1:=HQ.o _ m.o))
 clear S0 S1 b6 l1 l2;try clear hHeld
 have D:=xe<|N5.o.ib m.o
 rename Zy=>w6
 rw[HE.o];have w2:=xe<|(HS.ib N5.o.n).ib m.o;let⟨hd,bh⟩:=JP<|83::(nb n 4++nb (k.bF+1) 4);have bj:=xe bh;rw[bh];clear bh HE HQ N5 m;by_cases h9:9<=T x
 case neg=>
  have i1:(T x:U)<9:=À;have br:0<T x:=by cases x;exact(bz.o O).elim;simp
  have A:H<|mX k L n x=if lb then Y ({k with cQ:=M,cY:=0},L)else R:=by show _=_;rw[ZR h9,Vd,aT br,HL.o];by_cases hq:(n:U)=k.aQ;simp;simp
  have c0:=D.o.l.eu;have c1:=D.o.l.gM;have c2:=D.o.z.eu;have c3:=D.o.z.gM;clear h9;cases lb;all_goals
   go_wp2;refine tM (D.o.z.y (zj.wt w6 (r:=V (Z w))) À) O O O λv P=>?_;unfold BJ;rw[A.o];have nw:Nw w v:=(D.o.n.cZ (zd _)<|zj.wt w6).cZ À P;refine⟨nw,?_⟩
  exact⟨_,k,_,_,_,_,O,_,_,_,O⟩;exact⟨_,_,_,O,(w2.o.y (zj.wt w6) (w2.o.rw.ir D.o.l Ã)<|HS.nw.aE<|D.o.n.cZ (zd _)<|zj.wt w6).y P (w2.o.rw.ir D.o.z Ã)<|HS.nw.aE nw,λ_=>ac ⟨O,O⟩⟩
 have i1:¬(T x:U)<9:=À
 have i2:(9:U)<=(T x:Q):=À
 have bi:((st<|x.take 9).toList==(st hd).toList)=bR (x.take 9=hd):=by rw[xl,xl];by_cases h:x.take 9=hd<;>simp[h]
 by_cases I:x.take 9=hd
 case neg=>
  have A:H<|mX k L n x=R:=ZQ h9 (by rw[bj.o];exact I);rw[jo I]at bi;clear I;have c1:=D.o.b.eu;have c2:=D.o.z.eu;have c3:=D.o.z.gM;go_wp2;refine tM D.o.z O O O λv P=>?_;exact BJ.rh A.o<|D.o.n.cZ À P
 have bf:=xe (ZS (k:=k) (L:=L) (num:=n) h9<|by rw[bj.o];exact I);rw[jm I]at bi;have HI:H<|Ϝ w0 w w6 f k L n x 9 0 k L _ tn:=⟨D.o,HO,⟨O,O,O,O,O,O,O,O,O⟩,w2.o,O,⟨zd _,h9⟩,À,λ_=>O⟩;clear I D w2 h9;have g':=xe HS.nw;clear HS;go_wp2;clear bi i1 i2;go_loopw [12] (λi wr=>∃(p j:Q) (u:Lk) (aw:KV) (s:Zv),i=J p/\Ϝ w0 w wr f k L n x p j u aw s tn) (λi _=>bL (T x-bZ i));exact⟨9,0,k,L,_,O,HI.o⟩;obtain⟨p,j,u,aw,s,rfl,hi⟩:=hrel;have d:=xe hi;clear hi HI;obtain⟨cb,cc⟩:=d.o.lo;have ih:=xe d.o.nj;have be:=xe d.o.j0;obtain⟨sa,sc,hs⟩:=d.o.st.dL;subst hs;have B:H<|T (x.drop p)=T x-p:=Zn;have b3:H<|List.drop (p+8) (eI (p+10) x)=((x.drop p).drop 8).take 2:=by show _=_;rw[Xb,zbd];congr 1;omega
 have b8:=PU<|x.drop p;have HV:H<|∀w,aG 282 #[ak<|st<|List.drop (p+8)<|List.take (p+10) x] w (J (jX (x.drop p):Q)):=by rw[b3.o];exact λw=>Hy _ Á w
 have k':=xe λh=>xkm (k:=u) (L:=aw) (l:=x.drop p) h;have es:H<|J5 (x.drop p)=bR (10<=T (x.drop p)/\42+jX (x.drop p)<=T (x.drop p)):=O;let⟨z,hz⟩:=JP<|jX (x.drop p);have HZ:=xe hz;rw[hz]at b8 HV k' es;clear hz;by_cases ba:p+10+z+32<=T x
 ·have i1:(p:U)+10<=(T x:Q):=À;have i2:(p:U)+10+(z:U)+32<=(T x:Q):=À
  have i3:(0:U)<=(p:U)+8:=À
  have i4:(0:U)<=(p:U):=À
  have i5:(p:U)<=(p:U)+10+(z:U)+32:=À
  have i6:(p:U)+8<=(p:U)+10:=À
  have b1:H<|List.drop p (eI (p+10+z+32) x)=(x.drop p).take (42+z):=by show _=_;rw[Xb];congr 1;omega
  obtain⟨bn,bo⟩:=k'.o Á;have b2:H<|T ((x.drop p).take<|42+z)=42+jX ((x.drop p).take<|42+z):=by show _=_;rw[bn,xf,B.o];omega
  have bl:=xe bo;have bc:H<|∀k2 h1,Jv u aw (x.drop p)=Y (k2,h1)->ms k L (x.drop 9)=ms k2 h1 (x.drop<|p+42+z)/\ri f k2 h1/\Kp k k2:=λk2 h1 hr=>by have F:=d.o.ok.eG (l:=x.drop p) (by rw[B.o,HZ.o];omega) hr;refine⟨?_,F.1,d.o.kp.aE F.2⟩;rw[d.o.go,ZH zci hr,HZ.o,zbd,GU]
  have bb:H<|Jv u aw (x.drop p)=R->mX k L n x=R:=λhr=>by rw[bf.o,d.o.go,ZI zci hr]
  generalize(x.drop p).take (42+z)=rb at*;clear k' es bn bo ba B;have c0:=d.o.g3.l.eu;have c1:=(d.o.g3.ib (zj.refl _ _).W (v':=wr.drew)).l.eu;have HR:H<|∀W,Nw wr W->aK prog 285 #[zq C,bY<|LV ao (aB sa (T (gG aw)) sc) u n tn 0 j,E rb] W λe S=>∃(bd:ez) (a:dD Addr) (i c:Q) (kx:Lk) (l:U) (t:ez) (g r:U),e=ai (bY<|LV bd (aB a i c) kx l t g r)/\Nw W S/\_:=λW hW=>xed C f u aw _ n tn 0 j rb b2.o w0 W (HH.y<|d.o.g3.n.aE hW) (HT.nw<|d.o.g3.n.aE hW) d.o.ok<|d.o.st.ib hW;unfold LV at HR;go_wp2_with (go_at_call 282;refine(HV.o _).mono ?_;rintro e w7⟨rfl,rfl⟩);go_region_with (go_at_call 285;rw[show((p:U)+10+(z:U)+32).toNat=p+10+z+32 by omega,b1.o];refine(HR.o _ zak).mono ?_;rintro e w8⟨bd,a8,i8,c8,kx,l8,t8,g8,r8,rfl,hn,hq⟩;have g9:=d.o.g3.ib<|Nw.sO zak hn;have s0:=g9.l.eu;have s1:=g9.l.gM;have y:=xe g9;have e1:=xe hq;clear hq g9);all_goals
   rw[bl.o]at e1;let⟨o,bu⟩:=JP<|Jv u aw (x.drop p);rw[bu]at e1 bb bc;clear bu bl HR c0 c1;cases o with
   |none=>
    obtain rfl:=e1.o.2 O;have A:=xe<|bb.o O;have d1:=y.o.b.eu;have d2:=y.o.z.eu;have d3:=y.o.z.gM;go_wp2;refine tM y.o.np.z O O O λv P=>?_;exact BJ.rh A.o<|y.o.np.n.cZ À P
   |some q=>
    obtain⟨k2,h1⟩:=q;obtain⟨rfl,rfl,rfl,rfl,rfl,bt⟩:=e1.o.1 k2 h1 O;have b0:=xe bt;obtain⟨q1,q2,q3⟩:=bc.o kx h1 O;have bv:=xe q1;have bw:=xe q2;have bx:=xe q3;clear e1 bt q1 q2 q3 bc bb;have ca:(j:U)<=100000:=by have:=ih.o;omega
    go_wp2;go_roundw;exact⟨p+42+z,j+1,kx,h1,_,Å,⟨(y.o.np.H 9 _).H 12 _,bw.o,bx.o,(b0.o.np y.o g'.o).wt y.o.np g'.o,bv.o,À,by have:=ih.o;omega,À⟩⟩;exact Î
 have bk:H<|J5 (x.drop p)=ao:=by show _=_;rw[es.o];simp only[decide_eq_false_iff_not];rw[B.o];omega
 have A:H<|mX k L n x=Vd u aw n (T x) (if p=9 then 0 else p):=by show _=_;rw[bf.o,d.o.go,ZJ bk.o];simp only[B.o];congr 1;by_cases h9:p=9;grind;grind
 have X:H<|((p<T x\/j=0)->mX k L n x=if lb then Y ({u with cQ:=M,cY:=((if p=9 then 0 else p:Q):U)},aw)else R)/\(¬(p<T x\/j=0)->mX k L n x=Y (u,aw)):=by have b5:=ih.o;have b4:=be.o;refine⟨λh=>?_,λh=>?_⟩;rw[A.o,Vd,aT Á,HL.o,d.o.kp.aQ];grind;rw[A.o,Vd,aL<|by rw[aL À];omega]
 have HW:H<|((0:U)<(j:U)/\(p:U)=((if p=9 then 0 else p:Q):U)/\(0:U)<(p:U))\/((j:U)=0/\((if p=9 then 0 else p:Q):U)=0):=by have b5:=ih.o;have b4:=be.o;by_cases h0:j=0;grind;exact aJ ⟨À,Á,À⟩
 have bp:u.cQ=ao:=d.o.kp.cQ.trans HK;have bm:=xe bp;clear bf es B k' A bk bp;have d0:=d.o.g3.l.eu;have d1:=d.o.g3.l.gM;have d2:=d.o.g3.z.eu;have d3:=d.o.g3.z.gM;have cs:=xe d.o.g3;have G:=xe d.o.st;have b7:(p<T x/\(T x:U)<(p:U)+10)\/(p<T x/\(p:U)+10<=(T x:Q)/\(T x:U)<(p:U)+10+(z:U)+32)\/(p=T x/\j=0)\/(p=T x/\0<j):=À
 clear ba d be ih;obtain⟨F,h2⟩|⟨F,h2,h3⟩|⟨F,h2⟩|⟨F,h2⟩:=b7
 case' inl=>
  have HE:=xe<|X.o.1<|aJ F;have i1:(p:U)<(T x:Q):=À
  have i2:¬(p:U)+10<=(T x:Q):=À
  clear F h2;cases lb
 case' inr.inl=>
  have HE:=xe<|X.o.1<|aJ F;have i1:(p:U)<(T x:Q):=À
  have i3:¬(p:U)+10+(z:U)+32<=(T x:Q):=À
  have i4:(0:U)<=(p:U)+8:=À
  have i6:(p:U)+8<=(p:U)+10:=À
  clear F h3;cases lb
 case' inr.inr.inl=>
  have HE:=xe<|X.o.1<|ac h2;have i1:¬(p:U)<(T x:Q):=À
  have i2:¬(p:U)+10<=(T x:Q):=À
  subst h2;clear F;cases lb
 case' inr.inr.inr=>
  have HE:=xe (X.o.2 À);have i1:¬(p:U)<(T x:Q):=À
  have i2:¬(p:U)+10<=(T x:Q):=À
  have i3:((j:U)==0)=ao:=Ç
  have i4:¬(j:U)=0:=À
  clear F h2
 all_goals
  go_wp2_with (go_at_call 282;refine(HV.o _).mono ?_;rintro e w7⟨rfl,rfl⟩);refine tM (cs.o.z.y (zj.su _ (r:=V (Z w))) À) O O O λv P=>?_;unfold BJ;rw[HE.o];have nw:Nw w v:=(cs.o.n.cZ (zd _)<|zj.su _).cZ À P;refine⟨nw,?_⟩;first
   |exact⟨_,u,_,_,_,_,O,_,_,_,O⟩
   |exact⟨_,_,_,O,(G.o.y (zj.su _) (G.o.rw.ir cs.o.l Ã)<|g'.o.aE<|cs.o.n.cZ (zd _)<|zj.su _).y P (G.o.rw.ir cs.o.z Ã)<|g'.o.aE nw,λ_=>HW.o⟩
   |exact⟨_,_,_,by rw[bm.o];rfl,(G.o.y (zj.su _) (G.o.rw.ir cs.o.l Ã)<|g'.o.aE<|cs.o.n.cZ (zd _)<|zj.su _).y P (G.o.rw.ir cs.o.z Ã)<|g'.o.aE nw,λe=>(by rw[bm.o]at e;cases e)⟩
end
end P
end Go.Proofs.YtjnbhiamaabbgabGreatDoor
