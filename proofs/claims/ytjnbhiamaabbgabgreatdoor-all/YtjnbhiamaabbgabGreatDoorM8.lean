import Derived.Test.YtjnbhiamaabbgabGreatDoorM7
set_option linter.all false
set_option maxRecDepth 100000
set_option maxHeartbeats 8000000
section
variable{P:Prop}
def zan(h:P:=by have:=Rf.fg HH x;have:=S5.o g D;omega):=h
def zaq(h:P:=by have:=Rf.fg HH x;have:=NB.o;omega):=h
def zaw(h:P:=by rw[h.bT.i 11 O];simp[Rf.G,ho]):=h
def zbe(h:P:=by show 0<=20;omega):=h
def zcl(h:P:=by obtain⟨rfl,rfl,rfl⟩:=h;exact⟨y,O,O,O,O,O,O,O,O,O⟩):=h
def zd8(h:P:=by show _=_;unfold Sr.fJ;rw[u];rfl):=h
def zdq(h:P:=by obtain⟨v,k,l,t,g,r,rfl,a,i,j,rfl⟩:=h;exact⟨M,a,i,j,k,l,t,g,r,O,y,λ_=>O,λ_ _ e=>Æ⟩):=h
def zdx(h:P:=by rw[<-ho.o];exact(B.up O).trans<|IG À É):=h
end
namespace Go.Proofs.YtjnbhiamaabbgabGreatDoor
open _root_ renaming Bool->ez,ByteArray->eM,Int->U,List->bA,Nat->Q,Option->dD,absurd->dC,rfl->O,Array.setIfInBounds->aA,Array.size->V,Bool.false->ao,Bool.true->M,Decidable.decide->bR,False.elim->eT,Int.toNat->bL,List.Pairwise.nil->iV,Option.none->R,Option.some->Y,Or.inl->aJ,Or.inr->ac,Prod.fst->o7,UInt8.toNat->aN
open Go renaming Act->mh,Calls->aK,Code->pB,Ending->kH,maxLen->pu,Ending.returned->ai,Exit.normal->eE,IntKind.i64->bB,IntKind.wrap_i64->zh,Obj.cells->au,Proofs.intOf->bZ,Result.andThen->bN,Result.ok->dG,RowKit.Below->aP,RowKit.Hid->H,RowKit.Below.refl->zt
open Value renaming agg->bY,bool->bG,int->aD,map->fu,pointer->aU,slice->aB,string->ak,tuple->cE
open World renaming alloc->aF,cell?->N,frozen?->aX,heap->Z,setCell->ay
open List renaming drop->bV,drop_eq_getElem_cons->Zx,drop_take->Xb,length->T,length_pos_iff->Z0,length_take->xf,map_congr_left->W6,pairwise_cons->Xw,take->eI,take_of_length_le->qp,take_succ_eq_append_getElem->zp
namespace P
variable{k z:Lk}{a c l g op ſ:Int}{f f':Rf}{L o L1:KV}{p Z' B n i j bs C m mp:Q}{w v v' w' S:Zy}{cs:Za}{d:Dk}{s:Zv}{t:ez}{F:Xv}{r aw:Sr}
open A.Tryq Go.RowKit
section
attribute[local go_sem] zn zg CI vD
def xC(w:Zy)(o:dD<|Lk×KV)(e:kH)(w':Zy):Prop:=Nw w w'/\match o with
 |some (k,L)=>∃v,e=ai (bY<|LV ao v k 0 ao 0 0)/\ff w w' 200 2 kT v (gG L)
 |none=>∃v k l t G y,e=ai (bY<|LV M v k l t G y)/\∃a i j,v=aB a i j
structure Kq(k z:Lk):Prop where
 m:z.m=k.m
 aQ:z.aQ=k.aQ
 bM:z.bM=k.bM
 dB:z.dB=k.dB
 gR:z.gR=k.gR
 tc:z.tc=k.tc
 bQ:z.bQ=k.bQ
def Kp.q(h:Kp k z):Kq k z:=⟨h.m,h.aQ,h.bM,h.dB,h.gR,h.tc,h.bQ⟩
theorem Kq.aE{a b c}(h:Kq a b)(k:Kq b c):Kq a c:=⟨k.m.trans h.m,k.aQ.trans h.aQ,k.bM.trans h.bM,k.dB.trans h.dB,k.gR.trans h.gR,k.tc.trans h.tc,k.bQ.trans h.bQ⟩
def SW{f}:∀(n:Q) {k z:Lk} {L o:KV} {l r:Zl},t7 n k L l=Y (z,o,r)->ri f k L->ri f z o/\Kp k z
 |0,k,z,L,o,l,r,h,y=>by
  simp only[t7,xj,GV]at h;exact zcl
 |n+1,k,z,L,o,l,r,h,y=>by
  unfold t7 at h;split at h;rename_i x;split at h
  ·rename_i u e q;have a:=y.eG (Wt x) q;let b:=SW n h a.1;exact⟨b.1,a.2.aE b.2⟩
  grind;simp[xj,GV]at h;exact zcl
theorem ϲ{p len a}(ho:ri f k L)(h:Vd k L p len a=Y (z,o)):ri f z o/\Kq k z/\(p≠k.aQ->z.cQ=k.cQ):=by unfold Vd at h;split at h;split at h;rename_i e;cases h;exact⟨⟨ho.m,ho.ml,ho.ep,ho.bF,ho.dX,ho.nd,ho.gT,ho.ks⟩,⟨O,O,O,O,O,O,O⟩,λx=>(x e).elim⟩;grind;cases h;exact⟨ho,⟨O,O,O,O,O,O,O⟩,λ_=>O⟩
def ϵ{x}(ho:ri f k L)(h:mX k L p x=Y (z,o)):ri f z o/\Kq k z/\((p:U)≠k.aQ->z.cQ=k.cQ):=by unfold mX at h;split at h;split at h;cases h;split at h;rename_i q u r y;let a:=SW _ y ho;let b:=ϲ a.1 h;exact⟨b.1,a.2.q.aE b.2.1,λe=>(b.2.2<|a.2.aQ▸e).trans a.2.cQ⟩;grind;grind [ϲ]
structure Lg(w v:Zy)(Z' B:Q)(cs:Za):Prop where
 z:xh v Z' (nZ ao) 258
 l:xh v B cs 258
 n:Nw w v
 hz:V (Z w)<=Z'
 hb:V (Z w)<=B
 ne:Z'≠B
def Lg.ib(h:Lg w v Z' B cs)(y:Nw v v'):Lg w v' Z' B cs:=⟨h.z.y y id,h.l.y y id,h.n.aE y,h.hz,h.hb,h.ne⟩
def Lg.y{y}(h:Lg w v Z' B cs)(x:zj (·=B) v v')(a:xh v' B y 258):Lg w v' Z' B y:=⟨h.z.y x h.ne,a,h.n.cZ h.hb x,h.hz,h.hb,h.ne⟩
def Nl(w:Zy)(o:dD<|Lk×KV)(e:kH)(w':Zy):Prop:=Nw w w'/\match o with
 |some (k,L)=>∃v l G y,e=ai (bY<|LV ao v k l k.cQ G y)/\ff w w' 200 2 kT v (gG L)/\(l=k.aQ\/(l=0/\k.aQ=k.bM/\k.cQ=ao))/\(k.cQ=M->(0<y/\G=k.cY/\0<G)\/(y=0/\k.cY=0))
 |none=>∃v k l t G y,e=ai (bY<|LV M v k l t G y)/\∃a i j,v=aB a i j
structure Du(w W:Zy)(f:Rf)(x y:Lk)(L1:KV)(bs Z' B r:Q)(b:ez)(k:Lk)(L:KV)(s:Zv)(l:U)(t:ez)(g c:U):Prop where
 g2:Lg w W Z' B<|LV b s k l t g c
 sl:∃a i j,s=aB a i j
 rh:b=M->Xr x f.F=R
 lo:b=ao->ow (λi=>jp f.F (i:U)) (bs+1) {y with aQ:=(Z7 f.F bs:U)} L1 r=Y (k,L)
 ok:b=ao->ri f k L/\Kq {y with aQ:=(Z7 f.F bs:U)} k
 st:b=ao->ff w W 200 2 kT s (gG L)
 up:b=ao->Z7 f.F bs=Z7 f.F (bs+r)
 tn:b=ao->t=k.cQ/\(bs+r<Z7 f.F bs->t=ao)
 ls:b=ao->(r=0/\l=0/\t=ao)\/(0<r/\l=((bs+r:Q):U))
 rc:b=ao->k.cQ=M->(0<c/\g=k.cY/\0<g)\/(c=0/\k.cY=0)
def SS(P:ez->Zv->Lk->U->ez->U->U->Zy->Prop)(w:Zy)(e:kH)(w':Zy):Prop:=∃(b:ez) (a:dD Addr) (i c:Q) (k:Lk) (l:U) (t:ez) (g r:U),e=ai (bY<|LV b (aB a i c) k l t g r)/\Nw w w'/\P b (aB a i c) k l t g r w'
def MnQ(w:Zy)(o:dD<|Lk×KV)(b:ez)(s:Zv)(k:Lk)(l:U)(t:ez)(g r:U)(w':Zy):Prop:=(o=R->b=M)/\∀y x,o=Y (y,x)->b=ao/\k=y/\l=0/\t=ao/\ff w w' 200 2 kT s (gG x)
def xC.IR{o e}(h:xC w o e w'):SS (MnQ w o) w e w':=by
 let⟨y,h⟩:=h;cases o with
 |none=>
  exact zdq
 |some q=>let⟨k,L⟩:=q;obtain⟨v,rfl,b⟩:=h;obtain⟨a,c,rfl⟩:=b.dL;exact⟨ao,a,_,c,k,0,ao,0,0,O,y,λe=>Æ,λ_ _ e=>Á⟩
def SQ(S:Zy)(o:dD<|Lk×KV)(n:U)(b:ez)(s:Zv)(k:Lk)(l:U)(t:ez)(g r:U)(w':Zy):Prop:=(o=R->b=M)/\∀y x,o=Y (y,x)->b=ao/\k=y/\l=n/\t=y.cQ/\ff S w' 200 2 kT s (gG x)/\(y.cQ=M->(0<r/\g=y.cY/\0<g)\/(r=0/\y.cY=0))
def BJ.IR{o n e}(h:BJ S o n w e w'):SS (SQ S o n) w e w':=by
 let⟨y,h⟩:=h;cases o with
 |none=>
  exact zdq
 |some q=>let⟨k,L⟩:=q;obtain⟨v,g,r,rfl,b,d⟩:=h;obtain⟨a,c,rfl⟩:=b.dL;exact⟨ao,a,_,c,k,n,k.cQ,g,r,O,y,λe=>Æ,λ_ _ e=>Á⟩
def No(C f n w)(h:Ju w C f)(c:T f.F<=1000000)(g:∀p∈f.F,p.2.1≠[]):aK prog 231 #[zq C,J n] w λe w'=>w'=w/\∃i:U,e=ai (J i)/\(i<0↔jp f.F n=[]):=by refine(Ir C f n w h c).mono λe w' a=>⟨a.1,?_⟩;obtain⟨k,hk,rfl,d,b⟩|⟨rfl,b⟩:=a.2;grind [jp];grind [jp]
structure jeo(C:Q)(f:Rf)(x:Lk)(w:Zy):Prop where
 dI:Ju w C f
 uV:Yq w
 gT:T f.F<=1000000
 fU:∀p∈f.F,p.2.1≠[]
 aD:∀n,T (jp f.F n)<=100000
 bF:f.bF<=1000000
 man:∀w1,Nw w w1->aK prog 230 #[zq C] w1 (xC w1<|Xc x f.F)
 st:∀y L1,Xc x f.F=Y (y,L1)->ri f y L1/\y.cQ=ao/\y.tc=(f.bF:U)/\y.bQ=f.bQ/\∃b:Q,y.bM=(b:U)/\b<4294967296
open Classical in
def zE(w W:Zy)(f:Rf)(y:Lk)(b:ez)(k:Lk)(L:KV)(s:Zv)(l:U)(t:ez)(g c:U):Prop:=(b=M/\Xr y f.F=R)\/(b=ao/\Xr y f.F=(if rp k then Y (k,L)else R)/\t=k.cQ/\k.tc=(f.bF:U)/\k.bQ=f.bQ/\ff w W 200 2 kT s (gG L)/\(l=k.aQ\/(l=0/\k.aQ=k.bM/\k.cQ=ao))/\(k.cQ=M->(0<c/\g=k.cY/\0<g)\/(c=0/\k.cY=0)))
def zE.ib{e a d b}(h:zE w e f d b k L s l t g c)(r:Nw e a):zE w a f d b k L s l t g c:=by obtain h|⟨i,j,m,n,o,p,q⟩:=h;exact aJ h;exact ac ⟨i,j,m,n,o,p.ib r,q⟩
def zE.yes{b o d a}(h:zE w b f o d k L (aB a i j) l t g c)(C:k.tc=(f.bF:U)->k.bQ=f.bQ->rp k)(G:Lg w b Z' B cs)(m:zj (·=Z') b v):Nl w (Xr o f.F) (ai<|bY<|LV d (aB a i j) k l t g c) v:=by let p:=G.n.cZ G.hz m;exists p;obtain⟨rfl,h⟩|⟨rfl,q,rfl,r,s,e,x,y⟩:=h;grind;rw[q,aT<|C r s];exact⟨_,_,_,_,O,e.y m (e.rw.ir G.z Ã) p,x,y⟩
def zE.no{b d e a u}(h:zE w b f d e k L (aB a i j) l t g c)(r:k.tc=(f.bF:U)->k.bQ=f.bQ->¬rp k)(G:Lg w b Z' B cs)(m:zj (·=Z') (ay b (K B 0) u) v):Nl w (Xr d f.F) (ai<|bY<|LV M (aB a i j) k l t g c) v:=by
 exists (G.n.cZ G.hb<|zj.H b (K B 0) u).cZ G.hz m;let:Xr d f.F=R:=by obtain⟨_,h⟩|⟨_,o,_,p,q,_⟩:=h;exact h;grind
 grind
theorem Du.eG{u D v b q d a x y C m z}(h:Du w u f v b L1 bs Z' B q ao k L s l t g c)(hd:Xc v f.F=Y (b,L1)/\b.bM=(bs:U)/\bs<4294967296/\b.tc=(f.bF:U)/\b.bQ=f.bQ)(h1:bs+q<9999)(r:jp f.F ((bs+q+1:Q):U)≠[])(I:Nw u w')(W:SQ w (mX k L (bs+q+1)<|jp f.F ((bs+q+1:Q):U)) ((bs+q+1:Q):U) d (aB a i j) x y C m z w')
  (X:zj (·=B) w' D)(aw:xh D B (LV d (aB a i j) x y C m z) 258):∃L2,Du w D f v b L1 bs Z' B (q+1) d x L2 (aB a i j) y C m z:=by
 let h2:=(h.up O).trans<|IG h1 r;let S:=(IF f.F<|bs+q+1).1;let o:ow (λi=>jp f.F (i:U)) (bs+1) {b with aQ:=(Z7 f.F bs:U)} L1 (q+1)=mX k L (bs+q+1) (jp f.F ((bs+q+1:Q):U)):=by rw[ZU<|h.lo O,show bs+1+q=bs+q+1 by omega]
 let G:=(h.g2.ib I).y X aw;let⟨ho,hk⟩:=h.ok O;let⟨e1,e2,e3,e4,e5⟩:=hd;cases hs:mX k L _ (jp f.F _)with
 |none=>
  have hx:=W.1 hs;subst hx;refine⟨L,G,⟨_,_,_,O⟩,λ_=>?_,λe=>Æ,λe=>Æ,λe=>Æ,λe=>Æ,λe=>Æ,λe=>Æ,λe=>Æ⟩;unfold Xr;rw[e1];simp only;rw[show bL b.bM=bs by omega,show Z7 f.F bs-bs=(q+1)+(Z7 f.F bs-bs-(q+1)) by omega,PZ Á]
 |some p=>let⟨k2,L2⟩:=p;obtain⟨rfl,rfl,rfl,rfl,P,wr⟩:=W.2 k2 L2 hs;let⟨m1,m2,m3⟩:=ϵ ho hs;refine⟨L2,G,⟨_,_,_,O⟩,λe=>Æ,λ_=>o.trans hs,λ_=>⟨m1,hk.aE m2⟩,λ_=>P.y X (P.rw.ir (h.g2.ib I).l Ã) G.n,λ_=>h2,λ_=>⟨O,λe=>?_⟩,λ_=>ac ⟨À,O⟩,λ_=>wr⟩;rw[m3<|by rw[hk.aQ];grind,<-(h.tn O).1];exact(h.tn O).2 À
def Du.EZ{i e a q}(h:Du w i f e a L1 bs Z' B q ao k L s l t g c)(j:Xc e f.F=Y (a,L1)/\a.bM=(bs:U)/\bs<4294967296/\a.tc=(f.bF:U)/\a.bQ=f.bQ)(p:¬(bs+q<9999/\jp f.F ((bs+q+1:Q):U)≠[])):zE w i f e ao k L s l t g c:=by let m:=(h.up O).trans<|Mm p;let⟨y,W,D,x,u⟩:=j;let b:=(h.ok O).2;refine ac ⟨O,?_,(h.tn O).1,b.tc.trans x,b.bQ.trans u,h.st O,?_,h.rc O⟩;unfold Xr;rw[y];simp only;rw[show bL a.bM=bs by omega,show Z7 f.F bs-bs=q by omega,h.lo O];obtain⟨n,d,o⟩|⟨n,d⟩:=h.ls O;exact ac ⟨d,by rw[b.aQ,b.bM];grind,(h.tn O).1▸o⟩;exact aJ<|by rw[d,b.aQ,m]
def xlx(C f h1 w)(h:jeo C f h1 w):aK prog 182 #[zq C] w<|Nl w<|Xr h1 f.F:=by
 have P:=h;clear h;go_enter func182.1,Tryz.ntmps182;go_wp2;have Z1:H<|xh (aF w<|au (nZ ao) 258) (V<|Z w) (nZ ao) 258:=xh.ex _ _ _;have n1:H<|Nw w<|aF w<|au (nZ ao) 258:=zj.E _;unfold nZ at Z1 n1;generalize aF w (au _ 258)=w1 at*;refine(P.man _ n1.o).mono λe hx hp=>?_;obtain⟨d,a,i,c,k,l,t,g,r,rfl,Z',hq⟩:=hp.IR;have HQ:=hq;have N2:=Z';have G:H<|Lg w (aF hx<|au (LV d (aB a i c) k l t g r) 258) (V<|Z w) (V<|Z hx)<|LV d (aB a i c) k l t g r:=by have g':=Z1.o.lt;have es:=Z'.aD;exact⟨(Z1.o.y Z' id).E _,xh.ex _ _ _,(n1.o.aE Z').aE<|zj.E _,zd _,À,À⟩
 obtain⟨j,L1,D,ih⟩:∃(j:Lk) (L1:KV) (D:Q),(Xc h1 f.F=R/\d=M)\/(Xc h1 f.F=Y (j,L1)/\d=ao/\k=j/\l=0/\t=ao/\ff w1 hx 200 2 kT (aB a i c) (gG L1)/\ri f j L1/\j.cQ=ao/\j.tc=(f.bF:U)/\j.bQ=f.bQ/\j.bM=(D:U)/\D<4294967296):=by cases hs:Xc h1 f.F with|none=>exact⟨h1,[],0,aJ ⟨O,hq.1 hs⟩⟩|some q=>let⟨j,L1⟩:=q;let⟨g',es,h2,h4,b,h3,h6⟩:=P.st j L1 hs;let⟨q1,q2,q3,q4,q5⟩:=hq.2 j L1 hs;exact⟨j,L1,b,ac ⟨O,q1,q2,q3,q4,q5,g',es,h2,h4,h3,h6⟩⟩
 obtain⟨kk,b1,HI⟩:∃kk,H (kk.bM=k.bM)/\H (Du w (aF hx<|au (LV d (aB a i c) k l t g r) 258) f h1 j L1 D (V<|Z w) (V<|Z hx) 0 d kk L1 (aB a i c) l t g r):=by obtain⟨g',rfl⟩|⟨g',rfl,rfl,rfl,rfl,es,h2,h4,h3,h6,h7,h8⟩:=ih;exact⟨k,O,G.o,⟨_,_,_,O⟩,λ_=>by unfold Xr;rw[g'],λe=>Æ,λe=>Æ,λe=>Æ,λe=>Æ,λe=>Æ,λe=>Æ,λe=>Æ⟩;refine⟨{k with aQ:=(Z7 f.F D:U)},O,G.o,⟨_,_,_,O⟩,λe=>Æ,λ_=>O,λ_=>⟨⟨h2.m,h2.ml,h2.ep,h2.bF,h2.dX,h2.nd,h2.gT,h2.ks⟩,O,O,O,O,O,O,O⟩,λ_=>(es.bM n1.o).ib<|zj.E _,λ_=>O,λ_=>⟨h4.symm,λ_=>O⟩,λ_=>aJ ⟨O,O,O⟩,λ_ e=>?_⟩;simp_all
 have bi:H<|d=ao->wrap64 (k.bM+1)=(D:U)+1:=by intro e;obtain⟨_,h⟩|⟨_,_,rfl,_,_,_,_,_,_,_,h7,h8⟩:=ih;simp_all;rw[h7];unfold wrap64;omega
 have HS:H<|d=ao->Xc h1 f.F=Y (j,L1)/\j.bM=(D:U)/\D<4294967296/\j.tc=(f.bF:U)/\j.bQ=f.bQ:=by intro e;obtain⟨_,h⟩|⟨g',_,rfl,_,_,_,_,_,h3,h6,h7,h8⟩:=ih;simp_all;simp_all
 clear hp hq Z' ih G HQ;have c6:N (aF hx<|au (LV d (aB a i c) k l t g r) 258) (K (V<|Z hx) 6)=J k.bM:=(xh.ex _ _ _).i 6 O;unfold LV at HI c6⊢;go_wp2;clear c6;generalize wrap64 (k.bM+1)=I at*;have HM:=P.fU;go_loopw [4] (λiv wr=>∃(I:U) (q:Q) (d:ez) (k:Lk) (L:KV) (s:Zv) (l:U) (t:ez) (g c:U),iv=J I/\(d=ao->I=((D+q:Q):U)+1)/\(d=ao->Xc h1 f.F=Y (j,L1)/\j.bM=(D:U)/\D<4294967296/\j.tc=(f.bF:U)/\j.bQ=f.bQ)/\Du w wr f h1 j L1 D (V<|Z w) (V<|Z hx) q d k L s l t g c) (λi _=>bL (10000-bZ i));exact⟨I,0,d,kk,L1,_,l,t,g,r,O,bi.o,HS.o,HI.o⟩;clear HI HS bi b1;obtain⟨I,q,d,k,L,s,l,t,g,c,rfl,g',es,h2⟩:=hrel;have B:=h2;let⟨sa,si,sj,hs⟩:=h2.sl;subst hs;clear h2;have HX:H<|∀wx,Nw w wx->Ju wx C f:=λwx h=>P.dI.y h;by_cases X:d=ao/\I<=9999/\jp f.F I≠[]
 case neg=>
  have HE:H<|zE w wr f h1 d k L (aB sa si sj) l t g c:=by cases d with|true=>exact aJ ⟨O,B.rh O⟩|false=>refine B.EZ (es O) λe=>X ⟨O,?_,?_⟩;grind;grind
  have HG:=B.g2;have bj:H<|d=ao->I<=9999->jp f.F I=[]:=λe1 e2=>jg λe3=>X ⟨e1,e2,e3⟩;clear X g' es B;have b4:=P.bF;have S:=P.dI.y HG.n;have d0:=HG.l.eu;have bh:=λa b:Zl=>show((st a).toList==(st b).toList)=bR (a=b) by grind [xl]
  have bt:=bh k.dX f.bQ;have bu:=bh k.fD f.bQ;clear bh;have b6:IntKind.i64.wrap ((f.bF:U)+1)=(f.bF:U)+1:=Ï
  have br:d=M\/(d=ao/\¬I<=9999)\/(d=ao/\I<=9999/\jp f.F I=[]):=by cases d;by_cases h:I<=9999;exact ac<|ac ⟨O,h,bj.o O h⟩;simp_all;grind
  clear bj;obtain rfl|⟨rfl,h9⟩|⟨rfl,h9,bp⟩:=br
  case' inr.inr=>go_wp2;refine(No C f I _ S P.gT HM).mono ?_;rintro e w5⟨rfl,i5,rfl,h3⟩;have h6:i5<0:=h3.2 bp;clear h3;go_wp2;refine(No C f _ _ S P.gT HM).mono ?_;rintro e w6⟨rfl,i6,rfl,-⟩
  case' inl=>skip
  case' inr.inl=>skip
  all_goals
   have bn:((k.bF:U)=(f.bF:U)/\k.dX=f.bQ)\/((k.bF:U)=(f.bF:U)/\k.dX≠f.bQ)\/((k.bF:U)=(f.bF:U)+1/\k.fD=f.bQ)\/((k.bF:U)=(f.bF:U)+1/\k.fD≠f.bQ)\/(¬(k.bF:U)=(f.bF:U)/\¬(k.bF:U)=(f.bF:U)+1):=by by_cases o:(k.bF:U)=(f.bF:U);by_cases p:k.dX=f.bQ;simp_all;simp_all;by_cases a3:(k.bF:U)=(f.bF:U)+1;by_cases a4:k.fD=f.bQ;simp_all;simp_all;omega
   rename Zy=>wz
   have ho:H<|rp k↔((k.bF:U)=k.tc/\k.dX=k.bQ)\/((k.bF:U)=k.tc+1/\k.fD=k.bQ):=Iff.rfl;obtain⟨o,p⟩|⟨o,p⟩|⟨o,p⟩|⟨o,p⟩|⟨o,p⟩:=bn;focus
    have HF:H<|k.tc=(f.bF:U)->k.bQ=f.bQ->rp k:=λe1 e2=>ho.o.2<|aJ ⟨À,É⟩;rw[jm p]at bt;have p1:((k.bF:U)==(f.bF:U))=M:=ø
    have p2:((k.bF:U)==(f.bF:U)+1)=ao:=Ç
    have n2:¬(k.bF:U)=(f.bF:U)+1:=À
   rotate_left;focus
    have HF:H<|k.tc=(f.bF:U)->k.bQ=f.bQ->¬rp k:=λe1 e2 e=>by obtain⟨_,h⟩|⟨h,_⟩:=ho.o.1 e;exact p<|h.trans e2;omega
    rw[jo p]at bt;have p1:((k.bF:U)==(f.bF:U))=M:=ø
    have p2:((k.bF:U)==(f.bF:U)+1)=ao:=Ç
    have n2:¬(k.bF:U)=(f.bF:U)+1:=À
   rotate_left;focus
    have HF:H<|k.tc=(f.bF:U)->k.bQ=f.bQ->rp k:=λe1 e2=>ho.o.2<|ac ⟨À,É⟩;rw[jm p]at bu;have p1:((k.bF:U)==(f.bF:U))=ao:=Ç
    have n1:¬(k.bF:U)=(f.bF:U):=À
    have p2:((k.bF:U)==(f.bF:U)+1)=M:=ø
   rotate_left;focus
    have HF:H<|k.tc=(f.bF:U)->k.bQ=f.bQ->¬rp k:=λe1 e2 e=>by obtain⟨h,_⟩|⟨_,h⟩:=ho.o.1 e;omega;simp_all
    rw[jo p]at bu;have p1:((k.bF:U)==(f.bF:U))=ao:=Ç
    have n1:¬(k.bF:U)=(f.bF:U):=À
    have p2:((k.bF:U)==(f.bF:U)+1)=M:=ø
   rotate_left;focus
    have HF:H<|k.tc=(f.bF:U)->k.bQ=f.bQ->¬rp k:=λe1 e2 e=>by obtain⟨h,_⟩|⟨h,_⟩:=ho.o.1 e<;>omega
    have p1:((k.bF:U)==(f.bF:U))=ao:=Ç
    have p2:((k.bF:U)==(f.bF:U)+1)=ao:=Ç
    have n1:¬(k.bF:U)=(f.bF:U):=o;have n2:¬(k.bF:U)=(f.bF:U)+1:=p
   rotate_left;all_goals
    first|clear o p|skip
    have e8:N wz (K C 8)=J f.bF:=S.bT.i 8 O;have be:N wz (K C 10)=E f.bQ:=S.bT.i 10 O;go_wp2;go_quiet (fail);have G8:=HG.ib (zj.refl _ _).eL (v':=wz.drewN nq);have C8:=S.y (zj.refl _ _).eL (w':=wz.drewN nq);have E8:H<|zE w (wz.drewN nq) f h1 _ k L (aB sa si sj) l t g c:=HE.o.ib (zj.refl _ _).eL;generalize wz.drewN nq=w8 at*;clear e8 be d0 HG S HE;have d0:=G8.l.eu;have e8:N w8 (K C 8)=J f.bF:=C8.bT.i 8 O;have be:N w8 (K C 10)=E f.bQ:=C8.bT.i 10 O;go_wp2;go_quiet (fail);have aw:=G8.ib (zj.refl _ _).eL (v':=w8.drewN nq);have E9:H<|zE w (w8.drewN nq) f h1 _ k L (aB sa si sj) l t g c:=E8.o.ib (zj.refl _ _).eL;generalize w8.drewN nq=w9 at*;clear e8 be d0 G8 C8 E8;have d0:=aw.l.eu;have d1:=aw.l.gM;have d2:=aw.z.eu;have d3:=aw.z.gM;have bm:¬V (Z w)=V (Z hx):=aw.ne;have b3:¬V (Z hx)=V (Z w):=λe=>bm e.symm;go_wp2;first
     |exact tM aw.z O O O λv hv=>E9.o.yes HF.o aw hv|exact tM (aw.z.y (zj.H w9 (K (V<|Z hx) 0)<|bG M) bm) O O O λv hv=>E9.o.no HF.o aw hv
 case pos=>
  obtain⟨rfl,b5,bo⟩:=X;have bl:=es O;obtain⟨n,Z'⟩:∃n:Q,D+q+1=n:=⟨_,O⟩;obtain rfl:I=(n:U):=Á
  clear g' es;have b2:n<=9999:=À
  have ho:=xe Z';have bb:=bo;have S:=P.dI.y B.g2.n;have bk:H<|∀u:ez,(u=M↔(jp f.F ((n:U)+1)=[]\/n=9999))->u=bR ((n:U)=k.aQ):=by
   intro u w2;have hl:Z7 f.F D=Z7 f.F n:=zdx
   have hd:(n:U)=k.aQ↔Z7 f.F n=n:=by rw[((B.ok O).2.aQ)];show(n:U)=(Z7 f.F D:U)↔_;rw[hl];omega
   have he:Z7 f.F n=n↔(jp f.F ((n:U)+1)=[]\/n=9999):=by constructor;intro e;refine jg λx=>?_;have:=IG (F:=f.F) (n:=n) À λy=>x<|aJ y;grind [IF];grind [Mm]
   cases u;grind;grind
  have bc:H<|∀u W,Nw wr W->(u=M↔(jp f.F ((n:U)+1)=[]\/n=9999))->aK prog 232 #[zq C,bY<|LV ao (aB sa si sj) k l t g c,J n,bG u] W (SS (SQ w (mX k L n<|jp f.F (n:U)) (n:U)) W):=λu W hW w2=>(xbd C f k L _ l t g c n u b2 (bk.o u w2) (P.aD _) bb (by
   have h:=(B.tn O);rw[<-h.1];refine h.2 ?_;have hl:Z7 f.F D=Z7 f.F n:=zdx
   grind [IF]) w W (P.dI.y<|B.g2.n.aE hW) P.gT (P.uV.nw<|B.g2.n.aE hW) (B.ok O).1<|(B.st O).ib hW).mono λe w' h=>h.IR
  unfold LV at bc;have d0:=B.g2.l.eu;have d1:=B.g2.l.gM;clear Z' bo bk;go_wp2;refine(No C f (n:U) _ S P.gT HM).mono ?_;rintro e w5⟨rfl,i5,rfl,h3⟩;have h6:¬i5<0:=λx=>bb<|h3.1 x;clear h3;go_wp2;refine(No C f _ _ S P.gT HM).mono ?_;rintro e w6⟨rfl,i6,rfl,h7⟩;have bf:∃u:ez,(u=M↔(jp f.F ((n:U)+1)=[]\/n=9999))/\((i6<0/\u=M)\/(¬i6<0/\n=9999/\u=M)\/(¬i6<0/\¬n=9999/\u=ao)):=by by_cases o:i6<0;exact⟨M,by simp[h7.1 o],aJ ⟨o,O⟩⟩;by_cases p:n=9999;simp_all;exact⟨ao,by simp only[ja,false_iff,not_or];exact⟨λx=>o<|h7.2 x,p⟩,ac<|ac ⟨o,p,O⟩⟩
  let⟨u,w2,bf⟩:=bf;have bz:=xe w2;clear h7 w2;obtain⟨o,rfl⟩|⟨o,p,rfl⟩|⟨o,p,rfl⟩:=bf;rotate_left;focus
   have a3:((n:U)==9999)=M:=Ç
   clear p
  rotate_left;focus
   have a3:((n:U)==9999)=ao:=Ç
   have a4:¬(n:U)=9999:=À
   have bv:H<|∀ba:Decidable<|i6<0,@bR (i6<0) ba=ao:=λba=>jo o;clear p
  rotate_left;all_goals
   have b0:=xe<|bc.o _ _ (zj.refl _ _) bz.o;clear bc;go_wp2;try rw[bv.o]
   with_reducible refine b0.o.mono ?_
   rintro e w7⟨bx,ax,ix,cx,kx,lx,tx,gx,rx,rfl,bg,bq⟩;have G7:=B.g2.ib bg;have bw:H<|∃L2,Du w _ f h1 j L1 D (V<|Z w) (V<|Z hx) (q+1) bx kx L2 (aB ax ix cx) lx tx gx rx:=B.eG bl (by have:=ho.o;omega) (by rw[ho.o];exact bb) bg (by rw[ho.o];exact bq) (zj.Ni w7)<|xh.zD G7.l;clear d0 d1;have d0:=G7.l.eu;have d1:=G7.l.gM;clear G7 bq bg o;unfold LV;go_wp2;go_roundw;let⟨L2,h⟩:=bw.o;exact⟨(n:U)+1,q+1,bx,kx,L2,_,lx,tx,gx,rx,Å,λ_=>by have:=ho.o;omega,λ_=>bl,h⟩;exact Î
end
def SZ:∀(n:Q) {l y:Zl} {L o:KV},Ag n l y L=Y o->tI L->(∀p∈L,p.1<=y)->tI o/\3*T o<=3*T L+T l/\(rY L->rY o)
 |n,[],y,L,o,h,x,u=>by grind [Ag]|0,a::l,y,L,o,h,x,u=>È
 |n+1,a::l,y,L,o,h,x,u=>by
  unfold Ag at h;split at h;rename_i k v r b;split at h;rename_i hk;have d:∀p∈L,p.1<k:=λp b=>Std.lt_of_le_of_lt (u p b) hk;rw[Ϫ λp b e=>Á]at h;let⟨W,D,X⟩:=SZ n h (Y3.2 ⟨x,List.pairwise_singleton _ _,λp b q c=>Á⟩) λp b=>Á
  grind [Wy,rY];grind;grind
def xen{m a}(h:Y6 m F a=Y L):tI L/\T L<=6000/\rY L:=by
 let⟨b,x,y⟩:=Option.bind_eq_some_iff.1 h;have d:m.gT<=16384:=by
  unfold uE at x;repeat' split at x
  all_goals first|omega|cases x
 unfold vK at y;repeat' split at y
 rename_i e _;let⟨q,u,W⟩:=SZ _ y iV λp c=>by cases c
 grind [Mb,rY];all_goals cases y
theorem tI.gG(h:tI L):gG L=L:=Mo (IJ h.nd) h<|II L
def zve{a}(e:T f.m=32)(h:Xc (ld f.m f.bQ (f.bF:Int) op mp) f.F=Y (a,L1)):ri f a L1/\a.cQ=ao/\a.tc=(f.bF:U)/\a.bQ=f.bQ/\∃b:Q,a.bM=(b:U)/\b<4294967296:=by
 unfold Xc at h;split at h;cases h;exact⟨⟨O,e,Zz _,show 0<4294967296 by decide,show T Yn=32 by decide,List.nodup_nil,Zz _,λp i=>sy⟩,O,O,O,0,O,Ã⟩;split at h;rename_i x;let⟨L,c,d⟩:=zv.1 h;cases d;let⟨q,u,y⟩:=xen c;have g:∀(l:Zl),qi (l.take 4)<4294967296:=λl=>by have c:=AS<|l.take 4;have d:256^T (l.take 4)<=256^4:=J7 Ã Á;omega
 have c8:=(Qy x.gT).j.1;exact⟨⟨O,e,x.S,g _,by show((xR _).take 32).length=32;grind,q.nd,À,y⟩,O,O,O,_,O,g _⟩;grind
def xkx{x}(ho:ri f k L)(h:mX k L p x=Y (z,o))(d:z.cQ=M):(k.cQ=M/\z.cY=k.cY)\/((p:U)=z.aQ/\0<=z.cY/\z.cY<=(T x:Q)):=by
 have a:∀{y:Lk} {q:KV} {n:Q},Vd y q p (T x) n=Y (z,o)->(y.cQ=M/\z.cY=y.cY)\/((p:U)=z.aQ/\0<=z.cY/\z.cY<=(T x:Q)):=λh=>by grind [Vd]
 unfold mX at h;split at h;split at h;cases h;split at h;rename_i y q r u;have b:=SW _ u ho;obtain c|c:=a h;exact aJ ⟨by rw[<-b.2.cQ];grind,c.2.trans b.2.cY⟩;omega;grind;grind
def zun{f y n k L}(ho:ri f k L)(hk:k.cQ=ao):∀(r:Q) {z:Lk} {o:KV},ow y n k L r=Y (z,o)->ri f z o/\Kq k z/\(z.cQ=M->0<=z.cY/\z.cY<=(T (y (bL z.aQ)):Q)/\(n:U)<=z.aQ)
 |0,z,o,h=>by
  cases h;exact⟨ho,⟨O,O,O,O,O,O,O⟩,λe=>Á⟩
 |r+1,z,o,h=>by unfold ow at h;split at h;rename_i W D q;obtain⟨a,g,j⟩:=zun ho hk r q;let⟨u,x,X⟩:=ϵ a h;refine⟨u,g.aE x,λi=>?_⟩;obtain b|⟨b,c,d⟩:=xkx a h i;rw[b.2,x.aQ];grind;grind;grind
def SY(a:T f.m=32)(h:Xr (ld f.m f.bQ (f.bF:Int) op mp) f.F=Y (k,L)):ri f k L/\(k.cQ=M->0<=k.cY/\k.cY<=(T (jp f.F k.aQ):Q)/\k.bM<k.aQ)/\0<=k.bM/\k.bM<4294967296/\k.bM<=k.aQ/\k.aQ<4294967296/\rp k/\k.tc=(f.bF:U):=by
 unfold Xr at h;split at h;cases h;rename_i x L1 u;let⟨G,W,D,g4,b,q,g6⟩:=zve a u;split at h;rename_i k2 L2 X;split at h;rename_i P;cases h;let⟨I,y,r3⟩:=zun (k:={x with aQ:=(Z7 f.F (bL x.bM):U)}) ⟨G.m,G.ml,G.ep,G.bF,G.dX,G.nd,G.gT,G.ks⟩ W _ X;have c:k.bM=(b:U):=y.bM.trans q;have d:k.aQ=(Z7 f.F b:U):=by rw[y.aQ,q];rfl
 have:=IF f.F b;refine⟨I,λe=>?_,À,À,À,À,P,y.tc.trans D⟩;grind;grind;grind
section
attribute[local go_sem] zn zg
def xig(C:Q)(f:Rf)(w:Zy)(h:Ju w C f)(ho:f.gw=M)(c:f.P=[]):aK prog 125 #[zq C] w λe w'=>e=ai (J 0)/\Xf C f w f w':=by
 let⟨a,y,x⟩:=h.ps.dL;have b:N w (K C 11)=bG M:=zaw
 have q:N w (K C 13)=aB a 0 y:=by rw[h.bT.i 13 O];simp[Rf.G,x,c]
 go_enter func125.1,Tryz.ntmps125;go_wp2;try go_quiet (fail)
 try go_wp2
 go_ret;exact⟨O,Xf.nw h<|by grind [zj.refl]⟩
def Dv(f:Rf)(d:Dk)(n:U)(y q:Zl)(x:U)(f':Rf)(D:Dk):Prop:=
 ((f.bF:U)=f.mW/\x=10/\f'=f/\D=d)\/
 (¬(f.bF:U)=f.mW/\f.bU<bO d.L+(T y:U)/\x=9/\f'=f/\D=d)\/
 (¬(f.bF:U)=f.mW/\¬f.bU<bO d.L+(T y:U)/\(d.gu n y).1=ao/\x=12/\D=(d.gu n y).2/\∃v F a k,f'=f.dk v F a k ao)\/
 (¬(f.bF:U)=f.mW/\¬f.bU<bO d.L+(T y:U)/\(d.gu n y).1=M/\x=0/\D=(d.gu n y).2/\∃v F a k,f'=(f.dk v F a k f.gw).BH n q)
def Dv.uo{D:Dk}{n x:U}{y q:Zl}(h:Dv f d n y q x f' D):f'.pv=f.pv/\f'.P=f.P/\f'.sv=f.sv/\f'.L=f.L/\f'.ep=f.ep:=by obtain⟨-,-,rfl,-⟩|⟨-,-,-,rfl,-⟩|⟨-,-,-,-,-,v,F,a,k,rfl⟩|⟨-,-,-,-,-,v,F,a,k,rfl⟩:=h<;>exact⟨O,O,O,O,O⟩
def WrE(C:Q)(f:Rf)(d:Dk)(n:U)(y q:Zl)(w:Zy)(e:kH)(w':Zy):Prop:=∃x f' D,e=ai (J x)/\Xf C f w f' w'/\Tw D f'/\Dv f d n y q x f' D
structure Gq(d:Dk)(f:Rf):Prop where
 tw:Tw d f
 m:T f.m=32
 dX:T f.dX=32
 bF:f.bF<=1000000
 q8:bO d.L<=390000
 sg:0<=f.sg/\f.sg<=1000000000000
 bM:0<=f.bM/\f.bM<=1000000000000
def ϰ(C:Q)(f:Rf)(d:Dk)(y P:Zl)(x:Q)(w:Zy)(h:Ju w C f)(ho:Gq d f)(n:Yq w)(hk:T y=1)(o:T P<=1100):aK prog 186 #[zq C,E y,J x,E P] w<|WrE C f d f.cD.1 (f.cD.2++rn f.m f.dX y x f.op f.bF P) (ua f.m f.dX y x f.op f.bF P) w:=by by_cases b:(f.bF:U)=f.mW;exact(xe6 C f y P x w h b).mono λe p k=>⟨10,f,d,k.1,k.2,ho.tw,aJ ⟨b,O,O,O⟩⟩;refine(xle C f d y P x w h ho.tw n ho.m ho.dX hk o ho.bF b ho.q8 ho.sg ho.bM).mono λe p k=>?_;obtain⟨c,g,i⟩|⟨c,g,i,v,F,a,k,j,l⟩|⟨c,g,i,v,F,a,k,j,l⟩:=k;exact⟨9,f,d,g,i,ho.tw,ac<|aJ ⟨b,c,O,O,O⟩⟩;exact⟨12,_,_,i,j,l,ac<|ac<|aJ ⟨b,c,g,O,O,v,F,a,k,O⟩⟩;exact⟨0,_,_,i,j,l,ac<|ac<|ac ⟨b,c,g,O,O,v,F,a,k,O⟩⟩
def Rf.Ay(f:Rf)(v:Zv):Rf:={f with sv:=v,L:=f.hU,pv:=aB R 0 0,P:=[]}
def Xf.Ay{W:Zy}{v:Zv}(h:Ju w C f)(n:Nw w W)(r:Rw W 200 2 kT v f.hU)(i:∀g,v.ownBlock=Y g->f.sv.ownBlock=Y g\/V (Z w)<=g):Xf C f w (f.Ay v)<|ay (ay W (K C 12) v) (K C 13)<|aB R 0 0:=by
 have y:=h.y n;have b:=zj.H W (K C 12) v;have c:Xf C f w {f with sv:=v,L:=f.hU}<|ay W (K C 12) v:=by refine⟨(n.U λ_=>eT).aE<|b.U λx a=>aJ a,⟨y.bT.H 12 v,y.fs.y b<|y.fs.ir y.bT Ã,r.y b<|r.ir y.bT Ã,y.ps.y b<|y.ps.ir y.bT Ã,h.fn⟩,λx a=>?_⟩;obtain a|a|a|a:=a;exact aJ<|aJ a;exact aJ<|ac<|aJ a;exact(i x a).imp (λe=>ac (ac<|aJ e)) id;exact aJ<|ac<|ac<|ac a
 exact c.aE<|Xf.iR c.dI (zj.refl _ _) (jk _ _ _ _) (zj.refl _ _)<|by intro g d;cases d
def Tw.Ay(t:Tw d f)(v:Zv):Tw d<|f.Ay v:=⟨t.bU,t.gF,t.gL,t.mJ,t.mt,t.fU,t.nx,t.cQ,t.ko⟩
def SyE(C:Q)(f:Rf)(d:Dk)(n:U)(y q:Zl)(w:Zy)(e:kH)(w':Zy):Prop:=∃x f' D,e=ai (J x)/\Dv f d n y q x f' D/\(x≠0->Xf C f w f' w'/\Tw D f')/\(x=0->∃v,Xf C f w (f'.Ay v) w'/\Tw D (f'.Ay v))
def xl9(C:Q)(f:Rf)(d:Dk)(w:Zy)(h:Ju w C f)(hw:Gq d f)(hx:Yq w)(ho:f.gw=M)(wr:f.P≠[])(o:T f.P<=20)(y:∀c∈f.P,qX c)(z:T (Z5 f.P)<=1100)(g':T f.L<=200000000000):aK prog 125 #[zq C] w<|SyE C f d f.cD.1 (f.cD.2++rn f.m f.dX [82] f.ep f.op f.bF (Z5 f.P)) (ua f.m f.dX [82] f.ep f.op f.bF<|Z5 f.P) w:=by
 have l:=h;let⟨a,cap,s⟩:=h.ps.dL;have t:=s;have ba:N w (K C 11)=bG M:=zaw
 have c13:N w (K C 13)=aB a (T f.P) cap:=by rw[h.bT.i 13 O];simp[Rf.G,s]
 have q1:((T f.P:U)==0)=ao:=by simpa using wr
 have D:∀j,Nw w j->N j (K C 13)=aB a (T f.P) cap/\N j (K C 14)=J f.ep:=λj hw=>⟨by rw[(l.y hw).bT.i 13 O];simp[Rf.G,t],(l.y hw).bT.i 14 O⟩;go_enter func125.1,Tryz.ntmps125;go_wp2;have es:=D _<|zj.refl _ _;have b:Nw w w.drew:=(zj.refl _ _).W;go_region_held3 (λj=>N j (K C 13)=aB a (T f.P) cap/\N j (K C 14)=J f.ep) (first|exact es|exact u)
  (first
   |(go_at_call 187;refine(xkk _ f.P o y _<|by have:=(l.y b).ps;rw[t]at this;omega).mono ?_;rintro e w3⟨rfl,W⟩;replace b:=b.aE<|zj.J W;have u:=D _ b)
   |(go_at_call 186;refine(ϰ C f d [82] (Z5 f.P) f.ep _ (l.y b) hw (hx.nw b) O z).mono ?_;rintro e B⟨x,k,G,rfl,q,P,r⟩;have u:N B (K C 13)=aB a (T f.P) cap/\N B (K C 14)=aD bB (f.ep:U):=⟨by rw[q.dI.bT.i 13 O];simp[Rf.G,r.uo,t],by rw[q.dI.bT.i 14 O];simp[Rf.G,r.uo]⟩;have g:=q;have n:=P;have i:=r;clear q P r))
 replace g:Xf C f w k B:=(Xf.nw l b).aE g;by_cases hd:x=0
 case neg=>go_wp2;go_ret;exact⟨x,k,G,O,i,λ_=>⟨g,n⟩,λe=>(hd e).elim⟩
 case pos=>subst hd;go_wp2;refine(P9 C k _ g.dI (by rw[i.uo.c.1];exact g')<|by rw[i.uo.2.1];exact o).mono ?_;rintro e h1⟨v,rfl,I,h2,s⟩;have p:=g.dI.y I;have aw:N h1 (K C 12)=Y k.sv:=p.bT.i 12 O;have S:N h1 (K C 13)=Y k.pv:=p.bT.i 13 O;have X:=p.bT.dS 12;have h3:=p.bT.dS 13;obtain⟨Z',F,rfl⟩:=h2.dL;go_wp2;go_ret;exact⟨0,k,G,O,i,λe=>(e O).elim,λ_=>⟨_,g.aE<|Xf.Ay g.dI I h2 s,n.Ay _⟩⟩
def SR(C:Q)(f:Rf)(w:Zy)(h:Ju w C f)(ho:f.gw=ao):aG 125 #[zq C] w (J 5):=by
 have a:N w (K C 11)=bG ao:=zaw
 go_enter func125.1,Tryz.ntmps125;go_wp2;go_ret;simp
abbrev FL:=bA<|Int×Zl
def ur:U->U->FL->ez
 |_,_,[]=>M|a,r,x::l=>(bR (a<x.1)&&(bR (0<T x.2)&&bR ((T x.2:U)<=r)))&&ur x.1 (r-T x.2) l
def Wc(r:U)(l:FL):ez:=bR (T l<=40)&&ur (-1) r l
def uq(l:FL):Xv:=l.map λx=>(x.1,x.2,(T x.2:Int))
def vm(l:FL):U:=(l.map λx=>(T x.2:Int)).sum
def rs(l:FL):Q->U
 |0=>-1|j+1=>(l[j]?.getD (-1,[])).1
def zzu{l k}(h:k<T l)(r):ur (rs l k) r (l.drop k)=((bR (rs l k<l[k].1)&&(bR (0<T l[k].2)&&bR ((T l[k].2:U)<=r)))&&ur (rs l<|k+1) (r-T l[k].2) (l.drop<|k+1)):=by grind [Zx,ur,rs]
def xj6{l:FL}{k}(h:k<T l):vm (l.take<|k+1)=vm (l.take k)+(T l[k].2:U):=by grind [vm,zp]
def Rf.fJ(f:Rf)(l:FL)(a:U)(f':Rf):Prop:=if f.gw=M then a=4/\f'=f else if Wc f.bU l=ao then a=3/\f'=f else a=0/\∃v,f'={f with fv:=v,F:=uq l}
def jen(C:Q)(f:Rf)(l:FL)(w:Zy)(e:kH)(w':Zy):Prop:=∃a f',e=ai (J a)/\Xf C f w f' w'/\f.fJ l a f'
def Rw.vA{y:Type}{e g v l}{u:y->Zv}(r:Rw w e 1 g v l)(f:∀a,g a=[u a])(c:i<T l){a cap}(d:v=aB a n cap):∃b,a=Y ⟨b,0,R⟩/\N w (K b i)=Y (u l[i]):=by let⟨b,h,q⟩:=r.lp (λx=>Á) c d;grind
structure LdI(w W:Zy)(f:Rf)(l:FL)(v:Zv)(k:Q):Prop where
 ou:ff w W 123 3 mr v<|uq<|l.take k
 ok:ur (-1) f.bU l=ur (rs l k) (f.bU-vm (l.take k)) (l.drop k)
 s0:0<=vm (l.take k)
 s1:vm (l.take k)<=f.bU
 a1:-1<=rs l k
def xlw(C f l nv bv)(hl:T l<=1000000000)(hr:0<=f.bU/\f.bU<=1000000)(hb:∀x∈l,T x.2<=1000000000)(w)(h:Ju w C f)(g:Rw w 3 1 tJ nv (l.map (·.1)))(d:Rw w 9 1 o5 bv (l.map (·.2))):aK prog 122 #[aU<|some ⟨C,0,R⟩,nv,bv] w<|jen C f l w:=by
 let⟨an,cn,hn⟩:=g.dL;let⟨ab,cb,hv⟩:=d.dL;rw[jl]at hn hv;subst hn hv;have hd:=h;have HN:=g;have es:N w ⟨C,11,R⟩=bG f.gw:=h.bT.i 11 O;have c0:N w ⟨C,0,R⟩=aD bB f.bU:=h.bT.i 0 O;cases ho:f.gw;rotate_left
 ·rw[ho]at es;have p:H<|f.fJ l 4 f:=by show Rf.fJ _ _ _ _;unfold Rf.fJ;rw[aT ho];exact⟨O,O⟩
  go_enter func122.1,Tryz.ntmps122;go_wp2;go_ret;exact⟨4,f,O,.refl hd,p.o⟩
 rw[ho]at es;have p:H<|Wc f.bU l=ao->f.fJ l 3 f:=λe=>by grind [Rf.fJ]
 have HG:Wc f.bU l=M->∀v,f.fJ l 0 {f with fv:=v,F:=uq l}:=λe v=>by grind [Rf.fJ]
 by_cases bc:T l<=40;rotate_left
 ·replace p:=xe (p.o<|by grind [Wc]);have i1:(40:U)<(T l:Q):=by omega
  go_enter func122.1,Tryz.ntmps122;go_wp2;go_ret;exact⟨3,f,O,.refl hd,p.o⟩
 have HS:H<|Wc f.bU l=ur (-1) f.bU l:=by show _=_;unfold Wc;rw[jm bc];rfl
 rw[HS.o]at p HG;have i1:¬(40:U)<(T l:Q):=À
 let⟨hr0,hr1⟩:=hr;go_enter func122.1,Tryz.ntmps122;go_wp2;go_loopw [7,8,9] (λs v i wr=>∃k:Q,k<=T l/\i=aD bB k/\s=aD bB (vm<|l.take k)/\LdI w wr f l v k) (λ_ _ i _=>bL (T l-bZ i));exact⟨0,À,O,O,ff.nil _,by simp[vm,rs],by simp[vm],by simp[vm];omega,by simp[rs]⟩;obtain⟨k,hk,rfl,rfl,S⟩:=hrel;have o:=S;have ſ:=hd.y S.ou.nw;have c0:N wr ⟨C,0,R⟩=aD bB f.bU:=ſ.bT.i 0 O;have c3:N wr ⟨C,3,R⟩=Y f.fv:=ſ.bT.i 3 O;have f3:=ſ.bT.dS 3;have bi:=S.s0;have bj:=S.s1;have bg:=S.a1;by_cases b:k<T l
 ·have i1:(k:U)<(T l:Q):=À;have i0:(0:U)<=(k:U):=À
  have bd:k<T (l.map (·.1)):=by rw[jl];exact b
  have ih:k<T (l.map (·.2)):=by rw[jl];exact b
  obtain⟨gn,rfl,e0⟩:=(HN.y o.ou.nw λ_ _=>id).vA (u:=aD bB) (λ_=>O) bd O;obtain⟨gb,rfl,e1⟩:=(d.y o.ou.nw λ_ _=>id).vA (u:=λx=>ak (st x)) (λ_=>O) ih O;rw[Fl]at e0 e1;have h2:H<|ur (-1) f.bU l=_:=o.ok.trans<|zzu b _;have hx:=hb _<|Xk b;have t:H<|rs l (k+1)=l[k].1:=by simp[H,rs,b]
  have c:=xj6 b;have G:H<|uq (l.take<|k+1)=uq (l.take k)++[(l[k].1,l[k].2,(T l[k].2:U))]:=by show _=_;unfold uq;rw[zp b,qz];rfl
  have bh:T (uq<|l.take k)<=40:=by unfold uq;rw[jl,xf];omega
  have B:(k=0/\rs l k= -1)\/∃j:Q,k=j+1/\(j:U)<(T l:Q)/\N wr ⟨gn,j,R⟩=(aD bB<|rs l k):=by
   cases k with
   |zero=>exact aJ ⟨O,O⟩
   |succ j=>
    have hj:j<T (l.map (·.1)):=by rw[jl];omega
    let⟨g2,P,e3⟩:=(HN.y o.ou.nw λ_ _=>id).vA (u:=aD bB) (λ_=>O) hj O;cases P;rw[Fl]at e3;refine ac ⟨j,O,À,e3.trans ?_⟩;grind [rs]
  have y:=o.ou;clear o;generalize rs l k=a at*;generalize vm (l.take k)=q at*;generalize uq (l.take k)=hs at*;generalize l[k].1=n at*;generalize l[k].2=x at*;have m:(n<0\/(¬n<0/\0<k/\n<=a)\/(¬n<0/\(0<k->¬n<=a)/\T x=0)\/(¬n<0/\(0<k->¬n<=a)/\0<T x/\f.bU<q+(T x:U)))\/(¬n<0/\(0<k->¬n<=a)/\0<T x/\¬f.bU<q+(T x:U)):=À
  have h3:=e0;have L:=e1;obtain m|⟨g,d,h1,h4⟩:=m;focus
   have D:H<|ur (-1) f.bU l=ao:=by show _=_;rw[h2.o];obtain h|⟨-,-,h⟩|⟨-,-,h⟩|⟨-,-,-,h⟩:=m;grind;grind;grind;grind
   clear h2 t c G;obtain g|⟨g,d,h1⟩|⟨g,d,h1⟩|⟨g,d,h1,h4⟩:=m;all_goals obtain⟨rfl,P⟩|⟨j,rfl,j1,P⟩:=B
   all_goals
    try replace d:=d À
    try have w2:=jo g
    try have z:((T x:U)==0)=M:=by simp[h1]
    try have z:((T x:U)==0)=ao:=ê
    try have bb:=jo d
    try have j0:(0:U)<(j:U)+1:=À
   all_goals
    first
     |(exfalso;omega)
     |(go_wp2;go_big_quiet (fail);have g':Nw w<|wr.drewN nq:=y.nw.aE (zj.refl _ _).eL;generalize wr.drewN nq=w4 at*;go_wp2;go_ret;exact⟨3,f,O,.nw hd g',p.o D.o⟩)
  have aw:a<n:=by obtain⟨rfl,e⟩|⟨j,rfl,-⟩:=B;omega;omega
  have D:H<|ur (-1) f.bU l=ur (rs l<|k+1) (f.bU-vm (l.take<|k+1)) (l.drop<|k+1)/\0<=vm (l.take<|k+1)/\vm (l.take<|k+1)<=f.bU/\ -1<=rs l (k+1):=by refine⟨?_,by rw[c];omega,by rw[c];omega,by rw[t.o];omega⟩;rw[h2.o,jm aw,jm h1,jm (show(T x:U)<=f.bU-q by omega),c,Int.sub_sub];rfl
  have HQ:∀W,Nw wr W->N W ⟨gn,k,R⟩=aD bB n/\N W ⟨gb,k,R⟩=(ak<|st x):=λW h=>⟨h.i id h3,h.i id L⟩;have hw:H<|vm (l.take<|k+1)=q+(T x:U):=c;clear h2 t c aw h3 L;have w2:=jo g;have z:((T x:U)==0)=ao:=ê
  obtain⟨rfl,P⟩|⟨j,rfl,j1,P⟩:=B;all_goals
   try replace d:=d À
   try have bb:=jo d
   try have j0:(0:U)<(j:U)+1/\(j:U)+1<(T l:Q)/\(0:U)<=(j:U)+1:=À
   go_wp2;go_big_quiet (fail);have g':Nw wr<|wr.drewN nq:=(zj.refl _ _).eL;have I:=y.ib g';have r:=HQ _ g';generalize wr.drewN nq=w4 at*;have HC:H<|mr (n,x,(T x:U))=[aD bB n,ak<|st x,aD bB (T x:U)]:=O;have ba:ff w (aF w4<|au #[aD bB n,ak<|st x,aD bB (T x:U)] 123).drew 123 3 mr _ hs:=I.ib (zj.E _).W;have XA:xh (aF w4<|au #[aD bB n,ak<|st x,aD bB (T x:U)] 123).drew (V<|Z w4) #[aD bB n,ak<|st x,aD bB (T x:U)] 123:=xh.ex w4 _ _;clear e0 e1 P c0 c3 f3 w2 z y I HQ ſ;go_wp2;go_region_law (first|(refine ff.rX CT (n,x,(T x:U)) ba À XA HC.o O (CQ _) O O O O ?_;intro g3 be w6 hR;have Z':=hR;clear hR));all_goals
    go_wp2;go_roundw;exact⟨_,À,Å,by rw[hw.o],by rw[G.o];exact Z',D.o.1,D.o.2.1,D.o.2.2.1,D.o.c⟩;exact Ì
 obtain rfl:k=T l:=À
 have i1:¬(T l:U)<(T l:Q):=À
 have y:=o.ou;have HK:=o.ok;rw[Vl]at HK;rw[jz]at y;have HT:Xf C f w {f with fv:=_,F:=uq l}<|ay wr ⟨C,3,R⟩ _:=Xf.fW hd y;have X:=HG (by rw[HK];rfl);obtain⟨a9,bf,rfl⟩:=y.dL;go_wp2;go_ret;exact⟨0,_,O,HT,X _⟩
def Nk(w:Zy)(v:Zv)(l:FL):Prop:=∃p g y,v=aB p (T l) y/\(l≠[]->p=Y ⟨g,0,R⟩)/\∀i (h:i<T l),N w (K g<|i*2)=J l[i].1/\N w (K g<|i*2+1)=(ak<|st l[i].2)
def zyw(D d v l)(h2:0<=d.bU/\d.bU<=1000000)(hl:T l<=1000000000)(I:∀x∈l,T x.2<=1000000000)(w)(h:Jt w D d)(ho:Nk w v l):
  aH 77 #[zq D,v] w (bG<|Wc d.bU l):=by
 obtain⟨p,g,S,rfl,y,q⟩:=ho;have g':=y;have es:H<|∀W,Nw w W->∀i (h:i<T l),N W (K g<|i*2)=J l[i].1/\N W (K g<|i*2+1)=(ak<|st l[i].2):=λW n i h=>⟨n.i id (q i h).1,n.i id (q i h).2⟩;have ba:=I;have u:N w (K D 0)=J d.bU:=h.bT.i 0 O;clear y q h I;by_cases o:T l<=40;rotate_left
 ·have s:H<|Wc d.bU l=ao:=by show _=_;unfold Wc;rw[jo o];rfl
  have P:(40:U)<(T l:Q):=À
  go_enter func77.1,Tryz.ntmps77;go_wp2;go_ret;exact⟨by rw[s.o];rfl,zj.refl _ _⟩
 have s:H<|Wc d.bU l=ur (-1) d.bU l:=by show _=_;unfold Wc;rw[jm o];rfl
 have P:¬(40:U)<(T l:Q):=À
 obtain⟨C,h3⟩:=h2;go_enter func77.1,Tryz.ntmps77;go_wp2;go_quiet (fail);have aw:H<|Nw w<|w.drewN nq:=(zj.refl _ _).eL;generalize w.drewN nq=w1 at*;clear u P;go_wp2;go_loopw [5,6,18] (λa r i wr=>∃(k:Q) (c:U),k<=T l/\a=J (rs l k)/\r=J c/\i=J k/\Nw w wr/\(0<=c/\c<=1000000)/\H (Wc d.bU l=ur (rs l k) c (l.drop k))) (λ_ _ i _=>bL (T l-bZ i));exact⟨0,_,À,O,O,O,aw.o,⟨C,h3⟩,s⟩;obtain⟨k,c,hk,rfl,rfl,rfl,hd,⟨h0,h1⟩,t⟩:=hrel;have B:=hd;clear hd s;by_cases f:k<T l
 ·have w2:(k:U)<(T l:Q):=À;have i2:(0:U)<=(k:U):=À
  obtain rfl:=g' (λe=>Á);obtain⟨u,Z'⟩:=es.o _ B k f;have b:H<|Wc d.bU l=_:=t.o.trans<|zzu f c;have hx:=ba _<|Xk f;have L:H<|rs l (k+1)=l[k].1:=by simp[H,rs,f]
  clear t;generalize rs l k=a at*;generalize l[k].1=n at*;generalize l[k].2=x at*;have G:H<|Nw w<|aF wr<|au #[J n,E x] 36:=B.aE<|zj.E _;have ih:H<|xh (aF wr<|au #[J n,E x] 36) (V<|Z wr) #[J n,E x] 36:=xh.ex _ _ _;have q:n<=a\/(¬n<=a/\x=[])\/(¬n<=a/\x≠[]/\c<(T x:U))\/(¬n<=a/\x≠[]/\¬c<(T x:U)):=by by_cases z:n<=a;omega;grind
  obtain z|⟨z,j⟩|⟨z,j,X⟩|⟨z,j,X⟩:=q;focus
   have m:H<|Wc d.bU l=ao:=by show _=_;rw[b.o,jo À];rfl
   clear b
  rotate_left;focus
   subst j;have m:H<|Wc d.bU l=ao:=by show _=_;rw[b.o];simp
   have j:((st []).toList==[])=M:=zab
   clear b
  rotate_left;focus
   have m:H<|Wc d.bU l=ao:=by show _=_;rw[b.o,jo (show¬(T x:U)<=c by omega)];simp
   have F:((st x).toList==[])=ao:=by rw[xl];simpa using j
   clear b j
  rotate_left;focus
   have y:0<T x:=Z0.2 j;have m:H<|Wc d.bU l=ur (rs l<|k+1) (c-(T x:U)) (l.drop<|k+1):=by show _=_;rw[b.o,jm (show a<n by omega),jm y,jm (show(T x:U)<=c by omega)];rfl
   have F:((st x).toList==[])=ao:=by rw[xl];simpa using j
   clear b j;go_wp2;exact⟨⟨k+1,_,À,by rw[L.o],O,Å,G.o,À,m⟩,Î⟩
  all_goals
   go_wp2;go_ret;exact⟨by rw[m.o];rfl,G.o⟩
 have w2:¬(k:U)<(T l:Q):=À
 rw[List.drop_of_length_le À]at t;go_wp2;go_ret;exact⟨by rw[t.o];rfl,B⟩
def xeg{P}{t g e:Zt}{L}(f:P.underlying t=Y (.map g e))(h:sH w m L)(y:Zt):∃w',(Builtin.clear_ #[t] y #[fu<|some m]).run P w=dG (cE #[]) w'/\zj (·=m) w w'/\sH w' m []:=by obtain⟨i,a,d,k,b⟩:=h;have c:=(za.1 d).1;refine⟨{w with heap:=aA w.heap m<|.map #[] a},?_,⟨O,O,Â,λj _ l=>Á⟩,_,_,Yv c,by unfold pW;simp,by simp[MapKept.Stamped]⟩;simp[Builtin.clear_,xo f,bN,Yg d,A9 d]
def AA(F:Xv)(l:FL):Xv:=l.foldl (λF x=>ol F x.1 (x.2,T x.2)) F
def xoj(F)(l:FL)(k)(h:k<T l):AA F (l.take<|k+1)=ol (AA F<|l.take k) l[k].1 (l[k].2,T l[k].2):=by grind [AA,zp]
def Dk.fJ(d:Dk)(l:FL):U×Dk:=if Wc d.bU l=M then(0,{d with L:=AA [] l})else(3,d)
def xlv(D d v l)(hr:0<=d.bU/\d.bU<=1000000)(hl:T l<=1000000000)(I:∀x∈l,T x.2<=1000000000)(w)(h:Jt w D d)(hv:Nk w v l):
  aK prog 38 #[zq D,v] w λe w'=>e=ai (aD bB (d.fJ l).1)/\zj (·=d.ay) w w'/\Jt w' D (d.fJ l).2:=by
 have CH:=zyw D d v l hr hl I w h hv;obtain⟨p,g,cap,rfl,hp,hc⟩:=hv;have HD:=h;have HP:=hp;have HC:H (∀W,zj (·=d.ay) w W->∀i (h:i<T l),N W (K g<|i*2)=J l[i].1/\N W (K g<|i*2+1)=(ak<|st l[i].2)):=λW n i hi=>by
  have hg:g≠d.ay:=λe=>by obtain⟨es,c,h1,_⟩:=h.jS;grind [N]
  exact⟨n.i hg (hc i hi).1,n.i hg (hc i hi).2⟩
 clear hr h hp hc I;unfold Dk.fJ;cases hH:Wc d.bU l
 ·rw[hH]at CH;simp only[ja,kB];clear hH;go_enter func38.1,Tryz.ntmps38;go_wp2;refine CH.mono ?_;rintro e w1⟨rfl,q⟩;have HN:=q;clear q;go_wp2;go_ret;exact⟨O,HN.U λ_ x=>x.elim,HD.y HN λ_ _=>id⟩
 rw[hH]at CH;simp only[dY];clear hH;go_enter func38.1,Tryz.ntmps38;go_wp2;refine CH.mono ?_;rintro e w1⟨rfl,q⟩;have b:=HD.y (S:=λ_=>False) q λ_ _=>id;have c1:N w1 (K D 1)=(fu<|some d.ay):=b.bT.i 1 O;obtain⟨w2,hcl,X,hm2⟩:=xeg (P:=prog) yB b.jS 0;have HD2:=Jt.qQ (S:=λ_=>False) b X hm2;have B2:H (zj (·=d.ay) w w2):=(q.U λ_ x=>x.elim).aE X;clear X hm2 q;go_wp2;clear hcl c1;go_loopw [17] (λi wr=>∃k:Q,k<=T l/\i=J k/\zj (·=d.ay) w wr/\Jt wr D {d with L:=AA []<|l.take k}) (λi _=>bL (T l-bZ i));exact⟨0,À,O,B2.o,HD2⟩;obtain⟨k,hk,rfl,I,hd⟩:=hrel;have HB:=I;have y:=hd;clear I hd;by_cases hlt:k<T l
 ·have i1:(k:U)<(T l:Q):=À;have i2:(0:U)<=(k:U):=À
  obtain rfl:=HP (λe=>Á);obtain⟨c0,c1⟩:=HC.o _ HB k hlt;have HT:=xoj [] l k hlt;generalize AA [] (l.take k)=F at*;generalize l[k].1=n at*;generalize l[k].2=x at*;have N1:Nw wr<|aF wr<|au #[J n,E x] 36:=zj.E _;have X1:xh (aF wr<|au #[J n,E x] 36) (V<|Z wr) #[J n,E x] 36:=xh.ex _ _ _;go_wp2;generalize aF wr (au #[J n,E x] 36)=wa at*;have HSC:∀W,Nw wa W->N W (K D 1)=(fu<|some d.ay)/\N W (K (V<|Z wr) 0)=J n/\N W (K (V<|Z wr) 1)=E x:=λW h=>⟨(N1.aE h).i id<|y.bT.i 1 O,h.i id<|X1.i 0 O,h.i id<|X1.i 1 O⟩;have G:D≠d.ay/\V (Z wr)≠d.ay:=⟨λe=>y.Ba e.symm,Jk y.jS.lt⟩;have S0:=HSC _<|zj.refl _ _;clear c0 c1;go_region_held3 (λw'=>N w' (K D 1)=(fu<|some d.ay)/\N w' (K (V<|Z wr) 0)=J n/\N w' (K (V<|Z wr) 1)=E x) (first|exact S0|exact S1|exact S2)
  ((go_at_call 78;refine(Ih x _).mono ?_;rintro e w4⟨rfl,hb4⟩;have N4:Nw wa w4:=(zj.refl _ _).W.aE<|zj.J hb4;have S1:=HSC _ N4;obtain⟨w5,hrun,u,hs5⟩:=W1 (P:=prog) yB fR (y.jS.y (S:=λ_=>False) (N1.aE N4) id) n (x,(T x:U));have S2:=And.intro (u.i G.1 S1.1)<|And.intro (u.i G.2 S1.2.1)<|u.i G.2 S1.2.2))
  have B5:H (zj (·=d.ay) w w5):=(HB.aE<|(N1.aE N4).U λ_ x=>x.elim).aE u;have D5:Jt w5 D {d with L:=AA []<|l.take<|k+1}:=by show Jt _ _ _;rw[HT];exact Jt.qQ (S:=λ_=>False) (d:={d with L:=F}) (y.y (S:=λ_=>False) (N1.aE N4) λ_ _=>id) u hs5
  clear u hs5 hrun S1 S2 S0 hb4;go_wp2;go_roundw;exact⟨k+1,À,Å,B5.o,D5⟩;exact Ì
 have i1:¬(k:U)<(T l:Q):=À
 obtain rfl:k=T l:=À
 rw[jz]at y;go_wp2;go_ret;exact⟨O,HB,y⟩
def Sr.fJ(r:Sr)(l:FL):U×Sr:=if r.sn.isSome then(4,r)else((r.d.fJ l).1,{r with d:=(r.d.fJ l).2})
def xid(B r v l)(y:0<=r.d.bU/\r.d.bU<=1000000)(t:T l<=1000000000)(f:∀x∈l,T x.2<=1000000000)(w)(h:Vq w B r)(k:Nk w v l):
  aK prog 15 #[zq B,v] w λe w'=>e=ai (aD bB (r.fJ l).1)/\Zd B r w (r.fJ l).2 w':=by
 have m:=xlv r.D r.d v l y t f w h.fA k;have i:=h;have z:N w (K B 2)=zq r.D:=h.bT.i 2 O;have b:=h.bT.i 7 O;have j:(r.d.fJ l).2.ay=r.d.ay/\∀x,(r.d.fJ l).2.cN r.D x->r.d.cN r.D x:=by unfold Dk.fJ;cases Wc r.d.bU l;simp_all;exact⟨O,λ_ x=>x⟩
 obtain⟨p,g,o,rfl,-⟩:=k;cases u:r.sn with
 |some s=>
  have a:H<|r.fJ l=(4,r):=zd8
  rw[a.o];have c:N w (K B 7)=zq s.S:=by rw[b];simp[Sr.G,Sr.my,u]
  clear b;go_enter func15.1,Tryz.ntmps15;go_wp2;go_ret;exact⟨O,Zd.nw i<|zj.refl _ _⟩
 |none=>
  have c:N w (K B 7)=aU R:=by rw[b];simp[Sr.G,Sr.my,u]
  have a:H<|r.fJ l=((r.d.fJ l).1,{r with d:=(r.d.fJ l).2}):=zd8
  rw[a.o];clear b a;generalize r.d.fJ l=q at*;go_enter func15.1,Tryz.ntmps15;go_wp2;apply m.mono;rintro e w1⟨rfl,f,W⟩;have n:=Zd.fA i (f.U λ_ x=>ac (aJ x)) W j.1 j.2;go_wp2;go_ret;exact⟨O,n⟩
def Az(L:Xv)(l:bA U):Ze:=l.flatMap λn=>[aD bB n,ak<|st<|jp L n]
def xvq:prog.underlying 33=Y (.slice 36):=(eZ 33).trans Tryz.underlying33
def xtb:∃i,prog.info? 36=Y i/\i.zero=bY #[J 0,ak ⟨#[]⟩]/\i.size=2/\i.bytes=24:=by
 have h:(prog.info? 36).map (λi=>(i.zero,i.size,i.bytes))=Y (Y<|bY #[J 0,ak ⟨#[]⟩],2,24):=Ä
 simp_all
def xlt(D d w)(h:Jt w D d)(hk:rU d.L):
  aK prog 37 #[zq D] w λe w'=>∃v,e=ai v/\w'.ownsRow (V<|Z w) 36 2 v (T (Zk d.L)) (Az d.L<|Zk d.L)/\Nw w w':=by
 let⟨i43,hi,hz0,hz1,hz2⟩:=xtb;have C:=h;have u:=hk;go_enter func37.1,Tryz.ntmps37;go_wp2;apply(LN D d w C u).mono;rintro e w1⟨p,g,ho,rfl,P,X,q,x⟩;have s:Nw w w1:=zj.J x;have g':T (Zk d.L)<=1000000:=by show _<=_;rw[LP];exact u.bF
 go_wp2;go_loopw [3,9] (λv i wr=>∃k:Q,k<=T (Zk d.L)/\i=J k/\wr.ownsRow (V<|Z w1) 36 2 v k (Az d.L<|(Zk d.L).take k)/\Nw w1 wr) (λ_ i _=>bL (T (Zk d.L)-bZ i));exact⟨0,À,O,jk _ _ _ _,zj.refl _ _⟩;obtain⟨k,hk,rfl,a,c⟩:=hrel;obtain⟨es,G,rfl,y⟩:=Wo a;by_cases o:k<T (Zk d.L)
 ·have ba:(k:U)<(T (Zk d.L):Q):=À;have B:=P (λe=>Á);subst B;have W:=(q.y c id) k o;have hd:H<|Az d.L ((Zk d.L).take<|k+1)=Az d.L ((Zk d.L).take k)++[J (Zk d.L)[k],E<|jp d.L (Zk d.L)[k]]:=by show _=_;rw[zp o];unfold Az;rw[Wz];rfl
  have F:=a;have t:=c;generalize Az d.L _=cs at*;generalize(Zk d.L)[k]=n at*;go_wp2;apply(Ei D d n _<|C.y (s.aE t) λ_ _=>id).mono;rintro e S⟨rfl,rfl⟩;have aw:=t.aD;go_wp2_with (apply wpList_append_lies _ O _ _ 33 O w1.heap.size 36 i43 _ 2 24 xvq hi hz0 hz1 hz2 O Ã _ k cs O ?own _ 1 1 [J n,E<|jp d.L n] O O ?nw ?o1 Ã ?m1 ?m2 ?m3 (V (Z S)+1) ?m4)
  case own=>exact F.alloc _
  case m1=>unfold pu;omega
  case m2=>omega
  case m3=>simp;omega
  try case m4=>simp
  case o1=>first|exact⟨rfl,rfl⟩|(intro z b;simp at b;obtain rfl|rfl:=b<;>rfl)
  try case nw=>intro j z b;cases j with|zero=>simp at b;subst b;simp[go_sem,Addr.add]|succ j=>cases j with|zero=>simp at b;subst b;simp[go_sem,Addr.add]|succ j=>simp at b
  intro h1 l h2 f m h3 I;have r:=(zt _ _).grown m Ç<|Cv F;have hx:h2.ownsRow (V<|Z w1) 36 2 (aB (Y ⟨h1,0,R⟩) (k+1) l) (k+1)<|Az d.L<|(Zk d.L).take<|k+1:=by rw[hd.o];simpa using f
  go_wp2;go_roundw;exact⟨k+1,À,Å,hx,(t.aE<|zj.E _).mV r⟩;exact Ì
 obtain rfl:k=T (Zk d.L):=À
 rw[jz]at a;go_wp2;go_ret;exact⟨_,O,FQ a s.aD,s.aE c⟩
def xic(B r w)(h:Vq w B r)(hk:rU r.d.L):
  aK prog 13 #[zq B] w λe w'=>∃v,e=ai v/\w'.ownsRow (V<|Z w) 36 2 v (T (Zk r.d.L)) (Az r.d.L<|Zk r.d.L)/\Nw w w':=by
 have a:=xlt r.D r.d w h.fA hk;have b:N w (K B 2)=zq r.D:=h.bT.i 2 O;go_enter func13.1,Tryz.ntmps13;go_wp2;refine a.mono ?_;rintro e w1⟨v,rfl,c⟩;go_wp2;go_ret;simp_all
end
section
attribute[local go_sem] zn zg CI vD
def Rf.iB(f:Rf)(k:Lk):Rf:={f with op:=f.op+1,bF:=k.bF,bQ:=k.dX}
def Lk.sg(k:Lk):U:=if k.aQ<=k.bM then 0 else k.aQ
def Rf.rj(f:Rf)(k:Lk)(s:Zv)(L:KV):Rf:={f with gw:=M,sv:=s,L:=L,pv:=aB R 0 0,P:=[],ep:=k.ep,dX:=k.dX,bM:=k.bM,sg:=k.sg,bC:=0,dB:=k.dB}
def SP(f:Rf)(d:Dk)(o:dD<|Lk×KV)(a:U)(f':Rf):Prop:=match o with
 |none=>a=11/\f'={f with op:=f.op+1}
 |some (k,L)=>Tw (Zb k d).2.2 f'/\∃v F b n,((Zb k d).1=M/\a=0/\∃s,f'=((f.iB k).dk v F b n ao).rj (Zb k d).2.1 s (gG L))\/((Zb k d).1=ao/\a=12/\f'=(f.iB k).dk v F b n ao)
def ye(f:Rf)(d:Dk)(o:dD<|Lk×KV)(a:U)(f':Rf):Prop:=if f.gw=M then a=4/\f'=f else if f.op=999 then a=10/\f'=f else SP f d o a f'
def ϫ(C:Q)(f:Rf)(d:Dk)(o:dD<|Lk×KV)(w:Zy)(e:kH)(w':Zy):Prop:=∃a f',e=ai (J a)/\Xf C f w f' w'/\ye f d o a f'
def Rf.fg(h:Ju w C f){x}(hx:f.cN C x):x<V (Z w):=by obtain rfl|hx|hx|hx:=hx;exact h.bT.lt;exact(h.fs.lt x hx).2;exact(h.ss.lt x hx).2;exact(h.ps.lt x hx).2
theorem E3(k):∀(y:bA U) (d:Dk),tH k y d=Yc (Ej k) y d
 |[],d=>rfl|n::y,d=>by unfold tH Yc;rw[E3 k y,E3 k y]
theorem zv4(k)(h:0<=k.bM):Ej k=oU k.gR (k.bM+1) k.sg:=funext λn=>by grind [Ej,oU,Lk.sg]
def zw2(k d)(h:0<=k.bM):Wd k d=((Yc (oU k.gR (k.bM+1) k.sg) (Zk d.L) d).1,k,(Yc (oU k.gR (k.bM+1) k.sg) (Zk d.L) d).2):=by grind [Wd,E3,zv4]
def xj7(a:k.cQ=M)(b:0<k.cY):Zb k d=if(d.put k.aQ<|(jp d.L k.aQ).take (bL k.cY)).1=M then Wd k (d.put k.aQ<|(jp d.L k.aQ).take (bL k.cY)).2 else(ao,k,(d.put k.aQ<|(jp d.L k.aQ).take (bL k.cY)).2):=by unfold Zb Dk.put;rw[aT ⟨a,b⟩];cases d.cS<;>rfl
def xj8(a:k.cQ=M)(b:k.cY=0):Zb k d=if(d.put k.aQ []).1=M then Wd {k with aQ:=k.aQ-1} (d.put k.aQ []).2 else(ao,k,(d.put k.aQ []).2):=by unfold Zb;rw[aL À,aT a,d.vM];grind
def ϳ(a:k.cQ=ao):Zb k d=Wd k d:=by grind [Zb]
def Ϯ{n x}(hx:T x<=T (jp d.L n))(h:(d.put n x).1=M):bO (d.put n x).2.L<=bO d.L:=by grind [Dk.put,yP]
def Tw.rj(h:Tw d f)(k s L):Tw d<|f.rj k s L:=⟨h.bU,h.gF,h.gL,h.mJ,h.mt,h.fU,h.nx,h.cQ,h.ko⟩
def Tw.iB(h:Tw d f)(k):Tw d<|f.iB k:=⟨h.bU,h.gF,h.gL,h.mJ,h.mt,h.fU,h.nx,h.cQ,h.ko⟩
def Xf.rj{c}(t:Xf C c S f w)(b:zj (·=C) w w')(e:xh w' C (f.rj k s L).G 83)(d:Rw w 200 2 kT s L)(i:∀g,s.ownBlock=Y g->V (Z S)<=g):Xf C c S (f.rj k s L) w':=by have h:=t.dI;refine⟨t.y.aE<|b.U λx a=>aJ a,⟨e,h.fs.y b<|h.fs.ir h.bT Ã,d.y b<|d.ir h.bT Ã,jk _ _ _ _,h.fn⟩,λx a=>?_⟩;obtain a|a|a|a:=a;exact aJ<|aJ a;exact t.cN x<|ac<|aJ a;exact ac<|i x a;cases a
def Xf.Dx{b d}(t:Xf C d S f w)(h:V (Z S)<=b)(c:¬f.cN C b)(k:zj (·=b) w w'):Xf C d S f w':=
 ⟨t.y.ib k λy i=>i▸h,⟨t.dI.bT.y k λe=>c<|aJ e.symm,t.dI.fs.y k λg a e=>c<|ac<|aJ<|e▸a,t.dI.ss.y k λg a e=>c<|ac<|ac<|aJ<|e▸a,t.dI.ps.y k λg a e=>c<|ac<|ac<|ac<|e▸a,t.dI.fn⟩,t.cN⟩
def zj.SV(x){r a b c d e f g h i k l o p q s}:zj (·=r) x<|ay (ay (ay (ay (ay (ay (ay (ay (ay x (K r j) a) (K r k) b) (K r l) c) (K r m) d) (K r n) e) (K r o) f) (K r p) g) (K r q) h) (K r s) i:=by
 iterate 9 refine zj.aE ?_<|zj.H _ (K r _) _
 exact zj.refl _ _
structure Nj(C b:Q)(f:Rf)(d:Dk)(k:Lk)(L:KV)(s:Zv)(w W:Zy)(y:Lk)(D:Dk)(x:Rf)(l G q:U):Prop where
 Ϭ:Xf C f w x W
 f3e:∃v F a n,x=(f.iB k).dk v F a n ao
 tw:Tw D x
 q8:bO D.L<=400000
 men:Zb k d=Wd y D
 lb:xh W b (LV ao s k l k.cQ G q) 258
 ex:V (Z w)<=b
 st:Rw W 200 2 kT s<|gG L
 sn:∀g,s.ownBlock=Y g->V (Z w)<=g/\¬x.cN C g
 no:¬x.cN C b
 ls:l=y.aQ\/(l=0/\y.aQ<=y.bM)
 kb:y.bM=k.bM/\y.gR=k.gR/\y.ep=k.ep/\y.dX=k.dX/\y.dB=k.dB
def xhw(C:Q)(f:Rf)(d:Dk)(op:U)(mp:Q)(w:Zy)(h:Ju w C f)(ht:Tw d f)(hu:bO d.L<=400000)(hm:T f.m=32)(hop:f.op<=999)(hz:∀n,T (jp f.F n)<=100000)(bf:∀w1,Ju w1 C {f with op:=f.op+1}->Nw w w1\/zj (·=C) w w1->aK prog 182 #[zq C] w1 (Nl w1<|Xr (ld f.m f.bQ (f.bF:U) op mp) f.F)):aK prog 123 #[zq C] w<|ϫ C f d (Xr (ld f.m f.bQ (f.bF:U) op mp) f.F) w:=by
 have HH:=h;have HT:=ht;have HU:=hu;have bg:=bf;have HZ:=hz;have bj:N w (K C 11)=bG f.gw:=h.bT.i 11 O;have c9:N w (K C 9)=J f.op:=h.bT.i 9 O;have f9:=h.bT.dS 9;let⟨o,hq⟩:=JP<|Xr (ld f.m f.bQ (f.bF:U) op mp) f.F;rw[hq]at bg⊢;cases ho:f.gw;rotate_left
 ·rw[ho]at bj;have HA:H<|ye f d o 4 f:=by show ye _ _ _ _ _;unfold ye;rw[aT ho];exact⟨O,O⟩
  clear h ht hu bf hz hq;go_enter func123.1,Tryz.ntmps123;go_wp2;go_ret;exact⟨4,f,O,.refl HH,HA.o⟩
 rw[ho]at bj;by_cases wr:f.op=999
 ·have i9:(f.op:U)=999:=À;have HA:H<|ye f d o 10 f:=by show ye _ _ _ _ _;unfold ye;rw[aL<|by simp[ho],aT wr];exact⟨O,O⟩
  rw[i9]at c9;clear h ht hu bf hz hq wr i9;go_enter func123.1,Tryz.ntmps123;go_wp2;go_ret;exact⟨10,f,O,.refl HH,HA.o⟩
 have i9:¬(f.op:U)=999:=À
 have HA:H<|∀a f',SP f d o a f'->ye f d o a f':=λa f' x=>by grind [ye]
 have T1:H<|Xf C f w {f with op:=f.op+1}<|ay w (K C 9)<|J<|(f.op:U)+1:=Xf.H h 9 (J (f.op+1:Q)) O O O O;have B1:H (zj (·=C) w<|ay w (K C 9)<|J<|(f.op:U)+1):=zj.H w (K C 9) _;have HO:=ho;clear h ht hu bf hz wr ho;go_enter func123.1,Tryz.ntmps123;go_wp2;generalize ay w (K C 9) (J<|(f.op:U)+1)=w1 at*;refine(bg w1 T1.o.dI<|ac B1.o).mono λe w2 hp=>?_;clear bj c9 f9 i9 bg;cases o with
 |none=>
  obtain⟨hn,v,k,l,t,g,r,rfl,a,i,j,rfl⟩:=hp;have HN:=hn;clear hn hq;unfold LV;go_wp2;go_ret;exact⟨11,_,O,T1.o.aE<|.nw T1.o.dI<|HN.aE<|zj.E _,HA.o _ _ ⟨O,O⟩⟩
 |some q=>
  obtain⟨k,L⟩:=q;obtain⟨hn,v,l,B,recs,rfl,hO,hl,hr⟩:=hp;obtain⟨a,c,rfl⟩:=hO.dL;obtain⟨-,tn,b0,b1,b2,b3,-⟩:=SY hm hq;have bd:H<|∀a f',Tw (Zb k d).2.2 f'->(∃v F b n,((Zb k d).1=M/\a=0/\∃s,f'=((f.iB k).dk v F b n ao).rj (Zb k d).2.1 s (gG L))\/((Zb k d).1=ao/\a=12/\f'=(f.iB k).dk v F b n ao))->ye f d (Y (k,L)) a f':=λa f' G X=>HA.o a f' ⟨G,X⟩;have X3:H<|xh (aF w2<|au (LV ao (aB a (T (gG L)) c) k l k.cQ B recs) 258) (V<|Z w2) (LV ao (aB a (T (gG L)) c) k l k.cQ B recs) 258:=xh.ex _ _ _;have N3:H<|Nw w1<|aF w2<|au (LV ao (aB a (T (gG L)) c) k l k.cQ B recs) 258:=hn.aE<|zj.E _;have hs:=hO.ib<|zj.E (w:=w2)<|au (LV ao (aB a (T (gG L)) c) k l k.cQ B recs) 258;have bt:V (Z w1)<=V (Z w2):=hn.aD;unfold LV at X3 N3 hs⊢;clear hn hO hq HA;go_upto_region 7 with fail
  generalize V (Z w2)=b at*;generalize aF w2 (au _ 258)=w3 at*;have A3:=T1.o.dI.y N3.o;have bs:¬b=C:=by have:=T1.o.dI.bT.lt;omega
  have cf:¬C=b:=λe=>bs e.symm;have c8:=A3.bT.i (v:=J f.bF) 8 O;have bi:=A3.bT.i (v:=E f.bQ) 10 O;have f8:=A3.bT.dS 8;have bk:=A3.bT.dS 10;have t4:=Xf.H (f':={f with op:=f.op+1,bF:=k.bF}) A3 8 (J k.bF) O O O O;have T5:H<|Xf C f w (f.iB k)<|ay (ay w3 (K C 8)<|J k.bF) (K C 10)<|E k.dX:=(T1.o.aE<|.nw T1.o.dI N3.o).aE<|t4.aE<|Xf.H (f':=f.iB k) t4.dI 10 (E k.dX) O O O O;have b5:zj (·=C) w3<|ay (ay w3 (K C 8)<|J k.bF) (K C 10)<|E k.dX:=zj.wt w3;have X5:=X3.o.y b5 bs;have R5:=hs.rw.y b5 (hs.rw.ir A3.bT Ã);have S5:H<|∀g,(aB a (T (gG L)) c).ownBlock=Y g->V (Z w)<=g:=λg D=>xa T1.o.y.aD<|hs.ex g D;have NB:H<|V (Z w)<=b:=xa T1.o.y.aD bt;have e3:=X3.o.eu;clear t4 b5 A3 N3 hs X3 bt T1 B1;have hx:(k.cQ=M/\0<recs/\B=k.cY/\0<B/\l=k.aQ)\/(k.cQ=M/\recs=0/\k.cY=0/\l=k.aQ)\/k.cQ=ao:=by
   cases htn:k.cQ with
   |false=>simp
   |true=>
    have bv:l=k.aQ:=hl.elim id λh=>É
    obtain⟨G,X,h3⟩|⟨G,X⟩:=hr htn;exact aJ ⟨O,G,X,h3,bv⟩;exact ac<|aJ ⟨O,G,X,bv⟩
  clear hr;obtain⟨G,X,h3,h4,h5⟩|⟨G,X,h3,h5⟩|G:=hx;focus
   obtain⟨h2,rfl⟩:∃h2:Q,B=(h2:U):=⟨bL B,À⟩;subst h5;have cd:=tn G;have es:=xj7 (d:=d) G À;rw[<-h3,Int.toNat_natCast]at es;have cp:(h2:U)<=(T (jp f.F k.aQ):Q):=À
   rw[G]at e3;clear h3 cd tn;go_wp2;generalize(ay (ay w3 (K C 8)<|J k.bF) (K C 10)<|E k.dX)=w5 at*;clear e3 c8 bi f8 bk;have HS:H<|∀y,Nw w5 y->N y (K b 9)=J k.aQ/\N y (K b 11)=J h2:=λy h=>⟨(X5.y h id).i 9 O,(X5.y h id).i 11 O⟩;have S0:=HS.o _<|zj.refl _ _;have ND:H<|Nw w5 w5.drew:=(zj.refl _ _).W;have S1:=HS.o _ ND.o;have bu:jp (f.iB k).F k.aQ=jp d.L k.aQ:=HT.wO k.aQ;have g1:(0:U)<=(h2:U):=À
   have g2:(h2:U)<=(T (jp d.L k.aQ):Q):=by rw[<-HT.wO];omega
   have CB:H<|∀y,Nw w5 y->aK prog 184 #[zq C,J k.aQ] y λe ce=>ce=y/\e=ai (E<|jp d.L k.aQ):=λy h=>by rw[<-bu];exact LS C (f.iB k) k.aQ y (T5.o.dI.y h)<|by have G:=wQ HT.gF.ne;rw[HT.wP]at G;have:=HU;show T f.F<=_;omega
   have b8:H<|T (jp d.L k.aQ)<=100000:=by rw[<-HT.wO];exact HZ _
   clear bu;have CP:H<|∀y,Nw w5 y->aK prog 183 #[zq C,J k.aQ,E<|(jp d.L k.aQ).take h2] y (qZ C (f.iB k) (d.put k.aQ<|(jp d.L k.aQ).take h2) y):=λy h=>Md C (f.iB k) d k.aQ _ y (T5.o.dI.y h) (HT.iB k) HU ⟨À,À⟩ (by rw[xf];have:=b8.o;omega);have bp:H<|∀y I hd,Nw w5 y->Xf C (f.iB k) y hd I->xh I b _ 258:=λy I hd h X=>(X5.y h id).y X.y λx=>zaq
   generalize hxe:jp d.L k.aQ=x at*;have b7:=xe hxe;clear hxe;go_region_held3 (λy=>N y (K b 9)=J k.aQ/\N y (K b 11)=J h2) (first|exact S0|exact S1|exact S2)
    (first
     |(go_at_call 184;refine(CB.o _ ND.o).mono ?_;rintro e I⟨rfl,rfl⟩)
     |(go_at_call 183;refine(CP.o _ ND.o).mono ?_;rintro e I⟨rfl,v6,F6,a6,n6,g',ih⟩;have X6:=xe<|bp.o _ _ _ ND.o g';have S2:=And.intro (X6.o.i (v:=aD bB k.aQ) 9 O)<|X6.o.i (v:=aD bB (h2:U)) 11 O))
   clear S2
   rename I.cell? (K b 9)=J k.aQ/\N I (K b 11)=J h2=>hHe
   clear hHe;have e1:(f.iB k).gw=ao:=HO;rw[e1,Fm]at g' ih;have T6:=xe<|((T5.o.aE<|.nw T5.o.dI ND.o).aE g');have NO:H<|∀g,V (Z w)<=g->g<V (Z w5)->¬((f.iB k).dk v6 F6 a6 n6 ao).cN C g:=λg G X x=>by obtain h|h:=g'.cN g x;have:=Rf.fg HH h;omega;have h:V (Z w5)<=g:=h;omega
   have XL:H (b<V (Z w5)/\∀g,(aB a (T (gG L)) c).ownBlock=Y g->g<V (Z w5)):=⟨X5.lt,λg D=>(R5.lt g D).2⟩;have R6:=xe ((R5.y ND.o λ_ _=>id).y g'.y λg D x=>zan);have bw:=Ϯ (d:=d) (n:=k.aQ) (x:=x.take h2);have bb:H<|(d.put k.aQ<|x.take h2).1=M->bO (d.put k.aQ<|x.take h2).2.L<=400000:=λe=>Yx (bw (by rw[b7.o,xf];omega) e) HU;have aw:=xe ih;clear g' ih bw e1 S0 S1 HS bp CB CP ND T5 R5;generalize d.put k.aQ (x.take h2)=pr at*;obtain⟨bo,h1⟩:=pr;cases bo
   ·have Z':H<|Zb k d=(ao,k,h1):=es;go_wp2;go_ret;exact⟨12,_,O,T6.o,bd.o _ _ (by rw[Z'.o];exact aw.o) ⟨v6,F6,a6,n6,ac ⟨by rw[Z'.o],O,O⟩⟩⟩
   let⟨hd,p⟩:=JP<|(f.iB k).dk v6 F6 a6 n6 ao;have u:H<|Nj C b f d k L (aB a (T (gG L)) c) w I k h1 hd k.aQ (h2:U) recs:=⟨p▸T6.o,⟨v6,F6,a6,n6,p.symm⟩,p▸aw.o,bb.o O,es,X6.o,NB.o,R6.o,λg D=>⟨S5.o g D,p▸NO.o g (S5.o g D) (XL.o.2 g D)⟩,p▸NO.o b NB.o XL.o.1,aJ O,O,O,O,O,O⟩;go_upto_region 19 with fail
   clear X6 aw T6 R6 bb es p
  rotate_left;focus
   subst h5;have es:=xj8 (d:=d) G h3;rw[G]at e3;subst X;have CP:H<|∀y,Ju y C (f.iB k)->aK prog 183 #[zq C,J k.aQ,ak ⟨#[]⟩] y (qZ C (f.iB k) (d.put k.aQ []) y):=λy h=>Md C (f.iB k) d k.aQ [] y h (HT.iB k) HU ⟨À,À⟩ Â;have HK:=xe G;clear h3 tn G;go_wp2;refine(CP.o _ T5.o.dI).mono ?_;rintro e I⟨rfl,v6,F6,a6,n6,g',ih⟩;have e1:(f.iB k).gw=ao:=HO;rw[e1,Fm]at g' ih;have T6:=xe<|T5.o.aE g';have NO:H<|∀g,V (Z w)<=g->g<V (ay (ay w3 (K C 8)<|J k.bF) (K C 10)<|E k.dX).heap->¬((f.iB k).dk v6 F6 a6 n6 ao).cN C g:=λg G X x=>by obtain h|h:=g'.cN g x;have:=Rf.fg HH h;omega;omega
   have bh:=xe<|NO.o b NB.o X5.lt;have bq:H<|∀g,(aB a (T (gG L)) c).ownBlock=Y g->¬((f.iB k).dk v6 F6 a6 n6 ao).cN C g:=λg D=>NO.o g (S5.o g D) (R5.lt g D).2;have X6:=xe (X5.y g'.y λx=>zaq);have R6:=xe (R5.y g'.y λg D x=>zan);have bb:H<|(d.put k.aQ []).1=M->bO (d.put k.aQ []).2.L<=400000:=λe=>Yx (Ϯ Â e) HU;have aw:=xe ih;clear g' ih e1 CP T5 R5 X5 e3 c8 bi f8 bk NO;have e6:=X6.o.i (v:=J k.aQ) 9 O;have g6:=X6.o.dS 9;have bx:=zj.H I (K b 9)<|J<|k.aQ-1;have T7:=xe<|T6.o.Dx NB.o bh.o bx;generalize d.put k.aQ []=pr at*;obtain⟨bo,h1⟩:=pr;cases bo
   ·have Z':H<|Zb k d=(ao,k,h1):=es;clear bx;go_wp2;go_ret;exact⟨12,_,O,T7.o,bd.o _ _ (by rw[Z'.o];exact aw.o) ⟨v6,F6,a6,n6,ac ⟨by rw[Z'.o],O,O⟩⟩⟩
   let⟨hd,p⟩:=JP<|(f.iB k).dk v6 F6 a6 n6 ao;have u:H<|Nj C b f d k L (aB a (T (gG L)) c) w (ay I (K b 9)<|J<|k.aQ-1) {k with aQ:=k.aQ-1} h1 hd (k.aQ-1) B 0:=⟨p▸T7.o,⟨v6,F6,a6,n6,p.symm⟩,p▸aw.o,bb.o O,es,X6.o.H 9 _,NB.o,R6.o.y bx<|R6.o.ir X6.o Ã,λg D=>⟨S5.o g D,p▸bq.o g D⟩,p▸bh.o,aJ O,O,O,O,O,O⟩;clear bx;go_upto_region 19 with fail
   clear X6 aw T6 T7 R6 bb es p e6 g6 bh bq;generalize ay I (K b 9) (J<|k.aQ-1)=I at*
  rotate_left;focus
   have es:=ϳ (d:=d) G;rw[G]at e3;let⟨hd,p⟩:=JP<|(f.iB k).dk f.fv f.F f.nE f.ko ao;have bc:f.iB k=hd:=by rw[<-p,<-HO];rfl
   have u:H<|Nj C b f d k L (aB a (T (gG L)) c) w (ay (ay w3 (K C 8)<|J k.bF) (K C 10)<|E k.dX) k d hd l B recs:=⟨bc▸T5.o,⟨_,_,_,_,p.symm⟩,bc▸HT.iB k,HU,es,X5,NB.o,R5,λg D=>⟨S5.o g D,bc▸λx=>zan⟩,bc▸λx=>zaq,hl.imp id λh=>⟨h.1,À⟩,O,O,O,O,O⟩;clear p bc G tn;go_upto_region 19 with fail
   clear X5 T5 R5 es e3 c8 bi f8 bk;generalize(ay (ay w3 (K C 8)<|J k.bF) (K C 10)<|E k.dX)=I at*
  all_goals
   obtain⟨P,h1,l9,g9,r9,u⟩:∃P h1 l9 g9 r9,H<|Nj C b f d k L (aB a (T (gG L)) c) w I P h1 hd l9 g9 r9:=⟨_,_,_,_,_,u⟩;obtain⟨k1,k2,k3,k4,k5⟩:=u.o.kb;have ba:H<|Zb k d=((Yc (oU k.gR (k.bM+1) P.sg) (Zk h1.L) h1).1,P,(Yc (oU k.gR (k.bM+1) P.sg) (Zk h1.L) h1).2):=by show _=_;rw[u.o.men,zw2 P h1 À,k1,k2]
   have cb:(l9<=k.bM/\P.sg=0)\/(¬l9<=k.bM/\P.sg=l9):=by have ca:=u.o.ls;unfold Lk.sg;rw[k1]at ca⊢;split<;>omega
   have be:H<|P.ep=k.ep/\P.dX=k.dX/\P.dB=k.dB/\P.bM=k.bM:=⟨k3,k4,k5,k1⟩;have S:=u.o.lb;unfold LV at S;have e6:=S.eu;have g6:=S.dS 9;have CC:H<|∀y,Ju y C hd->aK prog 185 #[zq C,J k.gR,J<|k.bM+1,J P.sg] y (qZ C hd (Yc (oU k.gR (k.bM+1) P.sg) (Zk h1.L) h1) y):=λy h=>ġ C hd h1 k.gR (k.bM+1) P.sg y h u.o.tw u.o.q8;have cc:IntKind.i64.wrap (k.bM+1)=k.bM+1:=Ï
   clear k1 k2 k3 k4 k5 hl;obtain⟨w7,H7⟩:∃w7,H<|w7=w7:=⟨I,O⟩;obtain⟨h8,wr⟩|⟨h8,wr⟩:=cb;focus
    have bx:=zj.H I (K b 9)<|J 0;have T7:=xe<|u.o.Ϭ.Dx u.o.ex u.o.no bx;have X7:H<|xh (ay I (K b 9)<|J 0) b (LV ao (aB a (T (gG L)) c) k P.sg k.cQ g9 r9) 258:=by rw[wr];exact S.H 9 _
    have R7:=xe (u.o.st.y bx<|u.o.st.ir S Ã);rw[wr]at CC;have H9:=xe wr;clear bx S wr;go_wp2;generalize ay I (K b 9) (J 0)=w8 at*;refine(CC.o _ T7.o.dI).mono ?_;rw[<-H9.o]
   rotate_left;focus
    have T7:=xe u.o.Ϭ;have X7:H<|xh I b (LV ao (aB a (T (gG L)) c) k P.sg k.cQ g9 r9) 258:=by rw[wr];exact u.o.lb
    have R7:=xe u.o.st;rw[wr]at CC;have H9:=xe wr;clear S wr;go_wp2;let⟨w8,bz⟩:=JP I;rw[bz]at T7 X7 R7⊢;clear bz;refine(CC.o _ T7.o.dI).mono ?_;rw[<-H9.o]
   all_goals
    rintro e w9⟨rfl,v9,F9,a9,n9,t9,b4⟩;obtain⟨v3,F3,a3,n3,rfl⟩:=u.o.f3e;have X9:=xe<|X7.o.y t9.y u.o.no;have R9:=xe<|R7.o.y t9.y λg D=>(u.o.sn g D).2;have T9:H<|Xf C f w ((f.iB k).dk v9 F9 a9 n9 ao) w9:=T7.o.aE t9;have br:H<|Tw _<|(f.iB k).dk v9 F9 a9 n9 ao:=b4;have b6:=xe u.o.sn;clear t9 b4 T7 X7 R7 CC u e6 g6 cc;generalize Yc (oU k.gR (k.bM+1) P.sg) (Zk h1.L) h1=pr at*;obtain⟨bo,d9⟩:=pr;cases bo
    ·go_wp2;go_ret;exact⟨12,_,O,T9.o,bd.o _ _ (by rw[ba.o];exact br.o) ⟨v9,F9,a9,n9,ac ⟨by rw[ba.o],O,O⟩⟩⟩
    have W:=T9.o.dI.bT;have bm:H<|∀i,aX w9 (K C i)=ao:=λi=>W.dS i;have cg:=W.i 11 O;have ch:=W.i 12 O;have ci:=W.i 13 O;have cj:=W.i 14 O;have ck:=W.i 15 O;have cl:=W.i 16 O;have cm:=W.i 17 O;have cn:=W.i 18 O;have co:=W.i 19 O;have z:=bm.o;have bl:=X9.o;unfold LV at bl;have e9:=bl.eu;have bn:H<|xh (ay (ay (ay (ay (ay (ay (ay (ay (ay w9 (K C 11)<|bG M) (K C 12)<|aB a (T (gG L)) c) (K C 13)<|aB R 0 0) (K C 14)<|J k.ep) (K C 15)<|E k.dX) (K C 16)<|J k.bM) (K C 17)<|J P.sg) (K C 18)<|J 0) (K C 19)<|J k.dB) C (((f.iB k).dk v9 F9 a9 n9 ao).rj P (aB a (T (gG L)) c)<|gG L).G 83:=by have kx:=((((((((W.H 11<|bG M).H 12<|aB a (T (gG L)) c).H 13<|aB R 0 0).H 14<|J k.ep).H 15<|E k.dX).H 16<|J k.bM).H 17<|J P.sg).H 18<|J 0).H 19<|J k.dB;unfold Rf.G at kx;simp only[Zj,Vp,Kr]at kx;unfold Rf.rj Rf.G;rw[be.o.1,be.o.2.1,be.o.2.2.1,be.o.c];exact kx
    have b9:=xe<|T9.o.rj (zj.SV w9) bn.o R9.o λg D=>(b6.o g D).1;clear bl W bn X9 bm;go_wp2;go_ret;exact⟨0,_,O,b9.o,bd.o _ _ (by rw[ba.o];exact br.o.rj _ _ _) ⟨v9,F9,a9,n9,aJ ⟨by rw[ba.o],O,_,by rw[ba.o]⟩⟩⟩
end
section
variable{G:Xv}
theorem zz0(e:jp F=jp G):∀f n,yQ F f n=yQ G f n
 |0,n=>rfl|f+1,n=>by simp only[yQ,e,zz0 e f]
def zz8(h:∀n,jp F n=jp G n)(k):Xr k F=Xr k G:=by
 have e:jp F=jp G:=funext h;have b:∀m a,Y6 m F a=Y6 m G a:=λm a=>by grind [Y6,uE]
 have c:Xc k F=Xc k G:=by unfold Xc;rw[h 0,b]
 grind [Z7,zz0,Xr]
end
def zz3(L n m z):bO (Vm L n ((jp L n).take m,z))<=bO L:=by grind [yP]
def xda(t L):bO (uT t L)<=bO L:=by unfold uT;generalize Zk L=y;induction y generalizing L with|nil=>grind|cons n y I=>exact Yx (I _)<|zz3 L n _ _
def Dk.il(d:Dk):bO d.eS.L<=bO d.L:=by unfold Dk.eS;split;omega;exact xda _ _
def Nn(y):∀(x:bA U) (d:Dk),bO (Yc y x d).2.L<=bO d.L
 |[],d=>Int.le_refl _|n::x,d=>by unfold Yc;split;exact Nn y x d;split;exact d.il;exact Yx (Nn y x _)<|QJ _ _
def xdp(k d):bO (Zb k d).2.2.L<=bO d.L:=by
 have b:∀c a,bO (Wd c a).2.2.L<=bO a.L:=λc a=>by unfold Wd;rw[E3];exact Nn _ _ _
 unfold Zb;split;split;exact d.il;exact Yx (b _ _)<|zz3 d.L _ _ _;split;split;exact d.il;exact Yx (b _ _)<|QJ _ _;grind
def xai(k d):(Zb k d).2.1.dX=k.dX/\(Zb k d).2.1.ep=k.ep/\(Zb k d).2.1.bM=k.bM/\((Zb k d).2.1.aQ=k.aQ\/(k.cQ=M/\(Zb k d).2.1.aQ=k.aQ-1))/\(Zb k d).2.2.bU=d.bU:=by
 have g:∀(y:U->ez) (a:bA U) (d:Dk),(Yc y a d).2.bU=d.bU:=by intro y a;induction a with|nil=>intro d;rfl|cons n a I=>intro d;unfold Yc;split;grind;split;grind [Dk.eS];rw[I];exact Dk.jO d
 have f:d.eS.bU=d.bU:=by unfold Dk.eS;split<;>rfl
 have c:∀e b,(Wd e b).2.2.bU=b.bU:=λe b=>by grind [Wd,E3]
 unfold Zb;split;split;grind;exact⟨O,O,O,aJ O,(c _ _).trans<|Dk.jO d⟩;split;rename_i h;split;grind;exact⟨O,O,O,ac ⟨h,O⟩,(c _ _).trans<|Dk.jO d⟩;exact⟨O,O,O,aJ O,c _ _⟩
structure Ws(r:Sr)(f:Rf):Prop where
 tw:Tw r.d f
 ov:f.ov=r.ov
 mW:f.mW=r.mW
 m:f.m=r.m
 bF:f.bF=r.bF
 op:f.op=r.op
 bQ:f.bQ=r.bQ
 gw:f.gw=r.sn.isSome
 lU:∀s,r.sn=Y s->f.L=gG s.L/\f.P=s.P/\f.ep=s.ep/\f.dX=r.bQ/\f.bM=s.bM/\f.sg=(if s.aQ<=s.bM then 0 else s.aQ)/\f.bC=s.bC/\f.dB=s.dB
def Nm(n:Q)(s:kE):Prop:=(0<=s.bM/\s.bM<=s.aQ/\s.aQ<=5000000000+n)/\T s.P<=20/\(∀c∈s.P,qX c)/\Nd s.L/\T s.L<=6000+20*n/\rY s.L/\(0<=s.bC/\s.bC<=999)/\s.ep<=5
structure Ok(n:Q)(r:Sr):Prop where
 m:T r.m=32
 bQ:T r.bQ=32
 bF:r.bF<=n
 op:r.op<=999
 bU:0<=r.d.bU/\r.d.bU<=100000
 q8:bO r.d.L<=r.d.bU
 nx:∀c,r.d.nx=Y c->kh c.2.1/\0<=c.2.2/\kh c.2.2
 lU:∀s,r.sn=Y s->Nm n s
 mf:r.sn.isSome=M->jp r.d.L 0=[]\/T (jp r.d.L 0)=116
def Ok.U{k}(h:Ok n r)(hk:n<=k):Ok k r:=⟨h.m,h.bQ,xa h.bF hk,h.op,h.bU,h.q8,h.nx,λs e=>by let⟨⟨a,b,c⟩,d,e,f,g,i⟩:=h.lU s e;grind [Nm],h.mf⟩
def Ws.Cp(h:Ws r f)(a:r.sn=R):f.gw=ao:=by rw[h.gw,a];rfl
def Ws.on{s}(h:Ws r f)(a:r.sn=Y s):f.gw=M:=by rw[h.gw,a];rfl
theorem Ws.hU{s}(h:Ws r f)(d:Nd s.L)(a:r.sn=Y s):f.hU=gG s.lT:=by obtain⟨b,c,-⟩:=h.lU s a;grind [Rf.hU,kE.lT,SO]
def Ws.iS(h:Ws r f)(o:Ok n r)(k):f.iS k=r.iS k:=by
 unfold Rf.iS Sr.iS;cases y:r.sn with
 |none=>rw[aT<|h.Cp y]
 |some s=>rw[aL<|by simp[h.on y],h.hU (o.lU s y).c.1 y,II];grind
theorem xyy{c}(h:(oR (cK c)&&tD (cV c))=M):qX c:=by simp[oR,tD]at h;let⟨⟨y,x⟩,q⟩:=h;cases c with|put k v=>exact⟨Z0.1 y,x,q⟩|del k=>exact⟨Z0.1 y,x⟩
def Ws.Dw{c q}(h:Ws r f)(o:Ok n r)(i:q=(oR (cK c)&&tD (cV c)))(b:r.eD q c a aw)(d:f.eD c ſ f'):a=ſ/\Ws aw f'/\Ok n aw:=by
 unfold Sr.eD at b;unfold Rf.eD at d;rw[<-i]at d;cases y:r.sn with
 |none=>rw[y]at b;rw[aT<|h.Cp y]at d;grind
 |some s=>rw[y]at b;rw[aL<|by simp[h.on y],(h.lU s y).2.1]at d;simp only at b;split at b;grind;rename_i e;rw[aL e]at d;split at b;grind;rename_i u;rw[aL u]at d;obtain⟨rfl,k,rfl⟩:=b;obtain⟨rfl,v,rfl⟩:=d;let⟨W,P,D⟩:=h.lU s y;let⟨X,I,j3,G⟩:=o.lU s y;refine⟨O,⟨⟨h.tw.bU,h.tw.gF,h.tw.gL,h.tw.mJ,h.tw.mt,h.tw.fU,h.tw.nx,h.tw.cQ,h.tw.ko⟩,h.ov,h.mW,h.m,h.bF,h.op,h.bQ,h.on y,λj e=>?_⟩,⟨o.m,o.bQ,o.bF,o.op,o.bU,o.q8,o.nx,λj e=>?_,λ_=>o.mf Á⟩⟩;cases e;exact⟨W,O,D⟩;cases e;refine⟨X,?_,λx g=>?_,G⟩;show(s.P++[c]).length<=20;grind;obtain g|g:=je.1 g<;>grind [xyy]
theorem Ws.ex(a d b m D y)(h:yS a d b m=M):Ws (Sr.ex a d b m D y) (Rf.cZ a d b m)/\Ok n (Sr.ex a d b m D y):=by let⟨x,q,W,X,G,P,u⟩:=Xt h;exact⟨⟨⟨O,jB.nil,jB.nil,λ_=>O,iV,λp f=>(by cases f),O,Int.le_refl 0,(by decide:(0:Int)<=9223372036854775807)⟩,O,O,O,O,O,(by decide:List.replicate 32 0=Yn),O,λs e=>Æ⟩,⟨u,(by decide:Yn.length=32),Zz _,Zz 999,⟨x,q⟩,x,λc e=>Æ,λs e=>Æ,λe=>Æ⟩⟩
def Tw.gw(h:Tw d f)(b):Tw d {f with gw:=b}:=⟨h.bU,h.gF,h.gL,h.mJ,h.mt,h.fU,h.nx,h.cQ,h.ko⟩
def Ok.kZ(o:Ok n r):Ok n r.kZ:=⟨o.m,o.bQ,o.bF,o.op,o.bU,o.q8,o.nx,λs e=>Æ,λe=>Æ⟩
def Ws.kZ(h:Ws r f):Ws r.kZ {f with gw:=ao}:=⟨h.tw.gw ao,h.ov,h.mW,h.m,h.bF,h.op,h.bQ,O,λs e=>Æ⟩
def Ws.ku(h:Ws r f)(o:Ok n r)(b){t}(d:0<=a/\kh a)(g:0<=t/\kh t):Ws (r.nE b a t) {f with nE:=M,ko:=a,cQ:=t}/\Ok n (r.nE b a t):=by refine⟨⟨⟨h.tw.bU,h.tw.gF,h.tw.gL,h.tw.mJ,h.tw.mt,h.tw.fU,⟨O,O,O⟩,g.1,d.2.2⟩,h.ov,h.mW,h.m,h.bF,h.op,h.bQ,h.gw,h.lU⟩,⟨o.m,o.bQ,o.bF,o.op,o.bU,o.q8,λc e=>?_,o.lU,o.mf⟩⟩;cases e;grind
theorem xnx{k v}(h:∀p∈F,p.1≠k):ol F k v=F++[(k,v)]:=by induction F with|nil=>rfl|cons p F I=>grind [ol]
def ϴ:∀(l:FL) (a q:U) (F:Xv),ur a q l=M->(∀p∈F,p.1<=a)->0<=q->q<=1000000->(∀x∈l,kh x.1)->AA F l=F++uq l/\wJ (uq l)/\(∀p∈uq l,a<p.1/\p.2.1≠[]/\kh p.1/\p.2.2=(T p.2.1:U)/\T p.2.1<=1000000)/\bO (uq l)<=q
 |[],a,q,F,h,D,u,X,W=>⟨by simp[AA,uq],iV,λp b=>(by cases b),u⟩
 |x::l,a,q,F,h,D,u,X,W=>by unfold ur at h;simp only[jy,Y8]at h;obtain⟨⟨f,g,i⟩,c⟩:=h;let⟨P,I,G,i4⟩:=ϴ l x.1 _ (F++[(x.1,x.2,(T x.2:U))]) c (λp b=>Á) À À λy d=>W y<|jw _ d;have e:uq (x::l)=(x.1,x.2,(T x.2:U))::uq l:=O;rw[e];refine⟨?_,Xw.2 ⟨λp b=>(G p b).1,I⟩,λp b=>?_,?_⟩;grind [AA,xnx];obtain rfl|b:=jc.1 b;grind;grind;grind [bO]
theorem Ws.EU{l}(h:Ws r f)(o:Ok n r)(g:∀x∈l,kh x.1)(a:f.fJ l ſ f'):(r.fJ l).1=ſ/\Ws (r.fJ l).2 f'/\Ok n (r.fJ l).2:=by
 unfold Rf.fJ at a;unfold Sr.fJ;cases y:r.sn with
 |some s=>rw[aT<|h.on y]at a;grind
 |none=>
  rw[aL<|by simp[h.Cp y],h.tw.bU]at a;simp only[Option.isSome_none,ja,kB];unfold Dk.fJ;cases q:Wc r.d.bU l with
  |false=>
   rw[aT q]at a;obtain⟨rfl,rfl⟩:=a;simp only[ja,kB];exact⟨bD,by rw[<-y];exact h,by rw[<-y];exact o⟩
  |true=>rw[aL<|by simp[q]]at a;obtain⟨rfl,v,rfl⟩:=a;simp only[dY];let⟨G,u,W,D⟩:=ϴ l (-1) r.d.bU [] (Bool.and_eq_true_iff.1 q).2 (λp b=>by cases b) o.bU.1 (by have:=o.bU.2;omega) g;rw[qj]at G;have c:jB _:=⟨Wk.2<|u.imp λh e=>À,λp b=>(W p b).2.1⟩;rw[G];exact⟨bD,⟨⟨O,c,c,λ_=>O,u,λp b=>Á,h.tw.nx,h.tw.cQ,h.tw.ko⟩,h.ov,h.mW,h.m,h.bF,h.op,h.bQ,h.gw.trans<|by rw[y],λs e=>Æ⟩,⟨o.m,o.bQ,o.bF,o.op,o.bU,D,o.nx,λs e=>Æ,λe=>Æ⟩⟩
def wh(f:Rf):FL:=f.F.map λp=>(p.1,p.2.1)
def ru(x:U×Zl):Ze:=[aD bB x.1,ak<|st x.2]
def Ws.img(h:Ws r f):Az r.d.L (Zk r.d.L)=(wh f).flatMap ru/\T (Zk r.d.L)=T (wh f):=by
 rw[h.tw.Bp];refine⟨?_,by simp[wh]⟩;unfold Az wh;rw[List.flatMap_map,List.flatMap_map];refine gv List.flatten<|W6 λp a=>?_;have e:jp r.d.L p.1=p.2.1:=by rw[<-h.tw.wO];exact gv o7<|Ey h.tw.gF a
 simp[ru,e]
def pp(d:Dk):Prop:=∀c,d.nx=Y c->kh c.2.1/\0<=c.2.2/\kh c.2.2
theorem pp.dZ(h:pp d)(b:d.cS=ao):pp d.dZ:=by intro c a;unfold Dk.dZ at a;unfold Dk.cS at b;cases y:d.nx with|none=>grind|some e=>rw[y]at a b;cases a;let⟨x,q⟩:=h e y;grind [kh]
theorem pp.eS(h:pp d):pp d.eS:=by intro c a;grind [Dk.eS]
theorem pp.gB(y):∀(x:bA U) {d:Dk},pp d->pp (Yc y x d).2
 |[],d,h=>h|n::x,d,h=>by unfold Yc;split;exact pp.gB y x h;split;exact h.eS;rename_i q;exact pp.gB y x (d:=d.qR n)<|h.dZ Á
def pp.SU(h:pp d):pp (Zb k d).2.2:=by
 have b:∀c a,pp a->pp (Wd c a).2.2:=λc a h=>by grind [Wd,E3,pp.gB]
 unfold Zb;split;split;exact h.eS;rename_i y;exact b _ _ (h.dZ Á);split;split;exact h.eS;rename_i y;exact b _ _<|h.dZ Á
 grind
def td{zq:U->ez}(a:zq 0=M):∀(y:bA U) {d:Dk},jB d.L->(Yc zq y d).1=M->jp (Yc zq y d).2.L 0=jp d.L 0
 |[],d,_,_=>rfl|n::y,d,g,h=>by unfold Yc at h⊢;split at h;rename_i e;rw[aT e];exact td a y g h;rename_i e;rw[aL e];split at h;cases h;rename_i x;rw[aL x,td a y (d:=d.qR n) (g.del n) h];show jp (nS d.L n) 0=_;rw[Ģ g,aL λb=>e<|by rw[<-b];exact a]
def JN(k:Lk)(g:jB d.L)(f:k.cQ=M->0<k.aQ)(i:0<=k.bM)(h:(Zb k d).1=M):jp (Zb k d).2.2.L 0=jp d.L 0:=by
 have c:∀b a,b.bM=k.bM->jB a.L->(Wd b a).1=M->jp (Wd b a).2.2.L 0=jp a.L 0:=λb a e g h=>by unfold Wd at h⊢;rw[E3]at h⊢;exact td (by rw[zv4 b<|by rw[e];exact i];rfl) _ g h
 unfold Zb at h⊢;split at h;rename_i e;rw[aT e];split at h;cases h;rename_i x;rw[aL x,c _ _ O (g.np _ _) h];show jp (Vm d.L k.aQ _) 0=_;rw[Eu g,aL<|by have:=f e.1;omega];rename_i e;rw[aL e];split at h;rename_i y;rw[aT y];split at h;cases h;rename_i x;rw[aL x,c {k with aQ:=k.aQ-1} (d.qR k.aQ) O (g.del _) h];show jp (nS d.L k.aQ) 0=_;rw[Ģ g,aL<|by have:=f y;omega];rename_i y;rw[aL y];exact c k d O g h
def JM{q:Lk×KV}(h:Xr k F=Y q):jp F 0=[]\/T (jp F 0)=116:=by
 cases y:Xc k F with
 |none=>unfold Xr at h;rw[y]at h;cases h
 |some p=>unfold Xc at y;split at y;rename_i e;exact aJ e;split at y;rename_i e;exact ac e.gT;cases y
def Ws.open(h:Ws r f)(o:Ok n r)(t:EW r mp a aw)(g:ye f r.d (Xr (ld f.m f.bQ (f.bF:U) ((r.op+1:Q):U) mp) f.F) ſ f'):a=ſ/\Ws aw f'/\Ok (n+1) aw:=by
 have l:=o.U<|Xu n;unfold EW EV at t;unfold ye SP at g;rw[h.gw,h.op]at g;have e:Xr (ld f.m f.bQ (f.bF:U) ((r.op+1:Q):U) mp) f.F=Xr (ld r.m r.bQ r.bF ((r.op+1:Q):U) mp) r.d.L:=by rw[h.m,h.bQ,h.bF];exact zz8 h.tw.wO _
 split at t;grind;rename_i hs;rw[aL hs]at g;have w:r.sn=R:=by cases hx:r.sn with|none=>rfl|some s=>grind
 split at t;grind;rename_i h9;rw[aL h9]at g;have u:=o.op;have p:∀s:kE,R=Y s->False:=λs e=>Æ
 cases W:Xr _ r.d.L with
 |none=>
  rw[W]at t;rw[e,W]at g;obtain⟨rfl,rfl⟩:=t;obtain⟨rfl,rfl⟩:=g;exact⟨O,⟨⟨h.tw.bU,h.tw.gF,h.tw.gL,h.tw.mJ,h.tw.mt,h.tw.fU,h.tw.nx,h.tw.cQ,h.tw.ko⟩,h.ov,h.mW,h.m,h.bF,O,h.bQ,O,λs e=>(p s<|w.symm.trans e).elim⟩,⟨l.m,l.bQ,l.bF,Á,l.bU,l.q8,l.nx,λs e=>(p s<|w.symm.trans e).elim,λe=>(by rw[show({r with op:=r.op+1}:Sr).sn=r.sn from O,w]at e;cases e)⟩⟩
 |some q=>
  let⟨k,L⟩:=q;rw[W]at t;let⟨X,tn,b0,b1,b2,b3,he,htc⟩:=SY (by rw[h.m];exact o.m)<|e.trans W;rw[e,W]at g;let⟨P,v,F,b,n',g⟩:=g;let⟨m1,m2,m3,m4,I⟩:=xai k r.d;have z:k.bF<=n+1:=by have:=o.bF;have:=h.bF;unfold rp at he;omega
  have x:pp (Zb k r.d).2.2:=pp.SU o.nx;have y:0<=(Zb k r.d).2.2.bU/\(Zb k r.d).2.2.bU<=100000:=by rw[I];exact o.bU
  have j:bO (Zb k r.d).2.2.L<=(Zb k r.d).2.2.bU:=by rw[I];exact Yx (xdp k r.d) o.q8
  obtain⟨D,rfl,S,rfl⟩|⟨D,rfl,rfl⟩:=t;obtain⟨B,rfl,s,rfl⟩|⟨B,-⟩:=g;refine⟨O,⟨P,h.ov,h.mW,h.m,O,by show f.op+1=r.op+1;rw[h.op],O,O,λC i=>?_⟩,⟨l.m,X.dX,z,by show r.op+1<=999;omega,y,j,x,λC i=>?_,λ_=>by show jp (Zb k r.d).2.2.L 0=[]\/T (jp (Zb k r.d).2.2.L 0)=116;rw[JN k h.tw.gL (λG=>by have:=(tn G).2.2;omega) b0 D];exact JM W⟩⟩;cases i;exact⟨O,O,O,m1,O,O,O,O⟩;cases i;refine⟨?_,zbe,λc z=>(by cases z),X.nd,by have:=X.gT;show T L<=_;omega,X.ks,⟨Int.le_refl _,by show(0:U)<=999;decide⟩,by show(Zb k r.d).2.1.ep<=5;rw[m2];exact X.ep⟩;show 0<=(Zb k r.d).2.1.bM/\(Zb k r.d).2.1.bM<=(Zb k r.d).2.1.aQ/\(Zb k r.d).2.1.aQ<=_;grind;grind;obtain⟨B,-⟩|⟨B,rfl,rfl⟩:=g;grind;exact⟨O,⟨P,h.ov,h.mW,h.m,O,by show f.op+1=r.op+1;rw[h.op],O,O,λC i=>sy⟩,⟨l.m,X.dX,z,by show r.op+1<=999;omega,y,j,x,λC i=>sy,λi=>sy⟩⟩
def E1(f:Rf)(d:Dk)(x:U)(y:Rf)(D:Dk):Prop:=
 (f.gw=ao/\x=5/\y=f/\D=d)\/(f.gw=M/\f.P=[]/\x=0/\y=f/\D=d)\/
 (f.gw=M/\f.P≠[]/\∃f' v,Dv f d f.cD.1 (f.cD.2++rn f.m f.dX [82] f.ep f.op f.bF (Z5 f.P)) (ua f.m f.dX [82] f.ep f.op f.bF<|Z5 f.P) x f' D/\y=if x=0 then f'.Ay v else f')
structure BO(d:Dk)(f:Rf):Prop where
 w:Gq d f
 P:T f.P<=20
 ok:∀c∈f.P,qX c
 pl:T (Z5 f.P)<=1100
 L:T f.L<=200000000000
def rk(C f d w)(h:Ju w C f)(k:BO d f)(m:Yq w):aK prog 125 #[zq C] w λe w'=>∃x y D,e=ai (J x)/\Xf C f w y w'/\Tw D y/\E1 f d x y D:=by
 by_cases a:f.gw=M
 case neg=>
  have a:f.gw=ao:=by simpa using a
  exact(SR C f w h a).mono λe w' q=>⟨5,f,d,q.1,by rw[q.2];exact .refl h,k.w.tw,aJ ⟨a,O,O,O⟩⟩
 by_cases b:f.P=[];exact(xig C f w h a b).mono λe w' q=>⟨0,f,d,q.1,q.2,k.w.tw,ac<|aJ ⟨a,b,O,O,O⟩⟩;refine(xl9 C f d w h k.w m a b k.P k.ok k.pl k.L).mono λe w' q=>?_;obtain⟨x,c,i,rfl,j,l,n⟩:=q;by_cases g:x=0;let⟨v,u,W⟩:=n g;exact⟨x,c.Ay v,i,O,u,W,ac<|ac ⟨a,b,c,v,j,Á⟩⟩;exact⟨x,c,i,O,(l g).1,(l g).2,ac<|ac ⟨a,b,c,aB R 0 0,j,Á⟩⟩
def ϭ(f:Rf)(d:Dk)(x:U)(q:Rf)(u:Dk):Prop:=∃X y D,E1 f d X y D/\Tw D y/\
 ((X≠0/\x=X/\q=y/\u=D)\/(X=0/\y.ep=5/\x=10/\q=y/\u=D)\/
 (X=0/\y.ep≠5/\∃f',Dv y D y.cD.1 (y.cD.2++rn y.m y.dX [75] (y.ep+1) y.op y.bF []) (ua y.m y.dX [75] (y.ep+1) y.op y.bF []) x f' u/\q=if x=0 then {f' with ep:=y.ep+1}else f'))
def Tw.ep(t:Tw d f)(n):Tw d {f with ep:=n}:=⟨t.bU,t.gF,t.gL,t.mJ,t.mt,t.fU,t.nx,t.cQ,t.ko⟩
def vk(C f d w)(h:Ju w C f)(k:BO d f)(p:∀w',zj (f.cN C) w w'->Yq w')(v:∀W X,E1 f d 0 W X->Tw X W->Gq X W/\W.ep<=1000000):aK prog 127 #[zq C] w λe w'=>∃x I P,e=ai (J x)/\Xf C f w I w'/\Tw P I/\ϭ f d x I P:=by
 have G:=h;go_enter func127.1,Tryz.ntmps127;go_wp2;apply(rk C f d w h k<|p w<|zj.refl _ _).mono;rintro e w1⟨n,W,X,rfl,q,z,B⟩;have b:=q;have a:=z;have c:=B;by_cases g:n=0
 case neg=>
  go_wp2;go_ret;exact⟨n,W,X,O,b,a,n,W,X,c,a,aJ ⟨g,O,O,O⟩⟩
 subst g;let⟨o1,o2⟩:=v W X c a;have r:N w1 (K C 14)=J W.ep:=q.dI.bT.i 14 O;by_cases l:W.ep=5
 ·have s:((W.ep:U)==5)=M:=by rw[l];rfl
  go_wp2;go_ret;exact⟨10,W,X,O,b,a,0,W,X,c,a,ac<|aJ ⟨O,l,O,O,O⟩⟩
 have s:((W.ep:U)==5)=ao:=by
  have:¬(W.ep:U)=5:=À
  simpa using this
 have o:=l;go_wp2;apply(ϰ C W X [75] [] _ _ b.dI o1 (p _ b.y) O Â).mono;rintro e F⟨x,j,P,rfl,m,D,u⟩;have T1:=m;have T2:=D;have i:=u;by_cases g:x=0
 case neg=>
  go_wp2;go_ret;exact⟨x,j,P,O,b.aE T1,T2,0,W,X,c,a,ac<|ac ⟨O,o,j,i,Á⟩⟩
 subst g;have t:N F (K C 14)=J W.ep:=by rw[m.dI.bT.i 14 O,<-i.uo.d];rfl
 have y:=m.dI.bT.dS 14;go_wp2;go_ret;refine⟨0,_,P,O,(b.aE T1).aE ?_,T2.ep _,0,W,X,c,a,ac<|ac ⟨O,o,j,i,O⟩⟩;exact Xf.H T1.dI 14 _ O O O O
section
attribute[local go_sem] zn zg
def fX(L:KV):Zl:=L.flatMap λp=>sQ p.1 p.2
def oc:∀{L:KV},(∀p∈L,T p.1<=16/\T p.2<=32)->T (fX L)<=50*T L
 |[],_=>by simp[fX]|p::L,h=>by have b:=h p<|xu ..;have c:=oc λq a=>h q<|jw _ a;grind [fX,sQ,Z2]
def sw(v L)(F:T L<=5000000)(n:∀p∈L,T p.1<=16/\T p.2<=32)(w)(h:Rw w 200 2 kT v L):aq 189 #[v] w (E<|fX L):=by
 obtain⟨a,B,rfl⟩:=h.dL;have o:=n;go_enter func189.1,Tryz.ntmps189;go_wp2;go_loopw [3,4] (λs i wr=>∃j:Q,j<=T L/\i=J j/\s=E (fX<|L.take j)/\aP (V<|Z w) w wr) (λ_ i _=>bL (T L-bZ i));exact⟨0,À,O,O,zt _ _⟩;obtain⟨j,G,rfl,rfl,m⟩:=hrel;have f:=m;by_cases d:j<T L
 ·have D:(j:U)<(T L:Q):=À;obtain⟨g,rfl,r⟩:=h.lp (λ_=>O) d O;have l:∀w',aP (V<|Z w) w w'->N w' (K g<|j*2)=(ak<|st L[j].1)/\N w' (K g<|j*2+1)=(ak<|st L[j].2):=λw' t=>⟨(zj.J (S:=λ_=>False) t).i id<|r 0 À,(zj.J (S:=λ_=>False) t).i id<|r 1 À⟩;have q:H<|fX (L.take<|j+1)=fX (L.take j)++sQ L[j].1 L[j].2:=by show _=_;rw[zp d];simp only[fX,Wz,Wi,List.flatMap_nil,Xz]
  have u:T (fX<|L.take j)<=250000000:=by have:=oc λc C=>o c<|Fq (i:=j) C;rw[xf]at this;omega
  let⟨k1,k2⟩:=o _<|Xk d;generalize L[j]=c at*;let⟨k,x⟩:=c;simp only at l q k1 k2;generalize fX (L.take j)=X at*;have y:=l _ f;have b:aP (V<|Z w) w wr.drew:=f.drew;have l1:=Z2 (T k) 1;have I:=Z2 (T x) 1;have W:¬9223372036854775807<T X+1:=À
  have P:¬9223372036854775807<T X+1+1:=À
  have hd:¬9223372036854775807<T X+1+1+T k:=À
  have h1:¬9223372036854775807<T X+1+1+T k+T x:=À
  have h2:¬9223372036854775807<T X+(1+(1+T k))+T x:=À
  have aw:¬9223372036854775807<T X+(1+(1+(T k+T x))):=À
  have hx:¬9223372036854775807<T X+(1+1)+T k+T x:=À
  have ho:¬9223372036854775807<T X+(1+(1+T k)):=À
  have g':H<|st X++st (nb (T k) 1)++st (nb (T x) 1)++st k++st x=st (X++sQ k x):=by show _=_;rw[zg,zg,zg,zg];simp[sQ]
  go_wp2;go_region_held3 (λw'=>N w' (K g<|j*2)=E k/\N w' (K g<|j*2+1)=E x) (first|exact y|exact z)
   (first
    |(go_at_call 167;refine(FI _ 1 Ã _).mono ?_;rintro e w1⟨rfl,m⟩;replace b:=Xs b m;have z:=l _ b))
  try clear hHeld
  go_wp2;go_roundw;exact⟨j+1,À,Å,by rw[q.o];rfl,b⟩;exact Ì
 have D:¬(j:U)<(T L:Q):=À
 obtain rfl:j=T L:=À
 go_wp2;go_ret;exact⟨Â,f⟩
end
section
attribute[local go_sem] zn zg CI
def xt5(n:Q)(a:U)(h:0<=a/\a<=8)(w:Zy):aq 167 #[J n,J a] w (E<|nb n (bL a)):=by obtain⟨k,rfl⟩:∃k:Q,a=(k:U):=⟨bL a,À⟩;grind [FI]
def ϯ(C:Q)(f:Rf)(m:Mf)(xs:bA Zl)(v:Zv)(hl:T xs<=1000)(hx:∀x∈xs,T x<=64)(aw:T f.m=32)(w:Zy)(h:Ju w C f)(P:Yq w)(B:Rw w 9 1 o5 v xs):aK prog 192 #[zq C,v,J m.ep,J m.op,J m.bC] w λe w'=>∃v',e=ai v'/\ff w w' 9 1 o5 v' (Y9 m (Ji f.m m.ep) xs):=by
 obtain⟨a,h3,rfl⟩:=B.dL;have h2:=B;have ho:=hx;have F:=h;have G:=P;have o:H<|T (Ji f.m m.ep)=16:=F7 _ _;clear B hx h P;go_enter func192.1,Tryz.ntmps192;go_wp2;refine(Q8 C f m.ep _ F G aw).mono ?_;rintro e w1⟨rfl,n⟩;have hd:H<|Nw w w1:=zj.J n;clear n F G;let⟨c,k⟩:=JP<|Ji f.m m.ep;have r:=xe k;rw[k]at o⊢;clear k;go_wp2;go_loopw [11,13] (λu i wr=>∃j:Q,j<=T xs/\i=J j/\ff w1 wr 9 1 o5 u ((Y9 m c xs).take j)) (λ_ i _=>bL (T xs-bZ i));grind [ff.nil];obtain⟨j,hj,rfl,L⟩:=hrel;have d:=xe L;clear L;by_cases l:j<T xs
 ·have W:(j:U)<(T xs:Q):=À;have i0:(0:U)<=(j:U):=À
  obtain⟨g,rfl,g'⟩:=h2.lp (λ_=>O) l O;have q:H<|∀w',Nw w1 w'->N w' (K g j)=(ak<|st xs[j]):=λw' es=>(hd.o.aE es).i id (by grind [o5]);have y:=xe<|Đ m c xs j l;have w2:=ho _<|Xk l;generalize xs[j]=x at*;clear g';have I:=q.o _ d.o.nw;have b:H<|Nw wr wr.drew:=(zj.refl _ _).W;have l1:=Z2 m.ep 1;have X:=Z2 m.op 2;have ba:=Z2 m.bC 2;have Z':=Z2 j 2;have m1:¬9223372036854775807<1+1:=Ã
  have h1:H<|(⟨#[67]⟩:eM)++st (nb m.ep 1)++st (nb m.op 2)++st (nb m.bC 2)++st (nb j 2)=st (m.lM j):=by show _=_;rw[show(⟨#[67]⟩:eM)=st [67]from O,zg,zg,zg,zg];simp[Mf.lM]
  go_wp2;go_region_held3 (λw'=>N w' (K g j)=E x) (first|exact I|exact z)
   (first
    |(go_at_call 167;refine(xt5 _ _ Ã _).mono ?_;rintro e w3⟨rfl,n⟩;replace b:=xe<|b.o.aE<|zj.J n;have z:=q.o _<|d.o.nw.aE b.o)
    |(go_at_call 116;rw[h1.o];refine(QZ c _ x o.o (ē m j) À _).mono ?_;rintro e w4⟨rfl,n⟩;replace b:=xe<|b.o.aE<|zj.J n;have z:=q.o _<|d.o.nw.aE b.o))
  have t:=xe<|d.o.ib b.o;have S:T ((Y9 m c xs).take j)<=1000:=by rw[xf,Ah];omega
  generalize(Y9 m c xs).take j=D at*;clear I q d b h1 l1 X ba Z';clear z;try clear hHeld
  go_wp2_with (refine ff.jK Ew (nT c (m.lM j) x) t.o À O O (Rd _) O O O O ?_);intro g3 ih w5 p;have s:=xe p;clear p;go_wp2;go_roundw;exact⟨j+1,À,Å,by rw[y.o];exact s.o⟩;exact Ì
 obtain rfl:j=T xs:=À
 have W:¬(T xs:U)<(T xs:Q):=À
 rw[qp<|by grind [Ah]]at d;go_wp2;go_ret;refine⟨_,O,?_⟩;rw[r.o];exact d.o.bM hd.o
end
end P
end Go.Proofs.YtjnbhiamaabbgabGreatDoor
