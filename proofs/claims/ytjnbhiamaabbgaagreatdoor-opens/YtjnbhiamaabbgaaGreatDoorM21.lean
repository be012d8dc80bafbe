import Derived.Test.YtjnbhiamaabbgaaGreatDoorM20
set_option linter.all false
set_option maxRecDepth 100000
set_option maxHeartbeats 8000000
namespace Go.Proofs.YtjnbhiamaabbgaaGreatDoor
open Go renaming Calls->aG,Ending->kU,maxLen->nT
open Go.Ending renaming returned->ah
open Go.IntKind renaming i64->aU,wrap_i64->zh
open Go.Obj renaming cells->aq
open Go.Proofs renaming intOf->bP
open Go.Result renaming andThen->bG,ok->cT
open Go.RowKit renaming Hid->aK
open Go.RowKit.Below renaming refl->zt
open Go.Value renaming agg->bM,bool->aX,int->aH,map->eK,pointer->aR,slice->az,string->aj,tuple->bU
open Go.World renaming alloc->aB,cell?->ae,frozen?->aQ,setCell->ai,size_alloc->xp
open _root_.Array renaming setIfInBounds->ay,size->ak
open _root_.Bool renaming false->ao,true->aw
open _root_.Decidable renaming decide->bI
open _root_.False renaming elim->dI
open _root_.Int renaming toNat->bB
open _root_.List renaming drop_eq_getElem_cons->Zx,length->aa,length_pos_iff->Z0,length_take->xf,map_congr_left->W6,pairwise_cons->Xw,take_succ_eq_append_getElem->zp
open _root_.List.Pairwise renaming nil->iN
open _root_.Option renaming none->ar,some->ac
open _root_.Or renaming inl->aF,inr->aE
open _root_.Prod renaming fst->nC
namespace P
open A.Tryq Go.RowKit
section
attribute [local go_sem] zn zg zO te
def us(w:Zy)(o:Option<|Lk×KV)(e:kU)(w':Zy):Prop:=Nw w w'/\match o with
 |some (k,L)=>∃v,e=ah (bM<|LV ao v k 0 ao 0 0)/\eD w w' 157 2 jT v (fR L)
 |none=>∃v k l t good recs,e=ah (bM<|LV aw v k l t good recs)/\∃a i j,v=az a i j
structure Kq(k k':Lk):Prop where
 m:k'.m=k.m
 aP:k'.aP=k.aP
 bE:k'.bE=k.bE
 eJ:k'.eJ=k.eJ
 fQ:k'.fQ=k.fQ
 tc:k'.tc=k.tc
 bJ:k'.bJ=k.bJ
def Kp.q{k k'}(h:Kp k k'):Kq k k':=⟨h.m,h.aP,h.bE,h.eJ,h.fQ,h.tc,h.bJ⟩
theorem Kq.aA{a b c}(h:Kq a b)(k:Kq b c):Kq a c:=⟨k.m.trans h.m,k.aP.trans h.aP,k.bE.trans h.bE,k.eJ.trans h.eJ,k.fQ.trans h.fQ,k.tc.trans h.tc,k.bJ.trans h.bJ⟩
def PC{f}:∀(n:Nat) {k k':Lk} {L L':KV} {l r:Zl},qE n k L l=ac (k',L',r)->pd f k L->pd f k' L'/\Kp k k'
 |0,k,k',L,L',l,r,h,ho=>by
  simp only[qE,xj,Ea]at h;obtain⟨rfl,rfl,rfl⟩:=h;exact⟨ho,rfl,rfl,rfl,rfl,rfl,rfl,rfl,rfl,rfl⟩
 |n+1,k,k',L,L',l,r,h,ho=>by
  unfold qE at h;split at h;rename_i hr;split at h
  ·rename_i k2 L2 h2;have a:=ho.dQ (Wt hr) h2;have b:=PC n h a.1;exact⟨b.1,a.2.aA b.2⟩
  grind;simp[xj,Ea]at h;obtain⟨rfl,rfl,rfl⟩:=h;exact⟨ho,rfl,rfl,rfl,rfl,rfl,rfl,rfl,rfl,rfl⟩
theorem Ź{f k k' L L' num len a}(ho:pd f k L)(h:Vd k L num len a=ac (k',L')):pd f k' L'/\Kq k k'/\(num≠k.aP->k'.cE=k.cE):=by unfold Vd at h;split at h;split at h;rename_i e;cases h;exact⟨⟨ho.m,ho.ml,ho.ep,ho.bA,ho.dO,ho.nd,ho.gp,ho.ks⟩,⟨rfl,rfl,rfl,rfl,rfl,rfl,rfl⟩,λx=>(x e).elim⟩;grind;cases h;exact⟨ho,⟨rfl,rfl,rfl,rfl,rfl,rfl,rfl⟩,λ_=>rfl⟩
def ż{f k k' L L' num x}(ho:pd f k L)(h:lQ k L num x=ac (k',L')):pd f k' L'/\Kq k k'/\((num:Int)≠k.aP->k'.cE=k.cE):=by unfold lQ at h;split at h;split at h;cases h;split at h;rename_i k2 L2 r hr;have a:=PC _ hr ho;have b:=Ź a.1 h;exact⟨b.1,a.2.q.aA b.2.1,λe=>(b.2.2<|by rw[a.2.aP];exact e).trans a.2.cE⟩;grind;grind [Ź]
structure Lg(w v:Zy)(Z B:Nat)(cs:Za):Prop where
 z:xh v Z (mA ao) 207
 l:xh v B cs 207
 n:Nw w v
 hz:ak w.heap<=Z
 hb:ak w.heap<=B
 ne:Z≠B
def Lg.gl{w v v' Z B cs}(h:Lg w v Z B cs)(hb:Nw v v'):Lg w v' Z B cs:=⟨h.z.y hb id,h.l.y hb id,h.n.aA hb,h.hz,h.hb,h.ne⟩
def Lg.y{w v v' Z B cs cs'}(h:Lg w v Z B cs)(hb:zj (·=B) v v')(a:xh v' B cs' 207):Lg w v' Z B cs':=⟨h.z.y hb h.ne,a,h.n.cR h.hb hb,h.hz,h.hb,h.ne⟩
def J'(w:Zy)(o:Option<|Lk×KV)(e:kU)(w':Zy):Prop:=Nw w w'/\match o with
 |some (k,L)=>∃v l good recs,e=ah (bM<|LV ao v k l k.cE good recs)/\eD w w' 157 2 jT v (fR L)/\(l=k.aP\/(l=0/\k.aP=k.bE/\k.cE=ao))/\(k.cE=aw->(0<recs/\good=k.cN/\0<good)\/(recs=0/\k.cN=0))
 |none=>∃v k l t good recs,e=ah (bM<|LV aw v k l t good recs)/\∃a i j,v=az a i j
structure Av(w wr:Zy)(f:Rf)(k0 k1:Lk)(L1:KV)(bs Z B r:Nat)(bd:Bool)(k:Lk)(L:KV)(s:Zv)(l:Int)(t:Bool)(g c:Int):Prop where
 g2:Lg w wr Z B<|LV bd s k l t g c
 sl:∃a i j,s=az a i j
 pc:bd=aw->Xr k0 f.F=ar
 lo:bd=ao->mJ (λi=>jp f.F (i:Int)) (bs+1) {k1 with aP:=(Z7 f.F bs:Int)} L1 r=ac (k,L)
 ok:bd=ao->pd f k L/\Kq {k1 with aP:=(Z7 f.F bs:Int)} k
 st:bd=ao->eD w wr 157 2 jT s (fR L)
 up:bd=ao->Z7 f.F bs=Z7 f.F (bs+r)
 tn:bd=ao->t=k.cE/\(bs+r<Z7 f.F bs->t=ao)
 ls:bd=ao->(r=0/\l=0/\t=ao)\/(0<r/\l=((bs+r:Nat):Int))
 rc:bd=ao->k.cE=aw->(0<c/\g=k.cN/\0<g)\/(c=0/\k.cN=0)
def Py(P:Bool->Zv->Lk->Int->Bool->Int->Int->Zy->Prop)(w:Zy)(e:kU)(w':Zy):Prop:=∃(bd:Bool) (a:Option Addr) (i c:Nat) (k:Lk) (l:Int) (t:Bool) (g r:Int),e=ah (bM<|LV bd (az a i c) k l t g r)/\Nw w w'/\P bd (az a i c) k l t g r w'
def MnQ(w:Zy)(o:Option<|Lk×KV)(bd:Bool)(s:Zv)(k:Lk)(l:Int)(t:Bool)(g r:Int)(w':Zy):Prop:=(o=ar->bd=aw)/\∀k2 L2,o=ac (k2,L2)->bd=ao/\k=k2/\l=0/\t=ao/\eD w w' 157 2 jT s (fR L2)
def us.Fp{w w' o e}(h:us w o e w'):Py (MnQ w o) w e w':=by
 obtain⟨b,h⟩:=h;cases o with
 |none=>
  obtain⟨v,k,l,t,g,r,rfl,a,i,j,rfl⟩:=h;exact⟨aw,a,i,j,k,l,t,g,r,rfl,b,λ_=>rfl,λ_ _ e=>Ç⟩
 |some q=>obtain⟨k,L⟩:=q;obtain⟨v,rfl,d⟩:=h;obtain⟨a,c,rfl⟩:=d.dC;exact⟨ao,a,_,c,k,0,ao,0,0,rfl,b,λe=>Ç,λ_ _ e=>Â⟩
def Pu(w0:Zy)(o:Option<|Lk×KV)(n:Int)(bd:Bool)(s:Zv)(k:Lk)(l:Int)(t:Bool)(g r:Int)(w':Zy):Prop:=(o=ar->bd=aw)/\∀k2 L2,o=ac (k2,L2)->bd=ao/\k=k2/\l=n/\t=k2.cE/\eD w0 w' 157 2 jT s (fR L2)/\(k2.cE=aw->(0<r/\g=k2.cN/\0<g)\/(r=0/\k2.cN=0))
def yH.Fp{w0 w w' o n e}(h:yH w0 o n w e w'):Py (Pu w0 o n) w e w':=by
 obtain⟨b,h⟩:=h;cases o with
 |none=>
  obtain⟨v,k,l,t,g,r,rfl,a,i,j,rfl⟩:=h;exact⟨aw,a,i,j,k,l,t,g,r,rfl,b,λ_=>rfl,λ_ _ e=>Ç⟩
 |some q=>obtain⟨k,L⟩:=q;obtain⟨v,g,r,rfl,d,f⟩:=h;obtain⟨a,c,rfl⟩:=d.dC;exact⟨ao,a,_,c,k,n,k.cE,g,r,rfl,b,λe=>Ç,λ_ _ e=>Â⟩
def Kb(C f n w)(h:Ju w C f)(c:aa f.F<=1000000)(g:∀p∈f.F,p.2.1≠[]):aG prog 193 #[zo C,zi n] w λe w'=>w'=w/\∃i:Int,e=ah (zi i)/\(i<0↔jp f.F n=[]):=by refine(EX C f n w h c).mono λe w' a=>⟨a.1, ?_⟩;obtain⟨k,hk,rfl,d,b⟩|⟨rfl,b⟩:=a.2;grind [jp];grind [jp]
structure jeo(C:Nat)(f:Rf)(k0:Lk)(w:Zy):Prop where
 dS:Ju w C f
 vo:Yq w
 gp:aa f.F<=1000000
 fV:∀p∈f.F,p.2.1≠[]
 J:∀n,aa (jp f.F n)<=100000
 bA:f.bA<=1000000
 man:∀w1,Nw w w1->aG prog 192 #[zo C] w1 (us w1<|Xc k0 f.F)
 st:∀k1 L1,Xc k0 f.F=ac (k1,L1)->pd f k1 L1/\k1.cE=ao/\k1.tc=(f.bA:Int)/\k1.bJ=f.bJ/\∃b:Nat,k1.bE=(b:Int)/\b<4294967296
open Classical in
def vQ(w wr:Zy)(f:Rf)(k0:Lk)(bd:Bool)(k:Lk)(L:KV)(s:Zv)(l:Int)(t:Bool)(g c:Int):Prop:=(bd=aw/\Xr k0 f.F=ar)\/(bd=ao/\Xr k0 f.F=(if pg k then ac (k,L)else ar)/\t=k.cE/\k.tc=(f.bA:Int)/\k.bJ=f.bJ/\eD w wr 157 2 jT s (fR L)/\(l=k.aP\/(l=0/\k.aP=k.bE/\k.cE=ao))/\(k.cE=aw->(0<c/\g=k.cN/\0<g)\/(c=0/\k.cN=0)))
def vQ.gl{w e a f d b k L s l t g c}(h:vQ w e f d b k L s l t g c)(r:Nw e a):vQ w a f d b k L s l t g c:=by obtain h|⟨i,j,m,n,o,p,q⟩:=h;exact aF h;exact aE ⟨i,j,m,n,o,p.gl r,q⟩
def vQ.yes{w b v f o d k L a i j l t g c Z B cs}(h:vQ w b f o d k L (az a i j) l t g c)(C:k.tc=(f.bA:Int)->k.bJ=f.bJ->pg k)(G:Lg w b Z B cs)(m:zj (·=Z) b v):J' w (Xr o f.F) (ah<|bM<|LV d (az a i j) k l t g c) v:=by have p:=G.n.cR G.hz m;refine⟨p, ?_⟩;obtain⟨rfl,h⟩|⟨rfl,q,rfl,r,s,e,x,y⟩:=h;grind;rw[q,if_pos<|C r s];exact⟨_,_,_,_,rfl,e.y m (e.rw.gH G.z Ã) p,x,y⟩
def vQ.no{w b v f d e k L a i j l t g c Z B cs u}(h:vQ w b f d e k L (az a i j) l t g c)(r:k.tc=(f.bA:Int)->k.bJ=f.bJ->¬pg k)(G:Lg w b Z B cs)(m:zj (·=Z) (ai b (zq B 0) u) v):J' w (Xr d f.F) (ah<|bM<|LV aw (az a i j) k l t g c) v:=by
 refine⟨(G.n.cR G.hb<|zj.H b (zq B 0) u).cR G.hz m, ?_⟩;have:Xr d f.F=ar:=by obtain⟨_,h⟩|⟨_,o,_,p,q,_⟩:=h;exact h;grind
 grind
theorem Av.dQ{w K w' D f v b L1 bs Z B q k L s l t g c d a i j x y C m z}(h:Av w K f v b L1 bs Z B q ao k L s l t g c)(N:Xc v f.F=ac (b,L1)/\b.bE=(bs:Int)/\bs<4294967296/\b.tc=(f.bA:Int)/\b.bJ=f.bJ)(Q:bs+q<9999)(r:jp f.F ((bs+q+1:Nat):Int)≠[])(I:Nw K w')(J:Pu w (lQ k L (bs+q+1)<|jp f.F ((bs+q+1:Nat):Int)) ((bs+q+1:Nat):Int) d (az a i j) x y C m z w')
  (H:zj (·=B) w' D)(S:xh D B (LV d (az a i j) x y C m z) 207):∃L2,Av w D f v b L1 bs Z B (q+1) d x L2 (az a i j) y C m z:=by
 have U:=(h.up rfl).trans<|Fd Q r;have T:=(Fc f.F<|bs+q+1).1;have o:mJ (λi=>jp f.F (i:Int)) (bs+1) {b with aP:=(Z7 f.F bs:Int)} L1 (q+1)=lQ k L (bs+q+1) (jp f.F ((bs+q+1:Nat):Int)):=by rw[Up<|h.lo rfl,show bs+1+q=bs+q+1 by omega]
 have G:=(h.g2.gl I).y H S;obtain⟨V,hk⟩:=h.ok rfl;obtain⟨M,e2,e3,e4,e5⟩:=N;cases hs:lQ k L _ (jp f.F _)with
 |none=>
  have R:=J.1 hs;subst R;refine⟨L,G,⟨_,_,_,rfl⟩,λ_=>?_,λe=>Ç,λe=>Ç,λe=>Ç,λe=>Ç,λe=>Ç,λe=>Ç,λe=>Ç⟩;unfold Xr;rw[M];simp only;rw[show bB b.bE=bs by omega,show Z7 f.F bs-bs=(q+1)+(Z7 f.F bs-bs-(q+1)) by omega,MR Â]
 |some p=>obtain⟨W,L2⟩:=p;obtain⟨rfl,rfl,rfl,rfl,E,O⟩:=J.2 W L2 hs;obtain⟨X,Y,m3⟩:=ż V hs;refine⟨L2,G,⟨_,_,_,rfl⟩,λe=>Ç,λ_=>o.trans hs,λ_=>⟨X,hk.aA Y⟩,λ_=>E.y H (E.rw.gH (h.g2.gl I).l Ã) G.n,λ_=>U,λ_=>⟨rfl,λe=>?_⟩,λ_=>aE ⟨À,rfl⟩,λ_=>O⟩;rw[m3<|by rw[hk.aP];grind,<-(h.tn rfl).1];exact(h.tn rfl).2 À
def Av.Ck{w i f e a L1 bs Z B q k L s l t g c}(h:Av w i f e a L1 bs Z B q ao k L s l t g c)(o:Xc e f.F=ac (a,L1)/\a.bE=(bs:Int)/\bs<4294967296/\a.tc=(f.bA:Int)/\a.bJ=f.bJ)(x:¬(bs+q<9999/\jp f.F ((bs+q+1:Nat):Int)≠[])):vQ w i f e ao k L s l t g c:=by have p:=(h.up rfl).trans<|IH x;obtain⟨j,y,z,m,n⟩:=o;have b:=(h.ok rfl).2;refine aE ⟨rfl, ?_,(h.tn rfl).1,b.tc.trans m,b.bJ.trans n,h.st rfl, ?_,h.rc rfl⟩;unfold Xr;rw[j];simp only;rw[show bB a.bE=bs by omega,show Z7 f.F bs-bs=q by omega,h.lo rfl];obtain⟨r,d,v⟩|⟨r,d⟩:=h.ls rfl;exact aE ⟨d,by rw[b.aP,b.bE];grind,by rw[<-(h.tn rfl).1];exact v⟩;exact aF<|by rw[d,b.aP,p]
def xlx(C f K w)(h:jeo C f K w):aG prog 128 #[zo C] w<|J' w<|Xr K f.F:=by
 have H:=h;clear h;go_enter func128.1,Tryz.ntmps128;go_wp2;have Z1:aK<|xh (aB w<|aq (mA ao) 207) (ak w.heap) (mA ao) 207:=xh.dT _ _ _;have n1:aK<|Nw w<|aB w<|aq (mA ao) 207:=zj.E _;unfold mA at Z1 n1;generalize aB w (aq _ 207)=w1 at*;refine(H.man _ n1.o).mono λe O hp=>?_;obtain⟨d,a,i,c,k,l,t,g,r,rfl,Z,hq⟩:=hp.Fp;have HQ:=hq;have N2:=Z;have G:aK<|Lg w (aB O<|aq (LV d (az a i c) k l t g r) 207) (ak w.heap) (ak O.heap)<|LV d (az a i c) k l t g r:=by have T:=Z1.o.lt;have U:=Z.J;exact⟨(Z1.o.y Z id).E _,xh.dT _ _ _,(n1.o.aA Z).aA<|zj.E _,zd _,À,À⟩
 obtain⟨j,L1,D,Y⟩:∃(j:Lk) (L1:KV) (D:Nat),(Xc K f.F=ar/\d=aw)\/(Xc K f.F=ac (j,L1)/\d=ao/\k=j/\l=0/\t=ao/\eD w1 O 157 2 jT (az a i c) (fR L1)/\pd f j L1/\j.cE=ao/\j.tc=(f.bA:Int)/\j.bJ=f.bJ/\j.bE=(D:Int)/\D<4294967296):=by cases hs:Xc K f.F with|none=>exact⟨K,[],0,aF ⟨rfl,hq.1 hs⟩⟩|some q=>obtain⟨j,L1⟩:=q;obtain⟨T,U,J,h4,b,V,h6⟩:=H.st j L1 hs;obtain⟨q1,q2,q3,q4,q5⟩:=hq.2 j L1 hs;exact⟨j,L1,b,aE ⟨rfl,q1,q2,q3,q4,q5,T,U,J,h4,V,h6⟩⟩
 obtain⟨kk,b1,HI⟩:∃kk,aK (kk.bE=k.bE)/\aK (Av w (aB O<|aq (LV d (az a i c) k l t g r) 207) f K j L1 D (ak w.heap) (ak O.heap) 0 d kk L1 (az a i c) l t g r):=by obtain⟨T,rfl⟩|⟨T,rfl,rfl,rfl,rfl,U,J,h4,V,h6,h7,h8⟩:=Y;exact⟨k,rfl,G.o,⟨_,_,_,rfl⟩,λ_=>by unfold Xr;rw[T],λe=>Ç,λe=>Ç,λe=>Ç,λe=>Ç,λe=>Ç,λe=>Ç,λe=>Ç⟩;refine⟨{k with aP:=(Z7 f.F D:Int)},rfl,G.o,⟨_,_,_,rfl⟩,λe=>Ç,λ_=>rfl,λ_=>⟨⟨J.m,J.ml,J.ep,J.bA,J.dO,J.nd,J.gp,J.ks⟩,rfl,rfl,rfl,rfl,rfl,rfl,rfl⟩,λ_=>(U.bE n1.o).gl<|zj.E _,λ_=>rfl,λ_=>⟨h4.symm,λ_=>rfl⟩,λ_=>aF ⟨rfl,rfl,rfl⟩,λ_ e=>?_⟩;simp_all
 have bi:aK<|d=ao->wrap64 (k.bE+1)=(D:Int)+1:=by intro e;obtain⟨_,h⟩|⟨_,_,rfl,_,_,_,_,_,_,_,h7,h8⟩:=Y;simp_all;rw[h7];unfold wrap64;omega
 have HS:aK<|d=ao->Xc K f.F=ac (j,L1)/\j.bE=(D:Int)/\D<4294967296/\j.tc=(f.bA:Int)/\j.bJ=f.bJ:=by intro e;obtain⟨_,h⟩|⟨T,_,rfl,_,_,_,_,_,V,h6,h7,h8⟩:=Y;simp_all;simp_all
 clear hp hq Z Y G HQ;have c6:ae (aB O<|aq (LV d (az a i c) k l t g r) 207) (zq (ak O.heap) 6)=ac (zi k.bE):=(xh.dT _ _ _).i 6 rfl;unfold LV at HI c6⊢;go_wp2;clear c6;generalize wrap64 (k.bE+1)=I at*;have HM:=H.fV;go_loopw [4] (λiv wr=>∃(I:Int) (q:Nat) (d:Bool) (k:Lk) (L:KV) (s:Zv) (l:Int) (t:Bool) (g c:Int),iv=zi I/\(d=ao->I=((D+q:Nat):Int)+1)/\(d=ao->Xc K f.F=ac (j,L1)/\j.bE=(D:Int)/\D<4294967296/\j.tc=(f.bA:Int)/\j.bJ=f.bJ)/\Av w wr f K j L1 D (ak w.heap) (ak O.heap) q d k L s l t g c) (λi _=>bB (10000-bP i))
 case atStart=>exact⟨I,0,d,kk,L1,_,l,t,g,r,rfl,bi.o,HS.o,HI.o⟩
 case round=>
  clear HI HS bi b1;obtain⟨I,q,d,k,L,s,l,t,g,c,rfl,T,U,J⟩:=hrel;have B:=J;obtain⟨sa,si,sj,hs⟩:=J.sl;subst hs;clear J;have HX:aK<|∀wx,Nw w wx->Ju wx C f:=λwx h=>H.dS.y h;by_cases X:d=ao/\I<=9999/\jp f.F I≠[]
  case neg=>
   have HE:aK<|vQ w wr f K d k L (az sa si sj) l t g c:=by cases d with|true=>exact aF ⟨rfl,B.pc rfl⟩|false=>refine B.Ck (U rfl) λe=>X ⟨rfl, ?_, ?_⟩;grind;grind
   have HG:=B.g2;have bj:aK<|d=ao->I<=9999->jp f.F I=[]:=λe1 e2=>jg λe3=>X ⟨e1,e2,e3⟩;clear X T U B;have b4:=H.bA;have S:=H.dS.y HG.n;have d0:=HG.l.dJ;have bh:=λa b:Zl=>show((st a).toList==(st b).toList)=bI (a=b) by grind [xl]
   have bt:=bh k.dO f.bJ;have bu:=bh k.eS f.bJ;clear bh;have b6:IntKind.i64.wrap ((f.bA:Int)+1)=(f.bA:Int)+1:=Ì
   have br:d=aw\/(d=ao/\¬I<=9999)\/(d=ao/\I<=9999/\jp f.F I=[]):=by cases d;by_cases h:I<=9999;exact aE<|aE ⟨rfl,h,bj.o rfl h⟩;simp_all;grind
   clear bj;obtain rfl|⟨rfl,h9⟩|⟨rfl,h9,bp⟩:=br
   case' inr.inr=>go_wp2;refine(Kb C f I _ S H.gp HM).mono ?_;rintro e w5⟨rfl,i5,rfl,V⟩;have h6:i5<0:=V.2 bp;clear V;go_wp2;refine(Kb C f _ _ S H.gp HM).mono ?_;rintro e w6⟨rfl,i6,rfl,-⟩
   case' inl=>skip
   case' inr.inl=>skip
   all_goals
    have bn:((k.bA:Int)=(f.bA:Int)/\k.dO=f.bJ)\/((k.bA:Int)=(f.bA:Int)/\k.dO≠f.bJ)\/((k.bA:Int)=(f.bA:Int)+1/\k.eS=f.bJ)\/((k.bA:Int)=(f.bA:Int)+1/\k.eS≠f.bJ)\/(¬(k.bA:Int)=(f.bA:Int)/\¬(k.bA:Int)=(f.bA:Int)+1):=by by_cases o:(k.bA:Int)=(f.bA:Int);by_cases p:k.dO=f.bJ;simp_all;simp_all;by_cases a3:(k.bA:Int)=(f.bA:Int)+1;by_cases a4:k.eS=f.bJ;simp_all;simp_all;omega
    rename Zy=>wz
    have M:aK<|pg k↔((k.bA:Int)=k.tc/\k.dO=k.bJ)\/((k.bA:Int)=k.tc+1/\k.eS=k.bJ):=Iff.rfl;obtain⟨o,p⟩|⟨o,p⟩|⟨o,p⟩|⟨o,p⟩|⟨o,p⟩:=bn;focus
     have HF:aK<|k.tc=(f.bA:Int)->k.bJ=f.bJ->pg k:=λe1 e2=>M.o.2<|aF ⟨À,Ë⟩;rw[jm p]at bt;have p1:((k.bA:Int)==(f.bA:Int))=aw:=ÿ
     have p2:((k.bA:Int)==(f.bA:Int)+1)=ao:=Æ
     have n2:¬(k.bA:Int)=(f.bA:Int)+1:=À
    rotate_left;focus
     have HF:aK<|k.tc=(f.bA:Int)->k.bJ=f.bJ->¬pg k:=λe1 e2 e=>by obtain⟨_,h⟩|⟨h,_⟩:=M.o.1 e;exact p<|h.trans e2;omega
     rw[jo p]at bt;have p1:((k.bA:Int)==(f.bA:Int))=aw:=ÿ
     have p2:((k.bA:Int)==(f.bA:Int)+1)=ao:=Æ
     have n2:¬(k.bA:Int)=(f.bA:Int)+1:=À
    rotate_left;focus
     have HF:aK<|k.tc=(f.bA:Int)->k.bJ=f.bJ->pg k:=λe1 e2=>M.o.2<|aE ⟨À,Ë⟩;rw[jm p]at bu;have p1:((k.bA:Int)==(f.bA:Int))=ao:=Æ
     have n1:¬(k.bA:Int)=(f.bA:Int):=À
     have p2:((k.bA:Int)==(f.bA:Int)+1)=aw:=ÿ
    rotate_left;focus
     have HF:aK<|k.tc=(f.bA:Int)->k.bJ=f.bJ->¬pg k:=λe1 e2 e=>by obtain⟨h,_⟩|⟨_,h⟩:=M.o.1 e;omega;simp_all
     rw[jo p]at bu;have p1:((k.bA:Int)==(f.bA:Int))=ao:=Æ
     have n1:¬(k.bA:Int)=(f.bA:Int):=À
     have p2:((k.bA:Int)==(f.bA:Int)+1)=aw:=ÿ
    rotate_left;focus
     have HF:aK<|k.tc=(f.bA:Int)->k.bJ=f.bJ->¬pg k:=λe1 e2 e=>by obtain⟨h,_⟩|⟨h,_⟩:=M.o.1 e<;>omega
     have p1:((k.bA:Int)==(f.bA:Int))=ao:=Æ
     have p2:((k.bA:Int)==(f.bA:Int)+1)=ao:=Æ
     have n1:¬(k.bA:Int)=(f.bA:Int):=o;have n2:¬(k.bA:Int)=(f.bA:Int)+1:=p
    rotate_left;all_goals
     first|clear o p|skip
     have e8:ae wz (zq C 8)=ac (zi f.bA):=S.bO.i 8 rfl;have be:ae wz (zq C 10)=ac (zs f.bJ):=S.bO.i 10 rfl;go_wp2;go_quiet (fail);have G8:=HG.gl (zj.refl _ _).eg (v':=wz.drewN nq);have C8:=S.y (zj.refl _ _).eg (w':=wz.drewN nq);have E8:aK<|vQ w (wz.drewN nq) f K _ k L (az sa si sj) l t g c:=HE.o.gl (zj.refl _ _).eg;generalize wz.drewN nq=w8 at*;clear e8 be d0 HG S HE;have d0:=G8.l.dJ;have e8:ae w8 (zq C 8)=ac (zi f.bA):=C8.bO.i 8 rfl;have be:ae w8 (zq C 10)=ac (zs f.bJ):=C8.bO.i 10 rfl;go_wp2;go_quiet (fail);have R:=G8.gl (zj.refl _ _).eg (v':=w8.drewN nq);have E9:aK<|vQ w (w8.drewN nq) f K _ k L (az sa si sj) l t g c:=E8.o.gl (zj.refl _ _).eg;generalize w8.drewN nq=w9 at*;clear e8 be d0 G8 C8 E8;have d0:=R.l.dJ;have d1:=R.l.fN;have d2:=R.z.dJ;have d3:=R.z.fN;have bm:¬ak w.heap=ak O.heap:=R.ne;have b3:¬ak O.heap=ak w.heap:=λe=>bm e.symm;go_wp2;first
      |exact rl R.z rfl rfl rfl λv hv=>E9.o.yes HF.o R hv|exact rl (R.z.y (zj.H w9 (zq (ak O.heap) 0)<|aX aw) bm) rfl rfl rfl λv hv=>E9.o.no HF.o R hv
  case pos=>
   obtain⟨rfl,b5,bo⟩:=X;have bl:=U rfl;obtain⟨n,Z⟩:∃n:Nat,D+q+1=n:=⟨_,rfl⟩;obtain rfl:I=(n:Int):=Â
   clear T U;have b2:n<=9999:=À
   have M:=xe Z;have bb:=bo;have S:=H.dS.y B.g2.n;have bk:aK<|∀E:Bool,(E=aw↔(jp f.F ((n:Int)+1)=[]\/n=9999))->E=bI ((n:Int)=k.aP):=by
    intro E Q;have hk:=(B.ok rfl).2.aP;have hl:Z7 f.F D=Z7 f.F n:=by rw[<-M.o];exact(B.up rfl).trans<|Fd À Ë
    have hd:(n:Int)=k.aP↔Z7 f.F n=n:=by rw[hk];show(n:Int)=(Z7 f.F D:Int)↔_;rw[hl];omega
    have he:Z7 f.F n=n↔(jp f.F ((n:Int)+1)=[]\/n=9999):=by constructor;intro e;refine jg λx=>?_;have:=Fd (F:=f.F) (n:=n) À λy=>x<|aF y;grind [Fc];grind [IH]
    cases E;grind;grind
   have bc:aK<|∀E W,Nw wr W->(E=aw↔(jp f.F ((n:Int)+1)=[]\/n=9999))->aG prog 194 #[zo C,bM<|LV ao (az sa si sj) k l t g c,zi n,aX E] W (Py (Pu w (lQ k L n<|jp f.F (n:Int)) (n:Int)) W):=λE W hW Q=>(xbd C f k L _ l t g c n E b2 (bk.o E Q) (H.J _) bb (by
    have h:=(B.tn rfl);rw[<-h.1];refine h.2 ?_;have hl:Z7 f.F D=Z7 f.F n:=by rw[<-M.o];exact(B.up rfl).trans<|Fd À Ë
    grind [Fc]) w W (H.dS.y<|B.g2.n.aA hW) H.gp (H.vo.nw<|B.g2.n.aA hW) (B.ok rfl).1<|(B.st rfl).gl hW).mono λe w' h=>h.Fp
   unfold LV at bc;have d0:=B.g2.l.dJ;have d1:=B.g2.l.fN;clear Z bo bk;go_wp2;refine(Kb C f (n:Int) _ S H.gp HM).mono ?_;rintro e w5⟨rfl,i5,rfl,V⟩;have h6:¬i5<0:=λx=>bb<|V.1 x;clear V;go_wp2;refine(Kb C f _ _ S H.gp HM).mono ?_;rintro e w6⟨rfl,i6,rfl,h7⟩;have bf:∃E:Bool,(E=aw↔(jp f.F ((n:Int)+1)=[]\/n=9999))/\((i6<0/\E=aw)\/(¬i6<0/\n=9999/\E=aw)\/(¬i6<0/\¬n=9999/\E=ao)):=by by_cases o:i6<0;exact⟨aw,by simp[h7.1 o],aF ⟨o,rfl⟩⟩;by_cases p:n=9999;simp_all;exact⟨ao,by simp only[ja,false_iff,not_or];exact⟨λx=>o<|h7.2 x,p⟩,aE<|aE ⟨o,p,rfl⟩⟩
   obtain⟨E,Q,bf⟩:=bf;have bz:=xe Q;clear h7 Q;obtain⟨o,rfl⟩|⟨o,p,rfl⟩|⟨o,p,rfl⟩:=bf;rotate_left;focus
    have a3:((n:Int)==9999)=aw:=Æ
    clear p
   rotate_left;focus
    have a3:((n:Int)==9999)=ao:=Æ
    have a4:¬(n:Int)=9999:=À
    have bv:aK<|∀ba:Decidable<|i6<0,@bI (i6<0) ba=ao:=λba=>jo o;clear p
   rotate_left;all_goals
    have b0:=xe<|bc.o _ _ (zj.refl _ _) bz.o;clear bc;go_wp2;try rw[bv.o]
    with_reducible refine b0.o.mono ?_
    rintro e w7⟨bx,ax,ix,cx,kx,lx,tx,gx,rx,rfl,bg,bq⟩;have G7:=B.g2.gl bg;have bw:aK<|∃L2,Av w _ f K j L1 D (ak w.heap) (ak O.heap) (q+1) bx kx L2 (az ax ix cx) lx tx gx rx:=B.dQ bl ę (by rw[M.o];exact bb) bg (by rw[M.o];exact bq) (zj.JU w7)<|xh.vP G7.l;clear d0 d1;have d0:=G7.l.dJ;have d1:=G7.l.fN;clear G7 bq bg o;unfold LV;go_wp2;go_roundw
    case rel=>obtain⟨L2,h⟩:=bw.o;exact⟨(n:Int)+1,q+1,bx,kx,L2,_,lx,tx,gx,rx,Å,λ_=>ę,λ_=>bl,h⟩
    case measure=>simp[bP];omega
end
def PE:∀(n:Nat) {l ab:Zl} {L L':KV},wI n l ab L=ac L'->rj L->(∀p∈L,p.1<=ab)->rj L'/\3*aa L'<=3*aa L+aa l/\((∀x∈L.map (·.1),aa x<=16)->∀x∈L'.map (·.1),aa x<=16)
 |n,[],ab,L,L',h,hs,ha=>by grind [wI]|0,a::l,ab,L,L',h,hs,ha=>Ê
 |n+1,a::l,ab,L,L',h,hs,ha=>by
  unfold wI at h;split at h;rename_i k v r b;split at h;rename_i hk;have i:∀p∈L,p.1<k:=λp b=>Std.lt_of_le_of_lt (ha p b) hk;rw[ų λp b e=>Â]at h;obtain⟨c,d,f⟩:=PE n h (Y3.2 ⟨hs,List.pairwise_singleton _ _,λp b q g=>Â⟩) λp b=>Â
  grind [Wy];grind;grind
def xen{m F d L}(h:Y6 m F d=ac L):rj L/\aa L<=6000/\∀x∈L.map (·.1),aa x<=16:=by
 obtain⟨b,c,a⟩:=Option.bind_eq_some_iff.1 h;have k:m.gp<=16384:=by
  unfold sf at c;repeat' split at c
  all_goals first|omega|cases c
 unfold tr at a;repeat' split at a
 rename_i e _;obtain⟨g,i,j⟩:=PE _ a iN λp f=>by cases f
 grind [UT];all_goals cases a
theorem rj.fR{L:KV}(h:rj L):fR L=L:=IJ (Fg h.nd) h<|Ff L
def ž{f op mp a L1}(g:aa f.m=32)(h:Xc (jB f.m f.bJ (f.bA:Int) op mp) f.F=ac (a,L1)):pd f a L1/\a.cE=ao/\a.tc=(f.bA:Int)/\a.bJ=f.bJ/\∃b:Nat,a.bE=(b:Int)/\b<4294967296:=by
 unfold Xc at h;split at h;cases h;exact⟨⟨rfl,g,Zz _,show 0<4294967296 by decide,show aa Yn=32 by decide,List.nodup_nil,Zz _,Ä⟩,rfl,rfl,rfl,0,rfl,Ã⟩;split at h;rename_i ok;obtain⟨L,d,e⟩:=zv.1 h;cases e;obtain⟨j,k,c⟩:=xen d;have i:∀(l:Zl),qi (l.take 4)<4294967296:=λl=>by have d:=xV<|l.take 4;have e:256^aa (l.take 4)<=256^4:=J7 Ã Â;omega
 have c8:=(Nh ok.gp).j.1;exact⟨⟨rfl,g,ok.ep,i _,by show((uF _).take 32).length=32;grind,j.nd,À,c⟩,rfl,rfl,rfl,_,rfl,i _⟩;grind
def xkx{f k k' L L' num x}(ho:pd f k L)(h:lQ k L num x=ac (k',L'))(d:k'.cE=aw):(k.cE=aw/\k'.cN=k.cN)\/((num:Int)=k'.aP/\0<=k'.cN/\k'.cN<=(aa x:Nat)):=by
 have a:∀{k2:Lk} {L2:KV} {n:Nat},Vd k2 L2 num (aa x) n=ac (k',L')->(k2.cE=aw/\k'.cN=k2.cN)\/((num:Int)=k'.aP/\0<=k'.cN/\k'.cN<=(aa x:Nat)):=λh=>by grind [Vd]
 unfold lQ at h;split at h;split at h;cases h;split at h;rename_i k2 L2 r hr;have b:=PC _ hr ho;obtain c|c:=a h;exact aF ⟨by rw[<-b.2.cE];grind,c.2.trans b.2.cN⟩;omega;grind;grind
def Ž{f fs n k L}(ho:pd f k L)(hk:k.cE=ao):∀(r:Nat) {k':Lk} {L':KV},mJ fs n k L r=ac (k',L')->pd f k' L'/\Kq k k'/\(k'.cE=aw->0<=k'.cN/\k'.cN<=(aa (fs (bB k'.aP)):Nat)/\(n:Int)<=k'.aP)
 |0,k',L',h=>by
  cases h;exact⟨ho,⟨rfl,rfl,rfl,rfl,rfl,rfl,rfl⟩,λe=>Â⟩
 |r+1,k',L',h=>by unfold mJ at h;split at h;rename_i k2 L2 h2;obtain⟨a,i,m⟩:=Ž ho hk r h2;obtain⟨j,b,o⟩:=ż a h;refine⟨j,i.aA b,λl=>?_⟩;obtain c|⟨c,d,g⟩:=xkx a h l;rw[c.2,b.aP];grind;grind;grind
def PD{f op mp k L}(i:aa f.m=32)(h:Xr (jB f.m f.bJ (f.bA:Int) op mp) f.F=ac (k,L)):pd f k L/\(k.cE=aw->0<=k.cN/\k.cN<=(aa (jp f.F k.aP):Nat)/\k.bE<k.aP)/\0<=k.bE/\k.bE<4294967296/\k.bE<=k.aP/\k.aP<4294967296/\pg k/\k.tc=(f.bA:Int):=by
 unfold Xr at h;split at h;cases h;rename_i k1 L1 h1;obtain⟨a,e,g,o,b,d,p⟩:=ž i h1;split at h;rename_i k2 L2 h2;split at h;rename_i he;cases h;obtain⟨j,c,r3⟩:=Ž (k:={k1 with aP:=(Z7 f.F (bB k1.bE):Int)}) ⟨a.m,a.ml,a.ep,a.bA,a.dO,a.nd,a.gp,a.ks⟩ e _ h2;have l:k.bE=(b:Int):=c.bE.trans d;have n:k.aP=(Z7 f.F b:Int):=by rw[c.aP,d];rfl
 have:=Fc f.F b;refine⟨j,λq=>?_,À,À,À,À,he,c.tc.trans g⟩;grind;grind;grind
section
attribute [local go_sem] zn zg
def xig(C:Nat)(f:Rf)(w:Zy)(h:Ju w C f)(ho:f.gA=aw)(g:f.P=[]):aG prog 89 #[zo C] w λe w'=>e=ah (zi 0)/\Xf C f w f w':=by
 have c:=h;obtain⟨a,b,i⟩:=h.ps.dC;have d:ae w (zq C 11)=ac (aX aw):=ą
 have c13:ae w (zq C 13)=ac (az a 0 b):=by rw[h.bO.i 13 rfl];simp[Rf.G,i,g]
 go_enter func89.1,Tryz.ntmps89;go_wp2;try go_quiet (fail)
 try go_wp2
 go_ret;exact⟨rfl,Xf.nw c<|by grind [zj.refl]⟩
def DB(f:Rf)(d:Dk)(n:Int)(Y T:Zl)(x:Int)(f':Rf)(d':Dk):Prop:=
 ((f.bA:Int)=f.my/\x=10/\f'=f/\d'=d)\/
 (¬(f.bA:Int)=f.my/\f.bS<bK d.L+(aa Y:Int)/\x=9/\f'=f/\d'=d)\/
 (¬(f.bA:Int)=f.my/\¬f.bS<bK d.L+(aa Y:Int)/\(d.ic n Y).1=ao/\x=12/\d'=(d.ic n Y).2/\∃v F a k,f'=f.dk v F a k ao)\/
 (¬(f.bA:Int)=f.my/\¬f.bS<bK d.L+(aa Y:Int)/\(d.ic n Y).1=aw/\x=0/\d'=(d.ic n Y).2/\∃v F a k,f'=(f.dk v F a k f.gA).Au n T)
def DB.tR{f f':Rf}{d d':Dk}{n x:Int}{Y T:Zl}(h:DB f d n Y T x f' d'):f'.pv=f.pv/\f'.P=f.P/\f'.sv=f.sv/\f'.L=f.L/\f'.ep=f.ep:=by obtain⟨-,-,rfl,-⟩|⟨-,-,-,rfl,-⟩|⟨-,-,-,-,-,v,F,a,k,rfl⟩|⟨-,-,-,-,-,v,F,a,k,rfl⟩:=h<;>exact⟨rfl,rfl,rfl,rfl,rfl⟩
def WrE(C:Nat)(f:Rf)(d:Dk)(n:Int)(Y T:Zl)(w:Zy)(e:kU)(w':Zy):Prop:=∃x f' d',e=ah (zi x)/\Xf C f w f' w'/\Tw d' f'/\DB f d n Y T x f' d'
structure Px(d:Dk)(f:Rf):Prop where
 tw:Tw d f
 m:aa f.m=32
 dO:aa f.dO=32
 bA:f.bA<=1000000
 pE:bK d.L<=390000
 sg:0<=f.sg/\f.sg<=1000000000000
 bE:0<=f.bE/\f.bE<=1000000000000
def xld(C:Nat)(f:Rf)(d:Dk)(kind plain:Zl)(ep:Nat)(w:Zy)(h:Ju w C f)(ho:Px d f)(n:Yq w)(hk:aa kind=1)(o:aa plain<=1100):aG prog 132 #[zo C,zs kind,zi ep,zs plain] w<|WrE C f d f.cH.1 (f.cH.2++oU f.m f.dO kind ep f.op f.bA plain) (sH f.m f.dO kind ep f.op f.bA plain) w:=by by_cases b:(f.bA:Int)=f.my;exact(xe6 C f kind plain ep w h b).mono λe p k=>⟨10,f,d,k.1,k.2,ho.tw,aF ⟨b,rfl,rfl,rfl⟩⟩;refine(xle C f d kind plain ep w h ho.tw n ho.m ho.dO hk o ho.bA b ho.pE ho.sg ho.bE).mono λe p k=>?_;obtain⟨c,g,i⟩|⟨c,g,i,v,F,a,k,j,l⟩|⟨c,g,i,v,F,a,k,j,l⟩:=k;exact⟨9,f,d,g,i,ho.tw,aE<|aF ⟨b,c,rfl,rfl,rfl⟩⟩;exact⟨12,_,_,i,j,l,aE<|aE<|aF ⟨b,c,g,rfl,rfl,v,F,a,k,rfl⟩⟩;exact⟨0,_,_,i,j,l,aE<|aE<|aE ⟨b,c,g,rfl,rfl,v,F,a,k,rfl⟩⟩
def Rf.xA(f:Rf)(v:Zv):Rf:={f with sv:=v,L:=f.gc,pv:=az ar 0 0,P:=[]}
def Xf.xA{C:Nat}{f:Rf}{w W:Zy}{v:Zv}(h:Ju w C f)(n:Nw w W)(r:Rw W 157 2 jT v f.gc)(i:∀g,v.ownBlock=ac g->f.sv.ownBlock=ac g\/ak w.heap<=g):Xf C f w (f.xA v)<|ai (ai W (zq C 12) v) (zq C 13)<|az ar 0 0:=by
 have H:=h.y n;have b:=zj.H W (zq C 12) v;have c:Xf C f w {f with sv:=v,L:=f.gc}<|ai W (zq C 12) v:=by refine⟨(n.W λ_=>dI).aA<|b.W λx a=>aF a,⟨H.bO.H 12 v,H.fs.y b<|H.fs.gH H.bO Ã,r.y b<|r.gH H.bO Ã,H.ps.y b<|H.ps.gH H.bO Ã,h.fn⟩,λx a=>?_⟩;obtain a|a|a|a:=a;exact aF<|aF a;exact aF<|aE<|aF a;exact(i x a).imp (λe=>aE (aE<|aF e)) id;exact aF<|aE<|aE<|aE a
 exact c.aA<|Xf.iy c.dS (zj.refl _ _) (jk _ _ _ _) (zj.refl _ _)<|by intro g d;cases d
def Tw.xA{d:Dk}{f:Rf}(t:Tw d f)(v:Zv):Tw d<|f.xA v:=⟨t.bS,t.gF,t.gL,t.nA,t.nk,t.fV,t.nx,t.cE,t.jN⟩
def SyE(C:Nat)(f:Rf)(d:Dk)(n:Int)(Y T:Zl)(w:Zy)(e:kU)(w':Zy):Prop:=∃x f' d',e=ah (zi x)/\DB f d n Y T x f' d'/\(x≠0->Xf C f w f' w'/\Tw d' f')/\(x=0->∃v,Xf C f w (f'.xA v) w'/\Tw d' (f'.xA v))
def xl9(C:Nat)(f:Rf)(d:Dk)(w:Zy)(h:Ju w C f)(hw:Px d f)(hT:Yq w)(ho:f.gA=aw)(hP:f.P≠[])(p:aa f.P<=20)(z:∀c∈f.P,uD c)(B:aa (Z5 f.P)<=1100)(hL:aa f.L<=200000000000):aG prog 89 #[zo C] w<|SyE C f d f.cH.1 (f.cH.2++oU f.m f.dO [82] f.ep f.op f.bA (Z5 f.P)) (sH f.m f.dO [82] f.ep f.op f.bA<|Z5 f.P) w:=by
 have n:=h;have U:=hT;have S:=hw;have Q:=z;obtain⟨a,j,t⟩:=h.ps.dC;have y:=t;have Y:ae w (zq C 11)=ac (aX aw):=ą
 have c13:ae w (zq C 13)=ac (az a (aa f.P) j):=by rw[h.bO.i 13 rfl];simp[Rf.G,t]
 have q1:((aa f.P:Int)==0)=ao:=by simpa using hP
 have E:∀k,Nw w k->ae k (zq C 13)=ac (az a (aa f.P) j)/\ae k (zq C 14)=ac (zi f.ep):=λk hw=>⟨by rw[(n.y hw).bO.i 13 rfl];simp[Rf.G,y],(n.y hw).bO.i 14 rfl⟩;go_enter func89.1,Tryz.ntmps89;go_wp2;have X:=E _<|zj.refl _ _;have b:Nw w w.drew:=(zj.refl _ _).U;go_region_held3 (λk=>ae k (zq C 13)=ac (az a (aa f.P) j)/\ae k (zq C 14)=ac (zi f.ep)) (first|exact X|exact F)
  (first
   |(go_at_call 133;refine(xkk _ f.P p Q _<|by have:=(n.y b).ps;rw[y]at this;omega).mono ?_;rintro e w3⟨rfl,hb⟩;replace b:=b.aA<|zj.Q hb;have F:=E _ b)
   |(go_at_call 132;refine(xld C f d [82] (Z5 f.P) f.ep _ (n.y b) S (U.nw b) rfl B).mono ?_;rintro e D⟨x,l,H,rfl,r,I,s⟩;have F:ae D (zq C 13)=ac (az a (aa f.P) j)/\ae D (zq C 14)=ac (aH aU (f.ep:Int)):=⟨by rw[r.dS.bO.i 13 rfl];simp[Rf.G,s.tR,y],by rw[r.dS.bO.i 14 rfl];simp[Rf.G,s.tR]⟩;have g:=r;have o:=I;have i:=s;clear r I s))
 replace g:Xf C f w l D:=(Xf.nw n b).aA g;by_cases M:x=0
 case neg=>have W:=M;go_wp2;go_ret;exact⟨x,l,H,rfl,i,λ_=>⟨g,o⟩,λe=>(W e).elim⟩
 case pos=>subst M;go_wp2;refine(MV C l _ g.dS (by rw[i.tR.c.1];exact hL)<|by rw[i.tR.2.1];exact p).mono ?_;rintro e O⟨v,rfl,J,K,t⟩;have q:=g.dS.y J;have Z:ae O (zq C 12)=ac l.sv:=q.bO.i 12 rfl;have ba:ae O (zq C 13)=ac l.pv:=q.bO.i 13 rfl;have bb:=q.bO.dG 12;have bc:=q.bO.dG 13;obtain⟨a2,G,rfl⟩:=K.dC;have R:=J;have T:=K;have V:=t;go_wp2;go_ret;exact⟨0,l,H,rfl,i,λe=>(e rfl).elim,λ_=>⟨_,g.aA<|Xf.xA g.dS R T V,o.xA _⟩⟩
def xih(C:Nat)(f:Rf)(w:Zy)(h:Ju w C f)(ho:f.gA=ao):aG prog 89 #[zo C] w λe w'=>e=ah (zi 5)/\w'=w:=by
 have a:ae w (zq C 11)=ac (aX ao):=ą
 go_enter func89.1,Tryz.ntmps89;go_wp2;go_ret;simp
abbrev FL:=List<|Int×Zl
def rS:Int->Int->FL->Bool
 |_,_,[]=>aw|a,r,x::l=>(bI (a<x.1)&&(bI (0<aa x.2)&&bI ((aa x.2:Int)<=r)))&&rS x.1 (r-aa x.2) l
def Wc(r:Int)(l:FL):Bool:=bI (aa l<=40)&&rS (-1) r l
def rR(l:FL):Xv:=l.map λx=>(x.1,x.2,(aa x.2:Int))
def sQ(l:FL):Int:=(l.map λx=>(aa x.2:Int)).sum
def po(l:FL):Nat->Int
 |0=>-1|j+1=>(l[j]?.getD (-1,[])).1
def Δ{l k}(h:k<aa l)(r):rS (po l k) r (l.drop k)=((bI (po l k<l[k].1)&&(bI (0<aa l[k].2)&&bI ((aa l[k].2:Int)<=r)))&&rS (po l<|k+1) (r-aa l[k].2) (l.drop<|k+1)):=by grind [Zx,rS,po]
def xj6{l:FL}{k}(h:k<aa l):sQ (l.take<|k+1)=sQ (l.take k)+(aa l[k].2:Int):=by grind [sQ,zp]
def Rf.eV(f:Rf)(l:FL)(a:Int)(f':Rf):Prop:=if f.gA=aw then a=4/\f'=f else if Wc f.bS l=ao then a=3/\f'=f else a=0/\∃v,f'={f with fv:=v,F:=rR l}
def jen(C:Nat)(f:Rf)(l:FL)(w:Zy)(e:kU)(w':Zy):Prop:=∃a f',e=ah (zi a)/\Xf C f w f' w'/\f.eV l a f'
def Rw.sY{α:Type}{w e g v l}{u:α->Zv}(r:Rw w e 1 g v l)(j:∀a,g a=[u a]){i}(c:i<aa l){a n cap}(d:v=az a n cap):∃b,a=ac ⟨b,0,ar⟩/\ae w (zq b i)=ac (u l[i]):=by obtain⟨b,h,f⟩:=r.kq (λx=>Â) c d;grind
structure LdI(w wr:Zy)(f:Rf)(l:FL)(v:Zv)(k:Nat):Prop where
 ou:eD w wr 159 3 lp v<|rR<|l.take k
 ok:rS (-1) f.bS l=rS (po l k) (f.bS-sQ (l.take k)) (l.drop k)
 s0:0<=sQ (l.take k)
 s1:sQ (l.take k)<=f.bS
 a1:-1<=po l k
def xlw(C f l nv bv)(hl:aa l<=1000000000)(hr:0<=f.bS/\f.bS<=1000000)(hb:∀x∈l,aa x.2<=1000000000)(w)(h:Ju w C f)(g:Rw w 3 1 rk nv (l.map (·.1)))(d:Rw w 9 1 oh bv (l.map (·.2))):aG prog 86 #[aR<|some ⟨C,0,ar⟩,nv,bv] w<|jen C f l w:=by
 obtain⟨an,cn,hn⟩:=g.dC;obtain⟨ab,cb,hv⟩:=d.dC;rw[jl]at hn hv;subst hn hv;have H:=h;have HN:=g;have HB:=d;have HL:=hb;have J:ae w ⟨C,11,ar⟩=ac (aX f.gA):=h.bO.i 11 rfl;have c0:ae w ⟨C,0,ar⟩=ac (aH aU f.bS):=h.bO.i 0 rfl;cases ho:f.gA;rotate_left
 ·rw[ho]at J;have p:aK<|f.eV l 4 f:=by show Rf.eV _ _ _ _;unfold Rf.eV;rw[if_pos ho];exact⟨rfl,rfl⟩
  go_enter func86.1,Tryz.ntmps86;go_wp2;go_ret;exact⟨4,f,rfl,.refl H,p.o⟩
 rw[ho]at J;have p:aK<|Wc f.bS l=ao->f.eV l 3 f:=λe=>by grind [Rf.eV]
 have HG:Wc f.bS l=aw->∀v,f.eV l 0 {f with fv:=v,F:=rR l}:=λe v=>by grind [Rf.eV]
 by_cases bc:aa l<=40;rotate_left
 ·replace p:=xe (p.o<|by grind [Wc]);have i1:(40:Int)<(aa l:Nat):=by omega
  go_enter func86.1,Tryz.ntmps86;go_wp2;go_ret;exact⟨3,f,rfl,.refl H,p.o⟩
 have HS:aK<|Wc f.bS l=rS (-1) f.bS l:=by show _=_;unfold Wc;rw[jm bc];rfl
 rw[HS.o]at p HG;have i1:¬(40:Int)<(aa l:Nat):=À
 obtain⟨bi,bj⟩:=hr;go_enter func86.1,Tryz.ntmps86;go_wp2;go_loopw [7,8,9] (λs v i wr=>∃k:Nat,k<=aa l/\i=aH aU k/\s=aH aU (sQ<|l.take k)/\LdI w wr f l v k) (λ_ _ i _=>bB (aa l-bP i))
 case atStart=>exact⟨0,À,rfl,rfl,eD.nil _,by simp[sQ,po],by simp[sQ],by simp[sQ];omega,by simp[po]⟩
 case round=>
  obtain⟨k,hk,rfl,rfl,S⟩:=hrel;have o:=S;have A:=H.y S.ou.nw;have c0:ae wr ⟨C,0,ar⟩=ac (aH aU f.bS):=A.bO.i 0 rfl;have c3:ae wr ⟨C,3,ar⟩=ac f.fv:=A.bO.i 3 rfl;have f3:=A.bO.dG 3;have bk:=S.s0;have bl:=S.s1;have bg:=S.a1;by_cases b:k<aa l
  ·have i1:(k:Int)<(aa l:Nat):=by omega
   have i0:(0:Int)<=(k:Int):=À
   have bd:k<aa (l.map (·.1)):=by rw[jl];exact b
   have T:k<aa (l.map (·.2)):=by rw[jl];exact b
   obtain⟨gn,rfl,e0⟩:=(HN.y o.ou.nw λ_ _=>id).sY (u:=aH aU) (λ_=>rfl) bd rfl;obtain⟨gb,rfl,e1⟩:=(HB.y o.ou.nw λ_ _=>id).sY (u:=λx=>aj (st x)) (λ_=>rfl) T rfl;rw[CD]at e0 e1;have V:aK<|rS (-1) f.bS l=_:=o.ok.trans<|Δ b _;have hx:=HL _<|Xk b;have t:aK<|po l (k+1)=l[k].1:=by simp[aK,po,b]
   have c:=xj6 b;have G:aK<|rR (l.take<|k+1)=rR (l.take k)++[(l[k].1,l[k].2,(aa l[k].2:Int))]:=by show _=_;unfold rR;rw[zp b,qz];rfl
   have bh:aa (rR<|l.take k)<=40:=by unfold rR;rw[jl,xf];omega
   have B:(k=0/\po l k= -1)\/∃j:Nat,k=j+1/\(j:Int)<(aa l:Nat)/\ae wr ⟨gn,j,ar⟩=ac (aH aU<|po l k):=by
    cases k with
    |zero=>exact aF ⟨rfl,rfl⟩
    |succ j=>
     have hj:j<aa (l.map (·.1)):=by rw[jl];omega
     obtain⟨g2,E,e3⟩:=(HN.y o.ou.nw λ_ _=>id).sY (u:=aH aU) (λ_=>rfl) hj rfl;cases E;rw[CD]at e3;refine aE ⟨j,rfl,À,e3.trans ?_⟩;grind [po]
   have y:=o.ou;clear o;generalize po l k=a at*;generalize sQ (l.take k)=q at*;generalize rR (l.take k)=O at*;generalize l[k].1=n at*;generalize l[k].2=x at*;have m:(n<0\/(¬n<0/\0<k/\n<=a)\/(¬n<0/\(0<k->¬n<=a)/\aa x=0)\/(¬n<0/\(0<k->¬n<=a)/\0<aa x/\f.bS<q+(aa x:Int)))\/(¬n<0/\(0<k->¬n<=a)/\0<aa x/\¬f.bS<q+(aa x:Int)):=À
   have K:=e0;have L:=e1;obtain m|⟨g,d,Q,h4⟩:=m;focus
    have D:aK<|rS (-1) f.bS l=ao:=by show _=_;rw[V.o];obtain h|⟨-,-,h⟩|⟨-,-,h⟩|⟨-,-,-,h⟩:=m;grind;grind;grind;grind
    clear V t c G;obtain g|⟨g,d,Q⟩|⟨g,d,Q⟩|⟨g,d,Q,h4⟩:=m;all_goals obtain⟨rfl,E⟩|⟨j,rfl,j1,E⟩:=B
    all_goals
     try replace d:=d À
     try have M:=jo g
     try have z:((aa x:Int)==0)=aw:=by simp[Q]
     try have z:((aa x:Int)==0)=ao:=è
     try have bb:=jo d
     try have j0:(0:Int)<(j:Int)+1:=À
    all_goals
     first
      |(exfalso;omega)
      |(go_wp2;go_big_quiet (fail);have U:Nw w<|wr.drewN nq:=y.nw.aA (zj.refl _ _).eg;generalize wr.drewN nq=w4 at*;go_wp2;go_ret;exact⟨3,f,rfl,.nw H U,p.o D.o⟩)
   have R:a<n:=by obtain⟨rfl,e⟩|⟨j,rfl,-⟩:=B;omega;omega
   have D:aK<|rS (-1) f.bS l=rS (po l<|k+1) (f.bS-sQ (l.take<|k+1)) (l.drop<|k+1)/\0<=sQ (l.take<|k+1)/\sQ (l.take<|k+1)<=f.bS/\ -1<=po l (k+1):=by refine⟨?_,by rw[c];omega,by rw[c];omega,by rw[t.o];omega⟩;rw[V.o,jm R,jm Q,jm (show(aa x:Int)<=f.bS-q by omega),c,Int.sub_sub];rfl
   have HQ:∀W,Nw wr W->ae W ⟨gn,k,ar⟩=ac (aH aU n)/\ae W ⟨gb,k,ar⟩=ac (aj<|st x):=λW h=>⟨h.i id K,h.i id L⟩;have Y:aK<|sQ (l.take<|k+1)=q+(aa x:Int):=c;clear V t c R K L;have M:=jo g;have z:((aa x:Int)==0)=ao:=è
   obtain⟨rfl,E⟩|⟨j,rfl,j1,E⟩:=B;all_goals
    try replace d:=d À
    try have bb:=jo d
    try have j0:(0:Int)<(j:Int)+1/\(j:Int)+1<(aa l:Nat)/\(0:Int)<=(j:Int)+1:=À
    go_wp2;go_big_quiet (fail);have U:Nw wr<|wr.drewN nq:=(zj.refl _ _).eg;have I:=y.gl U;have r:=HQ _ U;generalize wr.drewN nq=w4 at*;have HC:aK<|lp (n,x,(aa x:Int))=[aH aU n,aj<|st x,aH aU (aa x:Int)]:=rfl;have ba:eD w (aB w4<|aq #[aH aU n,aj<|st x,aH aU (aa x:Int)] 159).drew 159 3 lp _ O:=I.gl (zj.E _).U;have XA:xh (aB w4<|aq #[aH aU n,aj<|st x,aH aU (aa x:Int)] 159).drew (ak w4.heap) #[aH aU n,aj<|st x,aH aU (aa x:Int)] 159:=xh.dT w4 _ _;clear e0 e1 E c0 c3 f3 M z y I HQ A;go_wp2;go_region_law (first|(refine eD.pW zU (n,x,(aa x:Int)) ba À XA HC.o rfl (zT _) rfl rfl rfl rfl ?_;intro g3 be w6 hR;have Z:=hR;clear hR));all_goals
     go_wp2;go_roundw
     case rel=>exact⟨_,À,Å,by rw[Y.o],by rw[G.o];exact Z,D.o.1,D.o.2.1,D.o.2.2.1,D.o.c⟩
     grind [bP]
  obtain rfl:k=aa l:=À
  have i1:¬(aa l:Int)<(aa l:Nat):=À
  have y:=o.ou;have HK:=o.ok;rw[Vl]at HK;rw[jz]at y;have HT:Xf C f w {f with fv:=_,F:=rR l}<|ai wr ⟨C,3,ar⟩ _:=Xf.gY H y;have X:=HG (by rw[HK];rfl);obtain⟨a9,bf,rfl⟩:=y.dC;go_wp2;go_ret;exact⟨0,_,rfl,HT,X _⟩
def JZ(w:Zy)(v:Zv)(l:FL):Prop:=∃p g cap,v=az p (aa l) cap/\(l≠[]->p=ac ⟨g,0,ar⟩)/\∀i (h:i<aa l),ae w (zq g<|i*2)=ac (zi l[i].1)/\ae w (zq g<|i*2+1)=ac (aj<|st l[i].2)
def zyw(D d v l)(T:0<=d.bS/\d.bS<=1000000)(hl:aa l<=1000000000)(I:∀x∈l,aa x.2<=1000000000)(w)(h:Jt w D d)(U:JZ w v l):
  aG prog 77 #[zo D,v] w λe w'=>e=ah (aX<|Wc d.bS l)/\Nw w w':=by
 obtain⟨p,g,S,rfl,y,q⟩:=U;have Q:=y;have O:aK<|∀W,Nw w W->∀i (h:i<aa l),ae W (zq g<|i*2)=ac (zi l[i].1)/\ae W (zq g<|i*2+1)=ac (aj<|st l[i].2):=λW n i h=>⟨n.i id (q i h).1,n.i id (q i h).2⟩;have M:=I;have H:ae w (zq D 0)=ac (zi d.bS):=h.bO.i 0 rfl;clear y q h I;by_cases o:aa l<=40;rotate_left
 ·have s:aK<|Wc d.bS l=ao:=by show _=_;unfold Wc;rw[jo o];rfl
  have K:(40:Int)<(aa l:Nat):=À
  go_enter func77.1,Tryz.ntmps77;go_wp2;go_ret;exact⟨by rw[s.o];rfl,zj.refl _ _⟩
 have s:aK<|Wc d.bS l=rS (-1) d.bS l:=by show _=_;unfold Wc;rw[jm o];rfl
 have K:¬(40:Int)<(aa l:Nat):=À
 obtain⟨C,E⟩:=T;go_enter func77.1,Tryz.ntmps77;go_wp2;go_quiet (fail);have R:aK<|Nw w<|w.drewN nq:=(zj.refl _ _).eg;generalize w.drewN nq=w1 at*;clear H K;go_wp2;go_loopw [5,6,18] (λa r i wr=>∃(k:Nat) (c:Int),k<=aa l/\a=zi (po l k)/\r=zi c/\i=zi k/\Nw w wr/\(0<=c/\c<=1000000)/\aK (Wc d.bS l=rS (po l k) c (l.drop k))) (λ_ _ i _=>bB (aa l-bP i))
 case atStart=>exact⟨0,_,À,rfl,rfl,rfl,R.o,⟨C,E⟩,s⟩
 case round=>
  obtain⟨k,c,hk,rfl,rfl,rfl,J,⟨h0,h1⟩,t⟩:=hrel;have B:=J;clear J s;by_cases f:k<aa l
  ·have V:(k:Int)<(aa l:Nat):=by omega
   have i2:(0:Int)<=(k:Int):=À
   obtain rfl:=Q (λe=>Â);obtain⟨H,Z⟩:=O.o _ B k f;have b:aK<|Wc d.bS l=_:=t.o.trans<|Δ f c;have hx:=M _<|Xk f;have L:aK<|po l (k+1)=l[k].1:=by simp[aK,po,f]
   clear t;generalize po l k=a at*;generalize l[k].1=n at*;generalize l[k].2=x at*;have G:aK<|Nw w<|aB wr<|aq #[zi n,zs x] 110:=B.aA<|zj.E _;have Y:aK<|xh (aB wr<|aq #[zi n,zs x] 110) (ak wr.heap) #[zi n,zs x] 110:=xh.dT _ _ _;have q:n<=a\/(¬n<=a/\x=[])\/(¬n<=a/\x≠[]/\c<(aa x:Int))\/(¬n<=a/\x≠[]/\¬c<(aa x:Int)):=by by_cases z:n<=a;omega;grind
   obtain z|⟨z,j⟩|⟨z,j,X⟩|⟨z,j,X⟩:=q;focus
    have m:aK<|Wc d.bS l=ao:=by show _=_;rw[b.o,jo À];rfl
    clear b
   rotate_left;focus
    subst j;have m:aK<|Wc d.bS l=ao:=by show _=_;rw[b.o];simp
    have j:((st []).toList==[])=aw:=by rw[xl];rfl
    clear b
   rotate_left;focus
    have m:aK<|Wc d.bS l=ao:=by show _=_;rw[b.o,jo (show¬(aa x:Int)<=c by omega)];simp
    have F:((st x).toList==[])=ao:=by rw[xl];simpa using j
    clear b j
   rotate_left;focus
    have y:0<aa x:=Z0.2 j;have m:aK<|Wc d.bS l=rS (po l<|k+1) (c-(aa x:Int)) (l.drop<|k+1):=by show _=_;rw[b.o,jm (show a<n by omega),jm y,jm (show(aa x:Int)<=c by omega)];rfl
    have F:((st x).toList==[])=ao:=by rw[xl];simpa using j
    clear b j;go_wp2;exact⟨⟨k+1,_,À,by rw[L.o],rfl,Å,G.o,À,m⟩,ê⟩
   all_goals
    go_wp2;go_ret;exact⟨by rw[m.o];rfl,G.o⟩
  have V:¬(k:Int)<(aa l:Nat):=À
  rw[List.drop_of_length_le À]at t;go_wp2;go_ret;exact⟨by rw[t.o];rfl,B⟩
def xeg{P w}{t g e:Zt}{m L}(f:P.underlying t=ac (.map g e))(h:qB w m L)(ty:Zt):∃w',(Builtin.clear_ #[t] ty #[eK<|some m]).run P w=cT (bU #[]) w'/\zj (·=m) w w'/\qB w' m []:=by obtain⟨i,a,d,k,b⟩:=h;have c:=(za.1 d).1;refine⟨{w with heap:=ay w.heap m<|.map #[] a}, ?_,⟨rfl,rfl,Ä,λj _ l=>Â⟩,_,_,Yv c,by unfold oG;simp,by simp[MapKept.Stamped]⟩;simp[Builtin.clear_,xo f,bG,Yg d,yd d]
def xC(F:Xv)(l:FL):Xv:=l.foldl (λF x=>lO F x.1 (x.2,aa x.2)) F
def xoj(F)(l:FL)(k)(h:k<aa l):xC F (l.take<|k+1)=lO (xC F<|l.take k) l[k].1 (l[k].2,aa l[k].2):=by grind [xC,zp]
def Dk.eV(d:Dk)(l:FL):Int×Dk:=if Wc d.bS l=aw then(0,{d with L:=xC [] l})else(3,d)
def xlv(D d v l)(hr:0<=d.bS/\d.bS<=1000000)(hl:aa l<=1000000000)(hb:∀x∈l,aa x.2<=1000000000)(w)(h:Jt w D d)(hv:JZ w v l):
  aG prog 48 #[zo D,v] w λe w'=>e=ah (aH aU (d.eV l).1)/\zj (·=d.M) w w'/\Jt w' D (d.eV l).2:=by
 have CH:=zyw D d v l hr hl hb w h hv;obtain⟨p,g,cap,rfl,hp,hc⟩:=hv;have HD:=h;have HP:=hp;have HC:aK (∀W,zj (·=d.M) w W->∀i (h:i<aa l),ae W (zq g<|i*2)=ac (zi l[i].1)/\ae W (zq g<|i*2+1)=ac (aj<|st l[i].2)):=λW n i hi=>by
  have hg:g≠d.M:=λe=>by obtain⟨es,c,h1,_⟩:=h.iQ;grind [ae]
  exact⟨n.i hg (hc i hi).1,n.i hg (hc i hi).2⟩
 clear hr h hp hc hb;unfold Dk.eV;cases hH:Wc d.bS l
 ·rw[hH]at CH;simp only[ja,if_false];clear hH;go_enter func48.1,Tryz.ntmps48;go_wp2;refine CH.mono ?_;rintro e w1⟨rfl,hn1⟩;have HN:=hn1;clear hn1;go_wp2;go_ret;exact⟨rfl,HN.W λ_ x=>x.elim,HD.y HN λ_ _=>id⟩
 rw[hH]at CH;simp only[if_true];clear hH;go_enter func48.1,Tryz.ntmps48;go_wp2;refine CH.mono ?_;rintro e w1⟨rfl,hn1⟩;have HD1:=HD.y (S:=λ_=>False) hn1 λ_ _=>id;have c1:ae w1 (zq D 1)=ac (eK<|some d.M):=HD1.bO.i 1 rfl;obtain⟨w2,hcl,hb2,hm2⟩:=xeg (P:=prog) vm HD1.iQ 0;have HD2:=Jt.o9 (S:=λ_=>False) HD1 hb2 hm2;have B2:aK (zj (·=d.M) w w2):=(hn1.W λ_ x=>x.elim).aA hb2;clear hb2 hm2 hn1;go_wp2;clear hcl c1;go_loopw [17] (λi wr=>∃k:Nat,k<=aa l/\i=zi k/\zj (·=d.M) w wr/\Jt wr D {d with L:=xC []<|l.take k}) (λi _=>bB (aa l-bP i))
 case atStart=>exact⟨0,À,rfl,B2.o,HD2⟩
 case round=>
  obtain⟨k,hk,rfl,hb,hd⟩:=hrel;have HB:=hb;have HDk:=hd;clear hb hd;by_cases hlt:k<aa l
  ·have i1:(k:Int)<(aa l:Nat):=by omega
   have i2:(0:Int)<=(k:Int):=À
   obtain rfl:=HP (λe=>Â);obtain⟨c0,c1⟩:=HC.o _ HB k hlt;have HT:=xoj [] l k hlt;generalize xC [] (l.take k)=F at*;generalize l[k].1=n at*;generalize l[k].2=x at*;have N1:Nw wr<|aB wr<|aq #[zi n,zs x] 110:=zj.E _;have X1:xh (aB wr<|aq #[zi n,zs x] 110) (ak wr.heap) #[zi n,zs x] 110:=xh.dT _ _ _;go_wp2;generalize aB wr (aq #[zi n,zs x] 110)=wa at*;have HSC:∀W,Nw wa W->ae W (zq D 1)=ac (eK<|some d.M)/\ae W (zq (ak wr.heap) 0)=ac (zi n)/\ae W (zq (ak wr.heap) 1)=ac (zs x):=λW h=>⟨(N1.aA h).i id<|HDk.bO.i 1 rfl,h.i id<|X1.i 0 rfl,h.i id<|X1.i 1 rfl⟩;have HDM:D≠d.M/\ak wr.heap≠d.M:=⟨λe=>HDk.yf e.symm,Jk HDk.iQ.lt⟩;have S0:=HSC _<|zj.refl _ _;clear c0 c1;go_region_held3 (λw'=>ae w' (zq D 1)=ac (eK<|some d.M)/\ae w' (zq (ak wr.heap) 0)=ac (zi n)/\ae w' (zq (ak wr.heap) 1)=ac (zs x)) (first|exact S0|exact S1|exact S2)
   ((go_at_call 78;refine(Ij x _).mono ?_;rintro e w4⟨rfl,hb4⟩;have N4:Nw wa w4:=(zj.refl _ _).U.aA<|zj.Q hb4;have S1:=HSC _ N4;obtain⟨w5,hrun,hb5,hs5⟩:=SY (P:=prog) vm fd (HDk.iQ.y (S:=λ_=>False) (N1.aA N4) id) n (x,(aa x:Int));have S2:=And.intro (hb5.i HDM.1 S1.1)<|And.intro (hb5.i HDM.2 S1.2.1)<|hb5.i HDM.2 S1.2.2))
   have B5:aK (zj (·=d.M) w w5):=(HB.aA<|(N1.aA N4).W λ_ x=>x.elim).aA hb5;have D5:Jt w5 D {d with L:=xC []<|l.take<|k+1}:=by show Jt _ _ _;rw[HT];exact Jt.o9 (S:=λ_=>False) (d:={d with L:=F}) (HDk.y (S:=λ_=>False) (N1.aA N4) λ_ _=>id) hb5 hs5
   clear hb5 hs5 hrun S1 S2 S0 hb4;go_wp2;go_roundw
   case rel=>exact⟨k+1,À,Å,B5.o,D5⟩
   grind [bP]
  have i1:¬(k:Int)<(aa l:Nat):=À
  obtain rfl:k=aa l:=À
  rw[jz]at HDk;go_wp2;go_ret;exact⟨rfl,HB,HDk⟩
def Sr.eV(r:Sr)(l:FL):Int×Sr:=if r.sn.isSome then(4,r)else((r.d.eV l).1,{r with d:=(r.d.eV l).2})
def xid(B r v l)(y:0<=r.d.bS/\r.d.bS<=1000000)(t:aa l<=1000000000)(f:∀x∈l,aa x.2<=1000000000)(w)(h:Vq w B r)(k:JZ w v l):
  aG prog 25 #[zo B,v] w λe w'=>e=ah (aH aU (r.eV l).1)/\Zd B r w (r.eV l).2 w':=by
 have m:=xlv r.D r.d v l y t f w h.fh k;have i:=h;have z:ae w (zq B 2)=ac (zo r.D):=h.bO.i 2 rfl;have b:=h.bO.i 7 rfl;have j:(r.d.eV l).2.M=r.d.M/\∀x,(r.d.eV l).2.cO r.D x->r.d.cO r.D x:=by unfold Dk.eV;cases Wc r.d.bS l;simp_all;exact⟨rfl,λ_ x=>x⟩
 obtain⟨p,g,o,rfl,-⟩:=k;cases hs:r.sn with
 |some s=>
  have a:aK<|r.eV l=(4,r):=ō
  rw[a.o];have c:ae w (zq B 7)=ac (zo s.S):=by rw[b];simp[Sr.G,Sr.nz,hs]
  clear b;go_enter func25.1,Tryz.ntmps25;go_wp2;go_ret;exact⟨rfl,Zd.nw i<|zj.refl _ _⟩
 |none=>
  have c:ae w (zq B 7)=ac (aR ar):=by rw[b];simp[Sr.G,Sr.nz,hs]
  have a:aK<|r.eV l=((r.d.eV l).1,{r with d:=(r.d.eV l).2}):=ō
  rw[a.o];clear b a;generalize r.d.eV l=q at*;go_enter func25.1,Tryz.ntmps25;go_wp2;apply m.mono;rintro e w1⟨rfl,f,hd⟩;have n:=Zd.fh i (f.W λ_ x=>aE (aF x)) hd j.1 j.2;go_wp2;go_ret;exact⟨rfl,n⟩
def xB(L:Xv)(l:List Int):Ze:=l.flatMap λn=>[aH aU n,aj<|st<|jp L n]
def xvq:prog.underlying 52=ac (.slice 110):=(ex 52).trans Tryz.underlying52
def xtb:∃i,prog.info? 110=ac i/\i.zero=ac (bM #[zi 0,aj ⟨#[]⟩])/\i.size=2/\i.bytes=24:=by
 have h:(prog.info? 110).map (λi=>(i.zero,i.size,i.bytes))=ac (ac<|bM #[zi 0,aj ⟨#[]⟩],2,24):=Á
 simp_all
def xlt(D d w)(h:Jt w D d)(hk:rY d.L):
  aG prog 47 #[zo D] w λe w'=>∃v,e=ah v/\w'.ownsRow (ak w.heap) 110 2 v (aa (Zk d.L)) (xB d.L<|Zk d.L)/\Nw w w':=by
 obtain⟨I,Y,F,G,H⟩:=xtb;have J:=h;have K:=hk;go_enter func47.1,Tryz.ntmps47;go_wp2;refine(Mv D d w J K).mono ?_;rintro e w1⟨p,g,W,rfl,Z,hg,s,B⟩;have R:=Z;have S:=s;have y:Nw w w1:=zj.Q B;have HL:aa (Zk d.L)<=1000000:=by show _<=_;rw[MD];exact K.bA
 go_wp2;go_loopw [3,9] (λv i wr=>∃k:Nat,k<=aa (Zk d.L)/\i=zi k/\wr.ownsRow (ak w1.heap) 110 2 v k (xB d.L<|(Zk d.L).take k)/\Nw w1 wr) (λ_ i _=>bB (aa (Zk d.L)-bP i))
 case atStart=>exact⟨0,À,rfl,jk _ _ _ _,zj.refl _ _⟩
 case round=>
  obtain⟨k,hk,rfl,a,c⟩:=hrel;obtain⟨V,o,rfl,C⟩:=Wo a;by_cases r:k<aa (Zk d.L)
  ·have i1:(k:Int)<(aa (Zk d.L):Nat):=by omega
   have E:=R (λe=>Â);subst E;have hc:=(S.y c id) k r;have Q:aK<|xB d.L ((Zk d.L).take<|k+1)=xB d.L ((Zk d.L).take k)++[zi (Zk d.L)[k],zs<|jp d.L (Zk d.L)[k]]:=by show _=_;rw[zp r];unfold xB;rw[Wz];rfl
   have t:=a;have l:=c;generalize xB d.L ((Zk d.L).take k)=cs at*;generalize(Zk d.L)[k]=n at*;go_wp2;refine(Dg D d n _<|J.y (y.aA l) λ_ _=>id).mono ?_;rintro e w2⟨rfl,rfl⟩;have ba:=l.J;go_wp2_with (refine wpList_append_lies _ rfl _ _ 52 rfl w1.heap.size 110 I _ 2 24 xvq Y F G H rfl Ã (az V k o) k cs rfl ?own _ 1 1 [zi n,zs<|jp d.L n] rfl rfl ?nw ?o1 Ã ?m1 ?m2 ?m3 (ak w2.heap+1) ?m4 ?_)
   case own=>exact t.alloc _
   case m1=>unfold nT;omega
   case m2=>omega
   case m3=>simp;omega
   try case m4=>simp
   case o1=>first|exact⟨rfl,rfl⟩|(intro z b;simp at b;obtain rfl|rfl:=b<;>rfl)
   try case nw=>
    intro j z b;cases j with
    |zero=>simp at b;subst b;simp[go_sem,Addr.add]
    |succ j=>cases j with|zero=>simp at b;subst b;simp[go_sem,Addr.add]|succ j=>simp at b
   intro X m w3 f q M O;have x:=(zt _ _).grown q Æ<|zE t;have T:=(l.aA<|zj.E _).lP x;have U:w3.ownsRow (ak w1.heap) 110 2 (az (ac ⟨X,0,ar⟩) (k+1) m) (k+1)<|xB d.L<|(Zk d.L).take<|k+1:=by show World.ownsRow _ _ _ _ _ _ _;rw[Q.o];simpa using f
   go_wp2;go_roundw
   case rel=>exact⟨k+1,À,Å,U,T⟩
   grind [bP]
  obtain rfl:k=aa (Zk d.L):=À
  rw[jz]at a;have t:=Da a y.J;have l:=c;go_wp2;go_ret;exact⟨_,rfl,t,y.aA l⟩
def xic(B r w)(h:Vq w B r)(hk:rY r.d.L):
  aG prog 24 #[zo B] w λe w'=>∃v,e=ah v/\w'.ownsRow (ak w.heap) 110 2 v (aa (Zk r.d.L)) (xB r.d.L<|Zk r.d.L)/\Nw w w':=by
 have a:=xlt r.D r.d w h.fh hk;have b:ae w (zq B 2)=ac (zo r.D):=h.bO.i 2 rfl;go_enter func24.1,Tryz.ntmps24;go_wp2;refine a.mono ?_;rintro e w1⟨v,rfl,c⟩;go_wp2;go_ret;simp_all
end
section
attribute [local go_sem] zn zg zO te
def Rf.gN(f:Rf)(k:Lk):Rf:={f with op:=f.op+1,bA:=k.bA,bJ:=k.dO}
def Lk.sg(k:Lk):Int:=if k.aP<=k.bE then 0 else k.aP
def Rf.pe(f:Rf)(k:Lk)(s:Zv)(L:KV):Rf:={f with gA:=aw,sv:=s,L:=L,pv:=az ar 0 0,P:=[],ep:=k.ep,dO:=k.dO,bE:=k.bE,sg:=k.sg,fo:=0,eJ:=k.eJ}
def Ps(f:Rf)(d:Dk)(o:Option<|Lk×KV)(a:Int)(f':Rf):Prop:=match o with
 |none=>a=11/\f'={f with op:=f.op+1}
 |some (k,L)=>Tw (Zb k d).2.2 f'/\∃v F b n,((Zb k d).1=aw/\a=0/\∃s,f'=((f.gN k).dk v F b n ao).pe (Zb k d).2.1 s (fR L))\/((Zb k d).1=ao/\a=12/\f'=(f.gN k).dk v F b n ao)
def uP(f:Rf)(d:Dk)(o:Option<|Lk×KV)(a:Int)(f':Rf):Prop:=if f.gA=aw then a=4/\f'=f else if f.op=999 then a=10/\f'=f else Ps f d o a f'
def Ŵ(C:Nat)(f:Rf)(d:Dk)(o:Option<|Lk×KV)(w:Zy)(e:kU)(w':Zy):Prop:=∃a f',e=ah (zi a)/\Xf C f w f' w'/\uP f d o a f'
def Rf.eY{w C f}(h:Ju w C f){x}(hx:f.cO C x):x<ak w.heap:=by obtain rfl|hx|hx|hx:=hx;exact h.bO.lt;exact(h.fs.lt x hx).2;exact(h.ss.lt x hx).2;exact(h.ps.lt x hx).2
theorem DD(k):∀(ns:List Int) (d:Dk),ri k ns d=Yc (Bp k) ns d
 |[],d=>rfl|n::ns,d=>by unfold ri Yc;rw[DD k ns,DD k ns]
theorem zv4(k)(h:0<=k.bE):Bp k=pb k.fQ (k.bE+1) k.sg:=funext λn=>by grind [Bp,pb,Lk.sg]
def zw2(k d)(h:0<=k.bE):Wd k d=((Yc (pb k.fQ (k.bE+1) k.sg) (Zk d.L) d).1,k,(Yc (pb k.fQ (k.bE+1) k.sg) (Zk d.L) d).2):=by grind [Wd,DD,zv4]
def xj7{k d}(a:k.cE=aw)(b:0<k.cN):Zb k d=if(d.put k.aP<|(jp d.L k.aP).take (bB k.cN)).1=aw then Wd k (d.put k.aP<|(jp d.L k.aP).take (bB k.cN)).2 else(ao,k,(d.put k.aP<|(jp d.L k.aP).take (bB k.cN)).2):=by unfold Zb Dk.put;rw[if_pos ⟨a,b⟩];cases d.cQ<;>rfl
def xj8{k d}(a:k.cE=aw)(b:k.cN=0):Zb k d=if(d.put k.aP []).1=aw then Wd {k with aP:=k.aP-1} (d.put k.aP []).2 else(ao,k,(d.put k.aP []).2):=by unfold Zb;rw[if_neg À,if_pos a,d.tz];grind
def ź{k d}(a:k.cE=ao):Zb k d=Wd k d:=by grind [Zb]
def ŷ{d:Dk}{n x}(hx:aa x<=aa (jp d.L n))(h:(d.put n x).1=aw):bK (d.put n x).2.L<=bK d.L:=by grind [Dk.put,Bv]
def Tw.pe{d f}(h:Tw d f)(k s L):Tw d<|f.pe k s L:=⟨h.bS,h.gF,h.gL,h.nA,h.nk,h.fV,h.nx,h.cE,h.jN⟩
def Tw.gN{d f}(h:Tw d f)(k):Tw d<|f.gN k:=⟨h.bS,h.gF,h.gL,h.nA,h.nk,h.fV,h.nx,h.cE,h.jN⟩
def Xf.pe{C c f w0 w w' k s L}(t:Xf C c w0 f w)(b:zj (·=C) w w')(e:xh w' C (f.pe k s L).G 154)(d:Rw w 157 2 jT s L)(i:∀g,s.ownBlock=ac g->ak w0.heap<=g):Xf C c w0 (f.pe k s L) w':=by have h:=t.dS;refine⟨t.y.aA<|b.W λx a=>aF a,⟨e,h.fs.y b<|h.fs.gH h.bO Ã,d.y b<|d.gH h.bO Ã,jk _ _ _ _,h.fn⟩,λx a=>?_⟩;obtain a|a|a|a:=a;exact aF<|aF a;exact t.cO x<|aE<|aF a;exact aE<|i x a;cases a
def Xf.Ax{C b d f w0 w w'}(t:Xf C d w0 f w)(h:ak w0.heap<=b)(c:¬f.cO C b)(k:zj (·=b) w w'):Xf C d w0 f w':=
 ⟨t.y.gl k λy i=>i▸h,⟨t.dS.bO.y k λe=>c<|aF e.symm,t.dS.fs.y k λg a e=>c<|aE<|aF<|e▸a,t.dS.ss.y k λg a e=>c<|aE<|aE<|aF<|e▸a,t.dS.ps.y k λg a e=>c<|aE<|aE<|aE<|e▸a,t.dS.fn⟩,t.cO⟩
def zj.PB(x){r a b c d e f g h i j k l m n o p q s}:zj (·=r) x<|ai (ai (ai (ai (ai (ai (ai (ai (ai x (zq r j) a) (zq r k) b) (zq r l) c) (zq r m) d) (zq r n) e) (zq r o) f) (zq r p) g) (zq r q) h) (zq r s) i:=by
 iterate 9 refine zj.aA ?_<|zj.H _ (zq r _) _
 exact zj.refl _ _
structure JY(C b:Nat)(f:Rf)(d:Dk)(k:Lk)(L:KV)(s:Zv)(w w6:Zy)(kk:Lk)(dd:Dk)(f3:Rf)(l good recs:Int):Prop where
 ŵ:Xf C f w f3 w6
 f3e:∃v F a n,f3=(f.gN k).dk v F a n ao
 tw:Tw dd f3
 pE:bK dd.L<=400000
 men:Zb k d=Wd kk dd
 lb:xh w6 b (LV ao s k l k.cE good recs) 207
 dT:ak w.heap<=b
 st:Rw w6 157 2 jT s<|fR L
 sn:∀g,s.ownBlock=ac g->ak w.heap<=g/\¬f3.cO C g
 no:¬f3.cO C b
 ls:l=kk.aP\/(l=0/\kk.aP<=kk.bE)
 kb:kk.bE=k.bE/\kk.fQ=k.fQ/\kk.ep=k.ep/\kk.dO=k.dO/\kk.eJ=k.eJ
def xhw(C:Nat)(f:Rf)(d:Dk)(op:Int)(mp:Nat)(w:Zy)(h:Ju w C f)(ht:Tw d f)(hu:bK d.L<=400000)(hm:aa f.m=32)(hop:f.op<=999)(hz:∀n,aa (jp f.F n)<=100000)(bf:∀w1,Ju w1 C {f with op:=f.op+1}->Nw w w1\/zj (·=C) w w1->aG prog 128 #[zo C] w1 (J' w1<|Xr (jB f.m f.bJ (f.bA:Int) op mp) f.F)):aG prog 87 #[zo C] w<|Ŵ C f d (Xr (jB f.m f.bJ (f.bA:Int) op mp) f.F) w:=by
 have HH:=h;have HT:=ht;have HU:=hu;have bg:=bf;have HZ:=hz;have bj:ae w (zq C 11)=ac (aX f.gA):=h.bO.i 11 rfl;have c9:ae w (zq C 9)=ac (zi f.op):=h.bO.i 9 rfl;have f9:=h.bO.dG 9;obtain⟨o,hq⟩:∃o,Xr (jB f.m f.bJ (f.bA:Int) op mp) f.F=o:=⟨_,rfl⟩;rw[hq]at bg⊢;cases ho:f.gA;rotate_left
 ·rw[ho]at bj;have HA:aK<|uP f d o 4 f:=by show uP _ _ _ _ _;unfold uP;rw[if_pos ho];exact⟨rfl,rfl⟩
  clear h ht hu bf hz hq;go_enter func87.1,Tryz.ntmps87;go_wp2;go_ret;exact⟨4,f,rfl,.refl HH,HA.o⟩
 rw[ho]at bj;by_cases U:f.op=999
 ·have i9:(f.op:Int)=999:=by omega
  have HA:aK<|uP f d o 10 f:=by show uP _ _ _ _ _;unfold uP;rw[if_neg Ĭ,if_pos U];exact⟨rfl,rfl⟩
  rw[i9]at c9;clear h ht hu bf hz hq U i9;go_enter func87.1,Tryz.ntmps87;go_wp2;go_ret;exact⟨10,f,rfl,.refl HH,HA.o⟩
 have i9:¬(f.op:Int)=999:=À
 have HA:aK<|∀a f',Ps f d o a f'->uP f d o a f':=λa f' x=>by grind [uP]
 have T1:aK<|Xf C f w {f with op:=f.op+1}<|ai w (zq C 9)<|zi<|(f.op:Int)+1:=Xf.H h 9 (zi (f.op+1:Nat)) rfl rfl rfl rfl;have B1:aK (zj (·=C) w<|ai w (zq C 9)<|zi<|(f.op:Int)+1):=zj.H w (zq C 9) _;have HO:=ho;clear h ht hu bf hz U ho;go_enter func87.1,Tryz.ntmps87;go_wp2;generalize ai w (zq C 9) (zi<|(f.op:Int)+1)=w1 at*;refine(bg w1 T1.o.dS<|aE B1.o).mono λe w2 hp=>?_;clear bj c9 f9 i9 bg;cases o with
 |none=>
  obtain⟨hn,v,k,l,t,g,r,rfl,a,i,j,rfl⟩:=hp;have HN:=hn;clear hn hq;unfold LV;go_wp2;go_ret;exact⟨11,_,rfl,T1.o.aA<|.nw T1.o.dS<|HN.aA<|zj.E _,HA.o _ _ ⟨rfl,rfl⟩⟩
 |some q=>
  obtain⟨k,L⟩:=q;obtain⟨hn,v,l,B,recs,rfl,hO,hl,hr⟩:=hp;obtain⟨a,c,rfl⟩:=hO.dC;obtain⟨-,tn,b0,b1,b2,b3,-⟩:=PD hm hq;have bd:aK<|∀a f',Tw (Zb k d).2.2 f'->(∃v F b n,((Zb k d).1=aw/\a=0/\∃s,f'=((f.gN k).dk v F b n ao).pe (Zb k d).2.1 s (fR L))\/((Zb k d).1=ao/\a=12/\f'=(f.gN k).dk v F b n ao))->uP f d (ac (k,L)) a f':=λa f' G X=>HA.o a f' ⟨G,X⟩;have X3:aK<|xh (aB w2<|aq (LV ao (az a (aa (fR L)) c) k l k.cE B recs) 207) (ak w2.heap) (LV ao (az a (aa (fR L)) c) k l k.cE B recs) 207:=xh.dT _ _ _;have N3:aK<|Nw w1<|aB w2<|aq (LV ao (az a (aa (fR L)) c) k l k.cE B recs) 207:=hn.aA<|zj.E _;have M:=hO.gl<|zj.E (w:=w2)<|aq (LV ao (az a (aa (fR L)) c) k l k.cE B recs) 207;have bt:ak w1.heap<=ak w2.heap:=hn.J;unfold LV at X3 N3 M⊢;clear hn hO hq HA;go_upto_region 7 with fail
  generalize ak w2.heap=b at*;generalize aB w2 (aq _ 207)=w3 at*;have A3:=T1.o.dS.y N3.o;have bs:¬b=C:=by have:=T1.o.dS.bO.lt;omega
  have cf:¬C=b:=λe=>bs e.symm;have c8:=A3.bO.i (v:=zi f.bA) 8 rfl;have bi:=A3.bO.i (v:=zs f.bJ) 10 rfl;have f8:=A3.bO.dG 8;have bk:=A3.bO.dG 10;have t4:=Xf.H (f':={f with op:=f.op+1,bA:=k.bA}) A3 8 (zi k.bA) rfl rfl rfl rfl;have T5:aK<|Xf C f w (f.gN k)<|ai (ai w3 (zq C 8)<|zi k.bA) (zq C 10)<|zs k.dO:=(T1.o.aA<|.nw T1.o.dS N3.o).aA<|t4.aA<|Xf.H (f':=f.gN k) t4.dS 10 (zs k.dO) rfl rfl rfl rfl;have b5:zj (·=C) w3<|ai (ai w3 (zq C 8)<|zi k.bA) (zq C 10)<|zs k.dO:=zj.tY w3;have X5:=X3.o.y b5 bs;have R5:=M.rw.y b5 (M.rw.gH A3.bO Ã);have S5:aK<|∀g,(az a (aa (fR L)) c).ownBlock=ac g->ak w.heap<=g:=λg D=>xa T1.o.y.J<|M.dT g D;have NB:aK<|ak w.heap<=b:=xa T1.o.y.J bt;have e3:=X3.o.dJ;clear t4 b5 A3 N3 M X3 bt T1 B1;have hx:(k.cE=aw/\0<recs/\B=k.cN/\0<B/\l=k.aP)\/(k.cE=aw/\recs=0/\k.cN=0/\l=k.aP)\/k.cE=ao:=by
   cases htn:k.cE with
   |false=>simp
   |true=>
    have bv:l=k.aP:=hl.elim id λh=>Ë
    obtain⟨G,X,h3⟩|⟨G,X⟩:=hr htn;exact aF ⟨rfl,G,X,h3,bv⟩;exact aE<|aF ⟨rfl,G,X,bv⟩
  clear hr;obtain⟨G,X,h3,h4,h5⟩|⟨G,X,h3,h5⟩|G:=hx;focus
   obtain⟨Q,rfl⟩:∃Q:Nat,B=(Q:Int):=⟨bB B,À⟩;subst h5;have cd:=tn G;have Y:=xj7 (d:=d) G À;rw[<-h3,Int.toNat_natCast]at Y;have cp:(Q:Int)<=(aa (jp f.F k.aP):Nat):=À
   rw[G]at e3;clear h3 cd tn;go_wp2;generalize(ai (ai w3 (zq C 8)<|zi k.bA) (zq C 10)<|zs k.dO)=w5 at*;clear e3 c8 bi f8 bk;have HS:aK<|∀y,Nw w5 y->ae y (zq b 9)=ac (zi k.aP)/\ae y (zq b 11)=ac (zi Q):=λy h=>⟨(X5.y h id).i 9 rfl,(X5.y h id).i 11 rfl⟩;have S0:=HS.o _<|zj.refl _ _;have ND:aK<|Nw w5 w5.drew:=(zj.refl _ _).U;have S1:=HS.o _ ND.o;have bu:jp (f.gN k).F k.aP=jp d.L k.aP:=HT.vz k.aP;have g1:(0:Int)<=(Q:Int):=À
   have g2:(Q:Int)<=(aa (jp d.L k.aP):Nat):=by rw[<-HT.vz];omega
   have CB:aK<|∀y,Nw w5 y->aG prog 130 #[zo C,zi k.aP] y λe ce=>ce=y/\e=ah (zs<|jp d.L k.aP):=λy h=>by rw[<-bu];exact Ir C (f.gN k) k.aP y (T5.o.dS.y h)<|by have G:=vA HT.gF.ne;rw[HT.yr]at G;have:=HU;show aa f.F<=_;omega
   have b8:aK<|aa (jp d.L k.aP)<=100000:=by rw[<-HT.vz];exact HZ _
   clear bu;have CP:aK<|∀y,Nw w5 y->aG prog 129 #[zo C,zi k.aP,zs<|(jp d.L k.aP).take Q] y (pi C (f.gN k) (d.put k.aP<|(jp d.L k.aP).take Q) y):=λy h=>No C (f.gN k) d k.aP _ y (T5.o.dS.y h) (HT.gN k) HU ⟨À,À⟩ (by rw[xf];have:=b8.o;omega);have bp:aK<|∀y I J,Nw w5 y->Xf C (f.gN k) y J I->xh I b _ 207:=λy I J h X=>(X5.y h id).y X.y λx=>ā
   generalize hxe:jp d.L k.aP=x at*;have b7:=xe hxe;clear hxe;go_region_held3 (λy=>ae y (zq b 9)=ac (zi k.aP)/\ae y (zq b 11)=ac (zi Q)) (first|exact S0|exact S1|exact S2)
    (first
     |(go_at_call 130;refine(CB.o _ ND.o).mono ?_;rintro e I⟨rfl,rfl⟩)
     |(go_at_call 129;refine(CP.o _ ND.o).mono ?_;rintro e I⟨rfl,v6,F6,a6,n6,V,T⟩;have X6:=xe<|bp.o _ _ _ ND.o V;have S2:=And.intro (X6.o.i (v:=aH aU k.aP) 9 rfl)<|X6.o.i (v:=aH aU (Q:Int)) 11 rfl))
   clear S2
   rename I.cell? (zq b 9)=ac (zi k.aP)/\ae I (zq b 11)=ac (zi Q)=>hHe
   clear hHe;have O:(f.gN k).gA=ao:=HO;rw[O,CI]at V T;have T6:=xe<|((T5.o.aA<|.nw T5.o.dS ND.o).aA V);have NO:aK<|∀g,ak w.heap<=g->g<ak w5.heap->¬((f.gN k).dk v6 F6 a6 n6 ao).cO C g:=λg G X x=>by obtain h|h:=V.cO g x;have:=Rf.eY HH h;omega;have h:ak w5.heap<=g:=h;omega
   have XL:aK (b<ak w5.heap/\∀g,(az a (aa (fR L)) c).ownBlock=ac g->g<ak w5.heap):=⟨X5.lt,λg D=>(R5.lt g D).2⟩;have R6:=xe ((R5.y ND.o λ_ _=>id).y V.y λg D x=>ú);have bw:=ŷ (d:=d) (n:=k.aP) (x:=x.take Q);have bb:aK<|(d.put k.aP<|x.take Q).1=aw->bK (d.put k.aP<|x.take Q).2.L<=400000:=λe=>Yx (bw (by rw[b7.o,xf];omega) e) HU;have R:=xe T;clear V T bw O S0 S1 HS bp CB CP ND T5 R5;generalize d.put k.aP (x.take Q)=pr at*;obtain⟨bo,K⟩:=pr;cases bo
   ·have Z:aK<|Zb k d=(ao,k,K):=Y;go_wp2;go_ret;exact⟨12,_,rfl,T6.o,bd.o _ _ (by rw[Z.o];exact R.o) ⟨v6,F6,a6,n6,aE ⟨by rw[Z.o],rfl,rfl⟩⟩⟩
   obtain⟨J,p⟩:∃J,(f.gN k).dk v6 F6 a6 n6 ao=J:=⟨_,rfl⟩;have E:aK<|JY C b f d k L (az a (aa (fR L)) c) w I k K J k.aP (Q:Int) recs:=⟨p▸T6.o,⟨v6,F6,a6,n6,p.symm⟩,p▸R.o,bb.o rfl,Y,X6.o,NB.o,R6.o,λg D=>⟨S5.o g D,p▸NO.o g (S5.o g D) (XL.o.2 g D)⟩,p▸NO.o b NB.o XL.o.1,aF rfl,rfl,rfl,rfl,rfl,rfl⟩;go_upto_region 19 with fail
   clear X6 R T6 R6 bb Y p
  rotate_left;focus
   subst h5;have Y:=xj8 (d:=d) G h3;rw[G]at e3;subst X;have CP:aK<|∀y,Ju y C (f.gN k)->aG prog 129 #[zo C,zi k.aP,aj ⟨#[]⟩] y (pi C (f.gN k) (d.put k.aP []) y):=λy h=>No C (f.gN k) d k.aP [] y h (HT.gN k) HU ⟨À,À⟩ Ä;have HK:=xe G;clear h3 tn G;go_wp2;refine(CP.o _ T5.o.dS).mono ?_;rintro e I⟨rfl,v6,F6,a6,n6,V,T⟩;have O:(f.gN k).gA=ao:=HO;rw[O,CI]at V T;have T6:=xe<|T5.o.aA V;have NO:aK<|∀g,ak w.heap<=g->g<ak (ai (ai w3 (zq C 8)<|zi k.bA) (zq C 10)<|zs k.dO).heap->¬((f.gN k).dk v6 F6 a6 n6 ao).cO C g:=λg G X x=>by obtain h|h:=V.cO g x;have:=Rf.eY HH h;omega;omega
   have bh:=xe<|NO.o b NB.o X5.lt;have bq:aK<|∀g,(az a (aa (fR L)) c).ownBlock=ac g->¬((f.gN k).dk v6 F6 a6 n6 ao).cO C g:=λg D=>NO.o g (S5.o g D) (R5.lt g D).2;have X6:=xe (X5.y V.y λx=>ā);have R6:=xe (R5.y V.y λg D x=>ú);have bb:aK<|(d.put k.aP []).1=aw->bK (d.put k.aP []).2.L<=400000:=λe=>Yx (ŷ Ä e) HU;have R:=xe T;clear V T O CP T5 R5 X5 e3 c8 bi f8 bk NO;have e6:=X6.o.i (v:=zi k.aP) 9 rfl;have g6:=X6.o.dG 9;have bx:=zj.H I (zq b 9)<|zi<|k.aP-1;have T7:=xe<|T6.o.Ax NB.o bh.o bx;generalize d.put k.aP []=pr at*;obtain⟨bo,K⟩:=pr;cases bo
   ·have Z:aK<|Zb k d=(ao,k,K):=Y;clear bx;go_wp2;go_ret;exact⟨12,_,rfl,T7.o,bd.o _ _ (by rw[Z.o];exact R.o) ⟨v6,F6,a6,n6,aE ⟨by rw[Z.o],rfl,rfl⟩⟩⟩
   obtain⟨J,p⟩:∃J,(f.gN k).dk v6 F6 a6 n6 ao=J:=⟨_,rfl⟩;have E:aK<|JY C b f d k L (az a (aa (fR L)) c) w (ai I (zq b 9)<|zi<|k.aP-1) {k with aP:=k.aP-1} K J (k.aP-1) B 0:=⟨p▸T7.o,⟨v6,F6,a6,n6,p.symm⟩,p▸R.o,bb.o rfl,Y,X6.o.H 9 _,NB.o,R6.o.y bx<|R6.o.gH X6.o Ã,λg D=>⟨S5.o g D,p▸bq.o g D⟩,p▸bh.o,aF rfl,rfl,rfl,rfl,rfl,rfl⟩;clear bx;go_upto_region 19 with fail
   clear X6 R T6 T7 R6 bb Y p e6 g6 bh bq;generalize ai I (zq b 9) (zi<|k.aP-1)=I at*
  rotate_left;focus
   have Y:=ź (d:=d) G;rw[G]at e3;obtain⟨J,p⟩:∃J,(f.gN k).dk f.fv f.F f.mz f.jN ao=J:=⟨_,rfl⟩;have bc:f.gN k=J:=by rw[<-p,<-HO];rfl
   have E:aK<|JY C b f d k L (az a (aa (fR L)) c) w (ai (ai w3 (zq C 8)<|zi k.bA) (zq C 10)<|zs k.dO) k d J l B recs:=⟨bc▸T5.o,⟨_,_,_,_,p.symm⟩,bc▸HT.gN k,HU,Y,X5,NB.o,R5,λg D=>⟨S5.o g D,bc▸λx=>ú⟩,bc▸λx=>ā,hl.imp id λh=>⟨h.1,À⟩,rfl,rfl,rfl,rfl,rfl⟩;clear p bc G tn;go_upto_region 19 with fail
   clear X5 T5 R5 Y e3 c8 bi f8 bk;generalize(ai (ai w3 (zq C 8)<|zi k.bA) (zq C 10)<|zs k.dO)=I at*
  all_goals
   obtain⟨H,K,l9,g9,r9,E⟩:∃H K l9 g9 r9,aK<|JY C b f d k L (az a (aa (fR L)) c) w I H K J l9 g9 r9:=⟨_,_,_,_,_,E⟩;obtain⟨k1,k2,k3,k4,k5⟩:=E.o.kb;have ba:aK<|Zb k d=((Yc (pb k.fQ (k.bE+1) H.sg) (Zk K.L) K).1,H,(Yc (pb k.fQ (k.bE+1) H.sg) (Zk K.L) K).2):=by show _=_;rw[E.o.men,zw2 H K À,k1,k2]
   have cb:(l9<=k.bE/\H.sg=0)\/(¬l9<=k.bE/\H.sg=l9):=by have ca:=E.o.ls;unfold Lk.sg;rw[k1]at ca⊢;split<;>omega
   have be:aK<|H.ep=k.ep/\H.dO=k.dO/\H.eJ=k.eJ/\H.bE=k.bE:=⟨k3,k4,k5,k1⟩;have S:=E.o.lb;unfold LV at S;have e6:=S.dJ;have g6:=S.dG 9;have CC:aK<|∀y,Ju y C J->aG prog 131 #[zo C,zi k.fQ,zi<|k.bE+1,zi H.sg] y (pi C J (Yc (pb k.fQ (k.bE+1) H.sg) (Zk K.L) K) y):=λy h=>xnh C J K k.fQ (k.bE+1) H.sg y h E.o.tw E.o.pE;have cc:IntKind.i64.wrap (k.bE+1)=k.bE+1:=Ì
   clear k1 k2 k3 k4 k5 hl;obtain⟨w7,H7⟩:∃w7,aK<|w7=w7:=⟨I,rfl⟩;obtain⟨h8,U⟩|⟨h8,U⟩:=cb;focus
    have bx:=zj.H I (zq b 9)<|zi 0;have T7:=xe<|E.o.ŵ.Ax E.o.dT E.o.no bx;have X7:aK<|xh (ai I (zq b 9)<|zi 0) b (LV ao (az a (aa (fR L)) c) k H.sg k.cE g9 r9) 207:=by rw[U];exact S.H 9 _
    have R7:=xe (E.o.st.y bx<|E.o.st.gH S Ã);rw[U]at CC;have H9:=xe U;clear bx S U;go_wp2;generalize ai I (zq b 9) (zi 0)=w8 at*;refine(CC.o _ T7.o.dS).mono ?_;rw[<-H9.o]
   rotate_left;focus
    have T7:=xe E.o.ŵ;have X7:aK<|xh I b (LV ao (az a (aa (fR L)) c) k H.sg k.cE g9 r9) 207:=by rw[U];exact E.o.lb
    have R7:=xe E.o.st;rw[U]at CC;have H9:=xe U;clear S U;go_wp2;obtain⟨w8,bz⟩:∃w8,I=w8:=⟨_,rfl⟩;rw[bz]at T7 X7 R7⊢;clear bz;refine(CC.o _ T7.o.dS).mono ?_;rw[<-H9.o]
   all_goals
    rintro e w9⟨rfl,v9,F9,a9,n9,t9,b4⟩;obtain⟨v3,F3,a3,n3,rfl⟩:=E.o.f3e;have X9:=xe<|X7.o.y t9.y E.o.no;have R9:=xe<|R7.o.y t9.y λg D=>(E.o.sn g D).2;have T9:aK<|Xf C f w ((f.gN k).dk v9 F9 a9 n9 ao) w9:=T7.o.aA t9;have br:aK<|Tw _<|(f.gN k).dk v9 F9 a9 n9 ao:=b4;have b6:=xe E.o.sn;clear t9 b4 T7 X7 R7 CC E e6 g6 cc;generalize Yc (pb k.fQ (k.bE+1) H.sg) (Zk K.L) K=pr at*;obtain⟨bo,d9⟩:=pr;cases bo
    ·go_wp2;go_ret;exact⟨12,_,rfl,T9.o,bd.o _ _ (by rw[ba.o];exact br.o) ⟨v9,F9,a9,n9,aE ⟨by rw[ba.o],rfl,rfl⟩⟩⟩
    have W:=T9.o.dS.bO;have bm:aK<|∀i,aQ w9 (zq C i)=ao:=λi=>W.dG i;have cg:=W.i 11 rfl;have ch:=W.i 12 rfl;have ci:=W.i 13 rfl;have cj:=W.i 14 rfl;have ck:=W.i 15 rfl;have cl:=W.i 16 rfl;have cm:=W.i 17 rfl;have cn:=W.i 18 rfl;have co:=W.i 19 rfl;have z:=bm.o;have bl:=X9.o;unfold LV at bl;have e9:=bl.dJ;have bn:aK<|xh (ai (ai (ai (ai (ai (ai (ai (ai (ai w9 (zq C 11)<|aX aw) (zq C 12)<|az a (aa (fR L)) c) (zq C 13)<|az ar 0 0) (zq C 14)<|zi k.ep) (zq C 15)<|zs k.dO) (zq C 16)<|zi k.bE) (zq C 17)<|zi H.sg) (zq C 18)<|zi 0) (zq C 19)<|zi k.eJ) C (((f.gN k).dk v9 F9 a9 n9 ao).pe H (az a (aa (fR L)) c)<|fR L).G 154:=by have kx:=((((((((W.H 11<|aX aw).H 12<|az a (aa (fR L)) c).H 13<|az ar 0 0).H 14<|zi k.ep).H 15<|zs k.dO).H 16<|zi k.bE).H 17<|zi H.sg).H 18<|zi 0).H 19<|zi k.eJ;unfold Rf.G at kx;simp only[Zj,Vp,D1]at kx;unfold Rf.pe Rf.G;rw[be.o.1,be.o.2.1,be.o.2.2.1,be.o.c];exact kx
    have b9:=xe<|T9.o.pe (zj.PB w9) bn.o R9.o λg D=>(b6.o g D).1;clear bl W bn X9 bm;go_wp2;go_ret;exact⟨0,_,rfl,b9.o,bd.o _ _ (by rw[ba.o];exact br.o.pe _ _ _) ⟨v9,F9,a9,n9,aF ⟨by rw[ba.o],rfl,_,by rw[ba.o]⟩⟩⟩
end
section
variable {F G:Xv}
theorem Α(e:jp F=jp G):∀f n,vB F f n=vB G f n
 |0,n=>rfl|f+1,n=>by simp only[vB,e,Α e f]
def Γ(h:∀n,jp F n=jp G n)(k):Xr k F=Xr k G:=by
 have e:jp F=jp G:=funext h;have b:∀m a,Y6 m F a=Y6 m G a:=λm a=>by grind [Y6,sf]
 have c:Xc k F=Xc k G:=by unfold Xc;rw[h 0,b]
 grind [Z7,Α,Xr]
end
def Β(L n m z):bK (Vm L n ((jp L n).take m,z))<=bK L:=by grind [Bv]
def xda(t L):bK (sG t L)<=bK L:=by unfold sG;generalize Zk L=ns;induction ns generalizing L with|nil=>grind|cons n ns ih=>exact Yx (ih _)<|Β L n _ _
def Dk.kP(d:Dk):bK d.eN.L<=bK d.L:=by unfold Dk.eN;split;omega;exact xda _ _
def PA(K):∀(ns:List Int) (d:Dk),bK (Yc K ns d).2.L<=bK d.L
 |[],d=>Int.le_refl _|n::ns,d=>by unfold Yc;split;exact PA K ns d;split;exact d.kP;exact Yx (PA K ns _)<|Nr _ _
def xdp(k d):bK (Zb k d).2.2.L<=bK d.L:=by
 have b:∀c a,bK (Wd c a).2.2.L<=bK a.L:=λc a=>by unfold Wd;rw[DD];exact PA _ _ _
 unfold Zb;split;split;exact d.kP;exact Yx (b _ _)<|Β d.L _ _ _;split;split;exact d.kP;exact Yx (b _ _)<|Nr _ _;grind
def xai(k d):(Zb k d).2.1.dO=k.dO/\(Zb k d).2.1.ep=k.ep/\(Zb k d).2.1.bE=k.bE/\((Zb k d).2.1.aP=k.aP\/(k.cE=aw/\(Zb k d).2.1.aP=k.aP-1))/\(Zb k d).2.2.bS=d.bS:=by
 have g:∀(K:Int->Bool) (a:List Int) (d:Dk),(Yc K a d).2.bS=d.bS:=by intro K a;induction a with|nil=>intro d;rfl|cons n a ih=>intro d;unfold Yc;split;grind;split;grind [Dk.eN];rw[ih];exact Dk.kH d
 have f:d.eN.bS=d.bS:=by unfold Dk.eN;split<;>rfl
 have c:∀e b,(Wd e b).2.2.bS=b.bS:=λe b=>by grind [Wd,DD]
 unfold Zb;split;split;grind;exact⟨rfl,rfl,rfl,aF rfl,(c _ _).trans<|Dk.kH d⟩;split;rename_i h;split;grind;exact⟨rfl,rfl,rfl,aE ⟨h,rfl⟩,(c _ _).trans<|Dk.kH d⟩;exact⟨rfl,rfl,rfl,aF rfl,c _ _⟩
structure Ws(r:Sr)(f:Rf):Prop where
 tw:Tw r.d f
 od:f.od=r.od
 my:f.my=r.my
 m:f.m=r.m
 bA:f.bA=r.bA
 op:f.op=r.op
 bJ:f.bJ=r.bJ
 gA:f.gA=r.sn.isSome
 nr:∀s,r.sn=ac s->f.L=fR s.L/\f.P=s.P/\f.ep=s.ep/\f.dO=r.bJ/\f.bE=s.bE/\f.sg=if s.aP<=s.bE then 0 else s.aP
structure Ok(n:Nat)(r:Sr):Prop where
 m:aa r.m=32
 bJ:aa r.bJ=32
 bA:r.bA<=n
 op:r.op<=999
 bS:0<=r.d.bS/\r.d.bS<=100000
 pE:bK r.d.L<=r.d.bS
 nx:∀c,r.d.nx=ac c->jS c.2.1/\0<=c.2.2/\jS c.2.2
 nr:∀s,r.sn=ac s->(0<=s.bE/\s.bE<=s.aP/\s.aP<=5000000000+n)/\aa s.P<=20/\(∀c∈s.P,uD c)/\Nd s.L/\aa s.L<=6000+20*n/\∀x∈s.L.map (·.1),aa x<=16
def Ok.W{n k r}(h:Ok n r)(hk:n<=k):Ok k r:=⟨h.m,h.bJ,xa h.bA hk,h.op,h.bS,h.pE,h.nx,λs e=>by obtain⟨⟨a,b,c⟩,d,e,f,g,i⟩:=h.nr s e;grind⟩
section
variable {n:Nat} {r r':Sr} {f f':Rf}
def Ws.y'(h:Ws r f)(a:r.sn=ar):f.gA=ao:=by rw[h.gA,a];rfl
def Ws.on{s}(h:Ws r f)(a:r.sn=ac s):f.gA=aw:=by rw[h.gA,a];rfl
theorem Ws.gc{s}(h:Ws r f)(d:Nd s.L)(a:r.sn=ac s):f.gc=fR s.j5:=by obtain⟨b,c,-⟩:=h.nr s a;grind [Rf.gc,kV.j5,Pq]
def Ws.ib(h:Ws r f)(o:Ok n r)(k):f.ib k=r.ib k:=by
 unfold Rf.ib Sr.ib;cases hs:r.sn with
 |none=>rw[if_pos<|h.y' hs]
 |some s=>rw[if_neg<|by simp[h.on hs],h.gc (o.nr s hs).c.1 hs,Ff];grind
theorem xyy{c}(h:(nh (cK c)&&q8 (cV c))=aw):uD c:=by simp[nh,q8]at h;obtain⟨⟨a,b⟩,d⟩:=h;cases c with|put k v=>exact⟨Z0.1 a,b,d⟩|del k=>exact⟨Z0.1 a,b⟩
def Ws.Aw{c a a' ok}(h:Ws r f)(o:Ok n r)(i:ok=(nh (cK c)&&q8 (cV c)))(b:r.dH ok c a r')(d:f.dH c a' f'):a=a'/\Ws r' f'/\Ok n r':=by
 unfold Sr.dH at b;unfold Rf.dH at d;rw[<-i]at d;cases hs:r.sn with
 |none=>rw[hs]at b;rw[if_pos<|h.y' hs]at d;grind
 |some s=>rw[hs]at b;rw[if_neg<|by simp[h.on hs],(h.nr s hs).2.1]at d;simp only at b;split at b;grind;rename_i e;rw[if_neg e]at d;split at b;grind;rename_i e2;rw[if_neg e2]at d;obtain⟨rfl,z,rfl⟩:=b;obtain⟨rfl,v,rfl⟩:=d;obtain⟨l,y,p⟩:=h.nr s hs;obtain⟨j,t,w,k⟩:=o.nr s hs;refine⟨rfl,⟨⟨h.tw.bS,h.tw.gF,h.tw.gL,h.tw.nA,h.tw.nk,h.tw.fV,h.tw.nx,h.tw.cE,h.tw.jN⟩,h.od,h.my,h.m,h.bA,h.op,h.bJ,h.on hs,λq e=>?_⟩,⟨o.m,o.bJ,o.bA,o.op,o.bS,o.pE,o.nx,λq e=>?_⟩⟩;cases e;exact⟨l,rfl,p⟩;cases e;refine⟨j, ?_,λx g=>?_,k⟩;show(s.P++[c]).length<=20;grind;obtain g|g:=je.1 g;grind;grind [xyy]
end
section
variable {n:Nat} {r r':Sr} {f f':Rf}
theorem Ws.dT(a d b m D M)(h:vD a d b m=aw):Ws (Sr.dT a d b m D M) (Rf.cR a d b m)/\Ok n (Sr.dT a d b m D M):=by obtain⟨f,g,k,l,o,q,i⟩:=Xt h;exact⟨⟨⟨rfl,jO.nil,jO.nil,λ_=>rfl,iN,λp j=>(by cases j),rfl,Int.le_refl 0,(by decide:(0:Int)<=9223372036854775807)⟩,rfl,rfl,rfl,rfl,rfl,(by decide:List.replicate 32 0=Yn),rfl,λs e=>Ç⟩,⟨i,(by decide:Yn.length=32),Zz _,Zz 999,⟨f,g⟩,f,λc e=>Ç,λs e=>Ç⟩⟩
def Tw.gA{d}(h:Tw d f)(b):Tw d {f with gA:=b}:=⟨h.bS,h.gF,h.gL,h.nA,h.nk,h.fV,h.nx,h.cE,h.jN⟩
def Ok.jJ(o:Ok n r):Ok n r.jJ:=⟨o.m,o.bJ,o.bA,o.op,o.bS,o.pE,o.nx,λs e=>Ç⟩
def Ws.jJ(h:Ws r f):Ws r.jJ {f with gA:=ao}:=⟨h.tw.gA ao,h.od,h.my,h.m,h.bA,h.op,h.bJ,rfl,λs e=>Ç⟩
def Ws.iU(h:Ws r f)(o:Ok n r)(b){a t}(d:0<=a/\jS a)(g:0<=t/\jS t):Ws (r.mz b a t) {f with mz:=aw,jN:=a,cE:=t}/\Ok n (r.mz b a t):=by refine⟨⟨⟨h.tw.bS,h.tw.gF,h.tw.gL,h.tw.nA,h.tw.nk,h.tw.fV,⟨rfl,rfl,rfl⟩,g.1,d.2.2⟩,h.od,h.my,h.m,h.bA,h.op,h.bJ,h.gA,h.nr⟩,⟨o.m,o.bJ,o.bA,o.op,o.bS,o.pE,λc e=>?_,o.nr⟩⟩;cases e;grind
theorem xnx{F k v}(h:∀p∈F,p.1≠k):lO F k v=F++[(k,v)]:=by induction F with|nil=>rfl|cons p F ih=>grind [lO]
def Ż:∀(l:FL) (a rm:Int) (F:Xv),rS a rm l=aw->(∀p∈F,p.1<=a)->0<=rm->rm<=1000000->(∀x∈l,jS x.1)->xC F l=F++rR l/\ug (rR l)/\(∀p∈rR l,a<p.1/\p.2.1≠[]/\jS p.1/\p.2.2=(aa p.2.1:Int)/\aa p.2.1<=1000000)/\bK (rR l)<=rm
 |[],a,rm,F,h,hF,hz,hr,hi=>⟨by simp[xC,rR],iN,λp b=>(by cases b),hz⟩
 |x::l,a,rm,F,h,hF,hz,hr,hi=>by unfold rS at h;simp only[jy,Y8]at h;obtain⟨⟨i,j,k⟩,c⟩:=h;obtain⟨m,f,g,n⟩:=Ż l x.1 _ (F++[(x.1,x.2,(aa x.2:Int))]) c (λp b=>Â) À À λy d=>hi y<|jw _ d;have e:rR (x::l)=(x.1,x.2,(aa x.2:Int))::rR l:=rfl;rw[e];refine⟨?_,Xw.2 ⟨λp b=>(g p b).1,f⟩,λp b=>?_, ?_⟩;grind [xC,xnx];obtain rfl|b:=jc.1 b;grind;grind;grind [bK]
theorem Ws.Cd{l a'}(h:Ws r f)(o:Ok n r)(q:∀x∈l,jS x.1)(a:f.eV l a' f'):(r.eV l).1=a'/\Ws (r.eV l).2 f'/\Ok n (r.eV l).2:=by
 unfold Rf.eV at a;unfold Sr.eV;cases hs:r.sn with
 |some s=>rw[if_pos<|h.on hs]at a;grind
 |none=>
  rw[if_neg<|by simp[h.y' hs],h.tw.bS]at a;simp only[Option.isSome_none,ja,if_false];unfold Dk.eV;cases hh:Wc r.d.bS l with
  |false=>
   rw[if_pos hh]at a;obtain⟨rfl,rfl⟩:=a;simp only[ja,if_false];exact⟨trivial,by rw[<-hs];exact h,by rw[<-hs];exact o⟩
  |true=>rw[if_neg<|by simp[hh]]at a;obtain⟨rfl,v,rfl⟩:=a;simp only[if_true];obtain⟨c,g,j,k⟩:=Ż l (-1) r.d.bS [] (Bool.and_eq_true_iff.1 hh).2 (λp b=>by cases b) o.bS.1 (by have:=o.bS.2;omega) q;rw[qj]at c;have i:jO _:=⟨Wk.2<|g.imp λh e=>À,λp b=>(j p b).2.1⟩;rw[c];exact⟨trivial,⟨⟨rfl,i,i,λ_=>rfl,g,λp b=>Â,h.tw.nx,h.tw.cE,h.tw.jN⟩,h.od,h.my,h.m,h.bA,h.op,h.bJ,h.gA.trans<|by rw[hs],λs e=>Ç⟩,⟨o.m,o.bJ,o.bA,o.op,o.bS,k,o.nx,λs e=>Ç⟩⟩
def tS(f:Rf):FL:=f.F.map λp=>(p.1,p.2.1)
def pp(x:Int×Zl):Ze:=[aH aU x.1,aj<|st x.2]
def Ws.img(h:Ws r f):xB r.d.L (Zk r.d.L)=(tS f).flatMap pp/\aa (Zk r.d.L)=aa (tS f):=by
 rw[h.tw.yq];refine⟨?_,by simp[tS]⟩;unfold xB tS;rw[List.flatMap_map,List.flatMap_map];refine congrArg List.flatten<|W6 λp a=>?_;have e:jp r.d.L p.1=p.2.1:=by rw[<-h.tw.vz];exact congrArg nC<|BB h.tw.gF a
 simp[pp,e]
end
def pq(d:Dk):Prop:=∀c,d.nx=ac c->jS c.2.1/\0<=c.2.2/\jS c.2.2
theorem pq.dR{d}(h:pq d)(b:d.cQ=ao):pq d.dR:=by intro c a;unfold Dk.dR at a;unfold Dk.cQ at b;cases hn:d.nx with|none=>grind|some e=>rw[hn]at a b;cases a;obtain⟨f,g⟩:=h e hn;grind [jS]
theorem pq.eN{d}(h:pq d):pq d.eN:=by intro c a;grind [Dk.eN]
theorem pq.fM(K):∀(ns:List Int) {d:Dk},pq d->pq (Yc K ns d).2
 |[],d,h=>h|n::ns,d,h=>by unfold Yc;split;exact pq.fM K ns h;split;exact h.eN;rename_i hs;exact pq.fM K ns (d:=d.rH n)<|h.dR Â
def pq.Pz{k d}(h:pq d):pq (Zb k d).2.2:=by
 have b:∀c a,pq a->pq (Wd c a).2.2:=λc a h=>by grind [Wd,DD,pq.fM]
 unfold Zb;split;split;exact h.eN;rename_i hs;exact b _ _ (h.dR Â);split;split;exact h.eN;rename_i hs;exact b _ _<|h.dR Â
 grind
section
variable {n:Nat} {r r':Sr} {f f':Rf}
def Ws.open{mp a a'}(h:Ws r f)(o:Ok n r)(t:Cf r mp a r')(g:uP f r.d (Xr (jB f.m f.bJ (f.bA:Int) ((r.op+1:Nat):Int) mp) f.F) a' f'):a=a'/\Ws r' f'/\Ok (n+1) r':=by
 have j:=o.W<|Xu n;unfold Cf Ce at t;unfold uP Ps at g;rw[h.gA,h.op]at g;have e:Xr (jB f.m f.bJ (f.bA:Int) ((r.op+1:Nat):Int) mp) f.F=Xr (jB r.m r.bJ r.bA ((r.op+1:Nat):Int) mp) r.d.L:=by rw[h.m,h.bJ,h.bA];exact Γ h.tw.vz _
 split at t;grind;rename_i hs;rw[if_neg hs]at g;have y:r.sn=ar:=by cases hx:r.sn with|none=>rfl|some s=>grind
 split at t;grind;rename_i h9;rw[if_neg h9]at g;have I:=o.op;have l:∀s:kV,ar=ac s->False:=λs e=>Ç
 cases hl:Xr _ r.d.L with
 |none=>
  rw[hl]at t;rw[e,hl]at g;obtain⟨rfl,rfl⟩:=t;obtain⟨rfl,rfl⟩:=g;exact⟨rfl,⟨⟨h.tw.bS,h.tw.gF,h.tw.gL,h.tw.nA,h.tw.nk,h.tw.fV,h.tw.nx,h.tw.cE,h.tw.jN⟩,h.od,h.my,h.m,h.bA,rfl,h.bJ,rfl,λs e=>(l s<|y.symm.trans e).elim⟩,⟨j.m,j.bJ,j.bA,Â,j.bS,j.pE,j.nx,λs e=>(l s<|y.symm.trans e).elim⟩⟩
 |some q=>
  obtain⟨k,L⟩:=q;rw[hl]at t;obtain⟨z,X,N,O,Q,R,H,J⟩:=PD (by rw[h.m];exact o.m)<|e.trans hl;rw[e,hl]at g;obtain⟨tw,v,F,b,W,g⟩:=g;obtain⟨M,T,U,V,E⟩:=xai k r.d;have B:k.bA<=n+1:=by have:=o.bA;have:=h.bA;unfold pg at H;omega
  have K:=xdp k r.d;have w:pq (Zb k r.d).2.2:=pq.Pz o.nx;have x:0<=(Zb k r.d).2.2.bS/\(Zb k r.d).2.2.bS<=100000:=by rw[E];exact o.bS
  have i:bK (Zb k r.d).2.2.L<=(Zb k r.d).2.2.bS:=by rw[E];exact Yx K o.pE
  obtain⟨G,rfl,S,rfl⟩|⟨G,rfl,rfl⟩:=t;obtain⟨C,rfl,s,rfl⟩|⟨C,-⟩:=g;refine⟨rfl,⟨tw,h.od,h.my,h.m,rfl,by show f.op+1=r.op+1;rw[h.op],rfl,rfl,λD p=>?_⟩,⟨j.m,z.dO,B,by show r.op+1<=999;omega,x,i,w,λD p=>?_⟩⟩;cases p;exact⟨rfl,rfl,rfl,M,rfl,rfl⟩;cases p;refine⟨?_,by show 0<=20;omega,λc B=>(by cases B),z.nd,by have:=z.gp;show aa L<=_;omega,z.ks⟩;show 0<=(Zb k r.d).2.1.bE/\(Zb k r.d).2.1.bE<=(Zb k r.d).2.1.aP/\(Zb k r.d).2.1.aP<=_;grind;grind;obtain⟨C,-⟩|⟨C,rfl,rfl⟩:=g;grind;exact⟨rfl,⟨tw,h.od,h.my,h.m,rfl,by show f.op+1=r.op+1;rw[h.op],rfl,rfl,λD p=>(by cases p)⟩,⟨j.m,z.dO,B,by show r.op+1<=999;omega,x,i,w,λD p=>(by cases p)⟩⟩
end
def Ÿ{d n x}(h:bK d.L+(aa x:Int)<=d.bS)(hx:pq d):bK (d.ic n x).2.L<=d.bS/\(d.ic n x).2.bS=d.bS/\pq (d.ic n x).2:=by
 have c:∀d:Dk,d.eN.bS=d.bS:=λd=>by grind [Dk.eN]
 have e:=Bv (F:=d.L) n (jp d.L n++x,(Zm d.L n).2);simp only[zx]at e;have f:bK (d.gk n x).L<=d.bS:=by show bK (Vm d.L n (jp d.L n++x,(Zm d.L n).2))<=_;omega
 have a:=Dk.kH d;unfold Dk.ic;split;exact⟨Yx d.kP À,c d,hx.eN⟩;rename_i s1;have b:pq<|d.gk n x:=hx.dR Â;split;exact⟨Yx (Dk.kP _) f,(c _).trans a,b.eN⟩;rename_i s2;refine⟨?_,(Dk.kH _).trans a,b.dR Â⟩;have g:=Bv (F:=(d.gk n x).L) n (jp (d.gk n x).L n,(aa (jp (d.gk n x).L n):Int));simp only at g;show bK (Vm (d.gk n x).L n _)<=_;omega
section
variable {n:Nat} {r r':Sr} {f f':Rf} {s:kV}
theorem Ws.cH(h:Ws r f)(o:Ok n r)(b:r.sn=ac s):f.cH=(((r.cH s).1:Int),(r.cH s).2):=by obtain⟨j,k,l,m,c,d⟩:=h.nr s b;obtain⟨⟨e,g,i⟩,-⟩:=o.nr s b;unfold Rf.cH Sr.cH Rf.sP;rw[d,c,h.bA,h.od];by_cases a:s.aP<=s.bE;grind;rw[if_neg a,if_neg À,h.tw.vz];grind
def xpn(o:Ok n r)(a:r.sn=ac s):s.aP<=((r.cH s).1:Int)/\((r.cH s).1:Int)<=s.aP+1/\s.bE<((r.cH s).1:Int):=by obtain⟨⟨b,c,d⟩,-⟩:=o.nr s a;grind [Sr.cH]
def FW(r:Sr)(s:kV)(x:Int)(r':Sr):Prop:=r.gZ s=(ac x,r')\/∃r0,r.gZ s=(ar,r0)/\x=12/\r'=r0.jJ
def FW.inj{x y c d}(h:FW r s x c)(k:FW r s y d):x=y/\c=d:=by obtain h|⟨a,h,rfl,rfl⟩:=h<;>obtain k|⟨b,k,rfl,rfl⟩:=k<;>rw[h]at k<;>cases k<;>exact⟨rfl,rfl⟩
def Ws.Pv{x j d'}(h:Ws r f)(o:Ok n r)(l:r.sn=ac s)(G:s.P≠[])(hw:DB f r.d f.cH.1 (f.cH.2++oU f.m f.dO [82] f.ep f.op f.bA (Z5 f.P)) (sH f.m f.dO [82] f.ep f.op f.bA<|Z5 f.P) x j d')(D:x≠0->Tw d' j)(E:∀v,x=0->Tw d' (j.xA v)):∃r',FW r s x r'/\(x≠0->Ws r' j/\Ok (n+1) r')/\(x=0->(∀v,Ws r'<|j.xA v)/\Ok (n+1) r'):=by
 have i:=o.W<|Xu n;obtain⟨X,O,B,Q,R,Y⟩:=h.nr s l;obtain⟨J,V,K,M,W,N⟩:=o.nr s l;obtain⟨Z,p2,p3⟩:=xpn o l;rw[h.cH o l,h.m,Q,B,h.op,h.bA,O]at hw;unfold DB at hw;rw[h.bA,h.my,h.tw.bS]at hw;simp only at hw;have H:=Um r.m r.bJ [82] s.ep r.op r.bA (Z5 s.P) rfl;have I:aa ((r.cH s).2++oU r.m r.bJ [82] s.ep r.op r.bA (Z5 s.P))=aa (r.cH s).2+(42+aa (Z5 s.P)):=by rw[zx,H]
 have U:r.gZ s=if(r.eG s [82] s.ep<|Z5 s.P).1=ac 0 then(ac 0,{(r.eG s [82] s.ep<|Z5 s.P).2 with sn:=ac ({s with aP:=(r.cH s).1}:kV).nQ})else r.eG s [82] s.ep (Z5 s.P):=by unfold Sr.gZ;rw[if_neg G]
 obtain⟨b,rfl,rfl,rfl⟩|⟨b,p,rfl,rfl,rfl⟩|⟨b,p,c3,rfl,rfl,v,F,a,k,rfl⟩|⟨b,p,c3,rfl,rfl,v,F,a,k,rfl⟩:=hw;have e:r.eG s [82] s.ep (Z5 s.P)=(ac 10,r):=by unfold Sr.eG;rw[if_pos b]
 exact⟨r,aF Â,λ_=>⟨h,i⟩,λe=>Ç⟩;have e:r.eG s [82] s.ep (Z5 s.P)=(ac 9,r):=by unfold Sr.eG;rw[if_neg b,if_pos À]
 exact⟨r,aF Â,λ_=>⟨h,i⟩,λe=>Ç⟩;have e:r.eG s [82] s.ep (Z5 s.P)=(ar,{r with d:=(r.d.ic (r.cH s).1<|(r.cH s).2++oU r.m r.bJ [82] s.ep r.op r.bA (Z5 s.P)).2}):=by unfold Sr.eG;rw[if_neg b,if_neg À];unfold Dk.ic at c3⊢;split at c3;grind;grind
 obtain⟨C,q,t⟩:=Ÿ (Int.not_lt.1 p) o.nx;refine⟨Sr.jJ {r with d:=(r.d.ic (r.cH s).1<|(r.cH s).2++oU r.m r.bJ [82] s.ep r.op r.bA (Z5 s.P)).2},aE ⟨{r with d:=(r.d.ic (r.cH s).1<|(r.cH s).2++oU r.m r.bJ [82] s.ep r.op r.bA (Z5 s.P)).2},Â,rfl,rfl⟩,λ_=>⟨⟨D Ã,h.od,h.my,h.m,h.bA,h.op,h.bJ,rfl,λy g=>(by cases g)⟩,⟨i.m,i.bJ,i.bA,i.op,by show 0<=(r.d.ic _ _).2.bS/\(r.d.ic _ _).2.bS<=_;rw[q];exact o.bS,by show bK (r.d.ic _ _).2.L<=(r.d.ic _ _).2.bS;omega,t,λy g=>(by cases g)⟩⟩,λe=>Ç⟩;have e:r.eG s [82] s.ep (Z5 s.P)=(ac 0,r.pa s [82] s.ep<|Z5 s.P)/\(r.d.ic (r.cH s).1<|(r.cH s).2++oU r.m r.bJ [82] s.ep r.op r.bA (Z5 s.P)).2=(r.d.gk (r.cH s).1<|(r.cH s).2++oU r.m r.bJ [82] s.ep r.op r.bA (Z5 s.P)).uC (r.cH s).1:=by unfold Sr.eG;rw[if_neg b,if_neg À];unfold Dk.ic at c3⊢;split at c3;cases c3;grind
 obtain⟨C,q,t⟩:=Ÿ (Int.not_lt.1 p) o.nx;obtain⟨e,z⟩:=e;rw[z]at C q t;have T:=JV s.P s.L;refine⟨{(r.pa s [82] s.ep<|Z5 s.P)with sn:=ac ({s with aP:=(r.cH s).1}:kV).nQ},aF Â,λe=>(e rfl).elim,λ_=>⟨λS=>⟨by have:=E S rfl;rw[z]at this;exact this,h.od,h.my,h.m,by show f.bA+1=r.bA+1;rw[h.bA],h.op,rfl,h.on l,λy g=>?_⟩,⟨o.m,xk5,by show r.bA+1<=n+1;have:=o.bA;omega,i.op,by show 0<=((r.d.gk _ _).uC _).bS/\((r.d.gk _ _).uC _).bS<=_;rw[q];exact o.bS,by show bK ((r.d.gk _ _).uC _).L<=((r.d.gk _ _).uC _).bS;omega,t,λy g=>?_⟩⟩⟩;cases g;refine⟨?_,rfl,B,rfl,R, ?_⟩;show rf f.L f.P=fR (fE s.L s.P);grind [Pq];show((r.cH s).1:Int)=if((r.cH s).1:Int)<=s.bE then 0 else((r.cH s).1:Int)
 omega;cases g;refine⟨⟨J.1,by show s.bE<=((r.cH s).1:Int);omega,by show((r.cH s).1:Int)<=_;omega⟩,by show 0<=20;omega,λc w=>(by cases w),M.fE s.P,by show(fE s.L s.P).length<=_;omega,JX s.P N λc w=>?_⟩;have:=K c w;cases c with|put k v=>exact this.2.1|del k=>exact this.2
end
section
attribute [local go_sem] zn zg
def jei:El 60 103 1:= .yh ((ex 60).trans Tryz.underlying60) (z:=aR ar) (b:=8) Á Ã rfl Ã
def Ka(q:Nat):Ze:=[aR<|some ⟨q,0,ar⟩]
structure Sp where
 dW:Int
 a:Int
 n:Int
 m:Int
 k:Int
 s:Zl
 t:Zl
 f:Zv
def Sp.G(o:Sp):Za:=#[aH aU o.dW,aH aU o.a,aH aU o.n,aH aU o.m,aH aU o.k,aj<|st o.s,aj<|st o.t,o.f]
def Ŷ(w:Zy)(H:Nat)(ps:Zv)(n:Int)(tv fv mv:Zv)(P:List Nat)(o:Sp)(w':Zy):Prop:=
 ∃q B C D M ps',zj (λy=>y=H\/ps.ownBlock=ac y) w w'/\WB w' H ps' n tv fv mv/\Rw w' 103 1 Ka ps' (P++[q])/\(∀g,ps'.ownBlock=ac g->ps.ownBlock=ac g\/q<g)/\xh w' q #[zo B,zo C] 144/\Vq w' B (Sr.dT o.n o.m o.k o.s D M)/\Ju w' C (Rf.cR o.n o.m o.k o.s)/\ak w.heap<=q/\(∀x,(Sr.dT o.n o.m o.k o.s D M).cO B x->ak w.heap<=x/\x<C)/\C<q/\∀x,(Rf.cR o.n o.m o.k o.s).cO C x->x=C
def xj3(H)(o:Sp)(w)(h:vD o.n o.m o.k o.s=ao):aG prog 49 #[zo H,bM o.G] w λe w'=>e=ah (aX aw)/\Nw w w':=by obtain⟨c,a,n,m,k,s,t,f⟩:=o;have b:=h;have g:Nw w<|aB w<|aq (Sp.G ⟨c,a,n,m,k,s,t,f⟩) 69:=zj.E _;have X0:=xh.dT w (Sp.G ⟨c,a,n,m,k,s,t,f⟩) 69;have i:=X0.i (v:=zi n) 2 rfl;have c3:=X0.i (v:=zi m) 3 rfl;have j:=X0.i (v:=zi k) 4 rfl;have l:=X0.i (v:=zs s) 5 rfl;go_enter func49.1,Tryz.ntmps49;go_wp2;generalize aB w _=w1 at*;apply(xrr n m k s b _).mono;rintro e d⟨rfl,rfl⟩;go_wp2;apply(xh3 n m k s b _).mono;rintro e d⟨rfl,rfl⟩;go_wp2;apply(sk _ _).mono;rintro e d⟨rfl,rfl⟩;go_wp2;go_ret;exact⟨rfl,g⟩
def xon(H ps tv fv O n P o w)(hW:WB w H ps n tv fv O)(hP:Rw w 103 1 Ka ps P)(hl:aa P<=1000000000)(hb:vD o.n o.m o.k o.s=aw):aG prog 49 #[zo H,bM o.G] w λe w'=>e=ah (aX aw)/\Ŷ w H ps n tv fv O P o w':=by
 obtain⟨kd,a,l,p,j,s,t,f⟩:=o;have HB:=hb;have U:Nw w<|aB w<|aq (Sp.G ⟨kd,a,l,p,j,s,t,f⟩) 69:=zj.E _;have X0:=xh.dT w (Sp.G ⟨kd,a,l,p,j,s,t,f⟩) 69;have c2:=X0.i 2 rfl;have c3:=X0.i 3 rfl;have c4:=X0.i 4 rfl;have c5:=X0.i 5 rfl;have T:=hW;have I:=hP;obtain⟨L,h2,h3,h4,h5,h6,h7⟩:0<=l/\l<=100000/\1<=p/\p<=100000/\0<=j/\j<=999/\aa s=32:=Xt hb;go_enter func49.1,Tryz.ntmps49;go_wp2;generalize aB w (aq (Sp.G ⟨kd,a,l,p,j,s,t,f⟩) 69)=w1 at*;refine(U0 l p j s L h2 h3 h4 h5 h6 h7 _).mono ?_;rintro e w2⟨B,D,M,rfl,hB,hD,hM,G,Z⟩;have N2:=U.aA<|zj.Q G;replace X0:=X0.Y G;have HS:=Z;have HL:∀x,(Sr.dT l p j s D M).cO B x->ak w1.heap<=x:=λx d=>(by obtain rfl|d|⟨s,hs,-⟩:=d;exact hB;obtain rfl|rfl|⟨c,hc,-⟩:=d;exact hD;exact hM;cases hc;cases hs);have c2:=X0.i 2 rfl;have c3:=X0.i 3 rfl;have c4:=X0.i 4 rfl;have c5:=X0.i 5 rfl;go_wp2;refine(xlr l p j s HB _).mono ?_;rintro e w3⟨C,rfl,hn,hC,hr⟩;have F:=N2.aA hn;have S3:=HS.y hn λ_ _=>id;have R3:=hr;have HC:=hC;have S:=λx (d:(Sr.dT l p j s D M).cO B x)=>Sr.eY HS d;go_wp2;refine(sk _ _).mono ?_;rintro e b⟨rfl,rfl⟩;have W3:=T.y F id;have P3:=I.y F λ_ _=>id;obtain⟨J,K,rfl⟩:=I.dC;have d0:=W3.i 0 rfl;have Q:Nw b<|aB b<|aq #[zo B,zo C] 144:=zj.E _;have W:xh (aB b<|aq #[zo B,zo C] 144) (ak b.heap) #[zo B,zo C] 144:=xh.dT _ _ _;have E:Nw (aB b<|aq #[zo B,zo C] 144)<|aB (aB b<|aq #[zo B,zo C] 144)<|aq #[zo (ak b.heap)] 103:=zj.E _;have Q6:xh (aB (aB b<|aq #[zo B,zo C] 144)<|aq #[zo (ak b.heap)] 103) (ak b.heap+1) #[zo (ak b.heap)] 103:=by have h:=xh.dT (aB b<|aq #[zo B,zo C] 144) #[zo (ak b.heap)] 103;rw[xp]at h;exact h
 have V:=P3.y (Q.aA E) λ_ _=>id;go_wp2_with (refine Rw.pX jei [ak b.heap] V À ⟨show 0<1 by decide,show 1<=10 by decide⟩ (λ_=>rfl) Q6 rfl (by intro u hu;simp[Ka]at hu;rw[hu];rfl) rfl rfl rfl rfl ?_);intro q c8 z r8 X n8;have ba:=F.J;have r:=W3.y (Q.aA E) id;have i:WB z H (az J (aa P) K) n tv fv O:=r.y X λe=>V.gH r Ã _ e rfl;have Y:zj (·=H) z<|ai z (zq H 0)<|az (ac ⟨q,0,ar⟩) (aa P+1) c8:=zj.H z (zq H 0) _;have W9:WB (ai z (zq H 0)<|az (ac ⟨q,0,ar⟩) (aa P+1) c8) H (az (ac ⟨q,0,ar⟩) (aa P+1) c8) n tv fv O:=i.H 0 _;have P9:=r8.y Y (r8.gH i Ã);have R:zj (λy=>y=H\/(az J (aa P) K).ownBlock=ac y) b<|ai z (zq H 0)<|az (ac ⟨q,0,ar⟩) (aa P+1) c8:=(((Q.aA E).W λ_=>dI).aA<|X.W λy hy=>aE hy).aA<|Y.W λy hy=>aF hy;have G9:aK<|(az J (aa P) K).ownBlock=ac q\/ak b.heap<q:=n8.imp id λh=>À
 have Q9:xh (ai z (zq H 0)<|az (ac ⟨q,0,ar⟩) (aa P+1) c8) (ak b.heap) #[zo B,zo C] 144:=((W.y E id).y X λe=>V.gH (W.y E id) Ã _ e rfl).y Y λe=>(r.ne (W.y E id) Ã) e.symm;have e2:=i.i (v:=az J (aa P) K) 0 rfl;have f2:=i.dG 0;go_wp2;go_ret;refine⟨rfl,ak b.heap,B,C,D,M,_,(F.W λ_=>dI).aA R,W9,P9,λg hg=>?_,Q9, ?_, ?_,F.J,λx d=>?_, ?_, ?_⟩;cases hg;exact G9.o;refine S3.y R λx d h=>?_;have L:=HL x d;have h0:=U.J;obtain rfl|h:=h;have:=T.lt;omega;have:=(I.lt _ h).2;omega;refine VV _ _ _ _<|R3.bO.y R λh=>?_;have h0:=N2.J;have L:=HC;obtain rfl|h:=h;have:=T.lt;omega;have:=(I.lt _ h).2;omega;have L:=HL x d;have h0:=U.J;have h2:=S x d;have h3:=HC;omega;exact R3.bO.lt;rintro x (rfl|h|h|h);rfl;cases h;cases h;cases h
end
end P
end Go.Proofs.YtjnbhiamaabbgaaGreatDoor
