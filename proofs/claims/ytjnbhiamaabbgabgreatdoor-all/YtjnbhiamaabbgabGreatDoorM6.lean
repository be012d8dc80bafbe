import Derived.Test.YtjnbhiamaabbgabGreatDoorM4
import Derived.Test.YtjnbhiamaabbgabGreatDoorM5
import Derived.Deep.DeepAppendRoom
import Derived.Stop.Asserts
import Derived.Deep.Upon
set_option linter.all false
set_option maxRecDepth 100000
set_option maxHeartbeats 8000000
section
variable{P:Prop}
def TV(h:P:=by unfold mj;simp_all):=h
def za0(h:P:=by grind [rF,Mu,xx]):=h
def za6(h:P:=by rw[<-ho];rfl):=h
def zap(h:P:=by rw[h.bT.i 7 O];simp[Sr.G,Sr.my,a]):=h
def zbx(h:P:=by intro u hu;simp[uG]at hu;obtain rfl|rfl|rfl|rfl:=hu<;>rfl):=h
def zd6(h:P:=by have:=f.fr.aD;rw[xp]at this;omega):=h
def zdt(h:P:=by obtain⟨g,h,-⟩:=W.lp (λ_=>O) (i:=k) Ç O;simp_all):=h
def ze0(h:P:=by rw[HP.o,<-n.o,<-h1];exact ŋ PP s À):=h
def ze3(h:P:=by rw[inv.i q g];unfold sF;rw[aL À]):=h
def zdn(h:P:=by have e:=c;simp[vY,yc,jD,Qf]at c;subst c;obtain⟨d,i,h⟩:=φ;refine oX.eO bX sq e O (λt f=>⟨t,f,ύ O z.s3.ev (g.nw<|z.nw.lQ t f) i h ε⟩)<|z.go (zj.refl _ _) Â O Â):=h
end
namespace Go.Proofs.YtjnbhiamaabbgabGreatDoor
open _root_ renaming Array->bE,Bool->ez,ByteArray->eM,Int->U,List->bA,Nat->Q,Option->dD,absurd->dC,rfl->O,Array.replicate->cL,Array.setIfInBounds->aA,Array.size->V,Array.toList->eV,Bool.false->ao,Bool.true->M,Decidable.decide->bR,Exists.intro->ng,False.elim->eT,Int.toNat->bL,Nat.reduceAdd->jY,Nat.reduceSub->lh,Option.none->R,Option.some->Y,Or.inl->aJ,Or.inr->ac,Prod.fst->o7,Pure.pure->iu,UInt8.ofNat->mZ,UInt8.toNat->aN
open Go renaming Act->mh,Calls->aK,Code->pB,Ending->kH,Frame->fZ,Func->kL,MapEntry->eF,Oper->eX,Program->cI,Value->eJ,World->dN,bits->lr,execOp->aR,heap_alloc_new->xn,maxLen->pu,resolve->o8,results->eR,run_convert_bytes_back->iy,setCell_eq_setRow->zdm,setRow_heap->Jr,stepG->bW,undef->Z',wpS_region->pq,yielded->fN,Act.eval->jV,Act.put->ge,Addr.add_mid->pS,Code.region->fG,Code.seq->gU,Departure.mixedOrders->nf,Ending.outgrown->jQ,Ending.returned->ai,Exit.normal->eE,Exit.panic->pQ,Exit.thenS->nO,Extern.find->oH,Extern.findNext->kV,Extern.Rtype.noPackHeld->pA,Frame.enter->bI,FrameMode.panicking->fL,FrameMode.returning->eB,GStep.ended->ic,GStep.go->ij,Ground.data->fw,IntKind.i64->bB,IntKind.wrap_i64->zh,Item.code->dE,Item.inRegion->aS,Next.enter->nN,Next.value->gp,Obj.cells->au,Operand.tmp->cP,Outcome.stuck->iP,Proofs.intOf->bZ,Region.Mode.any->gH,Result.ok->dG,RowKit.Below->aP,RowKit.Hid->H,RowKit.Below.refl->zt,Sem.runT_bind'->Yf,Sem.run_bind->zc9,Sem.run_pure->zda,stepG.exec->aI
open CallKind renaming early->eK,normal->dH,report->pR
open Extern.ReflectliteType renaming method->pP,typeOf->pO
open Proofs.Tryz renaming f40->ii,f81->jD,func136->oE,prog->az,results39->pM,underlying212->jT
open Region renaming binds->fY,ready->aY,wanted->bP
open Value renaming agg->bY,bool->bG,iface->iW,int->aD,map->fu,pointer->aU,slice->aB,string->ak,tuple->cE
open World renaming alloc->aF,cell?->N,frozen?->aX,heap->Z,news_of_block->gX,setCell->ay,setCells->eW,setRow_alloc_new->og,size_alloc->xp
open List renaming drop->bV,drop_drop->zbd,drop_eq_getElem_cons->Zx,drop_take->Xb,length->T,length_append->zx,length_pos_iff->Z0,length_take->xf,map_congr_left->W6,range->iC,replicate->bS,take->eI,take_of_length_le->qp,take_succ_eq_append_getElem->zp,toArray->bH
namespace P
variable{w b w':Zy}{a:mh}{v cv tv l:Zv}{g k n b7 b8 e c d C m B lo:Q}{t:Zt}{o:eX}{Z':Ze}{F ſ:Xv}{α:Type}{f:Rf}{ops:bE eX}{rest:bA eX}{s x:Operand}{cs:Za}{r:Sr}
open A.Tryq
section
open Go.RowKit
theorem xx(a b:Z8):a^^^(a^^^b)=b:=by rw[<-UInt8.xor_assoc];simp
theorem hi7:∀x:Z8,(128<=aN x)=(x.toNat.testBit 7=M):=AX Ê
def gg(x:Z8):Z8:=if x.toNat.testBit 7=M then 27 else 0
theorem xx0(x):oO x=(x<<<1)^^^gg x:=by grind [oO,gg,hi7]
theorem xyb(a b):gg (a^^^b)=gg a^^^gg b:=by unfold gg;rw[UInt8.toNat_xor,Nat.testBit_xor];cases a.toNat.testBit 7<;>cases b.toNat.testBit 7<;>rfl
theorem xu4(a b):(a^^^b)<<<(1:Z8)=a<<<1^^^b<<<1:=by apply UInt8.eq_of_toBitVec_eq;simp[BitVec.shiftLeft_xor_distrib]
theorem Mu(a b):oO (a^^^b)=oO a^^^oO b:=by grind [xx0,xyb,xu4]
def mx0(a b c d):a^^^b^^^c^^^d^^^a^^^oO (a^^^b)=rF a b c d:=za0
def mx1(a b c d):a^^^b^^^c^^^d^^^b^^^oO (b^^^c)=rF b c d a:=za0
def mx2(a b c d):a^^^b^^^c^^^d^^^c^^^oO (c^^^d)=rF c d a b:=za0
def mx3(a b c d):a^^^b^^^c^^^d^^^d^^^oO (d^^^a)=rF d a b c:=za0
def xo2(f c)(a:c%4=0):oZ f c=rF (f c) (f<|c+1) (f<|c+2) (f<|c+3)/\oZ f (c+1)=rF (f<|c+1) (f<|c+2) (f<|c+3) (f c)/\oZ f (c+2)=rF (f<|c+2) (f<|c+3) (f c) (f<|c+1)/\oZ f (c+3)=rF (f<|c+3) (f c) (f<|c+1) (f<|c+2):=by unfold oZ;and_intros;rw[show c/4*4=c by omega,show c+(c%4+1)%4=c+1 by omega];exact mx0 ..;rw[show(c+1)/4*4=c by omega,show c+((c+1)%4+1)%4=c+2 by omega];exact mx1 ..;rw[show(c+2)/4*4=c by omega,show c+((c+2)%4+1)%4=c+3 by omega];exact mx2 ..;rw[show(c+3)/4*4=c by omega,show c+((c+3)%4+1)%4=c by omega];exact mx3 ..
attribute[local go_sem] Gb zn zg
structure BK(w:Zy)(y z:Zu)(W:Zy):Prop where
 fH:aP (V<|Z w) w W
 sz:V (Z w)+1+1<V (Z W)
 b0:Jp W (V<|Z w) (iO y) 176 191
 b1:Jp W (V (Z w)+1) Sn 256 188
 b2:Jp W (V (Z w)+1+1) z 16 251
def BK.gC(w y):BK w y zF<|aF (aF (aF w<|au (bH (ki (iO y) 176)) 191)<|au (bH (ki Sn 256)) 188)<|au #[J 0,J 0,J 0,J 0,J 0,J 0,J 0,J 0,J 0,J 0,J 0,J 0,J 0,J 0,J 0,J 0] 251:=by
 refine⟨(((zt ..).alloc (zd _) _).alloc Â _).alloc Ç _,Â,?_,?_,?_⟩;all_goals (show(((w.heap.push _).push _).push _)[_]?=_)
 all_goals (simp only[jb,Xi])
 grind;grind;rw[aT bD];rfl
def BK.W{a y z}(h:BK w y z a):BK w y z a.drew:=⟨h.fH.drew,h.sz,h.b0,h.b1,h.b2⟩
def BK.gN{y z}(h:BK w y z b)(a:aP (V<|Z b) b w'):BK w y z w':=
 let c:=h.sz
 ⟨h.fH.trans<|a.mono h.fH.size,zm h.sz a.size,h.b0.ac a À,h.b1.ac a À,h.b2.ac a À⟩
theorem BK.H{a y z}(h:BK w y z a)(k v):BK w y (λi=>if i=k then v else z i)<|ay a (K (V (Z w)+1+1) k)<|J<|e8 v:=
 ⟨h.fH.setCell Á _,Ö,h.b0.dR À,h.b1.dR À,h.b2.H k v⟩
theorem BK.put{a y z}(h:BK w y z a)(g)(b:V (Z w)+1+1<g)(k v):BK w y z<|ay a (K g k) v:=
 ⟨h.fH.setCell Á _,Ö,h.b0.dR À,h.b1.dR À,h.b2.dR À⟩
theorem BK.cH{a y f2 f3}(h:BK w y f2 a)(e:∀i,i<16->f2 i=f3 i):BK w y f3 a:=⟨h.fH,h.sz,h.b0,h.b1,h.b2.cH e⟩
def rG(y x:Zu)(n:Q):Q->Z8:=if n<=9 then FG y x n else Yr y x
def sf(r:Q)(f:Zu)(i:Q):Z8:=if r<10 then oZ f i else f i
def xql(y x r)(a:1<=r)(b:r<=10)(i):sf r (iq<|rG y x<|r-1) i^^^kY y r i=rG y x r i:=by
 obtain⟨n,rfl⟩:∃n,r=n+1:=⟨r-1,À⟩;unfold rG sf;rw[show n+1-1=n by omega,aT (show n<=9 by omega)];by_cases h:n+1<10;rw[aT h,aT À];rfl;obtain rfl:n=9:=À
 rw[aL h,aL À];rfl
def mj(f g:Zu)(k i:Q):Z8:=if i<k then g i else f i
def Q'(f g k i):(if i=k then g k else mj f g k i)=mj f g (k+1) i:=by grind [mj]
structure Mx(w:Zy)(y z q:Zu)(g h:Q)(F:Zu)(v:Zy):Prop where
 b:BK w y z v
 t:Jp v g F 16 251
 u:Jp v h q 4 252
theorem Mx.put{v y a c F h}(m:Mx w y a c g h F v)(d:V (Z w)+1+1<g)(e:g≠h)(k x):Mx w y a c g h (λi=>if i=k then x else F i)<|ay v (K g k)<|J<|e8 x:=⟨m.b.put g d k _,m.t.H k x,m.u.dR À⟩
theorem Mx.at{v y d a F h b q p c}(m:Mx w y d a g h F v)(hy:a 0=b/\a 1=q/\a 2=p/\a 3=c)(hk:k<16):(∃z,N v (K g k)=Y z)/\aX v (K g k)=ao/\N v (K h 0)=(J<|e8 b)/\N v (K h 1)=(J<|e8 q)/\N v (K h 2)=(J<|e8 p)/\N v (K h 3)=(J<|e8 c):=by obtain⟨rfl,rfl,rfl,rfl⟩:=hy;exact⟨⟨_,m.t.i hk⟩,m.t.eQ,m.u.i Ã,m.u.i Ã,m.u.i Ã,m.u.i Ã⟩
theorem xi5(key l)(hl:T l=16)(w):aq 113 #[E l,bY (bH (ki (iO key) 176)),bY (bH (ki Sn 256))] w (ak<|st<|kl (Yr key λi=>l.getD i 0) 16):=by
 obtain⟨x,hx⟩:∃x:Q->Z8,(λi=>l.getD i 0)=x:=⟨_,O⟩;have HX:(λi=>l.getD i 0)=x:=hx;go_enter func113.1,Tryz.ntmps113;go_wp2;go_loopw [8] (λi wr=>∃k:Q,k<=16/\i=J k/\BK w key (mj zF (rG key x 0) k) wr) (λi _=>bL (16-bZ i));exact⟨0,À,O,BK.gC w key⟩;obtain⟨k,hk,rfl,inv⟩:=hrel;by_cases L:k<16
 ·have D:=inv.sz;have i1:(k:U)<16:=À;have i2:(k:U)<(T l:Q):=À
  have i3:(k:U)<176:=À
  have bb:k<T l:=À
  let⟨a,ha⟩:=JP<|(st l)[k]'(by rw[zn];exact bb);have bx:lr .xor bB (aN a:U) (e8<|iO key k)=e8 (a^^^iO key k):=Gb a _;have ew:IntKind.i64.wrap (aN a:U)=(aN a:U):=QL a;have c1:N wr (K (V<|Z w) k)=(J<|e8<|iO key k):=inv.b0.i À;have c2:N wr (K (V (Z w)+1+1) k)=(J<|e8<|mj zF (rG key x 0) k k):=inv.b2.i À;have f2:aX wr (K (V (Z w)+1+1) k)=ao:=inv.b2.eQ;have C:BK w key (mj zF (rG key x 0)<|k+1)<|ay wr.drew (K (V (Z w)+1+1) k)<|J<|e8<|a^^^iO key k:=by
   refine(inv.W.H k _).cH λi _=>?_;have e:a^^^iO key k=rG key x 0 k:=by show _=x k^^^kY key 0 k;unfold iO;rw[show k/16=0 by omega,show k%16=k by omega,<-HX,<-ha];show l[k]^^^_=l.getD k 0^^^_;simp[List.getD,bb]
   rw[e];exact Q' _ _ k i
  generalize mj zF (rG key x 0) k k=z at*;generalize a^^^iO key k=v at*;generalize iO key k=y at*;go_wp2;go_still_tail 10,Ä;go_wp2;go_roundw
  ·first|exact⟨k+1,À,Å,C⟩|((repeat apply ng);exact⟨⟨k+1,À,Å,C⟩,O⟩)
  exact Î
 obtain rfl:k=16:=À
 have inv:=inv.cH (f3:=rG key x 0) λi h1=>TV
 go_wp2;go_loopw [9] (λi wr=>∃r:Q,1<=r/\r<=11/\i=J r/\BK w key (rG key x<|r-1) wr) (λi _=>bL (11-bZ i));exact⟨1,À,À,O,inv⟩;obtain⟨r,bc,hr,rfl,inv⟩:=hrel;by_cases br:r<11
 ·let⟨d,ba⟩:=JP<|rG key x (r-1);have HN:∀i,sf r (iq d) i^^^kY key r i=rG key x r i:=λi=>by rw[<-ba];exact xql key x r bc À i
  rw[ba]at inv;have D:=inv.sz;have i1:(r:U)<=10:=À
  have hd:bR ((r:U)<=10)=M:=jm i1;have bg:=inv.gN<|(zt _ _).alloc (zd _)<|au #[J 0,J 0,J 0,J 0,J 0,J 0,J 0,J 0,J 0,J 0,J 0,J 0,J 0,J 0,J 0,J 0] 251;have h3:Jp (aF wr<|au #[J 0,J 0,J 0,J 0,J 0,J 0,J 0,J 0,J 0,J 0,J 0,J 0,J 0,J 0,J 0,J 0] 251) (V<|Z wr) (mj zF (iq d) 0) 16 251:=xn wr<|au #[J 0,J 0,J 0,J 0,J 0,J 0,J 0,J 0,J 0,J 0,J 0,J 0,J 0,J 0,J 0,J 0] 251;go_wp2;try rw[hd]
  generalize aF wr (au #[J 0,J 0,J 0,J 0,J 0,J 0,J 0,J 0,J 0,J 0,J 0,J 0,J 0,J 0,J 0,J 0] 251)=wa at*;let⟨g,bp⟩:=JP<|V (Z wr);rw[bp]at D h3⊢;go_loopw [11] (λi wq=>∃k:Q,k<=16/\i=J k/\BK w key d wq/\Jp wq g (mj zF (iq d) k) 16 251) (λi _=>bL (16-bZ i));exact⟨0,À,O,bg,h3⟩;obtain⟨k,hk,rfl,inv,j⟩:=hrel;by_cases L:k<16
  ·let⟨q,hq⟩:=JP<|k%4;let⟨m,hm⟩:=JP<|(k+q*4)%16;have e1:(k:U).tmod 4=(q:Q):=by rw[qo À];omega
   have e2:IntKind.i64.wrap (4*(q:U))=4*(q:U):=Í
   have e3:IntKind.i64.wrap ((k:U)+4*(q:U))=(k:U)+4*(q:U):=Í
   have e4:((k:U)+4*(q:U)).tmod 16=(m:Q):=zdh
   have m4:m<16:=À
   have m5:(m:U)<16:=À
   have k5:(k:U)<16:=À
   have c1:N wr (K (V (Z w)+1+1) m)=(J<|e8<|d m):=inv.b2.i m4;have c2:=inv.b1.qN<|d m;have l1:=uz<|d m;have l2:=uQ<|d m;have c3:N wr (K g k)=(J<|e8<|mj zF (iq d) k k):=j.i L;have q3:aX wr (K g k)=ao:=j.eQ;have C:BK w key d<|ay wr (K g k)<|J<|e8<|Sx<|d m:=inv.put g D k _;have P:Jp (ay wr (K g k)<|J<|e8<|Sx<|d m) g (mj zF (iq d)<|k+1) 16 251:=by
    refine(j.H k _).cH λi _=>?_;have e:Sx (d m)=iq d k:=by unfold iq;rw[hq,hm]
    rw[e];exact Q' _ _ k i
   generalize mj zF (iq d) k k=z at*;generalize d m=y at*;go_wp2;go_roundw
   ·first|exact⟨k+1,À,Å,C,P⟩|((repeat apply Exists.intro);exact⟨⟨k+1,À,Å,C,P⟩,rfl⟩)
   exact Î
  have ke:k=16:=À
  have k5:¬(k:U)<16:=À
  rw[ke]at j;have bh:Jp wr g (mj (iq d) (sf r<|iq d) 0) 16 251:=j.cH λi h1=>TV
  go_wp2;go_loopw [12] (λi wq=>∃c:Q,c<=16/\c%4=0/\i=J c/\BK w key d wq/\Jp wq g (mj (iq d) (sf r<|iq d) c) 16 251) (λi _=>bL (16-bZ i));exact⟨0,À,À,O,inv,bh⟩;obtain⟨c,hc,bn,rfl,inv,j⟩:=hrel;by_cases bu:c<16
  ·have i3:c+3<16:=À;have c5:(c:U)<16:=À
   have cb:IntKind.i64.wrap ((c:U)+1)=(c:U)+1:=Í
   have b8:(c:U)+1<16:=À
   have bz:(0:U)<=(c:U)+1:=À
   have b5:bL ((c:U)+1)=c+1:=À
   have cc:IntKind.i64.wrap ((c:U)+2)=(c:U)+2:=Í
   have b9:(c:U)+2<16:=À
   have b3:(0:U)<=(c:U)+2:=À
   have b6:bL ((c:U)+2)=c+2:=À
   have cd:IntKind.i64.wrap ((c:U)+3)=(c:U)+3:=Í
   have ca:(c:U)+3<16:=À
   have b4:(0:U)<=(c:U)+3:=À
   have b7:bL ((c:U)+3)=c+3:=À
   have bo:g<V (Z wr):=js (j.i (k:=0) Ã);let⟨o,bs⟩:=JP<|iq d c;let⟨p,bd⟩:=JP<|iq d (c+1);let⟨n,be⟩:=JP<|iq d (c+2);let⟨s,bf⟩:=JP<|iq d (c+3);have HS:∀w',Jp w' g (mj (iq d) (sf r<|iq d) c) 16 251->N w' (K g c)=(J<|e8 o)/\N w' (K g<|c+1)=(J<|e8 p)/\N w' (K g<|c+2)=(J<|e8 n)/\N w' (K g<|c+3)=(J<|e8 s):=λw' h=>⟨by rw[h.i À];unfold mj;simp_all,by rw[h.i À];unfold mj;rw[aL À,bd],by rw[h.i À];unfold mj;rw[aL À,be],by rw[h.i À];unfold mj;rw[aL À,bf]⟩;have HM:∀i,i<16->(r<10->(if i=c+3 then rF s o p n else if i=c+2 then rF n s o p else if i=c+1 then rF p n s o else if i=c then rF o p n s else mj (iq d) (sf r<|iq d) c i)=mj (iq d) (sf r<|iq d) (c+4) i):=λi h1 G=>by let⟨p0,p1,p2,p3⟩:=xo2 (iq d) c bn;rw[bs,bd,be,bf]at p0 p1 p2 p3;unfold mj sf;by_cases e3:i=c+3;simp_all;rw[aL e3];by_cases e2:i=c+2;simp_all;rw[aL e2];by_cases e1:i=c+1;simp_all;rw[aL e1];by_cases e0:i=c;simp_all;rw[aL e0];by_cases el:i<c;rw[aT el,aT (show i<c+4 by omega)];rw[aL el,aL À]
   have HE:¬r<10->∀i,i<16->mj (iq d) (sf r<|iq d) c i=mj (iq d) (sf r<|iq d) (c+4) i:=λG i _=>by unfold mj sf;rw[aL G];simp
   have P:Jp wr g (mj (iq d) (sf r<|iq d) c) 16 251:=j;have HV:BK w key d wr:=inv;have W:∀Z',Jp (aF wr Z').drew g (mj (iq d) (sf r<|iq d) c) 16 251:=λZ'=>P.ac (Below.drew<|(zt _ _).alloc (zd _) Z') bo;have bi:∀Z',BK w key d (aF wr Z').drew:=λZ'=>(HV.gN<|(zt _ _).alloc (zd _) Z').W;have S0:=HS _ j;have S1:=λZ'=>HS _<|W Z';go_wp2;go_region_held3 (λw'=>N w' (K g c)=(J<|e8 o)/\N w' (K g<|c+1)=(J<|e8 p)/\N w' (K g<|c+2)=(J<|e8 n)/\N w' (K g<|c+3)=(J<|e8 s)) (first|exact S0|exact S1 _) (fail);obtain⟨F,ho⟩:∃F:Q->Z8,(λk=>if k=0 then o else if k=1 then p else if k=2 then n else s)=F:=⟨_,O⟩;have bj:F 0=o:=za6
   have bk:F 1=p:=za6
   have bl:F 2=n:=za6
   have bm:F 3=s:=za6
   have I:=bi<|au #[J<|e8 o,J<|e8 p,J<|e8 n,J<|e8 s] 252;have es:=W<|au #[J<|e8 o,J<|e8 p,J<|e8 n,J<|e8 s] 252;have ih:Jp (aF wr<|au #[J<|e8 o,J<|e8 p,J<|e8 n,J<|e8 s] 252).drew (V<|Z wr) F 4 252:=by rw[<-ho];exact xn wr<|au #[J<|e8 o,J<|e8 p,J<|e8 n,J<|e8 s] 252
   generalize(aF wr<|au #[J<|e8 o,J<|e8 p,J<|e8 n,J<|e8 s] 252).drew=w4 at*;have g':g≠V (Z wr):=À
   generalize V (Z wr)=h at*;have v':H<|F 0=o/\F 1=p/\F 2=n/\F 3=s:=⟨bj,bk,bl,bm⟩;by_cases G:r<10
   ·have bt:(r:U)<10:=À;have u:Mx w key d F g h _ w4:=⟨I,es,ih⟩;let⟨⟨z,hz⟩,q3,d0,d1,d2,d3⟩:=u.at v'.o (k:=c) À;replace u:=u.put D g' (c)<|rF o p n s;go_wp2;refine(Mn o p n s _).mono ?_;rintro en h2⟨rfl,rfl⟩;go_upto_region 20 with fail
    generalize ay h2 (K g c) _=w5 at*;let⟨⟨z,hz⟩,q3,d0,d1,d2,d3⟩:=u.at v'.o (k:=c+1) À;replace u:=u.put D g' (c+1)<|rF p n s o;go_wp2;refine(Mn p n s o _).mono ?_;rintro en h2⟨rfl,rfl⟩;go_upto_region 21 with fail
    generalize ay h2 (K g<|c+1) _=w6 at*;let⟨⟨z,hz⟩,q3,d0,d1,d2,d3⟩:=u.at v'.o (k:=c+2) À;replace u:=u.put D g' (c+2)<|rF n s o p;go_wp2;refine(Mn n s o p _).mono ?_;rintro en h2⟨rfl,rfl⟩;go_upto_region 22 with fail
    generalize ay h2 (K g<|c+2) _=w7 at*;let⟨⟨z,hz⟩,q3,d0,d1,d2,d3⟩:=u.at v'.o (k:=c+3) À;replace u:=u.put D g' (c+3)<|rF s o p n;go_wp2;refine(Mn s o p n _).mono ?_;rintro en h2⟨rfl,rfl⟩;go_upto_region 16 with fail
    generalize ay h2 (K g<|c+3) _=w8 at*;have C:=u.b;have P:=u.t.cH λi h1=>HM i h1 G;clear u HM HE;go_wp2;go_roundw
    ·first|exact⟨c+4,À,À,Å,C,P⟩|((repeat apply Exists.intro);exact⟨⟨c+4,À,À,Å,C,P⟩,rfl⟩)
    exact Î
   have bt:¬(r:U)<10:=À
   have C:BK w key d w4:=I;have P:Jp w4 g (mj (iq d) (sf r<|iq d)<|c+4) 16 251:=es.cH<|HE G;clear I es ih HM HE;go_wp2;go_roundw
   ·first|exact⟨c+4,À,À,Å,C,P⟩|((repeat apply Exists.intro);exact⟨⟨c+4,À,À,Å,C,P⟩,rfl⟩)
   exact Î
  have ce:c=16:=À
  have c5:¬(c:U)<16:=À
  rw[ce]at j;have S:Jp wr g (sf r<|iq d) 16 251:=j.cH (λi h1=>TV);have hs:BK w key (mj d (rG key x r) 0) wr:=inv.cH (λi h1=>by unfold mj;simp);clear ce j inv;go_wp2;go_loopw [14] (λi wq=>∃k:Q,k<=16/\i=J k/\BK w key (mj d (rG key x r) k) wq/\Jp wq g (sf r<|iq d) 16 251) (λi _=>bL (16-bZ i));exact⟨0,À,O,hs,S⟩;clear hs S;obtain⟨k,hk,rfl,inv,j⟩:=hrel;by_cases hw:k<16
  ·have k5:(k:U)<16:=À;have a1:IntKind.i64.wrap (16*(r:U))=16*(r:U):=Í
   have a2:IntKind.i64.wrap (16*(r:U)+(k:U))=16*(r:U)+(k:U):=Í
   have a3:16*(r:U)+(k:U)<176:=À
   have a4:(0:U)<=16*(r:U)+(k:U):=À
   have a5:bL (16*(r:U)+(k:U))=16*r+k:=À
   have d1:N wr (K g k)=(J<|e8<|sf r (iq d) k):=j.i hw;have d2:N wr (K (V<|Z w)<|16*r+k)=(J<|e8<|kY key r k):=by rw[inv.b0.i À];unfold iO;rw[show(16*r+k)/16=r by omega,show(16*r+k)%16=k by omega]
   have d3:N wr (K (V (Z w)+1+1) k)=(J<|e8<|mj d (rG key x r) k k):=inv.b2.i hw;have d4:aX wr (K (V (Z w)+1+1) k)=ao:=inv.b2.eQ;have hx:=HN k;have C:BK w key (mj d (rG key x r)<|k+1)<|ay wr.drew (K (V (Z w)+1+1) k)<|J<|e8<|rG key x r k:=(inv.W.H k _).cH λi _=>Q' _ _ k i;have P:Jp (ay wr.drew (K (V (Z w)+1+1) k)<|J<|e8<|rG key x r k) g (sf r<|iq d) 16 251:=Jp.dR (w:=wr.drew) j À;clear inv j;generalize mj d (rG key x r) k k=z at*;generalize rG key x r k=v at*;generalize sf r (iq d) k=y at*;generalize kY key r k=n at*;go_wp2;go_still_tail 12,Ä;go_wp2;go_roundw
   ·first|exact⟨k+1,À,Å,C,P⟩|((repeat apply Exists.intro);exact⟨⟨k+1,À,Å,C,P⟩,rfl⟩)
   exact Î
  have ke:k=16:=À
  have k5:¬(k:U)<16:=À
  rw[ke]at inv;have C:BK w key (rG key x<|r+1-1) wr:=inv.cH (λi h1=>TV);clear ke j inv HN;go_wp2;go_roundw
  ·first|exact⟨r+1,À,À,Å,C⟩|((repeat apply ng);exact⟨⟨r+1,À,À,Å,C⟩,O⟩)
  exact Î
 obtain rfl:r=11:=À
 have inv:BK w key (Yr key x) wr:=inv;clear hr bc br;go_wp2;go_loopw [15,16] (λv i wq=>∃k:Q,k<=16/\i=J k/\v=E (kl (Yr key x) k)/\BK w key (Yr key x) wq) (λ_ i _=>bL (16-bZ i));exact⟨0,À,O,O,inv⟩;clear inv;obtain⟨k,hk,rfl,rfl,inv⟩:=hrel;by_cases L:k<16
 ·have k5:(k:U)<16:=À;have bv:=Cz (Yr key x) k;have c1:N wr (K (V (Z w)+1+1) k)=(J<|e8<|Yr key x k):=inv.b2.i L;have HA:H<|kl (Yr key x) (k+1)=kl (Yr key x) k++nb (aN (Yr key x k)) 1:=by show _=_;unfold kl nb nb bq;rw[List.range_succ];simp
  have HV:BK w key (Yr key x) wr:=inv;clear inv;generalize kl (Yr key x) k=X at*;generalize Yr key x k=v at*;go_wp2;refine(wD (e8 v) 1 (aN v) 1 O O Ã _).mono ?_;rintro en w2⟨rfl,w3⟩;have bw:=Z2 (aN v) 1;have C:BK w key (Yr key x) w2:=HV.gN w3;clear w3 c1;generalize nb (aN v) 1=B at*;go_wp2;go_roundw
  ·first|exact⟨k+1,À,Å,by rw[HA.o],C⟩|((repeat apply ng);exact⟨⟨k+1,À,Å,by rw[HA.o],C⟩,O⟩)
  exact Î
 obtain rfl:k=16:=À
 have hb:=inv.fH;clear inv;go_wp2;go_ret;exact⟨by rw[HX];rfl,hb⟩
end
section
def Ŋ{f g}(h:∀i,i<16->f i=g i):∀i,i<16->iq f i=iq g i:=λi _=>by grind [iq]
def xdq{f g}(h:∀i,i<16->f i=g i):∀i,i<16->oZ f i=oZ g i:=λi a=>by grind [oZ]
def Q2{f g p q}(h:∀i,i<16->f i=g i)(a:∀i,i<16->p i=q i):∀i,i<16->pE f p i=pE g q i:=λi b=>by grind [pE]
theorem xjs{f g}(h:∀i,i<16->f i=g i)(c j):yv f c j=yv g c j:=by grind [yv]
def xj9{f g}(h:∀i,i<16->f i=g i)(c):∀i,i<16->lC f c i=lC g c i:=by intro i;induction i using Nat.strongRecOn with|_ i I=>intro b;by_cases a:i<4;grind [Ĥ,xjs];obtain⟨j,rfl⟩:∃j,i=j+4:=⟨i-4,À⟩;grind [ģ]
def Mr{f g}(h:∀i,i<16->f i=g i):∀n i,i<16->kY f n i=kY g n i
 |0=>h|n+1=>xj9 (Mr h n)<|tC n
def ň{k y x b}(h:∀i,i<16->k i=y i)(a:∀i,i<16->x i=b i):∀n i,i<16->FG k x n i=FG y b n i
 |0=>Q2 a<|Mr h 0
 |n+1=>Q2 (xdq<|Ŋ<|ň h a n)<|Mr h<|n+1
def xb5{k y x a}(h:∀i,i<16->k i=y i)(b:∀i,i<16->x i=a i):∀i,i<16->Yr k x i=Yr y a i:=
 Q2 (Ŋ<|ň h b 9) (Mr h 10)
def xoc{f g}(h:∀i,i<n->f i=g i):kl f n=kl g n:=by grind [kl,W6]
open Go.RowKit
attribute[local go_sem] zn zg zZ
def Jp.mE{b f}(d:Jp w b f n t):w.rangeAt b 0<|ki f n:=λj v c=>by
 have a:j<n:=by have:=(Wb.1 c).1;rwa[Mp]at this
 rw[j7,d.i a,<-c,ĥ _ _ _ a]
def Jp.lt{b f}(c:Jp w b f n t)(a:0<n):b<V (Z w):=js<|c.i a
def L6(x:Addr):Sem Zv:=loadVar 188 x
def L1(x:Addr):Sem Zv:=loadVar 191 x
def ĺ(x):loadVar 188 x=L6 x:=O
def Ĺ(x):loadVar 191 x=L1 x:=O
attribute[local go_sem ↓] ĺ Ĺ
end
section
open Go.RowKit
attribute[local go_sem] zn zg zZ
attribute[local go_sem ↓] ĺ Ĺ
structure RO(w:Zy)(b7 b8 o:Q)(y z:Zu)(n:Q)(Z':Ze)(W:Zy):Prop where
 fH:aP (V<|Z w) w W
 yy:V (Z w)<=o
 n7:b7≠o
 n8:b8≠o
 r7:Jp W b7 Sn 256 188
 r8:Jp W b8 (iO y) 176 191
 ob:W.heap[o]?=Y (au (bH (kb z n++Z')) 5 (T (kb z n++Z'),T (kb z n++Z')+1))
def RO.Lz{a o y b}(h:RO w b7 b8 o y b n Z' a):o<V (Z a):=(za.1 h.ob).1
def RO.gN{o y c}(h:RO w b7 b8 o y c n Z' b)(a:aP (V<|Z b) b w'):RO w b7 b8 o y c n Z' w':=
 ⟨h.fH.trans<|a.mono h.fH.size,h.yy,h.n7,h.n8,h.r7.ac a<|h.r7.lt Ã,h.r8.ac a<|h.r8.lt Ã,(a.block _ h.Lz).trans h.ob⟩
def RO.W{o y a}(h:RO w b7 b8 o y a n Z' b):RO w b7 b8 o y a n Z' b.drew:=⟨h.fH.drew,h.yy,h.n7,h.n8,h.r7,h.r8,h.ob⟩
def RO.i{o y a}(h:RO w b7 b8 o y a n Z' b)(k)(hk:k<n):N b (K o k)=(zc<|a k):=zbw
def RO.eQ{a o y b}(h:RO w b7 b8 o y b n Z' a)(k)(hk:k<n):aX a (K o k)=ao:=by unfold aX;rw[h.ob];grind [tV]
theorem RO.H{o y a}(h:RO w b7 b8 o y a n Z' b)(k)(hk:k<n)(v):RO w b7 b8 o y (λi=>if i=k then v else a i) n Z'<|ay b (K o k)<|zc v:=by refine⟨h.fH.setCell h.yy _,h.yy,h.n7,h.n8,h.r7.dR h.n7,h.r8.dR h.n8,?_⟩;rw[zdm _ _ _ _ _ _ _ h.ob,Jr _ _ _ _ _ _ h.ob];grind [tV,Pb]
theorem RO.cH{o y a fy}(h:RO w b7 b8 o y a n Z' b)(e:∀i,i<n->a i=fy i):RO w b7 b8 o y fy n Z' b:=by have:=h.ob;rw[Pk e]at this;exact⟨h.fH,h.yy,h.n7,h.n8,h.r7,h.r8,this⟩
theorem Ľ(m):∀k j,j<k->(nb m k).getD j 0=mZ (m/256^(k-1-j))
 |k+1,0,_=>by rw[nb];simp[bq]|k+1,j+1,h=>by rw[nb,List.getD_cons_succ,Ľ m k j À,show k+1-1-(j+1)=k-1-j by omega]
def ja9(a)(b:T a=8)(m i)(c:i<16):(a++nb m 8).getD i 0=kN a m i:=by
 unfold kN;by_cases h:i<8;grind;rw[aL h];have e:(a++nb m 8).getD i 0=(nb m 8).getD (i-8) 0:=by simp[List.getD];rw[Xp À,b]
 grind [Ľ]
def xxn(c a)(b:T a=8)(m):kl (Yr c λi=>(a++nb m 8).getD i 0) 16=kl (Yr c<|kN a m) 16:=
 xoc (xb5 (λ_ _=>O) λj d=>ja9 a b m j d)
def ŋ(l n)(h:n<T l):l.getD n 0=(st l)[n]'(by rw[zn];exact h):=by show l.getD n 0=l[n];grind
def Ex(y:Zu)(z:Zl)(k:Q):Zl:=if k=0 then []else kl (Yr y<|kN z<|(k-1)/16) 16
def QZ(k d x)(hk:T k=16)(bh:T d=8)(hx:T x<=80000)(w):aq 116 #[E k,E d,E x] w (E<|nT k d x):=by
 have bs:=(zero_of_info Ĝ).1;have br:=(zero_of_info ě).1;have bl:V Ap=V (ki Sn 256).toArray:=by rw[QO,xV,xV]
 have bf:(prog.info? 188).map (·.size)=Y (V (ki Sn 256).toArray):=by rw[xV];exact QS
 have bj:=Mq Sn 256;obtain⟨c,ih⟩:∃c:Q->Z8,(λi=>k.getD i 0)=c:=⟨_,O⟩;have ba:(λi=>k.getD i 0)=c:=ih;have HC:∀W,aq 114 #[E k,bY (bH (ki Sn 256))] W (bY (bH (ki (iO c) 176))):=λW=>by grind [zxi]
 have bk:V IE=V (ki (iO c) 176).toArray:=by rw[Ě,xV,xV]
 have be:(prog.info? 191).map (·.size)=Y (V (ki (iO c) 176).toArray):=by rw[xV];exact QR
 have bi:=Mq (iO c) 176;have hr:(prog.info? 188).map (·.size)=Y (T (ki Sn 256)):=by rw[Mp];exact QS
 have e1:(prog.info? 191).map (·.size)=Y (T (ki (iO c) 176)):=by rw[Mp];exact QR
 have L:∀W b,Jp W b Sn 256 188->(L6<|K b 0).run prog W=dG (bY (bH (ki Sn 256))) W:=λW b h=>run_loadVar_mid W b 0 188 (ki Sn 256) _ h.mE lA O hr;have h2:∀W b,Jp W b (iO c) 176 191->(L1<|K b 0).run prog W=dG (bY (bH (ki (iO c) 176))) W:=λW b h=>run_loadVar_mid W b 0 191 (ki (iO c) 176) _ h.mE lB O e1;generalize Ap=zz6 at*;generalize IE=zz1 at*;go_enter func116.1,Tryz.ntmps116;go_wp2;refine(xi8 _).mono ?_;rintro en w1⟨rfl,r⟩;have t:aP (V<|Z w) w<|aF w1<|au (bH (ki Sn 256)) 188:=r.alloc r.size _;have D:Jp (aF w1<|au (bH (ki Sn 256)) 188) (V<|Z w1) Sn 256 188:=xn _ _;go_upto_region 2 with(refine Zo O 188 _ _ O w1.heap.size _ O O 188 zz6 (xn _ _) bf bl bj ?_;rw[og])
 have bq:V (Z w)<=V (Z w1):=r.size;generalize aF w1 (au (bH (ki Sn 256)) 188)=w2 at*;generalize V (Z w1)=b7 at*;have B:=D.lt Ã
 go_wp2;refine(HC _).mono ?_;rintro en G⟨rfl,p⟩;have f:Jp (aF G<|au (bH (ki (iO c) 176)) 191) b7 Sn 256 188:=(D.ac p B).ac ((zt _ _).alloc (zd _) _)<|zm B p.size;have KX:Jp (aF G<|au (bH (ki (iO c) 176)) 191) (V<|Z G) (iO c) 176 191:=xn _ _;have y:aP (V<|Z w) w<|aF G<|au (bH (ki (iO c) 176)) 191:=(t.trans<|p.mono t.size).alloc (xa t.size p.size) _;go_upto_region 3 with(refine Zo O 191 _ _ O G.heap.size _ O O 191 zz1 (xn _ _) be bk bi ?_;rw[og])
 generalize aF G (au (bH (ki (iO c) 176)) 191)=w4 at*;generalize V (Z G)=b8 at*;have bg:=KX.lt Ã;have B:=f.lt Ã;obtain⟨ho,Z',w5,bp,S,z,X⟩:=XI x w4;have C:RO w b7 b8 (V<|Z w4) c (sF c d x 0) (T x) Z' w5:=⟨y.trans<|z.mono y.size,y.size,À,À,f.ac z B,KX.ac z bg,by rw[X];rfl⟩;clear X z f KX y p t r;generalize V (Z w4)=o at*;go_wp2;clear S;go_loopw [10,11] (λv i wr=>∃q:Q,q<=T x/\i=J q/\v=E (Ex c d q)/\RO w b7 b8 o c (sF c d x q) (T x) Z' wr) (λ_ i _=>bL (T x-bZ i));exact⟨0,À,O,O,C⟩;clear C;obtain⟨q,hq,rfl,rfl,inv⟩:=hrel;by_cases g:q<T x
 ·have i1:(q:U)<(T x:Q):=À;let⟨m,hm⟩:=JP<|q/16;let⟨s,hs⟩:=JP<|q%16;have F:s<16:=À
  have et:(q:U).tmod 16=(s:Q):=zdh
  have em:(q:U)%16=(s:Q):=À
  have hP:Ex c d (q+1)=kl (Yr c<|kN d m) 16:=by unfold Ex;rw[aL À,show(q+1-1)/16=m by omega]
  have HP:H<|uA c d q=Yr c (kN d m) s:=by show _=_;unfold uA;rw[hm,hs]
  by_cases h0:s=0
  ·have er:((q:U)%16==0)=M:=by simp;omega
   have ed:(q:U).tdiv 16=(m:Q):=zdy
   clear h0;have HV:RO w b7 b8 o c (sF c d x q) (T x) Z' wr:=inv;have R7:=inv.W.r7;have R8:=inv.W.r8;have HB:kl (Yr c λi=>(d++nb m 8).getD i 0) 16=kl (Yr c<|kN d m) 16:=xxn c d bh m;have hl:=Z2 m 8;have HL:∀W,aq 113 #[E<|d++nb m 8,bY (bH (ki (iO c) 176)),bY (bH (ki Sn 256))] W (ak<|st<|kl (Yr c<|kN d m) 16):=λW=>by rw[<-HB];grind [xi5]
   have I:∀W,aq 167 #[J m,J 8] W (E<|nb m 8):=λW=>wD (m:U) 8 m 8 O O Ã W;have bd:IntKind.i64.wrap (m:U)=(m:U):=Í
   have g':T (kl (Yr c<|kN d m) 16)=16:=Cz _ _;have n:H<|(kl (Yr c<|kN d m) 16).getD s 0=Yr c (kN d m) s:=VW _ _ _ F;clear inv HB;generalize nb m 8=NB at*;generalize kl (Yr c<|kN d m) 16=PP at*;generalize ki (iO c) 176=Y1 at*;generalize ki Sn 256=X6 at*;go_wp2;go_region_with (first
    |(go_at_call 167;go_fit (I _);rintro en v1⟨rfl,v'⟩;have hd:=HV.W.gN v';have bb:=hd.r7;have bc:=hd.r8;clear R7 R8)
    |(go_at_call 113;go_fit (HL _);rintro en v2⟨rfl,es⟩;have E2:=hd.gN es))
   all_goals (
    have inv:=E2;clear bb bc hd E2 v' es HL I bd er ed HV L h2;let⟨b,h1⟩:=JP<|(st PP)[s]'(by rw[zn,g'];exact F);have bn:(s:U)<(T PP:Q):=À
    have bo:(s:U)<16:=À
    have eb:uA c d q=b:=ze0
    have c1:N v2 (K o q)=(zc<|x.getD q 0):=ze3
    have f1:aX v2 (K o q)=ao:=inv.eQ q g;have u:RO w b7 b8 o c (sF c d x<|q+1) (T x) Z'<|ay v2.drew (K o q)<|zc<|x.getD q 0^^^b:=by refine(inv.W.H q g _).cH λi _=>?_;unfold sF;by_cases e:i=q;simp_all;rw[aL e];by_cases e2:i<q;rw[aT e2,aT À];rw[aL e2,aL À]
    have bm:lr .xor .u8 (e8<|x.getD q 0) (aN b:U)=e8 (x.getD q 0^^^b):=zZ _ b;have l:H<|Ex c d (q+1)=PP:=hP;clear inv eb hP HP n hm hs;generalize x.getD q 0^^^b=v at*;generalize x.getD q 0=a at*;go_wp2;go_still_tail 12,Ä;go_wp2;go_roundw
    ·first|exact⟨q+1,À,Å,by rw[l.o],u⟩|((repeat apply Exists.intro);exact⟨⟨q+1,À,Å,by rw[l.o],u⟩,rfl⟩)
    grind [bZ])
  have er:((q:U)%16==0)=ao:=Ç
  have h3:Ex c d q=kl (Yr c<|kN d m) 16:=by unfold Ex;rw[aL À,show(q-1)/16=m by omega]
  have g':T (kl (Yr c<|kN d m) 16)=16:=Cz _ _;have n:H<|(kl (Yr c<|kN d m) 16).getD s 0=Yr c (kN d m) s:=VW _ _ _ F;rw[h3];clear L h2 h3;generalize kl (Yr c<|kN d m) 16=PP at*;let⟨b,h1⟩:=JP<|(st PP)[s]'(by grind [zn]);have bn:(s:U)<(T PP:Q):=À
  have bo:(s:U)<16:=À
  have eb:uA c d q=b:=ze0
  have c1:N wr (K o q)=(zc<|x.getD q 0):=ze3
  have f1:aX wr (K o q)=ao:=inv.eQ q g;have u:RO w b7 b8 o c (sF c d x<|q+1) (T x) Z'<|ay wr.drew (K o q)<|zc<|x.getD q 0^^^b:=by refine(inv.W.H q g _).cH λi _=>?_;unfold sF;by_cases e:i=q;grind;grind
  have bm:lr .xor .u8 (e8<|x.getD q 0) (aN b:U)=e8 (x.getD q 0^^^b):=zZ _ b;have l:H<|Ex c d (q+1)=PP:=hP;clear inv eb hP HP n hm hs;generalize x.getD q 0^^^b=v at*;generalize x.getD q 0=a at*;go_wp2;go_still_tail 12,Ä;go_wp2;go_roundw
  ·first|exact⟨q+1,À,Å,by rw[l.o],u⟩|((repeat apply Exists.intro);exact⟨⟨q+1,À,Å,by rw[l.o],u⟩,rfl⟩)
  exact Ì
 have i1:¬(q:U)<(T x:Q):=À
 have inv:=inv.cH (fy:=λi=>x.getD i 0^^^uA c d i) (λi hi=>by grind [sF]);have S:(convert 100 9<|aB (Y ⟨o,0,R⟩) (T x) ho).run prog wr=dG (E<|nT k d x) wr:=by
  have e:nT k d x=kl (λi=>x.getD i 0^^^uA c d i) (T x):=by show kl (λi=>x.getD i 0^^^uA (λj=>k.getD j 0) d i) (T x)=_;rw[ba]
  rw[e];have h:=iy (P:=prog) wr 100 9 5 (K o 0) ho (kl (λi=>x.getD i 0^^^uA c d i) (T x)) cT eY dK (λj hj=>by rw[pS,j7];rw[Cz]at hj;rw[inv.i j hj];simp[kl,e8]);rw[Cz]at h;exact h
 have hb:=inv.fH;clear inv;go_wp2;go_ret;simp_all
end
section
open Go.RowKit
attribute[local go_sem] zn zg
section
variable{aD:Exit→mh→Zy→Prop}
def Ķ(m l x)(hx:x=st l)(n)(k:Q)(hk:n=(k:U))(d:T m=32)(a:T l<=4063)(c:k<=255)(w)(b:Yq w):aq 107 #[E m,ak ⟨#[]⟩,ak x,J n] w (E<|yu (Wu [] m) l k):=by subst hx;subst hk;exact xa1 m [] l À Â a k c w b
def Q8(C f)(y:Q)(w)(h:Ju w C f)(i:Yq w)(j:T f.m=32):aq 235 #[zq C,J y] w (E<|Ji f.m y):=by
 have c:∀w1,aP (V<|Z w) w w1->N w1 (K C 7)=Y _:=λw1 b=>(h.bT.ac b).i 7 O;have g:H<|(⟨#[99,105,112,104,101,114]⟩:eM)++st (nb y 1)=st (Ef++nb y 1):=by show _=_;rw[show(⟨#[99,105,112,104,101,114]⟩:eM)=st Ef from O,zg]
 have l1:=Z2 y 1;have a:aP (V<|Z w) w w.drew:=(zt _ _).drew;go_enter func235.1,Tryz.ntmps235;go_wp2;go_region_held3 (λw'=>N w' (K C 7)=E f.m) (first|exact(h.bT.i 7 O)|exact d)
  (first
   |(go_at_call 167;apply(wD _ _ y 1 O O Ã _).mono;rintro e w1⟨rfl,b⟩;replace a:=Xs a b;have d:=c _ a)
   |(go_at_call 107;apply(Ķ f.m _ _ g.o _ 16 O j (by simp[Ef];omega) Ã _<|i.gN a).mono;rintro e w1⟨rfl,b⟩;replace a:=Xs a b;have d:=c _ a))
 try clear hHeld
 go_wp2;go_ret;exact⟨O,a⟩
def Ms(C f)(y:Q)(w)(h:Ju w C f)(i:Yq w)(j:T f.m=32):aq 194 #[zq C,J y] w (E<|Y7 f.m y):=by
 have c:∀w1,aP (V<|Z w) w w1->N w1 (K C 7)=Y _:=λw1 b=>(h.bT.ac b).i 7 O;have g:H<|(⟨#[116,97,103]⟩:eM)++st (nb y 1)=st (Ec++nb y 1):=by show _=_;rw[show(⟨#[116,97,103]⟩:eM)=st Ec from O,zg]
 have l1:=Z2 y 1;have a:aP (V<|Z w) w w.drew:=(zt _ _).drew;go_enter func194.1,Tryz.ntmps194;go_wp2;go_region_held3 (λw'=>N w' (K C 7)=E f.m) (first|exact(h.bT.i 7 O)|exact d)
  (first
   |(go_at_call 167;apply(wD _ _ y 1 O O Ã _).mono;rintro e w1⟨rfl,b⟩;replace a:=Xs a b;have d:=c _ a)
   |(go_at_call 107;apply(Ķ f.m _ _ g.o _ 32 O j (by simp[Ec];omega) Ã _<|i.gN a).mono;rintro e w1⟨rfl,b⟩;replace a:=Xs a b;have d:=c _ a))
 try clear hHeld
 go_wp2;go_ret;exact⟨O,a⟩
def xkk(pv P)(G:T P<=20)(d:∀c∈P,qX c)(w)(h:Rw w 197 3 t6 pv P):aq 187 #[pv] w (E<|Z5 P):=by
 obtain⟨a,z,rfl⟩:=h.dL;have x:=d;go_enter func187.1,Tryz.ntmps187;go_wp2;go_loopw [3,4] (λs i wr=>∃j:Q,j<=T P/\i=J j/\s=E (Z5<|P.take j)/\aP (V<|Z w) w wr) (λ_ i _=>bL (T P-bZ i));exact⟨0,À,O,O,zt _ _⟩;obtain⟨j,W,rfl,rfl,m⟩:=hrel;have p:=m;by_cases f:j<T P
 ·have C:(j:U)<(T P:Q):=À;obtain⟨g,rfl,r⟩:=h.lp (λ_=>O) f O;have l:∀w',aP (V<|Z w) w w'->N w' (K g<|j*3)=(bG<|cG P[j])/\N w' (K g<|j*3+1)=(E<|cK P[j])/\N w' (K g<|j*3+2)=(E<|cV P[j]):=λw' t=>⟨(zj.J (S:=λ_=>False) t).i id<|r 0 À,(zj.J (S:=λ_=>False) t).i id<|r 1 À,(zj.J (S:=λ_=>False) t).i id<|r 2 À⟩;have y:H<|Z5 (P.take<|j+1)=Z5 (P.take j)++vI P[j]:=by show _=_;rw[zp f,ď]
  have I:T (Z5<|P.take j)<=1020:=by have:=Iw λc B=>x c<|Fq (i:=j) B;rw[xf]at this;omega
  have d:=x _<|Xk f;generalize P[j]=c at*;generalize Z5 (P.take j)=X at*;have n:=l _ p;have b:aP (V<|Z w) w wr.drew:=p.drew;cases c with
  |del k=>
   simp only[cG,cK,cV,qX]at n l d;have l1:=Z2 (T k) 1;have D:¬9223372036854775807<T X+1:=À
   have u:¬9223372036854775807<T X+1+1:=À
   have F:¬9223372036854775807<T X+1+1+T k:=À
   have q:H<|st X++(⟨#[68]⟩:eM)++st (nb (T k) 1)++st k=st (X++vI (.del k)):=by show _=_;rw[show(⟨#[68]⟩:eM)=st [68]from O,zg,zg,zg];simp[vI]
   go_wp2;go_region_held3 (λw'=>N w' (K g<|j*3)=bG M/\N w' (K g<|j*3+1)=E k/\N w' (K g<|j*3+2)=(ak<|st [])) (first|exact n|exact o)
    (first
     |(go_at_call 167;refine(FI _ 1 Ã _).mono ?_;rintro e w1⟨rfl,m⟩;replace b:=Xs b m;have o:=l _ b))
   try clear hHeld
   go_wp2;go_roundw;exact⟨j+1,À,Å,by rw[q.o,y.o],b⟩;exact Ì
  |put k v=>
   simp only[cG,cK,cV,qX]at n l d;have l1:=Z2 (T k) 1;have hd:=Z2 (T v) 1;have D:¬9223372036854775807<T X+1:=À
   have u:¬9223372036854775807<T X+1+1:=À
   have F:¬9223372036854775807<T X+1+1+1:=À
   have h1:¬9223372036854775807<T X+1+1+1+T k:=À
   have L:¬9223372036854775807<T X+1+1+1+T k+T v:=À
   have q:H<|st X++(⟨#[80]⟩:eM)++st (nb (T k) 1)++st (nb (T v) 1)++st k++st v=st (X++vI (.put k v)):=by show _=_;rw[show(⟨#[80]⟩:eM)=st [80]from O,zg,zg,zg,zg,zg];simp[vI,sQ]
   go_wp2;go_region_held3 (λw'=>N w' (K g<|j*3)=bG ao/\N w' (K g<|j*3+1)=E k/\N w' (K g<|j*3+2)=E v) (first|exact n|exact o)
    (first
     |(go_at_call 167;refine(FI _ 1 Ã _).mono ?_;rintro e w1⟨rfl,m⟩;replace b:=Xs b m;have o:=l _ b))
   clear o;try clear hHeld
   go_wp2;go_roundw;exact⟨j+1,À,Å,by rw[q.o,y.o],b⟩;exact Ì
 obtain rfl:j=T P:=À
 have C:¬(T P:U)<(T P:Q):=À
 rw[jz];go_wp2;go_ret;exact⟨O,p⟩
def Dk.ĳ(d:Dk):ez×Dk:=if d.cS=M then(ao,d.eS)else(M,d.dZ)
theorem Dk.Bq(d:Dk):{d.dZ with L:=d.L}=d.dZ:=by unfold Dk.dZ;split<;>rfl
theorem Rf.Br(f:Rf):{f.dZ with fv:=f.fv,F:=f.F}=f.dZ:=by unfold Rf.dZ;split<;>rfl
def Ļ(C f d w)(h:Ju w C f)(a:Tw d f)(g:bO d.L<=400000):aK prog 233 #[zq C] w<|qZ C f d.ĳ w:=by have y:=a.ok g;refine(ZC C f w h y.fU y.nd (by have:=y.gT;omega) y.cQ y.ko).mono λe j k=>?_;unfold Dk.ĳ;cases z:d.cS;obtain⟨rfl,c⟩:=k.go<|a.cS.trans z;obtain⟨m,-,b⟩:=f.vN f.fv f.F;rw[aL Â];refine⟨O,f.fv,f.F,f.nE,m,?_,?_⟩;grind;rw[Cc,<-b];have i:=a.dZ z (v:=f.fv) a.gF a.gL a.mJ a.mt a.fU;grind [Dk.Bq,Rf.Br];obtain⟨rfl,c⟩:=k.cr<|a.cS.trans z;grind [qZ.cr]
def QU(a:(F.map (·.1)).Nodup)(b:∀p∈F,p.2.1≠[]):jB F:=⟨a,b⟩
theorem Ey(g:jB F){k v}(h:(k,v)∈F):Zm F k=v:=by unfold Zm;rw[(Vs g.nd (k,v)).1 h];rfl
theorem Ra{k}(h:∀p∈F,p.1≠k):Zm F k=([],0):=by unfold Zm;cases e:Xm F k with|none=>rfl|some v=>exact dC O<|h _<|Ve e
def xty{B n v u}(g:jB (ſ++(n,v)::B))(b:u.1≠[]):jB (ſ++(n,u)::B)/\∀k,Zm (ſ++(n,u)::B) k=if k=n then u else Zm (ſ++(n,v)::B) k:=by
 have c:jB (ſ++(n,u)::B):=by refine QU (by have:=g.nd;grind) λp a=>?_;obtain h|h:=je.1 a;exact g.ne p ta;obtain rfl|h:=jc.1 h;exact b;exact g.ne p ta
 grind [Ey,Ra]
def xt2{z n x}(g:jB F)(l:Xm F n=R)(hx:x≠[])(h:z.Perm<|(F++[(n,x,0)]).filter o4):jB z/\∀k,Zm z k=if k=n then(x,0)else Zm F k:=by
 have e:(F++[(n,x,(0:U))]).filter o4=F++[(n,x,0)]:=List.filter_eq_self.2 λp c=>by obtain h|h:=je.1 c;have:=g.ne p h;simp[o4,this];grind [o4]
 rw[e]at h;have m:=H6 l;have d:jB<|F++[(n,x,(0:U))]:=by refine QU ?_ λp c=>?_;rw[qz,GK];refine⟨g.nd,Â,λa o b q=>?_⟩;grind;obtain h|h:=je.1 c;exact g.ne p h;grind
 have f:=QU ((h.map _).nodup_iff.2 d.nd) λp c=>d.ne p<|h.mem_iff.1 c;refine⟨f,λk=>?_⟩;have i:Zm z k=Zm (F++[(n,x,0)]) k:=by unfold Zm;rw[QM h f.nd]
 rw[i];by_cases hk:k=n;grind [Ey];rw[aL hk];cases u:Xm F k with
 |some y=>rw[Ey g<|Ve u];exact Ey d<|by simp[Ve u]
 |none=>have j:=H6 u;rw[Ra j];refine Ra λp c=>?_;grind
def Rw.wS{f ſ B}{p q:α}(h:Rw w e k f (aB (Y ⟨g,0,R⟩) n c) (ſ++p::B))(d:∀a,T (f a)=k)(i u)(D:i<k)(v:f q=(f p).set i u):Rw (ay w (K g<|T ſ*k+i) u) e k f (aB (Y ⟨g,0,R⟩) n c) (ſ++q::B):=by obtain⟨q,_⟩|⟨y,m,b,x,s,t,z,o,C,j⟩:=h.2;cases q;cases x;have r:xh w g b e:=t;have l:=r.H (T ſ*k+i) u;refine⟨?_,ac ⟨g,c,_,?_,s,l,?_,o,Á,?_⟩⟩;rw[Bh d];simp;grind;simp only[Array.toList_setIfInBounds,List.take_set];simp only[zx,xg]at j⊢;rw[j,Wz,Wi,Wz,Wi,v,<-Bh d ſ,Vy _ _ À,Ko,List.set_append_left _ _ Á]
def xqb{ſ B n v u}(h:wJ (ſ++(n,v)::B)):wJ (ſ++(n,u)::B):=by
 have a:((ſ++(n,v)::B).map (·.1)).Pairwise (·<·):=Wk.2 h;have b:(ſ++(n,v)::B).map (·.1)=(ſ++(n,u)::B).map (·.1):=Â
 grind
def Tw.Ĵ{d B n}{v u:Zl×U}(h:Tw d f)(a:f.F=ſ++(n,v)::B)(b:u.1≠[])(i:kh n)(c:0<=u.2/\u.2<=(T u.1:Q)/\T u.1<=1000000):Tw {d with L:=Vm d.L n u} {f with F:=ſ++(n,u)::B}:=by let⟨g,y⟩:=xty (a▸h.gF) b;refine⟨h.bU,g,h.gL.np _ _,λk=>?_,xqb<|a▸h.mt,h.fU.np i c,h.nx,h.cQ,h.ko⟩;rw[y k];by_cases hk:k=n;subst hk;rw[aT O,Mj h.gL λe=>dC e b];rw[aL hk,Mi hk,<-h.mJ,a]
def Xf.C9{B p q}(h:Ju w C f)(d:f.fv=aB (Y ⟨g,0,R⟩) m c)(j:f.F=ſ++p::B)(i u)(l:i<3)(n:mr q=(mr p).set i u):Xf C f w {f with F:=ſ++q::B}<|ay w (K g<|T ſ*3+i) u:=by
 have b:=zj.H w (K g<|T ſ*3+i) u;have k:f.fv.ownBlock=Y g:=by rw[d];rfl
 refine⟨b.U λx a=>ac (aJ Á),⟨h.bT.y b λe=>h.fs.ir h.bT Ã g k e.symm,?_,h.ss.y b λx a e=>h.ss.fh h.fs Ã a Á,h.ps.y b λx a e=>h.ps.fh h.fs Ã a Á,λe=>oz⟩,λx a=>aJ a⟩;rw[d];exact(d▸j▸h.fs).wS (λ_=>O) i u l n
def Tw.QT{d D y}(h:Tw d f)(c:Tw D y)(e:D.L=d.L):y.F=f.F:=by exact(Ę c.gF h.gF λk=>by rw[c.mJ,h.mJ,e]).eq_of_pairwise (le:=λa b=>a.1<b.1) (λa b _ _ g i=>À) c.mt h.mt
def vP.gC{d}(h:Ju w C f)(a:Tw d f)(b:bO d.L<=400000):vP C f d w f w:=⟨.refl h,a,⟨f.fv,f.F,f.nE,f.ko,O⟩,b⟩
theorem vP.kM{b y d c w1 g}(h:vP C f d w b w1)(t:Xf C b w1 y g)(j:Tw c y)(e:y=b.dk y.fv y.F y.nE y.ko b.gw)(i:bO c.L<=400000):vP C f c w y g:=by obtain⟨v,F,a,n,rfl⟩:=h.dk;exact⟨h.rt.aE t,j,⟨y.fv,y.F,y.nE,y.ko,e⟩,i⟩
def Dk.gu(d:Dk)(n:U)(x:Zl):ez×Dk:=if d.cS=M then(ao,d.eS)else if(d.gt n x).cS=M then(ao,(d.gt n x).eS)else(M,(d.gt n x).uC n)
section
variable{S w X:dN}{t:Q}{f:α->bA eJ}{v:eJ}{l:bA α}
def xpq{W:Zy}{l2:bA α}(P:El t e k)(h:W.ownsRow d e k v (T l)<|l.flatMap f)(hd:d<=V (Z W))(r:Rw W e k f (aB (Y ⟨g,0,R⟩) (T l2) c) l2)(n:l2≠[])(g':T l+T l2<=1000000)(hk:∀a,T (f a)=k)(L:∀a,∀u∈f a,u.oneCell'=M)
  (I:a.eval s=v)(hx:a.eval x=aB (Y ⟨g,0,R⟩) (T l2) c)(m:o.guard=R)(ho:o.op= .call {callee:= .builtin .append,args:=#[s,x],argTypes:=#[t,t]})
  (h1:∀g cap X,X.ownsRow d e k (aB (Y ⟨g,0,R⟩) (T l+T l2) cap) (T (l++l2)) ((l++l2).flatMap f)->zj (λy=>v.ownBlock=Y y) W X->wpList prog ops aD rest (a.put o.dst<|aB (Y ⟨g,0,R⟩) (T l+T l2) cap) X):wpList prog ops aD (o::rest) a W:=by
 obtain⟨i,z,C,h2,p,B,w⟩:=P.FY;have F:=Z0.2 n;refine wpList_append_lies _ m s x t ho d e i z k i.bytes P.Bf C h2 p O w P.iE v (T l) _ I h (K g 0) (T l2) c _ hx (Bh hk l2) ?_ ?_ F è ?_ hd _ O ?_;exact λj u wr=>r.cells O j u wr;grind;have:(T l+T l2)*i.bytes<=1000000*100:=GP À B;omega;intro g cap X v' b _ _;refine h1 g cap X ?_ ⟨b.os,b.output,b.size,λq G D=>b.block q G λe=>D e.symm⟩;grind
def ff.C4(B:Q)(n:V (Z w)=B)(W:El t e k)(b:α)(d:Nw S w)(h:w.ownsRow (V<|Z S) e k v (T l)<|l.flatMap f)(r:T l<=1000000000000)(q:f b=eV cs)(hk:T (f b)=k)(i:∀u∈f b,u.oneCell'=M)
  (z:a.eval s=v)(hx:a.eval x=aB (Y ⟨B,0,R⟩) 1 1)(c:o.guard=R)(ho:o.op= .call {callee:= .builtin .append,args:=#[s,x],argTypes:=#[t,t]})
  (D:∀g cap X,ff S X e k f (aB (Y ⟨g,0,R⟩) (T l+1) cap) (l++[b])->wpList prog ops aD rest (a.put o.dst<|aB (Y ⟨g,0,R⟩) (T l+1) cap) X):wpList prog ops aD (o::rest) a<|aF w<|au cs e:=
 DP c λ_ p=>LU W b (h.alloc _) (xa d.aD Â) r (xh.ex w cs e) q hk i z (n▸hx) ho λg cap X j m _=>p _ _<|D g cap X ⟨(d.aE<|zj.E _).ib m λy C=>(h.lt y C).1,j,λe=>oz⟩
end
def ķ(h:k<T F):∃ſ B,F=ſ++F[k]::B/\T ſ=k:=⟨F.take k,F.drop<|k+1,Â,Á⟩
theorem Wq(d:Dk):d.dZ.L=d.L:=za4
def Ł(C f d n x w)(h:Ju w C f)(ht:Tw d f)(hu:bO d.L+(T x:Int)<=400000)(hn:kh n)(hx:x≠[]):aK prog 195 #[zq C,J n,E x] w<|qZ C f (d.gu n x) w:=by
 have be:bO d.L<=400000:=À
 have H0:=vP.gC h ht be;have HT:=ht;have HU:=hu;have HN:=hn;have HX:=hx;have bo:(T x:U)<=400000:=by have:=ZK d.L;omega
 go_enter func195.1,Tryz.ntmps195;go_wp2;refine(Ļ C f d _ H0.rt.dI H0.tw be).mono ?_;rintro e w1 hk;have ba:qZ C f (if d.cS=M then(ao,d.eS)else(M,d.dZ)) w e w1:=hk;obtain⟨rfl,z,j⟩:=H0.eG ba (λhb=>by cases hs:d.cS;simp[Wq];exact be;simp_all);cases hs:d.cS;rotate_left
 ·rw[hs,aT O]at z j;have HE:qZ C f (d.gu n x) w (ai<|bG ao) w1:=by show qZ _ _ _ _ _ _;unfold Dk.gu;rw[aT hs];exact j O
  go_wp2;go_ret;exact HE
 rw[hs,aL Â]at z j;obtain⟨i,D,-⟩:=z O;have c:=D;have HA:H<|d.gu n x=if(d.gt n x).cS=M then(ao,(d.gt n x).eS)else(M,(d.gt n x).uC n):=by show _=_;unfold Dk.gu;rw[aL<|by simp[hs]]
 have bp:T i.F<=400000:=by have q:=wQ D.tw.gF.ne;rw[D.tw.wP,Wq]at q;omega
 go_wp2;refine(Ir C i n _ c.rt.dI À).mono ?_;obtain⟨a,S,hv⟩:=c.rt.dI.fs.dL;have HV:=hv;rintro e t⟨rfl,⟨k,hk,rfl,z,j⟩|⟨rfl,j⟩⟩;focus
  obtain⟨ſ,B,h2,Z'⟩:=ķ hk;obtain⟨⟨m,o,P⟩,hp⟩:∃p,i.F[k]=p:=⟨_,O⟩;rw[hp]at h2 z j;have z:n=m:=Eq.symm z;subst z;obtain⟨g,rfl,hc⟩:=c.rt.dI.fs.lp (λ_=>O) hk HV;rw[hp]at hc;have e1:N t (K g<|k*3+1)=E o:=hc 1 À;have c3:N t (K C 3)=aB (Y ⟨g,0,R⟩) (T i.F) S:=HV▸c.rt.dI.bT.i 3 O;have fz:aX t (K g<|k*3+1)=ao:=(show Rw t 123 3 mr (aB (Y ⟨g,0,R⟩) (T i.F) S) i.F from HV▸c.rt.dI.fs).dS _;have i1:¬(k:U)<0:=À
  have i2:(k:U)<(T i.F:Q):=À
  have hE:=c.tw.rZ _ (by simp_all:(n,o,P)∈i.F);have bb:=c.tw.gF.ne _ (by simp_all:(n,o,P)∈i.F);simp only at hE bb;have m1:¬9223372036854775807<T o+T x:=by have:=hE.2;omega
  have s:Zm d.L n=(o,P):=by rw[<-Wq d,<-c.tw.mJ];exact Ey c.tw.gF É
  have bk:(T (o++x):U)<=400000:=by have q:=In d.L n;have e:jp d.L n=o:=gv o7 s;rw[e]at q;rw[zx];have:=HU;omega
  have e2:d.gt n x={d.dZ with L:=Vm d.dZ.L n (o++x,P)}:=by unfold Dk.gt;have e:jp d.L n=o:=gv o7 s;rw[e,s,Wq]
  have r1:=Xf.C9 (q:=(n,o++x,P)) c.rt.dI HV h2 1 (E<|o++x) Ã O;have t1:=c.tw.Ĵ h2 (u:=(o++x,P)) É HN ⟨hE.2.1,by simp only[zx];omega,by show(o++x).length<=1000000;omega⟩;rw[<-e2]at t1;have I:bO (d.gt n x).L<=400000:=by have q:=yP (F:=d.L) n (o++x,P);have e:jp d.L n=o:=gv o7 s;rw[e]at q;show bO _<=_;rw[e2];show bO (Vm d.dZ.L n (o++x,P))<=_;rw[Wq];simp only[zx]at q;have:=HU;omega
  have hd:=c.kM r1 t1 O I;rw[Z']at hd;obtain⟨G,ho⟩:∃G,G=({i with F:=ſ++(n,o++x,P)::B}:Rf):=⟨_,O⟩;rw[<-ho]at hd;have v:vP C f (d.gt n x) w G (ay t (K g<|k*3+1)<|E<|o++x).drew:=hd.kM (.nw hd.rt.dI (zj.refl _ _).W) hd.tw O hd.q8;have aD:H (G.F=ſ++(n,o++x,P)::B):=by show _=_;rw[ho]
  clear hc h2 j r1 t1 hp hd ho;go_wp2;go_still_tail 15,Ä;go_wp2;generalize(ay t (K g<|k*3+1)<|E<|o++x).drew=w3 at*;generalize o++x=bx at*;clear HV c hk
 rotate_left;focus
  have c3:N t (K C 3)=aB a (T i.F) S:=HV▸c.rt.dI.bT.i 3 O;have hC:=c.rt.dI.bT.lt;have O1:(aF t<|au #[] 123).ownsRow (V<|Z t) 123 3 (aB (Y ⟨V<|Z t,0,R⟩) 0 0) (T ([]:Xv))<|([]:Xv).flatMap mr:=World.ownsRow_lit t #[] 0 (zd _) À O;have N1:Nw t<|aF t<|au #[] 123:=zj.E _;by_cases wr:i.F=[];focus
   have bm:N t (K C 3)=aB R 0 0:=(c.rt.dI.fn wr)▸c.rt.dI.bT.i 3 O;have g':=wr;clear wr c3;go_wp2_with (refine ff.C4 (V (Z t)+1) Â CT (n,x,0) N1 O1 Â O O (CQ _) O O O O ?_);intro h1 r w3 W;have v':ff t w3 123 3 mr (aB (Y ⟨h1,0,R⟩) 1 r)<|i.F++[(n,x,(0:U))]:=by show ff _ _ _ _ _ _ _;rw[g'];exact W
   clear W g' bm;go_wp2;generalize aB (Y ⟨h1,0,R⟩) 1 r=v9 at*
  rotate_left;focus
   obtain⟨g,rfl,-⟩:=c.rt.dI.fs.lp (λ_=>O) (Z0.2 wr) HV;have R1:Rw (aF t<|au #[] 123) 123 3 mr (aB (Y ⟨g,0,R⟩) (T i.F) S) i.F:=(HV▸c.rt.dI.fs:Rw t 123 3 mr (aB (Y ⟨g,0,R⟩) (T i.F) S) i.F).y N1 λ_ _=>id;have g':=wr;clear wr;go_wp2_with (refine xpq (l:=[]) CT O1 Â R1 g' Ç (λ_=>O) CQ O O O O ?_);intro h1 r w3 W bh;have N3:Nw t w3:=N1.ib bh λy hy=>by cases hy;grind
   have bf:=W;clear W bh c3 R1 g';go_wp2_with (refine ff.C4 (V<|Z w3) O CT (n,x,0) N3 bf À O O (CQ _) O O O O ?_);intro g4 bg w4 bj;obtain⟨w3,rfl⟩:∃y,y=w4:=⟨_,O⟩;have v':=bj;clear bj bf N3;go_wp2;generalize aB (Y ⟨g4,0,R⟩) (T i.F+1) bg=v9 at*
  all_goals
   have HM:((i.F++[(n,x,(0:U))]).map (·.1)).Nodup:=by show List.Nodup _;rw[qz,GK];refine⟨c.tw.gF.nd,Â,λa ha b hb=>?_⟩;obtain⟨p,hp,rfl⟩:=Xe.1 ha;simp at hb;rw[hb];exact H6 j p hp
   refine(Qe C i _ v9 _ (c.rt.dI.y v'.nw) v'.rw HM Á).mono ?_;rintro e w4⟨rfl,v4,F4,D,h4,h5⟩;obtain⟨g4,bc⟩:=xt2 c.tw.gF j HX h4;have s:Zm d.L n=([],0):=by rw[<-Wq d,<-c.tw.mJ];unfold Zm;rw[j];rfl
   have e2:d.gt n x={d.dZ with L:=Vm d.L n (x,0)}:=by unfold Dk.gt;have e:jp d.L n=[]:=gv o7 s;rw[e,s,qj]
   have t4:Tw (d.gt n x) {i with fv:=v4,F:=F4}:=by
    rw[e2];refine⟨c.tw.bU,g4,jB.np (by have:=c.tw.gL;grind [Wq]) _ _,λk=>?_,h5,oQ.np (by have:=c.tw.fU;grind [Wq]) HN ⟨Â,Â,Á⟩,c.tw.nx,c.tw.cQ,c.tw.ko⟩;show Zm F4 k=Zm (Vm d.L n (x,0)) k;have gL:jB d.L:=by have:=c.tw.gL;rw[Wq]at this;exact this
    rw[bc k];by_cases hk:k=n;grind [Mj];rw[aL hk,Mi hk,c.tw.mJ,Wq]
   have I:bO (d.gt n x).L<=400000:=by have q:=yP (F:=d.L) n (x,0);have e:jp d.L n=[]:=gv o7 s;rw[e]at q;show bO _<=_;rw[e2];show bO (Vm d.L n (x,0))<=_;simp only[qy]at q;have:=HU;omega
   have hd:=c.kM ((Xf.nw c.rt.dI v'.nw).aE D) t4 O I;obtain⟨G,ho⟩:∃G,G=({i with fv:=v4,F:=F4}:Rf):=⟨_,O⟩;rw[<-ho]at hd;have v:=hd;have bn:T G.F<=400000:=by have q:=wQ hd.tw.gF.ne;rw[hd.tw.wP]at q;have:=I;omega
   have es:Zm G.F n=(x,0):=by rw[ho];show Zm F4 n=_;rw[bc n,aT O]
   clear j D h4 h5 g4 bc s e2 t4 hd ho v' HM;go_wp2;refine(Ir C G n _ v.rt.dI À).mono ?_;rintro e w5⟨rfl,⟨k,hk,rfl,z,j⟩|⟨rfl,j⟩⟩;rotate_left;exfalso;unfold Zm at es;rw[j]at es;cases es;exact HX O;obtain⟨ſ,B,h2,Z'⟩:=ķ hk;have h3:G.F[k]=(n,x,0):=by
    have e:Zm G.F n=G.F[k].2:=by unfold Zm;rw[j];rfl
    rw[es]at e;exact Prod.ext z e.symm
   rw[h3]at h2;have aD:=xe h2;clear z j h3 h2 es hk bn;have bk:=bo;generalize hbx:x=bx at aD bk;generalize(0:U)=P at aD;obtain⟨w3,rfl⟩:∃y,y=w5:=⟨_,O⟩;clear hbx;go_wp2
 all_goals
  refine(Ļ C G (d.gt n x) _ v.rt.dI v.tw I).mono ?_;rintro e w6 hk;have ba:qZ C G (if(d.gt n x).cS=M then(ao,(d.gt n x).eS)else(M,(d.gt n x).dZ)) w3 e w6:=hk;obtain⟨rfl,z,j⟩:=v.eG ba (λhb=>by cases hs:(d.gt n x).cS;simp[Wq];exact I;grind);clear hk ba;cases hs:(d.gt n x).cS;rotate_left;focus
   rw[hs,aT O]at z j;have HE:qZ C f (d.gu n x) w (ai<|bG ao) w6:=by show qZ _ _ _ _ _ _;rw[HA.o,aT hs];exact j O
   clear z j hs;go_wp2;go_ret;exact HE
  rw[hs,aL Â]at z j;obtain⟨f3,D,-⟩:=z O;have w2:f3.F=ſ++(n,bx,P)::B:=(v.tw.QT D.tw<|Wq _).trans aD.o;obtain⟨a3,r,X⟩:=D.rt.dI.fs.dL;have bi:k<T f3.F:=by rw[w2];simp;omega
  obtain⟨h1,rfl,hc⟩:=D.rt.dI.fs.lp (λ_=>O) bi X;have h3:f3.F[k]=(n,bx,P):=by simp[w2,<-Z']
  rw[h3]at hc;have e1:N w6 (K h1<|k*3+1)=E bx:=hc 1 À;have e2:N w6 (K h1<|k*3+2)=J P:=hc 2 À;have c3:N w6 (K C 3)=aB (Y ⟨h1,0,R⟩) (T f3.F) r:=X▸D.rt.dI.bT.i 3 O;have fz:aX w6 (K h1<|k*3+2)=ao:=(show Rw w6 123 3 mr (aB (Y ⟨h1,0,R⟩) (T f3.F) r) f3.F from X▸D.rt.dI.fs).dS _;have i2:(k:U)<(T f3.F:Q):=À
  have i1:¬(k:U)<0:=À
  have bb:=D.tw.gF.ne (n,bx,P) Á;have r4:=Xf.C9 (q:=(n,bx,(T bx:U))) D.rt.dI X w2 2 (J (T bx:Q)) Ã O;have t4:=D.tw.Ĵ w2 (u:=(bx,(T bx:U))) bb HN ⟨Â,Â,Á⟩;have bd:jp (d.gt n x).L n=bx:=by have e:Zm G.F n=(bx,P):=Ey v.tw.gF (by rw[aD.o];simp);rw[v.tw.mJ]at e;exact gv o7 e
  have ef:(d.gt n x).uC n={(d.gt n x).dZ with L:=Vm (d.gt n x).dZ.L n (bx,(T bx:U))}:=by unfold Dk.uC;rw[bd,Wq]
  rw[<-ef]at t4;have bl:bO ((d.gt n x).uC n).L<=400000:=by have q:=yP (F:=(d.gt n x).L) n (bx,(T bx:U));rw[bd]at q;rw[ef];show bO (Vm (d.gt n x).dZ.L n _)<=_;rw[Wq];have:=I;simp only at q;omega
  have d4:=D.kM r4 t4 O bl;rw[Z']at d4;have HE:qZ C f (d.gu n x) w (ai<|bG M) (ay w6 (K h1<|k*3+2)<|J (T bx:Q)).drew:=by show qZ _ _ _ _ _ _;rw[HA.o,aL<|by simp[hs]];exact(d4.kM (.nw d4.rt.dI (zj.refl _ _).W) d4.tw O d4.q8).end
  clear z j D w2 X bi hc h3 bb r4 t4 bd ef bl d4 hs;go_wp2;go_still_tail 14,Ä;go_wp2;go_ret;exact HE
end
end
section
open Go.RowKit
attribute[local go_sem] zn zg CI
def yS(y S L:U)(m:Zl):ez:=bR (0<=y/\y<=100000/\1<=S/\S<=100000/\0<=L/\L<=999/\T m=32)
def Rf.cZ(y S L:U)(m:Zl):Rf:=⟨y,S,L,aB R 0 0,[],ao,0,0,m,0,0,bS 32 0,ao,aB R 0 0,[],aB R 0 0,[],0,[],0,0,0,0⟩
def Ņ(a c b m)(h:xh w C (Rf.cZ a c b m).G 83):Ju w C<|Rf.cZ a c b m:=⟨h,jk _ _ _ _,jk _ _ _ _,jk _ _ _ _,λ_=>O⟩
def xlr(a c b m)(d:yS a c b m=M)(w):aK prog 117 #[J a,J c,J b,E m] w λe w'=>∃C,e=ai (zq C)/\Nw w w'/\V (Z w)<=C/\Ju w' C (Rf.cZ a c b m):=by simp only[yS,Y8]at d;let⟨h,y,z,q,p,j,u⟩:=d;go_enter func117.1,Tryz.ntmps117;go_wp2;apply(Pe _ 32 O Ã _).mono;rintro e w1⟨rfl,d⟩;have f:Nw w w1:=zj.J d;go_wp2;go_ret;exact⟨V<|Z w1,O,f.aE<|zj.E _,f.aD,Ņ _ _ _ _<|xh.ex _ _ _⟩
def xh3(a b c m)(j:yS a b c m=ao)(w):aG 117 #[J a,J b,J c,E m] w (aU R):=by
 have k:a<0\/(¬a<0/\(100000:U)<a)\/(¬a<0/\¬(100000:U)<a/\b<1)\/(¬a<0/\¬(100000:U)<a/\¬b<1/\(100000:U)<b)\/(¬a<0/\¬(100000:U)<a/\¬b<1/\¬(100000:U)<b/\c<0)\/(¬a<0/\¬(100000:U)<a/\¬b<1/\¬(100000:U)<b/\¬c<0/\(999:U)<c)\/(¬a<0/\¬(100000:U)<a/\¬b<1/\¬(100000:U)<b/\¬c<0/\¬(999:U)<c/\((T m:U) != 32)=M/\((T m:U)==32)=ao):=by simp only[yS,decide_eq_false_iff_not]at j;simp;omega
 obtain d|⟨d,f⟩|⟨d,f,g⟩|⟨d,f,g,h⟩|⟨d,f,g,h,i⟩|⟨d,f,g,h,i,l⟩|⟨d,f,g,h,i,l,n,o⟩:=k;all_goals
  go_enter func117.1,Tryz.ntmps117;go_wp2;go_ret;simp
def ĸ(v z)(m:T z<=1000)(hx:T z.flatten<=100000)(w)(h:Rw w 9 1 (λx=>[E x]) v z):aG 193 #[v] w (E z.flatten):=by
 obtain⟨a,f,rfl⟩:=h.dL;go_enter func193.1,Tryz.ntmps193;go_wp2;go_loopw [3,4] (λs i wr=>∃j:Q,j<=T z/\i=J j/\s=ak (st (z.take j).flatten)/\wr=w) (λ_ i _=>bL (T z-bZ i));exact⟨0,À,O,O,O⟩;obtain⟨j,l,rfl,rfl,rfl⟩:=hrel;by_cases b:j<T z
 ·have n:(j:U)<(T z:Q):=À;obtain⟨g,rfl,k⟩:=h.lp (λ_=>O) b O;have e0:N wr (K g<|j*1)=(ak<|st z[j]):=k 0 À;rw[Cd]at e0;have d:(z.take<|j+1).flatten=(z.take j).flatten++z[j]:=by rw[zp b,List.flatten_append];simp
  have c:T (z.take<|j+1).flatten<=T z.flatten:=by
   have e:z.flatten=(z.take<|j+1).flatten++(z.drop<|j+1).flatten:=by rw[<-List.flatten_append,Km]
   rw[e,zx];omega
  rw[d,zx]at c;generalize(z.take j).flatten=X at*;generalize z[j]=y at*;go_wp2;go_roundw;exact⟨j+1,À,Å,by rw[d],bD⟩;exact Ì
 obtain rfl:j=T z:=À
 rw[jz];go_wp2;go_ret;simp
def o5(x:Zl):Ze:=[ak<|st x]
def Rd(x):∀u∈o5 x,u.oneCell'=M:=by intro u a;simp[o5]at a;rw[a];rfl
def Ew:El 51 9 1:= .Be ((eZ 51).trans Tryz.underlying51) (z:=ak ⟨#[]⟩) (b:=16) Ä Ã O Ã
def ŀ(x)(hx:T x<=260000000)(w):aK prog 188 #[ak<|st x] w λe w'=>∃v,e=ai v/\ff w w' 9 1 o5 v (Ys x):=by
 go_enter func188.1,Tryz.ntmps188;go_wp2;go_loopw [3,4] (λv i wr=>∃(p:Q) (D:bA _),p<=T x+63/\i=aD bB p/\T D<=p/\H (D++Ys (x.drop p)=Ys x)/\ff w wr 9 1 o5 v D) (λ_ i _=>bL (T x+64-bZ i));exact⟨0,[],À,O,Â,O,ff.nil _⟩;obtain⟨p,D,r,rfl,q,g,m⟩:=hrel;have a:=m;by_cases l:p<T x
 ·have n:(p:U)<(T x:Q):=À;have c:x.drop p≠[]:=by intro e;have:=gv T e;rw[Zn]at this;simp at this;omega
  have h:H<|D++[(x.drop p).take 64]++Ys (x.drop<|p+64)=Ys x:=by show _=_;rw[jq,<-g.o,Qu c,zbd];rfl
  by_cases k:(T x:U)<(p:U)+64;focus
   have b:H<|x.drop p=(x.drop p).take 64:=by show _=_;exact(qp Á).symm
   have s:(p:U)<=(T x:Q):=À
   go_wp2_with (apply ff.jK Ew ((x.drop p).take 64) a À (by show [_]=[_];rw[<-b.o]) O (Rd _) O O O O)
  rotate_left;focus
   have b:H<|(x.take<|p+64).drop p=(x.drop p).take 64:=by show _=_;rw[Xb,Ko]
   go_wp2_with (apply ff.jK Ew ((x.drop p).take 64) a À (by show [_]=[_];rw[<-b.o]) O (Rd _) O O O O)
  all_goals
   intro o f t d;go_wp2;go_roundw;exact⟨p+64,_,À,Å,Á,h,d⟩;exact Ì
 have n:¬(p:U)<(T x:Q):=À
 have j:H<|D=Ys x:=by show _=_;rw[<-g.o,Oi À,Qx,Xz]
 go_wp2;go_ret;exact⟨_,O,by rw[<-j.o];exact a⟩
end
section
open Go.RowKit
attribute[local go_sem] zn zg
def vR(n w):aG 63 #[J n] w (J n):=by go_enter func63.1,Tryz.ntmps63;go_wp2;go_ret;simp
def Gc(c:U)(n:Q):Q:=if c<0 then(-(c+1)).toNat%n else bL c%n
def xy5(c)(h:0<n):Gc c n<n:=by unfold Gc;split<;>exact Nat.mod_lt _ h
def xug(c)(n:Q)(i:0<n)(f:n<=1000000000)(g:-9223372036854775808<=c)(h:c<=9223372036854775807)(w):
  aG 65 #[J c,J n] w (J (Gc c n:Q)):=by
 have a:H<|Gc c n=if c<0 then(-(c+1)).toNat%n else bL c%n:=O;by_cases e:c<0
 ·obtain⟨m,b⟩:∃m:Q,c+1= -(m:U):=⟨bL (-(c+1)),À⟩;have d:=xe b;clear b;go_enter func65.1,Tryz.ntmps65;go_wp2;go_ret;refine⟨gv (λz:U=>ai<|J z) ?_,O⟩;rw[a.o,aT e,d.o];simp;grind
 obtain⟨m,rfl⟩:∃m:Q,c=m:=⟨bL c,À⟩;go_enter func65.1,Tryz.ntmps65;go_wp2;go_ret;refine⟨gv (λz:U=>ai<|J z) ?_,O⟩;rw[a.o,aL À];simp
def C'(x:U):Z8:=mZ (bL (x%256))
def mY(n:U):Zl:=[109,C'<|n/65536,C'<|n/256,C' n]
def Rb(x):(aN (C' x):U)=x%256:=by grind [C',UInt8.toNat_ofNat']
def Gg(n w):aH 70 #[J n] w (E<|mY n):=by
 have a:(convert 100 9<|aB (Y ⟨V<|Z w,0,R⟩) 4 4).run prog (aF w<|au #[zb 109,zb<|n/65536%256,zb<|n/256%256,zb<|n%256] 5)=dG (E<|mY n) (aF w<|au #[zb 109,zb<|n/65536%256,zb<|n/256%256,zb<|n%256] 5):=by
  rw[<-Rb<|n/65536,<-Rb<|n/256,<-Rb n];have B:=xh.ex w #[zb 109,zb<|aN (C'<|n/65536),zb<|aN (C'<|n/256),zb<|aN (C' n)] 5;exact iy _ 100 9 5 (K (V<|Z w) 0) 4 (mY n) cT eY dK (λj b=>by
   match j,b with
   |0,_=>exact B.i 0 rfl|1,_=>exact B.i 1 O
   |2,_=>exact B.i 2 rfl|3,_=>exact B.i 3 O)
 go_enter func70.1,Tryz.ntmps70;go_wp2;go_ret;exact⟨O,zj.E _⟩
def Gf(n)(h:-9000000000000000000<=n/\n<=9000000000000000000)(w):aH 71 #[J n] w (bY #[J<|-n,E<|mY n]):=by have f:Nw w<|aF w<|au #[J 0,ak ⟨#[]⟩] 36:=zj.E _;have d:xh _ (V<|Z w) #[J 0,ak ⟨#[]⟩] 36:=xh.ex _ _ _;go_enter func71.1,Tryz.ntmps71;go_wp2;generalize aF w _=w1 at*;apply(Gg n _).mono;rintro e k⟨rfl,c⟩;have a:=d.y c id;have g:=f.aE c;have i:=a.i 0 O;have j:=a.i 1 O;have l:=a.dS 0;have m:=a.dS 1;have b:=(a.H 0<|J<|-n).H 1<|E<|mY n;go_wp2;exact ji (by simp[eR,Tryz.results71,go_sem,i,j,b.i 0 O,b.i 1 O]) O ⟨O,(g.cZ (zd _)<|zj.H k (K (V<|Z w) 0) _).cZ (zd _)<|zj.H _ (K (V<|Z w) 1) _⟩
end
section
open Go.RowKit
section
variable{aD:Exit→mh→Zy→Prop}{a0:dD Addr}{zq:mh→Zy→Prop}
def nC(u:Ze)(n:Q):Ze:=(bS n u).flatten
section
variable{u:bA eJ}
def IN(a:T u=k)(n):T (nC u n)=n*k:=by unfold nC;simp_all
def IM(n m):nC u (n+m)=nC u n++nC u m:=by grind [nC,List.replicate_append_replicate]
def xuo{x}(h:x∈nC u n):x∈u:=by obtain⟨l,a,b⟩:=List.mem_flatten.1 h;grind
def mu(e k:Q)(u:Ze)(w:Zy)(v:Zv):Prop:=v=aB R 0 0\/∃g n y L z,v=aB (Y ⟨g,0,R⟩) n y/\n<=L/\L<=y/\y<=pu/\w.heap[g]?=Y (au z e (0,0))/\V z=y*k/\z.toList.take (L*k)=nC u L
variable{W w':dN}{t:Q}{v:eJ}{ad:Addr}
def mu.uR(h:mu e k u W v)(c:T u=k):∃n,(∃a cap,v=aB a n cap)/\W.ownsRow 0 e k v n (nC u n):=by obtain rfl|⟨g,n,cap,L,b,rfl,d,m,f,i,j,l⟩:=h;exact⟨0,⟨_,_,O⟩,jk _ _ _ _⟩;refine⟨n,⟨_,_,O⟩,IN c n,ac ⟨g,cap,b,O,Zz _,i,À,f,j,?_⟩⟩;have:=gv (eI<|n*k) l;rw[List.take_take,DL<|Y5 k d]at this;rw[this,show L=n+(L-n) by omega,IM,List.take_left'<|IN c n]
def mu.sS(h:W.ownsRow d e k v n<|nC u n):mu e k u W v:=by obtain⟨h,_⟩|⟨g,a,b,m,_,c,f,i,j,l⟩:=h.2;exact aJ h;exact ac ⟨g,n,a,n,b,m,zd _,f,i,c,j,l⟩
def mu.y{S}(h:mu e k u W v)(l:zj S W w')(m:∀g,v.ownBlock=Y g->¬S g):mu e k u w' v:=by obtain h|⟨g,n,a,L,b,rfl,d,f,i,c,j⟩:=h;exact aJ h;exact ac ⟨g,n,a,L,b,O,d,f,i,(l.dP g (za.1 c).1<|m g O).trans c,j⟩
def mu.lt(h:mu e k u W v)(a:v.ownBlock=Y g):g<V (Z W)/\∃y,W.heap[g]?=Y (au y e (0,0)):=by obtain rfl|⟨g,n,b,L,y,rfl,c,d,f,i,j⟩:=h;cases a;cases a;grind
def IK(e k:Q)(u:Ze)(W:Zy)(v:Zv)(n:Q)(z:Zv)(w':Zy):Prop:=mu e k u w' z/\(∀x,mu e k u W x->mu e k u w' x)/\zj (λy=>v.ownBlock=Y y) W w'/\(z.ownBlock=v.ownBlock\/z.ownBlock=Y (V<|Z W))/\∃a q,z=aB a n q
def xyu(P:El t e k)(ty:Zt)(X:T u=k)(h1:∀x∈u,x.oneCell'=M)(h:mu e k u W v){a0 G}(hv:v=aB a0 n G)(hd:n<=1000000000000)(hm:0<m/\m<=10)(a:∀j x,(nC u m)[j]?=Y x->N W (ad.add j)=Y x):
  ∃v' w',(Builtin.append_ #[t,t] ty #[v,aB (Y ad) m c]).run prog W=dG v' w'/\IK e k u W v (n+m) v' w':=by
 obtain⟨i,z,hi,hz,F,hb,bb⟩:=P.FY;have d:(n+m)*i.bytes<=140737488355328:=by have:(n+m)*i.bytes<=1000000000010*100:=GP À hb;omega
 have h3:n+m<=pu:=è
 have l:=IN X m;have w:∀x∈nC u m,x.oneCell'=M:=λx aD=>h1 x<|xuo aD;obtain⟨n',⟨a1,c1,b⟩,hx⟩:=h.uR X;rw[hv]at b;cases b;obtain⟨g,bd,w',ho,h2,s,h4,h5⟩:=run_append_lies W t ty 0 e i z k i.bytes P.Bf hi hz F O bb P.iE v n _ hx ad m c _ l a w hm.1 h3 d (Zz _) _ O;rw[<-IM]at h2;refine⟨_,w',ho,.sS h2,λx aD=>?_,⟨s.os,s.output,s.size,λq L hd=>s.block q L λe=>hd e.symm⟩,by obtain e|e:=h4;exact aJ e.symm;exact ac<|by rw[<-e];rfl,_,_,O⟩;have I:zj (λy=>v.ownBlock=Y y) W w':=⟨s.os,s.output,s.size,λq L hd=>s.block q L λe=>hd e.symm⟩;by_cases S:∃y,x.ownBlock=Y y/\v.ownBlock=Y y;obtain⟨y,wr,b⟩:=S;obtain⟨e0,_⟩|⟨g0,f,B,g',-,Z',bg,bf,es,ba⟩:=hx.2;rw[e0]at b;cases b;rw[g']at b ho;cases b;by_cases p:n+m<=f;subst F;have zq:n*i.size+T (nC u m)<=V B:=by rw[l,es,<-Nat.add_mul];exact Y5 _ p
 have o:=run_append_room W t ty e i P.Bf hi g0 n f B Z' ad m c _ l a w p zq;rw[ho]at o;cases o;obtain rfl|⟨gx,nx,w2,r,bc,rfl,x1,x2,x3,x4,x5,x6⟩:=aD;cases wr;cases wr;rw[Z']at x4;cases x4;have ih:=Nat.eq_of_mul_eq_mul_right P.iE<|x5.symm.trans es;subst ih;refine ac ⟨_,nx,w2,r,_,O,x1,x2,x3,Jr W _ B _ e _ Z',?_,?_⟩;grind;simp only;rw[ba,<-IM,l,<-Nat.add_mul];have D:=IN X<|n+m;by_cases hL:r<=n+m;rw[Y4<|by rw[D];exact Y5 _ hL,show n+m=r+(n+m-r) by omega,IM,List.take_left'<|IN X r];rw[List.take_append,qp<|by rw[D];exact Y5 _ À,D,<-Nat.sub_mul];have h9:=gv (bV<|(n+m)*i.size) x6;rw[Xb,<-Nat.sub_mul]at h9;have be:nC u r=nC u (n+m)++nC u (r-(n+m)):=by rw[<-IM,show n+m+(r-(n+m))=r by omega]
 grind;subst F;have C:=hx.cells (by rw[g'];rfl);have o:=run_append_grow W t ty e i z P.Bf hi hz ⟨g0,0,R⟩ n f _ hx.1 C ad m c _ l a À À<|growslice_fits À d;rw[ho]at o;cases o;exact aD.y ⟨O,O,Â,λq L _=>Go.heap_alloc_old W.drew _ L⟩ λ_ _=>id;exact aD.y I λg hg e=>S ⟨g,hg,e⟩
def ł(y:El t e k)(r:T u=k)(f:∀x∈u,x.oneCell'=M)(h:mu e k u W v)(w:v=aB a0 n d)(l:n<=1000000000000)(i:0<m/\m<=10)(b:∀j x,(nC u m)[j]?=Y x->N W (ad.add j)=Y x)(q:a.eval s=v)(hx:a.eval x=aB (Y ad) m c)(ho:o.op= .call {callee:= .builtin .append,args:=#[s,x],argTypes:=#[t,t]})
  (z:∀S w',IK e k u W v (n+m) S w'->zq (a.put o.dst S) w'):o.wp prog a W zq aD:=by
 obtain⟨S,w',p,g⟩:=xyu (c:=c) y o.type r f h w l i b;unfold Oper.wp aR;simp only[ho,o8,invoke,builtin,zc9,zda,Result.andThen_ok,List.map_toArray,Js,Fr,q,hx,p];exact z S w' g
def ļ(z:El t e k)(w:T u=k)(g:∀x∈u,x.oneCell'=M)(h:mu e k u W v)(y:v=aB a0 n d)(q:n<=1000000000000)(p:0<m/\m<=10)(b:∀j x,(nC u m)[j]?=Y x->N W (ad.add j)=Y x)(r:a.eval s=v)(hx:a.eval x=aB (Y ad) m c)(f:o.guard=R)(ho:o.op= .call {callee:= .builtin .append,args:=#[s,x],argTypes:=#[t,t]})
  (S:∀D w',IK e k u W v (n+m) D w'->wpList prog ops aD rest (a.put o.dst D) w'):wpList prog ops aD (o::rest) a W:=
 DP f λ_ l=>ł z w g h y q p b r hx ho λD w' i=>l _ _<|S D w' i
def Mt{y:Prop}(z:El t e k)(q:T u=k)(f:∀x∈u,x.oneCell'=M)(h:mu e k u W v)(r:v=aB a0 n d)(l:n<=1000000000000)(i:0<m/\m<=10)(b:∀j x,(nC u m)[j]?=Y x->N W (ad.add j)=Y x)(p:a.eval s=v)(hx:a.eval x=aB (Y ad) m c)(g:o.guard=R)(ho:o.op= .call {callee:= .builtin .append,args:=#[s,x],argTypes:=#[t,t]})
  (S:∀D w',IK e k u W v (n+m) D w'->zq (a.put o.dst D) w'):if bP o (fN ops a.tmps)=M then o.wp prog a W zq aD else y:=by
 rw[aT za8];exact ł z q f h r l i b p hx ho S
end
end
end
section
open Go.RowKit
attribute[local go_sem] zn zg
def jej:El 65 51 1:= .Be ((eZ 65).trans Tryz.underlying65) (z:=aB R 0 0) (b:=24) Ä Ã O Ã
def jek:El 66 33 1:= .Be ((eZ 66).trans Tryz.underlying66) (z:=aB R 0 0) (b:=24) Ä Ã O Ã
def Da:El 33 36 2:= .Be ((eZ 33).trans Tryz.underlying33) (z:=bY #[J 0,ak ⟨#[]⟩]) (b:=24) Ä Ã O Ã
def uG(x:Zv):Ze:=[x]
abbrev WB(w:Zy)(y:Q)(P:Zv)(n:U)(tv z q:Zv):Prop:=xh w y #[P,J n,tv,z,q] 70
def xW(n:U):Ze:=[ak<|st<|mY n]
def xup(x n):nC [x] n=bS n x:=by unfold nC;simp
def xtx{a n}(h:Rw w 9 1 o5 v a)(hy:a=bS (T a) (mY n)):mu 9 1 (xW n) w v:=by
 apply mu.sS (d:=0) (n:=T a);have:a.flatMap o5=nC (xW n) (T a):=by rw[hy];unfold xW;rw[xup,Oj];simp[o5]
 rw[<-this];exact h
def zj.lO{S z W}(h:zj S W w)(k:zj z w w')(c:∀y,z y->S y\/V (Z W)<=y):zj S W w':=
 ⟨k.os.trans h.os,k.cX.trans h.cX,xa h.aD k.aD,λi a b=>(k.dP i (zm a h.aD) λe=>(c i e).elim b λh=>À).trans<|h.dP i a b⟩
def Bu(z:Q)(tv q l:Zv)(y:Q):Prop:=y=z\/tv.ownBlock=Y y\/q.ownBlock=Y y\/l.ownBlock=Y y
structure Tx(e k i:Q)(j:Zv)(u:Ze)(W w:Zy)(y:Q)(P:Zv)(n:U)(tv h p l:Zv)(z:Ze)(q:bA U)(X:Ze):Prop where
 b:WB w y P n tv h p
 t:Rw w i 1 uG j z
 m:Rw w 3 1 tJ p q
 x:∀v∈X,mu e k u w v
 fr:zj (Bu y j p l) W w
 nb:∀v∈X,∀g,v.ownBlock=Y g->l.ownBlock=Y g\/V (Z W)<=g
section
variable{u:bA eJ}{S:Q}{D w L:dN}{aw j:Q}{P G tv fv mv l v v':eJ}{n:U}{T:bA eJ}{ay:bA U}{X:bA eJ}
def Tx.nw(h:Tx e k S G u D w aw P n tv fv mv l T ay X)(a:Nw w L):Tx e k S G u D L aw P n tv fv mv l T ay X:=⟨h.b.y a id,h.t.y a λ_ _=>id,h.m.y a λ_ _=>id,λv c=>(h.x v c).y a λ_ _=>id,h.fr.lO a λ_ x=>x.elim,h.nb⟩
def IL(h:mu e k u w v)(c:xh w C cs t)(f:t≠e):∀x,v.ownBlock=Y x->¬C=x:=by rintro x b rfl;obtain⟨-,a,d⟩:=h.lt b;grind [xh]
def Ge{z q f}{l:bA α}{y}(h:mu e k u w v)(r:Rw w z q f y l)(b:z≠e){x}(hx:y.ownBlock=Y x):¬v.ownBlock=Y x:=by intro d;obtain⟨-,a,c⟩:=h.lt d;exact r.ir c (Ne.symm b) x hx O
def Tx.jK(i:S≠e/\70≠e/\3≠e)(h:Tx e k S G u D w aw P n tv fv mv l T ay X)(o:v∈X)(r:IK e k u w v j v' L):Tx e k S G u D L aw P n tv fv mv l T ay<|X++[v']:=by obtain⟨s,q,d,f,-⟩:=r;have p:=h.x v o;have z:=h.fr.aD;refine⟨h.b.y d λe=>IL p h.b i.2.1 _ e O,h.t.y d λg c=>Ge p h.t i.1 c,h.m.y d λg c=>Ge p h.m i.2.2 c,λy a=>(je.1 a).elim (λa=>q y<|h.x y a) λa=>Á,h.fr.lO d λy a=>(h.nb v o y a).imp (λe=>ac (ac<|ac e)) id,λy a g c=>?_⟩;obtain a|a:=je.1 a;exact h.nb y a g c;rw[ju.1 a]at c;obtain f|f:=f;exact h.nb v o g<|f▸c;grind
end
def Rw.se{P:Exit->mh->Zy->Prop}{W:Zy}{t S:Q}{f:α->Ze}{l:bA α}(X:El t e k)(bs:bA α)(h:Rw W e k f v l)(es:T l<=1000000000000)(hd:0<T bs/\T bs<=10)(G:∀a,T (f a)=k)(w:xh W B cs S)(F:bs.flatMap f=eV cs)(p:∀u∈bs.flatMap f,u.oneCell'=M)
  (h1:a.eval s=v)(hx:a.eval x=aB (Y ⟨B,0,R⟩) (T bs) c)(d:o.guard=R)(ho:o.op= .call {callee:= .builtin .append,args:=#[s,x],argTypes:=#[t,t]})
  (h2:∀g cap w',Rw w' e k f (aB (Y ⟨g,0,R⟩) (T l+T bs) cap) (l++bs)->zj (λy=>v.ownBlock=Y y) W w'->(v.ownBlock=Y g\/V (Z W)<=g)->wpList prog ops P rest (a.put o.dst<|aB (Y ⟨g,0,R⟩) (T l+T bs) cap) w'):wpList prog ops P (o::rest) a W:=by
 obtain⟨i,z,I,wr,m,D,n⟩:=X.FY;refine DP d λ_ C=>wp_append_lies _ s x t ho 0 e i z k i.bytes X.Bf I wr m O n X.iE v (T l) _ h1 h (K B 0) (T bs) c _ hx (Bh G bs) (λj u g'=>gX w j u<|F▸g') p hd.1 è ?_ (Zz _) _ O ?_;have:(T l+T bs)*i.bytes<=1000000000010*100:=GP À D;omega;intro g cap w' ba b r _;refine C _ _<|h2 g cap w' ?_ ⟨b.os,b.output,b.size,λq L v'=>b.block q L λe=>v' e.symm⟩<|r.imp id λe=>Nat.le_of_eq e.symm;grind [Rw]
def Rc(n):∀x∈xW n,x.oneCell'=M:=λx a=>by rw[ju.1 a];rfl
def QY(w:Zy)(y:Q)(P i:Zv)(n:U)(tv u l:Zv)(z:Ze)(q:bA U)(w':Zy):Prop:=∃p j X,WB w' y P (n+1) p i j/\Rw w' 51 1 uG p (z++X)/\Rw w' 3 1 tJ j (q++[n+1])/\T X=4/\(∀x∈X,mu 9 1 (xW<|n+1) w' x)/\zj (Bu y tv u l) w w'/\(∀g,p.ownBlock=Y g->tv.ownBlock=Y g\/V (Z w)<=g)/\(∀g,j.ownBlock=Y g->u.ownBlock=Y g\/V (Z w)<=g)/\∀x∈X,∀g,x.ownBlock=Y g->l.ownBlock=Y g\/V (Z w)<=g
def xvk(P L tv fv hx l)(n:Q)(hd h1 a w)(h2:WB w P L n tv fv hx)(hT:Rw w 51 1 uG tv hd)(hM:Rw w 3 1 tJ hx h1)(hl:Rw w 9 1 o5 l a)(hn:n<=100000000000)(hy:T a<=1000000000)(bo:T hd<=900000000000)(bn:T h1<=900000000000):
  aK prog 121 #[aU<|some ⟨P,1,R⟩,l] w λe w'=>e=ai (cE #[])/\QY w P L fv n tv hx l hd h1 w':=by
 obtain⟨r,s,rfl⟩:=hl.dL;have HT:=hT;have HM:=hM;have HL:=hl;have c1:=h2.i 1 O;have f1:=h2.dS 1;have B1:WB (ay w ⟨P,1,R⟩<|aD bB<|(n:U)+1) P L ((n:U)+1) tv fv hx:=h2.H 1 _;have e1:zj (·=P) w<|ay w ⟨P,1,R⟩<|aD bB<|(n:U)+1:=zj.H w ⟨P,1,R⟩ _;have L1:=hl.y e1 (hl.ir h2 Ã);have T1:=hT.y e1 (hT.ir h2 Ã);have M1:=hM.y e1 (hM.ir h2 Ã);have C1:=e1;go_enter func121.1,Tryz.ntmps121;go_wp2;generalize ay w ⟨P,1,R⟩ (aD bB<|(n:U)+1)=w1 at*;go_loopw [4] (λi wr=>∃k:Q,k<=T a/\i=aD bB k/\zj (λy=>(aB r (T a) s).ownBlock=Y y) w1 wr/\Rw wr 9 1 o5 (aB r (T a) s) (bS k (mY<|(n:U)+1)++a.drop k)) (λi _=>bL (T a-bZ i));exact⟨0,À,O,zj.refl _ _,L1⟩;obtain⟨k,hk,rfl,hb,hr⟩:=hrel;have HB:=hb;have W:=hr;have BW:=B1.y hb λe=>L1.ir B1 Ã _ e O;have c1:=BW.i (v:=aD bB ((n:U)+1)) 1 O;by_cases bm:k<T a
 ·have i1:(k:U)<(T a:Q):=À;have i0:(0:U)<=(k:U):=À
  rw[Zx bm]at W;obtain⟨g,rfl⟩:∃g,r=Y ⟨g,0,R⟩:=zdt
  go_wp2;refine(Gg _ _).mono ?_;rintro e w2⟨rfl,F⟩;have R2:=W.y F λ_ _=>id;have d1:=R2.wI (λ_=>O) 0 À;have d2:=R2.dS k;rw[Zq,Cd,Yy]at d1;have R3:=R2.wS (q:=mY<|(n:U)+1) (λ_=>O) 0 (ak<|st<|mY<|(n:U)+1) À O;rw[Zq,Cd,Yy,List.append_cons,<-Ku]at R3;have bj:=R3;have bh:zj (λy=>(aB (Y ⟨g,0,R⟩) (T a) s).ownBlock=Y y) w1<|ay w2 ⟨g,k,R⟩<|ak<|st<|mY<|(n:U)+1:=(HB.aE<|F.U λ_=>eT).aE<|(zj.H w2 ⟨g,k,R⟩ _).U λy hy=>hy▸O;simp only[o5,qh]at d1;go_wp2;go_roundw;exact⟨k+1,À,Å,bh,bj⟩;exact Î
 ·obtain rfl:k=T a:=À;have i1:¬(T a:U)<(T a:Q):=À
  rw[Vl,Xz]at W;have HK:mu 9 1 (xW<|(n:U)+1) wr<|aB r (T a) s:=by have h:=W;have e:T (bS (T a)<|mY<|(n:U)+1)=T a:=Zq;exact xtx h å
  have T2:=T1.y HB λg d e=>T1.fh L1 Ã d e;have M2:=M1.y HB λg d e=>M1.fh L1 Ã d e;have X0:Tx 9 1 51 tv (xW<|(n:U)+1) w wr P L ((n:U)+1) tv fv hx (aB r (T a) s) hd h1 [aB r (T a) s]:=⟨BW,T2,M2,λv o=>(by rw[ju.1 o];exact HK),(C1.U λy hy=>aJ hy).aE<|HB.U λy hy=>ac (ac<|ac hy),λv o g d=>aJ É⟩;go_wp2;refine(Gg _ _).mono ?_;rintro e w2⟨rfl,F⟩;have X2:=(X0.nw F).nw<|zj.E<|au #[ak<|st<|mY<|(n:U)+1] 9;have N2:xh (aF w2<|au #[ak<|st<|mY<|(n:U)+1] 9) (V<|Z w2) #[ak<|st<|mY<|(n:U)+1] 9:=xh.ex _ _ _;go_wp2_with (refine ļ (m:=1) (n:=T a) Ew O (Rc _) (X2.x _ xu) O À Ã (λj x hj=>gX N2 j x hj) O O O O ?_);intro v3 w3 h3;obtain⟨ho,c3,rfl⟩:=h3.d;have c:=X2.jK Ã xu h3;go_wp2;have S0:=c.b.i (v:=aD bB ((n:U)+1)) 1 O;replace c:=c.nw (zj.refl _ _).W;go_region_held3 (λw'=>N w' ⟨P,1,R⟩=(aD bB<|(n:U)+1)) (first|exact S0|exact c.b.i 1 rfl|exact(c.nw<|zj.E _).b.i 1 O)
   (first
    |(go_at_call 70;refine(Gg _ _).mono ?_;rintro e w4⟨rfl,bb⟩;replace c:=c.nw bb;clear bb)
    |(refine Mt (m:=2) (n:=T a) Ew O (Rc _) ((c.nw<|zj.E _).x _ xu) O À Ã (λj x hj=>gX (xh.ex _ _ _) j x hj) O O O O ?_;intro v5 w5 h5;obtain⟨g',S,rfl⟩:=h5.d;replace c:=(c.nw<|zj.E _).jK Ã xu h5;clear h5))
  go_wp2;replace c:=c.nw (zj.refl _ _).W;have S0:=c.b.i (v:=aD bB ((n:U)+1)) 1 O;go_region_held3 (λw'=>N w' ⟨P,1,R⟩=(aD bB<|(n:U)+1)) (first|exact S0|exact c.b.i 1 rfl|exact(c.nw<|zj.E _).b.i 1 O)
   (first
    |(go_at_call 70;refine(Gg _ _).mono ?_;rintro e w6⟨rfl,bc⟩;replace c:=c.nw bc;clear bc)
    |(refine Mt (m:=3) (n:=T a) Ew O (Rc _) ((c.nw<|zj.E _).x _ xu) O À Ã (λj x hj=>gX (xh.ex _ _ _) j x hj) O O O O ?_;intro v7 w7 h7;obtain⟨v',es,rfl⟩:=h7.d;replace c:=(c.nw<|zj.E _).jK Ã xu h7;clear h7))
  have f:=(c.nw<|zj.E<|au #[aB r (T a) s,aB ho (T a+1) c3,aB g' (T a+2) S,aB v' (T a+3) es] 51);have N7:xh (aF w7<|au #[aB r (T a) s,aB ho (T a+1) c3,aB g' (T a+2) S,aB v' (T a+3) es] 51) (V<|Z w7) _ 51:=xh.ex _ _ _;obtain⟨at_,ct,rfl⟩:=f.t.dL;have d2:=c.b.i (v:=aB at_ (T hd) ct) 2 O;go_wp2_with (refine Rw.se jej [aB r (T a) s,aB ho (T a+1) c3,aB g' (T a+2) S,aB v' (T a+3) es] f.t À ⟨Â,Â⟩ (λ_=>O) N7 O zbx O O O O ?_);intro ih c8 G r8 b8 n8;have X8:Rw G 51 1 uG _ _:=r8;have z:WB G P L ((n:U)+1) (aB at_ (T hd) ct) fv hx:=f.b.y b8 λe=>f.t.ir f.b Ã _ e O;have B9:WB (ay G ⟨P,2,R⟩<|aB (Y ⟨ih,0,R⟩) (T hd+4) c8) P L ((n:U)+1) (aB (Y ⟨ih,0,R⟩) (T hd+4) c8) fv hx:=z.H 2 _;have D:zj (·=P) G<|ay G ⟨P,2,R⟩<|aB (Y ⟨ih,0,R⟩) (T hd+4) c8:=zj.H G ⟨P,2,R⟩ _;have T9:=r8.y D (r8.ir z Ã);have m8:=f.m.y b8 λg d=>f.m.fh f.t Ã d;have M9:=m8.y D (m8.ir z Ã);have bd:∀v∈[aB r (T a) s,aB ho (T a+1) c3,aB g' (T a+2) S,aB v' (T a+3) es],mu 9 1 (xW<|(n:U)+1) G v:=λv o=>(f.x v o).y b8 λg d e=>Ge (f.x v o) f.t Ã e d;have K9:∀v∈[aB r (T a) s,aB ho (T a+1) c3,aB g' (T a+2) S,aB v' (T a+3) es],mu 9 1 (xW<|(n:U)+1) (ay G ⟨P,2,R⟩<|aB (Y ⟨ih,0,R⟩) (T hd+4) c8) v:=λv o=>(bd v o).y D λg d e=>IL (bd v o) z Ã g d e.symm;have F9:=(f.fr.lO b8 λy hy=>aJ (ac<|aJ hy)).lO D λy hy=>aJ (aJ hy);have G9:H<|(aB at_ (T hd) ct).ownBlock=Y ih\/V (Z w)<=ih:=n8.imp id λh=>zd6
  have bk:=f.nb;have e2:=z.i (v:=aB at_ (T hd) ct) 2 O;have f2:=z.dS 2;go_wp2;generalize ay G ⟨P,2,R⟩ _=w9 at*;obtain⟨hs,cm,rfl⟩:=M9.dL;have I:Nw w9 (aF w9<|au #[aD bB<|(n:U)+1] 3).drew:=(zj.E _).W;have XA:xh (aF w9<|au #[aD bB<|(n:U)+1] 3).drew (V<|Z w9) #[aD bB<|(n:U)+1] 3:=xh.ex w9 _ _;have BA:=B9.y I id;have MA:=M9.y I λ_ _=>id;have S0:=And.intro (B9.i (v:=aB hs (T h1) cm) 4 O)<|B9.i (v:=aD bB ((n:U)+1)) 1 O;have S1:=And.intro (BA.i (v:=aB hs (T h1) cm) 4 O)<|BA.i (v:=aD bB ((n:U)+1)) 1 O;have bi:∀y,(aB hs (T h1) cm).ownBlock=Y y->¬y=P:=λy hy=>M9.ir B9 Ã y hy;go_region_law (first|(refine Rw.rX Mh ((n:U)+1) MA À XA O O (QP _) O O O O ?_;intro ba Z' B hR h2 bl;have X:=hR;have C:=h2;have bg:=bl;have p:=BA.y C λe=>bi _ e O;have f4:=p.dS 4;have e4:=p.i (v:=aB hs (T h1) cm) 4 O));all_goals
   have D:zj (·=P) B<|ay B ⟨P,4,R⟩<|aB (Y ⟨ba,0,R⟩) (T h1+1) Z':=zj.H B ⟨P,4,R⟩ _;have be:=(T9.y I λ_ _=>id).y C λg d=>(T9.y I λ_ _=>id).fh MA Ã d;have bf:∀v∈[aB r (T a) s,aB ho (T a+1) c3,aB g' (T a+2) S,aB v' (T a+3) es],mu 9 1 (xW<|(n:U)+1) B v:=λv o=>((K9 v o).y I λ_ _=>id).y C λg d e=>Ge ((K9 v o).y I λ_ _=>id) MA Ã e d;have HF:QY w P L fv n (aB at_ (T hd) ct) (aB hs (T h1) cm) (aB r (T a) s) hd h1<|ay B ⟨P,4,R⟩<|aB (Y ⟨ba,0,R⟩) (T h1+1) Z':=⟨_,_,_,p.H 4 _,be.y D<|be.ir p Ã,X.y D<|X.ir p Ã,O,λv o=>(bf v o).y D λg d e=>IL (bf v o) p Ã g d e.symm,((F9.lO I λ_ x=>x.elim).lO C λy hy=>aJ (ac<|ac<|aJ hy)).lO D λy hy=>aJ (aJ hy),λg d=>by cases d;exact G9.o,λg d=>by cases d;exact bg.imp id λe=>by rw[e];exact xa F9.aD I.aD,bk⟩;go_wp2;go_end0;exact⟨O,HF⟩
def Ń(p q w):CallsD prog 79 #[aU<|some p,aU<|some q] eB w λe u w'=>e=ai (cE #[])/\u=eB/\w'=w:=by refine callsD_of_wpS func79.1 O λa c b=>?_;apply wpS_seq;apply pq;simp[wpOpsS,go_sem,recoverD,b,Tryz.ntmps79,nO];apply wpS_seq;apply pq;simp[wpOpsS,go_sem,nO];refine wpS_cond (t:=ao) (by simp[jV,cL]) ?_;simp only[ja,kB];refine wpS_of_wp<|wp_skip ?_;cases a;simp_all [bodyPostS,eR,Tryz.results79]
end
section
open Go.RowKit Go.Extern.Stop Go.Stop Go.Extern
def xn8(v w):(pO #[iW 388 v]).run prog w=dG (iW 312<|bY #[zk 5 388]) w:=Ä
def zwq(w):((pP λt=>do pA "Comparable" t;(λa=>bG a.comparable) <$> typeInfo t) #[bY #[zk 5 388]]).run prog w=dG (bG M) w:=Ä
def xn6(v w):(Go.method 521 312 v "Comparable").run prog w=dG (340,v) w:=Ä
def ľ:(prog.info? 388).map (·.comparable)=Y M:=Ä
def Ŀ:(prog.info? 410).map (·.size)=Y 1:=Ä
def QX{i:Zt}{a}(b:prog.underlying i=Y (.interface a))(h:(prog.info? 388).map (λi=>(lacking a i.methods).isEmpty)=Y ao)(c:(prog.info? i).map (·.zero)=Y (Y .nilIface)):
  ∀v X w,(Instr.typeAssert (iW 388 v) X i M).run prog w=dG (cE #[.nilIface,bG ao]) w:=run_typeAssert_lacksB b h c
def jbm(a b t w)(c:(binOp .eql 212 (iW 388<|aU<|some a)<|iW 388<|aU<|some b).run prog w=dG (bG t) w):
  aG 204 #[iW 388<|aU<|some a,iW 388<|aU<|some b,bG M] w (bG t):=by
 have d:=QX (show prog.underlying 314=_ from Tryz.underlying314) Ä Ä;have f:=QX (show prog.underlying 317=_ from Tryz.underlying317) Ä Ä;have g:=QX (show prog.underlying 319=_ from Tryz.underlying319) Ä Ä;go_enter func204.1,Tryz.ntmps204;go_wp2;apply wp_loop_rounds 1;rw[rounds_succ];cases t;all_goals
  go_wp2;go_ret;simp
def QW(a b t w)(c:(binOp .eql 212 (iW 388<|aU<|some a)<|iW 388<|aU<|some b).run prog w=dG (bG t) w):
  aG 133 #[iW 388<|aU<|some a,iW 388<|aU<|some b] w (bG t):=by
 have g:=@run_callFunc_extern prog 203 _ _ func203 Ä Ä A.He A.Hg;have d:=@run_callFunc_extern prog 340 _ _ func340 Ä Ä A.Hf A.Hh;have i:=xn8;have f:=zwq;have h:=xn6;go_enter func133.1,Tryz.ntmps133;go_wp2;apply(jbm a b t w c).mono;rintro e w'⟨rfl,rfl⟩;go_wp2;go_ret;simp
def qF(lo:Q)(cv tv:Zv)(w:Zy):Prop:=∃a b y z q p,cv=iW 388 (aU<|some a)/\tv=iW 388 (aU<|some b)/\b≠a/\a.block<lo/\b.block<lo/\w.heap[a.block]?=Y (au y q (0,0))/\w.heap[b.block]?=Y (au z p (0,0))
def xjq(B w)(f:qF lo cv tv w)(m:N w (K 0 0)=Y cv)(n:N w (K 1 0)=Y tv):
  aG 80 #[zq B,tv] w (J 11):=by
 obtain⟨a,b,k,l,p,q,rfl,rfl,c,_,_,g,h⟩:=f;let⟨i,z,y⟩:=zv.1 ľ;let⟨j,u,W⟩:=zv.1 Ŀ;have o:=run_typeAssert_hasB (P:=prog) (t:=388) (show prog.underlying 212=_ from jT) Ä;have d:=QW b b M w<|run_eql_iface_ptr_same w b jT Tryz.underlying388 z y u;go_enter func80.1,Tryz.ntmps80;go_wp2;apply(QW b a ao w<|run_eql_iface_ptr_other w jT Tryz.underlying388 z y u À c h g).mono;rintro e w'⟨rfl,rfl⟩;go_wp2;apply d.mono;rintro e w'⟨rfl,rfl⟩;go_wp2;go_ret;simp
def xi9{p q}(w)(c:qF lo cv tv w)(d:N w (K 0 0)=Y cv)(f:N w (K 1 0)=Y tv)(o:N w (K p 0)=zq B)(r:N w (K q 0)=J 0)(s:aX w (K q 0)=ao):
  CallsD prog 79 #[zq p,zq q] (fL [{v:=tv,recovered:=ao}]) w λe u w'=>e=ai (cE #[])/\u=fL [{v:=tv,recovered:=M}]/\w'=ay w (K q 0) (J 11):=by
 have G:=xjq B w c d f;obtain⟨a,b,i,j,z,C,rfl,rfl,g,x,y,m,n⟩:=c;refine callsD_of_wpS func79.1 O λl k h=>?_;apply wpS_seq;apply pq;simp[wpOpsS,go_sem,recoverD,h,Tryz.ntmps79,nO];apply wpS_seq;apply pq;simp[wpOpsS,go_sem,nO];apply wpS_cond (t:=M) (by simp[jV,cL]);apply wpS_of_wp;go_wp2;apply G.mono;rintro e w'⟨rfl,rfl⟩;go_wp2;simp[bodyPostS,eR,Tryz.results79]
end
section
open Go.RowKit Go.Extern.Stop Go.Stop Go.Extern
attribute[local go_sem] zn zg
@[simp]def ĵ:prog.funcs[27]?=Y Tryz.f27:=A.qf Tryz.func27
@[simp]def jft(args)(w):(callFunc 27 args).run prog w=dG (nN 27 args) w:=A.qc Tryz.func27 (args:=args) (w:=w)
def Sr.yR{x}(hx:r.kZ.cN B x):r.cN B x:=by obtain e|e|⟨t,a,_⟩:=hx;exact aJ e;exact ac<|aJ e;cases a
def qF.y{S}(h:qF lo cv tv w)(k:zj S w w')(t:∀x,S x->lo<=x):qF lo cv tv w':=by obtain⟨a,b,g,j,r,s,l,m,n,p,q,c,d⟩:=h;have f:∀{i:Q} {o:Obj},w.heap[i]?=Y o->i<V (Z w):=λh=>(za.1 h).1;exact⟨a,b,g,j,r,s,l,m,n,p,q,(k.dP _ (f c) λe=>Á).trans c,(k.dP _ (f d) λe=>Á).trans d⟩
def xdd(B w)(d:qF lo cv tv w)(p:N w (K 0 0)=Y cv)(m:N w (K B 7)=Y l)(f7:aX w (K B 7)=ao):
  aK prog 80 #[zq B,cv] w λe w'=>e=ai (J 12)/\w'=ay w (K B 7) (aU R):=by
 obtain⟨a,b,n,o,v,x,rfl,rfl,k,_,_,r,s⟩:=d;obtain⟨i,f,c⟩:=zv.1 ľ;obtain⟨j,g,h⟩:=zv.1 Ŀ;have q:=run_typeAssert_hasB (P:=prog) (t:=388) (show prog.underlying 212=_ from jT) Ä;have I1:=QW a a M w<|run_eql_iface_ptr_same w a jT Tryz.underlying388 f c g;go_enter func80.1,Tryz.ntmps80;go_wp2;apply I1.mono;rintro e w'⟨rfl,rfl⟩;go_wp2;go_ret;simp
def ņ{p q}(w)(f:qF lo cv tv w)(h:N w (K 0 0)=Y cv)(g:N w (K B 7)=Y l)(f7:aX w (K B 7)=ao)(y:N w (K p 0)=zq B)(j:xh w q #[J 0] 30)(d:q≠B):
  CallsD prog 79 #[zq p,zq q] (fL [{v:=cv,recovered:=ao}]) w λe S w'=>e=ai (cE #[])/\S=fL [{v:=cv,recovered:=M}]/\w'=ay (ay w (K B 7)<|aU R) (K q 0) (J 12):=by
 have G:=xdd B w f h g f7;have c:xh (ay w (K B 7)<|aU R) q #[J 0] 30:=j.y (zj.H w (K B 7) _) d;have z:N (ay w (K B 7)<|aU R) (K q 0)=J 0:=c.i 0 O;have u:=c.dS 0;obtain⟨a,b,m,n,W,F,rfl,rfl,i,C,D,s,x⟩:=f;refine callsD_of_wpS func79.1 O λr o k=>?_;apply wpS_seq;apply pq;simp[wpOpsS,go_sem,recoverD,k,Tryz.ntmps79,nO];apply wpS_seq;apply pq;simp[wpOpsS,go_sem,nO];apply wpS_cond (t:=M) (by simp[jV,cL]);apply wpS_of_wp;go_wp2;apply G.mono;rintro e w'⟨rfl,rfl⟩;go_wp2;simp[bodyPostS,eR,Tryz.results79]
def Zd.kZ{y}(h:Zd B r w y w'):Zd B r w y.kZ<|ay w' (K B 7)<|aU R:=by refine h.aE ⟨(zj.H w' (K B 7) _).U λx a=>aJ a,⟨?_,?_,λs e=>Æ⟩,λx a=>?_⟩;exact h.dI.bT.H 7 _;exact h.dI.fA.y (zj.H w' (K B 7) _) λx a e=>h.dI.kP Á;obtain e|e|⟨s,e,_⟩:=a;exact aJ<|aJ e;exact aJ<|ac<|aJ e;cases e
def QV(f B r ſ w)(h:Vq w B r)(G:nD cv tv w)(X:qF lo cv tv w)(z:∀x,r.cN B x->lo<=x)(o:∀x,r.cN B x->2<x)(y:∀args w,(callFunc f args).run prog w=dG (nN f args) w)
  (hw:∀w0,Vq w0 B r->nD cv tv w0->aK prog f #[zq B] w0 λe w'=>∃a r',ſ=(a,r')/\e=FZ cv a/\Zd B r w0 r' w'):
  aK prog 39 #[zq B,.func (.func f) #[zq B] #[]] w λe w'=>(∃v r',ſ=(Y v,r')/\e=ai (J v)/\Zd B r w r' w')\/(∃r',ſ=(R,r')/\e=ai (J 12)/\Zd B r w r'.kZ w'):=by
 have k:Nw w<|aF (aF w<|au #[zq B] 23)<|au #[J 0] 30:=(zj.E _).aE<|zj.E _;have hx:V (aF (aF w<|au #[zq B] 23)<|au #[J 0] 30).heap=V (Z w)+2:=Â
 have u:xh (aF (aF w<|au #[zq B] 23)<|au #[J 0] 30) (V (Z w)+1) #[J 0] 30:=by have:=xh.ex (aF w<|au #[zq B] 23) #[J 0] 30;rw[xp]at this;exact this
 have P:xh (aF (aF w<|au #[zq B] 23)<|au #[J 0] 30) (V<|Z w) #[zq B] 23:=(xh.ex w _ _).E _;have L:=Iu<|hw _ (h.y k λ_ _=>id)<|G.y k λ_ x=>x.elim;have C:∀{x:Q},r.cN B x->x<V (Z w):=λg=>Sr.fg h g;have i:∀{x r' w'},Zd B r (aF (aF w<|au #[zq B] 23)<|au #[J 0] 30) r' w'->r'.cN B x->x≠V (Z w)+1:=λc g e=>by obtain o|o:=c.cN _ g;grind;omega
 have hd:∀v r' w',ſ=(Y v,r')->Zd B r (aF (aF w<|au #[zq B] 23)<|au #[J 0] 30) r' w'->xh w' (V (Z w)+1) #[J 0] 30/\Zd B r w r' (ay w' (K (V (Z w)+1) 0)<|J v):=λv r' w' j c=>
  ⟨u.y c.y λg=>Á,Zd.cZ ((Zd.nw h k).aE c) À (λg=>i c g O)<|zj.H w' (K (V (Z w)+1) 0) _⟩
 have h1:∀r' w',ſ=(R,r')->Zd B r (aF (aF w<|au #[zq B] 23)<|au #[J 0] 30) r' w'->CallsD prog 79 #[zq (V<|Z w),zq<|V (Z w)+1] (fL [{v:=cv,recovered:=ao}]) w' λe m d=>e=ai (cE #[])/\m=fL [{v:=cv,recovered:=M}]/\N d (K (V (Z w)+1) 0)=J 12/\Zd B r w r'.kZ d:=λr' w' j c=>by
  have W:=u.y c.y λg=>Á
  have ho:B<V (Z w):=C<|aJ O;have s:=(G.y k λ_ x=>x.elim).y c.y o;obtain⟨⟨_,_,_,n⟩,_,_⟩:=s;refine(ņ (B:=B) (p:=V (Z w)) (q:=V (Z w)+1) w' ((X.y k λ_ x=>x.elim).y c.y z) n (c.dI.bT.i 7 O) (c.dI.bT.dS 7) ((P.y c.y λg=>Á).i 0 O) W À).mono ?_;rintro e m d⟨rfl,rfl,rfl⟩;refine⟨O,O,((W.y (zj.H w' (K B 7) _) (show V (Z w)+1≠B by omega)).H 0 _).i 0 O,?_⟩;exact Zd.cZ (b:=V (Z w)+1) (((Zd.nw h k).aE c).kZ) À (λg=>i c (Sr.yR g) O)<|zj.H _ (K (V (Z w)+1) 0) _
 go_enter_defers func39.1,Tryz.ntmps39;go_wp2;refine L.mono ?_;rintro e w1 (⟨v,r',j,rfl,c⟩|⟨r',j,rfl,c⟩)
 ·obtain⟨F,t⟩:=hd v r' w1 j c;have n:=F.i 0 O;have S:=F.dS 0;have D:=t;have l:=j;go_wp2;refine leaves_cons (f:=79) (args:=#[zq (V<|Z w),zq<|V (Z w)+1]) Â Ü ?_;refine(Ń _ _ _).mono ?_;rintro e m d⟨rfl,rfl,rfl⟩;simp[Leaves,settle,eR,pM,go_sem,n];first
   |exact aJ ⟨v,r',l,O,D⟩
   |exact .inl ⟨r',l,D⟩
 have I:=h1 r' w1 j c;have l:=j;refine leaves_cons (f:=79) (args:=#[zq (V<|Z w),zq<|V (Z w)+1]) Â Ü ?_;refine I.mono ?_;rintro e m d⟨rfl,rfl,h2,t⟩;simp[Leaves,settle,eR,pM,go_sem,h2];exact ac ⟨r',l,t⟩
def xX(B:Q)(r:Sr)(ſ:dD U×Sr)(w:Zy)(e:kH)(w':Zy):Prop:=(∃v y,ſ=(Y v,y)/\e=ai (J v)/\Zd B r w y w')\/(∃y,ſ=(R,y)/\e=ai (J 12)/\Zd B r w y.kZ w')
def xX.Er{ſ e}(h:xX B r ſ w e w'):∃v,e=ai (J v):=by obtain⟨v,_,_,h,_⟩|⟨_,_,h,_⟩:=h;grind;grind
section
variable{y z:eJ}
def ń(B r s w)(h:Vq w B r)(g:r.sn=Y s)(b:pH B r)(n:nD y z w)(m:qF lo y z w)(d:∀x,r.cN B x->lo<=x)(o:∀c∈s.P,qX c):
  aK prog 29 #[zq B] w (xX B r (r.fm s) w):=by
 have q:N w (K B 7)=zq s.S:=(h.bT.i 7 O).trans (by simp[Sr.G,Sr.my,g]);have i:=QV 50 B r _ w h n m d b.cN (λa w=>func50.2 a w) λp l k=>Qq B r s p l g b k o;go_enter func29.1,Tryz.ntmps29;go_wp2;apply i.mono;intro e w1 f;obtain⟨v,rfl⟩:=xX.Er f;have j:xX B r _ w _ w1:=f;go_wp2;go_ret;exact j
end
def Sr.nE(r:Sr)(b:Q)(a t:U):Sr:={r with d:={r.d with nx:=Y (b,a,t)}}
def Ň(D d a t w)(h:Jt w D d):aK prog 49 #[zq D,J a,J t] w λe w'=>e=ai (cE #[])/\∃b,V (Z w)<=b/\zj (·=D) w w'/\Jt w' D {d with nx:=Y (b,a,t)}:=by
 have l:=h;have m:=h.bT.i 2 O;have n:=h.bT.dS 2;have o:=h.bT.lt;have i:H (zj (·=D) w (aF (ay w (K D 2)<|zq (V<|Z w))<|au #[J a,J t] 175)/\Jt (aF (ay w (K D 2)<|zq (V<|Z w))<|au #[J a,J t] 175) D {d with nx:=Y (V (Z w),a,t)}):=by
  have g:zj (·=D) w<|ay w (K D 2)<|zq (V<|Z w):=zj.H _ (K D 2) _;have f:=xh.ex (ay w (K D 2)<|zq (V<|Z w)) #[J a,J t] 175;have k:V (ay w (K D 2)<|zq (V<|Z w)).heap=V (Z w):=Â
  rw[k]at f;refine⟨g.aE<|zj.E _,(h.bT.H 2 _).y (S:=λ_=>False) (zj.E _) id,(h.jS.y g h.Ba).y (S:=λ_=>False) (zj.E _) id,λc j=>?_⟩;cases j;exact f
 go_enter func49.1,Tryz.ntmps49;go_wp2;go_end0;exact⟨O,V<|Z w,zd _,i.o⟩
def xlm(B r)(a t:Q)(w)(h:Vq w B r):aK prog 27 #[zq B,J a,J t] w λe w'=>e=ai (J 0)/\∃b,Zd B r w (r.nE b a t) w':=by
 have v:N w (K B 2)=zq r.D:=h.bT.i 2 O;have q:=λn=>Ň r.D r.d (a:U) (t:U) (w.drewN n) ⟨h.fA.bT,h.fA.jS,h.fA.ku⟩;have i:=Ň r.D r.d (a:U) (t:U) w h.fA;have o:∀w' b,V (Z w)<=b->zj _ w w'->Jt w' r.D {r.d with nx:=Y _}->Zd B r w (r.nE b a t) w':=λw' b l f y=>by refine⟨f.U λx g=>ac (aJ<|aJ g),⟨?_,y,λs j=>?_⟩,λx g=>?_⟩;exact h.bT.y f λe=>h.kP<|aJ e;exact⟨(h.fP s j).1.y f λx g k=>h.fh j g<|aJ k,(h.fP s j).2⟩;obtain e|(e|e|⟨c,p,e⟩)|e:=g;exact aJ<|aJ e;exact aJ<|ac<|aJ<|aJ e;exact aJ<|ac<|aJ<|ac<|aJ e;cases p;omega;exact aJ<|ac<|ac e
 go_enter ĵ,Tryz.ntmps27;go_wp2;apply i.mono;rintro e w'⟨rfl,b,l,f,y⟩;have m:=o w' b l f y;go_wp2;go_ret;exact⟨O,b,m⟩
def xl8(B r w)(h:Vq w B r)(a:r.sn=R):aG 29 #[zq B] w (J 5):=by
 have b:N w (K B 7)=aU R:=zap
 go_enter func29.1,Tryz.ntmps29;go_wp2;go_ret;simp
def xhz(B a t)(h:a<0\/t<0)(w):aG 27 #[zq B,J a,J t] w (J 3):=by
 by_cases b:a<0
 case' neg=>have c:t<0:=À
 all_goals
  go_enter ĵ,Tryz.ntmps27;go_wp2;go_ret;simp
def xrr(a b c m)(j:yS a b c m=ao)(w):aG 35 #[J a,J b,J c,E m] w (cE #[aU R,J 3]):=by
 have n:a<0\/(¬a<0/\100000<a)\/(¬a<0/\¬100000<a/\b<1)\/(¬a<0/\¬100000<a/\¬b<1/\100000<b)\/(¬a<0/\¬100000<a/\¬b<1/\¬100000<b/\c<0)\/(¬a<0/\¬100000<a/\¬b<1/\¬100000<b/\¬c<0/\999<c)\/(¬a<0/\¬100000<a/\¬b<1/\¬100000<b/\¬c<0/\¬999<c/\¬(T m:U)=32):=by unfold yS at j;simp at j;omega
 obtain d|⟨d,f⟩|⟨d,f,g⟩|⟨d,f,g,h⟩|⟨d,f,g,h,i⟩|⟨d,f,g,h,i,k⟩|⟨d,f,g,h,i,k,l⟩:=n
 case' inr.inr.inr.inr.inr.inr=>have o:((T m:U) != 32)=M:=by simpa using l
 all_goals
  go_enter func35.1,Tryz.ntmps35;go_wp2;go_ret2;simp
end
end P
namespace A
variable{z:bE eX}{X:ZP}{w x:Zy}{n d i:Q}{b:Za}{a:mh}{o:eX}{f q:FuncId}{j:Exit->mh->Zy->Prop}
open Tryq Go Go.Conc
section
variable[pn:Pn]
section
variable{k:bA Item}{aw:bA Q}
namespace Odd160
structure Bs(F:Zf):Prop where
 fn:F.fn=220
 ke:F.kind≠ eK/\F.kind≠ pR
 de:F.defers=[]
 ro:F.roundOf=R
 sz:20<=V F.tmps
def wY(X:ZP)(F:Zf)(w:Zy):Prop:=∃a c e f,F.tmps.getD 0 Z'=aU (Y a)/\w.heap[a.block]?=Y (au c e f)/\a.off<V c/\¬X a.block
def At(X:ZP)(F:Zf)(w:Zy):Q->Prop
 |0=>F.todo=[dE<|gU EN cC]
 |1=>F.todo=[dE EN,dE cC]|2=>F.todo=[aS tL [0,1,2,3,4],dE cC]
 |3=>F.todo=[aS tL [1,2,3,4],dE cC]/\F.tmps.getD 2 Z'=F.tmps.getD 0 Z'|4=>F.todo=[aS tL [2,3,4],dE cC]/\F.tmps.getD 3 Z'=F.tmps.getD 0 Z'
 |5=>F.todo=[aS tL [3,4],dE cC]/\∃a,F.tmps.getD 0 Z'=aU (Y a)/\F.tmps.getD 4 Z'=aU (Y a)|6=>F.todo=[aS tL [4],dE cC]/\(EO (F.tmps.getD 5 Z')=M->wY X F w)
 |7=>F.todo=[aS tL [],dE cC]/\wY X F w|8=>F.todo=[dE cC]/\wY X F w
 |9=>F.todo=[dE<|fG 1 V8 ao]/\wY X F w
 |10=>F.todo=[aS V8 [0,1,2,3,4,5,6,7]]/\wY X F w|11=>F.todo=[aS V8 [1,2,3,4,5,6,7]]/\wY X F w
 |12=>F.todo=[aS V8 [2,3,4,5,6,7]]/\wY X F w/\F.tmps.getD 8 Z'=F.tmps.getD 0 Z'|13=>F.todo=[aS V8 [3,4,5,6,7]]/\wY X F w/\F.tmps.getD 9 Z'=F.tmps.getD 0 Z'
 |14=>F.todo=[aS V8 [4,5,6,7]]/\wY X F w/\F.tmps.getD 10 Z'=F.tmps.getD 0 Z'|15=>F.todo=[aS V8 [5,6,7]]
 |16=>F.todo=[aS V8 [6,7]]|17=>F.todo=[aS V8 [7]]
 |18=>F.todo=[aS V8 []]|_=>False
def I(X:ZP)(F:Zf)(w:Zy):Prop:=Bs F/\((∃ch z r k,F.mode=fL ch/\F.todo=aS z r::k)\/(F.mode= .run/\∃n,At X F w n))
theorem At.re{F:Zf}(t:Q->Question->Q)(d:Q)(h:At X F w n):At X F (re w t d) n:=by
 match n,h with
 |0,h|1,h|2,h|3,h|4,h|5,h|6,h|7,h|8,h|9,h|10,h|11,h|12,h|13,h|14,h|15,h|16,h|17,h|18,h=>exact h
 |_+19,h=>exact h.elim
theorem Gl{j a}(h:d≠j):(aA b d a).getD j Z'=b.getD j Z':=É
theorem ES{a}(h:d<V b):(aA b d a).getD d Z'=a:=É
section
variable{X:Q->Prop}{F:fZ}{w:dN}
theorem Bs.put(h:Bs F)(d a k):Bs {F with tmps:=aA F.tmps d a,todo:=k}:=⟨h.fn,h.ke,h.de,h.ro,by simpa using h.sz⟩
def Bs.to(h:Bs F)(k):Bs {F with todo:=k}:=⟨h.fn,h.ke,h.de,h.ro,h.sz⟩
theorem wY.put(h:wY X F w)(t:d≠0)(a k):wY X {F with tmps:=aA F.tmps d a,todo:=k} w:=by let⟨q,c,e,f,p,y⟩:=h;exact⟨q,c,e,f,É,y⟩
def fin{op:Op}(b:F.todo=aS z (i::aw)::k)(ho:z[i]?=Y o)(h:o.dst=Y d)(a:Zv):F.finish a={F with tmps:=aA F.tmps d a,todo:=aS z aw::k}:=KM
def je2{op:Op}(b:F.todo=aS z (i::aw)::k)(ho:z[i]?=Y o)(h:o.dst=R)(a:Zv):F.finish a={F with todo:=aS z aw::k}:=KM
theorem I.iM{r k}(h:Bs F)(a:F.todo=aS z r::k)(b x):I X (F.raise b) x:=by unfold Frame.raise;split;exact⟨⟨h.fn,h.ke,h.de,h.ro,h.sz⟩,aJ ⟨_,_,_,_,O,a⟩⟩;exact⟨⟨h.fn,h.ke,h.de,h.ro,h.sz⟩,aJ ⟨_,_,_,_,O,a⟩⟩
theorem sX{y}(h:o.guard=R):bP o y=M:=by simp[bP,h]
def Au(t:nz az dA X)(f:Sm az X w w)(b:Bs F)(g:F.mode= .run)(c:F.todo=aS z (i::aw)::k){op:Op}(hop:vV z i op<|some d)(h:vy az op=M)
  (j:∀o n x,o.op=op->(aR F.eval o).run (wf az dA) w=dG n x->∃a,n=gp a/\I X {F with tmps:=aA F.tmps d a,todo:=aS z aw::k} x):Cr az dA X (I X) F w:=by
 let⟨o,p,u,s,m⟩:=hop;refine Ι t f c g p (sX m) b.ro b.ke.1 Á (λn x e=>?_) λy x _=>I.iM b c _ _;let⟨a,r,v⟩:=j o n x u e;exact⟨a,aJ r,aJ<|by rw[fin (op:=op) c p s];exact v⟩
def JF{s p n}(h:(do iu (gp<|<-s):Sem Next).run p w=dG n x):∃a,n=gp a/\s.run p w=dG a x:=by let⟨a,W,y,t⟩:=jr h;simp_all
def Sh{t y p n}(ho:o.op= .move y)(h:(aR t o).run p w=dG n x):n=gp (t y)/\x=w:=by unfold aR at h;simp_all
def Ψ{t y p n}(ho:o.op= .nilCheck y)(h:(aR t o).run p w=dG n x):n=gp (t y):=by
 unfold aR at h;rw[ho]at h;dsimp only at h;split at h;exact dC h<|Vg _ _ _ _ _;exact dC h<|Vg _ _ _ _ _;exact dC h<|Vg _ _ _ _ _;rename_i u first C s
 rw[s];split at h;exact dC h<|Vg _ _ _ _ _;let⟨p,W,v,m⟩:=jr h;let⟨y,l,g,r⟩:=jr m;split at r;simp_all;simp_all;simp_all;simp_all
end
end Odd160
namespace Odd160
section
variable{X:Q->Prop}{S:fZ}{w:dN}
def Sf(S:Zf)(j):S.eval (cP j)=S.tmps.getD j Z':=O
def JG(a:Bs S)(b:S.mode= .run)(h:∀p C u,bW p M (Xh S C) u=ij (Xh {S with todo:=k} C) u #[])(c:At X {S with todo:=k} w n):Cr az dA X (I X) S w:=
 Sa h O (aJ ⟨a.to k,ac ⟨b,n,c⟩⟩)
def Ω(a:Bs S){k}(hk:∀I∈k,Vt az M I):Jy az {S with todo:=k}:=
 ⟨λI b=>by simp[a.ro,Option.isNone_none];grind,λd h=>(by simp only[a.de]at h;cases h),a.ke,(by rw[show({S with todo:=k}:Zf).fn=220 from a.fn];simp)⟩
def Sg{a:Addr}{c}{e:Zt}{f}(g:Sm az X w w)(d:w.heap[a.block]?=Y (au c e f))(l:a.off<V c):¬X a.block:=λi=>by obtain⟨o,m,b,_,⟨h,_⟩|⟨j,k,h,_⟩⟩:=g.jH _ i;rw[d]at b;cases b;cases h;grind
def xsx(ho:o.op= .call {callee:= .value (.func 275),args:=#[cP 9],argTypes:=#[327]}):aR S.eval o=callFunc 275 #[S.eval<|cP 9]:=by
 have a:o8 S.eval {callee:= .value (.func 275),args:=#[cP 9],argTypes:=#[327]} o.type=iu {target:= .fn (.func 275) #[],args:=#[S.eval<|cP 9]}:=by simp[o8,Deferred.ofValue,Frame.eval]
 unfold aR;rw[ho];grind [invoke]
theorem BF(W:nz az dA X)(l:Sm az X w w)(g:Bs S)(i:S.mode= .run)(h:At X S w n):Cr az dA X (I X) S w:=by
 have sz:=g.sz
 match n,h with
 |0,h=>exact JG g i (λp m u=>by simp[bW,Xh,i,aI,show S.todo=[dE<|gU EN cC]from h]) (n:=1) O
 |1,h=>exact JG g i (λp m u=>by simp[bW,Xh,i,aI,show S.todo=[dE EN,dE cC]from h,EN,jdg];rfl) (n:=2) O
 |2,h=>
  refine Au W l g i h o00 O λo n x j e=>?_;obtain⟨rfl,rfl⟩:=Sh j e;exact⟨_,O,g.put _ _ _,ac ⟨i,3,O,by show(aA S.tmps 2 _).getD 2 Z'=(aA S.tmps 2 _).getD 0 Z';rw[ES À,Gl À];rfl⟩⟩
 |3,⟨h,h2⟩=>
  refine Au W l g i h o01 O λo n x j e=>?_;obtain rfl:=Ψ j e;exact⟨_,O,g.put _ _ _,ac ⟨i,4,O,by show(aA S.tmps 3 _).getD 3 Z'=(aA S.tmps 3 _).getD 0 Z';rw[ES À,Gl À];exact h2⟩⟩
 |4,⟨h,h2⟩=>
  refine Au W l g i h o02 O λo n x j e=>?_;unfold aR at e;rw[j]at e;obtain⟨a,rfl,r⟩:=JF e;obtain⟨rfl,b,z,rfl⟩:=zwh I' r;exact⟨_,O,g.put _ _ _,ac ⟨i,5,O,b,by
   show(aA S.tmps 4 _).getD 0 Z'=_;rw[Gl À,<-h2];exact z,by
   grind [ES]⟩⟩
 |5,⟨h,a0,h2,h3⟩=>
  refine Au W l g i h o03 O λo n x j e=>?_;unfold aR at e;rw[j]at e;obtain⟨a,rfl,r⟩:=JF e;obtain⟨rfl,b,z,G⟩:=xdk I' r;rw[Sf,h3]at z;cases z;exact⟨_,O,g.put _ _ _,ac ⟨i,6,O,λA=>by have B:=A;rw[ES À]at B;let⟨c,ee,f,q1,q2⟩:=G B;exact wY.put ⟨a0,c,ee,f,h2,q1,q2,Sg l q1 q2⟩ À _ _⟩⟩
 |6,⟨h,h2⟩=>
  refine Au W l g i h o04 O λo n x j e=>?_;unfold aR at e;rw[j]at e;obtain⟨a,rfl,r⟩:=JF e;obtain⟨rfl,z⟩:=xst I' r;exact⟨_,O,g.put _ _ _,ac ⟨i,7,O,(h2 z).put À _ _⟩⟩
 |7,⟨h,h2⟩=>exact JG g i (λp m u=>by grind [bW,Xh,aI]) (n:=8) ⟨O,h2⟩
 |8,⟨h,h2⟩=>
  have D:∀p m u,bW p M (Xh S m) u=(match S.eval (cP 6)with
    | bG b=>ij (Xh {S with todo:=[dE (if b then fG 1 V8 ao else RR)]} m) u #[]
    |_=>ic (iP "cond: bool expected" (S.pos p)) u):=λp m u=>by
   grind [bW,Xh,aI,cC]
  by_cases P:∃b,S.eval (cP 6)=bG b;let⟨b,P⟩:=P;rw[P]at D;cases b with|true=>exact JG g i (λp m u=>D p m u) (n:=9) ⟨O,h2⟩|false=>exact Sa (λp m u=>D p m u) O (ac (Ω g λL C=>by simp only[ju]at C;subst C;exact jb3))
  refine aJ λm=>⟨iP "cond: bool expected" (S.pos<|wf az dA),w,#[],?_⟩;grind
 |9,⟨h,h2⟩=>exact JG g i (k:=[aS V8 [0,1,2,3,4,5,6,7]]) (λp m u=>by simp[bW,Xh,i,aI,show S.todo=[dE<|fG 1 V8 ao]from h,jdh];rfl) (n:=10) ⟨O,h2⟩
 |10,⟨h,h2⟩=>
  refine Au W l g i h o10 O λo n x j e=>?_;obtain⟨rfl,rfl⟩:=Sh j e;exact⟨_,O,g.put _ _ _,ac ⟨i,11,O,h2.put À _ _⟩⟩
 |11,⟨h,h2⟩=>
  refine Au W l g i h o11 O λo n x j e=>?_;obtain⟨rfl,rfl⟩:=Sh j e;exact⟨_,O,g.put _ _ _,ac ⟨i,12,O,h2.put À _ _,by show(aA S.tmps 8 _).getD 8 Z'=(aA S.tmps 8 _).getD 0 Z';rw[ES À,Gl À];rfl⟩⟩
 |12,⟨h,h2,h3⟩=>
  let⟨o,q1,q2,q3,q4⟩:=o12;let⟨a,c,ee,f,r1,r2,r3,r4⟩:=id h2;have q:∀{p:Zp} {u:Zy},Tb p->u.heap[a.block]?=Y (au c ee f)->(aR S.eval o).runT p u #[]=(iu (gp<|aU<|some a):Sem Next).runT p u #[]:=λ{p u} w' hd=>by unfold aR;rw[q2];dsimp only;rw[Sf,h3,r1];show((convert 221 327<|aU<|some a).bind _).runT p u #[]=_;grind [Yf,ja7]
  refine RZ l h i q1 (sX q4) g.ro g.ke.1 (s:=iu<|gp<|aU<|some a) (Bl.eG<|xr _) (λt d=>q I' r2) (λv F=>q ż<|by rw[F.out _ r4];exact r2) (λn x e=>?_) (λy x e=>Æ);cases e;refine⟨_,aJ O,aJ ?_⟩;rw[fin (op:= .move (cP 0)) h q1 q3];exact⟨g.put _ _ _,ac ⟨i,13,O,h2.put À _ _,by show(aA S.tmps 9 _).getD 9 Z'=(aA S.tmps 9 _).getD 0 Z';grind [ES,Gl]⟩⟩
 |13,⟨h,h2,h3⟩=>
  refine Au W l g i h o13 O λo n x j e=>?_;rw[xsx j,xse]at e;cases e;exact⟨_,O,g.put _ _ _,ac ⟨i,14,O,h2.put À _ _,by show(aA S.tmps 10 _).getD 10 Z'=(aA S.tmps 10 _).getD 0 Z';rw[ES À,Gl À];exact h3⟩⟩
 |14,⟨h,h2,h3⟩=>
  let⟨o,q1,q2,q3,q4⟩:=o14;let⟨a,c,ee,f,r1,r2,r3,r4⟩:=id h2;have q:∀{p:Zp} {u:Zy},Tb p->u.heap[a.block]?=Y (au c ee f)->(aR S.eval o).runT p u #[]=(do iu (gp<|<-pj a):Sem Next).runT p u #[]:=λ{p u} w' hd=>by unfold aR;rw[q2];dsimp only;rw[Sf,h3,r1];show((convert 327 221<|aU<|some a).bind _).runT p u #[]=((pj a).bind _).runT p u #[];grind [Yf,ja8]
  refine RZ l h i q1 (sX q4) g.ro g.ke.1 (s:=do iu (gp<|<-pj a)) (Bl.eG<|xq (xxb r4) λ_=>xr _) (λt d=>q I' r2) (λv F=>q ż<|by rw[F.out _ r4];exact r2) (λn x e=>?_) λy x e=>I.iM g h _ _;obtain⟨b,rfl,_⟩:=JF e;refine⟨_,aJ O,aJ ?_⟩;rw[fin (op:= .move (cP 0)) h q1 q3];exact⟨g.put _ _ _,ac ⟨i,15,O⟩⟩
 |15,h=>
  refine Au W l g i h o15 O λo n x j e=>?_;obtain rfl:=Ψ j e;exact⟨_,O,g.put _ _ _,ac ⟨i,16,O⟩⟩
 |16,h=>
  refine Au W l g i h o16 O λo n x j e=>?_;unfold aR at e;rw[j]at e;obtain⟨a,rfl,r⟩:=JF e;exact⟨_,O,g.put _ _ _,ac ⟨i,17,O⟩⟩
 |17,h=>
  let⟨o,q1,q2,q3,q4⟩:=o17;refine Ι W l h i q1 (sX q4) g.ro g.ke.1 (by rw[q2];rfl) (λn x e=>?_) λy x _=>I.iM g h _ _;unfold aR at e;rw[q2]at e;let⟨u,w2,e1,r⟩:=jr e;cases r;refine⟨_,ac ⟨O,O⟩,aJ ?_⟩;rw[je2 (op:= .move (cP 0)) h q1 q3];exact⟨g.to _,ac ⟨i,18,O⟩⟩
 |18,h=>
  refine Sa (fr':={S with todo:=[]}) (λp m u=>?_) O<|ac<|Ω g λL C=>(by cases C);simp[bW,Xh,i,aI,show S.todo=[aS V8 []]from h]
 |_+19,h=>exact h.elim
end
end Odd160
def je8(i:Q):(dA[i]?).map (·.results)=(Tryz.prog.funcs[i]?).map (·.results):=by rw[zX];cases h:Tryz.prog.funcs[i]?with|none=>rfl|some f=>simp[Xl,zV];split<;>rfl
def Sq(i):dA[i]?=Tryz.prog.funcs[i]?\/vv dA i:=by cases h:Tryz.prog.funcs[i]?with|none=>left;rw[zX,h];rfl|some f=>cases y:sD i with|true=>grind [UP,Hm]|false=>left;rw[zX,h];grind [zV]
def Sk(i:Q)(q)(h:dA[i]?=Y q):(q.name== "runtime.NumGoroutine")=ao:=by obtain⟨f,a,⟨_,rfl⟩|⟨_,rfl⟩⟩:=US h;have:=Hm a;unfold zW;omega;exact Hm a
theorem Do(P F):(wf P F).funcs=F:=O
def Sl(i:Q)(q)(h:dA[i]?=Y q)(a:q.body.isNone=M):kV q=R:=by grind [UU,n71,He,UN,je4,Hf]
def xxd{P F}(a):B P F X<|Extern.AbiNoEscape.same a:=match a with
 |⟨[]⟩=>(xz _:B P F X _)|⟨[x]⟩=>(xr x:B P F X _)
 |⟨_::_::_⟩=>(xz _:B P F X _)
def So{P F}(i:Q)(q)(h:dA[i]?=Y q)(c:q.body.isNone=M)(e)(b:oH q=Y e)(a):B P F X<|e a:=by obtain⟨_,rfl⟩|⟨_,rfl⟩|⟨_,rfl⟩|⟨_,rfl⟩|⟨_,rfl⟩:=UU h c;rw[x71]at b;cases b;exact xr3 a;rw[Hg]at b;cases b;exact xmy a;rw[UO]at b;cases b;exact xxd a;rw[jfe]at b;cases b;exact zv1 _ _ a;rw[Hh]at b;cases b;exact zvx a
theorem xy8:Tryz.prog.inits=#[2]:=Tryz.inits_eq
theorem xuk{f}(h:sD i=M)(a:Tryz.prog.funcs[i]?=Y f):vv dA i:=UP h a<|Hm a
def zya{i}(h:i≠2):Tryz.prog.inits.idxOf? i=R:=by grind [xy8]
theorem zy9(a:¬vv dA f){x}(hx:Tryz.prog.funcs[f]?=Y x):sD f=ao:=by grind [xuk]
def Gn(a:¬vv dA f):Tryz.prog.inits.idxOf? f=R/\(f≠220->∀q c,dA[f]?=Y q->q.body=Y c->q9 az M c=M):=by refine⟨zya ?_,λe q c b d=>?_⟩;rintro rfl;have:=zy9 a Tryz.func2;revert this;decide;rw[(Sq f).resolve_right a]at b;grind [UQ,zy9]
theorem zy8(X):nz az dA X:=⟨λf=>(Sq f).imp id aJ,je8,Sk,Sl,λf b h c e d a=>So f b h c e d a⟩
def jcm(X):nz (wf az dA) dA X:=⟨λf=>aJ (by rw[Do]),λf=>(by rw[Do]),Sk,Sl,λf b h c e d a=>So f b h c e d a⟩
def xy6:uL az dA:=λf a=>⟨(Gn a.2).1,by by_cases h:f=220;grind [Odd160.yY];exact ac<|(Gn a.2).2 h⟩
def Si(i:Q)(f:kL):kL:=if i=220 then zW f else zV i f
noncomputable def Tryo.dA:Zc:=Tryz.prog.funcs.mapIdx Si
def zy4(i):Tryo.dA[i]?=(Tryz.prog.funcs[i]?).map (Si i):=by unfold Tryo.dA;simp
theorem M8(h:i≠220):Tryo.dA[i]?=dA[i]?:=by rw[zy4,zX];grind [Si]
def M':Tryo.dA[220]?=Y (zW Tryz.f220):=by rw[zy4,Tryz.func220];rfl
def Na:dA[220]?=Y Tryz.f220:=by rw[zX,Tryz.func220];rfl
def xp0(f):(zW f).name=f.name:=O
theorem xuq(f):(zW f).results=f.results:=O
theorem Ss(f):(zW f).body=Y (.refuse ""):=O
def je6(X:ZP):nz (wf az Tryo.dA) dA X where
 fU f:=by rw[Do];by_cases h:f=220;subst h;exact ac<|ac ⟨_,_,M',Na,xp0 _,by rw[Ss];rfl,by rw[Odd160.qH];rfl⟩;grind [M8]
 Ts f:=by rw[Do];by_cases h:f=220;subst h;rw[M',Na];grind [xuq];rw[M8 h]
 Gw:=Sk
 eG:=Sl
 Tr f q h hb e he a:=So f q h hb e he a
def xy2(a:Vi (wf az Tryo.dA) dA f):f≠220:=by rintro rfl;have h:=a.1;rw[Do,Na,M',xj]at h;grind [Ss,Odd160.qH]
def xyx:uL (wf az Tryo.dA) dA:=λf a=>⟨(Gn a.2).1,ac λb c d e=>by rw[Jo];exact(Gn a.2).2 (xy2 a) b c d e⟩
def jb4(f):¬Mc (wf az Tryo.dA) f:=by rintro⟨g,c,a,d,b⟩;rw[Do]at a;rw[Jo]at b;by_cases h:f=220;subst h;rw[M']at a;cases a;rw[Ss]at d;cases d;cases b;rw[M8 h]at a;by_cases e:vv dA f;let⟨F,s,y,t,_⟩:=e;rw[a]at y;cases y;rw[d]at t;cases t;cases b;rw[(Gn e).2 h g c a d]at b;cases b
def xtt(a:Vi az dA f)(b:Mc az f):f=220:=by by_cases h:f=220;exact h;let⟨q,c,y,p,t⟩:=b;rw[<-a.1]at y;rw[(Gn a.2).2 h q c y p]at t;cases t
def je7:DX az dA Odd160.I Tryo.dA where
 ym X f a k w hp hM hk:=by
  obtain rfl:=xtt hp hM;have e:(wf az dA).funcs[220]?=Y Tryz.f220:=by rw[Do];exact Na
  refine⟨⟨O,hk,O,O,?_⟩,ac ⟨O,0,?_⟩⟩;simp[bI,e,Xl,qt,Odd160.ntmps220,Array.size_append,Array.size_replicate];omega;show(bI (wf az dA) 220 a k).todo=_;simp[bI,e,GO,Odd160.qH,qt]
 mc X fr w h:=by rw[h.1.fn];exact Odd160.yY
 re X fr w t d h:=⟨h.1,h.2.imp id λ⟨c,n,g⟩=>⟨c,n,Odd160.At.re t d g⟩⟩
 step X fr w hS h:=by obtain⟨i,⟨ch,j,r,k,b,m⟩|⟨b,n,l⟩⟩:=h;refine ac<|aJ ⟨ch,b,i.de,λp=>?_⟩;grind [Frame.catches];grind [Odd160.BF,zy8]
 Cq:=je6
 oN:=xyx
 pC f hp hM:=⟨by grind [Do,Odd160.yY,M8],hp.2⟩
 DY:=jb4
theorem bX:Yk az dA where
 Cq:=zy8
 yp:=jcm
 oN:=xy6
 wt:=Sq
 ro:=Ä
 GA:=⟨_,_,je7⟩
def sY:oi az<|UM 3:=xx3<|zya Ã
def Sj(f:kL):ez:=match f.body with
 |some (.refuse _)=>ao|_=>M
theorem gy{f}(h:sD i=ao)(a:Tryz.prog.funcs[i]?=Y f)(hw:Sj f=M):Vi az dA i:=by refine⟨?_,?_⟩;rw[zX,a];grind [zV];rintro⟨c,s,b,d,_⟩;rw[zX,a]at b;grind [zV,Sj]
def Av{f}(h:sD i=ao)(g:i≠220)(j:Tryz.prog.funcs[i]?=Y f):¬Mc az i:=by rintro⟨a,c,b,d,e⟩;grind [UQ]
def zy6:Op->dD Operand
 | .move x=>Y x| .assign x=>Y x
 |_=>R
def vh{aw val}(c:¬Mc az q)(b:o.guard=R/\(zy6 o.op).map a.eval=Y val)(h:Vh az q z j aw (a.put o.dst val) w):Vh az q z j (o::aw) a w:=by let⟨d,p,y,P,A,g⟩:=o;obtain⟨rfl,b⟩:=b;refine Vh.eO bX c O (λt e=>⟨t,e,?_⟩) h;cases p<;>simp[zy6]at b<;>subst b<;>simp[aR,go_sem]
def so{x y:pB}(b:¬Mc az q)(c:rq j)(h:∀(t:Zy) (P:Exit->mh->Zy->Prop),sT w t->H (∀A W,Yp az q y j A W->P eE A W)->H (∀e A W,e≠ eE->j e A W->P e A W)->x.wp prog P a t)(hy:wU [dE y]:=by exact trivial):Yp az q (gU x y) j a w:=Yp.Aq bX sY b c hy h
def Gp{x}(b:¬Mc az q)(c:rq j)(h:∀(W:Zy) (P:Exit->mh->Zy->Prop),sT w W->H (∀e A y,j e A y->P e A y)->x.wp prog P a W):Yp az q x j a w:=Yp.yU bX sY b c h
end
end
end A
namespace P
variable{b D n cp c:Q}{k:Lk}{L:KV}{w1 w:Zy}{tv v0:Zv}{d r q:Exit->mh->Zy->Prop}{a:mh}
open A.Tryq Go.RowKit
section
variable[pn:A.Pn]
section
variable{tv:eJ}{ay clock:Q}{w:dN}{es:bE eF}{rm nx:eJ}
def xA(es:bE eF)(i:Q):Zl:=eV (A.gO (i:U) (eV es)).data
def xvd(i):st (xA es i)=A.gO (i:U) (eV es):=by simp[st,xA]
def ϊ(es):∀(k n r:Q),r<k->(A.mP es (n:U) k)[r]?=Y (A.yb ((n+r:Q):U)<|st<|xA es<|n+r)
 |0,n,r,h=>dC h<|Nat.not_lt_zero _
 |k+1,n,0,h=>by simp[A.mP,xvd]
 |k+1,n,r+1,h=>by
  have:=ϊ es k (n+1) r À
  grind [A.mP]
def Cl(b D ay n:Q)(k:Lk)(L:KV)(es:bE eF)(w:Zy)(r:Q)(w1:Zy):Prop:=
 ∃c y l,(c=7\/c=8)/\ow (xA es) n k L r=Y (y,l)/\zj (λx=>x=b\/x=k.mp) (A.wF (py:=⟨137⟩) w D ay c) w1/\Jh w1 b y/\Je w1 k.mp l
def rh(tv:Zv)(b D ay n cp:Q)(k:Lk)(L:KV)(es:bE eF)(w:Zy)(ch:bA PanicEntry)(w1:Zy):Prop:=
 ∃c,(c=7\/c=8)/\ch=[{v:=tv,recovered:=ao}]/\ow (xA es) n k L cp=R/\zj (λx=>x=b\/x=k.mp) (A.wF (py:=⟨137⟩) w D ay c) w1
def ϙ(f:w.heap[D]?=Y (au #[rm,fu<|some ay,nx] 137))(i:w.heap[ay]?=Y (.map es clock))(h:zj (λx=>x=b\/x=k.mp) (A.wF (py:=⟨137⟩) w D ay c) w1):
  zj (λx=>x=b\/x=k.mp) w (A.pK w1 D ay (au #[rm,fu<|some ay,nx] 137)<|.map es clock):=by
 have g:D<V (Z w):=(za.1 f).1;have j:ay<V (Z w):=(za.1 i).1;have e:=h.aD;rw[A.lY (py:=⟨137⟩)]at e;refine⟨h.os,h.cX,?_,λx m l=>?_⟩;grind [A.pK];simp only[A.pK];by_cases d:x=ay;grind;rw[zl<|Ne.symm d];by_cases a:x=D;grind;rw[zl<|Ne.symm a,h.dP x (by rw[A.lY (py:=⟨137⟩)];omega) l,A.po (py:=⟨137⟩) w m a d]
def Ϛ{x a b}(c:x≠D)(d:x≠ay):(A.pK w1 D ay a b).heap[x]?=w1.heap[x]?:=by grind [A.pK]
theorem ϑ{x}(a:-9223372036854775808<=x)(b:x<9223372036854775808):IntKind.i64.wrap x=x:=by grind [zh]
def xd8(hk:k.ok)(P:Jh w b k)(hs:Je w k.mp L)(hT:iN w)(hG:ip tv w)
  (h1:w.heap[D]?=Y (au #[rm,fu<|some ay,nx] 137))(W:w.heap[ay]?=Y (.map es clock))(bg:∀e∈eV es,A.lD e)
  (cs:b≠1)(ba:b≠2)(hm1:k.mp≠1)(bk:k.mp≠2)(bj:b≠k.mp)(a:∀x,x=1\/x=2\/x=b\/x=k.mp->x≠D/\x≠ay)
  (q:k.bM+1=(n:U))(bd:k.aQ+1=(n:U)+cp)(bc:cp<=1000000000)(hn:n<=1000000000000)(B:∀i,T (xA es i)<=100000):
  A.CC az 136 #[zq b,zq D] w (CO tv b k.mp (ow (xA es) n k L cp) w):=by
 have bi:1<V (Z w):=by obtain⟨t,x,_,h⟩:=hG;exact js h
 have bl:=hT.iE;have bb:b<V (Z w):=P.lt;have be:=hs.lt;have v:∀c x,(x=1\/x=2\/x=b\/x=k.mp)->x<V (Z w)->(A.wF (py:=⟨137⟩) w D ay c).heap[x]?=w.heap[x]?:=λc x hx hl=>A.po (py:=⟨137⟩) w hl (a x hx).1 (a x hx).2;refine(A.ve (py:=⟨137⟩) (I:=Cl b D ay n k L es w) (ϸ:=rh tv b D ay n cp k L es w) (λp=>A.bX) A.sY (A.gy Ã Tryz.func214 O) ⟨P.i 11 O,P.i 12 O⟩ h1 W bg ?_ bc ?_ À À À ?_ ?_ ?_ ?_ ?_).U ?_;grind [ϑ];grind [ϑ];rintro r w' t d⟨c,hd,G,j,f,g,o,y⟩;exact⟨c,hd,G,j,f,g.re,o,y⟩;rintro ch w' t d⟨c,j,f,g,o⟩;exact⟨c,j,f,g,o.re⟩;rintro ch w'⟨c,j,rfl,_⟩;rfl;intro c j;refine⟨c,k,L,j,O,zj.refl _ _,?_,?_⟩;exact(v c b Â bb).trans P;obtain⟨m,h2,f,g⟩:=hs;exact⟨m,h2,(v c k.mp Â be).trans f,g⟩;intro r hr;rw[A.lq]at hr;refine⟨((n+r:Q):U),st _,by rw[q];exact ϊ es cp n r hr,?_⟩;rintro w1⟨c,hd,G,j,f,g,o,y⟩ t d;obtain⟨bh,F,_⟩:=PY hk r f;have g':zj (λx=>x=b\/x=k.mp) w1<|A.re (aF w1<|A.vf ((n+r:Q):U)<|st<|xA es<|n+r) t d:=by have l:zj (λx=>x=b\/x=k.mp) w1<|aF w1<|A.vf ((n+r:Q):U)<|st<|xA es<|n+r:=zj.E _;exact⟨l.os,l.cX,l.aD,l.dP⟩
 have C:zj (λ_=>False) w1<|A.re (aF w1<|A.vf ((n+r:Q):U)<|st<|xA es<|n+r) t d:=by have l:zj (λ_=>False) w1<|aF w1<|A.vf ((n+r:Q):U)<|st<|xA es<|n+r:=zj.E _;exact⟨l.os,l.cX,l.aD,l.dP⟩
 have z:=g.aE g';have bf:=z.aD;rw[A.lY (py:=⟨137⟩)]at bf;have X:iN<|A.wF (py:=⟨137⟩) w D ay c:=λi hi=>by have:=hT i hi;grind [N]
 have v':ip tv<|A.wF (py:=⟨137⟩) w D ay c:=by obtain⟨t',x,ho,h⟩:=hG;refine⟨t',x,ho,?_⟩;simp only[N]at h⊢;rw[v c 1 Â bi];exact h
 have ho:¬(1=b\/1=k.mp):=À
 have e4:¬(2=b\/2=k.mp):=À
 refine(zpp b hd bh G _ _ (B _) _ À À cs ba À À À (o.y C id) (by rw[F];exact y.y C id) (X.y z e4)<|v'.y z ho).mono ?_;intro e w' u;rw[F,<-ZU f]at u;cases hq:ow (xA es) n k L (r+1)with
 |none=>
  rw[hq]at u;obtain⟨rfl,s⟩:=u;refine⟨c,j,O,?_,z.aE s⟩;have:=PZ hq<|cp-(r+1);rwa[show r+1+(cp-(r+1))=cp by omega]at this
 |some p=>obtain⟨k2,L2⟩:=p;rw[hq]at u;obtain⟨rfl,s,S,wr⟩:=u;exact⟨c,k2,L2,j,hq,z.aE s,S,wr⟩
 rintro e w'⟨w1,rfl,⟨rfl,c,hd,G,j,f,g,o,y⟩|⟨ch,rfl,c,j,rfl,f,g⟩⟩;refine FW f (ϙ h1 W g) ?_ ?_;exact(Ϛ (a b Â).1 (a b Â).2).trans o;obtain⟨m,h2,S,wr⟩:=y;exact⟨m,h2,(Ϛ (a k.mp Â).1 (a k.mp Â).2).trans S,wr⟩;exact Jl f<|ϙ h1 W g
end
def ϗ:∀{y:bA eF} {L:Xv},pW y L->∀e∈y,A.lD e
 |[],_,_,e,z=>by cases z
 |e0::y,[],h,e,z=>by cases PG h
 |e0::y,(k,v)::L,h,e,z=>by replace h:=FP h;obtain rfl|a:=jc.1 z;exact⟨k,v.2,st v.1,h.1,h.2.1.trans O⟩;exact ϗ h.2.2 e a
def ϐ(n):∀{e:bA eF} {L:Xv},pW e L->eV (A.gO n e).data=jp L n
 |[],_::_,h=>(LF h).elim|e0::e,[],h=>by cases PG h
 |[],[],_=>by simp[A.gO,A.iH,A.sW,jp,Xm]|e0::e,(k,v)::L,h=>by replace h:=FP h;have c:=ϐ n h.2.2;have hk:e0.key=J k:=h.1;have b:e0.val=bY #[E v.1,J v.2]:=h.2.1.trans O;by_cases a:n=k;subst a;simp[A.gO,A.iH,A.sW,hk,b,jp,Xm,st];grind [A.gO,A.iH,jp,Xm]
def xd7{d}(hk:k.ok)(z:Jh w b k)(C:Je w k.mp L)(y:iN w)(v:ip tv w)(S:Jt w D d)
  (h:b≠1)(j:b≠2)(W:k.mp≠1)(o:k.mp≠2)(l:b≠k.mp)(f:∀x,x=1\/x=2\/x=b\/x=k.mp->¬d.cN D x)
  (a:k.bM+1=(n:U))(c:k.aQ+1=(n:U)+cp)(m:cp<=1000000000)(B:n<=1000000000000)(q:∀i,T (jp d.L i)<=100000):
  A.CC az 136 #[zq b,zq D] w (CO tv b k.mp (ow (λi=>jp d.L (i:U)) n k L cp) w):=by
 obtain⟨s,g,t,p,_⟩:=S.jS;have u:xA s=λi:Q=>jp d.L (i:U):=funext λi=>ϐ _ p;have:=xd8 hk z C y v (show w.heap[D]?=Y _ from S.bT) t (ϗ p) h j W o l (λx r=>⟨λe=>f x r<|aJ e,λe=>f x r<|ac<|aJ e⟩) a c m B λi=>Á
 grind
end
section
open A
variable[pn:A.Pn]
attribute[local go_sem] zn zg
def Ax(v0 v3 v4 v5:Zv)(a:mh):Prop:=∃x1 x2 x6 x7 x8 x9 X x y z t p j u o s m v l i g f h e W S B C F G P A I x37 x38 x39 x40 x41 x42 x43,a=⟨#[v0,x1,x2,v3,v4,v5,x6,x7,x8,x9,X,x,y,z,t,p,j,u,o,s,m,v,l,i,g,f,h,e,W,S,B,C,F,G,P,A,I,x37,x38,x39,x40,x41,x42,x43],[]⟩
noncomputable def yc:=Qf Tryz.f81.body
noncomputable def ο:=Qb<|Qb yc
noncomputable def ι:=Qa ο
noncomputable def π:=Qb ο
noncomputable def κ:=Qa π
noncomputable def ς:=Qb π
noncomputable def μ:=Qa ς
noncomputable def τ:=Qb ς
noncomputable def ν:=Qa τ
noncomputable def υ:=Qb τ
def sq:¬Mc az 81:=Av Ã Ã Tryz.func81
def MU:Mc az 136:=⟨_,_,oE,O,Ä⟩
def xm:Za:=#[ak ⟨#[]⟩,aD bB 0,ak ⟨#[]⟩,aD bB 0,fu R,aD bB 0,ak ⟨#[]⟩,ak ⟨#[]⟩,aD bB 0,ak ⟨#[]⟩,ak ⟨#[]⟩,aD bB 0,aD bB 0,aD bB 0,aD bB 0,bG ao,aD bB 0]
def lkV(k:Lk)(C t:Zl):Zv:=bY (k.G C t)
def xrc(k:Lk)(a b):(aA (aA (aA (aA (aA (aA (aA (aA (aA (aA (aA (aA (aA (aA (aA (aA (aA xm 0<|E k.m) 1<|J k.tc) 2<|E k.bQ) 3<|J k.op) 4<|fu<|some k.mp) 5<|J k.ep) 6<|E a) 7<|E b) 8<|J k.bF) 9<|E k.dX) 10<|E k.fD) 11<|J k.bM) 12<|J k.aQ) 13<|J k.dB) 14<|J k.gR) 15<|bG k.cQ) 16<|J k.cY)=k.G a b:=by simp[xm,Lk.G]
def xra{a}(k:Lk)(c d)(b:xh w1 a xm 147):xh (ay (ay (ay (ay (ay (ay (ay (ay (ay (ay (ay (ay (ay (ay (ay (ay (ay w1 (K a 0)<|E k.m) (K a 1)<|J k.tc) (K a 2)<|E k.bQ) (K a 3)<|J k.op) (K a 4)<|fu<|some k.mp) (K a 5)<|J k.ep) (K a 6)<|E c) (K a 7)<|E d) (K a 8)<|J k.bF) (K a 9)<|E k.dX) (K a 10)<|E k.fD) (K a 11)<|J k.bM) (K a 12)<|J k.aQ) (K a 13)<|J k.dB) (K a 14)<|J k.gR) (K a 15)<|bG k.cQ) (K a 16)<|J k.cY) a (k.G c d) 147:=by have h:=(((((((((((((((((b.H 0<|E k.m).H 1<|J k.tc).H 2<|E k.bQ).H 3<|J k.op).H 4<|fu<|some k.mp).H 5<|J k.ep).H 6<|E c).H 7<|E d).H 8<|J k.bF).H 9<|E k.dX).H 10<|E k.fD).H 11<|J k.bM).H 12<|J k.aQ).H 13<|J k.dB).H 14<|J k.gR).H 15<|bG k.cQ).H 16<|J k.cY);rw[xrc]at h;exact h
def xrb{a}(k:Lk)(b c):zj (λx=>x=a) w1<|ay (ay (ay (ay (ay (ay (ay (ay (ay (ay (ay (ay (ay (ay (ay (ay (ay w1 (K a 0)<|E k.m) (K a 1)<|J k.tc) (K a 2)<|E k.bQ) (K a 3)<|J k.op) (K a 4)<|fu<|some k.mp) (K a 5)<|J k.ep) (K a 6)<|E b) (K a 7)<|E c) (K a 8)<|J k.bF) (K a 9)<|E k.dX) (K a 10)<|E k.fD) (K a 11)<|J k.bM) (K a 12)<|J k.aQ) (K a 13)<|J k.dB) (K a 14)<|J k.gR) (K a 15)<|bG k.cQ) (K a 16)<|J k.cY:=((((((((((((((((((zj.refl _ w1).aE<|zj.H _ (K a 0) _).aE<|zj.H _ (K a 1) _).aE<|zj.H _ (K a 2) _).aE<|zj.H _ (K a 3) _).aE<|zj.H _ (K a 4) _).aE<|zj.H _ (K a 5) _).aE<|zj.H _ (K a 6) _).aE<|zj.H _ (K a 7) _).aE<|zj.H _ (K a 8) _).aE<|zj.H _ (K a 9) _).aE<|zj.H _ (K a 10) _).aE<|zj.H _ (K a 11) _).aE<|zj.H _ (K a 12) _).aE<|zj.H _ (K a 13) _).aE<|zj.H _ (K a 14) _).aE<|zj.H _ (K a 15) _).aE<|zj.H _ (K a 16) _)
def xou{m}{c n b}(o:xh b m (k.G c n) 147)(u)(C:u[4]?=zq m)(t d):
  (eR jD u).run (wf az dA) (re b t d)=dG (bY<|k.G c n) (re b t d):=by
 show(eR jD u).run prog _=_;have a:xh (re b t d) m (k.G c n) 147:=o;generalize re b t d=W at*;have p:=a.i 0 O;have q:=a.i 1 O;have r:=a.i 2 O;have s:=a.i 3 O;have v:=a.i 4 O;have w:=a.i 5 O;have x:=a.i 6 O;have y:=a.i 7 O;have z:=a.i 8 O;have B:=a.i 9 O;have e:=a.i 10 O;have f:=a.i 11 O;have g:=a.i 12 O;have h:=a.i 13 O;have i:=a.i 14 O;have j:=a.i 15 O;have l:=a.i 16 O;simp[eR,Tryz.results81,go_sem,C,p,q,r,s,v,w,x,y,z,B,e,f,g,h,i,j,l];rfl
def xj5{v3 f aw z}(W:Ax v0 v3 (zq f) (zq b) a)
  (X:Jh w b k)(u:xh w f xm 147)(m:ip tv w)(v:b≠f)(P:0<=k.tc)(A:k.tc<=1000000000000)
  (n:H<|∀e a' w',sV az dA jD aw e a' w'->z e a' w')
  (o:H<|∀w',rp k->zj (λx=>x=f) w w'->aw (ai<|lkV k (Ji k.m k.ep)<|Y7 k.m k.ep) w')
  (s:H<|∀w',¬rp k->zj (λx=>x=f) w w'->aw (kn tv) w'):
  υ.wp prog z a w:=by
 obtain⟨x1,x2,x6,x7,x8,x9,bb,bc,bd,be,bf,bg,bh,bi,bj,bk,bl,bm,bn,bo,bp,bq,br,bs,bt,bu,bv,bw,bx,bz,ca,cb,cc,cd,ce,cf,cg,ch,ci,cj,rfl⟩:=W;have y:=X;have B:=m;have C:=u;conv=>arg 2;whnf
 go_wp2;refine(ztr b k _ y P A B).mono ?_;rintro e w1⟨i,⟨rfl,h⟩|⟨rfl,h⟩⟩;rotate_left;refine n.o _ _ _ ⟨O,?_⟩;exact s.o _ h.o<|i.U λ_ x=>x.elim;let⟨j,p⟩:=JP<|Ji k.m k.ep;let⟨l,q⟩:=JP<|Y7 k.m k.ep;have g:xh w1 b (k.G j l) 147:=by have:=xh.y y i id;rw[<-p,<-q];exact this
 rw[p,q]at o;have c:=C.y i id;have b0:N w1 (K b 0)=E k.m:=g.i 0 O;have b1:N w1 (K b 1)=J k.tc:=g.i 1 O;have b2:N w1 (K b 2)=E k.bQ:=g.i 2 O;have b3:N w1 (K b 3)=J k.op:=g.i 3 O;have b4:N w1 (K b 4)=(fu<|some k.mp):=g.i 4 O;have b5:N w1 (K b 5)=J k.ep:=g.i 5 O;have b6:N w1 (K b 6)=E j:=g.i 6 O;have b7:N w1 (K b 7)=E l:=g.i 7 O;have b8:N w1 (K b 8)=J k.bF:=g.i 8 O;have b9:N w1 (K b 9)=E k.dX:=g.i 9 O;have hd:N w1 (K b 10)=E k.fD:=g.i 10 O;have F:N w1 (K b 11)=J k.bM:=g.i 11 O;have G:N w1 (K b 12)=J k.aQ:=g.i 12 O;have h1:N w1 (K b 13)=J k.dB:=g.i 13 O;have I:N w1 (K b 14)=J k.gR:=g.i 14 O;have h2:N w1 (K b 15)=bG k.cQ:=g.i 15 O;have hx:N w1 (K b 16)=J k.cY:=g.i 16 O;have z0:N w1 (K f 0)=ak ⟨#[]⟩:=c.i 0 O;have f0:=c.dS 0;have z1:N w1 (K f 1)=J 0:=c.i 1 O;have f1:=c.dS 1;have z2:N w1 (K f 2)=ak ⟨#[]⟩:=c.i 2 O;have f2:=c.dS 2;have z3:N w1 (K f 3)=J 0:=c.i 3 O;have f3:=c.dS 3;have z4:N w1 (K f 4)=fu R:=c.i 4 O;have f4:=c.dS 4;have z5:N w1 (K f 5)=J 0:=c.i 5 O;have f5:=c.dS 5;have z6:N w1 (K f 6)=ak ⟨#[]⟩:=c.i 6 O;have f6:=c.dS 6;have z7:N w1 (K f 7)=ak ⟨#[]⟩:=c.i 7 O;have f7:=c.dS 7;have z8:N w1 (K f 8)=J 0:=c.i 8 O;have f8:=c.dS 8;have z9:N w1 (K f 9)=ak ⟨#[]⟩:=c.i 9 O;have f9:=c.dS 9;have cl:N w1 (K f 10)=ak ⟨#[]⟩:=c.i 10 O;have L:=c.dS 10;have cm:N w1 (K f 11)=J 0:=c.i 11 O;have ho:=c.dS 11;have cn:N w1 (K f 12)=J 0:=c.i 12 O;have wr:=c.dS 12;have co:N w1 (K f 13)=J 0:=c.i 13 O;have cs:=c.dS 13;have cp:N w1 (K f 14)=J 0:=c.i 14 O;have g':=c.dS 14;have cq:N w1 (K f 15)=bG ao:=c.i 15 O;have S:=c.dS 15;have cr:N w1 (K f 16)=J 0:=c.i 16 O;have v':=c.dS 16;have ba:¬f=b:=λe=>v e.symm;have D:=i;have r:=c;go_wp2;exact n.o _ _ _ ⟨O,bY _,λt d=>⟨t,d,xou (xra k j l r) _ O t d⟩,o.o _ h.o<|(D.U λ_ x=>x.elim).aE<|xrb k j l⟩
def Jh.aQ(h:Jh w b k)(l):Jh (ay w (K b 12)<|J l) b {k with aQ:=l}:=by have:=xh.H h 12<|J l;exact this
def xtn{e f:Zv}(l:Ax v0 e f (zq b) a)(c:Jh w b k)
  (j:H (∀a' w',Ax v0 e f (zq b) a'->zj (·=b) w w'->Jh w' b {k with aQ:=k.bM}->d eE a' w')):κ.wp prog d a w:=by
 obtain⟨u,P,x6,x7,x8,x9,m,n,o,p,q,r,s,t,v,x,y,z,B,C,D,A,F,G,hd,I,h1,h2,L,hx,ho,wr,cs,g',S,v',es,ba,W,X,rfl⟩:=l;have g:N w (K b 11)=J k.bM:=c.i 11 O;have h:N w (K b 12)=J k.aQ:=c.i 12 O;have i:=c.dS 12;conv=>arg 2;whnf
 go_wp2;exact j.o _ _ ⟨_,_,_,_,_,_,_,_,_,_,_,_,_,_,_,_,_,_,_,_,_,_,_,_,_,_,_,_,_,_,_,_,_,_,_,_,_,_,_,_,O⟩ (zj.H w (K b 12) _)<|Jh.aQ c k.bM
def Su(b:Q)(w:Zy):Q:=bL (9999-bZ ((N w<|K b 12).getD Z'))
def ϖ(h:Jh w b k):Su b w=bL (9999-k.aQ):=by unfold Su;rw[h.i 12 O];rfl
def xj4{v y:Zv}{d:Dk}(F:Ax (zq D) v y (zq b) a)(hb:Jh w b k)(hd:Jt w D d)(m:¬d.cN D b)(G:k.aQ=(n:U))(u:n<=1000000000000)
  (t:H (∀a' w',Ax (zq D) v y (zq b) a'->zj (·=b) w w'->Jh w' b {k with aQ:=(Z7 d.L n:U)}->r eE a' w')):μ.wp prog r a w:=by
 obtain⟨x1,x2,x6,x7,x8,x9,P,A,h1,h2,hx,ho,cs,S,g',v',es,W,X,h3,w2,ba,bb,bc,bd,be,bf,bg,bh,bi,bj,bk,bl,bm,bn,bo,bp,bq,br,bs,rfl⟩:=F;conv=>arg 2;whnf
 go_wp2;go_loopw [39] (λ_ wr=>∃i:Q,i<=1000000000000/\Z7 d.L n=Z7 d.L i/\zj (·=b) w wr/\Jh wr b {k with aQ:=(i:U)}) (λ_ wr=>Su b wr)
 ·refine⟨n,u,O,zj.refl _ _,?_⟩;have e:({k with aQ:=(n:U)}:Lk)=k:=by rw[<-G]
  grind
 let⟨i,hi,he,hbt,hlk⟩:=hrel;have j:=he;have g:=hbt;have l:=hlk;have z:=hd.y hbt (λx p e=>m Á);have C:N wr (K b 12)=J i:=hlk.i 12 O;have ih:=hlk.dS 12;by_cases s:i<9999
 ·have I:(i:U)<9999:=À;go_wp2;apply(Ei D d _ _ z).mono;rintro e w1⟨rfl,rfl⟩;let⟨x,p⟩:=JP<|jp d.L ((i:U)+1);rw[p];have c:=p;by_cases f:x=[]
  ·have q:=j.trans (Mm λh=>h.2<|(c).trans f);have o:=xl [];subst f;go_wp2;apply t.o _ _ ⟨_,_,_,_,_,_,_,_,_,_,_,_,_,_,_,_,_,_,_,_,_,_,_,_,_,_,_,_,_,_,_,_,_,_,_,_,_,_,_,_,O⟩ g;rw[q];exact l
  have q:=j.trans<|IG s λh=>f<|c.symm.trans h;have o:(st x).toList.isEmpty=ao:=by rw[xl];simpa using f
  go_wp2;have B:=Jh.aQ l<|(i:U)+1;have BS:=g.aE<|zj.H w1 (K b 12)<|J<|(i:U)+1;go_roundw;grind;rw[ϖ B,ϖ hlk];grind
 have I:¬(i:U)<9999:=À
 go_wp2;apply t.o _ _ ⟨_,_,_,_,_,_,_,_,_,_,_,_,_,_,_,_,_,_,_,_,_,_,_,_,_,_,_,_,_,_,_,_,_,_,_,_,_,_,_,_,O⟩ g;rw[(j.trans<|Mm λh=>s h.1)];exact l
def Sy(l:Zl):qi (l.take 4)<4294967296:=by
 have h:=AS<|l.take 4;have:T (l.take 4)<=4:=ù
 have:256^T (l.take 4)<=256^4:=J7 Ã this;omega
theorem ώ{F}(a:jp F 0≠[])(h:¬vL k.m k.tc (jp F 0)):Xc k F=R:=by grind [Xc]
def Ϗ{F}(a:jp F 0≠[])(h:vL k.m k.tc<|jp F 0):Xc k F=(Y6 (Ym<|jp F 0) F<|Ji k.m (Ym<|jp F 0).ep).map λL=>(k.gZ (Ym<|jp F 0) k.mp,L):=by grind [Xc]
theorem ϔ{F}(a:jp F 0=[]):Xc k F=Y (k,[]):=by grind [Xc]
def xov{u:Zv}{r3 lo:Q}{d:Dk}(ha:Ax (zq D) (zq r3) u (zq b) a)(hb:Jh w b k)(hs:Je w k.mp [])(hd:Jt w D d)(h2:¬d.cN D b)(G:2<b)
  (r:xh w r3 #[E k.m,J k.tc,E k.bQ,J k.op] 91)(hG:ip tv w)(hT:iN w)(hm:T k.m=32)(hl:T (jp d.L 0)<=1000000)(hx:lo<=k.mp)(ba:lo<=V (Z w))(I:k.bM=0)
  (hN:H (∀a' w' k1 L1,Ax (zq D) (zq r3) u (zq b) a'->zj (·=b) w w'->Xc {k with mp:=k1.mp} d.L=Y (k1,L1)->Jh w' b k1->Je w' k1.mp L1->lo<=k1.mp->(∃n:Q,k1.bM=(n:U)/\n<=4294967296)->q eE a' w'))
  (hX:H (∀a' w',a'.defers=[]->(∀mp,Xc {k with mp:=mp} d.L=R)->zj (·=b) w w'->q (pQ [{v:=tv,recovered:=ao}]) a' w')):ι.wp prog q a w:=by
 obtain⟨x1,x2,x6,x7,x8,x9,bd,be,bf,bg,bh,bi,bj,bk,bl,bm,bn,bo,bp,bq,br,bs,bt,bu,bv,bw,bx,bz,b0,b1,b2,b3,b4,b5,b6,b7,b8,b9,ca,cb,rfl⟩:=ha;have X:=hb;have A:=hG;have HT:=hT;have h1:=hm;have c0:N w (K r3 0)=E k.m:=r.i 0 O;have c1:N w (K r3 1)=J k.tc:=r.i 1 O;have c2:N w (K r3 2)=E k.bQ:=r.i 2 O;have c3:N w (K r3 3)=J k.op:=r.i 3 O;let⟨x,S⟩:=JP<|jp d.L 0;have g:=S;have CB:aG 76 #[zq D,J 0] w (E x):=by have:=Ei D d 0 w hd;rw[S]at this;exact this
 rw[S]at hl;have F:1<V (Z w):=by have:=hT.iE;omega
 conv=>arg 2;whnf
 go_wp2;apply CB.mono;rintro e w1⟨rfl,rfl⟩;by_cases l:x=[]
 ·have i:=g.trans l;have ho:=xl [];subst l;go_wp2;refine hN.o _ _ k [] ⟨_,_,_,_,_,_,_,_,_,_,_,_,_,_,_,_,_,_,_,_,_,_,_,_,_,_,_,_,_,_,_,_,_,_,_,_,_,_,_,_,O⟩ (zj.refl _ _) (ϔ i) X hs hx ⟨0,I,À⟩
 have i:jp d.L 0≠[]:=λh=>l<|g.symm.trans h;have ho:(st x).toList.isEmpty=ao:=by rw[xl];simpa using l
 go_wp2;apply(zti k.m _ k.tc k.op x h1 hl _ F HT A).mono;rintro e W⟨f,⟨rfl,wr⟩|⟨rfl,bc⟩⟩
 ·have B:vL k.m k.tc<|jp d.L 0:=by show vL _ _ _;rw[g];exact wr
  have m:=f;have D2:=hd.y f λ_ _=>id;let⟨c,j⟩:=JP<|Ym x;have z:H<|Ym (jp d.L 0)=c:=by show _=_;rw[g];exact j
  have cs:c.gT<=100000000000:=by have:=Sy<|yL x;rw[<-j];show qi _<=_;omega
  have y:c.bM<=4294967296:=by have:=Sy<|yK x;rw[<-j];show qi _<=_;omega
  rw[j];let⟨P,p⟩:=JP c.V;have t:aK prog 134 #[zq b,P,zq D] W<|Ao tv b k c (Y6 c d.L<|Ji k.m c.ep) W:=by have:=xmz b k c D d h1 cs W (xh.y X f id) D2 h2 G (A.y f id)<|HT.y f id;rw[p]at this;exact this
  rw[p];go_wp2;apply t.mono;rintro e w3⟨o,s⟩;have C:∀mp,Xc {k with mp:=mp} d.L=(Y6 c d.L<|Ji k.m c.ep).map λL=>(k.gZ c mp,L):=λmp=>by have:=Ϗ (k:={k with mp:=mp}) i B;rw[z.o]at this;exact this
  cases hq:Y6 c d.L (Ji k.m c.ep)with
  |none=>rw[hq]at s;subst s;exact hX.o _ _ O (λmp=>Á)<|(m.U λ_ x=>x.elim).aE o
  |some L1=>rw[hq]at s;obtain⟨rfl,mp,bb,g',v'⟩:=s;have HF:H<|∀a',Ax (zq D) (zq r3) u (zq b) a'->q eE a' w3:=λa' h=>hN.o a' w3 _ L1 h ((m.U λ_ x=>x.elim).aE o) (by have:=C mp;rw[hq]at this;exact this) v' g' (by have:=m.aD;show lo<=mp;omega) ⟨c.bM,O,y⟩;go_wp2;exact HF.o _ ⟨_,_,_,_,_,_,_,_,_,_,_,_,_,_,_,_,_,_,_,_,_,_,_,_,_,_,_,_,_,_,_,_,_,_,_,_,_,_,_,_,O⟩
 refine hX.o _ _ O (λmp=>ώ i ?_)<|f.U λ_ x=>x.elim;grind
end
end P
namespace A
variable{a:mh}{l:bE ez}{i j t n:Q}{v:Zv}
open Tryq Go Go.Conc Go.RowKit
section
variable[pn:Pn]
section
variable{P:cI}{F:bE kL}{D:fZ}{w y:dN}{z:Exit->mh->dN->Prop}{x:FuncId}{S:bE eX}
theorem sp(h:i∈aY gH S l):∃o,S[i]?=Y o/\l[i]?=Y ao/\∀e∈o.after,fY gH e=M->l[e.on]?=Y M:=by let⟨m,q⟩:=Ja.1 h;simp only[jy,Bool.not_eq_true']at q;let⟨u,p⟩:=q;cases s:S[i]?with|none=>grind|some o=>rw[s]at p;refine⟨o,O,?_,λe c b=>?_⟩;rw[Jj]at u;grind;have a:=jn.1 p e c;rw[b]at a;rw[Jj]at a;grind
def Nb(S:bE eX):ez:=(iC (V S)).all λi=>match S[i]?with
 |some o=>o.after.all λe=>bR (e.on<i)|none=>M
def δ(q:Nb S=M)(g:V l=V S)(h:aY gH S l=[]):∀i,i<V S->l[i]?=Y M:=by
 intro i;induction i using Nat.strongRecOn with
 |_ i I=>
  intro a;have d:=xy a;cases p:l[i]with
  |true=>grind
  |false=>
   exfalso;have:i∈aY gH S l:=by
    refine Ja.2 ⟨List.mem_range.2 a,?_⟩;rw[d];simp only[jy,Bool.not_eq_true',Xl,qt];refine⟨É,jn.2 λe f=>?_⟩;have b:e.on<i:=by have c:=GM.1 q i<|List.mem_range.2 a;rw[d]at c;exact Xt<|jn.1 c e f
    rw[Jj,I _ b À];simp
   grind
def BG(l:bA ez):Q:=T (l.filter (! ·))
def zyd:∀{l:bA ez} {i:Q},l[i]?=Y ao->BG (l.set i M)+1=BG l
 |[],i,h=>È
 |b::l,0,h=>by
  cases h;simp[BG]
 |b::l,i+1,h=>by have:=zyd (l:=l) h;grind [BG]
def zyc:∀{l:bA ez} {i:Q},BG l=0->l[i]?≠Y ao
 |[],i,h,e=>Æ
 |b::l,0,h,e=>by grind [BG]|b::l,i+1,h,e=>by refine zyc (l:=l) ?_ e;grind [BG]
def Yp.Cl(W:Yk P F){id}(s:¬Mc P x)(t:P.follows nf=M)(c:Nb S=M)(u:bE ez->mh->Zy->Prop)(r:u (cL (V S) ao) a w)
  (b:∀l a w,u l a w->(∀i,i<V S->l[i]?=Y M)->z eE a w)
  (d:∀l a w i o,u l a w->V l=V S->S[i]?=Y o->l[i]?=Y ao->(∀e∈o.after,fY gH e=M->l[e.on]?=Y M)->oX P x S z i (u<|aA l i M) a w):Yp P x (fG id S M) z a w:=by
 have n:∀(m:Q) (l:bE ez) (a:mh) (w:Zy),V l=V S->BG (eV l)=m->u l a w->MH P x gH S z m l a w:=by
  intro m;induction m with
  |zero=>
   intro l a w h p f;have g:aY gH S l=[]:=by refine List.eq_nil_iff_forall_not_mem.2 λi k=>?_;let⟨o,_,L,_⟩:=sp k;exact zyc p<|by simpa using L
   exact⟨g,b l a w f<|δ c h g⟩
  |succ m I=>
   intro l a w h p f;refine⟨λg=>b l a w f<|δ c h g,λi k=>?_⟩;let⟨o,B,L,C⟩:=sp k;refine(d l a w i o f h B L C).U λq v j=>I _ q v Á ?_ j;have:=zyd (l:=eV l)<|by simpa using L
   grind
 refine Yp.IR W s t<|n _ _ a w Â ?_ r;simp[BG]
def Gm(h:(aA l i M)[j]?=Y M):j=i\/l[j]?=Y M:=Á
end
section
variable{P:cI}{F:bE kL}{S:fZ}{w L:dN}
def RX.zB(X:Yk P F)(s:oi P S){f fnc u B cs W}(hk:f.kind=dH)(G:¬Mc P f.fn)(h2:∃fn,P.funcs[f.fn]?=Y fn)(x:(wf P F).funcs[f.fn]?=Y fnc)(w':f.mode=u)
  (z:∀e w t d,W e (A.re w t d)->W e w)(y:∀L,¬W jQ L)(h1:∀t d,Leaves (wf P F) fnc f.tmps W f.defers u<|A.re w t d):
  RX P (Xh f (B::cs)) w (λg' L=>∃e,W e L/\Re B cs e g'):=by
 refine(RX.tU X s
  (End:=λg' L=>∃e g q n,W e (A.re L q n)/\e≠ jQ/\g'=Xh g [S]/\g.fn=f.fn/\g.leaving (wf P F) (A.re L q n) e) (λg' L t d=>Iff.rfl) ?_ G hk ?_).aE ?_
 rintro g' L⟨e,g,q,n,_,h,rfl,_,m⟩ ⟨_,hd⟩;cases e with
 |outgrown=>grind
 |returned v=>
  let⟨a,b,_⟩:=m;obtain⟨j,_⟩|⟨_,j,_⟩:=hd;have k:g.mode= .run:=j;grind;have k:g.defers=[_]:=j;grind
 |panicked c=>let⟨a,b,_⟩:=m;obtain⟨j,_⟩|⟨_,j,_⟩:=hd;have k:g.mode= .run:=j;grind;have k:g.defers=[_]:=j;grind
 intro t d;let⟨e,L,g,i,hc,o,m⟩:=leaves_steps f.defers u _ f [S] w' O O x hk<|h1 t d;have h:e≠ jQ:=by rintro rfl;exact y _ i
 refine⟨g,[S],L,?_,e,g,L.tape,L.drawn,i,h,O,o,m⟩;cases e with
 |outgrown=>grind|returned v=>exact hc
 |panicked c=>exact hc
 rintro C L⟨g',l,⟨e,g,q,n,i,h,rfl,o,m⟩,r,rfl⟩;have:l=[]:=by have D:[S]=l++[S]:=r;have:=gv T D;simp only[zx,Zr]at this;exact jv À
 subst this;have i:=z _ _ _ _ i;have p:DW P F g L e:=⟨h,q,n,m⟩;cases e with
 |outgrown=>grind
 |returned v=>
  apply(RX.zU X Á p).aE;rintro C I⟨t,d,rfl,rfl⟩;exact(RX.refl ⟨_,i,O⟩).rH
 |panicked ch=>apply(RX.iM p Á).aE;rintro C I⟨rfl,rfl⟩;exact .refl ⟨_,i,O⟩
end
section
variable{w w':dN}{p P:Prop}
def M4{f A y F}(g:sD f=ao)(i:f≠220)(a:Tryz.prog.funcs[f]?=Y F)(hw:Sj F=M)(c:∀e w t d,y e (re w t d)->y e w)(b:∀w',¬y jQ w')
  (h:∀t d,aK prog f A (re w t d) y):CC az f A w y:=CC.qL bX sY (gy g a hw) (Av g i a) ⟨_,a⟩ c b h
def At(a:mh)(t:Q)(v:Zv):Prop:=a.tmps[t]?=Y v
def At.ev(h:At a t v):a.eval (cP t)=v:=by unfold At at h;simp[jV,h]
theorem At.put{s}(h:At a t v)(b:t≠s)(u):At (a.put (Y s) u) t v:=by grind [At,ge]
theorem At.ex(b:V a.tmps=n)(h:t<n):At (a.put (Y t) v) t v:=by grind [At,ge]
def ET{s u}(h:V a.tmps=n):V (a.put (Y s) u).tmps=n:=by simpa[ge]using h
def Li(l:bE ez)(j:Q)(p:Prop):Prop:=l[j]?=Y M->p
theorem Li.lz:Li (cL n ao) j p:=λh=>Á
theorem Li.eG(h:Li l j p)(a:j≠i)(k:p->P):Li (aA l i M) j P:=λb=>k<|h<|(Gm b).resolve_left a
theorem Li.lT(k:p):Li l i p:=λ_=>k
end
end
end A
namespace P
variable{w w' e w0:Zy}{b n i s j r3 mp B:Q}{cs:Za}{t:Q->Question->Q}{ty:Zt}{d:TypeDesc}{l:bE ez}{a:mh}{v tv v2 cv:Zv}{L y L1:KV}{k D:Lk}{tc op:Int}{r r':Sr}
open A.Tryq Go.RowKit A
section
variable[pn:A.Pn]
def JH(cs:Za):Q->Ze->Za
 |_,[]=>cs|o,v::z=>JH (aA cs o v) (o+1) z
theorem ψ:∀(z:Ze) (cs:Za) (o j:Q),o+T z<=V cs->(JH cs o z)[j]?=if o<=j/\j<o+T z then z[j-o]?else cs[j]?
 |[],cs,o,j,h=>by rw[aL Â];rfl
 |v::z,cs,o,j,h=>by simp only[xg]at h;rw[JH,ψ z _ (o+1) j Á];simp only[xg];by_cases a:o+1<=j/\j<o+1+T z;grind;rw[aL a];grind
theorem xk0(cs C)(h:V cs=V C):JH cs 0 (eV C)=C:=by apply Vn;grind [ψ]
def xh.iY{t:Zt}{b}:∀(z:Ze) {cs:Za} {w:Zy} (o:Q),xh w b cs t->xh (eW w b o z) b (JH cs o z) t
 |[],cs,w,o,h=>h|v::z,cs,w,o,h=>by have a:=xh.iY z (o+1)<|h.H o v;exact a
def zj.iY{b}:∀(z:Ze) (w:Zy) (o:Q),zj (·=b) w (eW w b o z)
 |[],w,o=>zj.refl _ _|v::z,w,o=>(zj.H w (K b o) v).aE<|zj.iY z _<|o+1
theorem xh.EU{t:Zt}(h:xh w b cs t)(a:prog.underlying ty=Y d)(z:d.isRow=M)(c:(prog.info? ty).map (·.size)=Y (V cs)):(loadVar ty<|K b 0).run prog w=dG (bY cs) w:=by have:=run_loadVar_mid w b 0 ty (eV cs) d (λj v e=>by rw[j7];exact h.i j Á) a z À;omega
def xh.Dr{cs'}{t:Zt}(h:xh w b cs t)(k:V cs=V cs')(g:(prog.info? ty).map (·.size)=Y (V cs'))(f:cs'.all (·.oneCell')=M):
  ∃w',(storeVar ty (K b 0)<|bY cs').run prog w=dG () w'/\xh w' b cs' t/\zj (·=b) w w'/\∀t d,(storeVar ty (K b 0)<|bY cs').run prog (re w t d)=dG () (re w' t d):=by
 have c:∀w,xh w b cs t->(storeVar ty (K b 0)<|bY cs').run prog w=dG () _:=λw h=>run_storeVar_mid w b 0 ty cs' (λj i=>by rw[j7];refine⟨?_,h.dS j⟩;rw[h.i j<|xy À];rfl) g f;have e:∀(a:Ze) (w:Zy) (o:Q) (t:Q->Question->Q) (d:Q),eW (re w t d) b o a=re (eW w b o a) t d:=by intro a;induction a with|nil=>intro w o t d;rfl|cons v a I=>intro w o t d;show(ay (re w t d) (K b o) v).setCells b (o+1) a=re (eW (ay w (K b o) v) b (o+1) a) t d;rw[<-I];congr 1
 refine⟨_,c w h,?_,zj.iY _ _ _,λt d=>?_⟩;have:=xh.iY (eV cs') 0 h;grind [xk0];rw[c (re w t d) h,e]
end
section
variable[pn:A.Pn]
attribute[local go_sem] zn zg
noncomputable def vY:bE eX:=match yc with
 | gU _ (gU (fG _ o _) _)=>o|_=>#[]
theorem ϓ:V vY=8:=Ä
def Dq:Tryz.prog.follows nf=M:=Ä
def jcg:Nb vY=M:=Ä
def pZ(m z:Zl)(tc op:U):Za:=#[ak<|st m,aD bB tc,ak<|st z,aD bB op]
def ύ{z o}{x}{t:Zt}(ho:o.op= .load ty x)(hx:z x=zq b)(h:xh w b cs t)(c:prog.underlying ty=Y d)(q:d.isRow=M)(a:(prog.info? ty).map (·.size)=Y (V cs)):
  (aR z o).run prog w=dG (gp<|bY cs) w:=by
 unfold aR;simp[ho,hx,Instr.loadAt,Instr.sureAddr,zc9,zda,Result.andThen_ok,h.EU c q a]
def ό{z o}{x y C}(ho:o.op= .store ty x y)(hx:z x=zq b)(hy:z y=bY C)(h:(storeVar ty (K b 0)<|bY C).run prog w=dG () w'):
  (aR z o).run prog w=dG .skip w':=by
 unfold aR;simp[ho,hx,hy,Instr.storeAt,Instr.sureAddr,zc9,zda,Result.andThen_ok,h]
def φ:∃d,prog.underlying 91=Y d/\d.isRow=M:=⟨_,(eZ 91).trans Tryz.underlying91,O⟩
def η:(prog.info? 147).map (·.size)=Y 17:=Ä
def ε:(prog.info? 91).map (·.size)=Y 4:=Ä
def Tb(z:bA<|Nat×Q×Zv)(l:bE ez)(a:mh):Prop:=∀x∈z,Li l x.1<|At a x.2.1 x.2.2
theorem Tb.put{z}(h:Tb z l a)(f:V a.tmps=n)(d:s<n)(c:∀x∈z,(x.2.1≠s/\x.1≠i)\/x=(i,s,v)):Tb z (aA l i M)<|a.put (Y s) v:=λx b=>(c x b).elim (λe=>(h x b).eG e.2 λy=>y.put e.1 _) λe=>by subst e;exact .lT<|.ex f d
def Tb.rK{z}(h:Tb z l a)(c:∀x∈z,x.1≠i):Tb z (aA l i M) a:=λx b=>(h x b).eG (c x b) id
theorem Tb.lz{z}:Tb z (cL n ao) a:=λ_ _=> .lz
structure wZ(w:Zy)(x:Zv)(r3:Q)(q:Zv)(m z:Zl)(tc op:U)(mp b:Q)(l:bE ez)(a:mh)(w':Zy):Prop where
 df:a.defers=[]
 sz:V a.tmps=44
 nw:Nw w w'
 s0:At a 0 x
 s3:At a 3<|zq r3
 s4:At a 4 q
 T:Tb [(0,7,bY<|pZ m z tc op),(2,9,bY<|pZ m z tc op),(3,10,bY #[E<|Ji m 0,E<|Y7 m 0]),(4,11,E Yn)] l a
 l1:Li l 1<|At a 8 (fu<|some mp)/\V (Z w)<=mp/\Je w' mp []
 l5:Li l 5<|l[1]?=Y M/\At a 12 (bY<|(ld m z tc op mp).G (Ji m 0)<|Y7 m 0)
 l6:Li l 6<|At a 5 (zq b)/\V (Z w)<=b/\(l[7]?=Y ao->xh w' b xm 147)
 l7:Li l 7<|(l[1]?=Y M/\l[6]?=Y M)/\Jh w' b (ld m z tc op mp)
def JI(h:(aA l i M)[j]?=Y ao)(a:i≠j):l[j]?=Y ao:=Á
def Wp(h:l[j]?=Y M):(aA l i M)[j]?=Y M:=Á
def xh.nw{t:Zt}(h:xh w b cs t)(k:Nw w w'):xh w' b cs t:=h.y k id
def Je.nw(h:Je w b L)(k:Nw w w'):Je w' b L:=h.y k id
def Jh.nw(h:Jh w b k)(a:Nw w w'):Jh w' b k:=xh.y h a id
def Nw.E(w o):Nw w<|aF w o:=zj.E _
theorem Nw.lQ(h:Nw w w')(t d):Nw w<|re w' t d:=⟨h.os,h.cX,h.aD,h.dP⟩
def Nw.J{d}(h:aP (V (A.re w t d).heap) (A.re w t d) w'):Nw w w':=⟨h.os,h.output,h.size,λk hk _=>h.block k hk⟩
def iN.nw(h:iN w)(k:Nw w w'):iN w':=h.y k id
def ip.nw(h:ip tv w)(k:Nw w w'):ip tv w':=h.y k id
section
variable{w:dN}{v0 S:eJ}{m mark:bA UInt8}{w1:dN}{X:Exit->mh->dN->Prop}
def Dp(w:Zy)(v0:Zv)(r3:Q)(S:Zv)(m mark:Zl)(tc op:U)(l:bE ez)(a:mh)(w1:Zy)(X:Exit->mh->Zy->Prop)(i:Q):Prop:=∀o:eX,V l=V vY->vY[i]?=Y o->l[i]?=Y ao->(∀e∈o.after,fY gH e=M->l[e.on]?=Y M)->oX az 81 vY X i (λa w1=>∃mp b,wZ w v0 r3 S m mark tc op mp b (aA l i M) a w1) a w1
def wZ.go(z:wZ w v0 r3 S m mark tc op mp b l a w1)(d:Nw w1 e)(f:i=0\/i=2\/i=3\/i=4)(g:s=i+7)(c:∀x∈[(0,7,bY<|pZ m mark tc op),(2,9,bY<|pZ m mark tc op),(3,10,bY #[E<|Ji m 0,E<|Y7 m 0]),(4,11,E Yn)],(x.2.1≠s/\x.1≠i)\/x=(i,s,v)):∃mp b,wZ w v0 r3 S m mark tc op mp b (aA l i M) (a.put (Y s) v) e:=
 ⟨mp,b,z.df,ET z.sz,z.nw.aE d,z.s0.put À _,z.s3.put À _,z.s4.put À _,z.T.put z.sz À c,z.l1.eG À λx=>⟨x.1.put À _,x.2.1,x.2.2.nw d⟩,z.l5.eG À λx=>⟨Wp x.1,x.2.put À _⟩,z.l6.eG À λx=>⟨x.1.put À _,x.2.1,λh=>(x.2.2<|JI h À).nw d⟩,z.l7.eG À λx=>⟨⟨Wp x.1.1,Wp x.1.2⟩,Jh.nw x.2 d⟩⟩
def jcy(g:xh w r3 (pZ m mark tc op) 91)(z:wZ w v0 r3 S m mark tc op mp b l a w1):Dp w v0 r3 S m mark tc op l a w1 X 0:=λo k c j x=>zdn
def jc0(g:xh w r3 (pZ m mark tc op) 91)(z:wZ w v0 r3 S m mark tc op mp b l a w1):Dp w v0 r3 S m mark tc op l a w1 X 2:=λo k c j x=>zdn
def jcz(z:wZ w v0 r3 S m mark tc op mp b l a w1):Dp w v0 r3 S m mark tc op l a w1 X 1:=λo j c i q=>by
 have d:=c;simp[vY,yc,jD,Qf]at c;subst c;have f:¬l[5]?=Y M:=λh=>by have:=(z.l5 h).1;grind
 have g:¬l[7]?=Y M:=λh=>by have:=(z.l7 h).1.1;grind
 refine oX.eO bX sq d O (λt e=>⟨t,e,?_⟩) ⟨V<|Z w1,b,⟨z.df,ET z.sz,z.nw.aE<|Nw.E _ _,(z.s0.put Ã _),(z.s3.put Ã _),(z.s4.put Ã _),z.T.put z.sz Ã Â,.lT ⟨.ex z.sz Ã,z.nw.aD,#[],0,xn _ _,O,MapKept.stamped_empty 0⟩,λh=>dC ((Gm h).resolve_left Ã) f,z.l6.eG Ã λx=>⟨(x.1.put Ã _),x.2.1,λh=>(x.2.2<|JI h Ã).nw<|Nw.E _ _⟩,λh=>dC ((Gm h).resolve_left Ã) g⟩⟩;rfl
def jc1(k:T m=32)(j:iN w)(z:wZ w v0 r3 S m mark tc op mp b l a w1):Dp w v0 r3 S m mark tc op l a w1 X 3:=λo q c p x=>by
 have f:=c;simp[vY,yc,jD,Qf]at c;subst c;have i:a.tmps[9]?=Y _:=z.T (2,9,bY<|pZ m mark tc op) Â<|x ⟨2,fw⟩ Â O;refine oX.lP (aw:=λe g=>e=ai _/\Nw w1 g) bX sq z.df f O (args:=#[bY<|pZ m mark tc op,J 0]) (λv=>?_) (gy O Tryz.func90 O) (M4 O Ã Tryz.func90 O (λe w t d h=>⟨h.1,h.2.re⟩) (λg h=>by cases h.1) λt d=>(FV m mark tc op 0 k _<|j.nw<|z.nw.lQ t d).mono λe g h=>⟨h.1,Nw.J h.2⟩) ?_ ?_
 ·show(aR a.eval _).run prog v=_;simp[aR,go_sem,o8,i]
 rintro v r⟨e,n⟩;cases e;exact z.go n Â O Â
 grind
def jc2(z:wZ w v0 r3 S m mark tc op mp b l a w1):Dp w v0 r3 S m mark tc op l a w1 X 4:=λo k c j x=>by
 have f:=c;simp[vY,yc,jD,Qf]at c;subst c;refine oX.lP (aw:=λe g=>e=ai _/\Nw w1 g) bX sq z.df f O (λv=>?_) (gy O Tryz.func73 O) (M4 O Ã Tryz.func73 O (λe w t d h=>⟨h.1,h.2.re⟩) (λg h=>by cases h.1) λt d=>(þ _).mono λe g h=>⟨h.1,Nw.J h.2⟩) ?_ ?_
 ·show(aR a.eval _).run prog v=_;simp[aR,go_sem,o8]
 rintro v n⟨e,i⟩;cases e;exact z.go i Â O Â
 grind
def jc3(z:wZ w v0 r3 S m mark tc op mp b l a w1):Dp w v0 r3 S m mark tc op l a w1 X 5:=λo n e k q=>by have f:=e;simp[vY,yc,jD,Qf]at e;subst e;have i:=q ⟨1,fw⟩ Â O;have j:a.tmps[7]?=Y _:=z.T (0,7,bY<|pZ m mark tc op) Â<|q ⟨0,fw⟩ Â O;have e8:a.tmps[8]?=Y _:=(z.l1 i).1;have c:a.tmps[10]?=Y _:=z.T (3,10,bY #[E<|Ji m 0,E<|Y7 m 0]) Â<|q ⟨3,fw⟩ Â O;have d:a.tmps[11]?=Y _:=z.T (4,11,E Yn) Â<|q ⟨4,fw⟩ Â O;refine oX.eO bX sq f O (λt g=>⟨t,g,?_⟩) ⟨mp,b,⟨z.df,ET z.sz,z.nw,(z.s0.put Ã _),(z.s3.put Ã _),(z.s4.put Ã _),z.T.put z.sz Ã Â,z.l1.eG Ã λx=>⟨(x.1.put Ã _),x.2.1,x.2.2⟩,.lT ⟨Wp i,.ex z.sz Ã⟩,z.l6.eG Ã λx=>⟨(x.1.put Ã _),x.2.1,λh=>x.2.2<|JI h Ã⟩,z.l7.eG Ã λx=>⟨⟨Wp x.1.1,Wp x.1.2⟩,x.2⟩⟩⟩;show(aR a.eval _).run prog (re w1 t g)=_;simp[aR,go_sem,j,e8,c,d,pZ];rfl
def jc4(z:wZ w v0 r3 S m mark tc op mp b l a w1):Dp w v0 r3 S m mark tc op l a w1 X 6:=λo i c g q=>by
 have d:=c;simp[vY,yc,jD,Qf]at c;subst c;have f:¬l[7]?=Y M:=λh=>by have:=(z.l7 h).1.2;grind
 refine oX.eO bX sq d O (λt e=>⟨t,e,?_⟩) ⟨mp,V<|Z w1,⟨z.df,ET z.sz,z.nw.aE<|Nw.E _ _,(z.s0.put Ã _),(z.s3.put Ã _),(z.s4.put Ã _),z.T.put z.sz Ã Â,z.l1.eG Ã λx=>⟨(x.1.put Ã _),x.2.1,x.2.2.nw<|Nw.E _ _⟩,z.l5.eG Ã λx=>⟨Wp x.1,(x.2.put Ã _)⟩,.lT ⟨.ex z.sz Ã,z.nw.aD,λ_=>xh.ex _ _ _⟩,λh=>dC ((Gm h).resolve_left Ã) f⟩⟩;show(aR a.eval _).run prog (re w1 t e)=_;exact zb4
def jc5(u:wZ w v0 r3 S m mark tc op mp b l a w1):Dp w v0 r3 S m mark tc op l a w1 X 7:=λo L k F hd=>by
 have n:=k;simp[vY,yc,jD,Qf]at k;subst k;have B:=(u.l5<|hd ⟨5,fw⟩ Â O).1;have s:=hd ⟨6,fw⟩ Â O;have g:=(u.l5<|hd ⟨5,fw⟩ Â O).2.ev;obtain⟨z,G,f⟩:=u.l6 s;have C:=z.ev;have y:=f F;obtain⟨W,A,P,d,p⟩:=y.Dr (cs':=(ld m mark tc op mp).G _ _) (ty:=147) O η (by simp[Lk.G,Value.oneCell']);have j:∀{mp},Je w1 mp []->¬mp=b:=λh e=>by obtain⟨I,c,D⟩:=h.bT;exact y.gV D e.symm
 have q:Nw w W:=⟨d.os.trans u.nw.os,d.cX.trans u.nw.cX,xa u.nw.aD d.aD,λi v _=>(d.dP i (zm v u.nw.aD) À).trans<|u.nw.dP i v id⟩;refine oX.rK bX sq n O (λt r=>⟨t,r,ό O C g<|p t r⟩) ⟨mp,b,⟨u.df,u.sz,q,u.s0,u.s3,u.s4,u.T.rK Â,u.l1.eG Ã λx=>⟨x.1,x.2.1,x.2.2.y d<|j x.2.2⟩,u.l5.eG Ã λx=>⟨Wp x.1,x.2⟩,u.l6.eG Ã λx=>⟨x.1,x.2.1,λh=>dC h Á⟩,.lT ⟨⟨Wp B,Wp s⟩,P⟩⟩⟩
noncomputable def Sv:=Qa<|Qb yc
def xvy:Sv=fG 1 vY M:=Ä
def xtm(t:T m=32)(q:iN w)(k:xh w r3 (pZ m mark tc op) 91)(g:a.defers=[])(j:V a.tmps=44)(u:At a 0 v0)(W:At a 3<|zq r3)(C:At a 4 S)
  (p:∀A w' mp b,A.defers=[]->V A.tmps=44->At A 0 v0->At A 3 (zq r3)->At A 4 S->At A 5 (zq b)->Nw w w'->V (Z w)<=mp->V (Z w)<=b->Je w' mp []->Jh w' b (ld m mark tc op mp)->X eE A w'):Yp az 81 Sv X a w:=by
 rw[xvy];refine Yp.Cl bX sq Dq jcg (λl a w1=>∃mp b,wZ w v0 r3 S m mark tc op mp b l a w1) ⟨0,0,g,j,zj.refl _ _,u,W,C,.lz,.lz,.lz,.lz,.lz⟩ ?_ ?_;rintro l A w'⟨mp,b,z⟩ f;have c:∀i,i<8->l[i]?=Y M:=λi s=>f i (by grind [ϓ]);obtain⟨n,r,_⟩:=z.l6 (c 6 Ã);obtain⟨_,h,d⟩:=z.l1 (c 1 Ã);exact p A w' mp b z.df z.sz z.s0 z.s3 z.s4 n z.nw h r d (z.l7<|c 7 Ã).2;rintro l A w' i o⟨mp,b,z⟩ d e c x;have s:i<8:=by have:=(za.1 e).1;rwa[ϓ]at this
 have:i=0\/i=1\/i=2\/i=3\/i=4\/i=5\/i=6\/i=7:=À
 obtain rfl|rfl|rfl|rfl|rfl|rfl|rfl|rfl:=this;exact jcy k z o d e c x;exact jcz z o d e c x;exact jc0 k z o d e c x;exact jc1 t q z o d e c x;exact jc2 z o d e c x;exact jc3 z o d e c x;exact jc4 z o d e c x;exact jc5 z o d e c x
noncomputable def ξ:=Qa yc
def xtl{a}(f:H<|∀A w',A.defers=[]->V A.tmps=44->At A 0 v0->At A 3 (zq (V<|Z w))->At A 4 (zq<|V (Z w)+1)->Nw w w'->V (Z w')=V (Z w)+2->xh w' (V<|Z w) (pZ m mark tc op) 91->xh w' (V (Z w)+1) xm 147->a eE A w'):
  ξ.wp prog a ⟨#[v0,bY<|pZ m mark tc op]++cL (44-2) Z',[]⟩ w:=by
 have b:=(xh.ex w (pZ m mark tc op) 91).E<|au xm 147;have c:xh (aF (aF w<|au (pZ m mark tc op) 91)<|au xm 147) (V (Z w)+1) xm 147:=by have:=xh.ex (aF w<|au (pZ m mark tc op) 91) xm 147;rw[xp]at this;exact this
 have e:Nw w<|aF (aF w<|au (pZ m mark tc op) 91)<|au xm 147:=(Nw.E _ _).aE<|Nw.E _ _;have d:H<|V (aF (aF w<|au (pZ m mark tc op) 91)<|au xm 147).heap=V (Z w)+2:=by show _=_;simp
 simp only[jd,xg,qy,jY,lh,qu,qw,Xa,Zh,qj,qg];conv=>arg 2;whnf
 go_wp2;exact f.o _ _ O O O O O e d.o b c
end
end
section
variable[pn:A.Pn]
def xul{z a body x q C}(h:uB k L z q C a body x=Y (D,y)):D.tc=k.tc:=by unfold uB at h;split at h;cases h;split at h;split at h;rw[Io h];grind;split at h;split at h;rw[Io h];grind;grind
def χ:∀(n:Q) {k D:Lk} {L y:KV} {l r:Zl},t7 n k L l=Y (D,y,r)->D.tc=k.tc
 |0,k,D,L,y,l,r,h=>by grind [t7]
 |n+1,k,D,L,y,l,r,h=>by
  unfold t7 at h;by_cases a:J5 l=M;rw[aT a]at h;cases z:Jv k L l with|none=>grind|some p=>obtain⟨b,L1⟩:=p;rw[z]at h;exact(χ n h).trans<|xul z
  grind
def ϕ{z len W}(h:Vd k L z len W=Y (D,y)):D.tc=k.tc:=by grind [Vd]
def xu3{z x}(h:mX k L z x=Y (D,y)):D.tc=k.tc:=by unfold mX at h;split at h;split at h;cases h;split at h;rename_i p L1 r q;exact(ϕ h).trans<|χ _ q;grind;exact ϕ h
def ω{F n k L}:∀(r:Q) {D:Lk} {y:KV},ow F n k L r=Y (D,y)->D.tc=k.tc
 |0,D,y,h=>by grind [ow]|r+1,D,y,h=>by unfold ow at h;cases z:ow F n k L r with|none=>grind|some p=>obtain⟨a,L1⟩:=p;rw[z]at h;exact(xu3 h).trans<|ω r z
def xk2{b F}(h:Xc k F=Y (b,L1))(hk:k.ok):b.ok/\b.tc=k.tc:=by by_cases d:jp F 0=[];grind [ϔ];by_cases a:vL k.m k.tc<|jp F 0;rw[Ϗ d a]at h;obtain⟨L,_,c⟩:=zv.1 h;simp only[GV]at c;rw[<-c.1];refine⟨⟨hk.m,?_,?_,?_⟩,O⟩;show(Ym<|jp F 0).ep<=255;have:=a.S;omega;exact Sy _;show((xR<|jp F 0).take 32).length=32;have:=(Qy a.gT).j.1;grind;grind [ώ]
section
variable{z x:Lk}{F:Xv}{q:KV}
def xdm(b:Xc k F=Y (z,L1))(c:z.bM=(n:U))(a:ow (λi=>jp F (i:U)) (n+1) {z with aQ:=(Z7 F n:U)} L1 (Z7 F n-n)=Y (x,q))(d:rp x):Xr k F=Y (x,q):=by grind [Xr]
def xot(b:Xc k F=Y (z,L1))(c:z.bM=(n:U))(a:ow (λi=>jp F (i:U)) (n+1) {z with aQ:=(Z7 F n:U)} L1 (Z7 F n-n)=Y (x,q))(d:¬rp x):Xr k F=R:=by grind [Xr]
def xdl(b:Xc k F=Y (z,L1))(c:z.bM=(n:U))(a:ow (λi=>jp F (i:U)) (n+1) {z with aQ:=(Z7 F n:U)} L1 (Z7 F n-n)=R):Xr k F=R:=by grind [Xr]
end
def xdu:T Yn=32:=by simp[Yn]
def xxv:Tryz.f81.body=Y (gU ξ<|gU Sv<|gU ι<|gU κ<|gU μ<|gU ν υ):=Ä
def xvz:ν=fG 8 [⟨Y 40,.move<|cP 0,89,"look.go:52",#[],R⟩,⟨Y 41,.call ⟨.value<|.func 136,#[cP 5,cP 40],#[147,89]⟩,0,"look.go:52",#[⟨0,fw⟩],R⟩].toArray ao:=Ä
def qm(h:sT w w'):Nw w w':=by obtain⟨t,d,rfl⟩:=h;grind [Nw.lQ,zj.refl]
def Ϙ(h:sT w w'):V (Z w')=V (Z w):=by obtain⟨t,d,rfl⟩:=h;rfl
def zz9{X e d}:IH tv X w e (re w' t d)↔IH tv X w e w':=by constructor;rintro⟨h,c,a,b⟩;exact⟨zj.re h,c,a,b⟩;rintro⟨h,c,a,b⟩;exact⟨Nw.lQ h t d,c,a,b⟩
def xs6{z c d e}(b:a.defers=[])(f:V a.tmps=44)(l:At a 0 z)(m:At a 3 c)(n:At a 4 d)(o:At a 5 e):Ax z c d e a:=by
 obtain⟨x,g⟩:=a;cases b;have h:x=bH ((iC 44).map λ|0=>z|3=>c|4=>d|5=>e|i=>x[i]?.getD Z'):=by unfold At at*;refine Array.ext É λi j k=>?_;simp;split<;>simp_all
 rw[h];exact⟨_,_,_,_,_,_,_,_,_,_,_,_,_,_,_,_,_,_,_,_,_,_,_,_,_,_,_,_,_,_,_,_,_,_,_,_,_,_,_,_,O⟩
def zr1{D d m mark}(hd:Jt w D d)(dn:∀x,d.cN D x->2<x)(hG:ip tv w)(hT:iN w)(hm:T m=32)(h0:0<=tc)(hc:tc<=1000000000000)(be:∀i,T (jp d.L i)<=100000):
  CC az 81 #[zq D,bY<|pZ m mark tc op] w (IH tv (λmp=>Xr (ld m mark tc op mp) d.L) w):=by
 have hQ:rq<|sV az dA jD<|IH tv (λmp=>Xr (ld m mark tc op mp) d.L) w:=Dh λe w t d=>zz9;have dp:=hT.iE;have d1:∀x,d.cN D x->x<V (Z w):=λx A=>Dk.fg hd A;refine CC.kS bX sq (gy O Tryz.func81 O).1 Tryz.func81 xxv ?_;rw[show Tryz.f81.ntmps=44 from O];refine Yp.Aq bX sY sq hQ bD λw0 Po hE hN hX=>?_;have n0:=qm hE;have z0:=Ϙ hE;refine xtl (mark:=mark) (tc:=tc) (op:=op) (v0:=zq D) λa1 w1 bl sz1 cd s13 ce n1 z1 b3 b4=>hN.o _ _ ?_;have h2:=n0.aE n1;refine Yp.vU bX sq bD (xtm hm (hT.nw h2) b3 bl sz1 cd s13 ce λa2 w2 mp b bm cl cf cg ci cj n2 dz hb cb b6=>?_);have a:=h2.aE n2;have bx:=xs6 bm cl cf cg ci cj;refine Yp.Aq bX sY sq hQ bD λd3 dr r bp bu=>?_;have g:=a.aE<|qm r;have G:¬d.cN D b:=λh=>Á
 refine xov bx (Jh.nw b6<|qm r) (cb.nw<|qm r) (hd.y g λ_ _=>id) G À (b3.nw<|n2.aE<|qm r) (hG.nw g) (hT.nw g) hm Á (by have:=h2.aD;show _<=mp;omega) g.aD O (λa3 w3 j L1 bz o B bd bg z⟨n,hx,hn⟩=>bp.o _ _ ?_) λa3 w3 bn d0 o=>bu.o _ _ _ Â ⟨bn,?_⟩;have q:=xk2 B ⟨hm,Zz _,by show(0:Q)<_;omega,xdu⟩;have v':b≠j.mp:=λe=>by obtain⟨es,c,h1⟩:=bg.bT;exact xh.gV bd h1 e
 have dx:2<b:=by have:=h2.aD;omega
 have dm:2<j.mp:=À
 refine Yp.Aq bX sY sq hQ bD λd4 ds ho bq dv=>?_;refine xtn bz (Jh.nw bd<|qm ho) λa4 w4 b0 ba b7=>bq.o _ _ ?_;refine Yp.Aq bX sY sq hQ bD λd5 dt wr br dw=>?_;have X:=((((qm r).U λ_ x=>x.elim).aE o).aE<|((qm ho).U λ_ x=>x.elim).aE ba).aE<|(qm wr).U λ_ x=>x.elim;have bv:=(hd.y a λ_ _=>id).y X λx A e=>G Á;refine xj4 (n:=n) b0 (Jh.nw b7<|qm wr) bv G hx À λC w5 bb h3 b8=>br.o _ _ ?_;have l:=X.aE h3;have W:=((((qm ho).U λ_ x=>x.elim).aE ba).aE<|(qm wr).U λ_ x=>x.elim).aE h3;have bw:=(hd.y a λ_ _=>id).y l λx A e=>G Á;have ih:=(hG.nw a).y l À;have bt:=(hT.nw a).y l À;have bh:=bg.y W λe=>v' e.symm;have z5:=(b4.nw n2).y l À;have dy:=IF d.L n;have ca:∀x,Xc (ld m mark tc op j.mp) d.L=x->x=Y (j,L1):=λx h=>h.symm.trans B;rw[xvz];refine Yp.vU bX sq bD (Yp.ig bX sq ?_);obtain⟨hs,g',ck,S⟩:C.defers=[]/\V C.tmps=44/\At C 0 (zq D)/\At C 5 (zq b):=by obtain⟨x1,x2,x6,x7,x8,x9,cn,co,cq,cr,cs,ct,cu,cv,cw,cx,cy,cz,c0,c1,c2,c3,c4,c5,c6,c7,c8,c9,da,db,dc,dd,de,df,dg,dh,di,dj,dk,dl,rfl⟩:=bb;exact⟨O,O,O,O⟩
 refine Vh.eO (val:=zq D) (w':=w5) bX sq O (λt d'=>⟨t,d',?_⟩) ?_
 ·show(aR C.eval _).run prog _=_;have bo:C.tmps[0]?=Y _:=ck;simp[aR,go_sem,bo]
 have d2:At (C.put (Y 40)<|zq D) 5<|zq b:=S.put Ã _;have dq:At (C.put (Y 40)<|zq D) 40<|zq D:= .ex g' Ã;have bc:({j with aQ:=(Z7 d.L n:U)}:Lk).ok:=⟨q.1.m,q.1.ep,q.1.bF,q.1.dX⟩;have hr:=xd7 (n:=n+1) (cp:=Z7 d.L n-n) bc b8 bh bt ih bw À À (show j.mp≠1 by omega) (show j.mp≠2 by omega) v'
  (λx A h=>Á)
  Á Á À À be
 refine Vh.uh (f:=136) (args:=#[zq b,zq D]) hs O (λv=>?_) (λv=>?_) MU hr ?_ ?_
 ·simp[aR,go_sem,o8,g'];exact(za.1 S).2
 ·have e5:C.tmps[5]?=Y _:=S;refine Conc.listed_nil ?_;simp[aR,go_sem,o8,g'];simp[callFunc,go_sem,oE];intro _ h;cases h
 intro v w6 I;refine Vh.nil bX sq ?_;cases hlog:ow (λi=>jp d.L (i:U)) (n+1) {j with aQ:=(Z7 d.L n:U)} L1 (Z7 d.L n-n)with
 |none=>rw[hlog]at I;cases I.1
 |some p=>
  obtain⟨k2,L2⟩:=p;rw[hlog]at I;obtain⟨_,y,b9,cc⟩:=I;have b5:=PY bc _ hlog;have bi:=ω _ hlog;have bf:k2.mp=j.mp:=b5.2.1;refine Yp.yU bX sY sq hQ λcm du s bs=>?_;have b2:Ax (zq D) (zq (V<|Z w0)) (zq<|V (Z w0)+1) (zq b)<|(C.put (Y 40)<|zq D).put (Y 41) v:=by obtain⟨x1,x2,x6,x7,x8,x9,cn,co,cq,cr,cs,ct,cu,cv,cw,cx,cy,cz,c0,c1,c2,c3,c4,c5,c6,c7,c8,c9,da,db,dc,dd,de,df,dg,dh,di,dj,dk,dl,rfl⟩:=bb;exact⟨_,_,_,_,_,_,_,_,_,_,_,_,_,_,_,_,_,_,_,_,_,_,_,_,_,_,_,_,_,_,_,_,_,_,_,_,_,_,_,_,O⟩
  have bj:∀x,x=b\/x=j.mp->x≠V (Z w0)+1:=λx A e=>by obtain rfl|rfl:=A;omega;obtain⟨es,c,h1⟩:=bh.bT;exact z5.gV h1 e.symm
  have z6:=(z5.y y λh=>bj _ h O).nw<|qm s;have bk:∀w',zj (λx=>x=V (Z w0)+1) cm w'->Nw w w':=λw' h=>by have u:zj (λx=>x=b\/x=j.mp\/x=V (Z w0)+1) w2 w':=((l.U λ_ h=>aJ h).aE<|y.U λ_ h=>h.elim aJ λh=>ac (aJ h)).aE<|((qm s).U λ_ h=>h.elim).aE<|h.U λ_ h=>ac (ac h);refine⟨u.os.trans a.os,u.cX.trans a.cX,xa a.aD u.aD,λi P _=>(u.dP i (zm P a.aD) λh=>?_).trans<|a.dP i P id⟩;omega
  refine xj5 (tv:=tv) (aw:=IH tv (λmp=>Xr (ld m mark tc op mp) d.L) w) b2 (Jh.nw b9<|qm s) z6 ((ih.y y À).nw<|qm s) À (by have:=q.2;show 0<=k2.tc;rw[bi];show 0<=j.tc;rw[this];exact h0) (by have:=q.2;show k2.tc<=_;rw[bi];show j.tc<=_;rw[this];exact hc) bs (λw' he F=>?_) λw' he F=>?_;refine⟨bk w' F,j.mp,z,?_⟩;simp only;rw[xdm (k:=ld m mark tc op j.mp) B hx hlog he];refine⟨O,bf,?_⟩;refine(Je.nw cc<|qm s).y F λe=>bj _ (ac O) e;refine⟨bk w' F,j.mp,z,?_⟩;simp only;rw[xot (k:=ld m mark tc op j.mp) B hx hlog he];trivial
 intro ch w6 I;cases hlog:ow (λi=>jp d.L (i:U)) (n+1) {j with aQ:=(Z7 d.L n:U)} L1 (Z7 d.L n-n)with
 |some p=>obtain⟨k2,L2⟩:=p;rw[hlog]at I;cases I.1
 |none=>rw[hlog]at I;obtain⟨he,y⟩:=I;cases he;refine⟨hs,?_,j.mp,z,?_⟩;have u:zj (λx=>x=b\/x=j.mp) w2 w6:=(l.U λ_ h=>aJ h).aE y;refine⟨u.os.trans a.os,u.cX.trans a.cX,xa a.aD u.aD,λi P _=>(u.dP i (zm P a.aD) λh=>?_).trans<|a.dP i P id⟩;omega;simp only;rw[xdl (k:=ld m mark tc op j.mp) B hx hlog];trivial
 refine⟨?_,mp,À,?_⟩;refine⟨o.os.trans g.os,o.cX.trans g.cX,xa g.aD o.aD,λi P _=>(o.dP i (zm P g.aD) λh=>?_).trans<|g.dP i P id⟩;omega;grind [Xr,ld]
end
section
variable[pn:A.Pn]
attribute[local go_sem] zn zg
noncomputable def vX:=Qf Tryz.f40.body
noncomputable def θ:=Qa vX
noncomputable def vi:=Qa<|Qb vX
noncomputable def ϋ:=Qb<|Qb vX
noncomputable def um:bE eX:=match vi with
 | fG _ o _=>o|_=>#[]
def xvx:vi=fG 1 um M:=Ä
theorem ϒ:V um=11:=Ä
def jcf:Nb um=M:=Ä
def uJ:¬Mc az 40:=Av Ã Ã Tryz.func40
structure uI(w:Zy)(B:Q)(v2:Zv)(r:Sr)(mp b:Q)(k:Lk)(L:KV)(l:bE ez)(a:mh)(w':Zy):Prop where
 df:a.defers=[]
 sz:V a.tmps=45
 nw:Nw w w'
 s0:At a 0<|zq B
 s2:At a 2 v2
 T:Tb [(0,4,zq B),(1,5,zq B),(2,6,zk B 2),(3,7,zq r.D),(4,8,zq B),(5,9,zq B),(6,10,zk B 3),(7,11,bY<|pZ r.m r.bQ r.bF r.op)] l a
 l8:Li l 8<|At a 12 (bY<|k.G (Ji k.m k.ep)<|Y7 k.m k.ep)/\V (Z w)<=mp/\Xr (ld r.m r.bQ r.bF r.op mp) r.d.L=Y (k,L)/\k.mp=mp/\Je w' mp L
 l9:Li l 9<|At a 3 (zq b)/\V (Z w)<=b/\(l[10]?=Y ao->xh w' b xm 147)
 Nc:Li l 10<|(l[8]?=Y M/\l[9]?=Y M)/\Jh w' b k
section
variable{C m:eJ}{w:dN}{v2:eJ}{w1:dN}{X:Exit->mh->dN->Prop}
def uI.mv(z:uI w B v2 r mp b k L l a w1)(d:i<8)(e:s=i+4)(c:∀x∈[(0,4,zq B),(1,5,zq B),(2,6,zk B 2),(3,7,zq r.D),(4,8,zq B),(5,9,zq B),(6,10,zk B 3),(7,11,bY<|pZ r.m r.bQ r.bF r.op)],(x.2.1≠s/\x.1≠i)\/x=(i,s,v)):∃mp b k L,uI w B v2 r mp b k L (aA l i M) (a.put (Y s) v) w1:=
 ⟨mp,b,k,L,z.df,ET z.sz,z.nw,z.s0.put À _,z.s2.put À _,z.T.put z.sz À c,z.l8.eG À λx=>⟨x.1.put À _,x.2⟩,z.l9.eG À λx=>⟨x.1.put À _,x.2.1,λh=>x.2.2<|JI h À⟩,z.Nc.eG À λx=>⟨⟨Wp x.1.1,Wp x.1.2⟩,x.2⟩⟩
def zC(w:Zy)(B:Q)(v2:Zv)(r:Sr)(l:bE ez)(a:mh)(w1:Zy)(X:Exit->mh->Zy->Prop)(i:Q):Prop:=∀o:eX,V l=V um->um[i]?=Y o->l[i]?=Y ao->(∀e∈o.after,fY gH e=M->l[e.on]?=Y M)->oX az 40 um X i (λa w1=>∃mp b k L,uI w B v2 r mp b k L (aA l i M) a w1) a w1
def jco(z:uI w B v2 r mp b k L l a w1):zC w B v2 r l a w1 X 0:=λo g c f h=>by have d:=c;simp[um,vi,vX,ii,Qf,Qa,Qb]at c;subst c;have e0:a.tmps[0]?=Y _:=z.s0;refine oX.eO (val:=zq B) bX uJ d O (λt e=>⟨t,e,?_⟩) (z.mv Ã O Â);simp[aR,go_sem,e0]
def jcs(z:uI w B v2 r mp b k L l a w1):zC w B v2 r l a w1 X 4:=λo g c f h=>by have d:=c;simp[um,vi,vX,ii,Qf,Qa,Qb]at c;subst c;have e0:a.tmps[0]?=Y _:=z.s0;refine oX.eO (val:=zq B) bX uJ d O (λt e=>⟨t,e,?_⟩) (z.mv Ã O Â);simp[aR,go_sem,e0]
def jcp(z:uI w B v2 r mp b k L l a w1):zC w B v2 r l a w1 X 1:=λo g c f h=>by have d:=c;simp[um,vi,vX,ii,Qf,Qa,Qb]at c;subst c;have e0:a.tmps[4]?=Y _:=z.T (0,4,zq B) Â<|h ⟨0,fw⟩ Â O;refine oX.eO (val:=zq B) bX uJ d O (λt e=>⟨t,e,?_⟩) (z.mv Ã O Â);simp[aR,go_sem,e0]
def jct(z:uI w B v2 r mp b k L l a w1):zC w B v2 r l a w1 X 5:=λo g c f h=>by have d:=c;simp[um,vi,vX,ii,Qf,Qa,Qb]at c;subst c;have e0:a.tmps[8]?=Y _:=z.T (4,8,zq B) Â<|h ⟨4,fw⟩ Â O;refine oX.eO (val:=zq B) bX uJ d O (λt e=>⟨t,e,?_⟩) (z.mv Ã O Â);simp[aR,go_sem,e0]
def jcq(z:uI w B v2 r mp b k L l a w1):zC w B v2 r l a w1 X 2:=λo g c f h=>by have d:=c;simp[um,vi,vX,ii,Qf,Qa,Qb]at c;subst c;have e0:a.tmps[5]?=Y _:=z.T (1,5,zq B) Â<|h ⟨1,fw⟩ Â O;refine oX.eO (val:=zk B 2) bX uJ d O (λt e=>⟨t,e,?_⟩) (z.mv Ã O Â);show(aR a.eval _).run prog (re w1 t e)=_;simp[aR,go_sem,e0]
def jcu(z:uI w B v2 r mp b k L l a w1):zC w B v2 r l a w1 X 6:=λo g c f h=>by have d:=c;simp[um,vi,vX,ii,Qf,Qa,Qb]at c;subst c;have e0:a.tmps[9]?=Y _:=z.T (5,9,zq B) Â<|h ⟨5,fw⟩ Â O;refine oX.eO (val:=zk B 3) bX uJ d O (λt e=>⟨t,e,?_⟩) (z.mv Ã O Â);show(aR a.eval _).run prog (re w1 t e)=_;simp[aR,go_sem,e0]
def jcr(g:xh w B r.G 94)(z:uI w B v2 r mp b k L l a w1):zC w B v2 r l a w1 X 3:=λo i d h x=>by have e:=d;simp[um,vi,vX,ii,Qf,Qa,Qb]at d;subst d;have e0:a.tmps[6]?=Y _:=z.T (2,6,zk B 2) Â<|x ⟨2,fw⟩ Â O;refine oX.eO (val:=zq r.D) bX uJ e O (λt c=>⟨t,c,?_⟩) (z.mv Ã O Â);show(aR a.eval _).run prog (re w1 t c)=_;have f:N (re w1 t c) (K B 2)=zq r.D:=(g.nw z.nw).i 2 O;simp[aR,go_sem,e0,f]
def jcv(j:xh w B r.G 94)(z:uI w B v2 r mp b k L l a w1):zC w B v2 r l a w1 X 7:=λo p e n x=>by have f:=e;simp[um,vi,vX,ii,Qf,Qa,Qb]at e;subst e;have e0:a.tmps[10]?=Y _:=z.T (6,10,zk B 3) Â<|x ⟨6,fw⟩ Â O;refine oX.eO (val:=bY (pZ r.m r.bQ r.bF r.op)) bX uJ f O (λt d=>⟨t,d,?_⟩) (z.mv Ã O Â);show(aR a.eval _).run prog (re w1 t d)=_;have c:=j.nw z.nw;have c3:N (re w1 t d) (K B 3)=E r.m:=c.i 3 O;have g:N (re w1 t d) (K B 4)=J r.bF:=c.i 4 O;have h:N (re w1 t d) (K B 5)=E r.bQ:=c.i 5 O;have i:N (re w1 t d) (K B 6)=J r.op:=c.i 6 O;simp[aR,go_sem,e0,c3,g,h,i,pZ]
def jcw(G:Jt w r.D r.d)(j:∀x,r.d.cN r.D x->2<x)(W:ip m w)(I:iN w)(P:T r.m=32)(ho:r.bF<=1000000000000)(g:∀i,T (jp r.d.L i)<=100000)
  (A:∀a' w' mp,a'.defers=[]->Nw w w'->V (Z w)<=mp->Xr (ld r.m r.bQ r.bF r.op mp) r.d.L=R->X (pQ [{v:=m,recovered:=ao}]) a' w')(u:uI w B v2 r mp b k L l a w1):zC w B v2 r l a w1 X 8:=λo wr t S hd=>by
 have y:=t;simp[um,vi,vX,ii,Qf,Qa,Qb]at t;subst t;have C:¬l[10]?=Y M:=λh=>by have:=(u.Nc h).1.1;grind
 have F:a.tmps[7]?=Y _:=u.T (3,7,zq r.D) Â<|hd ⟨3,fw⟩ Â O;have q:a.tmps[11]?=Y _:=u.T (7,11,bY<|pZ r.m r.bQ r.bF r.op) Â<|hd ⟨7,fw⟩ Â O;refine oX.lP bX uJ u.df y O (args:=#[zq r.D,bY<|pZ r.m r.bQ r.bF r.op]) (λv=>?_) (gy O Tryz.func81 O) (zr1 (G.y u.nw λ_ _=>id) j (W.nw u.nw) (I.nw u.nw) P À À g) ?_ ?_
 ·show(aR a.eval _).run prog v=_;simp[aR,go_sem,o8,F,q]
 ·rintro v h1⟨n,c,f,h⟩;cases hq:Xr (ld r.m r.bQ r.bF r.op c) r.d.L with|none=>grind|some p=>obtain⟨h2,hx⟩:=p;simp only[hq]at h;obtain⟨e,s,z⟩:=h;cases e;exact⟨c,b,h2,hx,⟨u.df,ET u.sz,u.nw.aE n,(u.s0.put Ã _),(u.s2.put Ã _),u.T.put u.sz Ã Â,.lT ⟨.ex u.sz Ã,xa u.nw.aD f,hq,s,z⟩,u.l9.eG Ã λx=>⟨(x.1.put Ã _),x.2.1,λh=>(x.2.2<|JI h Ã).nw n⟩,λh=>dC ((Gm h).resolve_left Ã) C⟩⟩
 rintro ch h1⟨n,c,f,h⟩;cases hq:Xr (ld r.m r.bQ r.bF r.op c) r.d.L with
 |none=>
  simp only[hq]at h;cases h;exact A _ _ c u.df (u.nw.aE n) (xa u.nw.aD f) hq
 |some p=>grind
def jcx(z:uI w B v2 r mp b k L l a w1):zC w B v2 r l a w1 X 9:=λo i c g q=>by
 have d:=c;simp[um,vi,vX,ii,Qf,Qa,Qb]at c;subst c;have e:¬l[10]?=Y M:=λh=>by have:=(z.Nc h).1.2;grind
 refine oX.eO bX uJ d O (λt f=>⟨t,f,?_⟩) ⟨mp,V<|Z w1,k,L,⟨z.df,ET z.sz,z.nw.aE<|Nw.E _ _,(z.s0.put Ã _),(z.s2.put Ã _),z.T.put z.sz Ã Â,z.l8.eG Ã λx=>⟨(x.1.put Ã _),x.2.1,x.2.2.1,x.c.1,x.d.nw<|Nw.E _ _⟩,.lT ⟨.ex z.sz Ã,z.nw.aD,λ_=>xh.ex _ _ _⟩,λh=>dC ((Gm h).resolve_left Ã) e⟩⟩;show(aR a.eval _).run prog (re w1 t f)=_;exact zb4
def xza(u:uI w B v2 r mp b k L l a w1):zC w B v2 r l a w1 X 10:=λo A m W hd=>by
 have n:=m;simp[um,vi,vX,ii,Qf,Qa,Qb]at m;subst m;have v:=hd ⟨8,fw⟩ Â O;have y:=hd ⟨9,fw⟩ Â O;have g:=(u.l8 v).1.ev;obtain⟨D,I,f⟩:=u.l9 y;have S:=D.ev;have C:=f W;obtain⟨P,h1,G,d,p⟩:=C.Dr (cs':=k.G _ _) (ty:=147) O η (by simp[Lk.G,Value.oneCell']);have j:∀{mp L},Je w1 mp L->¬mp=b:=λh e=>by obtain⟨h2,c,F⟩:=h.bT;exact C.gV F e.symm
 have q:Nw w P:=⟨d.os.trans u.nw.os,d.cX.trans u.nw.cX,xa u.nw.aD d.aD,λi z _=>(d.dP i (zm z u.nw.aD) À).trans<|u.nw.dP i z id⟩;refine oX.rK bX uJ n O (λt s=>⟨t,s,ό O S g<|p t s⟩) ⟨mp,b,k,L,⟨u.df,u.sz,q,u.s0,u.s2,u.T.rK Â,u.l8.eG Ã λx=>⟨x.1,x.2.1,x.2.2.1,x.c.1,x.d.y d<|j x.d⟩,u.l9.eG Ã λx=>⟨x.1,x.2.1,λh=>dC h Á⟩,.lT ⟨⟨Wp v,Wp y⟩,G⟩⟩⟩
def xuc(t:xh w B r.G 94)(z:Jt w r.D r.d)(j:∀x,r.d.cN r.D x->2<x)(C:ip m w)(F:iN w)(W:T r.m=32)(I:r.bF<=1000000000000)(h:∀i,T (jp r.d.L i)<=100000)
  (n:a.defers=[])(s:V a.tmps=45)(s0:At a 0<|zq B)(s2:At a 2 v2)
  (G:∀a' w' mp,a'.defers=[]->Nw w w'->V (Z w)<=mp->Xr (ld r.m r.bQ r.bF r.op mp) r.d.L=R->X (pQ [{v:=m,recovered:=ao}]) a' w')
  (S:∀a' w' mp b k L,a'.defers=[]->V a'.tmps=45->At a' 0 (zq B)->At a' 2 v2->At a' 3 (zq b)->Nw w w'->V (Z w)<=mp->V (Z w)<=b->Xr (ld r.m r.bQ r.bF r.op mp) r.d.L=Y (k,L)->k.mp=mp->Je w' mp L->Jh w' b k->X eE a' w'):Yp az 40 vi X a w:=by
 rw[xvx];refine Yp.Cl bX uJ Dq jcf (λl a w1=>∃mp b k L,uI w B v2 r mp b k L l a w1) ⟨0,0,ld [] [] 0 0 0,[],n,s,zj.refl _ _,s0,s2,.lz,.lz,.lz,.lz⟩ ?_ ?_;rintro l a' w'⟨mp,b,k,L,u⟩ g;have c:∀i,i<11->l[i]?=Y M:=λi P=>g i (by grind [ϒ]);obtain⟨y,A,_⟩:=u.l9 (c 9 Ã);obtain⟨_,q,h1,p,e⟩:=u.l8 (c 8 Ã);exact S a' w' mp b k L u.df u.sz u.s0 u.s2 y u.nw q A h1 p e (u.Nc<|c 10 Ã).2;rintro l a' w' i o⟨mp,b,k,L,u⟩ e f c hd;have P:i<11:=by have:=(za.1 f).1;rwa[ϒ]at this
 have:i=0\/i=1\/i=2\/i=3\/i=4\/i=5\/i=6\/i=7\/i=8\/i=9\/i=10:=À
 obtain rfl|rfl|rfl|rfl|rfl|rfl|rfl|rfl|rfl|rfl|rfl:=this;exact jco u o e f c hd;exact jcp u o e f c hd;exact jcq u o e f c hd;exact jcr t u o e f c hd;exact jcs u o e f c hd;exact jct u o e f c hd;exact jcu u o e f c hd;exact jcv t u o e f c hd;exact jcw z j C F W I h G u o e f c hd;exact jcx u o e f c hd;exact xza u o e f c hd
end
def ζ(B:Q)(v2:Zv)(b:Q)(a:mh):Prop:=∃x1 x4 x5 x6 x7 x8 x9 X x z q p u o m g c f h W S C F G P A I x30 x31 x32 x33 x34 x35 x36 x37 x38 x39 x40 x41 x42 x43 x44,a=⟨#[zq B,x1,v2,zq b,x4,x5,x6,x7,x8,x9,X,x,z,q,p,u,o,m,g,c,f,h,W,S,C,F,G,P,A,I,x30,x31,x32,x33,x34,x35,x36,x37,x38,x39,x40,x41,x42,x43,x44],[]⟩
def xs5(c:a.defers=[])(d:V a.tmps=45)(g:At a 0<|zq B)(j:At a 2 v2)(k:At a 3<|zq b):ζ B v2 b a:=by
 let⟨x,z⟩:=a;cases c;have h:x=bH ((iC 45).map λ|0=>zq B|2=>v2|3=>zq b|i=>x[i]?.getD Z'):=by unfold At at*;refine Array.ext É λi e f=>?_;simp;split<;>simp_all
 rw[h];exact⟨_,_,_,_,_,_,_,_,_,_,_,_,_,_,_,_,_,_,_,_,_,_,_,_,_,_,_,_,_,_,_,_,_,_,_,_,_,_,_,_,_,_,O⟩
def Aw(S:Q)(k:Lk)(L:KV):kE:=⟨S,k.mp,L,aB R 0 0,[],k.ep,k.bM,k.aQ,k.dB,0⟩
def xtu(k d):(Zb k d).2.1.mp=k.mp/\(Zb k d).2.1.m=k.m/\(Zb k d).2.1.ep=k.ep:=by unfold Zb;split;split;grind;exact⟨O,O,O⟩;split;split;grind;exact⟨O,O,O⟩;exact⟨O,O,O⟩
def Nf(cv tv:Zv)(B:Q)(r:Sr)(w:Zy)(e:kH)(w':Zy):Prop:=∃mp,V (Z w)<=mp/\match Xr (ld r.m r.bQ r.bF r.op mp) r.d.L with
 |none=>e=kn tv/\Zd B r w r w'|some (k,L)=>((Zb k r.d).1=M/\e=ai (J 0)/\∃S,Zd B r w {r with bF:=k.bF,bQ:=k.dX,d:=(Zb k r.d).2.2,sn:=Y<|Aw S (Zb k r.d).2.1 L} w')\/((Zb k r.d).1=ao/\e=kn cv/\Zd B r w {r with bF:=k.bF,bQ:=k.dX,d:=(Zb k r.d).2.2} w')
def xy1{z f}{d'}(o:Vq w0 B r)(hx:r.sn=R)(l:Nw w0 w)(wr:V (Z w0)<=b)(g':V (Z w0)<=D.mp)(A:Je w D.mp L)(v':b≠D.mp)
  (t:z=ay (ay w (K B 4)<|J k.bF) (K B 5) (E k.dX))(j:zj (λy=>y=b\/r.d.cN r.D y) z f)(p:Jt f r.D d')(ho:∀y,d'.cN r.D y->r.d.cN r.D y):
  Zd B r w0 {r with bF:=k.bF,bQ:=k.dX,d:=d'} f/\Zd B r w0 {r with bF:=k.bF,bQ:=k.dX,d:=d',sn:=Y<|Aw (V<|Z f) D L} (ay (aF f<|au (Aw (V<|Z f) D L).G 152) (K B 7)<|zq (V<|Z f)):=by
 have es:=λx (g:r.d.cN r.D x)=>Dk.fg o.fA g;have ba:=o.bT.lt;have u:zj (·=B) w z:=by rw[t];exact(zj.H w (K B 4) _).aE<|zj.H _ (K B 5) _
 have hd:xh z B ({r with bF:=k.bF,bQ:=k.dX,d:=d'}:Sr).G 94:=by have h1:=((o.bT.nw l).H 4<|J k.bF).H 5<|E k.dX;rw[t];exact h1
 have P:=hd.y j (by rintro(e|e);omega;exact o.kP e);have S:=l.aD;have X:=u.aD;have h3:=j.aD;have m:∀C,zj (λy=>y=B\/V (Z f)<=y) f C->zj (r.cN B) w0 C:=λC h2=>by have v:zj (λy=>y=B\/y=b\/r.d.cN r.D y\/V (Z f)<=y) w C:=((u.U λ_ h=>aJ h).aE<|j.U λ_ h=>h.elim (λe=>ac (aJ e)) λe=>ac (ac<|aJ e)).aE<|h2.U λ_ h=>h.elim aJ λe=>ac (ac<|ac e);refine⟨v.os.trans l.os,v.cX.trans l.cX,xa l.aD v.aD,λi I g=>(v.dP i (zm I l.aD) λh=>?_).trans<|l.dP i I id⟩;obtain e|e|e|e:=h;exact g<|aJ e;omega;exact g<|ac<|aJ e;omega
 refine⟨⟨m f<|zj.refl _ _,⟨P,p,λs e=>Á⟩,λx g=>?_⟩,?_⟩;obtain e|e|⟨s,e,_⟩:=g;exact aJ<|aJ e;exact aJ<|ac<|aJ<|ho x e;grind;have F:zj (λy=>y=B\/V (Z f)<=y) f<|ay (aF f<|au (Aw (V<|Z f) D L).G 152) (K B 7)<|zq (V<|Z f):=((Nw.E f _).U λ_ h=>h.elim).aE<|(zj.H _ _ _).U λ_ h=>aJ h;have G:¬r.d.cN r.D D.mp:=λh=>Á
 have q:=(A.y u À).y j Á;have w2:=q.lt;refine⟨m _ F,⟨?_,?_,λs e=>?_⟩,λx g=>?_⟩;exact(P.E _).H 7 _;exact p.y F λx g=>by
  rintro(e|e);exact o.kP Á
  grind
 cases e;refine⟨⟨?_,?_,?_⟩,?_⟩;exact(xh.ex f _ 152).dR Á _;exact q.y F À;exact jk _ _ _ _;intro e;have e:=e;exact G<|ho _<|ac<|aJ e;obtain e|e|⟨s,e,g⟩:=g;exact aJ<|aJ e;exact aJ<|ac<|aJ<|ho x e;cases e;obtain e|e|⟨a,n,c,W,e⟩:=g;have e:x=V (Z f):=e;omega;have e:x=D.mp:=e;omega;cases W
def xke{P:kH->Zy->Prop}{Po:Exit->mh->Zy->Prop}(ha:ζ B v2 b a)(s:Vq w0 B r)(bb:r.sn=R)(A:Nw w0 w)(hb:V (Z w0)<=b)(ho:V (Z w0)<=k.mp)
  (W:Jh w b k)(hs:Je w k.mp L)(ba:pH B r)(hG:nD cv tv w)(hw:k.cQ=M->0<=k.cY/\k.cY<=(T (jp r.d.L k.aQ):Q))(X:-1000000000000<=k.aQ/\k.aQ<=1000000000000)
  (y:H<|∀e a' w',sV az dA ii P e a' w'->Po e a' w')
  (wr:H<|∀w' S,(Zb k r.d).1=M->Zd B r w0 {r with bF:=k.bF,bQ:=k.dX,d:=(Zb k r.d).2.2,sn:=Y<|Aw S (Zb k r.d).2.1 L} w'->P (ai<|J 0) w')
  (g':H<|∀w',(Zb k r.d).1=ao->Zd B r w0 {r with bF:=k.bF,bQ:=k.dX,d:=(Zb k r.d).2.2} w'->P (kn cv) w'):
  ϋ.wp prog Po a w:=by
 obtain⟨x1,x4,x5,x6,x7,x8,x9,bg,bh,bi,bj,bk,bl,bm,bn,bo,bp,bq,br,bs,bt,bu,bv,bw,bx,bz,b0,b1,b2,b3,b4,b5,b6,b7,b8,b9,ca,cb,cc,cd,ce,cf,rfl⟩:=ha;have o:=s.bT.nw A;have HL:=W;have HS:=hs;have hd:=ba;have G:=s;have m:=bb;have bc:=s.bT.lt;have v':¬b=B:=À
 have h3:¬B=b:=À
 have w2:¬r.d.cN r.D b:=λh=>by have:=Dk.fg s.fA h;omega
 have c2:=o.i 2 O;have c4:=o.i 4 O;have c5:=o.i 5 O;have f4:=o.dS 4;have f5:=o.dS 5;have l8:N w (K b 8)=J k.bF:=W.i 8 O;have l9:N w (K b 9)=E k.dX:=W.i 9 O;conv=>arg 2;whnf
 go_wp2;obtain⟨F,i⟩:∃F,F=ay (ay w (K B 4)<|J k.bF) (K B 5) (E k.dX):=⟨_,O⟩;rw[<-i];have l:H (zj (·=B) w F):=by show zj _ _ _;rw[i];exact(zj.H w (K B 4) _).aE<|zj.H _ (K B 5) _
 have X2:xh F B ({r with bF:=k.bF,bQ:=k.dX}:Sr).G 94:=by have h1:=(o.H 4<|J k.bF).H 5<|E k.dX;show xh _ _ _ _;rw[i];exact h1
 have D2:=(s.fA.y A λ_ _=>id).y l.o λx hx e=>G.kP (by have e:x=B:=e;rw[<-e];exact hx);have ih:b≠0:=À
 have C2:=hG.Il.y l.o (by have:=hd.cN B<|aJ O;show¬0=B;omega);refine(xtv b k r.D r.d _ (xh.y HL l.o v') D2 hd.F0 hd.Ip C2 w2 ih hw X).mono ?_;rintro e j⟨u,n,f,z,C⟩;have g:=xtu k r.d;have hr:b≠k.mp:=λe=>by obtain⟨es,c,h1⟩:=HS.bT;exact xh.gV HL h1 e
 have I:=xy1 G m A hb (by rw[g.1];exact ho) (by rw[g.1];exact HS) (by rw[g.1];exact hr) i n z C;cases hm:(Zb k r.d).1 with
 |false=>rw[hm]at u;subst u;refine y.o _ _ _ ⟨O,g'.o _ hm I.1⟩
 |true=>
  rw[hm]at u;subst u;have h2:=X2.y n (by rintro(e|e);exact h3 e;exact G.kP e);have q:=I.2;generalize(Zb k r.d).2.1=D at*;have p:∀S,S=V (Z j)->Zd B r w0 {r with bF:=k.bF,bQ:=k.dX,d:=(Zb k r.d).2.2,sn:=Y<|Aw S D L} (ay (aF j<|au (Aw S D L).G 152) (K B 7)<|zq S):=λS e=>by subst e;exact q
  have HM:=hm;have d7:N j (K B 7)=aU R:=by have:=h2.i 7 (v:=Sr.my _) O;rw[this];simp[Sr.my,m]
  have k4:N j (K b 4)=(fu<|some D.mp):=f.i 4 O;have k5:N j (K b 5)=J D.ep:=f.i 5 O;have bd:N j (K b 11)=J D.bM:=f.i 11 O;have be:N j (K b 12)=J D.aQ:=f.i 12 O;have bf:N j (K b 13)=J D.dB:=f.i 13 O;have e7:N (aF j<|au #[fu<|some D.mp,aB R 0 0,J D.ep,J D.bM,J D.aQ,J D.dB,J 0] 152) (K B 7)=aU R:=((h2.E _).i 7 (v:=Sr.my _) O).trans (by simp[Sr.my,m]);have h7:=(h2.E<|au #[fu<|some D.mp,aB R 0 0,J D.ep,J D.bM,J D.aQ,J D.dB,J 0] 152).dS 7;clear I q n f z C hm g;go_wp2;refine y.o _ _ _ ⟨O,J 0,λt d=>⟨t,d,?_⟩,wr.o _ _ HM<|p _ O⟩;show(eR ii _).run prog _=_;simp[eR,Tryz.results40,go_sem]
end
section
variable[pn:A.Pn]
def xxt:Tryz.f40.body=Y (gU θ<|gU vi ϋ):=Ä
theorem Zd.re{d:Q}(h:Zd B r w r'<|re w' t d):Zd B r w r' w':=⟨zj.re h.y,⟨h.dI.bT,⟨h.dI.fA.bT,h.dI.fA.jS,h.dI.fA.ku⟩,λs a=>⟨⟨(h.dI.fP s a).1.bT,(h.dI.fP s a).1.jS,(h.dI.fP s a).1.iR⟩,(h.dI.fP s a).2⟩⟩,h.cN⟩
theorem Zd.lQ(h:Zd B r w r' w')(t d):Zd B r w r'<|A.re w' t d:=⟨⟨h.y.os,h.y.cX,h.y.aD,h.y.dP⟩,⟨h.dI.bT,⟨h.dI.fA.bT,h.dI.fA.jS,h.dI.fA.ku⟩,λs a=>⟨⟨(h.dI.fP s a).1.bT,(h.dI.fP s a).1.jS,(h.dI.fP s a).1.iR⟩,(h.dI.fP s a).2⟩⟩,h.cN⟩
def xan{e d}:Nf cv tv B r w e (re w' t d)↔Nf cv tv B r w e w':=by
 constructor;rintro⟨b,a,h⟩;refine⟨b,a,?_⟩;cases z:Xr _ r.d.L with|none=>grind [Zd.re]|some p=>grind [Zd.re]
 rintro⟨b,a,h⟩;refine⟨b,a,?_⟩;cases z:Xr _ r.d.L with|none=>grind [Zd.lQ]|some p=>grind [Zd.lQ]
def xub(h:Vq w B r)(z:r.sn=R)(a:pH B r)(o:nD cv tv w)(g:∀i,T (jp r.d.L i)<=100000)
  (s:∀mp k L,Xr (ld r.m r.bQ r.bF r.op mp) r.d.L=Y (k,L)->(k.cQ=M->0<=k.cY/\k.cY<=(T (jp r.d.L k.aQ):Q))/\ -1000000000000<=k.aQ/\k.aQ<=1000000000000):
  CC az 40 #[zq B] w (Nf cv tv B r w):=by
 have G:rq<|sV az dA ii<|Nf cv tv B r w:=Dh λe w t d=>xan;apply CC.kS bX uJ (gy O Tryz.func40 O).1 Tryz.func40 xxt;rw[show Tryz.f40.ntmps=45 from O];refine Yp.Aq bX sY uJ G bD λX I P A v'=>?_;have f:=qm P;have D:θ.wp prog I ⟨#[zq B]++cL (45-1) Z',[]⟩ X:=by
  simp only[jd,xg,qy,jY,lh,qu,qw,Xa,Zh,qj,qg];conv=>arg 2;whnf
  go_wp2;apply A.o _ _;have F:=h.y f λ_ _=>id;refine Yp.vU bX uJ bD (xuc (v2:=J 0) F.bT F.fA (λx hd=>a.cN x<|ac<|aJ hd) (o.Y'.nw f) (o.uV.nw f) a.m (by have:=a.bF;omega) g O O O O (λh1 u mp c y v l=>?_) λh1 u mp b k L c C h2 hx ho y v es l q wr g'=>?_);refine⟨c,mp,by have:=f.aD;omega,?_⟩;rw[l];exact⟨O,Zd.nw h<|f.aE y⟩;have nw:=f.aE y;have W:=f.aD;refine Yp.yU bX sY uJ G λw1 ba n p=>?_;have n1:=qm n;let⟨hw,hla⟩:=s mp k L l;refine xke (L:=L) (xs5 c C h2 hx ho) h z (nw.aE n1) À À (Jh.nw g' n1) (by rw[q];exact wr.nw n1) a (o.y (nw.aE n1) λ_ x=>x.elim) hw hla p (λu S m j=>?_) λu m j=>?_;refine⟨mp,À,?_⟩;rw[l];exact aJ ⟨m,O,S,j⟩;refine⟨mp,À,?_⟩;simp_all
 exact D
end
end P
end Go.Proofs.YtjnbhiamaabbgabGreatDoor
