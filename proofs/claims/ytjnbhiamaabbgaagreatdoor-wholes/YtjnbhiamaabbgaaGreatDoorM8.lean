import Derived.Test.YtjnbhiamaabbgaaGreatDoorM7
import Derived.Deep.DeepAppendRoom
import Derived.Stop.Asserts
set_option linter.all false
set_option maxRecDepth 100000
set_option maxHeartbeats 8000000
section
variable{P:Prop}
def TV(h:P:=by unfold mj;simp_all):P:=h
def za0(h:P:=by grind [rF,Mu,xx]):P:=h
def za6(h:P:=by rw[<-ho];rfl):P:=h
def zap(h:P:=by rw[h.bT.i 7 O];simp[Sr.G,Sr.my,a]):P:=h
def zbx(h:P:=by intro u hu;simp[uG]at hu;obtain rfl|rfl|rfl|rfl:=hu<;>rfl):P:=h
def zd6(h:P:=by have:=f.fr.Q;rw[xp]at this;omega):P:=h
def zdt(h:P:=by obtain⟨g,h,-⟩:=W.lp (λ_=>O) (i:=k) Ç O;simp_all):P:=h
def ze0(h:P:=by rw[HP.o,<-n.o,<-h1];exact ŋ PP s À):P:=h
def ze3(h:P:=by rw[inv.i q g];unfold sF;rw[aL À]):P:=h
end
namespace Go.Proofs.YtjnbhiamaabbgaaGreatDoor
open Go renaming Act->mh,Calls->aK,Ending->kH,Oper->eX,Value->eJ,World->dN,bits->lr,execOp->aR,heap_alloc_new->xn,maxLen->pu,resolve->o8,results->eR,run_convert_bytes_back->iy,setCell_eq_setRow->zdm,setRow_heap->Jr,wpS_region->pq,yielded->fN
open Go.Act renaming eval->jV
open Go.Addr renaming add_mid->pS
open Go.Ending renaming returned->ai
open Go.Exit renaming thenS->nO
open Go.Extern.ReflectliteType renaming method->pP,typeOf->pO
open Go.Extern.Rtype renaming noPackHeld->pA
open Go.FrameMode renaming panicking->fL,returning->eB
open Go.IntKind renaming i64->bB,wrap_i64->zh
open Go.Next renaming enter->nN
open Go.Obj renaming cells->au
open Go.Proofs renaming intOf->bZ
open Go.Proofs.Tryz renaming results34->pM,underlying169->jT
open Go.Region renaming wanted->bP
open Go.Result renaming ok->dG
open Go.RowKit renaming Below->aP,Hid->H
open Go.RowKit.Below renaming refl->zt
open Go.Sem renaming run_bind->zc9,run_pure->zda
open Go.Value renaming agg->bY,bool->bG,iface->iW,int->Q,pointer->aU,slice->aB,string->ak,tuple->cE
open Go.World renaming alloc->aF,cell?->N,frozen?->aX,news_of_block->gX,setCell->M,setRow_alloc_new->og,size_alloc->xp,heap->Z'
open _root_ renaming Array->bE,Bool->ez,ByteArray->eM,Int->U,List->bA,Nat->aD,Option->dD,absurd->dC,congrArg->gv,if_false->kB,if_neg->aL,if_pos->aT,rfl->O,trivial->bD
open _root_.Array renaming replicate->cL,size->V,toList->eV
open _root_.Bool renaming false->ao,true->ay
open _root_.Decidable renaming decide->bR
open _root_.Exists renaming intro->ng
open _root_.False renaming elim->eT
open _root_.Int renaming toNat->bL
open _root_.List renaming drop->bV,drop_drop->zbd,drop_eq_getElem_cons->Zx,drop_take->Xb,length->T,length_append->zx,length_pos_iff->Z0,length_take->xf,map_congr_left->W6,replicate->bS,take->eI,take_of_length_le->qp,take_succ_eq_append_getElem->zp,toArray->bH
open _root_.Option renaming none->aw,some->ac
open _root_.Or renaming inl->aJ,inr->Y
open _root_.Prod renaming fst->o7
open _root_.UInt8 renaming ofNat->mZ,toNat->aN
namespace P
variable{w b w':Zy}{a:mh}{v cv tv l:Zv}{g k n b7 b8 e c d C m B lo:aD}{t:Zt}{o:eX}{Z:Ze}{F ſ:Xv}{α:Type}{f:Rf}{ops:bE eX}{rest:bA eX}{s x:Operand}{cs:Za}{r:Sr}
open A.Tryq
section
open Go.RowKit
theorem xx(a b:Z8):a^^^(a^^^b)=b:=by rw[<-UInt8.xor_assoc];simp
theorem hi7:∀x:Z8,(128<=aN x)=(x.toNat.testBit 7=ay):=AX Ê
def gg(x:Z8):Z8:=if x.toNat.testBit 7=ay then 27 else 0
theorem xx0(x):oO x=(x<<<1)^^^gg x:=by grind [oO,gg,hi7]
theorem xyb(a b):gg (a^^^b)=gg a^^^gg b:=by unfold gg;rw[UInt8.toNat_xor,Nat.testBit_xor];cases a.toNat.testBit 7<;>cases b.toNat.testBit 7<;>rfl
theorem xu4(a b):(a^^^b)<<<(1:Z8)=a<<<1^^^b<<<1:=by apply UInt8.eq_of_toBitVec_eq;simp[BitVec.shiftLeft_xor_distrib]
theorem Mu(a b):oO (a^^^b)=oO a^^^oO b:=by grind [xx0,xyb,xu4]
def mx0(a b c d):a^^^b^^^c^^^d^^^a^^^oO (a^^^b)=rF a b c d:=za0
def mx1(a b c d):a^^^b^^^c^^^d^^^b^^^oO (b^^^c)=rF b c d a:=za0
def mx2(a b c d):a^^^b^^^c^^^d^^^c^^^oO (c^^^d)=rF c d a b:=za0
def mx3(a b c d):a^^^b^^^c^^^d^^^d^^^oO (d^^^a)=rF d a b c:=za0
def xo2(f c)(a:c%4=0):oZ f c=rF (f c) (f<|c+1) (f<|c+2) (f<|c+3)/\oZ f (c+1)=rF (f<|c+1) (f<|c+2) (f<|c+3) (f c)/\oZ f (c+2)=rF (f<|c+2) (f<|c+3) (f c) (f<|c+1)/\oZ f (c+3)=rF (f<|c+3) (f c) (f<|c+1) (f<|c+2):=by unfold oZ;refine⟨?_,?_,?_,?_⟩;rw[show c/4*4=c by omega,show c+(c%4+1)%4=c+1 by omega];exact mx0 _ _ _ _;rw[show(c+1)/4*4=c by omega,show c+((c+1)%4+1)%4=c+2 by omega];exact mx1 _ _ _ _;rw[show(c+2)/4*4=c by omega,show c+((c+2)%4+1)%4=c+3 by omega];exact mx2 _ _ _ _;rw[show(c+3)/4*4=c by omega,show c+((c+3)%4+1)%4=c by omega];exact mx3 _ _ _ _
attribute [local go_sem] Gb zn zg
structure BK(w:Zy)(y z:Zu)(W:Zy):Prop where
 fH:aP (V<|Z' w) w W
 sz:V (Z' w)+1+1<V (Z' W)
 b0:Jp W (V<|Z' w) (iO y) 176 320
 b1:Jp W (V (Z' w)+1) Sn 256 318
 b2:Jp W (V (Z' w)+1+1) z 16 352
def BK.gC(w y):BK w y zF<|aF (aF (aF w<|au (bH (ki (iO y) 176)) 320)<|au (bH (ki Sn 256)) 318)<|au #[J 0,J 0,J 0,J 0,J 0,J 0,J 0,J 0,J 0,J 0,J 0,J 0,J 0,J 0,J 0,J 0] 352:=by
 refine⟨(((zt _ _).alloc (zd _) _).alloc Â _).alloc Ç _,Â,?_,?_,?_⟩;all_goals (show(((w.heap.push _).push _).push _)[_]?=_)
 all_goals (simp only[jb,Xi])
 grind;grind;rw[aT bD];rfl
def BK.W{a y z}(h:BK w y z a):BK w y z a.drew:=⟨h.fH.drew,h.sz,h.b0,h.b1,h.b2⟩
def BK.gN{y z}(h:BK w y z b)(a:aP (V<|Z' b) b w'):BK w y z w':=
 have c:=h.sz
 ⟨h.fH.trans<|a.mono h.fH.size,zm h.sz a.size,h.b0.Y a À,h.b1.Y a À,h.b2.Y a À⟩
theorem BK.H{a y z}(h:BK w y z a)(k v):BK w y (λi=>if i=k then v else z i)<|M a (zq (V (Z' w)+1+1) k)<|J<|e8 v:=
 ⟨h.fH.setCell Á _,Ö,h.b0.dR À,h.b1.dR À,h.b2.H k v⟩
theorem BK.put{a y z}(h:BK w y z a)(g)(b:V (Z' w)+1+1<g)(k v):BK w y z<|M a (zq g k) v:=
 ⟨h.fH.setCell Á _,Ö,h.b0.dR À,h.b1.dR À,h.b2.dR À⟩
theorem BK.cH{a y f2 f3}(h:BK w y f2 a)(e:∀i,i<16->f2 i=f3 i):BK w y f3 a:=⟨h.fH,h.sz,h.b0,h.b1,h.b2.cH e⟩
def rG(y x:Zu)(n:aD):aD->Z8:=if n<=9 then FG y x n else Yr y x
def sf(r:aD)(f:Zu)(i:aD):Z8:=if r<10 then oZ f i else f i
def xql(y x r)(a:1<=r)(b:r<=10)(i):sf r (iq<|rG y x<|r-1) i^^^kY y r i=rG y x r i:=by
 obtain⟨n,rfl⟩:∃n,r=n+1:=⟨r-1,À⟩;unfold rG sf;rw[show n+1-1=n by omega,aT (show n<=9 by omega)];by_cases h:n+1<10;rw[aT h,aT À];rfl;obtain rfl:n=9:=À
 rw[aL h,aL À];rfl
def mj(f g:Zu)(k i:aD):Z8:=if i<k then g i else f i
def Q'(f g k i):(if i=k then g k else mj f g k i)=mj f g (k+1) i:=by grind [mj]
structure Mx(w:Zy)(y z q:Zu)(g h:aD)(F:Zu)(v:Zy):Prop where
 b:BK w y z v
 t:Jp v g F 16 352
 u:Jp v h q 4 351
theorem Mx.put{v y a c F h}(m:Mx w y a c g h F v)(d:V (Z' w)+1+1<g)(e:g≠h)(k x):Mx w y a c g h (λi=>if i=k then x else F i)<|M v (zq g k)<|J<|e8 x:=⟨m.b.put g d k _,m.t.H k x,m.u.dR À⟩
theorem Mx.at{v y d a F h b q p c}(m:Mx w y d a g h F v)(hy:a 0=b/\a 1=q/\a 2=p/\a 3=c)(hk:k<16):(∃z,N v (zq g k)=ac z)/\aX v (zq g k)=ao/\N v (zq h 0)=(J<|e8 b)/\N v (zq h 1)=(J<|e8 q)/\N v (zq h 2)=(J<|e8 p)/\N v (zq h 3)=(J<|e8 c):=by obtain⟨rfl,rfl,rfl,rfl⟩:=hy;exact⟨⟨_,m.t.i hk⟩,m.t.eQ,m.u.i Ã,m.u.i Ã,m.u.i Ã,m.u.i Ã⟩
theorem xi5(key l)(hl:T l=16)(w):aK prog 249 #[E l,bY (bH (ki (iO key) 176)),bY (bH (ki Sn 256))] w λen w'=>en=ai (ak<|st<|kl (Yr key λi=>l.getD i 0) 16)/\aP (V<|Z' w) w w':=by
 obtain⟨x,hx⟩:∃x:aD->Z8,(λi=>l.getD i 0)=x:=⟨_,O⟩;have HX:(λi=>l.getD i 0)=x:=hx;go_enter func249.1,Tryz.ntmps249;go_wp2;go_loopw [8] (λi wr=>∃k:aD,k<=16/\i=J k/\BK w key (mj zF (rG key x 0) k) wr) (λi _=>bL (16-bZ i));exact⟨0,À,O,BK.gC w key⟩;obtain⟨k,hk,rfl,inv⟩:=hrel;by_cases L:k<16
 ·have D:=inv.sz;have i1:(k:U)<16:=by omega
  have i2:(k:U)<(T l:aD):=À
  have i3:(k:U)<176:=À
  have bb:k<T l:=À
  obtain⟨a,ha⟩:∃a,(st l)[k]'(by rw[zn];exact bb)=a:=⟨_,O⟩;have bx:lr .xor bB (aN a:U) (e8<|iO key k)=e8 (a^^^iO key k):=Gb a _;have ew:IntKind.i64.wrap (aN a:U)=(aN a:U):=QL a;have c1:N wr (zq (V<|Z' w) k)=(J<|e8<|iO key k):=inv.b0.i À;have c2:N wr (zq (V (Z' w)+1+1) k)=(J<|e8<|mj zF (rG key x 0) k k):=inv.b2.i À;have f2:aX wr (zq (V (Z' w)+1+1) k)=ao:=inv.b2.eQ;have C:BK w key (mj zF (rG key x 0)<|k+1)<|M wr.drew (zq (V (Z' w)+1+1) k)<|J<|e8<|a^^^iO key k:=by
   refine(inv.W.H k _).cH λi _=>?_;have e:a^^^iO key k=rG key x 0 k:=by show _=x k^^^kY key 0 k;unfold iO;rw[show k/16=0 by omega,show k%16=k by omega,<-HX,<-ha];show l[k]^^^_=l.getD k 0^^^_;simp[List.getD,bb]
   rw[e];exact Q' _ _ k i
  generalize mj zF (rG key x 0) k k=z at*;generalize a^^^iO key k=v at*;generalize iO key k=y at*;go_wp2;go_still_tail 10,Ä;go_wp2;go_roundw
  ·first|exact⟨k+1,À,Å,C⟩|((repeat apply ng);exact⟨⟨k+1,À,Å,C⟩,O⟩)
  exact Î
 obtain rfl:k=16:=À
 have inv:=inv.cH (f3:=rG key x 0) λi h1=>TV
 go_wp2;go_loopw [9] (λi wr=>∃r:aD,1<=r/\r<=11/\i=J r/\BK w key (rG key x<|r-1) wr) (λi _=>bL (11-bZ i));exact⟨1,À,À,O,inv⟩;obtain⟨r,bc,hr,rfl,inv⟩:=hrel;by_cases br:r<11
 ·obtain⟨d,ba⟩:∃f,rG key x (r-1)=f:=⟨_,O⟩;have HN:∀i,sf r (iq d) i^^^kY key r i=rG key x r i:=λi=>by rw[<-ba];exact xql key x r bc À i
  rw[ba]at inv;have D:=inv.sz;have i1:(r:U)<=10:=À
  have hd:bR ((r:U)<=10)=ay:=jm i1;have bg:=inv.gN<|(zt _ _).alloc (zd _)<|au #[J 0,J 0,J 0,J 0,J 0,J 0,J 0,J 0,J 0,J 0,J 0,J 0,J 0,J 0,J 0,J 0] 352;have h3:Jp (aF wr<|au #[J 0,J 0,J 0,J 0,J 0,J 0,J 0,J 0,J 0,J 0,J 0,J 0,J 0,J 0,J 0,J 0] 352) (V<|Z' wr) (mj zF (iq d) 0) 16 352:=xn wr<|au #[J 0,J 0,J 0,J 0,J 0,J 0,J 0,J 0,J 0,J 0,J 0,J 0,J 0,J 0,J 0,J 0] 352;go_wp2;try rw[hd]
  generalize aF wr (au #[J 0,J 0,J 0,J 0,J 0,J 0,J 0,J 0,J 0,J 0,J 0,J 0,J 0,J 0,J 0,J 0] 352)=wa at*;obtain⟨g,bp⟩:∃g,V (Z' wr)=g:=⟨_,O⟩;rw[bp]at D h3⊢;go_loopw [11] (λi wq=>∃k:aD,k<=16/\i=J k/\BK w key d wq/\Jp wq g (mj zF (iq d) k) 16 352) (λi _=>bL (16-bZ i));exact⟨0,À,O,bg,h3⟩;obtain⟨k,hk,rfl,inv,j⟩:=hrel;by_cases L:k<16
  ·obtain⟨q,hq⟩:∃q,k%4=q:=⟨_,O⟩;obtain⟨m,hm⟩:∃m,(k+q*4)%16=m:=⟨_,O⟩;have e1:(k:U).tmod 4=(q:aD):=by rw[qo À];omega
   have e2:IntKind.i64.wrap (4*(q:U))=4*(q:U):=Í
   have e3:IntKind.i64.wrap ((k:U)+4*(q:U))=(k:U)+4*(q:U):=Í
   have e4:((k:U)+4*(q:U)).tmod 16=(m:aD):=zdh
   have m4:m<16:=À
   have m5:(m:U)<16:=À
   have k5:(k:U)<16:=À
   have c1:N wr (zq (V (Z' w)+1+1) m)=(J<|e8<|d m):=inv.b2.i m4;have c2:=inv.b1.qN<|d m;have l1:=uz<|d m;have l2:=uQ<|d m;have c3:N wr (zq g k)=(J<|e8<|mj zF (iq d) k k):=j.i L;have q3:aX wr (zq g k)=ao:=j.eQ;have C:BK w key d<|M wr (zq g k)<|J<|e8<|Sx<|d m:=inv.put g D k _;have P:Jp (M wr (zq g k)<|J<|e8<|Sx<|d m) g (mj zF (iq d)<|k+1) 16 352:=by
    refine(j.H k _).cH λi _=>?_;have e:Sx (d m)=iq d k:=by unfold iq;rw[hq,hm]
    rw[e];exact Q' _ _ k i
   generalize mj zF (iq d) k k=z at*;generalize d m=y at*;go_wp2;go_roundw
   ·first|exact⟨k+1,À,Å,C,P⟩|((repeat apply Exists.intro);exact⟨⟨k+1,À,Å,C,P⟩,rfl⟩)
   exact Î
  have ke:k=16:=À
  have k5:¬(k:U)<16:=À
  rw[ke]at j;have bh:Jp wr g (mj (iq d) (sf r<|iq d) 0) 16 352:=j.cH λi h1=>TV
  go_wp2;go_loopw [12] (λi wq=>∃c:aD,c<=16/\c%4=0/\i=J c/\BK w key d wq/\Jp wq g (mj (iq d) (sf r<|iq d) c) 16 352) (λi _=>bL (16-bZ i));exact⟨0,À,À,O,inv,bh⟩;obtain⟨c,hc,bn,rfl,inv,j⟩:=hrel;by_cases bu:c<16
  ·have i3:c+3<16:=by omega
   have c5:(c:U)<16:=À
   have cb:IntKind.i64.wrap ((c:U)+1)=(c:U)+1:=Í
   have b8:(c:U)+1<16:=À
   have bz:(0:U)<=(c:U)+1:=À
   have b5:bL ((c:U)+1)=c+1:=À
   have cc:IntKind.i64.wrap ((c:U)+2)=(c:U)+2:=Í
   have b9:(c:U)+2<16:=À
   have b3:(0:U)<=(c:U)+2:=À
   have b6:bL ((c:U)+2)=c+2:=À
   have cd:IntKind.i64.wrap ((c:U)+3)=(c:U)+3:=Í
   have ca:(c:U)+3<16:=À
   have b4:(0:U)<=(c:U)+3:=À
   have b7:bL ((c:U)+3)=c+3:=À
   have bo:g<V (Z' wr):=js (j.i (k:=0) Ã);obtain⟨o,bs⟩:∃y,iq d c=y:=⟨_,O⟩;obtain⟨p,bd⟩:∃y,iq d (c+1)=y:=⟨_,O⟩;obtain⟨n,be⟩:∃y,iq d (c+2)=y:=⟨_,O⟩;obtain⟨s,bf⟩:∃y,iq d (c+3)=y:=⟨_,O⟩;have HS:∀w',Jp w' g (mj (iq d) (sf r<|iq d) c) 16 352->N w' (zq g c)=(J<|e8 o)/\N w' (zq g<|c+1)=(J<|e8 p)/\N w' (zq g<|c+2)=(J<|e8 n)/\N w' (zq g<|c+3)=(J<|e8 s):=λw' h=>⟨by rw[h.i À];unfold mj;simp_all,by rw[h.i À];unfold mj;rw[aL À,bd],by rw[h.i À];unfold mj;rw[aL À,be],by rw[h.i À];unfold mj;rw[aL À,bf]⟩;have HM:∀i,i<16->(r<10->(if i=c+3 then rF s o p n else if i=c+2 then rF n s o p else if i=c+1 then rF p n s o else if i=c then rF o p n s else mj (iq d) (sf r<|iq d) c i)=mj (iq d) (sf r<|iq d) (c+4) i):=λi h1 G=>by have⟨p0,p1,p2,p3⟩:=xo2 (iq d) c bn;rw[bs,bd,be,bf]at p0 p1 p2 p3;unfold mj sf;by_cases e3:i=c+3;simp_all;rw[aL e3];by_cases e2:i=c+2;simp_all;rw[aL e2];by_cases e1:i=c+1;simp_all;rw[aL e1];by_cases e0:i=c;simp_all;rw[aL e0];by_cases el:i<c;rw[aT el,aT (show i<c+4 by omega)];rw[aL el,aL À]
   have HE:¬r<10->∀i,i<16->mj (iq d) (sf r<|iq d) c i=mj (iq d) (sf r<|iq d) (c+4) i:=λG i _=>by unfold mj sf;rw[aL G];simp
   have P:Jp wr g (mj (iq d) (sf r<|iq d) c) 16 352:=j;have HV:BK w key d wr:=inv;have W:∀Z,Jp (aF wr Z).drew g (mj (iq d) (sf r<|iq d) c) 16 352:=λZ=>P.Y (Below.drew<|(zt _ _).alloc (zd _) Z) bo;have bi:∀Z,BK w key d (aF wr Z).drew:=λZ=>(HV.gN<|(zt _ _).alloc (zd _) Z).W;have S0:=HS _ j;have S1:=λZ=>HS _<|W Z;go_wp2;go_region_held3 (λw'=>N w' (zq g c)=(J<|e8 o)/\N w' (zq g<|c+1)=(J<|e8 p)/\N w' (zq g<|c+2)=(J<|e8 n)/\N w' (zq g<|c+3)=(J<|e8 s)) (first|exact S0|exact S1 _) (fail);obtain⟨F,ho⟩:∃F:aD->Z8,(λk=>if k=0 then o else if k=1 then p else if k=2 then n else s)=F:=⟨_,O⟩;have bj:F 0=o:=za6
   have bk:F 1=p:=za6
   have bl:F 2=n:=za6
   have bm:F 3=s:=za6
   have I:=bi<|au #[J<|e8 o,J<|e8 p,J<|e8 n,J<|e8 s] 351;have es:=W<|au #[J<|e8 o,J<|e8 p,J<|e8 n,J<|e8 s] 351;have ih:Jp (aF wr<|au #[J<|e8 o,J<|e8 p,J<|e8 n,J<|e8 s] 351).drew (V<|Z' wr) F 4 351:=by rw[<-ho];exact xn wr<|au #[J<|e8 o,J<|e8 p,J<|e8 n,J<|e8 s] 351
   generalize(aF wr<|au #[J<|e8 o,J<|e8 p,J<|e8 n,J<|e8 s] 351).drew=w4 at*;have g':g≠V (Z' wr):=À
   generalize V (Z' wr)=h at*;have v':H<|F 0=o/\F 1=p/\F 2=n/\F 3=s:=⟨bj,bk,bl,bm⟩;by_cases G:r<10
   ·have bt:(r:U)<10:=by omega
    have u:Mx w key d F g h _ w4:=⟨I,es,ih⟩;have⟨⟨z,hz⟩,q3,d0,d1,d2,d3⟩:=u.at v'.o (k:=c) À;replace u:=u.put D g' (c)<|rF o p n s;go_wp2;refine(Mn o p n s _).mono ?_;rintro en h2⟨rfl,rfl⟩;go_upto_region 20 with fail
    generalize M h2 (zq g c) _=w5 at*;have⟨⟨z,hz⟩,q3,d0,d1,d2,d3⟩:=u.at v'.o (k:=c+1) À;replace u:=u.put D g' (c+1)<|rF p n s o;go_wp2;refine(Mn p n s o _).mono ?_;rintro en h2⟨rfl,rfl⟩;go_upto_region 21 with fail
    generalize M h2 (zq g<|c+1) _=w6 at*;have⟨⟨z,hz⟩,q3,d0,d1,d2,d3⟩:=u.at v'.o (k:=c+2) À;replace u:=u.put D g' (c+2)<|rF n s o p;go_wp2;refine(Mn n s o p _).mono ?_;rintro en h2⟨rfl,rfl⟩;go_upto_region 22 with fail
    generalize M h2 (zq g<|c+2) _=w7 at*;have⟨⟨z,hz⟩,q3,d0,d1,d2,d3⟩:=u.at v'.o (k:=c+3) À;replace u:=u.put D g' (c+3)<|rF s o p n;go_wp2;refine(Mn s o p n _).mono ?_;rintro en h2⟨rfl,rfl⟩;go_upto_region 16 with fail
    generalize M h2 (zq g<|c+3) _=w8 at*;have C:=u.b;have P:=u.t.cH λi h1=>HM i h1 G;clear u HM HE;go_wp2;go_roundw
    ·first|exact⟨c+4,À,À,Å,C,P⟩|((repeat apply Exists.intro);exact⟨⟨c+4,À,À,Å,C,P⟩,rfl⟩)
    exact Î
   have bt:¬(r:U)<10:=À
   have C:BK w key d w4:=I;have P:Jp w4 g (mj (iq d) (sf r<|iq d)<|c+4) 16 352:=es.cH<|HE G;clear I es ih HM HE;go_wp2;go_roundw
   ·first|exact⟨c+4,À,À,Å,C,P⟩|((repeat apply Exists.intro);exact⟨⟨c+4,À,À,Å,C,P⟩,rfl⟩)
   exact Î
  have ce:c=16:=À
  have c5:¬(c:U)<16:=À
  rw[ce]at j;have S:Jp wr g (sf r<|iq d) 16 352:=j.cH (λi h1=>TV);have hs:BK w key (mj d (rG key x r) 0) wr:=inv.cH (λi h1=>by unfold mj;simp);clear ce j inv;go_wp2;go_loopw [14] (λi wq=>∃k:aD,k<=16/\i=J k/\BK w key (mj d (rG key x r) k) wq/\Jp wq g (sf r<|iq d) 16 352) (λi _=>bL (16-bZ i));exact⟨0,À,O,hs,S⟩;clear hs S;obtain⟨k,hk,rfl,inv,j⟩:=hrel;by_cases hw:k<16
  ·have k5:(k:U)<16:=by omega
   have a1:IntKind.i64.wrap (16*(r:U))=16*(r:U):=Í
   have a2:IntKind.i64.wrap (16*(r:U)+(k:U))=16*(r:U)+(k:U):=Í
   have a3:16*(r:U)+(k:U)<176:=À
   have a4:(0:U)<=16*(r:U)+(k:U):=À
   have a5:bL (16*(r:U)+(k:U))=16*r+k:=À
   have d1:N wr (zq g k)=(J<|e8<|sf r (iq d) k):=j.i hw;have d2:N wr (zq (V<|Z' w)<|16*r+k)=(J<|e8<|kY key r k):=by rw[inv.b0.i À];unfold iO;rw[show(16*r+k)/16=r by omega,show(16*r+k)%16=k by omega]
   have d3:N wr (zq (V (Z' w)+1+1) k)=(J<|e8<|mj d (rG key x r) k k):=inv.b2.i hw;have d4:aX wr (zq (V (Z' w)+1+1) k)=ao:=inv.b2.eQ;have hx:=HN k;have C:BK w key (mj d (rG key x r)<|k+1)<|M wr.drew (zq (V (Z' w)+1+1) k)<|J<|e8<|rG key x r k:=(inv.W.H k _).cH λi _=>Q' _ _ k i;have P:Jp (M wr.drew (zq (V (Z' w)+1+1) k)<|J<|e8<|rG key x r k) g (sf r<|iq d) 16 352:=Jp.dR (w:=wr.drew) j À;clear inv j;generalize mj d (rG key x r) k k=z at*;generalize rG key x r k=v at*;generalize sf r (iq d) k=y at*;generalize kY key r k=n at*;go_wp2;go_still_tail 12,Ä;go_wp2;go_roundw
   ·first|exact⟨k+1,À,Å,C,P⟩|((repeat apply Exists.intro);exact⟨⟨k+1,À,Å,C,P⟩,rfl⟩)
   exact Î
  have ke:k=16:=À
  have k5:¬(k:U)<16:=À
  rw[ke]at inv;have C:BK w key (rG key x<|r+1-1) wr:=inv.cH (λi h1=>TV);clear ke j inv HN;go_wp2;go_roundw
  ·first|exact⟨r+1,À,À,Å,C⟩|((repeat apply ng);exact⟨⟨r+1,À,À,Å,C⟩,O⟩)
  exact Î
 obtain rfl:r=11:=À
 have inv:BK w key (Yr key x) wr:=inv;clear hr bc br;go_wp2;go_loopw [15,16] (λv i wq=>∃k:aD,k<=16/\i=J k/\v=E (kl (Yr key x) k)/\BK w key (Yr key x) wq) (λ_ i _=>bL (16-bZ i));exact⟨0,À,O,O,inv⟩;clear inv;obtain⟨k,hk,rfl,rfl,inv⟩:=hrel;by_cases L:k<16
 ·have k5:(k:U)<16:=by omega
  have bv:=Cz (Yr key x) k;have c1:N wr (zq (V (Z' w)+1+1) k)=(J<|e8<|Yr key x k):=inv.b2.i L;have HA:H<|kl (Yr key x) (k+1)=kl (Yr key x) k++nb (aN (Yr key x k)) 1:=by show _=_;unfold kl nb nb bq;rw[List.range_succ];simp
  have HV:BK w key (Yr key x) wr:=inv;clear inv;generalize kl (Yr key x) k=X at*;generalize Yr key x k=v at*;go_wp2;refine(wD (e8 v) 1 (aN v) 1 O O Ã _).mono ?_;rintro en w2⟨rfl,w3⟩;have bw:=Z2 (aN v) 1;have C:BK w key (Yr key x) w2:=HV.gN w3;clear w3 c1;generalize nb (aN v) 1=B at*;go_wp2;go_roundw
  ·first|exact⟨k+1,À,Å,by rw[HA.o],C⟩|((repeat apply ng);exact⟨⟨k+1,À,Å,by rw[HA.o],C⟩,O⟩)
  exact Î
 obtain rfl:k=16:=À
 have hb:=inv.fH;clear inv;go_wp2;go_ret;exact⟨by rw[HX];rfl,hb⟩
end
section
def Ŋ{f g}(h:∀i,i<16->f i=g i):∀i,i<16->iq f i=iq g i:=λi _=>by grind [iq]
def xdq{f g}(h:∀i,i<16->f i=g i):∀i,i<16->oZ f i=oZ g i:=λi a=>by grind [oZ]
def Q2{f g p q}(h:∀i,i<16->f i=g i)(a:∀i,i<16->p i=q i):∀i,i<16->pE f p i=pE g q i:=λi b=>by grind [pE]
theorem xjs{f g}(h:∀i,i<16->f i=g i)(c j):yv f c j=yv g c j:=by grind [yv]
def xj9{f g}(h:∀i,i<16->f i=g i)(c):∀i,i<16->lC f c i=lC g c i:=by intro i;induction i using Nat.strongRecOn with|_ i I=>intro b;by_cases a:i<4;grind [Ĥ,xjs];obtain⟨j,rfl⟩:∃j,i=j+4:=⟨i-4,À⟩;grind [ģ]
def Mr{f g}(h:∀i,i<16->f i=g i):∀n i,i<16->kY f n i=kY g n i
 |0=>h|n+1=>xj9 (Mr h n)<|tC n
def ň{k y x b}(h:∀i,i<16->k i=y i)(a:∀i,i<16->x i=b i):∀n i,i<16->FG k x n i=FG y b n i
 |0=>Q2 a<|Mr h 0
 |n+1=>Q2 (xdq<|Ŋ<|ň h a n)<|Mr h<|n+1
def xb5{k y x a}(h:∀i,i<16->k i=y i)(b:∀i,i<16->x i=a i):∀i,i<16->Yr k x i=Yr y a i:=
 Q2 (Ŋ<|ň h b 9) (Mr h 10)
def xoc{f g}(h:∀i,i<n->f i=g i):kl f n=kl g n:=by grind [kl,W6]
open Go.RowKit
attribute [local go_sem] zn zg zZ
def Jp.mE{b f}(d:Jp w b f n t):w.rangeAt b 0<|ki f n:=λj v c=>by
 have a:j<n:=by have:=(Wb.1 c).1;rwa[Mp]at this
 rw[j7,d.i a,<-c,ĥ _ _ _ a]
def Jp.lt{b f}(c:Jp w b f n t)(a:0<n):b<V (Z' w):=js<|c.i a
def L6(x:Addr):Sem Zv:=loadVar 318 x
def L1(x:Addr):Sem Zv:=loadVar 320 x
def ĺ(x):loadVar 318 x=L6 x:=O
def Ĺ(x):loadVar 320 x=L1 x:=O
attribute [local go_sem ↓] ĺ Ĺ
end
section
open Go.RowKit
attribute [local go_sem] zn zg zZ
attribute [local go_sem ↓] ĺ Ĺ
structure RO(w:Zy)(b7 b8 o:aD)(y z:Zu)(n:aD)(Z:Ze)(W:Zy):Prop where
 fH:aP (V<|Z' w) w W
 yy:V (Z' w)<=o
 n7:b7≠o
 n8:b8≠o
 r7:Jp W b7 Sn 256 318
 r8:Jp W b8 (iO y) 176 320
 ob:W.heap[o]?=ac (au (bH (kb z n++Z)) 5 (T (kb z n++Z),T (kb z n++Z)+1))
def RO.Lz{a o y b}(h:RO w b7 b8 o y b n Z a):o<V (Z' a):=(za.1 h.ob).1
def RO.gN{o y c}(h:RO w b7 b8 o y c n Z b)(a:aP (V<|Z' b) b w'):RO w b7 b8 o y c n Z w':=
 ⟨h.fH.trans<|a.mono h.fH.size,h.yy,h.n7,h.n8,h.r7.Y a<|h.r7.lt Ã,h.r8.Y a<|h.r8.lt Ã,(a.block _ h.Lz).trans h.ob⟩
def RO.W{o y a}(h:RO w b7 b8 o y a n Z b):RO w b7 b8 o y a n Z b.drew:=⟨h.fH.drew,h.yy,h.n7,h.n8,h.r7,h.r8,h.ob⟩
def RO.i{o y a}(h:RO w b7 b8 o y a n Z b)(k)(hk:k<n):N b (zq o k)=(zc<|a k):=zbw
def RO.eQ{a o y b}(h:RO w b7 b8 o y b n Z a)(k)(hk:k<n):aX a (zq o k)=ao:=by unfold aX;rw[h.ob];grind [tV]
theorem RO.H{o y a}(h:RO w b7 b8 o y a n Z b)(k)(hk:k<n)(v):RO w b7 b8 o y (λi=>if i=k then v else a i) n Z<|M b (zq o k)<|zc v:=by refine⟨h.fH.setCell h.yy _,h.yy,h.n7,h.n8,h.r7.dR h.n7,h.r8.dR h.n8,?_⟩;rw[zdm _ _ _ _ _ _ _ h.ob,Jr _ _ _ _ _ _ h.ob];grind [tV,Pb]
theorem RO.cH{o y a fy}(h:RO w b7 b8 o y a n Z b)(e:∀i,i<n->a i=fy i):RO w b7 b8 o y fy n Z b:=by have:=h.ob;rw[Pk e]at this;exact⟨h.fH,h.yy,h.n7,h.n8,h.r7,h.r8,this⟩
theorem Ľ(m):∀k j,j<k->(nb m k).getD j 0=mZ (m/256^(k-1-j))
 |k+1,0,_=>by rw[nb];simp[bq]|k+1,j+1,h=>by rw[nb,List.getD_cons_succ,Ľ m k j À,show k+1-1-(j+1)=k-1-j by omega]
def ja9(a)(b:T a=8)(m i)(c:i<16):(a++nb m 8).getD i 0=kN a m i:=by
 unfold kN;by_cases h:i<8;grind;rw[aL h];have e:(a++nb m 8).getD i 0=(nb m 8).getD (i-8) 0:=by simp[List.getD];rw[Xp À,b]
 grind [Ľ]
def xxn(c a)(b:T a=8)(m):kl (Yr c λi=>(a++nb m 8).getD i 0) 16=kl (Yr c<|kN a m) 16:=
 xoc (xb5 (λ_ _=>O) λj d=>ja9 a b m j d)
def ŋ(l n)(h:n<T l):l.getD n 0=(st l)[n]'(by rw[zn];exact h):=by show l.getD n 0=l[n];grind
def Ex(y:Zu)(z:Zl)(k:aD):Zl:=if k=0 then []else kl (Yr y<|kN z<|(k-1)/16) 16
def QZ(k d x)(hk:T k=16)(bh:T d=8)(hx:T x<=80000)(w):aK prog 197 #[E k,E d,E x] w λen w'=>en=ai (E<|nT k d x)/\aP (V<|Z' w) w w':=by
 have bs:=(zero_of_info Ĝ).1;have br:=(zero_of_info ě).1;have bl:V Ap=V (ki Sn 256).toArray:=by rw[QO,xV,xV]
 have bf:(prog.info? 318).map (·.size)=ac (V (ki Sn 256).toArray):=by rw[xV];exact QS
 have bj:=Mq Sn 256;obtain⟨c,ih⟩:∃c:aD->Z8,(λi=>k.getD i 0)=c:=⟨_,O⟩;have ba:(λi=>k.getD i 0)=c:=ih;have HC:∀W,aK prog 248 #[E k,bY (bH (ki Sn 256))] W λen w'=>en=ai (bY (bH (ki (iO c) 176)))/\aP (V<|Z' W) W w':=λW=>by grind [zxi]
 have bk:V IE=V (ki (iO c) 176).toArray:=by rw[Ě,xV,xV]
 have be:(prog.info? 320).map (·.size)=ac (V (ki (iO c) 176).toArray):=by rw[xV];exact QR
 have bi:=Mq (iO c) 176;have hr:(prog.info? 318).map (·.size)=ac (T (ki Sn 256)):=by rw[Mp];exact QS
 have e1:(prog.info? 320).map (·.size)=ac (T (ki (iO c) 176)):=by rw[Mp];exact QR
 have L:∀W b,Jp W b Sn 256 318->(L6<|zq b 0).run prog W=dG (bY (bH (ki Sn 256))) W:=λW b h=>run_loadVar_mid W b 0 318 (ki Sn 256) _ h.mE lA O hr;have h2:∀W b,Jp W b (iO c) 176 320->(L1<|zq b 0).run prog W=dG (bY (bH (ki (iO c) 176))) W:=λW b h=>run_loadVar_mid W b 0 320 (ki (iO c) 176) _ h.mE lB O e1;generalize Ap=zz6 at*;generalize IE=zz1 at*;go_enter func197.1,Tryz.ntmps197;go_wp2;refine(xi8 _).mono ?_;rintro en w1⟨rfl,r⟩;have t:aP (V<|Z' w) w<|aF w1<|au (bH (ki Sn 256)) 318:=r.alloc r.size _;have D:Jp (aF w1<|au (bH (ki Sn 256)) 318) (V<|Z' w1) Sn 256 318:=xn _ _;go_upto_region 2 with(refine Zo O 318 _ _ O w1.heap.size _ O O 318 zz6 (xn _ _) bf bl bj ?_;rw[og])
 have bq:V (Z' w)<=V (Z' w1):=r.size;generalize aF w1 (au (bH (ki Sn 256)) 318)=w2 at*;generalize V (Z' w1)=b7 at*;have B:=D.lt Ã
 go_wp2;refine(HC _).mono ?_;rintro en G⟨rfl,p⟩;have f:Jp (aF G<|au (bH (ki (iO c) 176)) 320) b7 Sn 256 318:=(D.Y p B).Y ((zt _ _).alloc (zd _) _)<|zm B p.size;have KX:Jp (aF G<|au (bH (ki (iO c) 176)) 320) (V<|Z' G) (iO c) 176 320:=xn _ _;have y:aP (V<|Z' w) w<|aF G<|au (bH (ki (iO c) 176)) 320:=(t.trans<|p.mono t.size).alloc (xa t.size p.size) _;go_upto_region 3 with(refine Zo O 320 _ _ O G.heap.size _ O O 320 zz1 (xn _ _) be bk bi ?_;rw[og])
 generalize aF G (au (bH (ki (iO c) 176)) 320)=w4 at*;generalize V (Z' G)=b8 at*;have bg:=KX.lt Ã;have B:=f.lt Ã;obtain⟨ho,Z,w5,bp,S,z,X⟩:=XI x w4;have C:RO w b7 b8 (V<|Z' w4) c (sF c d x 0) (T x) Z w5:=⟨y.trans<|z.mono y.size,y.size,À,À,f.Y z B,KX.Y z bg,by rw[X];rfl⟩;clear X z f KX y p t r;generalize V (Z' w4)=o at*;go_wp2;clear S;go_loopw [10,11] (λv i wr=>∃q:aD,q<=T x/\i=J q/\v=E (Ex c d q)/\RO w b7 b8 o c (sF c d x q) (T x) Z wr) (λ_ i _=>bL (T x-bZ i));exact⟨0,À,O,O,C⟩;clear C;obtain⟨q,hq,rfl,rfl,inv⟩:=hrel;by_cases g:q<T x
 ·have i1:(q:U)<(T x:aD):=by omega
  obtain⟨m,hm⟩:∃m,q/16=m:=⟨_,O⟩;obtain⟨s,hs⟩:∃s,q%16=s:=⟨_,O⟩;have F:s<16:=À
  have et:(q:U).tmod 16=(s:aD):=zdh
  have em:(q:U)%16=(s:aD):=À
  have hP:Ex c d (q+1)=kl (Yr c<|kN d m) 16:=by unfold Ex;rw[aL À,show(q+1-1)/16=m by omega]
  have HP:H<|uA c d q=Yr c (kN d m) s:=by show _=_;unfold uA;rw[hm,hs]
  by_cases h0:s=0
  ·have er:((q:U)%16==0)=ay:=by simp;omega
   have ed:(q:U).tdiv 16=(m:aD):=zdy
   clear h0;have HV:RO w b7 b8 o c (sF c d x q) (T x) Z wr:=inv;have R7:=inv.W.r7;have R8:=inv.W.r8;have HB:kl (Yr c λi=>(d++nb m 8).getD i 0) 16=kl (Yr c<|kN d m) 16:=xxn c d bh m;have hl:=Z2 m 8;have HL:∀W,aK prog 249 #[E<|d++nb m 8,bY (bH (ki (iO c) 176)),bY (bH (ki Sn 256))] W λen w'=>en=ai (ak<|st<|kl (Yr c<|kN d m) 16)/\aP (V<|Z' W) W w':=λW=>by rw[<-HB];grind [xi5]
   have I:∀W,aK prog 140 #[J m,J 8] W λen w'=>en=ai (E<|nb m 8)/\aP (V<|Z' W) W w':=λW=>wD (m:U) 8 m 8 O O Ã W;have bd:IntKind.i64.wrap (m:U)=(m:U):=Í
   have g':T (kl (Yr c<|kN d m) 16)=16:=Cz _ _;have n:H<|(kl (Yr c<|kN d m) 16).getD s 0=Yr c (kN d m) s:=VW _ _ _ F;clear inv HB;generalize nb m 8=NB at*;generalize kl (Yr c<|kN d m) 16=PP at*;generalize ki (iO c) 176=Y1 at*;generalize ki Sn 256=X6 at*;go_wp2;go_region_with (first
    |(go_at_call 140;go_fit (I _);rintro en v1⟨rfl,v'⟩;have hd:=HV.W.gN v';have bb:=hd.r7;have bc:=hd.r8;clear R7 R8)
    |(go_at_call 249;go_fit (HL _);rintro en v2⟨rfl,es⟩;have E2:=hd.gN es))
   all_goals (
    have inv:=E2;clear bb bc hd E2 v' es HL I bd er ed HV L h2;obtain⟨b,h1⟩:∃b,(st PP)[s]'(by rw[zn,g'];exact F)=b:=⟨_,O⟩;have bn:(s:U)<(T PP:aD):=À
    have bo:(s:U)<16:=À
    have eb:uA c d q=b:=ze0
    have c1:N v2 (zq o q)=(zc<|x.getD q 0):=ze3
    have f1:aX v2 (zq o q)=ao:=inv.eQ q g;have u:RO w b7 b8 o c (sF c d x<|q+1) (T x) Z<|M v2.drew (zq o q)<|zc<|x.getD q 0^^^b:=by refine(inv.W.H q g _).cH λi _=>?_;unfold sF;by_cases e:i=q;simp_all;rw[aL e];by_cases e2:i<q;rw[aT e2,aT À];rw[aL e2,aL À]
    have bm:lr .xor .u8 (e8<|x.getD q 0) (aN b:U)=e8 (x.getD q 0^^^b):=zZ _ b;have l:H<|Ex c d (q+1)=PP:=hP;clear inv eb hP HP n hm hs;generalize x.getD q 0^^^b=v at*;generalize x.getD q 0=a at*;go_wp2;go_still_tail 12,Ä;go_wp2;go_roundw
    ·first|exact⟨q+1,À,Å,by rw[l.o],u⟩|((repeat apply Exists.intro);exact⟨⟨q+1,À,Å,by rw[l.o],u⟩,rfl⟩)
    grind [bZ])
  have er:((q:U)%16==0)=ao:=Ç
  have h3:Ex c d q=kl (Yr c<|kN d m) 16:=by unfold Ex;rw[aL À,show(q-1)/16=m by omega]
  have g':T (kl (Yr c<|kN d m) 16)=16:=Cz _ _;have n:H<|(kl (Yr c<|kN d m) 16).getD s 0=Yr c (kN d m) s:=VW _ _ _ F;rw[h3];clear L h2 h3;generalize kl (Yr c<|kN d m) 16=PP at*;obtain⟨b,h1⟩:∃b,(st PP)[s]'(by grind [zn])=b:=⟨_,O⟩;have bn:(s:U)<(T PP:aD):=À
  have bo:(s:U)<16:=À
  have eb:uA c d q=b:=ze0
  have c1:N wr (zq o q)=(zc<|x.getD q 0):=ze3
  have f1:aX wr (zq o q)=ao:=inv.eQ q g;have u:RO w b7 b8 o c (sF c d x<|q+1) (T x) Z<|M wr.drew (zq o q)<|zc<|x.getD q 0^^^b:=by refine(inv.W.H q g _).cH λi _=>?_;unfold sF;by_cases e:i=q;grind;grind
  have bm:lr .xor .u8 (e8<|x.getD q 0) (aN b:U)=e8 (x.getD q 0^^^b):=zZ _ b;have l:H<|Ex c d (q+1)=PP:=hP;clear inv eb hP HP n hm hs;generalize x.getD q 0^^^b=v at*;generalize x.getD q 0=a at*;go_wp2;go_still_tail 12,Ä;go_wp2;go_roundw
  ·first|exact⟨q+1,À,Å,by rw[l.o],u⟩|((repeat apply Exists.intro);exact⟨⟨q+1,À,Å,by rw[l.o],u⟩,rfl⟩)
  exact Ì
 have i1:¬(q:U)<(T x:aD):=À
 have inv:=inv.cH (fy:=λi=>x.getD i 0^^^uA c d i) (λi hi=>by grind [sF]);have S:(convert 163 9<|aB (ac ⟨o,0,aw⟩) (T x) ho).run prog wr=dG (E<|nT k d x) wr:=by
  have e:nT k d x=kl (λi=>x.getD i 0^^^uA c d i) (T x):=by show kl (λi=>x.getD i 0^^^uA (λj=>k.getD j 0) d i) (T x)=_;rw[ba]
  rw[e];have h:=iy (P:=prog) wr 163 9 5 (zq o 0) ho (kl (λi=>x.getD i 0^^^uA c d i) (T x)) cT eY dK (λj hj=>by rw[pS,j7];rw[Cz]at hj;rw[inv.i j hj];simp[kl,e8]);rw[Cz]at h;exact h
 have hb:=inv.fH;clear inv;go_wp2;go_ret;simp_all
end
section
open Go.RowKit
attribute [local go_sem] zn zg
section
variable{Q:Exit→mh→Zy→Prop}
def Ķ(m l x)(hx:x=st l)(n)(k:aD)(hk:n=(k:U))(d:T m=32)(a:T l<=4063)(c:k<=255)(w)(b:Yq w):aK prog 201 #[E m,ak ⟨#[]⟩,ak x,J n] w λy w'=>y=ai (E<|yu (Wu [] m) l k)/\aP (V<|Z' w) w w':=by subst hx;subst hk;exact xa1 m [] l À Â a k c w b
def Q8(C f)(y:aD)(w)(h:Ju w C f)(i:Yq w)(j:T f.m=32):aK prog 198 #[K C,J y] w λe w'=>e=ai (E<|Ji f.m y)/\aP (V<|Z' w) w w':=by
 have c:∀w1,aP (V<|Z' w) w w1->N w1 (zq C 7)=ac _:=λw1 b=>(h.bT.Y b).i 7 O;have g:H<|(⟨#[99,105,112,104,101,114]⟩:eM)++st (nb y 1)=st (Ef++nb y 1):=by show _=_;rw[show(⟨#[99,105,112,104,101,114]⟩:eM)=st Ef from O,zg]
 have l1:=Z2 y 1;have a:aP (V<|Z' w) w w.drew:=(zt _ _).drew;go_enter func198.1,Tryz.ntmps198;go_wp2;go_region_held3 (λw'=>N w' (zq C 7)=E f.m) (first|exact(h.bT.i 7 O)|exact d)
  (first
   |(go_at_call 140;apply(wD _ _ y 1 O O Ã _).mono;rintro e w1⟨rfl,b⟩;replace a:=Xs a b;have d:=c _ a)
   |(go_at_call 201;apply(Ķ f.m _ _ g.o _ 16 O j (by simp[Ef];omega) Ã _<|i.gN a).mono;rintro e w1⟨rfl,b⟩;replace a:=Xs a b;have d:=c _ a))
 try clear hHeld
 go_wp2;go_ret;exact⟨O,a⟩
def Ms(C f)(y:aD)(w)(h:Ju w C f)(i:Yq w)(j:T f.m=32):aK prog 143 #[K C,J y] w λe w'=>e=ai (E<|Y7 f.m y)/\aP (V<|Z' w) w w':=by
 have c:∀w1,aP (V<|Z' w) w w1->N w1 (zq C 7)=ac _:=λw1 b=>(h.bT.Y b).i 7 O;have g:H<|(⟨#[116,97,103]⟩:eM)++st (nb y 1)=st (Ec++nb y 1):=by show _=_;rw[show(⟨#[116,97,103]⟩:eM)=st Ec from O,zg]
 have l1:=Z2 y 1;have a:aP (V<|Z' w) w w.drew:=(zt _ _).drew;go_enter func143.1,Tryz.ntmps143;go_wp2;go_region_held3 (λw'=>N w' (zq C 7)=E f.m) (first|exact(h.bT.i 7 O)|exact d)
  (first
   |(go_at_call 140;apply(wD _ _ y 1 O O Ã _).mono;rintro e w1⟨rfl,b⟩;replace a:=Xs a b;have d:=c _ a)
   |(go_at_call 201;apply(Ķ f.m _ _ g.o _ 32 O j (by simp[Ec];omega) Ã _<|i.gN a).mono;rintro e w1⟨rfl,b⟩;replace a:=Xs a b;have d:=c _ a))
 try clear hHeld
 go_wp2;go_ret;exact⟨O,a⟩
def xkk(pv P)(G:T P<=20)(d:∀c∈P,qX c)(w)(h:Rw w 147 3 t6 pv P):aK prog 133 #[pv] w λe w'=>e=ai (E<|Z5 P)/\aP (V<|Z' w) w w':=by
 obtain⟨a,z,rfl⟩:=h.dL;have x:=d;go_enter func133.1,Tryz.ntmps133;go_wp2;go_loopw [3,4] (λs i wr=>∃j:aD,j<=T P/\i=J j/\s=E (Z5<|P.take j)/\aP (V<|Z' w) w wr) (λ_ i _=>bL (T P-bZ i));exact⟨0,À,O,O,zt _ _⟩;obtain⟨j,W,rfl,rfl,m⟩:=hrel;have p:=m;by_cases f:j<T P
 ·have C:(j:U)<(T P:aD):=by omega
  obtain⟨g,rfl,r⟩:=h.lp (λ_=>O) f O;have l:∀w',aP (V<|Z' w) w w'->N w' (zq g<|j*3)=(bG<|cG P[j])/\N w' (zq g<|j*3+1)=(E<|cK P[j])/\N w' (zq g<|j*3+2)=(E<|cV P[j]):=λw' t=>⟨(zj.J (S:=λ_=>False) t).i id<|r 0 À,(zj.J (S:=λ_=>False) t).i id<|r 1 À,(zj.J (S:=λ_=>False) t).i id<|r 2 À⟩;have y:H<|Z5 (P.take<|j+1)=Z5 (P.take j)++vI P[j]:=by show _=_;rw[zp f,ď]
  have I:T (Z5<|P.take j)<=1020:=by have:=Iw λc B=>x c<|Fq (i:=j) B;rw[xf]at this;omega
  have d:=x _<|Xk f;generalize P[j]=c at*;generalize Z5 (P.take j)=X at*;have n:=l _ p;have b:aP (V<|Z' w) w wr.drew:=p.drew;cases c with
  |del k=>
   simp only[cG,cK,cV,qX]at n l d;have l1:=Z2 (T k) 1;have D:¬9223372036854775807<T X+1:=À
   have u:¬9223372036854775807<T X+1+1:=À
   have F:¬9223372036854775807<T X+1+1+T k:=À
   have q:H<|st X++(⟨#[68]⟩:eM)++st (nb (T k) 1)++st k=st (X++vI (.del k)):=by show _=_;rw[show(⟨#[68]⟩:eM)=st [68]from O,zg,zg,zg];simp[vI]
   go_wp2;go_region_held3 (λw'=>N w' (zq g<|j*3)=bG ay/\N w' (zq g<|j*3+1)=E k/\N w' (zq g<|j*3+2)=(ak<|st [])) (first|exact n|exact o)
    (first
     |(go_at_call 140;refine(FI _ 1 Ã _).mono ?_;rintro e w1⟨rfl,m⟩;replace b:=Xs b m;have o:=l _ b))
   try clear hHeld
   go_wp2;go_roundw;exact⟨j+1,À,Å,by rw[q.o,y.o],b⟩;exact Ì
  |put k v=>
   simp only[cG,cK,cV,qX]at n l d;have l1:=Z2 (T k) 1;have hd:=Z2 (T v) 1;have D:¬9223372036854775807<T X+1:=À
   have u:¬9223372036854775807<T X+1+1:=À
   have F:¬9223372036854775807<T X+1+1+1:=À
   have h1:¬9223372036854775807<T X+1+1+1+T k:=À
   have L:¬9223372036854775807<T X+1+1+1+T k+T v:=À
   have q:H<|st X++(⟨#[80]⟩:eM)++st (nb (T k) 1)++st (nb (T v) 1)++st k++st v=st (X++vI (.put k v)):=by show _=_;rw[show(⟨#[80]⟩:eM)=st [80]from O,zg,zg,zg,zg,zg];simp[vI,sQ]
   go_wp2;go_region_held3 (λw'=>N w' (zq g<|j*3)=bG ao/\N w' (zq g<|j*3+1)=E k/\N w' (zq g<|j*3+2)=E v) (first|exact n|exact o)
    (first
     |(go_at_call 140;refine(FI _ 1 Ã _).mono ?_;rintro e w1⟨rfl,m⟩;replace b:=Xs b m;have o:=l _ b))
   clear o;try clear hHeld
   go_wp2;go_roundw;exact⟨j+1,À,Å,by rw[q.o,y.o],b⟩;exact Ì
 obtain rfl:j=T P:=À
 have C:¬(T P:U)<(T P:aD):=À
 rw[jz];go_wp2;go_ret;exact⟨O,p⟩
def Dk.ĳ(d:Dk):ez×Dk:=if d.cS=ay then(ao,d.eS)else(ay,d.dZ)
theorem Dk.Bq(d:Dk):{d.dZ with L:=d.L}=d.dZ:=by unfold Dk.dZ;split<;>rfl
theorem Rf.Br(f:Rf):{f.dZ with fv:=f.fv,F:=f.F}=f.dZ:=by unfold Rf.dZ;split<;>rfl
def Ļ(C f d w)(h:Ju w C f)(a:Tw d f)(g:bO d.L<=400000):aK prog 195 #[K C] w<|qZ C f d.ĳ w:=by have y:=a.ok g;refine(ZC C f w h y.fU y.nd (by have:=y.gT;omega) y.cQ y.ko).mono λe j k=>?_;unfold Dk.ĳ;cases z:d.cS;obtain⟨rfl,c⟩:=k.go<|a.cS.trans z;obtain⟨m,-,b⟩:=f.vN f.fv f.F;rw[aL Â];refine⟨O,f.fv,f.F,f.nE,m,?_,?_⟩;grind;rw[Cc,<-b];have i:=a.dZ z (v:=f.fv) a.gF a.gL a.mJ a.mt a.fU;grind [Dk.Bq,Rf.Br];obtain⟨rfl,c⟩:=k.cr<|a.cS.trans z;grind [qZ.cr]
def QU(a:(F.map (·.1)).Nodup)(b:∀p∈F,p.2.1≠[]):jB F:=⟨a,b⟩
theorem Ey(g:jB F){k v}(h:(k,v)∈F):Zm F k=v:=by unfold Zm;rw[(Vs g.nd (k,v)).1 h];rfl
theorem Ra{k}(h:∀p∈F,p.1≠k):Zm F k=([],0):=by unfold Zm;cases e:Xm F k with|none=>rfl|some v=>exact dC O<|h _<|Ve e
def xty{B n v u}(g:jB (ſ++(n,v)::B))(b:u.1≠[]):jB (ſ++(n,u)::B)/\∀k,Zm (ſ++(n,u)::B) k=if k=n then u else Zm (ſ++(n,v)::B) k:=by
 have c:jB (ſ++(n,u)::B):=by refine QU (by have:=g.nd;grind) λp a=>?_;obtain h|h:=je.1 a;exact g.ne p ta;obtain rfl|h:=jc.1 h;exact b;exact g.ne p ta
 grind [Ey,Ra]
def xt2{z n x}(g:jB F)(l:Xm F n=aw)(hx:x≠[])(h:z.Perm<|(F++[(n,x,0)]).filter o4):jB z/\∀k,Zm z k=if k=n then(x,0)else Zm F k:=by
 have e:(F++[(n,x,(0:U))]).filter o4=F++[(n,x,0)]:=List.filter_eq_self.2 λp c=>by obtain h|h:=je.1 c;have:=g.ne p h;simp[o4,this];grind [o4]
 rw[e]at h;have m:=H6 l;have d:jB<|F++[(n,x,(0:U))]:=by refine QU ?_ λp c=>?_;rw[qz,GK];refine⟨g.nd,Â,λa o b q=>?_⟩;grind;obtain h|h:=je.1 c;exact g.ne p h;grind
 have f:=QU ((h.map _).nodup_iff.2 d.nd) λp c=>d.ne p<|h.mem_iff.1 c;refine⟨f,λk=>?_⟩;have i:Zm z k=Zm (F++[(n,x,0)]) k:=by unfold Zm;rw[QM h f.nd]
 rw[i];by_cases hk:k=n;grind [Ey];rw[aL hk];cases u:Xm F k with
 |some y=>rw[Ey g<|Ve u];exact Ey d<|by simp[Ve u]
 |none=>have j:=H6 u;rw[Ra j];refine Ra λp c=>?_;grind
def Rw.wS{f ſ B}{p q:α}(h:Rw w e k f (aB (ac ⟨g,0,aw⟩) n c) (ſ++p::B))(d:∀a,T (f a)=k)(i u)(D:i<k)(v:f q=(f p).set i u):Rw (M w (zq g<|T ſ*k+i) u) e k f (aB (ac ⟨g,0,aw⟩) n c) (ſ++q::B):=by obtain⟨q,_⟩|⟨y,m,b,x,s,t,z,o,C,j⟩:=h.2;cases q;cases x;have r:xh w g b e:=t;have l:=r.H (T ſ*k+i) u;refine⟨?_,Y ⟨g,c,_,?_,s,l,?_,o,Á,?_⟩⟩;rw[Bh d];simp;grind;simp only[Array.toList_setIfInBounds,List.take_set];simp only[zx,xg]at j⊢;rw[j,Wz,Wi,Wz,Wi,v,<-Bh d ſ,Vy _ _ À,Ko,List.set_append_left _ _ Á]
def xqb{ſ B n v u}(h:wJ (ſ++(n,v)::B)):wJ (ſ++(n,u)::B):=by
 have a:((ſ++(n,v)::B).map (·.1)).Pairwise (·<·):=Wk.2 h;have b:(ſ++(n,v)::B).map (·.1)=(ſ++(n,u)::B).map (·.1):=Â
 grind
def Tw.Ĵ{d B n}{v u:Zl×U}(h:Tw d f)(a:f.F=ſ++(n,v)::B)(b:u.1≠[])(i:kh n)(c:0<=u.2/\u.2<=(T u.1:aD)/\T u.1<=1000000):Tw {d with L:=Vm d.L n u} {f with F:=ſ++(n,u)::B}:=by have⟨g,y⟩:=xty (a▸h.gF) b;refine⟨h.bU,g,h.gL.np _ _,λk=>?_,xqb<|a▸h.mt,h.fU.np i c,h.nx,h.cQ,h.ko⟩;rw[y k];by_cases hk:k=n;subst hk;rw[aT O,Mj h.gL λe=>dC e b];rw[aL hk,Mi hk,<-h.mJ,a]
def Xf.C9{B p q}(h:Ju w C f)(d:f.fv=aB (ac ⟨g,0,aw⟩) m c)(j:f.F=ſ++p::B)(i u)(l:i<3)(n:mr q=(mr p).set i u):Xf C f w {f with F:=ſ++q::B}<|M w (zq g<|T ſ*3+i) u:=by
 have b:=zj.H w (zq g<|T ſ*3+i) u;have k:f.fv.ownBlock=ac g:=by rw[d];rfl
 refine⟨b.U λx a=>Y (aJ Á),⟨h.bT.y b λe=>h.fs.ir h.bT Ã g k e.symm,?_,h.ss.y b λx a e=>h.ss.fh h.fs Ã a Á,h.ps.y b λx a e=>h.ps.fh h.fs Ã a Á,λe=>oz⟩,λx a=>aJ a⟩;rw[d];exact(d▸j▸h.fs).wS (λ_=>O) i u l n
def Tw.QT{d D y}(h:Tw d f)(c:Tw D y)(e:D.L=d.L):y.F=f.F:=by exact(Ę c.gF h.gF λk=>by rw[c.mJ,h.mJ,e]).eq_of_pairwise (le:=λa b=>a.1<b.1) (λa b _ _ g i=>À) c.mt h.mt
def vP.gC{d}(h:Ju w C f)(a:Tw d f)(b:bO d.L<=400000):vP C f d w f w:=⟨.refl h,a,⟨f.fv,f.F,f.nE,f.ko,O⟩,b⟩
theorem vP.kM{b y d c w1 g}(h:vP C f d w b w1)(t:Xf C b w1 y g)(j:Tw c y)(e:y=b.dk y.fv y.F y.nE y.ko b.gw)(i:bO c.L<=400000):vP C f c w y g:=by obtain⟨v,F,a,n,rfl⟩:=h.dk;exact⟨h.rt.aE t,j,⟨y.fv,y.F,y.nE,y.ko,e⟩,i⟩
def Dk.gu(d:Dk)(n:U)(x:Zl):ez×Dk:=if d.cS=ay then(ao,d.eS)else if(d.gt n x).cS=ay then(ao,(d.gt n x).eS)else(ay,(d.gt n x).uC n)
section
variable{S w X:dN}{t:aD}{f:α->bA eJ}{v:eJ}{l:bA α}
def xpq{W:Zy}{l2:bA α}(P:El t e k)(h:W.ownsRow d e k v (T l)<|l.flatMap f)(hd:d<=V (Z' W))(r:Rw W e k f (aB (ac ⟨g,0,aw⟩) (T l2) c) l2)(n:l2≠[])(g':T l+T l2<=1000000)(hk:∀a,T (f a)=k)(L:∀a,∀u∈f a,u.oneCell'=ay)
  (I:a.eval s=v)(hx:a.eval x=aB (ac ⟨g,0,aw⟩) (T l2) c)(m:o.guard=aw)(ho:o.op= .call {callee:= .builtin .append,args:=#[s,x],argTypes:=#[t,t]})
  (h1:∀g cap X,X.ownsRow d e k (aB (ac ⟨g,0,aw⟩) (T l+T l2) cap) (T (l++l2)) ((l++l2).flatMap f)->zj (λy=>v.ownBlock=ac y) W X->wpList prog ops Q rest (a.put o.dst<|aB (ac ⟨g,0,aw⟩) (T l+T l2) cap) X):wpList prog ops Q (o::rest) a W:=by
 obtain⟨i,z,C,h2,p,B,w⟩:=P.FY;have F:=Z0.2 n;refine wpList_append_lies _ m s x t ho d e i z k i.bytes P.Bf C h2 p O w P.iE v (T l) _ I h (zq g 0) (T l2) c _ hx (Bh hk l2) ?_ ?_ F è ?_ hd _ O ?_;exact λj u wr=>r.cells O j u wr;grind;have:(T l+T l2)*i.bytes<=1000000*100:=GP À B;omega;intro g cap X v' b _ _;refine h1 g cap X ?_ ⟨b.os,b.output,b.size,λq G D=>b.block q G λe=>D e.symm⟩;grind
def ff.C4(B:aD)(n:V (Z' w)=B)(W:El t e k)(b:α)(d:Nw S w)(h:w.ownsRow (V<|Z' S) e k v (T l)<|l.flatMap f)(r:T l<=1000000000000)(q:f b=eV cs)(hk:T (f b)=k)(i:∀u∈f b,u.oneCell'=ay)
  (z:a.eval s=v)(hx:a.eval x=aB (ac ⟨B,0,aw⟩) 1 1)(c:o.guard=aw)(ho:o.op= .call {callee:= .builtin .append,args:=#[s,x],argTypes:=#[t,t]})
  (D:∀g cap X,ff S X e k f (aB (ac ⟨g,0,aw⟩) (T l+1) cap) (l++[b])->wpList prog ops Q rest (a.put o.dst<|aB (ac ⟨g,0,aw⟩) (T l+1) cap) X):wpList prog ops Q (o::rest) a<|aF w<|au cs e:=
 DP c λ_ p=>LU W b (h.alloc _) (xa d.Q Â) r (xh.ex w cs e) q hk i z (n▸hx) ho λg cap X j m _=>p _ _<|D g cap X ⟨(d.aE<|zj.E _).ib m λy C=>(h.lt y C).1,j,λe=>oz⟩
end
def ķ(h:k<T F):∃ſ B,F=ſ++F[k]::B/\T ſ=k:=⟨F.take k,F.drop<|k+1,Â,Á⟩
theorem Wq(d:Dk):d.dZ.L=d.L:=za4
def Ł(C f d n x w)(h:Ju w C f)(ht:Tw d f)(hu:bO d.L+(T x:Int)<=400000)(hn:kh n)(hx:x≠[]):aK prog 144 #[K C,J n,E x] w<|qZ C f (d.gu n x) w:=by
 have be:bO d.L<=400000:=À
 have H0:=vP.gC h ht be;have HT:=ht;have HU:=hu;have HN:=hn;have HX:=hx;have bo:(T x:U)<=400000:=by have:=ZK d.L;omega
 go_enter func144.1,Tryz.ntmps144;go_wp2;refine(Ļ C f d _ H0.rt.dI H0.tw be).mono ?_;rintro e w1 hk;have ba:qZ C f (if d.cS=ay then(ao,d.eS)else(ay,d.dZ)) w e w1:=hk;obtain⟨rfl,z,j⟩:=H0.eG ba (λhb=>by cases hs:d.cS;simp[Wq];exact be;simp_all);cases hs:d.cS;rotate_left
 ·rw[hs,aT O]at z j;have HE:qZ C f (d.gu n x) w (ai<|bG ao) w1:=by show qZ _ _ _ _ _ _;unfold Dk.gu;rw[aT hs];exact j O
  go_wp2;go_ret;exact HE
 rw[hs,aL Â]at z j;obtain⟨i,D,-⟩:=z O;have c:=D;have HA:H<|d.gu n x=if(d.gt n x).cS=ay then(ao,(d.gt n x).eS)else(ay,(d.gt n x).uC n):=by show _=_;unfold Dk.gu;rw[aL<|by simp[hs]]
 have bp:T i.F<=400000:=by have q:=wQ D.tw.gF.ne;rw[D.tw.wP,Wq]at q;omega
 go_wp2;refine(Ir C i n _ c.rt.dI À).mono ?_;obtain⟨a,S,hv⟩:=c.rt.dI.fs.dL;have HV:=hv;rintro e t⟨rfl,⟨k,hk,rfl,z,j⟩|⟨rfl,j⟩⟩;focus
  obtain⟨ſ,B,h2,Z⟩:=ķ hk;obtain⟨⟨m,o,P⟩,hp⟩:∃p,i.F[k]=p:=⟨_,O⟩;rw[hp]at h2 z j;have z:n=m:=Eq.symm z;subst z;obtain⟨g,rfl,hc⟩:=c.rt.dI.fs.lp (λ_=>O) hk HV;rw[hp]at hc;have e1:N t (zq g<|k*3+1)=E o:=hc 1 À;have c3:N t (zq C 3)=aB (ac ⟨g,0,aw⟩) (T i.F) S:=HV▸c.rt.dI.bT.i 3 O;have fz:aX t (zq g<|k*3+1)=ao:=(show Rw t 159 3 mr (aB (ac ⟨g,0,aw⟩) (T i.F) S) i.F from HV▸c.rt.dI.fs).dS _;have i1:¬(k:U)<0:=À
  have i2:(k:U)<(T i.F:aD):=À
  have hE:=c.tw.rZ _ (by simp_all:(n,o,P)∈i.F);have bb:=c.tw.gF.ne _ (by simp_all:(n,o,P)∈i.F);simp only at hE bb;have m1:¬9223372036854775807<T o+T x:=by have:=hE.2;omega
  have s:Zm d.L n=(o,P):=by rw[<-Wq d,<-c.tw.mJ];exact Ey c.tw.gF É
  have bk:(T (o++x):U)<=400000:=by have q:=In d.L n;have e:jp d.L n=o:=gv o7 s;rw[e]at q;rw[zx];have:=HU;omega
  have e2:d.gt n x={d.dZ with L:=Vm d.dZ.L n (o++x,P)}:=by unfold Dk.gt;have e:jp d.L n=o:=gv o7 s;rw[e,s,Wq]
  have r1:=Xf.C9 (q:=(n,o++x,P)) c.rt.dI HV h2 1 (E<|o++x) Ã O;have t1:=c.tw.Ĵ h2 (u:=(o++x,P)) É HN ⟨hE.2.1,by simp only[zx];omega,by show(o++x).length<=1000000;omega⟩;rw[<-e2]at t1;have I:bO (d.gt n x).L<=400000:=by have q:=yP (F:=d.L) n (o++x,P);have e:jp d.L n=o:=gv o7 s;rw[e]at q;show bO _<=_;rw[e2];show bO (Vm d.dZ.L n (o++x,P))<=_;rw[Wq];simp only[zx]at q;have:=HU;omega
  have hd:=c.kM r1 t1 O I;rw[Z]at hd;obtain⟨G,ho⟩:∃G,G=({i with F:=ſ++(n,o++x,P)::B}:Rf):=⟨_,O⟩;rw[<-ho]at hd;have v:vP C f (d.gt n x) w G (M t (zq g<|k*3+1)<|E<|o++x).drew:=hd.kM (.nw hd.rt.dI (zj.refl _ _).W) hd.tw O hd.q8;have Q:H (G.F=ſ++(n,o++x,P)::B):=by show _=_;rw[ho]
  clear hc h2 j r1 t1 hp hd ho;go_wp2;go_still_tail 15,Ä;go_wp2;generalize(M t (zq g<|k*3+1)<|E<|o++x).drew=w3 at*;generalize o++x=bx at*;clear HV c hk
 rotate_left;focus
  have c3:N t (zq C 3)=aB a (T i.F) S:=HV▸c.rt.dI.bT.i 3 O;have hC:=c.rt.dI.bT.lt;have O1:(aF t<|au #[] 159).ownsRow (V<|Z' t) 159 3 (aB (ac ⟨V<|Z' t,0,aw⟩) 0 0) (T ([]:Xv))<|([]:Xv).flatMap mr:=World.ownsRow_lit t #[] 0 (zd _) À O;have N1:Nw t<|aF t<|au #[] 159:=zj.E _;by_cases wr:i.F=[];focus
   have bm:N t (zq C 3)=aB aw 0 0:=(c.rt.dI.fn wr)▸c.rt.dI.bT.i 3 O;have g':=wr;clear wr c3;go_wp2_with (refine ff.C4 (V (Z' t)+1) Â CT (n,x,0) N1 O1 Â O O (CQ _) O O O O ?_);intro h1 r w3 W;have v':ff t w3 159 3 mr (aB (ac ⟨h1,0,aw⟩) 1 r)<|i.F++[(n,x,(0:U))]:=by show ff _ _ _ _ _ _ _;rw[g'];exact W
   clear W g' bm;go_wp2;generalize aB (ac ⟨h1,0,aw⟩) 1 r=v9 at*
  rotate_left;focus
   obtain⟨g,rfl,-⟩:=c.rt.dI.fs.lp (λ_=>O) (Z0.2 wr) HV;have R1:Rw (aF t<|au #[] 159) 159 3 mr (aB (ac ⟨g,0,aw⟩) (T i.F) S) i.F:=(HV▸c.rt.dI.fs:Rw t 159 3 mr (aB (ac ⟨g,0,aw⟩) (T i.F) S) i.F).y N1 λ_ _=>id;have g':=wr;clear wr;go_wp2_with (refine xpq (l:=[]) CT O1 Â R1 g' Ç (λ_=>O) CQ O O O O ?_);intro h1 r w3 W bh;have N3:Nw t w3:=N1.ib bh λy hy=>by cases hy;grind
   have bf:=W;clear W bh c3 R1 g';go_wp2_with (refine ff.C4 (V<|Z' w3) O CT (n,x,0) N3 bf À O O (CQ _) O O O O ?_);intro g4 bg w4 bj;obtain⟨w3,rfl⟩:∃y,y=w4:=⟨_,O⟩;have v':=bj;clear bj bf N3;go_wp2;generalize aB (ac ⟨g4,0,aw⟩) (T i.F+1) bg=v9 at*
  all_goals
   have HM:((i.F++[(n,x,(0:U))]).map (·.1)).Nodup:=by show List.Nodup _;rw[qz,GK];refine⟨c.tw.gF.nd,Â,λa ha b hb=>?_⟩;obtain⟨p,hp,rfl⟩:=Xe.1 ha;simp at hb;rw[hb];exact H6 j p hp
   refine(Qe C i _ v9 _ (c.rt.dI.y v'.nw) v'.rw HM Á).mono ?_;rintro e w4⟨rfl,v4,F4,D,h4,h5⟩;obtain⟨g4,bc⟩:=xt2 c.tw.gF j HX h4;have s:Zm d.L n=([],0):=by rw[<-Wq d,<-c.tw.mJ];unfold Zm;rw[j];rfl
   have e2:d.gt n x={d.dZ with L:=Vm d.L n (x,0)}:=by unfold Dk.gt;have e:jp d.L n=[]:=gv o7 s;rw[e,s,qj]
   have t4:Tw (d.gt n x) {i with fv:=v4,F:=F4}:=by
    rw[e2];refine⟨c.tw.bU,g4,jB.np (by have:=c.tw.gL;grind [Wq]) _ _,λk=>?_,h5,oQ.np (by have:=c.tw.fU;grind [Wq]) HN ⟨Â,Â,Á⟩,c.tw.nx,c.tw.cQ,c.tw.ko⟩;show Zm F4 k=Zm (Vm d.L n (x,0)) k;have gL:jB d.L:=by have:=c.tw.gL;rw[Wq]at this;exact this
    rw[bc k];by_cases hk:k=n;grind [Mj];rw[aL hk,Mi hk,c.tw.mJ,Wq]
   have I:bO (d.gt n x).L<=400000:=by have q:=yP (F:=d.L) n (x,0);have e:jp d.L n=[]:=gv o7 s;rw[e]at q;show bO _<=_;rw[e2];show bO (Vm d.L n (x,0))<=_;simp only[qy]at q;have:=HU;omega
   have hd:=c.kM ((Xf.nw c.rt.dI v'.nw).aE D) t4 O I;obtain⟨G,ho⟩:∃G,G=({i with fv:=v4,F:=F4}:Rf):=⟨_,O⟩;rw[<-ho]at hd;have v:=hd;have bn:T G.F<=400000:=by have q:=wQ hd.tw.gF.ne;rw[hd.tw.wP]at q;have:=I;omega
   have es:Zm G.F n=(x,0):=by rw[ho];show Zm F4 n=_;rw[bc n,aT O]
   clear j D h4 h5 g4 bc s e2 t4 hd ho v' HM;go_wp2;refine(Ir C G n _ v.rt.dI À).mono ?_;rintro e w5⟨rfl,⟨k,hk,rfl,z,j⟩|⟨rfl,j⟩⟩;rotate_left;exfalso;unfold Zm at es;rw[j]at es;cases es;exact HX O;obtain⟨ſ,B,h2,Z⟩:=ķ hk;have h3:G.F[k]=(n,x,0):=by
    have e:Zm G.F n=G.F[k].2:=by unfold Zm;rw[j];rfl
    rw[es]at e;exact Prod.ext z e.symm
   rw[h3]at h2;have Q:=xe h2;clear z j h3 h2 es hk bn;have bk:=bo;generalize hbx:x=bx at Q bk;generalize(0:U)=P at Q;obtain⟨w3,rfl⟩:∃y,y=w5:=⟨_,O⟩;clear hbx;go_wp2
 all_goals
  refine(Ļ C G (d.gt n x) _ v.rt.dI v.tw I).mono ?_;rintro e w6 hk;have ba:qZ C G (if(d.gt n x).cS=ay then(ao,(d.gt n x).eS)else(ay,(d.gt n x).dZ)) w3 e w6:=hk;obtain⟨rfl,z,j⟩:=v.eG ba (λhb=>by cases hs:(d.gt n x).cS;simp[Wq];exact I;grind);clear hk ba;cases hs:(d.gt n x).cS;rotate_left;focus
   rw[hs,aT O]at z j;have HE:qZ C f (d.gu n x) w (ai<|bG ao) w6:=by show qZ _ _ _ _ _ _;rw[HA.o,aT hs];exact j O
   clear z j hs;go_wp2;go_ret;exact HE
  rw[hs,aL Â]at z j;obtain⟨f3,D,-⟩:=z O;have w2:f3.F=ſ++(n,bx,P)::B:=(v.tw.QT D.tw<|Wq _).trans Q.o;obtain⟨a3,r,X⟩:=D.rt.dI.fs.dL;have bi:k<T f3.F:=by rw[w2];simp;omega
  obtain⟨h1,rfl,hc⟩:=D.rt.dI.fs.lp (λ_=>O) bi X;have h3:f3.F[k]=(n,bx,P):=by simp[w2,<-Z]
  rw[h3]at hc;have e1:N w6 (zq h1<|k*3+1)=E bx:=hc 1 À;have e2:N w6 (zq h1<|k*3+2)=J P:=hc 2 À;have c3:N w6 (zq C 3)=aB (ac ⟨h1,0,aw⟩) (T f3.F) r:=X▸D.rt.dI.bT.i 3 O;have fz:aX w6 (zq h1<|k*3+2)=ao:=(show Rw w6 159 3 mr (aB (ac ⟨h1,0,aw⟩) (T f3.F) r) f3.F from X▸D.rt.dI.fs).dS _;have i2:(k:U)<(T f3.F:aD):=À
  have i1:¬(k:U)<0:=À
  have bb:=D.tw.gF.ne (n,bx,P) Á;have r4:=Xf.C9 (q:=(n,bx,(T bx:U))) D.rt.dI X w2 2 (J (T bx:aD)) Ã O;have t4:=D.tw.Ĵ w2 (u:=(bx,(T bx:U))) bb HN ⟨Â,Â,Á⟩;have bd:jp (d.gt n x).L n=bx:=by have e:Zm G.F n=(bx,P):=Ey v.tw.gF (by rw[Q.o];simp);rw[v.tw.mJ]at e;exact gv o7 e
  have ef:(d.gt n x).uC n={(d.gt n x).dZ with L:=Vm (d.gt n x).dZ.L n (bx,(T bx:U))}:=by unfold Dk.uC;rw[bd,Wq]
  rw[<-ef]at t4;have bl:bO ((d.gt n x).uC n).L<=400000:=by have q:=yP (F:=(d.gt n x).L) n (bx,(T bx:U));rw[bd]at q;rw[ef];show bO (Vm (d.gt n x).dZ.L n _)<=_;rw[Wq];have:=I;simp only at q;omega
  have d4:=D.kM r4 t4 O bl;rw[Z]at d4;have HE:qZ C f (d.gu n x) w (ai<|bG ay) (M w6 (zq h1<|k*3+2)<|J (T bx:aD)).drew:=by show qZ _ _ _ _ _ _;rw[HA.o,aL<|by simp[hs]];exact(d4.kM (.nw d4.rt.dI (zj.refl _ _).W) d4.tw O d4.q8).end
  clear z j D w2 X bi hc h3 bb r4 t4 bd ef bl d4 hs;go_wp2;go_still_tail 14,Ä;go_wp2;go_ret;exact HE
end
end
section
open Go.RowKit
attribute [local go_sem] zn zg CI
def yS(y S L:U)(m:Zl):ez:=bR (0<=y/\y<=100000/\1<=S/\S<=100000/\0<=L/\L<=999/\T m=32)
def Rf.cZ(y S L:U)(m:Zl):Rf:=⟨y,S,L,aB aw 0 0,[],ao,0,0,m,0,0,bS 32 0,ao,aB aw 0 0,[],aB aw 0 0,[],0,[],0,0,0,0⟩
def Ņ(a c b m)(h:xh w C (Rf.cZ a c b m).G 154):Ju w C<|Rf.cZ a c b m:=⟨h,jk _ _ _ _,jk _ _ _ _,jk _ _ _ _,λ_=>O⟩
def xlr(a c b m)(d:yS a c b m=ay)(w):aK prog 79 #[J a,J c,J b,E m] w λe w'=>∃C,e=ai (K C)/\Nw w w'/\V (Z' w)<=C/\Ju w' C (Rf.cZ a c b m):=by simp only[yS,Y8]at d;have⟨h,y,z,q,p,j,u⟩:=d;go_enter func79.1,Tryz.ntmps79;go_wp2;apply(Pe _ 32 O Ã _).mono;rintro e w1⟨rfl,d⟩;have f:Nw w w1:=zj.J d;go_wp2;go_ret;exact⟨V<|Z' w1,O,f.aE<|zj.E _,f.Q,Ņ _ _ _ _<|xh.ex _ _ _⟩
def xh3(a b c m)(j:yS a b c m=ao)(w):aK prog 79 #[J a,J b,J c,E m] w λe w'=>e=ai (aU aw)/\w'=w:=by
 have k:a<0\/(¬a<0/\(100000:U)<a)\/(¬a<0/\¬(100000:U)<a/\b<1)\/(¬a<0/\¬(100000:U)<a/\¬b<1/\(100000:U)<b)\/(¬a<0/\¬(100000:U)<a/\¬b<1/\¬(100000:U)<b/\c<0)\/(¬a<0/\¬(100000:U)<a/\¬b<1/\¬(100000:U)<b/\¬c<0/\(999:U)<c)\/(¬a<0/\¬(100000:U)<a/\¬b<1/\¬(100000:U)<b/\¬c<0/\¬(999:U)<c/\((T m:U) != 32)=ay/\((T m:U)==32)=ao):=by simp only[yS,decide_eq_false_iff_not]at j;simp;omega
 obtain d|⟨d,f⟩|⟨d,f,g⟩|⟨d,f,g,h⟩|⟨d,f,g,h,i⟩|⟨d,f,g,h,i,l⟩|⟨d,f,g,h,i,l,n,o⟩:=k;all_goals
  go_enter func79.1,Tryz.ntmps79;go_wp2;go_ret;simp
def ĸ(v z)(m:T z<=1000)(hx:T z.flatten<=100000)(w)(h:Rw w 9 1 (λx=>[E x]) v z):aK prog 139 #[v] w λe w'=>e=ai (E z.flatten)/\w'=w:=by
 obtain⟨a,f,rfl⟩:=h.dL;go_enter func139.1,Tryz.ntmps139;go_wp2;go_loopw [3,4] (λs i wr=>∃j:aD,j<=T z/\i=J j/\s=ak (st (z.take j).flatten)/\wr=w) (λ_ i _=>bL (T z-bZ i));exact⟨0,À,O,O,O⟩;obtain⟨j,l,rfl,rfl,rfl⟩:=hrel;by_cases b:j<T z
 ·have n:(j:U)<(T z:aD):=by omega
  obtain⟨g,rfl,k⟩:=h.lp (λ_=>O) b O;have e0:N wr (zq g<|j*1)=(ak<|st z[j]):=k 0 À;rw[Cd]at e0;have d:(z.take<|j+1).flatten=(z.take j).flatten++z[j]:=by rw[zp b,List.flatten_append];simp
  have c:T (z.take<|j+1).flatten<=T z.flatten:=by
   have e:z.flatten=(z.take<|j+1).flatten++(z.drop<|j+1).flatten:=by rw[<-List.flatten_append,Km]
   rw[e,zx];omega
  rw[d,zx]at c;generalize(z.take j).flatten=X at*;generalize z[j]=y at*;go_wp2;go_roundw;exact⟨j+1,À,Å,by rw[d],bD⟩;exact Ì
 obtain rfl:j=T z:=À
 rw[jz];go_wp2;go_ret;simp
def o5(x:Zl):Ze:=[ak<|st x]
def Rd(x):∀u∈o5 x,u.oneCell'=ay:=by intro u a;simp[o5]at a;rw[a];rfl
def Ew:El 49 9 1:= .Be ((eZ 49).trans Tryz.underlying49) (z:=ak ⟨#[]⟩) (b:=16) Ä Ã O Ã
def ŀ(x)(hx:T x<=260000000)(w):aK prog 134 #[ak<|st x] w λe w'=>∃v,e=ai v/\ff w w' 9 1 o5 v (Ys x):=by
 go_enter func134.1,Tryz.ntmps134;go_wp2;go_loopw [3,4] (λv i wr=>∃(p:aD) (D:bA _),p<=T x+63/\i=Q bB p/\T D<=p/\H (D++Ys (x.drop p)=Ys x)/\ff w wr 9 1 o5 v D) (λ_ i _=>bL (T x+64-bZ i));exact⟨0,[],À,O,Â,O,ff.nil _⟩;obtain⟨p,D,r,rfl,q,g,m⟩:=hrel;have a:=m;by_cases l:p<T x
 ·have n:(p:U)<(T x:aD):=by omega
  have c:x.drop p≠[]:=by intro e;have:=gv T e;rw[Zn]at this;simp at this;omega
  have h:H<|D++[(x.drop p).take 64]++Ys (x.drop<|p+64)=Ys x:=by show _=_;rw[jq,<-g.o,Qu c,zbd];rfl
  by_cases k:(T x:U)<(p:U)+64;focus
   have b:H<|x.drop p=(x.drop p).take 64:=by show _=_;exact(qp Á).symm
   have s:(p:U)<=(T x:aD):=À
   go_wp2_with (apply ff.jK Ew ((x.drop p).take 64) a À (by show [_]=[_];rw[<-b.o]) O (Rd _) O O O O)
  rotate_left;focus
   have b:H<|(x.take<|p+64).drop p=(x.drop p).take 64:=by show _=_;rw[Xb,Ko]
   go_wp2_with (apply ff.jK Ew ((x.drop p).take 64) a À (by show [_]=[_];rw[<-b.o]) O (Rd _) O O O O)
  all_goals
   intro o f t d;go_wp2;go_roundw;exact⟨p+64,_,À,Å,Á,h,d⟩;exact Ì
 have n:¬(p:U)<(T x:aD):=À
 have j:H<|D=Ys x:=by show _=_;rw[<-g.o,Oi À,Qx,Xz]
 go_wp2;go_ret;exact⟨_,O,by rw[<-j.o];exact a⟩
end
section
open Go.RowKit
attribute [local go_sem] zn zg
def vR(n w):aK prog 80 #[J n] w λe w'=>e=ai (J n)/\w'=w:=by go_enter func80.1,Tryz.ntmps80;go_wp2;go_ret;simp
def Gc(c:U)(n:aD):aD:=if c<0 then(-(c+1)).toNat%n else bL c%n
def xy5(c)(h:0<n):Gc c n<n:=by unfold Gc;split<;>exact Nat.mod_lt _ h
def xug(c)(n:aD)(i:0<n)(f:n<=1000000000)(g:-9223372036854775808<=c)(h:c<=9223372036854775807)(w):
  aK prog 50 #[J c,J n] w λy w'=>y=ai (J (Gc c n:aD))/\w'=w:=by
 have a:H<|Gc c n=if c<0 then(-(c+1)).toNat%n else bL c%n:=O;by_cases e:c<0
 ·obtain⟨m,b⟩:∃m:aD,c+1= -(m:U):=⟨bL (-(c+1)),À⟩;have d:=xe b;clear b;go_enter func50.1,Tryz.ntmps50;go_wp2;go_ret;refine⟨gv (λz:U=>ai<|J z) ?_,O⟩;rw[a.o,aT e,d.o];simp;grind
 obtain⟨m,rfl⟩:∃m:aD,c=m:=⟨bL c,À⟩;go_enter func50.1,Tryz.ntmps50;go_wp2;go_ret;refine⟨gv (λz:U=>ai<|J z) ?_,O⟩;rw[a.o,aL À];simp
def C'(x:U):Z8:=mZ (bL (x%256))
def mY(n:U):Zl:=[109,C'<|n/65536,C'<|n/256,C' n]
def Rb(x):(aN (C' x):U)=x%256:=by grind [C',UInt8.toNat_ofNat']
def Gg(n w):aK prog 55 #[J n] w λe w'=>e=ai (E<|mY n)/\Nw w w':=by
 have a:(convert 163 9<|aB (ac ⟨V<|Z' w,0,aw⟩) 4 4).run prog (aF w<|au #[zb 109,zb<|n/65536%256,zb<|n/256%256,zb<|n%256] 5)=dG (E<|mY n) (aF w<|au #[zb 109,zb<|n/65536%256,zb<|n/256%256,zb<|n%256] 5):=by
  rw[<-Rb<|n/65536,<-Rb<|n/256,<-Rb n];have B:=xh.ex w #[zb 109,zb<|aN (C'<|n/65536),zb<|aN (C'<|n/256),zb<|aN (C' n)] 5;exact iy _ 163 9 5 (zq (V<|Z' w) 0) 4 (mY n) cT eY dK (λj b=>by
   match j,b with
   |0,_=>exact B.i 0 rfl|1,_=>exact B.i 1 O
   |2,_=>exact B.i 2 rfl|3,_=>exact B.i 3 O)
 go_enter func55.1,Tryz.ntmps55;go_wp2;go_ret;exact⟨O,zj.E _⟩
def Gf(n)(h:-9000000000000000000<=n/\n<=9000000000000000000)(w):aK prog 56 #[J n] w λe w'=>e=ai (bY #[J<|-n,E<|mY n])/\Nw w w':=by have f:Nw w<|aF w<|au #[J 0,ak ⟨#[]⟩] 110:=zj.E _;have d:xh _ (V<|Z' w) #[J 0,ak ⟨#[]⟩] 110:=xh.ex _ _ _;go_enter func56.1,Tryz.ntmps56;go_wp2;generalize aF w _=w1 at*;apply(Gg n _).mono;rintro e k⟨rfl,c⟩;have a:=d.y c id;have g:=f.aE c;have i:=a.i 0 O;have j:=a.i 1 O;have l:=a.dS 0;have m:=a.dS 1;have b:=(a.H 0<|J<|-n).H 1<|E<|mY n;go_wp2;exact ji (by simp[eR,Tryz.results56,go_sem,i,j,b.i 0 O,b.i 1 O]) O ⟨O,(g.cZ (zd _)<|zj.H k (zq (V<|Z' w) 0) _).cZ (zd _)<|zj.H _ (zq (V<|Z' w) 1) _⟩
end
section
open Go.RowKit
section
variable{Q:Exit→mh→Zy→Prop}{a0:dD Addr}{K:mh→Zy→Prop}
def nC(u:Ze)(n:aD):Ze:=(bS n u).flatten
section
variable{u:bA eJ}
def IN(a:T u=k)(n):T (nC u n)=n*k:=by unfold nC;simp_all
def IM(n m):nC u (n+m)=nC u n++nC u m:=by grind [nC,List.replicate_append_replicate]
def xuo{x}(h:x∈nC u n):x∈u:=by obtain⟨l,a,b⟩:=List.mem_flatten.1 h;grind
def mu(e k:aD)(u:Ze)(w:Zy)(v:Zv):Prop:=v=aB aw 0 0\/∃g n y L z,v=aB (ac ⟨g,0,aw⟩) n y/\n<=L/\L<=y/\y<=pu/\w.heap[g]?=ac (au z e (0,0))/\V z=y*k/\z.toList.take (L*k)=nC u L
variable{W w':dN}{t:aD}{v:eJ}{ad:Addr}
def mu.uR(h:mu e k u W v)(c:T u=k):∃n,(∃a cap,v=aB a n cap)/\W.ownsRow 0 e k v n (nC u n):=by obtain rfl|⟨g,n,cap,L,b,rfl,d,m,f,i,j,l⟩:=h;exact⟨0,⟨_,_,O⟩,jk _ _ _ _⟩;refine⟨n,⟨_,_,O⟩,IN c n,Y ⟨g,cap,b,O,Zz _,i,À,f,j,?_⟩⟩;have:=gv (eI<|n*k) l;rw[List.take_take,DL<|Y5 k d]at this;rw[this,show L=n+(L-n) by omega,IM,List.take_left'<|IN c n]
def mu.sS(h:W.ownsRow d e k v n<|nC u n):mu e k u W v:=by obtain⟨h,_⟩|⟨g,a,b,m,_,c,f,i,j,l⟩:=h.2;exact aJ h;exact Y ⟨g,n,a,n,b,m,zd _,f,i,c,j,l⟩
def mu.y{S}(h:mu e k u W v)(l:zj S W w')(m:∀g,v.ownBlock=ac g->¬S g):mu e k u w' v:=by obtain h|⟨g,n,a,L,b,rfl,d,f,i,c,j⟩:=h;exact aJ h;exact Y ⟨g,n,a,L,b,O,d,f,i,(l.dP g (za.1 c).1<|m g O).trans c,j⟩
def mu.lt(h:mu e k u W v)(a:v.ownBlock=ac g):g<V (Z' W)/\∃y,W.heap[g]?=ac (au y e (0,0)):=by obtain rfl|⟨g,n,b,L,y,rfl,c,d,f,i,j⟩:=h;cases a;cases a;grind
def IK(e k:aD)(u:Ze)(W:Zy)(v:Zv)(n:aD)(z:Zv)(w':Zy):Prop:=mu e k u w' z/\(∀x,mu e k u W x->mu e k u w' x)/\zj (λy=>v.ownBlock=ac y) W w'/\(z.ownBlock=v.ownBlock\/z.ownBlock=ac (V<|Z' W))/\∃a q,z=aB a n q
def xyu(P:El t e k)(ty:Zt)(X:T u=k)(h1:∀x∈u,x.oneCell'=ay)(h:mu e k u W v){a0 G}(hv:v=aB a0 n G)(hd:n<=1000000000000)(hm:0<m/\m<=10)(a:∀j x,(nC u m)[j]?=ac x->N W (ad.add j)=ac x):
  ∃v' w',(Builtin.append_ #[t,t] ty #[v,aB (ac ad) m c]).run prog W=dG v' w'/\IK e k u W v (n+m) v' w':=by
 obtain⟨i,z,hi,hz,F,hb,bb⟩:=P.FY;have d:(n+m)*i.bytes<=140737488355328:=by have:(n+m)*i.bytes<=1000000000010*100:=GP À hb;omega
 have h3:n+m<=pu:=è
 have l:=IN X m;have w:∀x∈nC u m,x.oneCell'=ay:=λx Q=>h1 x<|xuo Q;obtain⟨n',⟨a1,c1,b⟩,hx⟩:=h.uR X;rw[hv]at b;cases b;obtain⟨g,bd,w',ho,h2,s,h4,h5⟩:=run_append_lies W t ty 0 e i z k i.bytes P.Bf hi hz F O bb P.iE v n _ hx ad m c _ l a w hm.1 h3 d (Zz _) _ O;rw[<-IM]at h2;refine⟨_,w',ho,.sS h2,λx Q=>?_,⟨s.os,s.output,s.size,λq L hd=>s.block q L λe=>hd e.symm⟩,by obtain e|e:=h4;exact aJ e.symm;exact Y<|by rw[<-e];rfl,_,_,O⟩;have I:zj (λy=>v.ownBlock=ac y) W w':=⟨s.os,s.output,s.size,λq L hd=>s.block q L λe=>hd e.symm⟩;by_cases S:∃y,x.ownBlock=ac y/\v.ownBlock=ac y;obtain⟨y,wr,b⟩:=S;obtain⟨e0,_⟩|⟨g0,f,B,g',-,Z,bg,bf,es,ba⟩:=hx.2;rw[e0]at b;cases b;rw[g']at b ho;cases b;by_cases p:n+m<=f;subst F;have K:n*i.size+T (nC u m)<=V B:=by rw[l,es,<-Nat.add_mul];exact Y5 _ p
 have o:=run_append_room W t ty e i P.Bf hi g0 n f B Z ad m c _ l a w p K;rw[ho]at o;cases o;obtain rfl|⟨gx,nx,w2,r,bc,rfl,x1,x2,x3,x4,x5,x6⟩:=Q;cases wr;cases wr;rw[Z]at x4;cases x4;have ih:=Nat.eq_of_mul_eq_mul_right P.iE<|x5.symm.trans es;subst ih;refine Y ⟨_,nx,w2,r,_,O,x1,x2,x3,Jr W _ B _ e _ Z,?_,?_⟩;grind;simp only;rw[ba,<-IM,l,<-Nat.add_mul];have D:=IN X<|n+m;by_cases hL:r<=n+m;rw[Y4<|by rw[D];exact Y5 _ hL,show n+m=r+(n+m-r) by omega,IM,List.take_left'<|IN X r];rw[List.take_append,qp<|by rw[D];exact Y5 _ À,D,<-Nat.sub_mul];have h9:=gv (bV<|(n+m)*i.size) x6;rw[Xb,<-Nat.sub_mul]at h9;have be:nC u r=nC u (n+m)++nC u (r-(n+m)):=by rw[<-IM,show n+m+(r-(n+m))=r by omega]
 grind;subst F;have C:=hx.cells (by rw[g'];rfl);have o:=run_append_grow W t ty e i z P.Bf hi hz ⟨g0,0,aw⟩ n f _ hx.1 C ad m c _ l a À À<|growslice_fits À d;rw[ho]at o;cases o;exact Q.y ⟨O,O,Â,λq L _=>Go.heap_alloc_old W.drew _ L⟩ λ_ _=>id;exact Q.y I λg hg e=>S ⟨g,hg,e⟩
def ł(y:El t e k)(r:T u=k)(f:∀x∈u,x.oneCell'=ay)(h:mu e k u W v)(w:v=aB a0 n d)(l:n<=1000000000000)(i:0<m/\m<=10)(b:∀j x,(nC u m)[j]?=ac x->N W (ad.add j)=ac x)(q:a.eval s=v)(hx:a.eval x=aB (ac ad) m c)(ho:o.op= .call {callee:= .builtin .append,args:=#[s,x],argTypes:=#[t,t]})
  (z:∀S w',IK e k u W v (n+m) S w'->K (a.put o.dst S) w'):o.wp prog a W K Q:=by
 obtain⟨S,w',p,g⟩:=xyu (c:=c) y o.type r f h w l i b;unfold Oper.wp aR;simp only[ho,o8,invoke,builtin,zc9,zda,Result.andThen_ok,List.map_toArray,Js,Fr,q,hx,p];exact z S w' g
def ļ(z:El t e k)(w:T u=k)(g:∀x∈u,x.oneCell'=ay)(h:mu e k u W v)(y:v=aB a0 n d)(q:n<=1000000000000)(p:0<m/\m<=10)(b:∀j x,(nC u m)[j]?=ac x->N W (ad.add j)=ac x)(r:a.eval s=v)(hx:a.eval x=aB (ac ad) m c)(f:o.guard=aw)(ho:o.op= .call {callee:= .builtin .append,args:=#[s,x],argTypes:=#[t,t]})
  (S:∀D w',IK e k u W v (n+m) D w'->wpList prog ops Q rest (a.put o.dst D) w'):wpList prog ops Q (o::rest) a W:=
 DP f λ_ l=>ł z w g h y q p b r hx ho λD w' i=>l _ _<|S D w' i
def Mt{y:Prop}(z:El t e k)(q:T u=k)(f:∀x∈u,x.oneCell'=ay)(h:mu e k u W v)(r:v=aB a0 n d)(l:n<=1000000000000)(i:0<m/\m<=10)(b:∀j x,(nC u m)[j]?=ac x->N W (ad.add j)=ac x)(p:a.eval s=v)(hx:a.eval x=aB (ac ad) m c)(g:o.guard=aw)(ho:o.op= .call {callee:= .builtin .append,args:=#[s,x],argTypes:=#[t,t]})
  (S:∀D w',IK e k u W v (n+m) D w'->K (a.put o.dst D) w'):if bP o (fN ops a.tmps)=ay then o.wp prog a W K Q else y:=by
 rw[aT za8];exact ł z q f h r l i b p hx ho S
end
end
end
section
open Go.RowKit
attribute [local go_sem] zn zg
def jej:El 61 49 1:= .Be ((eZ 61).trans Tryz.underlying61) (z:=aB aw 0 0) (b:=24) Ä Ã O Ã
def jek:El 62 52 1:= .Be ((eZ 62).trans Tryz.underlying62) (z:=aB aw 0 0) (b:=24) Ä Ã O Ã
def Da:El 52 110 2:= .Be ((eZ 52).trans Tryz.underlying52) (z:=bY #[J 0,ak ⟨#[]⟩]) (b:=24) Ä Ã O Ã
def uG(x:Zv):Ze:=[x]
abbrev WB(w:Zy)(y:aD)(P:Zv)(n:U)(tv z q:Zv):Prop:=xh w y #[P,J n,tv,z,q] 67
def xW(n:U):Ze:=[ak<|st<|mY n]
def xup(x n):nC [x] n=bS n x:=by unfold nC;simp
def xtx{a n}(h:Rw w 9 1 o5 v a)(hy:a=bS (T a) (mY n)):mu 9 1 (xW n) w v:=by
 apply mu.sS (d:=0) (n:=T a);have:a.flatMap o5=nC (xW n) (T a):=by rw[hy];unfold xW;rw[xup,Oj];simp[o5]
 rw[<-this];exact h
def zj.lO{S z W}(h:zj S W w)(k:zj z w w')(c:∀y,z y->S y\/V (Z' W)<=y):zj S W w':=
 ⟨k.os.trans h.os,k.cX.trans h.cX,xa h.Q k.Q,λi a b=>(k.dP i (zm a h.Q) λe=>(c i e).elim b λh=>À).trans<|h.dP i a b⟩
def Bu(z:aD)(tv q l:Zv)(y:aD):Prop:=y=z\/tv.ownBlock=ac y\/q.ownBlock=ac y\/l.ownBlock=ac y
structure Tx(e k i:aD)(j:Zv)(u:Ze)(W w:Zy)(y:aD)(P:Zv)(n:U)(tv h p l:Zv)(z:Ze)(q:bA U)(X:Ze):Prop where
 b:WB w y P n tv h p
 t:Rw w i 1 uG j z
 m:Rw w 3 1 tJ p q
 x:∀v∈X,mu e k u w v
 fr:zj (Bu y j p l) W w
 nb:∀v∈X,∀g,v.ownBlock=ac g->l.ownBlock=ac g\/V (Z' W)<=g
section
variable{u:bA eJ}{S:aD}{D w L:dN}{R j:aD}{P G tv fv mv l v v':eJ}{n:U}{T:bA eJ}{M:bA U}{X:bA eJ}
def Tx.nw(h:Tx e k S G u D w R P n tv fv mv l T M X)(a:Nw w L):Tx e k S G u D L R P n tv fv mv l T M X:=⟨h.b.y a id,h.t.y a λ_ _=>id,h.m.y a λ_ _=>id,λv c=>(h.x v c).y a λ_ _=>id,h.fr.lO a λ_ x=>x.elim,h.nb⟩
def IL(h:mu e k u w v)(c:xh w C cs t)(f:t≠e):∀x,v.ownBlock=ac x->¬C=x:=by rintro x b rfl;obtain⟨-,a,d⟩:=h.lt b;grind [xh]
def Ge{z q f}{l:bA α}{y}(h:mu e k u w v)(r:Rw w z q f y l)(b:z≠e){x}(hx:y.ownBlock=ac x):¬v.ownBlock=ac x:=by intro d;obtain⟨-,a,c⟩:=h.lt d;exact r.ir c (Ne.symm b) x hx O
def Tx.jK(i:S≠e/\67≠e/\3≠e)(h:Tx e k S G u D w R P n tv fv mv l T M X)(o:v∈X)(r:IK e k u w v j v' L):Tx e k S G u D L R P n tv fv mv l T M<|X++[v']:=by obtain⟨s,q,d,f,-⟩:=r;have p:=h.x v o;have z:=h.fr.Q;refine⟨h.b.y d λe=>IL p h.b i.2.1 _ e O,h.t.y d λg c=>Ge p h.t i.1 c,h.m.y d λg c=>Ge p h.m i.2.2 c,λy a=>(je.1 a).elim (λa=>q y<|h.x y a) λa=>Á,h.fr.lO d λy a=>(h.nb v o y a).imp (λe=>Y (Y<|Y e)) id,λy a g c=>?_⟩;obtain a|a:=je.1 a;exact h.nb y a g c;rw[ju.1 a]at c;obtain f|f:=f;exact h.nb v o g<|f▸c;grind
end
def Rw.se{P:Exit->mh->Zy->Prop}{W:Zy}{t S:aD}{f:α->Ze}{l:bA α}(X:El t e k)(bs:bA α)(h:Rw W e k f v l)(es:T l<=1000000000)(hd:0<T bs/\T bs<=10)(G:∀a,T (f a)=k)(w:xh W B cs S)(F:bs.flatMap f=eV cs)(p:∀u∈bs.flatMap f,u.oneCell'=ay)
  (h1:a.eval s=v)(hx:a.eval x=aB (ac ⟨B,0,aw⟩) (T bs) c)(d:o.guard=aw)(ho:o.op= .call {callee:= .builtin .append,args:=#[s,x],argTypes:=#[t,t]})
  (h2:∀g cap w',Rw w' e k f (aB (ac ⟨g,0,aw⟩) (T l+T bs) cap) (l++bs)->zj (λy=>v.ownBlock=ac y) W w'->(v.ownBlock=ac g\/V (Z' W)<=g)->wpList prog ops P rest (a.put o.dst<|aB (ac ⟨g,0,aw⟩) (T l+T bs) cap) w'):wpList prog ops P (o::rest) a W:=by
 obtain⟨i,z,I,wr,m,D,n⟩:=X.FY;refine DP d λ_ C=>wp_append_lies _ s x t ho 0 e i z k i.bytes X.Bf I wr m O n X.iE v (T l) _ h1 h (zq B 0) (T bs) c _ hx (Bh G bs) (λj u g'=>gX w j u<|F▸g') p hd.1 è ?_ (Zz _) _ O ?_;have:(T l+T bs)*i.bytes<=1000000010*100:=GP À D;omega;intro g cap w' ba b r _;refine C _ _<|h2 g cap w' ?_ ⟨b.os,b.output,b.size,λq L v'=>b.block q L λe=>v' e.symm⟩<|r.imp id λe=>Nat.le_of_eq e.symm;grind [Rw]
def Rc(n):∀x∈xW n,x.oneCell'=ay:=λx a=>by rw[ju.1 a];rfl
def QY(w:Zy)(y:aD)(P i:Zv)(n:U)(tv u l:Zv)(z:Ze)(q:bA U)(w':Zy):Prop:=∃p j X,WB w' y P (n+1) p i j/\Rw w' 49 1 uG p (z++X)/\Rw w' 3 1 tJ j (q++[n+1])/\T X=4/\(∀x∈X,mu 9 1 (xW<|n+1) w' x)/\zj (Bu y tv u l) w w'/\(∀g,p.ownBlock=ac g->tv.ownBlock=ac g\/V (Z' w)<=g)/\(∀g,j.ownBlock=ac g->u.ownBlock=ac g\/V (Z' w)<=g)/\∀x∈X,∀g,x.ownBlock=ac g->l.ownBlock=ac g\/V (Z' w)<=g
def xvk(P L tv fv hx l)(n:aD)(hd h1 a w)(h2:WB w P L n tv fv hx)(hT:Rw w 49 1 uG tv hd)(hM:Rw w 3 1 tJ hx h1)(hl:Rw w 9 1 o5 l a)(hn:n<=1000000)(hy:T a<=1000000000)(bo:T hd<=1000000000)(bn:T h1<=1000000000):
  aK prog 84 #[aU<|some ⟨P,1,aw⟩,l] w λe w'=>e=ai (cE #[])/\QY w P L fv n tv hx l hd h1 w':=by
 obtain⟨r,s,rfl⟩:=hl.dL;have HT:=hT;have HM:=hM;have HL:=hl;have c1:=h2.i 1 O;have f1:=h2.dS 1;have B1:WB (M w ⟨P,1,aw⟩<|Q bB<|(n:U)+1) P L ((n:U)+1) tv fv hx:=h2.H 1 _;have e1:zj (·=P) w<|M w ⟨P,1,aw⟩<|Q bB<|(n:U)+1:=zj.H w ⟨P,1,aw⟩ _;have L1:=hl.y e1 (hl.ir h2 Ã);have T1:=hT.y e1 (hT.ir h2 Ã);have M1:=hM.y e1 (hM.ir h2 Ã);have C1:=e1;go_enter func84.1,Tryz.ntmps84;go_wp2;generalize M w ⟨P,1,aw⟩ (Q bB<|(n:U)+1)=w1 at*;go_loopw [4] (λi wr=>∃k:aD,k<=T a/\i=Q bB k/\zj (λy=>(aB r (T a) s).ownBlock=ac y) w1 wr/\Rw wr 9 1 o5 (aB r (T a) s) (bS k (mY<|(n:U)+1)++a.drop k)) (λi _=>bL (T a-bZ i));exact⟨0,À,O,zj.refl _ _,L1⟩;obtain⟨k,hk,rfl,hb,hr⟩:=hrel;have HB:=hb;have W:=hr;have BW:=B1.y hb λe=>L1.ir B1 Ã _ e O;have c1:=BW.i (v:=Q bB ((n:U)+1)) 1 O;by_cases bm:k<T a
 ·have i1:(k:U)<(T a:aD):=by omega
  have i0:(0:U)<=(k:U):=À
  rw[Zx bm]at W;obtain⟨g,rfl⟩:∃g,r=ac ⟨g,0,aw⟩:=zdt
  go_wp2;refine(Gg _ _).mono ?_;rintro e w2⟨rfl,F⟩;have R2:=W.y F λ_ _=>id;have d1:=R2.wI (λ_=>O) 0 À;have d2:=R2.dS k;rw[Zq,Cd,Yy]at d1;have R3:=R2.wS (q:=mY<|(n:U)+1) (λ_=>O) 0 (ak<|st<|mY<|(n:U)+1) À O;rw[Zq,Cd,Yy,List.append_cons,<-Ku]at R3;have bj:=R3;have bh:zj (λy=>(aB (ac ⟨g,0,aw⟩) (T a) s).ownBlock=ac y) w1<|M w2 ⟨g,k,aw⟩<|ak<|st<|mY<|(n:U)+1:=(HB.aE<|F.U λ_=>eT).aE<|(zj.H w2 ⟨g,k,aw⟩ _).U λy hy=>hy▸O;simp only[o5,qh]at d1;go_wp2;go_roundw;exact⟨k+1,À,Å,bh,bj⟩;exact Î
 ·obtain rfl:k=T a:=by omega
  have i1:¬(T a:U)<(T a:aD):=À
  rw[Vl,Xz]at W;have HK:mu 9 1 (xW<|(n:U)+1) wr<|aB r (T a) s:=by have h:=W;have e:T (bS (T a)<|mY<|(n:U)+1)=T a:=Zq;exact xtx h å
  have T2:=T1.y HB λg d e=>T1.fh L1 Ã d e;have M2:=M1.y HB λg d e=>M1.fh L1 Ã d e;have X0:Tx 9 1 49 tv (xW<|(n:U)+1) w wr P L ((n:U)+1) tv fv hx (aB r (T a) s) hd h1 [aB r (T a) s]:=⟨BW,T2,M2,λv o=>(by rw[ju.1 o];exact HK),(C1.U λy hy=>aJ hy).aE<|HB.U λy hy=>Y (Y<|Y hy),λv o g d=>aJ É⟩;go_wp2;refine(Gg _ _).mono ?_;rintro e w2⟨rfl,F⟩;have X2:=(X0.nw F).nw<|zj.E<|au #[ak<|st<|mY<|(n:U)+1] 9;have N2:xh (aF w2<|au #[ak<|st<|mY<|(n:U)+1] 9) (V<|Z' w2) #[ak<|st<|mY<|(n:U)+1] 9:=xh.ex _ _ _;go_wp2_with (refine ļ (m:=1) (n:=T a) Ew O (Rc _) (X2.x _ xu) O À Ã (λj x hj=>gX N2 j x hj) O O O O ?_);intro v3 w3 h3;obtain⟨ho,c3,rfl⟩:=h3.d;have c:=X2.jK Ã xu h3;go_wp2;have S0:=c.b.i (v:=Q bB ((n:U)+1)) 1 O;replace c:=c.nw (zj.refl _ _).W;go_region_held3 (λw'=>N w' ⟨P,1,aw⟩=(Q bB<|(n:U)+1)) (first|exact S0|exact c.b.i 1 rfl|exact(c.nw<|zj.E _).b.i 1 O)
   (first
    |(go_at_call 55;refine(Gg _ _).mono ?_;rintro e w4⟨rfl,bb⟩;replace c:=c.nw bb;clear bb)
    |(refine Mt (m:=2) (n:=T a) Ew O (Rc _) ((c.nw<|zj.E _).x _ xu) O À Ã (λj x hj=>gX (xh.ex _ _ _) j x hj) O O O O ?_;intro v5 w5 h5;obtain⟨g',S,rfl⟩:=h5.d;replace c:=(c.nw<|zj.E _).jK Ã xu h5;clear h5))
  go_wp2;replace c:=c.nw (zj.refl _ _).W;have S0:=c.b.i (v:=Q bB ((n:U)+1)) 1 O;go_region_held3 (λw'=>N w' ⟨P,1,aw⟩=(Q bB<|(n:U)+1)) (first|exact S0|exact c.b.i 1 rfl|exact(c.nw<|zj.E _).b.i 1 O)
   (first
    |(go_at_call 55;refine(Gg _ _).mono ?_;rintro e w6⟨rfl,bc⟩;replace c:=c.nw bc;clear bc)
    |(refine Mt (m:=3) (n:=T a) Ew O (Rc _) ((c.nw<|zj.E _).x _ xu) O À Ã (λj x hj=>gX (xh.ex _ _ _) j x hj) O O O O ?_;intro v7 w7 h7;obtain⟨v',es,rfl⟩:=h7.d;replace c:=(c.nw<|zj.E _).jK Ã xu h7;clear h7))
  have f:=(c.nw<|zj.E<|au #[aB r (T a) s,aB ho (T a+1) c3,aB g' (T a+2) S,aB v' (T a+3) es] 49);have N7:xh (aF w7<|au #[aB r (T a) s,aB ho (T a+1) c3,aB g' (T a+2) S,aB v' (T a+3) es] 49) (V<|Z' w7) _ 49:=xh.ex _ _ _;obtain⟨at_,ct,rfl⟩:=f.t.dL;have d2:=c.b.i (v:=aB at_ (T hd) ct) 2 O;go_wp2_with (refine Rw.se jej [aB r (T a) s,aB ho (T a+1) c3,aB g' (T a+2) S,aB v' (T a+3) es] f.t À ⟨show 0<4 by decide,show 4<=10 by decide⟩ (λ_=>O) N7 O zbx O O O O ?_);intro ih c8 G r8 b8 n8;have X8:Rw G 49 1 uG _ _:=r8;have z:WB G P L ((n:U)+1) (aB at_ (T hd) ct) fv hx:=f.b.y b8 λe=>f.t.ir f.b Ã _ e O;have B9:WB (M G ⟨P,2,aw⟩<|aB (ac ⟨ih,0,aw⟩) (T hd+4) c8) P L ((n:U)+1) (aB (ac ⟨ih,0,aw⟩) (T hd+4) c8) fv hx:=z.H 2 _;have D:zj (·=P) G<|M G ⟨P,2,aw⟩<|aB (ac ⟨ih,0,aw⟩) (T hd+4) c8:=zj.H G ⟨P,2,aw⟩ _;have T9:=r8.y D (r8.ir z Ã);have m8:=f.m.y b8 λg d=>f.m.fh f.t Ã d;have M9:=m8.y D (m8.ir z Ã);have bd:∀v∈[aB r (T a) s,aB ho (T a+1) c3,aB g' (T a+2) S,aB v' (T a+3) es],mu 9 1 (xW<|(n:U)+1) G v:=λv o=>(f.x v o).y b8 λg d e=>Ge (f.x v o) f.t Ã e d;have K9:∀v∈[aB r (T a) s,aB ho (T a+1) c3,aB g' (T a+2) S,aB v' (T a+3) es],mu 9 1 (xW<|(n:U)+1) (M G ⟨P,2,aw⟩<|aB (ac ⟨ih,0,aw⟩) (T hd+4) c8) v:=λv o=>(bd v o).y D λg d e=>IL (bd v o) z Ã g d e.symm;have F9:=(f.fr.lO b8 λy hy=>aJ (Y<|aJ hy)).lO D λy hy=>aJ (aJ hy);have G9:H<|(aB at_ (T hd) ct).ownBlock=ac ih\/V (Z' w)<=ih:=n8.imp id λh=>zd6
  have bk:=f.nb;have e2:=z.i (v:=aB at_ (T hd) ct) 2 O;have f2:=z.dS 2;go_wp2;generalize M G ⟨P,2,aw⟩ _=w9 at*;obtain⟨hs,cm,rfl⟩:=M9.dL;have I:Nw w9 (aF w9<|au #[Q bB<|(n:U)+1] 3).drew:=(zj.E _).W;have XA:xh (aF w9<|au #[Q bB<|(n:U)+1] 3).drew (V<|Z' w9) #[Q bB<|(n:U)+1] 3:=xh.ex w9 _ _;have BA:=B9.y I id;have MA:=M9.y I λ_ _=>id;have S0:=And.intro (B9.i (v:=aB hs (T h1) cm) 4 O)<|B9.i (v:=Q bB ((n:U)+1)) 1 O;have S1:=And.intro (BA.i (v:=aB hs (T h1) cm) 4 O)<|BA.i (v:=Q bB ((n:U)+1)) 1 O;have bi:∀y,(aB hs (T h1) cm).ownBlock=ac y->¬y=P:=λy hy=>M9.ir B9 Ã y hy;go_region_law (first|(refine Rw.rX Mh ((n:U)+1) MA À XA O O (QP _) O O O O ?_;intro ba Z B hR h2 bl;have X:=hR;have C:=h2;have bg:=bl;have p:=BA.y C λe=>bi _ e O;have f4:=p.dS 4;have e4:=p.i (v:=aB hs (T h1) cm) 4 O));all_goals
   have D:zj (·=P) B<|M B ⟨P,4,aw⟩<|aB (ac ⟨ba,0,aw⟩) (T h1+1) Z:=zj.H B ⟨P,4,aw⟩ _;have be:=(T9.y I λ_ _=>id).y C λg d=>(T9.y I λ_ _=>id).fh MA Ã d;have bf:∀v∈[aB r (T a) s,aB ho (T a+1) c3,aB g' (T a+2) S,aB v' (T a+3) es],mu 9 1 (xW<|(n:U)+1) B v:=λv o=>((K9 v o).y I λ_ _=>id).y C λg d e=>Ge ((K9 v o).y I λ_ _=>id) MA Ã e d;have HF:QY w P L fv n (aB at_ (T hd) ct) (aB hs (T h1) cm) (aB r (T a) s) hd h1<|M B ⟨P,4,aw⟩<|aB (ac ⟨ba,0,aw⟩) (T h1+1) Z:=⟨_,_,_,p.H 4 _,be.y D<|be.ir p Ã,X.y D<|X.ir p Ã,O,λv o=>(bf v o).y D λg d e=>IL (bf v o) p Ã g d e.symm,((F9.lO I λ_ x=>x.elim).lO C λy hy=>aJ (Y<|Y<|aJ hy)).lO D λy hy=>aJ (aJ hy),λg d=>by cases d;exact G9.o,λg d=>by cases d;exact bg.imp id λe=>by rw[e];exact xa F9.Q I.Q,bk⟩;go_wp2;go_end0;exact⟨O,HF⟩
def Ń(p q w):CallsD prog 63 #[aU<|some p,aU<|some q] eB w λe u w'=>e=ai (cE #[])/\u=eB/\w'=w:=by refine callsD_of_wpS func63.1 O λa c b=>?_;apply wpS_seq;apply pq;simp[wpOpsS,go_sem,recoverD,b,Tryz.ntmps63,nO];apply wpS_seq;apply pq;simp[wpOpsS,go_sem,nO];refine wpS_cond (t:=ao) (by simp[jV,cL]) ?_;simp only[ja,kB];refine wpS_of_wp<|wp_skip ?_;cases a;simp_all [bodyPostS,eR,Tryz.results63]
end
section
open Go.RowKit Go.Extern.Stop Go.Stop Go.Extern
def xn8(v w):(pO #[iW 380 v]).run prog w=dG (iW 271<|bY #[zk 5 380]) w:=Ä
def zwq(w):((pP λt=>do pA "Comparable" t;(λa=>bG a.comparable) <$> typeInfo t) #[bY #[zk 5 380]]).run prog w=dG (bG ay) w:=Ä
def xn6(v w):(Go.method 513 271 v "Comparable").run prog w=dG (330,v) w:=Ä
def ľ:(prog.info? 380).map (·.comparable)=ac ay:=Ä
def Ŀ:(prog.info? 402).map (·.size)=ac 1:=Ä
def QX{i:Zt}{a}(b:prog.underlying i=ac (.interface a))(h:(prog.info? 380).map (λi=>(lacking a i.methods).isEmpty)=ac ao)(c:(prog.info? i).map (·.zero)=ac (ac .nilIface)):
  ∀v X w,(Instr.typeAssert (iW 380 v) X i ay).run prog w=dG (cE #[.nilIface,bG ao]) w:=run_typeAssert_lacksB b h c
def jbm(a b t w)(c:(binOp .eql 169 (iW 380<|aU<|some a)<|iW 380<|aU<|some b).run prog w=dG (bG t) w):
  aK prog 151 #[iW 380<|aU<|some a,iW 380<|aU<|some b,bG ay] w λe w'=>e=ai (bG t)/\w'=w:=by
 have d:=QX (show prog.underlying 273=_ from Tryz.underlying273) Ä Ä;have f:=QX (show prog.underlying 276=_ from Tryz.underlying276) Ä Ä;have g:=QX (show prog.underlying 278=_ from Tryz.underlying278) Ä Ä;go_enter func151.1,Tryz.ntmps151;go_wp2;apply wp_loop_rounds 1;rw[rounds_succ];cases t;all_goals
  go_wp2;go_ret;simp
def QW(a b t w)(c:(binOp .eql 169 (iW 380<|aU<|some a)<|iW 380<|aU<|some b).run prog w=dG (bG t) w):
  aK prog 95 #[iW 380<|aU<|some a,iW 380<|aU<|some b] w λe w'=>e=ai (bG t)/\w'=w:=by
 have g:=@run_callFunc_extern prog 150 _ _ func150 Ä Ä A.He A.Hg;have d:=@run_callFunc_extern prog 330 _ _ func330 Ä Ä A.Hf A.Hh;have i:=xn8;have f:=zwq;have h:=xn6;go_enter func95.1,Tryz.ntmps95;go_wp2;apply(jbm a b t w c).mono;rintro e w'⟨rfl,rfl⟩;go_wp2;go_ret;simp
def qF(lo:aD)(cv tv:Zv)(w:Zy):Prop:=∃a b y z q p,cv=iW 380 (aU<|some a)/\tv=iW 380 (aU<|some b)/\b≠a/\a.block<lo/\b.block<lo/\w.heap[a.block]?=ac (au y q (0,0))/\w.heap[b.block]?=ac (au z p (0,0))
def xjq(B w)(f:qF lo cv tv w)(m:N w (zq 0 0)=ac cv)(n:N w (zq 1 0)=ac tv):
  aK prog 64 #[K B,tv] w λe w'=>e=ai (J 11)/\w'=w:=by
 obtain⟨a,b,k,l,p,q,rfl,rfl,c,_,_,g,h⟩:=f;have⟨i,z,y⟩:=zv.1 ľ;have⟨j,u,W⟩:=zv.1 Ŀ;have o:=run_typeAssert_hasB (P:=prog) (t:=380) (show prog.underlying 169=_ from jT) Ä;have d:=QW b b ay w<|run_eql_iface_ptr_same w b jT Tryz.underlying380 z y u;go_enter func64.1,Tryz.ntmps64;go_wp2;apply(QW b a ao w<|run_eql_iface_ptr_other w jT Tryz.underlying380 z y u À c h g).mono;rintro e w'⟨rfl,rfl⟩;go_wp2;apply d.mono;rintro e w'⟨rfl,rfl⟩;go_wp2;go_ret;simp
def xi9{p q}(w)(c:qF lo cv tv w)(d:N w (zq 0 0)=ac cv)(f:N w (zq 1 0)=ac tv)(o:N w (zq p 0)=K B)(r:N w (zq q 0)=J 0)(s:aX w (zq q 0)=ao):
  CallsD prog 63 #[K p,K q] (fL [{v:=tv,recovered:=ao}]) w λe u w'=>e=ai (cE #[])/\u=fL [{v:=tv,recovered:=ay}]/\w'=M w (zq q 0) (J 11):=by
 have G:=xjq B w c d f;obtain⟨a,b,i,j,z,C,rfl,rfl,g,x,y,m,n⟩:=c;refine callsD_of_wpS func63.1 O λl k h=>?_;apply wpS_seq;apply pq;simp[wpOpsS,go_sem,recoverD,h,Tryz.ntmps63,nO];apply wpS_seq;apply pq;simp[wpOpsS,go_sem,nO];apply wpS_cond (t:=ay) (by simp[jV,cL]);apply wpS_of_wp;go_wp2;apply G.mono;rintro e w'⟨rfl,rfl⟩;go_wp2;simp[bodyPostS,eR,Tryz.results63]
end
section
open Go.RowKit Go.Extern.Stop Go.Stop Go.Extern
attribute [local go_sem] zn zg
@[simp]def ĵ:prog.funcs[21]?=ac Tryz.f21:=A.qf Tryz.func21
@[simp]def jft(args)(w):(callFunc 21 args).run prog w=dG (nN 21 args) w:=A.qc Tryz.func21 (args:=args) (w:=w)
def Sr.yR{x}(hx:r.kZ.cN B x):r.cN B x:=by obtain e|e|⟨t,a,_⟩:=hx;exact aJ e;exact Y<|aJ e;cases a
def qF.y{S}(h:qF lo cv tv w)(k:zj S w w')(t:∀x,S x->lo<=x):qF lo cv tv w':=by obtain⟨a,b,g,j,r,s,l,m,n,p,q,c,d⟩:=h;have f:∀{i:aD} {o:Obj},w.heap[i]?=ac o->i<V (Z' w):=λh=>(za.1 h).1;exact⟨a,b,g,j,r,s,l,m,n,p,q,(k.dP _ (f c) λe=>Á).trans c,(k.dP _ (f d) λe=>Á).trans d⟩
def xdd(B w)(d:qF lo cv tv w)(p:N w (zq 0 0)=ac cv)(m:N w (zq B 7)=ac l)(f7:aX w (zq B 7)=ao):
  aK prog 64 #[K B,cv] w λe w'=>e=ai (J 12)/\w'=M w (zq B 7) (aU aw):=by
 obtain⟨a,b,n,o,v,x,rfl,rfl,k,_,_,r,s⟩:=d;obtain⟨i,f,c⟩:=zv.1 ľ;obtain⟨j,g,h⟩:=zv.1 Ŀ;have q:=run_typeAssert_hasB (P:=prog) (t:=380) (show prog.underlying 169=_ from jT) Ä;have I1:=QW a a ay w<|run_eql_iface_ptr_same w a jT Tryz.underlying380 f c g;go_enter func64.1,Tryz.ntmps64;go_wp2;apply I1.mono;rintro e w'⟨rfl,rfl⟩;go_wp2;go_ret;simp
def ņ{p q}(w)(f:qF lo cv tv w)(h:N w (zq 0 0)=ac cv)(g:N w (zq B 7)=ac l)(f7:aX w (zq B 7)=ao)(y:N w (zq p 0)=K B)(j:xh w q #[J 0] 33)(d:q≠B):
  CallsD prog 63 #[K p,K q] (fL [{v:=cv,recovered:=ao}]) w λe S w'=>e=ai (cE #[])/\S=fL [{v:=cv,recovered:=ay}]/\w'=M (M w (zq B 7)<|aU aw) (zq q 0) (J 12):=by
 have G:=xdd B w f h g f7;have c:xh (M w (zq B 7)<|aU aw) q #[J 0] 33:=j.y (zj.H w (zq B 7) _) d;have z:N (M w (zq B 7)<|aU aw) (zq q 0)=J 0:=c.i 0 O;have u:=c.dS 0;obtain⟨a,b,m,n,W,F,rfl,rfl,i,C,D,s,x⟩:=f;refine callsD_of_wpS func63.1 O λr o k=>?_;apply wpS_seq;apply pq;simp[wpOpsS,go_sem,recoverD,k,Tryz.ntmps63,nO];apply wpS_seq;apply pq;simp[wpOpsS,go_sem,nO];apply wpS_cond (t:=ay) (by simp[jV,cL]);apply wpS_of_wp;go_wp2;apply G.mono;rintro e w'⟨rfl,rfl⟩;go_wp2;simp[bodyPostS,eR,Tryz.results63]
def Zd.kZ{y}(h:Zd B r w y w'):Zd B r w y.kZ<|M w' (zq B 7)<|aU aw:=by refine h.aE ⟨(zj.H w' (zq B 7) _).U λx a=>aJ a,⟨?_,?_,λs e=>Æ⟩,λx a=>?_⟩;exact h.dI.bT.H 7 _;exact h.dI.fA.y (zj.H w' (zq B 7) _) λx a e=>h.dI.kP Á;obtain e|e|⟨s,e,_⟩:=a;exact aJ<|aJ e;exact aJ<|Y<|aJ e;cases e
def QV(f B r ſ w)(h:Vq w B r)(G:nD cv tv w)(X:qF lo cv tv w)(z:∀x,r.cN B x->lo<=x)(o:∀x,r.cN B x->4<x)(y:∀args w,(callFunc f args).run prog w=dG (nN f args) w)
  (hw:∀w0,Vq w0 B r->nD cv tv w0->aK prog f #[K B] w0 λe w'=>∃a r',ſ=(a,r')/\e=FZ cv a/\Zd B r w0 r' w'):
  aK prog 34 #[K B,.func (.func f) #[K B] #[]] w λe w'=>(∃v r',ſ=(ac v,r')/\e=ai (J v)/\Zd B r w r' w')\/(∃r',ſ=(aw,r')/\e=ai (J 12)/\Zd B r w r'.kZ w'):=by
 have k:Nw w<|aF (aF w<|au #[K B] 26)<|au #[J 0] 33:=(zj.E _).aE<|zj.E _;have hx:V (aF (aF w<|au #[K B] 26)<|au #[J 0] 33).heap=V (Z' w)+2:=Â
 have u:xh (aF (aF w<|au #[K B] 26)<|au #[J 0] 33) (V (Z' w)+1) #[J 0] 33:=by have:=xh.ex (aF w<|au #[K B] 26) #[J 0] 33;rw[xp]at this;exact this
 have P:xh (aF (aF w<|au #[K B] 26)<|au #[J 0] 33) (V<|Z' w) #[K B] 26:=(xh.ex w _ _).E _;have L:=Iu<|hw _ (h.y k λ_ _=>id)<|G.y k λ_ x=>x.elim;have C:∀{x:aD},r.cN B x->x<V (Z' w):=λg=>Sr.fg h g;have i:∀{x r' w'},Zd B r (aF (aF w<|au #[K B] 26)<|au #[J 0] 33) r' w'->r'.cN B x->x≠V (Z' w)+1:=λc g e=>by obtain o|o:=c.cN _ g;grind;omega
 have hd:∀v r' w',ſ=(ac v,r')->Zd B r (aF (aF w<|au #[K B] 26)<|au #[J 0] 33) r' w'->xh w' (V (Z' w)+1) #[J 0] 33/\Zd B r w r' (M w' (zq (V (Z' w)+1) 0)<|J v):=λv r' w' j c=>
  ⟨u.y c.y λg=>Á,Zd.cZ ((Zd.nw h k).aE c) À (λg=>i c g O)<|zj.H w' (zq (V (Z' w)+1) 0) _⟩
 have h1:∀r' w',ſ=(aw,r')->Zd B r (aF (aF w<|au #[K B] 26)<|au #[J 0] 33) r' w'->CallsD prog 63 #[K (V<|Z' w),K<|V (Z' w)+1] (fL [{v:=cv,recovered:=ao}]) w' λe m d=>e=ai (cE #[])/\m=fL [{v:=cv,recovered:=ay}]/\N d (zq (V (Z' w)+1) 0)=J 12/\Zd B r w r'.kZ d:=λr' w' j c=>by
  have W:=u.y c.y λg=>Á
  have ho:B<V (Z' w):=C<|aJ O;have s:=(G.y k λ_ x=>x.elim).y c.y o;obtain⟨⟨_,_,_,n⟩,_,_⟩:=s;refine(ņ (B:=B) (p:=V (Z' w)) (q:=V (Z' w)+1) w' ((X.y k λ_ x=>x.elim).y c.y z) n (c.dI.bT.i 7 O) (c.dI.bT.dS 7) ((P.y c.y λg=>Á).i 0 O) W À).mono ?_;rintro e m d⟨rfl,rfl,rfl⟩;refine⟨O,O,((W.y (zj.H w' (zq B 7) _) (show V (Z' w)+1≠B by omega)).H 0 _).i 0 O,?_⟩;exact Zd.cZ (b:=V (Z' w)+1) (((Zd.nw h k).aE c).kZ) À (λg=>i c (Sr.yR g) O)<|zj.H _ (zq (V (Z' w)+1) 0) _
 go_enter_defers func34.1,Tryz.ntmps34;go_wp2;refine L.mono ?_;rintro e w1 (⟨v,r',j,rfl,c⟩|⟨r',j,rfl,c⟩)
 ·obtain⟨F,t⟩:=hd v r' w1 j c;have n:=F.i 0 O;have S:=F.dS 0;have D:=t;have l:=j;go_wp2;refine leaves_cons (f:=63) (args:=#[K (V<|Z' w),K<|V (Z' w)+1]) Â Ü ?_;refine(Ń _ _ _).mono ?_;rintro e m d⟨rfl,rfl,rfl⟩;simp[Leaves,settle,eR,pM,go_sem,n];first
   |exact aJ ⟨v,r',l,O,D⟩
   |exact .inl ⟨r',l,D⟩
 have I:=h1 r' w1 j c;have l:=j;refine leaves_cons (f:=63) (args:=#[K (V<|Z' w),K<|V (Z' w)+1]) Â Ü ?_;refine I.mono ?_;rintro e m d⟨rfl,rfl,h2,t⟩;simp[Leaves,settle,eR,pM,go_sem,h2];exact Y ⟨r',l,t⟩
def xX(B:aD)(r:Sr)(ſ:dD U×Sr)(w:Zy)(e:kH)(w':Zy):Prop:=(∃v y,ſ=(ac v,y)/\e=ai (J v)/\Zd B r w y w')\/(∃y,ſ=(aw,y)/\e=ai (J 12)/\Zd B r w y.kZ w')
def xX.Er{ſ e}(h:xX B r ſ w e w'):∃v,e=ai (J v):=by obtain⟨v,_,_,h,_⟩|⟨_,_,h,_⟩:=h;grind;grind
section
variable{y z:eJ}
def ń(B r s w)(h:Vq w B r)(g:r.sn=ac s)(b:pH B r)(n:nD y z w)(m:qF lo y z w)(d:∀x,r.cN B x->lo<=x)(o:∀c∈s.P,qX c):
  aK prog 11 #[K B] w (xX B r (r.fm s) w):=by
 have q:N w (zq B 7)=K s.S:=(h.bT.i 7 O).trans (by simp[Sr.G,Sr.my,g]);have i:=QV 35 B r _ w h n m d b.cN (λa w=>func35.2 a w) λp l k=>Qq B r s p l g b k o;go_enter func11.1,Tryz.ntmps11;go_wp2;apply i.mono;intro e w1 f;obtain⟨v,rfl⟩:=xX.Er f;have j:xX B r _ w _ w1:=f;go_wp2;go_ret;exact j
end
def Sr.nE(r:Sr)(b:aD)(a t:U):Sr:={r with d:={r.d with nx:=ac (b,a,t)}}
def Ň(D d a t w)(h:Jt w D d):aK prog 42 #[K D,J a,J t] w λe w'=>e=ai (cE #[])/\∃b,V (Z' w)<=b/\zj (·=D) w w'/\Jt w' D {d with nx:=ac (b,a,t)}:=by
 have l:=h;have m:=h.bT.i 2 O;have n:=h.bT.dS 2;have o:=h.bT.lt;have i:H (zj (·=D) w (aF (M w (zq D 2)<|K (V<|Z' w))<|au #[J a,J t] 129)/\Jt (aF (M w (zq D 2)<|K (V<|Z' w))<|au #[J a,J t] 129) D {d with nx:=ac (V (Z' w),a,t)}):=by
  have g:zj (·=D) w<|M w (zq D 2)<|K (V<|Z' w):=zj.H _ (zq D 2) _;have f:=xh.ex (M w (zq D 2)<|K (V<|Z' w)) #[J a,J t] 129;have k:V (M w (zq D 2)<|K (V<|Z' w)).heap=V (Z' w):=Â
  rw[k]at f;refine⟨g.aE<|zj.E _,(h.bT.H 2 _).y (S:=λ_=>False) (zj.E _) id,(h.jS.y g h.Ba).y (S:=λ_=>False) (zj.E _) id,λc j=>?_⟩;cases j;exact f
 go_enter func42.1,Tryz.ntmps42;go_wp2;go_end0;exact⟨O,V<|Z' w,zd _,i.o⟩
def xlm(B r)(a t:aD)(w)(h:Vq w B r):aK prog 21 #[K B,J a,J t] w λe w'=>e=ai (J 0)/\∃b,Zd B r w (r.nE b a t) w':=by
 have v:N w (zq B 2)=K r.D:=h.bT.i 2 O;have q:=λn=>Ň r.D r.d (a:U) (t:U) (w.drewN n) ⟨h.fA.bT,h.fA.jS,h.fA.ku⟩;have i:=Ň r.D r.d (a:U) (t:U) w h.fA;have o:∀w' b,V (Z' w)<=b->zj _ w w'->Jt w' r.D {r.d with nx:=ac _}->Zd B r w (r.nE b a t) w':=λw' b l f y=>by refine⟨f.U λx g=>Y (aJ<|aJ g),⟨?_,y,λs j=>?_⟩,λx g=>?_⟩;exact h.bT.y f λe=>h.kP<|aJ e;exact⟨(h.fP s j).1.y f λx g k=>h.fh j g<|aJ k,(h.fP s j).2⟩;obtain e|(e|e|⟨c,p,e⟩)|e:=g;exact aJ<|aJ e;exact aJ<|Y<|aJ<|aJ e;exact aJ<|Y<|aJ<|Y<|aJ e;cases p;omega;exact aJ<|Y<|Y e
 go_enter ĵ,Tryz.ntmps21;go_wp2;apply i.mono;rintro e w'⟨rfl,b,l,f,y⟩;have m:=o w' b l f y;go_wp2;go_ret;exact⟨O,b,m⟩
def xl8(B r w)(h:Vq w B r)(a:r.sn=aw):aK prog 11 #[K B] w λe w'=>e=ai (J 5)/\w'=w:=by
 have b:N w (zq B 7)=aU aw:=zap
 go_enter func11.1,Tryz.ntmps11;go_wp2;go_ret;simp
def xhz(B a t)(h:a<0\/t<0)(w):aK prog 21 #[K B,J a,J t] w λe w'=>e=ai (J 3)/\w'=w:=by
 by_cases b:a<0
 case' neg=>have c:t<0:=À
 all_goals
  go_enter ĵ,Tryz.ntmps21;go_wp2;go_ret;simp
def xrr(a b c m)(j:yS a b c m=ao)(w):aK prog 31 #[J a,J b,J c,E m] w λe w'=>e=ai (cE #[aU aw,J 3])/\w'=w:=by
 have n:a<0\/(¬a<0/\100000<a)\/(¬a<0/\¬100000<a/\b<1)\/(¬a<0/\¬100000<a/\¬b<1/\100000<b)\/(¬a<0/\¬100000<a/\¬b<1/\¬100000<b/\c<0)\/(¬a<0/\¬100000<a/\¬b<1/\¬100000<b/\¬c<0/\999<c)\/(¬a<0/\¬100000<a/\¬b<1/\¬100000<b/\¬c<0/\¬999<c/\¬(T m:U)=32):=by unfold yS at j;simp at j;omega
 obtain d|⟨d,f⟩|⟨d,f,g⟩|⟨d,f,g,h⟩|⟨d,f,g,h,i⟩|⟨d,f,g,h,i,k⟩|⟨d,f,g,h,i,k,l⟩:=n
 case' inr.inr.inr.inr.inr.inr=>have o:((T m:U) != 32)=ay:=by simpa using l
 all_goals
  go_enter func31.1,Tryz.ntmps31;go_wp2;go_ret2;simp
end
end P
end Go.Proofs.YtjnbhiamaabbgaaGreatDoor
