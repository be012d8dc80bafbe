import Derived.Test.YtjnbhiamaabbgaaGreatDoorM5
import Derived.Deep.DeepAppendRoom
import Derived.Stop.Asserts
set_option linter.all false
set_option maxRecDepth 100000
set_option maxHeartbeats 8000000
section
variable{P:Prop}
def Č(h:P:=by intro u hu;simp[sh]at hu;obtain rfl|rfl|rfl|rfl:=hu<;>rfl):P:=h
def đ(h:P:=by unfold lk;simp_all):P:=h
def Ė(h:P:=by grind [pD,IP,xx]):P:=h
def ļ(h:P:=by rw[<-H];rfl):P:=h
def Ŏ(h:P:=by have:=f.fr.J;rw[xp]at this;omega):P:=h
def ŗ(h:P:=by simp[iH,bV]):P:=h
end
namespace Go.Proofs.YtjnbhiamaabbgaaGreatDoor
open Go renaming Act->jG,Calls->aG,Ending->kU,Oper->fj,Value->dL,World->cY,bits->kf,callFunc->nE,execOp->aL,heap_alloc_new->xn,invoke->ol,maxLen->nT,resolve->nD,results->dX,run_convert_bytes_back->gJ,setCell_eq_setRow->zdm,setRow_heap->Jr,wpS_region->nS,yielded->eZ
open Go.Act renaming eval->iH
open Go.Addr renaming add_mid->oB
open Go.Ending renaming returned->ah
open Go.Exit renaming thenS->mq
open Go.Extern.ReflectliteType renaming method->oy,typeOf->ow
open Go.Extern.Rtype renaming noPackHeld->jF
open Go.FrameMode renaming panicking->eW,returning->dN
open Go.IntKind renaming i64->aU,wrap_i64->zh
open Go.Next renaming enter->mo
open Go.Obj renaming cells->aq
open Go.Proofs renaming intOf->bP
open Go.Proofs.Tryz renaming results34->oq,underlying169->iG
open Go.Region renaming wanted->bC
open Go.Result renaming ok->cT
open Go.RowKit renaming Below->aN,Hid->aK
open Go.RowKit.Below renaming refl->zt
open Go.Sem renaming run_bind->zc9,run_pure->zda
open Go.Value renaming agg->bM,bool->aX,func->nV,iface->gB,int->aH,pointer->aR,slice->az,string->aj,tuple->bU
open Go.World renaming alloc->aB,cell?->ae,frozen?->aQ,news_of_block->fY,setCell->ai,setRow_alloc_new->mC,size_alloc->xp
open _root_.Array renaming replicate->bV,size->ak,toList->ej
open _root_.Bool renaming false->ao,true->aw
open _root_.Decidable renaming decide->bI
open _root_.Exists renaming intro->lU
open _root_.False renaming elim->dI
open _root_.Int renaming toNat->bB
open _root_.List renaming drop->bH,drop_drop->zbd,drop_eq_getElem_cons->Zx,drop_take->Xb,length->aa,length_pos_iff->Z0,length_take->xf,map_congr_left->W6,replicate->bD,take->dU,take_of_length_le->qp,take_succ_eq_append_getElem->zp,toArray->aV
open _root_.Option renaming none->ar,some->ac
open _root_.Or renaming inl->aF,inr->aE
open _root_.Prod renaming fst->nC
open _root_.UInt8 renaming ofNat->ku,toNat->aI
namespace P
open A.Tryq
section
open Go.RowKit
theorem xx(a b:Z8):a^^^(a^^^b)=b:=by rw[<-UInt8.xor_assoc];simp
theorem hi7:∀x:Z8,(128<=aI x)=(x.toNat.testBit 7=aw):=xZ È
def gg(x:Z8):Z8:=if x.toNat.testBit 7=aw then 27 else 0
theorem xx0(x):mt x=(x<<<1)^^^gg x:=by grind [mt,gg,hi7]
theorem xyb(a b):gg (a^^^b)=gg a^^^gg b:=by unfold gg;rw[UInt8.toNat_xor,Nat.testBit_xor];cases a.toNat.testBit 7<;>cases b.toNat.testBit 7<;>rfl
theorem xu4(a b):(a^^^b)<<<(1:Z8)=a<<<1^^^b<<<1:=by apply UInt8.eq_of_toBitVec_eq;simp[BitVec.shiftLeft_xor_distrib]
theorem IP(a b):mt (a^^^b)=mt a^^^mt b:=by grind [xx0,xyb,xu4]
def mx0(a b c d):a^^^b^^^c^^^d^^^a^^^mt (a^^^b)=pD a b c d:=Ė
def mx1(a b c d):a^^^b^^^c^^^d^^^b^^^mt (b^^^c)=pD b c d a:=Ė
def mx2(a b c d):a^^^b^^^c^^^d^^^c^^^mt (c^^^d)=pD c d a b:=Ė
def mx3(a b c d):a^^^b^^^c^^^d^^^d^^^mt (d^^^a)=pD d a b c:=Ė
def xo2(f c)(a:c%4=0):ny f c=pD (f c) (f<|c+1) (f<|c+2) (f<|c+3)/\ny f (c+1)=pD (f<|c+1) (f<|c+2) (f<|c+3) (f c)/\ny f (c+2)=pD (f<|c+2) (f<|c+3) (f c) (f<|c+1)/\ny f (c+3)=pD (f<|c+3) (f c) (f<|c+1) (f<|c+2):=by unfold ny;refine⟨?_, ?_, ?_, ?_⟩;rw[show c/4*4=c by omega,show c+(c%4+1)%4=c+1 by omega];exact mx0 _ _ _ _;rw[show(c+1)/4*4=c by omega,show c+((c+1)%4+1)%4=c+2 by omega];exact mx1 _ _ _ _;rw[show(c+2)/4*4=c by omega,show c+((c+2)%4+1)%4=c+3 by omega];exact mx2 _ _ _ _;rw[show(c+3)/4*4=c by omega,show c+((c+3)%4+1)%4=c by omega];exact mx3 _ _ _ _
attribute [local go_sem] Dm zn zg
structure BK(w:Zy)(key f2:Zu)(wr:Zy):Prop where
 eR:aN (ak w.heap) w wr
 sz:ak w.heap+1+1<ak wr.heap
 b0:Jp wr (ak w.heap) (hU key) 176 320
 b1:Jp wr (ak w.heap+1) Sn 256 318
 b2:Jp wr (ak w.heap+1+1) f2 16 352
def BK.fI(w key):BK w key zF<|aB (aB (aB w<|aq (aV (ki (hU key) 176)) 320)<|aq (aV (ki Sn 256)) 318)<|aq #[zi 0,zi 0,zi 0,zi 0,zi 0,zi 0,zi 0,zi 0,zi 0,zi 0,zi 0,zi 0,zi 0,zi 0,zi 0,zi 0] 352:=by
 refine⟨(((zt _ _).alloc (zd _) _).alloc Ä _).alloc Æ _,Ä, ?_, ?_, ?_⟩;all_goals (show(((w.heap.push _).push _).push _)[_]?=_)
 all_goals (simp only[jb,Xi])
 grind;grind;rw[if_pos trivial];rfl
def BK.U{w a key f2}(h:BK w key f2 a):BK w key f2 a.drew:=⟨h.eR.drew,h.sz,h.b0,h.b1,h.b2⟩
def BK.fP{w b w' key f2}(h:BK w key f2 b)(a:aN (ak b.heap) b w'):BK w key f2 w':=
 have c:=h.sz
 ⟨h.eR.trans<|a.mono h.eR.size,zm h.sz a.size,h.b0.Y a À,h.b1.Y a À,h.b2.Y a À⟩
theorem BK.H{w a key f2}(h:BK w key f2 a)(k v):BK w key (λi=>if i=k then v else f2 i)<|ai a (zq (ak w.heap+1+1) k)<|zi<|e8 v:=
 ⟨h.eR.setCell Â _,Ï,h.b0.dE À,h.b1.dE À,h.b2.H k v⟩
theorem BK.put{w a key f2}(h:BK w key f2 a)(g)(b:ak w.heap+1+1<g)(k v):BK w key f2<|ai a (zq g k) v:=
 ⟨h.eR.setCell Â _,Ï,h.b0.dE À,h.b1.dE À,h.b2.dE À⟩
theorem BK.bR{w a key f2 f3}(h:BK w key f2 a)(e:∀i,i<16->f2 i=f3 i):BK w key f3 a:=⟨h.eR,h.sz,h.b0,h.b1,h.b2.bR e⟩
def pF(key x:Zu)(n:Nat):Nat->Z8:=if n<=9 then Bb key x n else Yr key x
def pY(r:Nat)(f:Zu)(i:Nat):Z8:=if r<10 then ny f i else f i
def xql(key x r)(a:1<=r)(b:r<=10)(i):pY r (gz<|pF key x<|r-1) i^^^jI key r i=pF key x r i:=by
 obtain⟨n,rfl⟩:∃n,r=n+1:=⟨r-1,À⟩;unfold pF pY;rw[show n+1-1=n by omega,if_pos (show n<=9 by omega)];by_cases h:n+1<10;rw[if_pos h,if_pos À];rfl;obtain rfl:n=9:=À
 rw[if_neg h,if_neg À];rfl
def lk(f g:Zu)(k i:Nat):Z8:=if i<k then g i else f i
def NU(f g k i):(if i=k then g k else lk f g k i)=lk f g (k+1) i:=by grind [lk]
structure Mx(w:Zy)(key f0 yF:Zu)(g h:Nat)(F:Zu)(v:Zy):Prop where
 b:BK w key f0 v
 t:Jp v g F 16 352
 u:Jp v h yF 4 351
theorem Mx.put{w v key a c F g h}(m:Mx w key a c g h F v)(d:ak w.heap+1+1<g)(e:g≠h)(k x):Mx w key a c g h (λi=>if i=k then x else F i)<|ai v (zq g k)<|zi<|e8 x:=⟨m.b.put g d k _,m.t.H k x,m.u.dE À⟩
theorem Mx.at{w v key d a F g h b y1 y2 c}(m:Mx w key d a g h F v)(hy:a 0=b/\a 1=y1/\a 2=y2/\a 3=c){k}(hk:k<16):(∃z,ae v (zq g k)=ac z)/\aQ v (zq g k)=ao/\ae v (zq h 0)=ac (zi<|e8 b)/\ae v (zq h 1)=ac (zi<|e8 y1)/\ae v (zq h 2)=ac (zi<|e8 y2)/\ae v (zq h 3)=ac (zi<|e8 c):=by obtain⟨rfl,rfl,rfl,rfl⟩:=hy;exact⟨⟨_,m.t.i hk⟩,m.t.ee,m.u.i Ã,m.u.i Ã,m.u.i Ã,m.u.i Ã⟩
theorem xi5(key l)(hl:aa l=16)(w):aG prog 249 #[zs l,bM (aV (ki (hU key) 176)),bM (aV (ki Sn 256))] w λen w'=>en=ah (aj<|st<|kl (Yr key λi=>l.getD i 0) 16)/\aN (ak w.heap) w w':=by
 have bg:=BK.fI w key;obtain⟨x,hx⟩:∃x:Nat->Z8,(λi=>l.getD i 0)=x:=⟨_,rfl⟩;have HX:(λi=>l.getD i 0)=x:=hx;go_enter func249.1,Tryz.ntmps249;go_wp2;go_loopw [8] (λi wr=>∃k:Nat,k<=16/\i=zi k/\BK w key (lk zF (pF key x 0) k) wr) (λi _=>bB (16-bP i))
 case atStart=>exact⟨0,À,rfl,bg⟩
 case round=>
  obtain⟨k,hk,rfl,inv⟩:=hrel;by_cases L:k<16
  ·have D:=inv.sz;have i1:(k:Int)<16:=by omega
   have i2:(k:Int)<(aa l:Nat):=À
   have i3:(k:Int)<176:=À
   have bb:k<aa l:=À
   obtain⟨a,ha⟩:∃a,(st l)[k]'(by rw[zn];exact bb)=a:=⟨_,rfl⟩;have bz:kf .xor aU (aI a:Int) (e8<|hU key k)=e8 (a^^^hU key k):=Dm a _;have ew:IntKind.i64.wrap (aI a:Int)=(aI a:Int):=Nt a;have c1:ae wr (zq (ak w.heap) k)=ac (zi<|e8<|hU key k):=inv.b0.i À;have c2:ae wr (zq (ak w.heap+1+1) k)=ac (zi<|e8<|lk zF (pF key x 0) k k):=inv.b2.i À;have f2:aQ wr (zq (ak w.heap+1+1) k)=ao:=inv.b2.ee;have C:BK w key (lk zF (pF key x 0)<|k+1)<|ai wr.drew (zq (ak w.heap+1+1) k)<|zi<|e8<|a^^^hU key k:=by
    refine(inv.U.H k _).bR λi _=>?_;have e:a^^^hU key k=pF key x 0 k:=by show _=x k^^^jI key 0 k;unfold hU;rw[show k/16=0 by omega,show k%16=k by omega,<-HX,<-ha];show l[k]^^^_=l.getD k 0^^^_;simp[List.getD,bb]
    rw[e];exact NU _ _ k i
   generalize lk zF (pF key x 0) k k=z at*;generalize a^^^hU key k=v at*;generalize hU key k=y at*;go_wp2;go_still_tail 10,Á;go_wp2;go_roundw
   case rel=>first|exact⟨k+1,À,Å,C⟩|((repeat apply lU);exact⟨⟨k+1,À,Å,C⟩,rfl⟩)
   case measure=>simp[bP];omega
  obtain rfl:k=16:=À
  have inv:=inv.bR (f3:=pF key x 0) λi U=>đ
  go_wp2;go_loopw [9] (λi wr=>∃r:Nat,1<=r/\r<=11/\i=zi r/\BK w key (pF key x<|r-1) wr) (λi _=>bB (11-bP i))
  case atStart=>exact⟨1,À,À,rfl,inv⟩
  case round=>
   obtain⟨r,bc,hr,rfl,inv⟩:=hrel;by_cases bs:r<11
   ·obtain⟨d,ba⟩:∃f,pF key x (r-1)=f:=⟨_,rfl⟩;have HN:∀i,pY r (gz d) i^^^jI key r i=pF key x r i:=λi=>by rw[<-ba];exact xql key x r bc À i
    rw[ba]at inv;have D:=inv.sz;have i1:(r:Int)<=10:=À
    have hd:bI ((r:Int)<=10)=aw:=jm i1;have bh:=inv.fP<|(zt _ _).alloc (zd _)<|aq #[zi 0,zi 0,zi 0,zi 0,zi 0,zi 0,zi 0,zi 0,zi 0,zi 0,zi 0,zi 0,zi 0,zi 0,zi 0,zi 0] 352;have R:Jp (aB wr<|aq #[zi 0,zi 0,zi 0,zi 0,zi 0,zi 0,zi 0,zi 0,zi 0,zi 0,zi 0,zi 0,zi 0,zi 0,zi 0,zi 0] 352) (ak wr.heap) (lk zF (gz d) 0) 16 352:=xn wr<|aq #[zi 0,zi 0,zi 0,zi 0,zi 0,zi 0,zi 0,zi 0,zi 0,zi 0,zi 0,zi 0,zi 0,zi 0,zi 0,zi 0] 352;go_wp2;try rw[hd]
    generalize aB wr (aq #[zi 0,zi 0,zi 0,zi 0,zi 0,zi 0,zi 0,zi 0,zi 0,zi 0,zi 0,zi 0,zi 0,zi 0,zi 0,zi 0] 352)=wa at*;obtain⟨g,br⟩:∃g,ak wr.heap=g:=⟨_,rfl⟩;rw[br]at D R⊢;go_loopw [11] (λi wq=>∃k:Nat,k<=16/\i=zi k/\BK w key d wq/\Jp wq g (lk zF (gz d) k) 16 352) (λi _=>bB (16-bP i))
    case atStart=>exact⟨0,À,rfl,bh,R⟩
    case round=>
     obtain⟨k,hk,rfl,inv,j⟩:=hrel;by_cases L:k<16
     ·obtain⟨q,hq⟩:∃q,k%4=q:=⟨_,rfl⟩;obtain⟨m,hm⟩:∃m,(k+q*4)%16=m:=⟨_,rfl⟩;have e1:(k:Int).tmod 4=(q:Nat):=by rw[qo À];omega
      have e2:IntKind.i64.wrap (4*(q:Int))=4*(q:Int):=É
      have e3:IntKind.i64.wrap ((k:Int)+4*(q:Int))=(k:Int)+4*(q:Int):=É
      have e4:((k:Int)+4*(q:Int)).tmod 16=(m:Nat):=by rw[qo À];omega
      have m4:m<16:=À
      have m5:(m:Int)<16:=À
      have k5:(k:Int)<16:=À
      have c1:ae wr (zq (ak w.heap+1+1) m)=ac (zi<|e8<|d m):=inv.b2.i m4;have c2:=inv.b1.o5<|d m;have l1:=rV<|d m;have l2:=sC<|d m;have c3:ae wr (zq g k)=ac (zi<|e8<|lk zF (gz d) k k):=j.i L;have q3:aQ wr (zq g k)=ao:=j.ee;have C:BK w key d<|ai wr (zq g k)<|zi<|e8<|Sx<|d m:=inv.put g D k _;have E:Jp (ai wr (zq g k)<|zi<|e8<|Sx<|d m) g (lk zF (gz d)<|k+1) 16 352:=by
       refine(j.H k _).bR λi _=>?_;have e:Sx (d m)=gz d k:=by unfold gz;rw[hq,hm]
       rw[e];exact NU _ _ k i
      generalize lk zF (gz d) k k=z at*;generalize d m=y at*;go_wp2;go_roundw
      case rel=>first|exact⟨k+1,À,Å,C,E⟩|((repeat apply Exists.intro);exact⟨⟨k+1,À,Å,C,E⟩,rfl⟩)
      case measure=>simp[bP];omega
     have ke:k=16:=À
     have k5:¬(k:Int)<16:=À
     rw[ke]at j;have bi:Jp wr g (lk (gz d) (pY r<|gz d) 0) 16 352:=j.bR λi U=>đ
     go_wp2;go_loopw [12] (λi wq=>∃c:Nat,c<=16/\c%4=0/\i=zi c/\BK w key d wq/\Jp wq g (lk (gz d) (pY r<|gz d) c) 16 352) (λi _=>bB (16-bP i))
     case atStart=>exact⟨0,À,À,rfl,inv,bi⟩
     case round=>
      obtain⟨c,hc,bo,rfl,inv,j⟩:=hrel;by_cases bv:c<16
      ·have i3:c+3<16:=by omega
       have c5:(c:Int)<16:=À
       have cc:IntKind.i64.wrap ((c:Int)+1)=(c:Int)+1:=É
       have b9:(c:Int)+1<16:=À
       have b3:(0:Int)<=(c:Int)+1:=À
       have b6:bB ((c:Int)+1)=c+1:=À
       have cd:IntKind.i64.wrap ((c:Int)+2)=(c:Int)+2:=É
       have ca:(c:Int)+2<16:=À
       have b4:(0:Int)<=(c:Int)+2:=À
       have b7:bB ((c:Int)+2)=c+2:=À
       have cf:IntKind.i64.wrap ((c:Int)+3)=(c:Int)+3:=É
       have cb:(c:Int)+3<16:=À
       have b5:(0:Int)<=(c:Int)+3:=À
       have b8:bB ((c:Int)+3)=c+3:=À
       have bp:g<ak wr.heap:=js (j.i (k:=0) Ã);obtain⟨o,bt⟩:∃y,gz d c=y:=⟨_,rfl⟩;obtain⟨p,bd⟩:∃y,gz d (c+1)=y:=⟨_,rfl⟩;obtain⟨n,be⟩:∃y,gz d (c+2)=y:=⟨_,rfl⟩;obtain⟨s,bf⟩:∃y,gz d (c+3)=y:=⟨_,rfl⟩;have HS:∀w',Jp w' g (lk (gz d) (pY r<|gz d) c) 16 352->ae w' (zq g c)=ac (zi<|e8 o)/\ae w' (zq g<|c+1)=ac (zi<|e8 p)/\ae w' (zq g<|c+2)=ac (zi<|e8 n)/\ae w' (zq g<|c+3)=ac (zi<|e8 s):=λw' h=>⟨by rw[h.i À];unfold lk;simp_all,by rw[h.i À];unfold lk;rw[if_neg À,bd],by rw[h.i À];unfold lk;rw[if_neg À,be],by rw[h.i À];unfold lk;rw[if_neg À,bf]⟩;have HM:∀i,i<16->(r<10->(if i=c+3 then pD s o p n else if i=c+2 then pD n s o p else if i=c+1 then pD p n s o else if i=c then pD o p n s else lk (gz d) (pY r<|gz d) c i)=lk (gz d) (pY r<|gz d) (c+4) i):=λi U G=>by obtain⟨p0,p1,p2,p3⟩:=xo2 (gz d) c bo;rw[bt,bd,be,bf]at p0 p1 p2 p3;unfold lk pY;by_cases e3:i=c+3;simp_all;rw[if_neg e3];by_cases e2:i=c+2;simp_all;rw[if_neg e2];by_cases e1:i=c+1;simp_all;rw[if_neg e1];by_cases e0:i=c;simp_all;rw[if_neg e0];by_cases el:i<c;rw[if_pos el,if_pos (show i<c+4 by omega)];rw[if_neg el,if_neg À]
       have HE:¬r<10->∀i,i<16->lk (gz d) (pY r<|gz d) c i=lk (gz d) (pY r<|gz d) (c+4) i:=λG i _=>by unfold lk pY;rw[if_neg G];simp
       have E:Jp wr g (lk (gz d) (pY r<|gz d) c) 16 352:=j;have HV:BK w key d wr:=inv;have W:∀Z,Jp (aB wr Z).drew g (lk (gz d) (pY r<|gz d) c) 16 352:=λZ=>E.Y (Below.drew<|(zt _ _).alloc (zd _) Z) bp;have bj:∀Z,BK w key d (aB wr Z).drew:=λZ=>(HV.fP<|(zt _ _).alloc (zd _) Z).U;have S0:=HS _ j;have S1:=λZ=>HS _<|W Z;go_wp2;go_region_held3 (λw'=>ae w' (zq g c)=ac (zi<|e8 o)/\ae w' (zq g<|c+1)=ac (zi<|e8 p)/\ae w' (zq g<|c+2)=ac (zi<|e8 n)/\ae w' (zq g<|c+3)=ac (zi<|e8 s)) (first|exact S0|exact S1 _) (fail);obtain⟨F,H⟩:∃F:Nat->Z8,(λk=>if k=0 then o else if k=1 then p else if k=2 then n else s)=F:=⟨_,rfl⟩;have bk:F 0=o:=ļ
       have bl:F 1=p:=ļ
       have bm:F 2=n:=ļ
       have bn:F 3=s:=ļ
       have I:=bj<|aq #[zi<|e8 o,zi<|e8 p,zi<|e8 n,zi<|e8 s] 351;have J:=W<|aq #[zi<|e8 o,zi<|e8 p,zi<|e8 n,zi<|e8 s] 351;have T:Jp (aB wr<|aq #[zi<|e8 o,zi<|e8 p,zi<|e8 n,zi<|e8 s] 351).drew (ak wr.heap) F 4 351:=by rw[<-H];exact xn wr<|aq #[zi<|e8 o,zi<|e8 p,zi<|e8 n,zi<|e8 s] 351
       generalize(aB wr<|aq #[zi<|e8 o,zi<|e8 p,zi<|e8 n,zi<|e8 s] 351).drew=w4 at*;have K:g≠ak wr.heap:=À
       generalize ak wr.heap=h at*;have HY:aK<|F 0=o/\F 1=p/\F 2=n/\F 3=s:=⟨bk,bl,bm,bn⟩;by_cases G:r<10
       ·have bu:(r:Int)<10:=by omega
        have M:Mx w key d F g h _ w4:=⟨I,J,T⟩;obtain⟨⟨z,hz⟩,q3,d0,d1,d2,d3⟩:=M.at HY.o (k:=c) À;replace M:=M.put D K (c)<|pD o p n s;go_wp2;refine(II o p n s _).mono ?_;rintro en V⟨rfl,rfl⟩;go_upto_region 20 with fail
        generalize ai V (zq g c) _=w5 at*;obtain⟨⟨z,hz⟩,q3,d0,d1,d2,d3⟩:=M.at HY.o (k:=c+1) À;replace M:=M.put D K (c+1)<|pD p n s o;go_wp2;refine(II p n s o _).mono ?_;rintro en V⟨rfl,rfl⟩;go_upto_region 21 with fail
        generalize ai V (zq g<|c+1) _=w6 at*;obtain⟨⟨z,hz⟩,q3,d0,d1,d2,d3⟩:=M.at HY.o (k:=c+2) À;replace M:=M.put D K (c+2)<|pD n s o p;go_wp2;refine(II n s o p _).mono ?_;rintro en V⟨rfl,rfl⟩;go_upto_region 22 with fail
        generalize ai V (zq g<|c+2) _=w7 at*;obtain⟨⟨z,hz⟩,q3,d0,d1,d2,d3⟩:=M.at HY.o (k:=c+3) À;replace M:=M.put D K (c+3)<|pD s o p n;go_wp2;refine(II s o p n _).mono ?_;rintro en V⟨rfl,rfl⟩;go_upto_region 16 with fail
        generalize ai V (zq g<|c+3) _=w8 at*;have C:=M.b;have E:=M.t.bR λi U=>HM i U G;clear M HM HE;go_wp2;go_roundw
        case rel=>first|exact⟨c+4,À,À,Å,C,E⟩|((repeat apply Exists.intro);exact⟨⟨c+4,À,À,Å,C,E⟩,rfl⟩)
        case measure=>simp[bP];omega
       have bu:¬(r:Int)<10:=À
       have C:BK w key d w4:=I;have E:Jp w4 g (lk (gz d) (pY r<|gz d)<|c+4) 16 352:=J.bR<|HE G;clear I J T HM HE;go_wp2;go_roundw
       case rel=>first|exact⟨c+4,À,À,Å,C,E⟩|((repeat apply Exists.intro);exact⟨⟨c+4,À,À,Å,C,E⟩,rfl⟩)
       case measure=>simp[bP];omega
      have ce:c=16:=À
      have c5:¬(c:Int)<16:=À
      rw[ce]at j;have S:Jp wr g (pY r<|gz d) 16 352:=j.bR (λi U=>đ);have Q:BK w key (lk d (pF key x r) 0) wr:=inv.bR (λi U=>by unfold lk;simp);clear ce j inv;go_wp2;go_loopw [14] (λi wq=>∃k:Nat,k<=16/\i=zi k/\BK w key (lk d (pF key x r) k) wq/\Jp wq g (pY r<|gz d) 16 352) (λi _=>bB (16-bP i))
      case atStart=>exact⟨0,À,rfl,Q,S⟩
      case round=>
       clear Q S;obtain⟨k,hk,rfl,inv,j⟩:=hrel;by_cases O:k<16
       ·have k5:(k:Int)<16:=by omega
        have a1:IntKind.i64.wrap (16*(r:Int))=16*(r:Int):=É
        have a2:IntKind.i64.wrap (16*(r:Int)+(k:Int))=16*(r:Int)+(k:Int):=É
        have a3:16*(r:Int)+(k:Int)<176:=À
        have a4:(0:Int)<=16*(r:Int)+(k:Int):=À
        have a5:bB (16*(r:Int)+(k:Int))=16*r+k:=À
        have d1:ae wr (zq g k)=ac (zi<|e8<|pY r (gz d) k):=j.i O;have d2:ae wr (zq (ak w.heap)<|16*r+k)=ac (zi<|e8<|jI key r k):=by rw[inv.b0.i À];unfold hU;rw[show(16*r+k)/16=r by omega,show(16*r+k)%16=k by omega]
        have d3:ae wr (zq (ak w.heap+1+1) k)=ac (zi<|e8<|lk d (pF key x r) k k):=inv.b2.i O;have d4:aQ wr (zq (ak w.heap+1+1) k)=ao:=inv.b2.ee;have hx:=HN k;have C:BK w key (lk d (pF key x r)<|k+1)<|ai wr.drew (zq (ak w.heap+1+1) k)<|zi<|e8<|pF key x r k:=(inv.U.H k _).bR λi _=>NU _ _ k i;have E:Jp (ai wr.drew (zq (ak w.heap+1+1) k)<|zi<|e8<|pF key x r k) g (pY r<|gz d) 16 352:=Jp.dE (w:=wr.drew) j À;clear inv j;generalize lk d (pF key x r) k k=z at*;generalize pF key x r k=v at*;generalize pY r (gz d) k=y at*;generalize jI key r k=n at*;go_wp2;go_still_tail 12,Á;go_wp2;go_roundw
        case rel=>first|exact⟨k+1,À,Å,C,E⟩|((repeat apply Exists.intro);exact⟨⟨k+1,À,Å,C,E⟩,rfl⟩)
        case measure=>simp[bP];omega
       have ke:k=16:=À
       have k5:¬(k:Int)<16:=À
       rw[ke]at inv;have C:BK w key (pF key x<|r+1-1) wr:=inv.bR (λi U=>đ);clear ke j inv HN;go_wp2;go_roundw
       case rel=>first|exact⟨r+1,À,À,Å,C⟩|((repeat apply lU);exact⟨⟨r+1,À,À,Å,C⟩,rfl⟩)
       case measure=>simp[bP];omega
   obtain rfl:r=11:=À
   have inv:BK w key (Yr key x) wr:=inv;clear hr bc bs;go_wp2;go_loopw [15,16] (λv i wq=>∃k:Nat,k<=16/\i=zi k/\v=zs (kl (Yr key x) k)/\BK w key (Yr key x) wq) (λ_ i _=>bB (16-bP i))
   case atStart=>exact⟨0,À,rfl,rfl,inv⟩
   case round=>
    clear inv;obtain⟨k,hk,rfl,rfl,inv⟩:=hrel;by_cases L:k<16
    ·have k5:(k:Int)<16:=by omega
     have bw:=zJ (Yr key x) k;have c1:ae wr (zq (ak w.heap+1+1) k)=ac (zi<|e8<|Yr key x k):=inv.b2.i L;have HA:aK<|kl (Yr key x) (k+1)=kl (Yr key x) k++nb (aI (Yr key x k)) 1:=by show _=_;unfold kl nb nb bq;rw[List.range_succ];simp
     have HV:BK w key (Yr key x) wr:=inv;clear inv;generalize kl (Yr key x) k=X at*;generalize Yr key x k=v at*;go_wp2;refine(ub (e8 v) 1 (aI v) 1 rfl rfl Ã _).mono ?_;rintro en w2⟨rfl,Y⟩;have bx:=Z2 (aI v) 1;have C:BK w key (Yr key x) w2:=HV.fP Y;clear Y c1;generalize nb (aI v) 1=B at*;go_wp2;go_roundw
     case rel=>first|exact⟨k+1,À,Å,by rw[HA.o],C⟩|((repeat apply lU);exact⟨⟨k+1,À,Å,by rw[HA.o],C⟩,rfl⟩)
     case measure=>simp[bP];omega
    obtain rfl:k=16:=À
    have hb:=inv.eR;clear inv;go_wp2;go_ret;exact⟨by rw[HX];rfl,hb⟩
end
section
def VZ{f g}(h:∀i,i<16->f i=g i):∀i,i<16->gz f i=gz g i:=λi _=>by grind [gz]
def xdq{f g}(h:∀i,i<16->f i=g i):∀i,i<16->ny f i=ny g i:=λi a=>by grind [ny]
def NR{f g p q}(h:∀i,i<16->f i=g i)(a:∀i,i<16->p i=q i):∀i,i<16->nf f p i=nf g q i:=λi b=>by grind [nf]
theorem xjs{f g}(h:∀i,i<16->f i=g i)(c j):ve f c j=ve g c j:=by grind [ve]
def xj9{f g}(h:∀i,i<16->f i=g i)(c):∀i,i<16->kn f c i=kn g c i:=by intro i;induction i using Nat.strongRecOn with|_ i ih=>intro b;by_cases a:i<4;grind [U2,xjs];obtain⟨j,rfl⟩:∃j,i=j+4:=⟨i-4,À⟩;grind [U1]
def IM{f g}(h:∀i,i<16->f i=g i):∀n i,i<16->jI f n i=jI g n i
 |0=>h|n+1=>xj9 (IM h n)<|qZ n
def VY{k k' x b}(h:∀i,i<16->k i=k' i)(a:∀i,i<16->x i=b i):∀n i,i<16->Bb k x n i=Bb k' b n i
 |0=>NR a<|IM h 0
 |n+1=>NR (xdq<|VZ<|VY h a n)<|IM h<|n+1
def xb5{k k' x a}(h:∀i,i<16->k i=k' i)(b:∀i,i<16->x i=a i):∀i,i<16->Yr k x i=Yr k' a i:=
 NR (VZ<|VY h b 9) (IM h 10)
def xoc{f g n}(h:∀i,i<n->f i=g i):kl f n=kl g n:=by grind [kl,W6]
open Go.RowKit
attribute [local go_sem] zn zg wy
def Jp.lD{w b n f}{t:Zt}(d:Jp w b f n t):w.rangeAt b 0<|ki f n:=λj v c=>by
 have a:j<n:=by have:=(Wb.1 c).1;rwa[IK]at this
 rw[j7,d.i a,<-c,U3 _ _ _ a]
def Jp.lt{w b n f}{t:Zt}(c:Jp w b f n t)(a:0<n):b<ak w.heap:=js<|c.i a
def L6(x:Addr):Sem Zv:=loadVar 318 x
def L1(x:Addr):Sem Zv:=loadVar 320 x
def VN(x):loadVar 318 x=L6 x:=rfl
def VM(x):loadVar 320 x=L1 x:=rfl
attribute [local go_sem ↓] VN VM
end
section
open Go.RowKit
attribute [local go_sem] zn zg wy
attribute [local go_sem ↓] VN VM
structure RO(w:Zy)(b7 b8 o:Nat)(key fx:Zu)(n:Nat)(Z:Ze)(wr:Zy):Prop where
 eR:aN (ak w.heap) w wr
 vh:ak w.heap<=o
 n7:b7≠o
 n8:b8≠o
 r7:Jp wr b7 Sn 256 318
 r8:Jp wr b8 (hU key) 176 320
 ob:wr.heap[o]?=ac (aq (aV (kb fx n++Z)) 5 (aa (kb fx n++Z),aa (kb fx n++Z)+1))
def RO.Hz{w a b7 b8 o n key b Z}(h:RO w b7 b8 o key b n Z a):o<ak a.heap:=(za.1 h.ob).1
def RO.fP{w b b7 b8 o n key c Z w'}(h:RO w b7 b8 o key c n Z b)(a:aN (ak b.heap) b w'):RO w b7 b8 o key c n Z w':=
 ⟨h.eR.trans<|a.mono h.eR.size,h.vh,h.n7,h.n8,h.r7.Y a<|h.r7.lt Ã,h.r8.Y a<|h.r8.lt Ã,(a.block _ h.Hz).trans h.ob⟩
def RO.U{w b b7 b8 o n key a Z}(h:RO w b7 b8 o key a n Z b):RO w b7 b8 o key a n Z b.drew:=⟨h.eR.drew,h.vh,h.n7,h.n8,h.r7,h.r8,h.ob⟩
def RO.i{w b b7 b8 o n key a Z}(h:RO w b7 b8 o key a n Z b)(k)(hk:k<n):ae b (zq o k)=ac (zc<|a k):=ċ
def RO.ee{w a b7 b8 o n key b Z}(h:RO w b7 b8 o key b n Z a)(k)(hk:k<n):aQ a (zq o k)=ao:=Ŗ
theorem RO.H{w b b7 b8 o n key a Z}(h:RO w b7 b8 o key a n Z b)(k)(hk:k<n)(v):RO w b7 b8 o key (λi=>if i=k then v else a i) n Z<|ai b (zq o k)<|zc v:=by refine⟨h.eR.setCell h.vh _,h.vh,h.n7,h.n8,h.r7.dE h.n7,h.r8.dE h.n8, ?_⟩;rw[zdm _ _ _ _ _ _ _ h.ob,Jr _ _ _ _ _ _ h.ob];grind [rB,LO]
theorem RO.bR{w b b7 b8 o n key a Z fy}(h:RO w b7 b8 o key a n Z b)(e:∀i,i<n->a i=fy i):RO w b7 b8 o key fy n Z b:=by have:=h.ob;rw[LZ e]at this;exact⟨h.eR,h.vh,h.n7,h.n8,h.r7,h.r8,this⟩
theorem VQ(m):∀k j,j<k->(nb m k).getD j 0=ku (m/256^(k-1-j))
 |k+1,0,_=>by rw[nb];simp[bq]|k+1,j+1,h=>by rw[nb,List.getD_cons_succ,VQ m k j À,show k+1-1-(j+1)=k-1-j by omega]
def ja9(a)(b:aa a=8)(m i)(c:i<16):(a++nb m 8).getD i 0=iT a m i:=by
 unfold iT;by_cases h:i<8;grind;rw[if_neg h];have e:(a++nb m 8).getD i 0=(nb m 8).getD (i-8) 0:=by simp only[List.getD];rw[Xp À,b]
 grind [VQ]
def xxn(c a)(b:aa a=8)(m):kl (Yr c λi=>(a++nb m 8).getD i 0) 16=kl (Yr c<|iT a m) 16:=
 xoc (xb5 (λ_ _=>rfl) λj d=>ja9 a b m j d)
def V'(l n)(h:n<aa l):l.getD n 0=(st l)[n]'(by rw[zn];exact h):=by show l.getD n 0=l[n];grind
def Bz(key:Zu)(no:Zl)(k:Nat):Zl:=if k=0 then []else kl (Yr key<|iT no<|(k-1)/16) 16
def NP(k d x)(hk:aa k=16)(bk:aa d=8)(hx:aa x<=80000)(w):aG prog 197 #[zs k,zs d,zs x] w λen w'=>en=ah (zs<|me k d x)/\aN (ak w.heap) w w':=by
 have bn:=(zero_of_info UW).1;have bm:=(zero_of_info UV).1;have be:ak wR=ak (ki Sn 256).toArray:=by rw[Ny,uI,uI]
 have Y:(prog.info? 318).map (·.size)=ac (ak (ki Sn 256).toArray):=by rw[uI];exact NG
 have bc:=IL Sn 256;obtain⟨c,F⟩:∃c:Nat->Z8,(λi=>k.getD i 0)=c:=⟨_,rfl⟩;have bf:aK<|(λi=>k.getD i 0)=c:=F;have HC:aK<|∀W,aG prog 248 #[zs k,bM (aV (ki Sn 256))] W λen w'=>en=ah (bM (aV (ki (hU c) 176)))/\aN (ak W.heap) W w':=λW=>by grind [zxi]
 clear F;have bd:ak Fb=ak (ki (hU c) 176).toArray:=by rw[UU,uI,uI]
 have X:(prog.info? 320).map (·.size)=ac (ak (ki (hU c) 176).toArray):=by rw[uI];exact NE
 have ba:=IL (hU c) 176;have E:(prog.info? 318).map (·.size)=ac (aa (ki Sn 256)):=by rw[IK];exact NG
 have D:(prog.info? 320).map (·.size)=ac (aa (ki (hU c) 176)):=by rw[IK];exact NE
 have Q:∀W b,Jp W b Sn 256 318->(L6<|zq b 0).run prog W=cT (bM (aV (ki Sn 256))) W:=λW b h=>run_loadVar_mid W b 0 318 (ki Sn 256) _ h.lD kj rfl E;have O:∀W b,Jp W b (hU c) 176 320->(L1<|zq b 0).run prog W=cT (bM (aV (ki (hU c) 176))) W:=λW b h=>run_loadVar_mid W b 0 320 (ki (hU c) 176) _ h.lD km rfl D;clear E D;generalize wR=zz6 at*;generalize Fb=zz1 at*;go_enter func197.1,Tryz.ntmps197;go_wp2;refine(xi8 _).mono ?_;rintro en w1⟨rfl,t⟩;have y:aN (ak w.heap) w<|aB w1<|aq (aV (ki Sn 256)) 318:=t.alloc t.size _;have r:Jp (aB w1<|aq (aV (ki Sn 256)) 318) (ak w1.heap) Sn 256 318:=xn _ _;go_upto_region 2 with(refine Zo rfl 318 _ _ rfl w1.heap.size _ rfl rfl 318 zz6 (xn _ _) Y be bc ?_;rw[mC])
 clear bn be Y bc;have br:ak w.heap<=ak w1.heap:=t.size;generalize aB w1 (aq (aV (ki Sn 256)) 318)=w2 at*;generalize ak w1.heap=b7 at*;have C:=r.lt Ã
 go_wp2;refine(HC.o _).mono ?_;rintro en J⟨rfl,p⟩;have f:Jp (aB J<|aq (aV (ki (hU c) 176)) 320) b7 Sn 256 318:=(r.Y p C).Y ((zt _ _).alloc (zd _) _)<|zm C p.size;have GX:Jp (aB J<|aq (aV (ki (hU c) 176)) 320) (ak J.heap) (hU c) 176 320:=xn _ _;have z:aN (ak w.heap) w<|aB J<|aq (aV (ki (hU c) 176)) 320:=(y.trans<|p.mono y.size).alloc (xa y.size p.size) _;go_upto_region 3 with(refine Zo rfl 320 _ _ rfl J.heap.size _ rfl rfl 320 zz1 (xn _ _) X bd ba ?_;rw[mC])
 clear bm bd X ba r HC;generalize aB J (aq (aV (ki (hU c) 176)) 320)=w4 at*;generalize ak J.heap=b8 at*;have bj:=GX.lt Ã;have C:=f.lt Ã;obtain⟨M,Z,w5,bq,V,B,bb⟩:=Te x w4;have G:RO w b7 b8 (ak w4.heap) c (sF c d x 0) (aa x) Z w5:=⟨z.trans<|B.mono z.size,z.size,À,À,f.Y B C,GX.Y B bj,by rw[bb];rfl⟩;clear bb B f GX z p y t;generalize ak w4.heap=o at*;go_wp2;clear V;go_loopw [10,11] (λv i wr=>∃q:Nat,q<=aa x/\i=zi q/\v=zs (Bz c d q)/\RO w b7 b8 o c (sF c d x q) (aa x) Z wr) (λ_ i _=>bB (aa x-bP i))
 case atStart=>exact⟨0,À,rfl,rfl,G⟩
 case round=>
  clear G;obtain⟨q,hq,rfl,rfl,inv⟩:=hrel;by_cases g:q<aa x
  ·have i1:(q:Int)<(aa x:Nat):=by omega
   obtain⟨m,hm⟩:∃m,q/16=m:=⟨_,rfl⟩;obtain⟨s,hs⟩:∃s,q%16=s:=⟨_,rfl⟩;have I:s<16:=À
   have et:(q:Int).tmod 16=(s:Nat):=by rw[qo À];omega
   have em:(q:Int)%16=(s:Nat):=À
   have hP:Bz c d (q+1)=kl (Yr c<|iT d m) 16:=by unfold Bz;rw[if_neg À,show(q+1-1)/16=m by omega]
   have HP:aK<|rX c d q=Yr c (iT d m) s:=by show _=_;unfold rX;rw[hm,hs]
   by_cases h0:s=0
   ·have er:((q:Int)%16==0)=aw:=by simp;omega
    have ed:(q:Int).tdiv 16=(m:Nat):=by rw[Int.tdiv_eq_ediv_of_nonneg À];omega
    clear h0;have HV:aK<|RO w b7 b8 o c (sF c d x q) (aa x) Z wr:=inv;have R7:=inv.U.r7;have R8:=inv.U.r8;have HB:aK<|kl (Yr c λi=>(d++nb m 8).getD i 0) 16=kl (Yr c<|iT d m) 16:=xxn c d bk m;have hl:=Z2 m 8;have HL:aK<|∀W,aG prog 249 #[zs<|d++nb m 8,bM (aV (ki (hU c) 176)),bM (aV (ki Sn 256))] W λen w'=>en=ah (aj<|st<|kl (Yr c<|iT d m) 16)/\aN (ak W.heap) W w':=λW=>by rw[<-HB.o];grind [xi5]
    have L:aK<|∀W,aG prog 140 #[zi m,zi 8] W λen w'=>en=ah (zs<|nb m 8)/\aN (ak W.heap) W w':=λW=>ub (m:Int) 8 m 8 rfl rfl Ã W;have bi:IntKind.i64.wrap (m:Int)=(m:Int):=É
    have R:aa (kl (Yr c<|iT d m) 16)=16:=zJ _ _;have n:aK<|(kl (Yr c<|iT d m) 16).getD s 0=Yr c (iT d m) s:=Sl _ _ _ I;clear inv HB;generalize nb m 8=NB at*;generalize kl (Yr c<|iT d m) 16=PP at*;generalize ki (hU c) 176=Y1 at*;generalize ki Sn 256=X6 at*;go_wp2;go_region_with (first
     |(go_at_call 140;go_fit (L.o _);rintro en v1⟨rfl,T⟩;have E1:=HV.o.U.fP T;have bg:=E1.r7;have bh:=E1.r8;clear R7 R8)
     |(go_at_call 249;go_fit (HL.o _);rintro en v2⟨rfl,U⟩;have E2:=E1.fP U))
    all_goals (
     have inv:=E2;clear bg bh E1 E2 T U HL L bi er ed HV Q O;obtain⟨b,H⟩:∃b,(st PP)[s]'(by rw[zn,R];exact I)=b:=⟨_,rfl⟩;have bo:(s:Int)<(aa PP:Nat):=À
     have bp:(s:Int)<16:=À
     have eb:rX c d q=b:=by rw[HP.o,<-n.o,<-H];exact V' PP s À
     have c1:ae v2 (zq o q)=ac (zc<|x.getD q 0):=by rw[inv.i q g];unfold sF;rw[if_neg À]
     have f1:aQ v2 (zq o q)=ao:=inv.ee q g;have K:aK<|RO w b7 b8 o c (sF c d x<|q+1) (aa x) Z<|ai v2.drew (zq o q)<|zc<|x.getD q 0^^^b:=by refine(inv.U.H q g _).bR λi _=>?_;unfold sF;by_cases e:i=q;simp_all;rw[if_neg e];by_cases e2:i<q;rw[if_pos e2,if_pos À];rw[if_neg e2,if_neg À]
     have bl:kf .xor .u8 (e8<|x.getD q 0) (aI b:Int)=e8 (x.getD q 0^^^b):=wy _ b;have l:aK<|Bz c d (q+1)=PP:=hP;clear inv eb hP HP n hm hs;generalize x.getD q 0^^^b=v at*;generalize x.getD q 0=a at*;go_wp2;go_still_tail 12,Á;go_wp2;go_roundw
     case rel=>first|exact⟨q+1,À,Å,by rw[l.o],K.o⟩|((repeat apply Exists.intro);exact⟨⟨q+1,À,Å,by rw[l.o],K.o⟩,rfl⟩)
     grind [bP])
   have er:((q:Int)%16==0)=ao:=Æ
   have S:Bz c d q=kl (Yr c<|iT d m) 16:=by unfold Bz;rw[if_neg À,show(q-1)/16=m by omega]
   have R:aa (kl (Yr c<|iT d m) 16)=16:=zJ _ _;have n:aK<|(kl (Yr c<|iT d m) 16).getD s 0=Yr c (iT d m) s:=Sl _ _ _ I;rw[S];clear Q O S;generalize kl (Yr c<|iT d m) 16=PP at*;obtain⟨b,H⟩:∃b,(st PP)[s]'(by grind [zn])=b:=⟨_,rfl⟩;have bo:(s:Int)<(aa PP:Nat):=À
   have bp:(s:Int)<16:=À
   have eb:rX c d q=b:=by rw[HP.o,<-n.o,<-H];exact V' PP s À
   have c1:ae wr (zq o q)=ac (zc<|x.getD q 0):=by rw[inv.i q g];unfold sF;rw[if_neg À]
   have f1:aQ wr (zq o q)=ao:=inv.ee q g;have K:aK<|RO w b7 b8 o c (sF c d x<|q+1) (aa x) Z<|ai wr.drew (zq o q)<|zc<|x.getD q 0^^^b:=by refine(inv.U.H q g _).bR λi _=>?_;unfold sF;by_cases e:i=q;grind;grind
   have bl:kf .xor .u8 (e8<|x.getD q 0) (aI b:Int)=e8 (x.getD q 0^^^b):=wy _ b;have l:aK<|Bz c d (q+1)=PP:=hP;clear inv eb hP HP n hm hs;generalize x.getD q 0^^^b=v at*;generalize x.getD q 0=a at*;go_wp2;go_still_tail 12,Á;go_wp2;go_roundw
   case rel=>first|exact⟨q+1,À,Å,by rw[l.o],K.o⟩|((repeat apply Exists.intro);exact⟨⟨q+1,À,Å,by rw[l.o],K.o⟩,rfl⟩)
   grind [bP]
  have i1:¬(q:Int)<(aa x:Nat):=À
  have inv:=inv.bR (fy:=λi=>x.getD i 0^^^rX c d i) (λi hi=>by grind [sF]);have V:(convert 163 9<|az (ac ⟨o,0,ar⟩) (aa x) M).run prog wr=cT (zs<|me k d x) wr:=by
   have e:me k d x=kl (λi=>x.getD i 0^^^rX c d i) (aa x):=by show kl (λi=>x.getD i 0^^^rX (λj=>k.getD j 0) d i) (aa x)=_;rw[bf.o]
   rw[e];have h:=gJ (P:=prog) wr 163 9 5 (zq o 0) M (kl (λi=>x.getD i 0^^^rX c d i) (aa x)) cI eo dA (λj hj=>by rw[oB,j7];rw[zJ]at hj;rw[inv.i j hj];simp[kl,e8]);rw[zJ]at h;exact h
  have hb:=inv.eR;clear inv;go_wp2;go_ret;simp_all
end
section
open Go.RowKit
attribute [local go_sem] zn zg
section
variable {Q:Exit→jG→Zy→Prop}
def VK(m l x)(hx:x=st l)(n)(k:Nat)(hk:n=(k:Int))(d:aa m=32)(a:aa l<=4063)(c:k<=255)(w)(b:Yq w):aG prog 201 #[zs m,aj ⟨#[]⟩,aj x,zi n] w λen w'=>en=ah (zs<|uA (Wu [] m) l k)/\aN (ak w.heap) w w':=by subst hx;subst hk;exact xa1 m [] l À Ä a k c w b
def NS(C f)(ep:Nat)(w)(h:Ju w C f)(k:Yq w)(l:aa f.m=32):aG prog 198 #[zo C,zi ep] w λe w'=>e=ah (zs<|Ji f.m ep)/\aN (ak w.heap) w w':=by
 have j:=h.bO.i 7 rfl;have c:∀w1,aN (ak w.heap) w w1->ae w1 (zq C 7)=ac _:=λw1 b=>(h.bO.Y b).i 7 rfl;have i:=k;have g:aK<|(⟨#[99,105,112,104,101,114]⟩:ByteArray)++st (nb ep 1)=st (Bj++nb ep 1):=by show _=_;rw[show(⟨#[99,105,112,104,101,114]⟩:ByteArray)=st Bj from rfl,zg]
 have l1:=Z2 ep 1;have a:aN (ak w.heap) w w.drew:=(zt _ _).drew;go_enter func198.1,Tryz.ntmps198;go_wp2;go_region_held3 (λw'=>ae w' (zq C 7)=ac (zs f.m)) (first|exact j|exact d)
  (first
   |(go_at_call 140;apply(ub _ _ ep 1 rfl rfl Ã _).mono;rintro e w1⟨rfl,b⟩;replace a:=Xs a b;have d:=c _ a)
   |(go_at_call 201;apply(VK f.m _ _ g.o _ 16 rfl l (by simp[Bj];omega) Ã _<|i.fP a).mono;rintro e w1⟨rfl,b⟩;replace a:=Xs a b;have d:=c _ a))
 try clear hHeld
 go_wp2;go_ret;exact⟨rfl,a⟩
def NT(C f)(ep:Nat)(w)(h:Ju w C f)(k:Yq w)(l:aa f.m=32):aG prog 143 #[zo C,zi ep] w λe w'=>e=ah (zs<|Y7 f.m ep)/\aN (ak w.heap) w w':=by
 have j:=h.bO.i 7 rfl;have c:∀w1,aN (ak w.heap) w w1->ae w1 (zq C 7)=ac _:=λw1 b=>(h.bO.Y b).i 7 rfl;have i:=k;have g:aK<|(⟨#[116,97,103]⟩:ByteArray)++st (nb ep 1)=st (Bg++nb ep 1):=by show _=_;rw[show(⟨#[116,97,103]⟩:ByteArray)=st Bg from rfl,zg]
 have l1:=Z2 ep 1;have a:aN (ak w.heap) w w.drew:=(zt _ _).drew;go_enter func143.1,Tryz.ntmps143;go_wp2;go_region_held3 (λw'=>ae w' (zq C 7)=ac (zs f.m)) (first|exact j|exact d)
  (first
   |(go_at_call 140;apply(ub _ _ ep 1 rfl rfl Ã _).mono;rintro e w1⟨rfl,b⟩;replace a:=Xs a b;have d:=c _ a)
   |(go_at_call 201;apply(VK f.m _ _ g.o _ 32 rfl l (by simp[Bg];omega) Ã _<|i.fP a).mono;rintro e w1⟨rfl,b⟩;replace a:=Xs a b;have d:=c _ a))
 try clear hHeld
 go_wp2;go_ret;exact⟨rfl,a⟩
def xkk(pv P)(H:aa P<=20)(d:∀c∈P,uD c)(w)(h:Rw w 147 3 rI pv P):aG prog 133 #[pv] w λe w'=>e=ah (zs<|Z5 P)/\aN (ak w.heap) w w':=by
 obtain⟨a,B,rfl⟩:=h.dC;have z:=h;have x:=d;go_enter func133.1,Tryz.ntmps133;go_wp2;go_loopw [3,4] (λs i wr=>∃j:Nat,j<=aa P/\i=zi j/\s=zs (Z5<|P.take j)/\aN (ak w.heap) w wr) (λ_ i _=>bB (aa P-bP i))
 case atStart=>exact⟨0,À,rfl,rfl,zt _ _⟩
 case round=>
  obtain⟨j,I,rfl,rfl,m⟩:=hrel;have p:=m;by_cases f:j<aa P
  ·have D:(j:Int)<(aa P:Nat):=by omega
   obtain⟨g,rfl,r⟩:=z.kq (λ_=>rfl) f rfl;have l:∀w',aN (ak w.heap) w w'->ae w' (zq g<|j*3)=ac (aX<|cG P[j])/\ae w' (zq g<|j*3+1)=ac (zs<|cK P[j])/\ae w' (zq g<|j*3+2)=ac (zs<|cV P[j]):=λw' t=>⟨(zj.Q (S:=λ_=>False) t).i id<|r 0 À,(zj.Q (S:=λ_=>False) t).i id<|r 1 À,(zj.Q (S:=λ_=>False) t).i id<|r 2 À⟩;have y:aK<|Z5 (P.take<|j+1)=Z5 (P.take j)++tq P[j]:=by show _=_;rw[zp f,UH]
   have J:aa (Z5<|P.take j)<=1020:=by have:=EY λc C=>x c<|Gv (i:=j) C;rw[xf]at this;omega
   have d:=x _<|Xk f;generalize P[j]=c at*;generalize Z5 (P.take j)=X at*;have n:=l _ p;have b:aN (ak w.heap) w wr.drew:=p.drew;cases c with
   |del k=>
    simp only[cG,cK,cV,uD]at n l d;have l1:=Z2 (aa k) 1;have E:¬9223372036854775807<aa X+1:=À
    have F:¬9223372036854775807<aa X+1+1:=À
    have G:¬9223372036854775807<aa X+1+1+aa k:=À
    have q:aK<|st X++(⟨#[68]⟩:ByteArray)++st (nb (aa k) 1)++st k=st (X++tq (.del k)):=by show _=_;rw[show(⟨#[68]⟩:ByteArray)=st [68]from rfl,zg,zg,zg];simp[tq]
    go_wp2;go_region_held3 (λw'=>ae w' (zq g<|j*3)=ac (aX aw)/\ae w' (zq g<|j*3+1)=ac (zs k)/\ae w' (zq g<|j*3+2)=ac (aj<|st [])) (first|exact n|exact o)
     (first
      |(go_at_call 140;refine(ED _ 1 Ã _).mono ?_;rintro e w1⟨rfl,m⟩;replace b:=Xs b m;have o:=l _ b))
    try clear hHeld
    go_wp2;go_roundw
    case rel=>exact⟨j+1,À,Å,by rw[q.o,y.o],b⟩
    grind [bP]
   |put k v=>
    simp only[cG,cK,cV,uD]at n l d;have l1:=Z2 (aa k) 1;have K:=Z2 (aa v) 1;have E:¬9223372036854775807<aa X+1:=À
    have F:¬9223372036854775807<aa X+1+1:=À
    have G:¬9223372036854775807<aa X+1+1+1:=À
    have L:¬9223372036854775807<aa X+1+1+1+aa k:=À
    have M:¬9223372036854775807<aa X+1+1+1+aa k+aa v:=À
    have q:aK<|st X++(⟨#[80]⟩:ByteArray)++st (nb (aa k) 1)++st (nb (aa v) 1)++st k++st v=st (X++tq (.put k v)):=by show _=_;rw[show(⟨#[80]⟩:ByteArray)=st [80]from rfl,zg,zg,zg,zg,zg];simp[tq,vx]
    go_wp2;go_region_held3 (λw'=>ae w' (zq g<|j*3)=ac (aX ao)/\ae w' (zq g<|j*3+1)=ac (zs k)/\ae w' (zq g<|j*3+2)=ac (zs v)) (first|exact n|exact o)
     (first
      |(go_at_call 140;refine(ED _ 1 Ã _).mono ?_;rintro e w1⟨rfl,m⟩;replace b:=Xs b m;have o:=l _ b))
    clear o;try clear hHeld
    go_wp2;go_roundw
    case rel=>exact⟨j+1,À,Å,by rw[q.o,y.o],b⟩
    grind [bP]
  obtain rfl:j=aa P:=À
  have D:¬(aa P:Int)<(aa P:Nat):=À
  rw[jz];go_wp2;go_ret;exact⟨rfl,p⟩
def Dk.VH(d:Dk):Bool×Dk:=if d.cQ=aw then(ao,d.eN)else(aw,d.dR)
theorem Dk.yt(d:Dk):{d.dR with L:=d.L}=d.dR:=by unfold Dk.dR;split<;>rfl
theorem Rf.yu(f:Rf):{f.dR with fv:=f.fv,F:=f.F}=f.dR:=by unfold Rf.dR;split<;>rfl
def VO(C f d w)(h:Ju w C f)(a:Tw d f)(g:bK d.L<=400000):aG prog 195 #[zo C] w<|pi C f d.VH w:=by have ok:=a.ok g;refine(Ub C f w h ok.fV ok.nd (by have:=ok.gp;omega) ok.cE ok.jN).mono λe j k=>?_;unfold Dk.VH;cases hs:d.cQ;obtain⟨rfl,c⟩:=k.go<|a.cQ.trans hs;obtain⟨m,-,b⟩:=f.tA f.fv f.F;rw[if_neg Ä];refine⟨rfl,f.fv,f.F,f.mz,m, ?_, ?_⟩;grind;rw[CF,<-b];have i:=a.dR hs (v:=f.fv) a.gF a.gL a.nA a.nk a.fV;grind [Dk.yt,Rf.yu];obtain⟨rfl,c⟩:=k.cr<|a.cQ.trans hs;grind [pi.cr]
def NI{F}(a:(F.map (·.1)).Nodup)(b:∀p∈F,p.2.1≠[]):jO F:=⟨a,b⟩
theorem BB{F}(g:jO F){k v}(h:(k,v)∈F):Zm F k=v:=by unfold Zm;rw[(Vs g.nd (k,v)).1 h];rfl
theorem NX{F k}(h:∀p∈F,p.1≠k):Zm F k=([],0):=by unfold Zm;cases e:Xm F k with|none=>rfl|some v=>exact absurd rfl<|h _<|Ve e
def xty{A B n v u}(g:jO (A++(n,v)::B))(b:u.1≠[]):jO (A++(n,u)::B)/\∀k,Zm (A++(n,u)::B) k=if k=n then u else Zm (A++(n,v)::B) k:=by
 have c:jO (A++(n,u)::B):=by refine NI (by have:=g.nd;grind) λp a=>?_;obtain h|h:=je.1 a;exact g.ne p Ĵ;obtain rfl|h:=jc.1 h;exact b;exact g.ne p Ĵ
 grind [BB,NX]
def xt2{F F' n x}(g:jO F)(l:Xm F n=ar)(hx:x≠[])(h:F'.Perm<|(F++[(n,x,0)]).filter nB):jO F'/\∀k,Zm F' k=if k=n then(x,0)else Zm F k:=by
 have e:(F++[(n,x,(0:Int))]).filter nB=F++[(n,x,0)]:=List.filter_eq_self.2 λp c=>by obtain h|h:=je.1 c;have:=g.ne p h;simp[nB,this];grind [nB]
 rw[e]at h;have m:=EL l;have d:jO<|F++[(n,x,(0:Int))]:=by refine NI ?_ λp c=>?_;rw[qz,DY];refine⟨g.nd,Ä,λa o b q=>?_⟩;grind;obtain h|h:=je.1 c;exact g.ne p h;grind
 have f:=NI ((h.map _).nodup_iff.2 d.nd) λp c=>d.ne p<|h.mem_iff.1 c;refine⟨f,λk=>?_⟩;have i:Zm F' k=Zm (F++[(n,x,0)]) k:=by unfold Zm;rw[Nu h f.nd]
 rw[i];by_cases hk:k=n;grind [BB];rw[if_neg hk];cases e2:Xm F k with
 |some y=>rw[BB g<|Ve e2];exact BB d<|by simp[Ve e2]
 |none=>have j:=EL e2;rw[NX j];refine NX λp c=>?_;grind
def Rw.uj{α:Type}{w e k g n c f A B}{p q:α}(h:Rw w e k f (az (ac ⟨g,0,ar⟩) n c) (A++p::B))(d:∀a,aa (f a)=k)(i u)(D:i<k)(v:f q=(f p).set i u):Rw (ai w (zq g<|aa A*k+i) u) e k f (az (ac ⟨g,0,ar⟩) n c) (A++q::B):=by obtain⟨q,_⟩|⟨y,m,b,x,s,t,z,o,C,j⟩:=h.2;cases q;cases x;have r:xh w g b e:=t;have l:=r.H (aa A*k+i) u;refine⟨?_,aE ⟨g,c,_, ?_,s,l, ?_,o,Â, ?_⟩⟩;rw[yk d];simp;grind;simp only[Array.toList_setIfInBounds,List.take_set];simp only[zx,xg]at j⊢;rw[j,Wz,Wi,Wz,Wi,v,<-yk d A,Vy _ _ À,Gt,List.set_append_left _ _ Â]
def xqb{A B n v u}(h:ug (A++(n,v)::B)):ug (A++(n,u)::B):=by
 have a:((A++(n,v)::B).map (·.1)).Pairwise (·<·):=Wk.2 h;have b:(A++(n,v)::B).map (·.1)=(A++(n,u)::B).map (·.1):=Ä
 grind
def Tw.VI{d f A B n}{v u:Zl×Int}(h:Tw d f)(a:f.F=A++(n,v)::B)(b:u.1≠[])(i:jS n)(c:0<=u.2/\u.2<=(aa u.1:Nat)/\aa u.1<=1000000):Tw {d with L:=Vm d.L n u} {f with F:=A++(n,u)::B}:=by obtain⟨g,hd⟩:=xty (a▸h.gF) b;refine⟨h.bS,g,h.gL.pV _ _,λk=>?_,xqb<|a▸h.nk,h.fV.pV i c,h.nx,h.cE,h.jN⟩;rw[hd k];by_cases hk:k=n;subst hk;rw[if_pos rfl,IE h.gL λe=>absurd e b];rw[if_neg hk,ID hk,<-h.nA,a]
def Xf.zZ{C f w g m c A B p q}(h:Ju w C f)(d:f.fv=az (ac ⟨g,0,ar⟩) m c)(j:f.F=A++p::B)(i u)(l:i<3)(n:lp q=(lp p).set i u):Xf C f w {f with F:=A++q::B}<|ai w (zq g<|aa A*3+i) u:=by
 have b:=zj.H w (zq g<|aa A*3+i) u;have k:f.fv.ownBlock=ac g:=Ŕ
 have r:=d▸j▸h.fs;refine⟨b.W λx a=>aE (aF Â),⟨h.bO.y b λe=>h.fs.gH h.bO Ã g k e.symm, ?_,h.ss.y b λx a e=>h.ss.eF h.fs Ã a Â,h.ps.y b λx a e=>h.ps.eF h.fs Ã a Â,λe=>į⟩,λx a=>aF a⟩;rw[d];exact r.uj (λ_=>rfl) i u l n
def Tw.NH{d d' f f'}(h:Tw d f)(c:Tw d' f')(e:d'.L=d.L):f'.F=f.F:=by
 have g:=UR c.gF h.gF λk=>by rw[c.nA,h.nA,e]
 exact g.eq_of_pairwise (le:=λa b=>a.1<b.1) (λa b _ _ i j=>À) c.nk h.nk
def tD.fI{C f d w}(h:Ju w C f)(a:Tw d f)(b:bK d.L<=400000):tD C f d w f w:=⟨.refl h,a,⟨f.fv,f.F,f.mz,f.jN,rfl⟩,b⟩
theorem tD.jH{C f b f2 d c w w1 g}(h:tD C f d w b w1)(t:Xf C b w1 f2 g)(j:Tw c f2)(e:f2=b.dk f2.fv f2.F f2.mz f2.jN b.gA)(i:bK c.L<=400000):tD C f c w f2 g:=by obtain⟨v,F,a,n,rfl⟩:=h.dk;exact⟨h.rt.aA t,j,⟨f2.fv,f2.F,f2.mz,f2.jN,e⟩,i⟩
def Dk.ic(d:Dk)(n:Int)(x:Zl):Bool×Dk:=if d.cQ=aw then(ao,d.eN)else if(d.gk n x).cQ=aw then(ao,(d.gk n x).eN)else(aw,(d.gk n x).uC n)
section
variable {α:Type} {w0 w w':cY} {t e k:Nat} {f:α->List dL} {v:dL} {l:List α}
def xpq{ops:Array fj}{rest:List fj}{o:fj}{a:jG}{s x:Operand}{W:Zy}{g c d:Nat}{l2:List α}(E:El t e k)(h:W.ownsRow d e k v (aa l)<|l.flatMap f)(hd:d<=ak W.heap)(r:Rw W e k f (az (ac ⟨g,0,ar⟩) (aa l2) c) l2)(n:l2≠[])(O:aa l+aa l2<=1000000)(hk:∀a,aa (f a)=k)(L:∀a,∀u∈f a,u.oneCell'=aw)
  (I:a.eval s=v)(hx:a.eval x=az (ac ⟨g,0,ar⟩) (aa l2) c)(m:o.guard=ar)(ho:o.op= .call {callee:= .builtin .append,args:=#[s,x],argTypes:=#[t,t]})
  (H:∀g cap w',w'.ownsRow d e k (az (ac ⟨g,0,ar⟩) (aa l+aa l2) cap) (aa (l++l2)) ((l++l2).flatMap f)->zj (λy=>v.ownBlock=ac y) W w'->wpList prog ops Q rest (a.put o.dst<|az (ac ⟨g,0,ar⟩) (aa l+aa l2) cap) w'):wpList prog ops Q (o::rest) a W:=by
 obtain⟨i,z,C,K,p,B,w⟩:=E.Dh;have F:=Z0.2 n;refine wpList_append_lies _ m s x t ho d e i z k i.bytes E.yi C K p rfl w E.gX v (aa l) _ I h (zq g 0) (aa l2) c _ hx (yk hk l2) ?_ ?_ F Ø ?_ hd _ rfl ?_;exact λj u J=>r.cells rfl j u J;grind;have:(aa l+aa l2)*i.bytes<=1000000*100:=D6 À B;omega;intro g cap w' M b _ _;refine H g cap w' ?_ ⟨b.os,b.output,b.size,λq G D=>b.block q G λe=>D e.symm⟩;grind
def eD.zY{ops:Array fj}{rest:List fj}{o:fj}{a:jG}{s x:Operand}{cs:Za}(B:Nat)(n:ak w.heap=B)(E:El t e k)(b:α)(d:Nw w0 w)(h:w.ownsRow (ak w0.heap) e k v (aa l)<|l.flatMap f)(r:aa l<=1000000000000)(q:f b=ej cs)(hk:aa (f b)=k)(i:∀u∈f b,u.oneCell'=aw)
  (z:a.eval s=v)(hx:a.eval x=az (ac ⟨B,0,ar⟩) 1 1)(c:o.guard=ar)(ho:o.op= .call {callee:= .builtin .append,args:=#[s,x],argTypes:=#[t,t]})
  (K:∀g cap w',eD w0 w' e k f (az (ac ⟨g,0,ar⟩) (aa l+1) cap) (l++[b])->wpList prog ops Q rest (a.put o.dst<|az (ac ⟨g,0,ar⟩) (aa l+1) cap) w'):wpList prog ops Q (o::rest) a<|aB w<|aq cs e:=
 AL c λ_ p=>It E b (h.alloc _) (xa d.J Ä) r (xh.dT w cs e) q hk i z (n▸hx) ho λg cap w' j m _=>p _ _<|K g cap w' ⟨(d.aA<|zj.E _).gl m λy C=>(h.lt y C).1,j,λe=>į⟩
end
def VL{F:Xv}{k}(h:k<aa F):∃A B,F=A++F[k]::B/\aa A=k:=⟨F.take k,F.drop<|k+1,Ä,Â⟩
theorem Wq(d:Dk):d.dR.L=d.L:=ī
def xw5(C f d n x w)(h:Ju w C f)(ht:Tw d f)(hu:bK d.L+(aa x:Int)<=400000)(hn:jS n)(hx:x≠[]):aG prog 144 #[zo C,zi n,zs x] w<|pi C f (d.ic n x) w:=by
 have be:bK d.L<=400000:=À
 have H0:=tD.fI h ht be;have HT:=ht;have HU:=hu;have HN:=hn;have HX:=hx;have bo:(aa x:Int)<=400000:=by have:=Uf d.L;omega
 go_enter func144.1,Tryz.ntmps144;go_wp2;refine(VO C f d _ H0.rt.dS H0.tw be).mono ?_;rintro e w1 hk;have ba:pi C f (if d.cQ=aw then(ao,d.eN)else(aw,d.dR)) w e w1:=hk;obtain⟨rfl,z,j⟩:=H0.dQ ba (λhb=>by cases hs:d.cQ;simp[Wq];exact be;simp_all);cases hs:d.cQ;rotate_left
 ·rw[hs,if_pos rfl]at z j;have HE:pi C f (d.ic n x) w (ah<|aX ao) w1:=by show pi _ _ _ _ _ _;unfold Dk.ic;rw[if_pos hs];exact j rfl
  go_wp2;go_ret;exact HE
 rw[hs,if_neg Ä]at z j;obtain⟨i,D,-⟩:=z rfl;have c:=D;have HA:aK<|d.ic n x=if(d.gk n x).cQ=aw then(ao,(d.gk n x).eN)else(aw,(d.gk n x).uC n):=by show _=_;unfold Dk.ic;rw[if_neg<|by simp[hs]]
 have bp:aa i.F<=400000:=by have q:=vA D.tw.gF.ne;rw[D.tw.yr,Wq]at q;omega
 go_wp2;refine(EX C i n _ c.rt.dS À).mono ?_;obtain⟨a,S,hv⟩:=c.rt.dS.fs.dC;have HV:=hv;rintro e t⟨rfl,⟨k,hk,rfl,z,j⟩|⟨rfl,j⟩⟩;focus
  obtain⟨A,B,E,Z⟩:=VL hk;obtain⟨⟨m,o,H⟩,hp⟩:∃p,i.F[k]=p:=⟨_,rfl⟩;rw[hp]at E z j;have z:n=m:=Eq.symm z;subst z;obtain⟨g,rfl,hc⟩:=c.rt.dS.fs.kq (λ_=>rfl) hk HV;rw[hp]at hc;have e1:ae t (zq g<|k*3+1)=ac (zs o):=hc 1 À;have c3:ae t (zq C 3)=ac (az (ac ⟨g,0,ar⟩) (aa i.F) S):=HV▸c.rt.dS.bO.i 3 rfl;have fz:aQ t (zq g<|k*3+1)=ao:=(show Rw t 159 3 lp (az (ac ⟨g,0,ar⟩) (aa i.F) S) i.F from HV▸c.rt.dS.fs).dG _;have i1:¬(k:Int)<0:=À
  have i2:(k:Int)<(aa i.F:Nat):=À
  have hE:=c.tw.tB _ (by simp_all:(n,o,H)∈i.F);have bb:=c.tw.gF.ne _ (by simp_all:(n,o,H)∈i.F);simp only at hE bb;have m1:¬9223372036854775807<aa o+aa x:=by have:=hE.2;omega
  have s:Zm d.L n=(o,H):=by rw[<-Wq d,<-c.tw.nA];exact BB c.tw.gF Ë
  have bk:(aa (o++x):Int)<=400000:=by have q:=MK d.L n;have e:jp d.L n=o:=congrArg nC s;rw[e]at q;rw[zx];have:=HU;omega
  have e2:d.gk n x={d.dR with L:=Vm d.dR.L n (o++x,H)}:=by unfold Dk.gk;have e:jp d.L n=o:=congrArg nC s;rw[e,s,Wq]
  have r1:=Xf.zZ (q:=(n,o++x,H)) c.rt.dS HV E 1 (zs<|o++x) Ã rfl;have t1:=c.tw.VI E (u:=(o++x,H)) Ë HN ⟨hE.2.1,by simp only[zx];omega,by show(o++x).length<=1000000;omega⟩;rw[<-e2]at t1;have I:bK (d.gk n x).L<=400000:=by have q:=Bv (F:=d.L) n (o++x,H);have e:jp d.L n=o:=congrArg nC s;rw[e]at q;show bK _<=_;rw[e2];show bK (Vm d.dR.L n (o++x,H))<=_;rw[Wq];simp only[zx]at q;have:=HU;omega
  have K:=c.jH r1 t1 rfl I;rw[Z]at K;obtain⟨G,J⟩:∃G,G=({i with F:=A++(n,o++x,H)::B}:Rf):=⟨_,rfl⟩;rw[<-J]at K;have v:tD C f (d.gk n x) w G (ai t (zq g<|k*3+1)<|zs<|o++x).drew:=K.jH (.nw K.rt.dS (zj.refl _ _).U) K.tw rfl K.pE;have Q:aK (G.F=A++(n,o++x,H)::B):=by show _=_;rw[J]
  clear hc E j r1 t1 hp K J;go_wp2;go_still_tail 15,Á;go_wp2;generalize(ai t (zq g<|k*3+1)<|zs<|o++x).drew=w3 at*;generalize o++x=bx at*;clear HV c hk
 rotate_left;focus
  have c3:ae t (zq C 3)=ac (az a (aa i.F) S):=HV▸c.rt.dS.bO.i 3 rfl;have hC:=c.rt.dS.bO.lt;have O1:(aB t<|aq #[] 159).ownsRow (ak t.heap) 159 3 (az (ac ⟨ak t.heap,0,ar⟩) 0 0) (aa ([]:Xv))<|([]:Xv).flatMap lp:=World.ownsRow_lit t #[] 0 (zd _) À rfl;have N1:Nw t<|aB t<|aq #[] 159:=zj.E _;by_cases M:i.F=[];focus
   have bm:ae t (zq C 3)=ac (az ar 0 0):=(c.rt.dS.fn M)▸c.rt.dS.bO.i 3 rfl;have O:=M;clear M c3;go_wp2_with (refine eD.zY (ak t.heap+1) Ä zU (n,x,0) N1 O1 Ä rfl rfl (zT _) rfl rfl rfl rfl ?_);intro Y r w3 W;have R:eD t w3 159 3 lp (az (ac ⟨Y,0,ar⟩) 1 r)<|i.F++[(n,x,(0:Int))]:=by show eD _ _ _ _ _ _ _;rw[O];exact W
   clear W O bm;go_wp2;generalize az (ac ⟨Y,0,ar⟩) 1 r=v9 at*
  rotate_left;focus
   obtain⟨g,rfl,-⟩:=c.rt.dS.fs.kq (λ_=>rfl) (Z0.2 M) HV;have R1:Rw (aB t<|aq #[] 159) 159 3 lp (az (ac ⟨g,0,ar⟩) (aa i.F) S) i.F:=(HV▸c.rt.dS.fs:Rw t 159 3 lp (az (ac ⟨g,0,ar⟩) (aa i.F) S) i.F).y N1 λ_ _=>id;have O:=M;clear M;go_wp2_with (refine xpq (l:=[]) zU O1 Ä R1 O Æ (λ_=>rfl) zT rfl rfl rfl rfl ?_);intro Y r w3 W bh;have N3:Nw t w3:=N1.gl bh λy hy=>by cases hy;grind
   have bf:=W;clear W bh c3 R1 O;go_wp2_with (refine eD.zY (ak w3.heap) rfl zU (n,x,0) N3 bf À rfl rfl (zT _) rfl rfl rfl rfl ?_);intro g4 bg w4 bj;obtain⟨w3,rfl⟩:∃y,y=w4:=⟨_,rfl⟩;have R:=bj;clear bj bf N3;go_wp2;generalize az (ac ⟨g4,0,ar⟩) (aa i.F+1) bg=v9 at*
  all_goals
   have HM:((i.F++[(n,x,(0:Int))]).map (·.1)).Nodup:=by show List.Nodup _;rw[qz,DY];refine⟨c.tw.gF.nd,Ä,λa ha b hb=>?_⟩;obtain⟨p,hp,rfl⟩:=Xe.1 ha;simp at hb;rw[hb];exact EL j p hp
   refine(MW C i _ v9 _ (c.rt.dS.y R.nw) R.rw HM Â).mono ?_;rintro e w4⟨rfl,v4,F4,D,h4,h5⟩;obtain⟨g4,bc⟩:=xt2 c.tw.gF j HX h4;have s:Zm d.L n=([],0):=by rw[<-Wq d,<-c.tw.nA];unfold Zm;rw[j];rfl
   have e2:d.gk n x={d.dR with L:=Vm d.L n (x,0)}:=by unfold Dk.gk;have e:jp d.L n=[]:=congrArg nC s;rw[e,s,qj]
   have t4:Tw (d.gk n x) {i with fv:=v4,F:=F4}:=by
    rw[e2];refine⟨c.tw.bS,g4,jO.pV (by have:=c.tw.gL;grind [Wq]) _ _,λk=>?_,h5,pB.pV (by have:=c.tw.fV;grind [Wq]) HN ⟨Ä,Ä,Â⟩,c.tw.nx,c.tw.cE,c.tw.jN⟩;show Zm F4 k=Zm (Vm d.L n (x,0)) k;have gL:jO d.L:=by have:=c.tw.gL;rw[Wq]at this;exact this
    rw[bc k];by_cases hk:k=n;grind [IE];rw[if_neg hk,ID hk,c.tw.nA,Wq]
   have I:bK (d.gk n x).L<=400000:=by have q:=Bv (F:=d.L) n (x,0);have e:jp d.L n=[]:=congrArg nC s;rw[e]at q;show bK _<=_;rw[e2];show bK (Vm d.L n (x,0))<=_;simp only[qy]at q;have:=HU;omega
   have K:=c.jH ((Xf.nw c.rt.dS R.nw).aA D) t4 rfl I;obtain⟨G,J⟩:∃G,G=({i with fv:=v4,F:=F4}:Rf):=⟨_,rfl⟩;rw[<-J]at K;have v:=K;have bn:aa G.F<=400000:=by have q:=vA K.tw.gF.ne;rw[K.tw.yr]at q;have:=I;omega
   have V:Zm G.F n=(x,0):=by rw[J];show Zm F4 n=_;rw[bc n,if_pos rfl]
   clear j D h4 h5 g4 bc s e2 t4 K J R HM;go_wp2;refine(EX C G n _ v.rt.dS À).mono ?_;rintro e w5⟨rfl,⟨k,hk,rfl,z,j⟩|⟨rfl,j⟩⟩;rotate_left;exfalso;unfold Zm at V;rw[j]at V;cases V;exact HX rfl;obtain⟨A,B,E,Z⟩:=VL hk;have U:G.F[k]=(n,x,0):=by
    have e:Zm G.F n=G.F[k].2:=by unfold Zm;rw[j];rfl
    rw[V]at e;exact Prod.ext z e.symm
   rw[U]at E;have Q:=xe E;clear z j U E V hk bn;have bk:=bo;generalize hbx:x=bx at Q bk;generalize(0:Int)=H at Q;obtain⟨w3,rfl⟩:∃y,y=w5:=⟨_,rfl⟩;clear hbx;go_wp2
 all_goals
  refine(VO C G (d.gk n x) _ v.rt.dS v.tw I).mono ?_;rintro e w6 hk;have ba:pi C G (if(d.gk n x).cQ=aw then(ao,(d.gk n x).eN)else(aw,(d.gk n x).dR)) w3 e w6:=hk;obtain⟨rfl,z,j⟩:=v.dQ ba (λhb=>by cases hs:(d.gk n x).cQ;simp[Wq];exact I;grind);clear hk ba;cases hs:(d.gk n x).cQ;rotate_left;focus
   rw[hs,if_pos rfl]at z j;have HE:pi C f (d.ic n x) w (ah<|aX ao) w6:=by show pi _ _ _ _ _ _;rw[HA.o,if_pos hs];exact j rfl
   clear z j hs;go_wp2;go_ret;exact HE
  rw[hs,if_neg Ä]at z j;obtain⟨f3,D,-⟩:=z rfl;have T:f3.F=A++(n,bx,H)::B:=(v.tw.NH D.tw<|Wq _).trans Q.o;obtain⟨a3,r,X⟩:=D.rt.dS.fs.dC;have bi:k<aa f3.F:=by rw[T];simp;omega
  obtain⟨Y,rfl,hc⟩:=D.rt.dS.fs.kq (λ_=>rfl) bi X;have U:f3.F[k]=(n,bx,H):=by simp[T,<-Z]
  rw[U]at hc;have e1:ae w6 (zq Y<|k*3+1)=ac (zs bx):=hc 1 À;have e2:ae w6 (zq Y<|k*3+2)=ac (zi H):=hc 2 À;have c3:ae w6 (zq C 3)=ac (az (ac ⟨Y,0,ar⟩) (aa f3.F) r):=X▸D.rt.dS.bO.i 3 rfl;have fz:aQ w6 (zq Y<|k*3+2)=ao:=(show Rw w6 159 3 lp (az (ac ⟨Y,0,ar⟩) (aa f3.F) r) f3.F from X▸D.rt.dS.fs).dG _;have i2:(k:Int)<(aa f3.F:Nat):=À
  have i1:¬(k:Int)<0:=À
  have bb:=D.tw.gF.ne (n,bx,H) Â;have r4:=Xf.zZ (q:=(n,bx,(aa bx:Int))) D.rt.dS X T 2 (zi (aa bx:Nat)) Ã rfl;have t4:=D.tw.VI T (u:=(bx,(aa bx:Int))) bb HN ⟨Ä,Ä,Â⟩;have bd:jp (d.gk n x).L n=bx:=by have e:Zm G.F n=(bx,H):=BB v.tw.gF (by rw[Q.o];simp);rw[v.tw.nA]at e;exact congrArg nC e
  have ef:(d.gk n x).uC n={(d.gk n x).dR with L:=Vm (d.gk n x).dR.L n (bx,(aa bx:Int))}:=by unfold Dk.uC;rw[bd,Wq]
  rw[<-ef]at t4;have bl:bK ((d.gk n x).uC n).L<=400000:=by have q:=Bv (F:=(d.gk n x).L) n (bx,(aa bx:Int));rw[bd]at q;rw[ef];show bK (Vm (d.gk n x).dR.L n _)<=_;rw[Wq];have:=I;simp only at q;omega
  have d4:=D.jH r4 t4 rfl bl;rw[Z]at d4;have HE:pi C f (d.ic n x) w (ah<|aX aw) (ai w6 (zq Y<|k*3+2)<|zi (aa bx:Nat)).drew:=by show pi _ _ _ _ _ _;rw[HA.o,if_neg<|by simp[hs]];exact(d4.jH (.nw d4.rt.dS (zj.refl _ _).U) d4.tw rfl d4.pE).end
  clear z j D T X bi hc U bb r4 t4 bd ef bl d4 hs;go_wp2;go_still_tail 14,Á;go_wp2;go_ret;exact HE
end
end
section
open Go.RowKit
attribute [local go_sem] zn zg zO
def vD(room seg lim:Int)(m:Zl):Bool:=bI (0<=room/\room<=100000/\1<=seg/\seg<=100000/\0<=lim/\lim<=999/\aa m=32)
def Rf.cR(room seg lim:Int)(m:Zl):Rf:=⟨room,seg,lim,az ar 0 0,[],ao,0,0,m,0,0,bD 32 0,ao,az ar 0 0,[],az ar 0 0,[],0,[],0,0,0,0⟩
def VV(a c b m){w C}(h:xh w C (Rf.cR a c b m).G 154):Ju w C<|Rf.cR a c b m:=⟨h,jk _ _ _ _,jk _ _ _ _,jk _ _ _ _,λ_=>rfl⟩
def xlr(a c b m)(d:vD a c b m=aw)(w):aG prog 79 #[zi a,zi c,zi b,zs m] w λe w'=>∃C,e=ah (zo C)/\Nw w w'/\ak w.heap<=C/\Ju w' C (Rf.cR a c b m):=by simp only[vD,Y8]at d;obtain⟨h,i,j,k,l,n,o⟩:=d;go_enter func79.1,Tryz.ntmps79;go_wp2;apply(LR _ 32 rfl Ã _).mono;rintro e w1⟨rfl,d⟩;have f:Nw w w1:=zj.Q d;have g:Ju _ (ak w1.heap)<|Rf.cR a c b m:=VV _ _ _ _<|xh.dT _ _ _;go_wp2;go_ret;exact⟨ak w1.heap,rfl,f.aA<|zj.E _,f.J,g⟩
def xh3(a b c m)(j:vD a b c m=ao)(w):aG prog 79 #[zi a,zi b,zi c,zs m] w λe w'=>e=ah (aR ar)/\w'=w:=by
 have k:a<0\/(¬a<0/\(100000:Int)<a)\/(¬a<0/\¬(100000:Int)<a/\b<1)\/(¬a<0/\¬(100000:Int)<a/\¬b<1/\(100000:Int)<b)\/(¬a<0/\¬(100000:Int)<a/\¬b<1/\¬(100000:Int)<b/\c<0)\/(¬a<0/\¬(100000:Int)<a/\¬b<1/\¬(100000:Int)<b/\¬c<0/\(999:Int)<c)\/(¬a<0/\¬(100000:Int)<a/\¬b<1/\¬(100000:Int)<b/\¬c<0/\¬(999:Int)<c/\((aa m:Int) != 32)=aw/\((aa m:Int)==32)=ao):=by simp only[vD,decide_eq_false_iff_not]at j;simp;omega
 obtain d|⟨d,f⟩|⟨d,f,g⟩|⟨d,f,g,h⟩|⟨d,f,g,h,i⟩|⟨d,f,g,h,i,l⟩|⟨d,f,g,h,i,l,n,o⟩:=k;all_goals
  go_enter func79.1,Tryz.ntmps79;go_wp2;go_ret;simp
def xdh(v xs)(o:aa xs<=1000)(hx:aa xs.flatten<=100000)(w)(h:Rw w 9 1 (λx=>[zs x]) v xs):aG prog 139 #[v] w λe w'=>e=ah (zs xs.flatten)/\w'=w:=by
 obtain⟨a,l,rfl⟩:=h.dC;have f:=h;go_enter func139.1,Tryz.ntmps139;go_wp2;go_loopw [3,4] (λs i wr=>∃j:Nat,j<=aa xs/\i=zi j/\s=aj (st (xs.take j).flatten)/\wr=w) (λ_ i _=>bB (aa xs-bP i))
 case atStart=>exact⟨0,À,rfl,rfl,rfl⟩
 case round=>
  obtain⟨j,n,rfl,rfl,rfl⟩:=hrel;by_cases b:j<aa xs
  ·have p:(j:Int)<(aa xs:Nat):=by omega
   obtain⟨g,rfl,m⟩:=f.kq (λ_=>rfl) b rfl;have e0:ae wr (zq g<|j*1)=ac (aj<|st xs[j]):=m 0 À;rw[yR]at e0;have d:(xs.take<|j+1).flatten=(xs.take j).flatten++xs[j]:=by rw[zp b,List.flatten_append];simp
   have c:aa (xs.take<|j+1).flatten<=aa xs.flatten:=by
    have e:xs.flatten=(xs.take<|j+1).flatten++(xs.drop<|j+1).flatten:=by rw[<-List.flatten_append,Gs]
    rw[e,zx];omega
   rw[d,zx]at c;have k:=d;generalize(xs.take j).flatten=X at*;generalize xs[j]=y at*;go_wp2;go_roundw
   case rel=>exact⟨j+1,À,Å,by rw[k],trivial⟩
   grind [bP]
  obtain rfl:j=aa xs:=À
  rw[jz];go_wp2;go_ret;simp
def oh(x:Zl):Ze:=[aj<|st x]
def N'(x):∀u∈oh x,u.oneCell'=aw:=by intro u a;simp[oh]at a;rw[a];rfl
def By:El 49 9 1:= .yh ((ex 49).trans Tryz.underlying49) (z:=aj ⟨#[]⟩) (b:=16) Á Ã rfl Ã
def xsi(x)(hx:aa x<=100000)(w):aG prog 134 #[aj<|st x] w λe w'=>∃v,e=ah v/\eD w w' 9 1 oh v (Ys x):=by
 go_enter func134.1,Tryz.ntmps134;go_wp2;go_loopw [3,4] (λv i wr=>∃(p:Nat) (D:List _),p<=aa x+63/\i=aH aU p/\aa D<=p/\aK (D++Ys (x.drop p)=Ys x)/\eD w wr 9 1 oh v D) (λ_ i _=>bB (aa x+64-bP i))
 case atStart=>exact⟨0,[],À,rfl,Ä,rfl,eD.nil _⟩
 case round=>
  obtain⟨p,D,s,rfl,r,h,n⟩:=hrel;have a:=n;by_cases m:p<aa x
  ·have o:(p:Int)<(aa x:Nat):=by omega
   have d:x.drop p≠[]:=by intro e;have:=congrArg aa e;rw[Zn]at this;simp at this;omega
   have j:aK<|D++[(x.drop p).take 64]++Ys (x.drop<|p+64)=Ys x:=by show _=_;rw[jq,<-h.o,Nc d,zbd];rfl
   by_cases l:(aa x:Int)<(p:Int)+64;focus
    have c:aK<|x.drop p=(x.drop p).take 64:=by show _=_;exact(qp Â).symm
    have t:(p:Int)<=(aa x:Nat):=À
    go_wp2_with (apply eD.iB By ((x.drop p).take 64) a À (by show [_]=[_];rw[<-c.o]) rfl (N' _) rfl rfl rfl rfl)
   rotate_left;focus
    have c:aK<|(x.take<|p+64).drop p=(x.drop p).take 64:=by show _=_;rw[Xb,Gt]
    go_wp2_with (apply eD.iB By ((x.drop p).take 64) a À (by show [_]=[_];rw[<-c.o]) rfl (N' _) rfl rfl rfl rfl)
   all_goals
    intro q g y f;have b:=f;go_wp2;go_roundw
    case rel=>exact⟨p+64,_,À,Å,Â,j,b⟩
    grind [bP]
  have o:¬(p:Int)<(aa x:Nat):=À
  have k:aK<|D=Ys x:=by show _=_;rw[<-h.o,KR À,Ng,Xz]
  go_wp2;go_ret;exact⟨_,rfl,by rw[<-k.o];exact a⟩
end
section
open Go.RowKit
attribute [local go_sem] zn zg
def sk(n w):aG prog 80 #[zi n] w λe w'=>e=ah (zi n)/\w'=w:=by go_enter func80.1,Tryz.ntmps80;go_wp2;go_ret;simp
def Dn(c:Int)(n:Nat):Nat:=if c<0 then(-(c+1)).toNat%n else bB c%n
def xy5(c){n}(h:0<n):Dn c n<n:=by unfold Dn;split<;>exact Nat.mod_lt _ h
def xug(c)(n:Nat)(j:0<n)(g:n<=1000000000)(h:-9223372036854775808<=c)(i:c<=9223372036854775807)(w):
  aG prog 50 #[zi c,zi n] w λen w'=>en=ah (zi (Dn c n:Nat))/\w'=w:=by
 have a:aK<|Dn c n=if c<0 then(-(c+1)).toNat%n else bB c%n:=rfl;by_cases f:c<0
 ·obtain⟨m,b⟩:∃m:Nat,c+1= -(m:Int):=⟨bB (-(c+1)),À⟩;have d:=xe b;have e:=f;clear b;go_enter func50.1,Tryz.ntmps50;go_wp2;go_ret;refine⟨congrArg (λz:Int=>ah<|zi z) ?_,rfl⟩;rw[a.o,if_pos e,d.o];simp;grind
 obtain⟨m,rfl⟩:∃m:Nat,c=m:=⟨bB c,À⟩;go_enter func50.1,Tryz.ntmps50;go_wp2;go_ret;refine⟨congrArg (λz:Int=>ah<|zi z) ?_,rfl⟩;rw[a.o,if_neg À];simp
def Aa(x:Int):Z8:=ku (bB (x%256))
def lH(n:Int):Zl:=[109,Aa<|n/65536,Aa<|n/256,Aa n]
def NY(x):(aI (Aa x):Int)=x%256:=by grind [Aa,UInt8.toNat_ofNat']
def Dq(n w):aG prog 55 #[zi n] w λe w'=>e=ah (zs<|lH n)/\Nw w w':=by
 have b:(convert 163 9<|az (ac ⟨ak w.heap,0,ar⟩) 4 4).run prog (aB w<|aq #[zb 109,zb<|n/65536%256,zb<|n/256%256,zb<|n%256] 5)=cT (zs<|lH n) (aB w<|aq #[zb 109,zb<|n/65536%256,zb<|n/256%256,zb<|n%256] 5):=by
  rw[<-NY<|n/65536,<-NY<|n/256,<-NY n];have B:=xh.dT w #[zb 109,zb<|aI (Aa<|n/65536),zb<|aI (Aa<|n/256),zb<|aI (Aa n)] 5;exact gJ _ 163 9 5 (zq (ak w.heap) 0) 4 (lH n) cI eo dA (λj c=>by
   match j,c with
   |0,_=>exact B.i 0 rfl|1,_=>exact B.i 1 rfl
   |2,_=>exact B.i 2 rfl|3,_=>exact B.i 3 rfl)
 have a:Nw w<|aB w<|aq #[zb 109,zb<|n/65536%256,zb<|n/256%256,zb<|n%256] 5:=zj.E _;go_enter func55.1,Tryz.ntmps55;go_wp2;go_ret;exact⟨rfl,a⟩
def Dp(n)(h:-9000000000000000000<=n/\n<=9000000000000000000)(w):aG prog 56 #[zi n] w λe w'=>e=ah (bM #[zi<|-n,zs<|lH n])/\Nw w w':=by have g:Nw w<|aB w<|aq #[zi 0,aj ⟨#[]⟩] 110:=zj.E _;have f:xh _ (ak w.heap) #[zi 0,aj ⟨#[]⟩] 110:=xh.dT _ _ _;go_enter func56.1,Tryz.ntmps56;go_wp2;generalize aB w _=w1 at*;apply(Dq n _).mono;rintro e d⟨rfl,c⟩;have a:=f.y c id;have i:=g.aA c;have k:=a.i 0 rfl;have l:=a.i 1 rfl;have o:=a.dG 0;have p:=a.dG 1;have b:=(a.H 0<|zi<|-n).H 1<|zs<|lH n;have e0:=b.i 0 rfl;have m:=b.i 1 rfl;have j:Nw w<|ai (ai d (zq (ak w.heap) 0)<|zi<|-n) (zq (ak w.heap) 1)<|zs<|lH n:=(i.cR (zd _)<|zj.H d (zq (ak w.heap) 0) _).cR (zd _)<|zj.H _ (zq (ak w.heap) 1) _;go_wp2;exact ji (by simp[dX,Tryz.results56,go_sem,k,l,e0,m]) rfl ⟨rfl,j⟩
end
section
open Go.RowKit
section
variable {Q:Exit→jG→Zy→Prop} {a0:Option Addr} {s x:Operand} {K:jG→Zy→Prop}
def oI(u:Ze)(n:Nat):Ze:=(bD n u).flatten
section
variable {u:List dL} {k:Nat}
def Fk(a:aa u=k)(n):aa (oI u n)=n*k:=by unfold oI;simp_all
def Fj(n m):oI u (n+m)=oI u n++oI u m:=by grind [oI,List.replicate_append_replicate]
def xuo{n x}(h:x∈oI u n):x∈u:=by obtain⟨l,a,b⟩:=List.mem_flatten.1 h;grind
def lr(e k:Nat)(u:Ze)(w:Zy)(v:Zv):Prop:=v=az ar 0 0\/∃g n cap L cur,v=az (ac ⟨g,0,ar⟩) n cap/\n<=L/\L<=cap/\cap<=nT/\w.heap[g]?=ac (aq cur e (0,0))/\ak cur=cap*k/\cur.toList.take (L*k)=oI u L
variable {W w':cY} {d t e n m c:Nat} {v:dL} {ad:Addr}
def lr.sE(h:lr e k u W v)(c:aa u=k):∃n,(∃a cap,v=az a n cap)/\W.ownsRow 0 e k v n (oI u n):=by obtain rfl|⟨g,n,cap,L,b,rfl,d,m,f,i,j,l⟩:=h;exact⟨0,⟨_,_,rfl⟩,jk _ _ _ _⟩;refine⟨n,⟨_,_,rfl⟩,Fk c n,aE ⟨g,cap,b,rfl,Zz _,i,À,f,j, ?_⟩⟩;have:=congrArg (dU<|n*k) l;rw[List.take_take,CE<|Y5 k d]at this;rw[this,show L=n+(L-n) by omega,Fj,List.take_left'<|Fk c n]
def lr.qJ(h:W.ownsRow d e k v n<|oI u n):lr e k u W v:=by obtain⟨h,_⟩|⟨g,a,b,m,_,c,f,i,j,l⟩:=h.2;exact aF h;exact aE ⟨g,n,a,n,b,m,zd _,f,i,c,j,l⟩
def lr.y{S}(h:lr e k u W v)(l:zj S W w')(m:∀g,v.ownBlock=ac g->¬S g):lr e k u w' v:=by obtain h|⟨g,n,a,L,b,rfl,d,f,i,c,j⟩:=h;exact aF h;exact aE ⟨g,n,a,L,b,rfl,d,f,i,(l.dB g (za.1 c).1<|m g rfl).trans c,j⟩
def lr.lt(h:lr e k u W v){g}(a:v.ownBlock=ac g):g<ak W.heap/\∃cur,W.heap[g]?=ac (aq cur e (0,0)):=by obtain rfl|⟨g,n,b,L,cur,rfl,c,d,f,i,j⟩:=h;cases a;cases a;grind
def Fh(e k:Nat)(u:Ze)(W:Zy)(v:Zv)(n:Nat)(v':Zv)(w':Zy):Prop:=lr e k u w' v'/\(∀x,lr e k u W x->lr e k u w' x)/\zj (λy=>v.ownBlock=ac y) W w'/\(v'.ownBlock=v.ownBlock\/v'.ownBlock=ac (ak W.heap))/\∃a cap,v'=az a n cap
def xyu(E:El t e k)(ty:Zt)(X:aa u=k)(h1:∀x∈u,x.oneCell'=aw)(h:lr e k u W v){a0 G}(hv:v=az a0 n G)(T:n<=1000000000000)(hm:0<m/\m<=10)(a:∀j x,(oI u m)[j]?=ac x->ae W (ad.add j)=ac x):
  ∃v' w',(Builtin.append_ #[t,t] ty #[v,az (ac ad) m c]).run prog W=cT v' w'/\Fh e k u W v (n+m) v' w':=by
 obtain⟨i,z,hi,hz,F,hb,bb⟩:=E.Dh;have d:(n+m)*i.bytes<=140737488355328:=by have:(n+m)*i.bytes<=1000000000010*100:=D6 À hb;omega
 have Y:n+m<=nT:=Ø
 have l:=Fk X m;have w:∀x∈oI u m,x.oneCell'=aw:=λx Q=>h1 x<|xuo Q;obtain⟨n',⟨a1,c1,b⟩,U⟩:=h.sE X;rw[hv]at b;cases b;obtain⟨g,bd,w',V,h2,s,h4,h5⟩:=run_append_lies W t ty 0 e i z k i.bytes E.yi hi hz F rfl bb E.gX v n _ U ad m c _ l a w hm.1 Y d (Zz _) _ rfl;rw[<-Fj]at h2;refine⟨_,w',V,.qJ h2,λx Q=>?_,⟨s.os,s.output,s.size,λq L T=>s.block q L λe=>T e.symm⟩,by obtain e|e:=h4;exact aF e.symm;exact aE<|by rw[<-e];rfl,_,_,rfl⟩;have I:zj (λy=>v.ownBlock=ac y) W w':=⟨s.os,s.output,s.size,λq L T=>s.block q L λe=>T e.symm⟩;by_cases S:∃y,x.ownBlock=ac y/\v.ownBlock=ac y;obtain⟨y,R,b⟩:=S;obtain⟨e0,_⟩|⟨g0,f,B,O,-,Z,bg,bf,M,ba⟩:=U.2;rw[e0]at b;cases b;rw[O]at b V;cases b;by_cases p:n+m<=f;subst F;have K:n*i.size+aa (oI u m)<=ak B:=by rw[l,M,<-Nat.add_mul];exact Y5 _ p
 have o:=run_append_room W t ty e i E.yi hi g0 n f B Z ad m c _ l a w p K;rw[V]at o;cases o;obtain rfl|⟨gx,nx,H,r,bc,rfl,x1,x2,x3,x4,x5,x6⟩:=Q;cases R;cases R;rw[Z]at x4;cases x4;have J:=Nat.eq_of_mul_eq_mul_right E.gX<|x5.symm.trans M;subst J;refine aE ⟨_,nx,H,r,_,rfl,x1,x2,x3,Jr W _ B _ e _ Z, ?_, ?_⟩;grind;simp only;rw[ba,<-Fj,l,<-Nat.add_mul];have D:=Fk X<|n+m;by_cases hL:r<=n+m;rw[Y4<|by rw[D];exact Y5 _ hL,show n+m=r+(n+m-r) by omega,Fj,List.take_left'<|Fk X r];rw[List.take_append,qp<|by rw[D];exact Y5 _ À,D,<-Nat.sub_mul];have h9:=congrArg (bH<|(n+m)*i.size) x6;rw[Xb,<-Nat.sub_mul]at h9;have be:oI u r=oI u (n+m)++oI u (r-(n+m)):=by rw[<-Fj,show n+m+(r-(n+m))=r by omega]
 grind;subst F;have C:=U.cells (by rw[O];rfl);have o:=run_append_grow W t ty e i z E.yi hi hz ⟨g0,0,ar⟩ n f _ U.1 C ad m c _ l a À À<|growslice_fits À d;rw[V]at o;cases o;exact Q.y ⟨rfl,rfl,Ä,λq L _=>Go.heap_alloc_old W.drew _ L⟩ λ_ _=>id;exact Q.y I λg hg e=>S ⟨g,hg,e⟩
def VT{o:fj}{a:jG}(E:El t e k)(r:aa u=k)(f:∀x∈u,x.oneCell'=aw)(h:lr e k u W v){d:Nat}(w:v=az a0 n d)(l:n<=1000000000000)(i:0<m/\m<=10)(b:∀j x,(oI u m)[j]?=ac x->ae W (ad.add j)=ac x)(q:a.eval s=v)(hx:a.eval x=az (ac ad) m c)(ho:o.op= .call {callee:= .builtin .append,args:=#[s,x],argTypes:=#[t,t]})
  (H:∀v' w',Fh e k u W v (n+m) v' w'->K (a.put o.dst v') w'):o.wp prog a W K Q:=by
 obtain⟨v',w',p,g⟩:=xyu (c:=c) E o.type r f h w l i b;unfold Oper.wp aL;simp only[ho,nD,ol,builtin,zc9,zda,Result.andThen_ok,List.map_toArray,Js,CK,q,hx,p];exact H v' w' g
def VP{ops:Array fj}{rest:List fj}{o:fj}{a:jG}(E:El t e k)(w:aa u=k)(g:∀x∈u,x.oneCell'=aw)(h:lr e k u W v){d:Nat}(y:v=az a0 n d)(q:n<=1000000000000)(p:0<m/\m<=10)(b:∀j x,(oI u m)[j]?=ac x->ae W (ad.add j)=ac x)(r:a.eval s=v)(hx:a.eval x=az (ac ad) m c)(f:o.guard=ar)(ho:o.op= .call {callee:= .builtin .append,args:=#[s,x],argTypes:=#[t,t]})
  (H:∀v' w',Fh e k u W v (n+m) v' w'->wpList prog ops Q rest (a.put o.dst v') w'):wpList prog ops Q (o::rest) a W:=
 AL f λ_ l=>VT E w g h y q p b r hx ho λv' w' i=>l _ _<|H v' w' i
def IN{ops:Array fj}{o:fj}{a:jG}{R:Prop}(E:El t e k)(q:aa u=k)(f:∀x∈u,x.oneCell'=aw)(h:lr e k u W v){d:Nat}(r:v=az a0 n d)(l:n<=1000000000000)(i:0<m/\m<=10)(b:∀j x,(oI u m)[j]?=ac x->ae W (ad.add j)=ac x)(p:a.eval s=v)(hx:a.eval x=az (ac ad) m c)(g:o.guard=ar)(ho:o.op= .call {callee:= .builtin .append,args:=#[s,x],argTypes:=#[t,t]})
  (H:∀v' w',Fh e k u W v (n+m) v' w'->K (a.put o.dst v') w'):if bC o (eZ ops a.tmps)=aw then o.wp prog a W K Q else R:=by
 rw[if_pos ľ];exact VT E q f h r l i b p hx ho H
end
end
end
section
open Go.RowKit
attribute [local go_sem] zn zg
def jej:El 61 49 1:= .yh ((ex 61).trans Tryz.underlying61) (z:=az ar 0 0) (b:=24) Á Ã rfl Ã
def jek:El 62 52 1:= .yh ((ex 62).trans Tryz.underlying62) (z:=az ar 0 0) (b:=24) Á Ã rfl Ã
def Ab:El 52 110 2:= .yh ((ex 52).trans Tryz.underlying52) (z:=bM #[zi 0,aj ⟨#[]⟩]) (b:=24) Á Ã rfl Ã
def sh(x:Zv):Ze:=[x]
abbrev WB(w:Zy)(H:Nat)(ps:Zv)(n:Int)(tv fv mv:Zv):Prop:=xh w H #[ps,zi n,tv,fv,mv] 67
def uJ(n:Int):Ze:=[aj<|st<|lH n]
def xup(x n):oI [x] n=bD n x:=by unfold oI;simp
def xtx{w v a n}(h:Rw w 9 1 oh v a)(hy:a=bD (aa a) (lH n)):lr 9 1 (uJ n) w v:=by
 apply lr.qJ (d:=0) (n:=aa a);have:a.flatMap oh=oI (uJ n) (aa a):=by rw[hy];unfold uJ;rw[xup,KT];simp[oh]
 rw[<-this];exact h
def zj.kL{S T w0 w w'}(h:zj S w0 w)(k:zj T w w')(c:∀y,T y->S y\/ak w0.heap<=y):zj S w0 w':=
 ⟨k.os.trans h.os,k.cM.trans h.cM,xa h.J k.J,λi a b=>(k.dB i (zm a h.J) λe=>(c i e).elim b λh=>À).trans<|h.dB i a b⟩
def yv(H:Nat)(tv mv l:Zv)(y:Nat):Prop:=y=H\/tv.ownBlock=ac y\/mv.ownBlock=ac y\/l.ownBlock=ac y
structure Tx(e k er:Nat)(rv:Zv)(u:Ze)(w0 w:Zy)(H:Nat)(ps:Zv)(n:Int)(tv fv mv l:Zv)(T:Ze)(M:List Int)(X:Ze):Prop where
 b:WB w H ps n tv fv mv
 t:Rw w er 1 sh rv T
 m:Rw w 3 1 rk mv M
 x:∀v∈X,lr e k u w v
 fr:zj (yv H rv mv l) w0 w
 nb:∀v∈X,∀g,v.ownBlock=ac g->l.ownBlock=ac g\/ak w0.heap<=g
section
variable {u:List dL} {e k er:Nat} {w0 w w':cY} {H j:Nat} {ps rv tv fv mv l v v':dL} {n:Int} {T:List dL} {M:List Int} {X:List dL}
def Tx.nw(h:Tx e k er rv u w0 w H ps n tv fv mv l T M X)(a:Nw w w'):Tx e k er rv u w0 w' H ps n tv fv mv l T M X:=⟨h.b.y a id,h.t.y a λ_ _=>id,h.m.y a λ_ _=>id,λv c=>(h.x v c).y a λ_ _=>id,h.fr.kL a λ_ x=>x.elim,h.nb⟩
def Fi{C t cs e k}(h:lr e k u w v)(c:xh w C cs t)(f:t≠e):∀x,v.ownBlock=ac x->¬C=x:=by rintro x b rfl;obtain⟨-,a,d⟩:=h.lt b;grind [xh]
def Do{α:Type}{e e' k k' f}{l:List α}{y}(h:lr e k u w v)(r:Rw w e' k' f y l)(b:e'≠e){x}(hx:y.ownBlock=ac x):¬v.ownBlock=ac x:=by intro d;obtain⟨-,a,c⟩:=h.lt d;exact r.gH c (Ne.symm b) x hx rfl
def Tx.iB(i:er≠e/\67≠e/\3≠e)(h:Tx e k er rv u w0 w H ps n tv fv mv l T M X)(o:v∈X)(r:Fh e k u w v j v' w'):Tx e k er rv u w0 w' H ps n tv fv mv l T M<|X++[v']:=by obtain⟨s,q,d,f,-⟩:=r;have p:=h.x v o;have z:=h.fr.J;refine⟨h.b.y d λe=>Fi p h.b i.2.1 _ e rfl,h.t.y d λg c=>Do p h.t i.1 c,h.m.y d λg c=>Do p h.m i.2.2 c,λy a=>(je.1 a).elim (λa=>q y<|h.x y a) λa=>Â,h.fr.kL d λy a=>(h.nb v o y a).imp (λe=>aE (aE<|aE e)) id,λy a g c=>?_⟩;obtain a|a:=je.1 a;exact h.nb y a g c;rw[ju.1 a]at c;obtain f|f:=f;exact h.nb v o g<|f▸c;grind
end
def Rw.pX{α:Type}{ops:Array fj}{rest:List fj}{o:fj}{a:jG}{Q:Exit->jG->Zy->Prop}{s x:Operand}{cs:Za}{W:Zy}{t e k B S c:Nat}{f:α->Ze}{v:Zv}{l:List α}(E:El t e k)(bs:List α)(h:Rw W e k f v l)(U:aa l<=1000000000)(J:0<aa bs/\aa bs<=10)(G:∀a,aa (f a)=k)(w:xh W B cs S)(F:bs.flatMap f=ej cs)(p:∀u∈bs.flatMap f,u.oneCell'=aw)
  (M:a.eval s=v)(hx:a.eval x=az (ac ⟨B,0,ar⟩) (aa bs) c)(d:o.guard=ar)(ho:o.op= .call {callee:= .builtin .append,args:=#[s,x],argTypes:=#[t,t]})
  (H:∀g cap w',Rw w' e k f (az (ac ⟨g,0,ar⟩) (aa l+aa bs) cap) (l++bs)->zj (λy=>v.ownBlock=ac y) W w'->(v.ownBlock=ac g\/ak W.heap<=g)->wpList prog ops Q rest (a.put o.dst<|az (ac ⟨g,0,ar⟩) (aa l+aa bs) cap) w'):wpList prog ops Q (o::rest) a W:=by
 obtain⟨i,z,I,R,m,D,n⟩:=E.Dh;refine AL d λ_ C=>wp_append_lies _ s x t ho 0 e i z k i.bytes E.yi I R m rfl n E.gX v (aa l) _ M h (zq B 0) (aa bs) c _ hx (yk G bs) (λj u O=>fY w j u<|F▸O) p J.1 Ø ?_ (Zz _) _ rfl ?_;have:(aa l+aa bs)*i.bytes<=1000000010*100:=D6 À D;omega;intro g cap w' T b r _;refine C _ _<|H g cap w' ?_ ⟨b.os,b.output,b.size,λq L K=>b.block q L λe=>K e.symm⟩<|r.imp id λe=>Nat.le_of_eq e.symm;grind [Rw]
def NZ(n):∀x∈uJ n,x.oneCell'=aw:=λx a=>by rw[ju.1 a];rfl
def NL(w:Zy)(H:Nat)(ps fv:Zv)(n:Int)(tv mv l:Zv)(T:Ze)(M:List Int)(w':Zy):Prop:=∃tv' mv' X,WB w' H ps (n+1) tv' fv mv'/\Rw w' 49 1 sh tv' (T++X)/\Rw w' 3 1 rk mv' (M++[n+1])/\aa X=4/\(∀x∈X,lr 9 1 (uJ<|n+1) w' x)/\zj (yv H tv mv l) w w'/\(∀g,tv'.ownBlock=ac g->tv.ownBlock=ac g\/ak w.heap<=g)/\(∀g,mv'.ownBlock=ac g->mv.ownBlock=ac g\/ak w.heap<=g)/\∀x∈X,∀g,x.ownBlock=ac g->l.ownBlock=ac g\/ak w.heap<=g
def xvk(H L tv fv K l)(n:Nat)(T M a w)(J:WB w H L n tv fv K)(hT:Rw w 49 1 sh tv T)(hM:Rw w 3 1 rk K M)(hl:Rw w 9 1 oh l a)(hn:n<=1000000)(hy:aa a<=1000000000)(bo:aa T<=1000000000)(bn:aa M<=1000000000):
  aG prog 84 #[aR<|some ⟨H,1,ar⟩,l] w λe w'=>e=ah (bU #[])/\NL w H L fv n tv K l T M w':=by
 obtain⟨r,s,rfl⟩:=hl.dC;have HT:=hT;have HM:=hM;have HL:=hl;have c1:=J.i 1 rfl;have f1:=J.dG 1;have B1:WB (ai w ⟨H,1,ar⟩<|aH aU<|(n:Int)+1) H L ((n:Int)+1) tv fv K:=J.H 1 _;have E:zj (·=H) w<|ai w ⟨H,1,ar⟩<|aH aU<|(n:Int)+1:=zj.H w ⟨H,1,ar⟩ _;have L1:=hl.y E (hl.gH J Ã);have T1:=hT.y E (hT.gH J Ã);have M1:=hM.y E (hM.gH J Ã);have C1:=E;go_enter func84.1,Tryz.ntmps84;go_wp2;generalize ai w ⟨H,1,ar⟩ (aH aU<|(n:Int)+1)=w1 at*;go_loopw [4] (λi wr=>∃k:Nat,k<=aa a/\i=aH aU k/\zj (λy=>(az r (aa a) s).ownBlock=ac y) w1 wr/\Rw wr 9 1 oh (az r (aa a) s) (bD k (lH<|(n:Int)+1)++a.drop k)) (λi _=>bB (aa a-bP i))
 case atStart=>exact⟨0,À,rfl,zj.refl _ _,L1⟩
 case round=>
  obtain⟨k,hk,rfl,hb,hr⟩:=hrel;have HB:=hb;have W:=hr;have BW:=B1.y hb λe=>L1.gH B1 Ã _ e rfl;have c1:=BW.i (v:=aH aU ((n:Int)+1)) 1 rfl;by_cases bm:k<aa a
  ·have i1:(k:Int)<(aa a:Nat):=by omega
   have i0:(0:Int)<=(k:Int):=À
   rw[Zx bm]at W;obtain⟨g,rfl⟩:∃g,r=ac ⟨g,0,ar⟩:=by obtain⟨g,h,-⟩:=W.kq (λ_=>rfl) (i:=k) Æ rfl;simp_all
   go_wp2;refine(Dq _ _).mono ?_;rintro e w2⟨rfl,F⟩;have R2:=W.y F λ_ _=>id;have d1:=R2.uf (λ_=>rfl) 0 À;have d2:=R2.dG k;rw[Zq,yR,Yy]at d1;have R3:=R2.uj (q:=lH<|(n:Int)+1) (λ_=>rfl) 0 (aj<|st<|lH<|(n:Int)+1) À rfl;rw[Zq,yR,Yy,List.append_cons,<-Gw]at R3;have bj:=R3;have bh:zj (λy=>(az (ac ⟨g,0,ar⟩) (aa a) s).ownBlock=ac y) w1<|ai w2 ⟨g,k,ar⟩<|aj<|st<|lH<|(n:Int)+1:=(HB.aA<|F.W λ_=>dI).aA<|(zj.H w2 ⟨g,k,ar⟩ _).W λy hy=>hy▸rfl;simp only[oh,qh]at d1;go_wp2;go_roundw
   case rel=>exact⟨k+1,À,Å,bh,bj⟩
   case measure=>simp[bP];omega
  ·obtain rfl:k=aa a:=by omega
   have i1:¬(aa a:Int)<(aa a:Nat):=À
   rw[Vl,Xz]at W;have HK:lr 9 1 (uJ<|(n:Int)+1) wr<|az r (aa a) s:=by have h:=W;have e:aa (bD (aa a)<|lH<|(n:Int)+1)=aa a:=Zq;exact xtx h Ě
   have T2:=T1.y HB λg d e=>T1.eF L1 Ã d e;have M2:=M1.y HB λg d e=>M1.eF L1 Ã d e;have X0:Tx 9 1 49 tv (uJ<|(n:Int)+1) w wr H L ((n:Int)+1) tv fv K (az r (aa a) s) T M [az r (aa a) s]:=⟨BW,T2,M2,λv o=>(by rw[ju.1 o];exact HK),(C1.W λy hy=>aF hy).aA<|HB.W λy hy=>aE (aE<|aE hy),λv o g d=>aF Ë⟩;go_wp2;refine(Dq _ _).mono ?_;rintro e w2⟨rfl,F⟩;have X2:=(X0.nw F).nw<|zj.E<|aq #[aj<|st<|lH<|(n:Int)+1] 9;have N2:xh (aB w2<|aq #[aj<|st<|lH<|(n:Int)+1] 9) (ak w2.heap) #[aj<|st<|lH<|(n:Int)+1] 9:=xh.dT _ _ _;go_wp2_with (refine VP (m:=1) (n:=aa a) By rfl (NZ _) (X2.x _ xu) rfl À Ã (λj x hj=>fY N2 j x hj) rfl rfl rfl rfl ?_);intro v3 w3 h3;obtain⟨O,c3,rfl⟩:=h3.d;have c:=X2.iB Ã xu h3;go_wp2;have S0:=c.b.i (v:=aH aU ((n:Int)+1)) 1 rfl;replace c:=c.nw (zj.refl _ _).U;go_region_held3 (λw'=>ae w' ⟨H,1,ar⟩=ac (aH aU<|(n:Int)+1)) (first|exact S0|exact c.b.i 1 rfl|exact(c.nw<|zj.E _).b.i 1 rfl)
    (first
     |(go_at_call 55;refine(Dq _ _).mono ?_;rintro e w4⟨rfl,bb⟩;replace c:=c.nw bb;clear bb)
     |(refine IN (m:=2) (n:=aa a) By rfl (NZ _) ((c.nw<|zj.E _).x _ xu) rfl À Ã (λj x hj=>fY (xh.dT _ _ _) j x hj) rfl rfl rfl rfl ?_;intro v5 w5 h5;obtain⟨Q,S,rfl⟩:=h5.d;replace c:=(c.nw<|zj.E _).iB Ã xu h5;clear h5))
   go_wp2;replace c:=c.nw (zj.refl _ _).U;have S0:=c.b.i (v:=aH aU ((n:Int)+1)) 1 rfl;go_region_held3 (λw'=>ae w' ⟨H,1,ar⟩=ac (aH aU<|(n:Int)+1)) (first|exact S0|exact c.b.i 1 rfl|exact(c.nw<|zj.E _).b.i 1 rfl)
    (first
     |(go_at_call 55;refine(Dq _ _).mono ?_;rintro e w6⟨rfl,bc⟩;replace c:=c.nw bc;clear bc)
     |(refine IN (m:=3) (n:=aa a) By rfl (NZ _) ((c.nw<|zj.E _).x _ xu) rfl À Ã (λj x hj=>fY (xh.dT _ _ _) j x hj) rfl rfl rfl rfl ?_;intro v7 w7 h7;obtain⟨R,U,rfl⟩:=h7.d;replace c:=(c.nw<|zj.E _).iB Ã xu h7;clear h7))
   have f:=(c.nw<|zj.E<|aq #[az r (aa a) s,az O (aa a+1) c3,az Q (aa a+2) S,az R (aa a+3) U] 49);have N7:xh (aB w7<|aq #[az r (aa a) s,az O (aa a+1) c3,az Q (aa a+2) S,az R (aa a+3) U] 49) (ak w7.heap) _ 49:=xh.dT _ _ _;obtain⟨at_,ct,rfl⟩:=f.t.dC;have d2:=c.b.i (v:=az at_ (aa T) ct) 2 rfl;go_wp2_with (refine Rw.pX jej [az r (aa a) s,az O (aa a+1) c3,az Q (aa a+2) S,az R (aa a+3) U] f.t À ⟨show 0<4 by decide,show 4<=10 by decide⟩ (λ_=>rfl) N7 rfl Č rfl rfl rfl rfl ?_);intro V c8 G r8 b8 n8;have X8:Rw G 49 1 sh _ _:=r8;have z:WB G H L ((n:Int)+1) (az at_ (aa T) ct) fv K:=f.b.y b8 λe=>f.t.gH f.b Ã _ e rfl;have B9:WB (ai G ⟨H,2,ar⟩<|az (ac ⟨V,0,ar⟩) (aa T+4) c8) H L ((n:Int)+1) (az (ac ⟨V,0,ar⟩) (aa T+4) c8) fv K:=z.H 2 _;have D:zj (·=H) G<|ai G ⟨H,2,ar⟩<|az (ac ⟨V,0,ar⟩) (aa T+4) c8:=zj.H G ⟨H,2,ar⟩ _;have T9:=r8.y D (r8.gH z Ã);have m8:=f.m.y b8 λg d=>f.m.eF f.t Ã d;have M9:=m8.y D (m8.gH z Ã);have bd:∀v∈[az r (aa a) s,az O (aa a+1) c3,az Q (aa a+2) S,az R (aa a+3) U],lr 9 1 (uJ<|(n:Int)+1) G v:=λv o=>(f.x v o).y b8 λg d e=>Do (f.x v o) f.t Ã e d;have K9:∀v∈[az r (aa a) s,az O (aa a+1) c3,az Q (aa a+2) S,az R (aa a+3) U],lr 9 1 (uJ<|(n:Int)+1) (ai G ⟨H,2,ar⟩<|az (ac ⟨V,0,ar⟩) (aa T+4) c8) v:=λv o=>(bd v o).y D λg d e=>Fi (bd v o) z Ã g d e.symm;have F9:=(f.fr.kL b8 λy hy=>aF (aE<|aF hy)).kL D λy hy=>aF (aF hy);have G9:aK<|(az at_ (aa T) ct).ownBlock=ac V\/ak w.heap<=V:=n8.imp id λh=>Ŏ
   have bk:=f.nb;have e2:=z.i (v:=az at_ (aa T) ct) 2 rfl;have f2:=z.dG 2;go_wp2;generalize ai G ⟨H,2,ar⟩ _=w9 at*;obtain⟨Y,cm,rfl⟩:=M9.dC;have I:Nw w9 (aB w9<|aq #[aH aU<|(n:Int)+1] 3).drew:=(zj.E _).U;have XA:xh (aB w9<|aq #[aH aU<|(n:Int)+1] 3).drew (ak w9.heap) #[aH aU<|(n:Int)+1] 3:=xh.dT w9 _ _;have BA:=B9.y I id;have MA:=M9.y I λ_ _=>id;have S0:=And.intro (B9.i (v:=az Y (aa M) cm) 4 rfl)<|B9.i (v:=aH aU ((n:Int)+1)) 1 rfl;have S1:=And.intro (BA.i (v:=az Y (aa M) cm) 4 rfl)<|BA.i (v:=aH aU ((n:Int)+1)) 1 rfl;have bi:∀y,(az Y (aa M) cm).ownBlock=ac y->¬y=H:=λy hy=>M9.gH B9 Ã y hy;go_region_law (first|(refine Rw.pW IC ((n:Int)+1) MA À XA rfl rfl (Nz _) rfl rfl rfl rfl ?_;intro ba Z B hR J bl;have X:=hR;have C:=J;have bg:=bl;have p:=BA.y C λe=>bi _ e rfl;have f4:=p.dG 4;have e4:=p.i (v:=az Y (aa M) cm) 4 rfl));all_goals
    have D:zj (·=H) B<|ai B ⟨H,4,ar⟩<|az (ac ⟨ba,0,ar⟩) (aa M+1) Z:=zj.H B ⟨H,4,ar⟩ _;have be:=(T9.y I λ_ _=>id).y C λg d=>(T9.y I λ_ _=>id).eF MA Ã d;have bf:∀v∈[az r (aa a) s,az O (aa a+1) c3,az Q (aa a+2) S,az R (aa a+3) U],lr 9 1 (uJ<|(n:Int)+1) B v:=λv o=>((K9 v o).y I λ_ _=>id).y C λg d e=>Do ((K9 v o).y I λ_ _=>id) MA Ã e d;have HF:NL w H L fv n (az at_ (aa T) ct) (az Y (aa M) cm) (az r (aa a) s) T M<|ai B ⟨H,4,ar⟩<|az (ac ⟨ba,0,ar⟩) (aa M+1) Z:=⟨_,_,_,p.H 4 _,be.y D<|be.gH p Ã,X.y D<|X.gH p Ã,rfl,λv o=>(bf v o).y D λg d e=>Fi (bf v o) p Ã g d e.symm,((F9.kL I λ_ x=>x.elim).kL C λy hy=>aF (aE<|aE<|aF hy)).kL D λy hy=>aF (aF hy),λg d=>by cases d;exact G9.o,λg d=>by cases d;exact bg.imp id λe=>by rw[e];exact xa F9.J I.J,bk⟩;go_wp2;go_end0;exact⟨rfl,HF⟩
def VU(p q w):CallsD prog 63 #[aR<|some p,aR<|some q] dN w λe u' w'=>e=ah (bU #[])/\u'=dN/\w'=w:=by refine callsD_of_wpS func63.1 rfl λa c b=>?_;apply wpS_seq;apply nS;simp[wpOpsS,go_sem,recoverD,b,Tryz.ntmps63,mq];apply wpS_seq;apply nS;simp[wpOpsS,go_sem,mq];refine wpS_cond (t:=ao) ŗ ?_;simp only[ja,if_false];refine wpS_of_wp<|wp_skip ?_;cases a;simp_all [bodyPostS,dX,Tryz.results63]
end
section
open Go.RowKit Go.Extern.Stop Go.Stop Go.Extern
def xn8(v w):(ow #[gB 380 v]).run prog w=cT (gB 271<|bM #[zk 5 380]) w:=Á
def zwq(w):((oy λt=>do jF "Comparable" t;(λa=>aX a.comparable) <$> typeInfo t) #[bM #[zk 5 380]]).run prog w=cT (aX aw) w:=Á
def xn6(v w):(Go.method 513 271 v "Comparable").run prog w=cT (330,v) w:=Á
def VR:(prog.info? 380).map (·.comparable)=ac aw:=Á
def VS:(prog.info? 402).map (·.size)=ac 1:=Á
def NK{i:Zt}{a}(b:prog.underlying i=ac (.interface a))(h:(prog.info? 380).map (λi=>(lacking a i.methods).isEmpty)=ac ao)(c:(prog.info? i).map (·.zero)=ac (ac .nilIface)):
  ∀v xT w,(Instr.typeAssert (gB 380 v) xT i aw).run prog w=cT (bU #[.nilIface,aX ao]) w:=run_typeAssert_lacksB b h c
def jbm(a b t w)(c:(binOp .eql 169 (gB 380<|aR<|some a)<|gB 380<|aR<|some b).run prog w=cT (aX t) w):
  aG prog 151 #[gB 380<|aR<|some a,gB 380<|aR<|some b,aX aw] w λe w'=>e=ah (aX t)/\w'=w:=by
 have d:=NK (show prog.underlying 273=_ from Tryz.underlying273) Á Á;have f:=NK (show prog.underlying 276=_ from Tryz.underlying276) Á Á;have g:=NK (show prog.underlying 278=_ from Tryz.underlying278) Á Á;go_enter func151.1,Tryz.ntmps151;go_wp2;refine wp_loop_rounds 1 ?_;rw[rounds_succ];cases t;all_goals
  go_wp2;go_ret;simp
def NJ(a b t w)(c:(binOp .eql 169 (gB 380<|aR<|some a)<|gB 380<|aR<|some b).run prog w=cT (aX t) w):
  aG prog 95 #[gB 380<|aR<|some a,gB 380<|aR<|some b] w λe w'=>e=ah (aX t)/\w'=w:=by
 have h:=@run_callFunc_extern prog 150 _ _ func150 Á Á A.Ei A.Ek;have f:=@run_callFunc_extern prog 330 _ _ func330 Á Á A.Ej A.Em;have j:=xn8;have g:=zwq;have i:=xn6;have d:=jbm a b t w c;go_enter func95.1,Tryz.ntmps95;go_wp2;refine d.mono ?_;rintro e w'⟨rfl,rfl⟩;go_wp2;go_ret;simp
def pj(lo:Nat)(cv tv:Zv)(w:Zy):Prop:=∃a b ca cb ta tb,cv=gB 380 (aR<|some a)/\tv=gB 380 (aR<|some b)/\b≠a/\a.block<lo/\b.block<lo/\w.heap[a.block]?=ac (aq ca ta (0,0))/\w.heap[b.block]?=ac (aq cb tb (0,0))
def xjq{cv tv lo}(B w)(k:pj lo cv tv w)(q:ae w (zq 0 0)=ac cv)(r:ae w (zq 1 0)=ac tv):
  aG prog 64 #[zo B,tv] w λe w'=>e=ah (zi 11)/\w'=w:=by
 obtain⟨a,b,o,p,v,x,rfl,rfl,d,_,_,l,m⟩:=k;obtain⟨i,f,c⟩:=zv.1 VR;obtain⟨j,g,n⟩:=zv.1 VS;have s:=run_typeAssert_hasB (P:=prog) (t:=380) (show prog.underlying 169=_ from iG) Á;have I1:=NJ b a ao w<|run_eql_iface_ptr_other w iG Tryz.underlying380 f c g À d m l;have h:=NJ b b aw w<|run_eql_iface_ptr_same w b iG Tryz.underlying380 f c g;go_enter func64.1,Tryz.ntmps64;go_wp2;refine I1.mono ?_;rintro e w'⟨rfl,rfl⟩;go_wp2;refine h.mono ?_;rintro e w'⟨rfl,rfl⟩;go_wp2;go_ret;simp
def xi9{cv tv lo B p q}(w)(c:pj lo cv tv w)(d:ae w (zq 0 0)=ac cv)(f:ae w (zq 1 0)=ac tv)(o:ae w (zq p 0)=ac (zo B))(r:ae w (zq q 0)=ac (zi 0))(s:aQ w (zq q 0)=ao):
  CallsD prog 63 #[zo p,zo q] (eW [{v:=tv,recovered:=ao}]) w λe u' w'=>e=ah (bU #[])/\u'=eW [{v:=tv,recovered:=aw}]/\w'=ai w (zq q 0) (zi 11):=by
 have G:=xjq B w c d f;obtain⟨a,b,i,j,z,C,rfl,rfl,g,x,y,m,n⟩:=c;refine callsD_of_wpS func63.1 rfl λl k h=>?_;apply wpS_seq;apply nS;simp[wpOpsS,go_sem,recoverD,h,Tryz.ntmps63,mq];apply wpS_seq;apply nS;simp[wpOpsS,go_sem,mq];refine wpS_cond (t:=aw) ŗ ?_;simp only[if_true];refine wpS_of_wp ?_;go_wp2;refine G.mono ?_;rintro e w'⟨rfl,rfl⟩;go_wp2;simp[bodyPostS,dX,Tryz.results63]
end
section
open Go.RowKit Go.Extern.Stop Go.Stop Go.Extern
attribute [local go_sem] zn zg
@[simp]def VJ:prog.funcs[21]?=ac Tryz.f21:=A.qf Tryz.func21
@[simp]def jft(args)(w):(nE 21 args).run prog w=cT (mo 21 args) w:=A.qc Tryz.func21 (args:=args) (w:=w)
def Sr.vC{B}{r:Sr}{x}(hx:r.jJ.cO B x):r.cO B x:=by obtain e|e|⟨t,a,_⟩:=hx;exact aF e;exact aE<|aF e;cases a
def pj.y{cv tv lo S w w'}(h:pj lo cv tv w)(k:zj S w w')(t:∀x,S x->lo<=x):pj lo cv tv w':=by obtain⟨a,b,g,j,r,s,l,m,n,p,q,c,d⟩:=h;have f:∀{i:Nat} {o:Obj},w.heap[i]?=ac o->i<ak w.heap:=λh=>(za.1 h).1;exact⟨a,b,g,j,r,s,l,m,n,p,q,(k.dB _ (f c) λe=>Â).trans c,(k.dB _ (f d) λe=>Â).trans d⟩
def xdd{cv tv lo}(B w)(d:pj lo cv tv w)(p:ae w (zq 0 0)=ac cv){l}(m:ae w (zq B 7)=ac l)(f7:aQ w (zq B 7)=ao):
  aG prog 64 #[zo B,cv] w λe w'=>e=ah (zi 12)/\w'=ai w (zq B 7) (aR ar):=by
 obtain⟨a,b,n,o,v,x,rfl,rfl,k,_,_,r,s⟩:=d;obtain⟨i,f,c⟩:=zv.1 VR;obtain⟨j,g,h⟩:=zv.1 VS;have q:=run_typeAssert_hasB (P:=prog) (t:=380) (show prog.underlying 169=_ from iG) Á;have I1:=NJ a a aw w<|run_eql_iface_ptr_same w a iG Tryz.underlying380 f c g;go_enter func64.1,Tryz.ntmps64;go_wp2;apply I1.mono;rintro e w'⟨rfl,rfl⟩;go_wp2;go_ret;simp
def VW{cv tv lo B p q}(w)(f:pj lo cv tv w)(h:ae w (zq 0 0)=ac cv){l}(g:ae w (zq B 7)=ac l)(f7:aQ w (zq B 7)=ao)(y:ae w (zq p 0)=ac (zo B))(j:xh w q #[zi 0] 33)(d:q≠B):
  CallsD prog 63 #[zo p,zo q] (eW [{v:=cv,recovered:=ao}]) w λe u' w'=>e=ah (bU #[])/\u'=eW [{v:=cv,recovered:=aw}]/\w'=ai (ai w (zq B 7)<|aR ar) (zq q 0) (zi 12):=by
 have G:=xdd B w f h g f7;have c:xh (ai w (zq B 7)<|aR ar) q #[zi 0] 33:=j.y (zj.H w (zq B 7) _) d;have z:ae (ai w (zq B 7)<|aR ar) (zq q 0)=ac (zi 0):=c.i 0 rfl;have H:=c.dG 0;obtain⟨a,b,m,n,E,F,rfl,rfl,i,C,D,s,x⟩:=f;refine callsD_of_wpS func63.1 rfl λr o k=>?_;apply wpS_seq;apply nS;simp[wpOpsS,go_sem,recoverD,k,Tryz.ntmps63,mq];apply wpS_seq;apply nS;simp[wpOpsS,go_sem,mq];apply wpS_cond (t:=aw) ŗ;apply wpS_of_wp;go_wp2;apply G.mono;rintro e w'⟨rfl,rfl⟩;go_wp2;simp[bodyPostS,dX,Tryz.results63]
def Zd.jJ{B r b w w'}(h:Zd B r w b w'):Zd B r w b.jJ<|ai w' (zq B 7)<|aR ar:=by refine h.aA ⟨(zj.H w' (zq B 7) _).W λx a=>aF a,⟨?_, ?_,λs e=>Ç⟩,λx a=>?_⟩;exact h.dS.bO.H 7 _;exact h.dS.fh.y (zj.H w' (zq B 7) _) λx a e=>h.dS.ko Â;obtain e|e|⟨s,e,_⟩:=a;exact aF<|aF e;exact aF<|aE<|aF e;cases e
def xjr{cv tv lo}(f B r A w)(h:Vq w B r)(G:oe cv tv w)(Q:pj lo cv tv w)(z:∀x,r.cO B x->lo<=x)(o:∀x,r.cO B x->4<x)(y:∀args w,(nE f args).run prog w=cT (mo f args) w)
  (hw:∀w0,Vq w0 B r->oe cv tv w0->aG prog f #[zo B] w0 λe w'=>∃a r',A=(a,r')/\e=Ip cv a/\Zd B r w0 r' w'):
  aG prog 34 #[zo B,nV (.func f) #[zo B] #[]] w λe w'=>(∃v r',A=(ac v,r')/\e=ah (zi v)/\Zd B r w r' w')\/(∃r',A=(ar,r')/\e=ah (zi 12)/\Zd B r w r'.jJ w'):=by
 have k:Nw w<|aB (aB w<|aq #[zo B] 26)<|aq #[zi 0] 33:=(zj.E _).aA<|zj.E _;have T:ak (aB (aB w<|aq #[zo B] 26)<|aq #[zi 0] 33).heap=ak w.heap+2:=Ä
 have E:xh (aB (aB w<|aq #[zo B] 26)<|aq #[zi 0] 33) (ak w.heap+1) #[zi 0] 33:=by have:=xh.dT (aB w<|aq #[zo B] 26) #[zi 0] 33;rw[xp]at this;exact this
 have M:xh (aB (aB w<|aq #[zo B] 26)<|aq #[zi 0] 33) (ak w.heap) #[zo B] 26:=(xh.dT w _ _).E _;have L:=Uy<|hw _ (h.y k λ_ _=>id)<|G.y k λ_ x=>x.elim;have C:∀{x:Nat},r.cO B x->x<ak w.heap:=λg=>Sr.eY h g;have i:∀{x r' w'},Zd B r (aB (aB w<|aq #[zo B] 26)<|aq #[zi 0] 33) r' w'->r'.cO B x->x≠ak w.heap+1:=λc g e=>by obtain o|o:=c.cO _ g;grind;omega
 have K:∀v r' w',A=(ac v,r')->Zd B r (aB (aB w<|aq #[zo B] 26)<|aq #[zi 0] 33) r' w'->xh w' (ak w.heap+1) #[zi 0] 33/\Zd B r w r' (ai w' (zq (ak w.heap+1) 0)<|zi v):=λv r' w' j c=>
  ⟨E.y c.y λg=>Â,Zd.cR ((Zd.nw h k).aA c) À (λg=>i c g rfl)<|zj.H w' (zq (ak w.heap+1) 0) _⟩
 have J:∀r' w',A=(ar,r')->Zd B r (aB (aB w<|aq #[zo B] 26)<|aq #[zi 0] 33) r' w'->CallsD prog 63 #[zo (ak w.heap),zo<|ak w.heap+1] (eW [{v:=cv,recovered:=ao}]) w' λe m d=>e=ah (bU #[])/\m=eW [{v:=cv,recovered:=aw}]/\ae d (zq (ak w.heap+1) 0)=ac (zi 12)/\Zd B r w r'.jJ d:=λr' w' j c=>by
  have H:=E.y c.y λg=>Â
  have R:B<ak w.heap:=C<|aF rfl;have s:=(G.y k λ_ x=>x.elim).y c.y o;obtain⟨⟨_,_,_,n⟩,_,_⟩:=s;refine(VW (B:=B) (p:=ak w.heap) (q:=ak w.heap+1) w' ((Q.y k λ_ x=>x.elim).y c.y z) n (c.dS.bO.i 7 rfl) (c.dS.bO.dG 7) ((M.y c.y λg=>Â).i 0 rfl) H À).mono ?_;rintro e m d⟨rfl,rfl,rfl⟩;refine⟨rfl,rfl,((H.y (zj.H w' (zq B 7) _) (show ak w.heap+1≠B by omega)).H 0 _).i 0 rfl, ?_⟩;exact Zd.cR (b:=ak w.heap+1) (((Zd.nw h k).aA c).jJ) À (λg=>i c (Sr.vC g) rfl)<|zj.H _ (zq (ak w.heap+1) 0) _
 go_enter_defers func34.1,Tryz.ntmps34;go_wp2;refine L.mono ?_;rintro e w1 (⟨v,r',j,rfl,c⟩|⟨r',j,rfl,c⟩)
 ·obtain⟨F,t⟩:=K v r' w1 j c;have n:=F.i 0 rfl;have S:=F.dG 0;have D:=t;have l:=j;go_wp2;refine leaves_cons (f:=63) (args:=#[zo (ak w.heap),zo<|ak w.heap+1]) Ä ã ?_;refine(VU _ _ _).mono ?_;rintro e m d⟨rfl,rfl,rfl⟩;simp[Leaves,settle,dX,oq,go_sem,n];first
   |exact aF ⟨v,r',l,rfl,D⟩
   |exact .inl ⟨r',l,D⟩
 have I:=J r' w1 j c;have l:=j;refine leaves_cons (f:=63) (args:=#[zo (ak w.heap),zo<|ak w.heap+1]) Ä ã ?_;refine I.mono ?_;rintro e m d⟨rfl,rfl,O,t⟩;simp[Leaves,settle,dX,oq,go_sem,O];exact aE ⟨r',l,t⟩
def Bx(B:Nat)(r:Sr)(A:Option Int×Sr)(w:Zy)(e:kU)(w':Zy):Prop:=(∃v r',A=(ac v,r')/\e=ah (zi v)/\Zd B r w r' w')\/(∃r',A=(ar,r')/\e=ah (zi 12)/\Zd B r w r'.jJ w')
def Bx.val{B r A w w' e}(h:Bx B r A w e w'):∃v,e=ah (zi v):=by obtain⟨v,_,_,h,_⟩|⟨_,_,h,_⟩:=h;grind;grind
section
variable {cv tv:dL} {lo:Nat}
def NW(B r s w)(h:Vq w B r)(g:r.sn=ac s)(b:vq B r)(n:oe cv tv w)(m:pj lo cv tv w)(d:∀x,r.cO B x->lo<=x)(o:∀c∈s.P,uD c):
  aG prog 11 #[zo B] w (Bx B r (r.gZ s) w):=by
 have q:ae w (zq B 7)=ac (zo s.S):=(h.bO.i 7 rfl).trans (by simp[Sr.G,Sr.nz,g]);have i:=xjr 35 B r _ w h n m d b.cO (λa w=>func35.2 a w) λp l k=>xvh B r s p l g b k o;go_enter func11.1,Tryz.ntmps11;go_wp2;apply i.mono;intro e w1 f;obtain⟨v,rfl⟩:=Bx.val f;have j:Bx B r _ w _ w1:=f;go_wp2;go_ret;exact j
end
def Sr.mz(r:Sr)(b:Nat)(a t:Int):Sr:={r with d:={r.d with nx:=ac (b,a,t)}}
def VX(D d a t w)(h:Jt w D d):aG prog 42 #[zo D,zi a,zi t] w λe w'=>e=ah (bU #[])/\∃b,ak w.heap<=b/\zj (·=D) w w'/\Jt w' D {d with nx:=ac (b,a,t)}:=by
 have l:=h;have m:=h.bO.i 2 rfl;have n:=h.bO.dG 2;have o:=h.bO.lt;have i:aK (zj (·=D) w (aB (ai w (zq D 2)<|zo (ak w.heap))<|aq #[zi a,zi t] 129)/\Jt (aB (ai w (zq D 2)<|zo (ak w.heap))<|aq #[zi a,zi t] 129) D {d with nx:=ac (ak w.heap,a,t)}):=by
  have g:zj (·=D) w<|ai w (zq D 2)<|zo (ak w.heap):=zj.H _ (zq D 2) _;have f:=xh.dT (ai w (zq D 2)<|zo (ak w.heap)) #[zi a,zi t] 129;have k:ak (ai w (zq D 2)<|zo (ak w.heap)).heap=ak w.heap:=Ä
  rw[k]at f;refine⟨g.aA<|zj.E _,(h.bO.H 2 _).y (S:=λ_=>False) (zj.E _) id,(h.iQ.y g h.yf).y (S:=λ_=>False) (zj.E _) id,λc j=>?_⟩;cases j;exact f
 go_enter func42.1,Tryz.ntmps42;go_wp2;go_end0;exact⟨rfl,ak w.heap,zd _,i.o⟩
def xlm(B r)(a t:Nat)(w)(h:Vq w B r):aG prog 21 #[zo B,zi a,zi t] w λe w'=>e=ah (zi 0)/\∃b,Zd B r w (r.mz b a t) w':=by
 have v:ae w (zq B 2)=ac (zo r.D):=h.bO.i 2 rfl;have q:=λn=>VX r.D r.d (a:Int) (t:Int) (w.drewN n) ⟨h.fh.bO,h.fh.iQ,h.fh.iU⟩;have i:=VX r.D r.d (a:Int) (t:Int) w h.fh;have o:∀w' b,ak w.heap<=b->zj _ w w'->Jt w' r.D {r.d with nx:=ac _}->Zd B r w (r.mz b a t) w':=λw' b l f hd=>by refine⟨f.W λx g=>aE (aF<|aF g),⟨?_,hd,λs j=>?_⟩,λx g=>?_⟩;exact h.bO.y f λe=>h.ko<|aF e;exact⟨(h.fW s j).1.y f λx g k=>h.eF j g<|aF k,(h.fW s j).2⟩;obtain e|(e|e|⟨c,p,e⟩)|e:=g;exact aF<|aF e;exact aF<|aE<|aF<|aF e;exact aF<|aE<|aF<|aE<|aF e;cases p;omega;exact aF<|aE<|aE e
 go_enter VJ,Tryz.ntmps21;go_wp2;apply i.mono;rintro e w'⟨rfl,b,l,f,hd⟩;have m:=o w' b l f hd;go_wp2;go_ret;exact⟨rfl,b,m⟩
def xl8(B r w)(h:Vq w B r)(a:r.sn=ar):aG prog 11 #[zo B] w λe w'=>e=ah (zi 5)/\w'=w:=by
 have b:ae w (zq B 7)=ac (aR ar):=by rw[h.bO.i 7 rfl];simp[Sr.G,Sr.nz,a]
 go_enter func11.1,Tryz.ntmps11;go_wp2;go_ret;simp
def xhz(B a t)(h:a<0\/t<0)(w):aG prog 21 #[zo B,zi a,zi t] w λe w'=>e=ah (zi 3)/\w'=w:=by
 by_cases b:a<0
 case' neg=>have c:t<0:=À
 all_goals
  go_enter VJ,Tryz.ntmps21;go_wp2;go_ret;simp
def xrr(a b c m)(j:vD a b c m=ao)(w):aG prog 31 #[zi a,zi b,zi c,zs m] w λe w'=>e=ah (bU #[aR ar,zi 3])/\w'=w:=by
 have n:a<0\/(¬a<0/\100000<a)\/(¬a<0/\¬100000<a/\b<1)\/(¬a<0/\¬100000<a/\¬b<1/\100000<b)\/(¬a<0/\¬100000<a/\¬b<1/\¬100000<b/\c<0)\/(¬a<0/\¬100000<a/\¬b<1/\¬100000<b/\¬c<0/\999<c)\/(¬a<0/\¬100000<a/\¬b<1/\¬100000<b/\¬c<0/\¬999<c/\¬(aa m:Int)=32):=by unfold vD at j;simp at j;omega
 obtain d|⟨d,f⟩|⟨d,f,g⟩|⟨d,f,g,h⟩|⟨d,f,g,h,i⟩|⟨d,f,g,h,i,k⟩|⟨d,f,g,h,i,k,l⟩:=n
 case' inr.inr.inr.inr.inr.inr=>have o:((aa m:Int) != 32)=aw:=by simpa using l
 all_goals
  go_enter func31.1,Tryz.ntmps31;go_wp2;go_ret2;simp
end
end P
end Go.Proofs.YtjnbhiamaabbgaaGreatDoor
