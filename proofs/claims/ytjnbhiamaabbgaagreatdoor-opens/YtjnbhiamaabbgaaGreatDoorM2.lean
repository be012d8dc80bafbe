import Derived.Test.YtjnbhiamaabbgaaGreatDoorM1
import Derived.Deep.DeepCutAuto
set_option linter.all false
set_option maxRecDepth 100000
set_option maxHeartbeats 8000000
section
variable{P:Prop}
def â(h:P:=by rw[b.o];rfl):P:=h
def ĕ(h:P:=by grind [bytesRow,zn,bv,st]):P:=h
def Ŀ(h:P:=by apply AJ;simp[st]):P:=h
end
namespace Go.Proofs.YtjnbhiamaabbgaaGreatDoor
open Go renaming Calls->aG,Ending->kU,Value->dL,bits->kf,heap_alloc_new->xn,heap_setCell_other->jj,maxLen->nT,results->dX,run_convert_bytes_back->gJ,setCell_eq_setRow->zdm,setRow_heap->Jr
open Go.Addr renaming add_mid->oB
open Go.Ending renaming panicked->gU,returned->ah
open Go.IntKind renaming bits->eQ,i64->aU,signed->ek,u32->bQ,wrap->eP,wrap_i64->zh
open Go.Lib renaming byteCells->hZ
open Go.Obj renaming cells->aq
open Go.Proofs.Tryz renaming ntmps280->fu,ntmps305->oO
open Go.Result renaming ok->cT
open Go.RowKit renaming Below->aN,Hid->aK,intOf->dF
open Go.RowKit.Below renaming heap_alloc->Xj,refl->zt
open Go.Value renaming agg->bM,bool->aX,iface->gB,int->aH,pointer->aR,slice->az,string->aj,tuple->bU
open Go.World renaming alloc->aB,cell?->ae,frozen?->aQ,setCell->ai,setRow_alloc_new->mC
open _root_.Array renaming replicate->bV,setIfInBounds->ay,size->ak,toList->ej
open _root_.BitVec renaming ofInt->cX
open _root_.Bool renaming false->ao,true->aw
open _root_.ByteArray renaming data_extract->zaj
open _root_.Decidable renaming decide->bI
open _root_.Exists renaming intro->lU
open _root_.Int renaming toNat->bB
open _root_.List renaming drop_eq_getElem_cons->Zx,length->aa,length_take->xf,map_congr_left->W6,range->gO,replicate->bD,take_of_length_le->qp,take_succ_eq_append_getElem->zp,toArray->aV
open _root_.Option renaming none->ar,some->ac
open _root_.Or renaming inr->aE
open _root_.UInt8 renaming ofNat->ku,toNat->aI
namespace P
open A.Tryq Go.RowKit
section
def iv:St:=⟨1779033703,3144134277,1013904242,2773480762,1359893119,2600822924,528734635,1541459225⟩
def bO(l:Zl)(k j:Nat):Z8:=l.getD (64*k+j) 0
def sB(m:Zl):Nat->St
 |0=>iv|k+1=>Jb (sB m k)<|Wf<|bO m k
def lM(x:Zl):Zl:=sb (sB (rU x)<|Wv (aa x)/64) 8
theorem vf(x):aa (lM x)=32:=Hc _ 8
def gG(w:Zy):Prop:=∀i,i<64->ae w (zq 4 i)=ac (zw<|Kc i)
def gG.Y{w w' B}(h:gG w)(a:4<B)(b:aN B w w'):gG w':=λi c=>(b.cell a).trans<|h i c
def gG.gX{w}(h:gG w):4<ak w.heap:=js<|h 0 Ã
def xev{w:Zy}{g l}(a:w.heap[g]?=ac (aq (aV (bv l)) 5 (0,0)))(k)(hk:64*k+64<=aa l):∀j,j<64->ae w (zq g<|64*k+j)=ac (zb<|u<|tZ<|bO l k j):=by intro j b;rw[xb _ _ _ _ _ _ a,jds];grind [bv,bO]
def zH{w:Zy}{g}{s:St}(h:w.heap[g]?=ac (aq #[zw s.a,zw s.b,zw s.c,zw s.d,zw s.e,zw s.f,zw s.g,zw s.h] 323 (0,0))):ae w (zq g 0)=ac (zw s.a)/\aQ w (zq g 0)=ao/\ae w (zq g 1)=ac (zw s.b)/\aQ w (zq g 1)=ao/\ae w (zq g 2)=ac (zw s.c)/\aQ w (zq g 2)=ao/\ae w (zq g 3)=ac (zw s.d)/\aQ w (zq g 3)=ao/\ae w (zq g 4)=ac (zw s.e)/\aQ w (zq g 4)=ao/\ae w (zq g 5)=ac (zw s.f)/\aQ w (zq g 5)=ao/\ae w (zq g 6)=ac (zw s.g)/\aQ w (zq g 6)=ao/\ae w (zq g 7)=ac (zw s.h)/\aQ w (zq g 7)=ao:=by refine⟨?_,xt _ _ _ _ _ h, ?_,xt _ _ _ _ _ h, ?_,xt _ _ _ _ _ h, ?_,xt _ _ _ _ _ h, ?_,xt _ _ _ _ _ h, ?_,xt _ _ _ _ _ h, ?_,xt _ _ _ _ _ h, ?_,xt _ _ _ _ _ h⟩;all_goals (rw[xb _ _ _ _ _ _ h];rfl)
structure zK(w:Zy)(l:Zl)(s:St)(wr:Zy):Prop where
 eR:aN (ak w.heap) w wr
 sz:ak w.heap+1<ak wr.heap
 b0:wr.heap[ak w.heap]?=ac (aq #[zw s.a,zw s.b,zw s.c,zw s.d,zw s.e,zw s.f,zw s.g,zw s.h] 323 (0,0))
 b1:wr.heap[ak w.heap+1]?=ac (aq (aV (bv l)) 5 (0,0))
theorem zK.dQ{w w1 k o l s}(h:zK w l s w1)(i:aN (ak w1.drew.heap) w1.drew k)(j:aN (ak k.heap) k o)(t):zK w l t<|ai (ai (ai (ai (ai (ai (ai (ai o (zq (ak w.heap) 0)<|zw t.a) (zq (ak w.heap) 1)<|zw t.b) (zq (ak w.heap) 2)<|zw t.c) (zq (ak w.heap) 3)<|zw t.d) (zq (ak w.heap) 4)<|zw t.e) (zq (ak w.heap) 5)<|zw t.f) (zq (ak w.heap) 6)<|zw t.g) (zq (ak w.heap) 7)<|zw t.h:=by have n:=zm h.sz i.size;have m:=h.eR.drew.trans<|i.mono h.eR.size;have p:=m.trans<|j.mono m.size;refine⟨CQ _ _ _ _ _ _ _ _ _ _ _ _ (zd _) p,by rw[LL];exact zm n j.size, ?_, ?_⟩;exact t6 _ _ _ _ _ _ _ _ _ _ _ _ _ _ _ _ _ _ _<|(j.block _ À).trans<|(i.block _<|by have:=h.sz;show ak w.heap<ak w1.heap;omega).trans h.b0;rw[A9 _ _ _ _ _ _ _ _ _ _ _ À];exact(j.block _ n).trans<|(i.block _<|by exact h.sz).trans h.b1
def xvg(x)(hx:x.size<=60000)(w)(W:gG w):aG prog 234 #[aj x] w λen w'=>en=ah (aj ⟨aV (lM (ej x.data))⟩)/\aN (ak w.heap) w w':=by
 have HT:=W;have z:=W.gX;have hp:=CT x.size;have p:64*(Wv x.size/64)=Wv x.size:=ě
 obtain⟨c,X⟩:∃c,Wv x.size/64=c:=⟨_,rfl⟩;rw[X]at p;have hL:aa (rU (ej x.data))=64*c:=(LN (ej x.data) 8 À).trans p.symm;have HL:=hL;have Y:=X;go_enter func234.1,Tryz.ntmps234;go_wp2;refine(xuf x hx _).mono ?_;rintro en w1⟨rfl,C,t⟩;rw[<-p];go_wp2;have o:zK w (rU (ej x.data)) iv w1:=by refine⟨((zt _ _).alloc (zd _) _).trans<|t.mono Ä, ?_,(t.block _ Ä).trans ?_, ?_⟩;have:=(za.1 C).1;simp_all;rw[xn];rfl;simp_all
 go_loopw [5] (λi wr=>∃k:Nat,k<=c/\i=zi (64*(k:Int))/\zK w (rU (ej x.data)) (sB (rU (ej x.data)) k) wr) (λi _=>bB (64*(c:Int)-dF i))
 case atStart=>exact⟨0,À,Å,o⟩
 case round=>
  clear o;obtain⟨k,hk,rfl,inv⟩:=hrel;have bs:=inv.sz;by_cases bj:k<c
  ·have i0:(0:Int)<=64*(k:Int):=by omega
   have i1:64*(k:Int)<64*(c:Int):=À
   have i2:64*(k:Int)+64<=64*(c:Int):=À
   have i3:bB (64*(k:Int))=64*k:=À
   have iw:IntKind.i64.wrap (64*(k:Int)+64)=64*(k:Int)+64:=Ì
   have n:ak w.heap<ak wr.heap:=À
   generalize hm:rU (ej x.data)=l at*;have y:=xev inv.b1 k À;have Z:=y;clear y;have B:=HT.Y z inv.eR.drew;obtain⟨s,q⟩:∃s,sB l k=s:=⟨_,rfl⟩;rw[q]at inv;have r:=xe q;clear q;have bk:ae wr (zq (ak w.heap) 0)=ac (zw s.a):=by rw[xb _ _ 0 _ _ _ inv.b0];rfl
   have ba:aQ wr (zq (ak w.heap) 0)=ao:=xt _ _ _ _ _ inv.b0;have bl:ae wr (zq (ak w.heap) 1)=ac (zw s.b):=by rw[xb _ _ 1 _ _ _ inv.b0];rfl
   have bb:aQ wr (zq (ak w.heap) 1)=ao:=xt _ _ _ _ _ inv.b0;have bm:ae wr (zq (ak w.heap) 2)=ac (zw s.c):=by rw[xb _ _ 2 _ _ _ inv.b0];rfl
   have bc:aQ wr (zq (ak w.heap) 2)=ao:=xt _ _ _ _ _ inv.b0;have bn:ae wr (zq (ak w.heap) 3)=ac (zw s.d):=by rw[xb _ _ 3 _ _ _ inv.b0];rfl
   have bd:aQ wr (zq (ak w.heap) 3)=ao:=xt _ _ _ _ _ inv.b0;have bo:ae wr (zq (ak w.heap) 4)=ac (zw s.e):=by rw[xb _ _ 4 _ _ _ inv.b0];rfl
   have be:aQ wr (zq (ak w.heap) 4)=ao:=xt _ _ _ _ _ inv.b0;have bp:ae wr (zq (ak w.heap) 5)=ac (zw s.f):=by rw[xb _ _ 5 _ _ _ inv.b0];rfl
   have bf:aQ wr (zq (ak w.heap) 5)=ao:=xt _ _ _ _ _ inv.b0;have bq:ae wr (zq (ak w.heap) 6)=ac (zw s.g):=by rw[xb _ _ 6 _ _ _ inv.b0];rfl
   have bg:aQ wr (zq (ak w.heap) 6)=ao:=xt _ _ _ _ _ inv.b0;have br:ae wr (zq (ak w.heap) 7)=ac (zw s.h):=by rw[xb _ _ 7 _ _ _ inv.b0];rfl
   have bh:aQ wr (zq (ak w.heap) 7)=ao:=xt _ _ _ _ _ inv.b0;go_wp2;go_region_with (first
    |(go_at_call 264;refine(zxh (bO l k) (ak w.heap+1) (64*k) _ _ ?_).mono ?_;exact Z;rintro en w2⟨rfl,j⟩;obtain⟨bt,b4,bu,b5,bv,b6,bw,b7,bx,b8,bz,b9,b2,ca,b3,cb⟩:=zH<|(j.block _ n).trans inv.b0;have D:=zm n j.size)
    |(go_at_call 263;refine(xet s (Wf<|bO l k) _ ?_).mono ?_;exact B.Y (Nat.lt_trans z n) j;rintro en w3⟨rfl,m⟩;obtain⟨E,M,F,O,G,Q,H,R,I,S,J,T,K,U,L,V⟩:=zH<|(m.block _ D).trans<|(j.block _ n).trans inv.b0))
   all_goals go_wp2
   all_goals go_roundw
   case rel=>refine⟨k+1,À,Å, ?_⟩;show zK w l (Jb (sB l k) _) _;rw[r.o];exact inv.dQ j m _
   case measure=>simp[dF];omega
   case rel=>refine⟨k+1,À,Å, ?_⟩;show zK w l (Jb (sB l k) _) _;rw[r.o];exact inv.dQ j m _
   case measure=>simp[dF];omega
   case rel=>refine⟨k+1,À,Å, ?_⟩;show zK w l (Jb (sB l k) _) _;rw[r.o];exact inv.dQ j m _
   grind [dF]
  obtain rfl:k=c:=À
  obtain⟨s,q⟩:∃s,sB (rU (ej x.data)) k=s:=⟨_,rfl⟩;rw[q]at inv;have r:aK<|lM (ej x.data)=sb s 8:=by show sb (sB (rU (ej x.data))<|Wv x.size/64) 8=_;rw[Y,q]
  clear q;obtain⟨E,M,F,O,G,Q,H,R,I,S,J,T,K,U,L,V⟩:=zH inv.b0;have v:=inv.eR;have bi:¬64*(k:Int)<64*(k:Int):=À
  go_wp2;refine(ztw s _).mono ?_;rintro en w2⟨rfl,j⟩;go_wp2;go_ret;exact⟨by rw[r.o];rfl,v.trans<|j.mono v.size⟩
def Xs{a b c}(h:aN (ak a.heap) a b)(k:aN (ak b.heap) b c):aN (ak a.heap) a c:=h.trans<|k.mono h.size
def st(l:Zl):ByteArray:=⟨aV l⟩
@[go_sem] abbrev zs(x:List UInt8):dL:=aj (st x)
theorem zn(l):(st l).size=aa l:=rfl
def jdi(x):st (ej x.data)=x:=rfl
def zg(a b):st a++st b=st (a++b):=Ŀ
def zM(l)(b:aa l<=60000)(w)(a:gG w):aG prog 234 #[aj<|st l] w λen w'=>en=ah (aj<|st<|lM l)/\aN (ak w.heap) w w':=
 xvg (st l) b w a
attribute [local go_sem] zn zg
def kc(l:Zl)(c:Z8):Zl:=(l++bD (64-aa l) 0).map (·^^^c)
def xY(l c)(h:aa l<=64):aa (kc l c)=64:=by simp[kc];omega
def xU(k x:Zl):Zl:=lM<|kc k 0x5c++lM (kc k 0x36++x)
def hk(k:Zl):Zl:=if 64<aa k then lM k else k
def Wu(k x:Zl):Zl:=xU (hk k) x
theorem wu(k x):aa (Wu k x)=32:=vf _
def C4(a c:Z8):kf .xor .u8 (aI a:Int) (aI c:Int)=(aI (a^^^c):Int):=by
 show IntKind.u8.wrap ((cX 8 (aI a:Int)^^^cX 8 (aI c:Int)).toNat:Int)=_;have b:cX 8 (aI a:Int)=a.toBitVec:=Ä
 have d:cX 8 (aI c:Int)=c.toBitVec:=Ä
 rw[b,d];have e:(a.toBitVec^^^c.toBitVec).toNat=aI (a^^^c):=Ä
 rw[e];simp only[eP,eQ,ek];generalize(a^^^c).toNat=q at*;simp;omega
def xk(L:Zl)(c:Z8)(k:Nat):Zl:=(L.take k).map (·^^^c)++L.drop k
def SC(L c k):aa (xk L c k)=aa L:=by simp[xk];omega
def SG(L c k)(h:k<aa L):(xk L c k)[k]?=ac L[k]:=by grind [xk]
def SD(L c k)(h:k<aa L):(xk L c k).set k (L[k]^^^c)=xk L c (k+1):=by unfold xk;rw[Vy _ _ Â,zp h];simp only[jl,xf,CE<|Nat.le_of_lt h,GE,qz,Js,CK,jq];grind [Zx]
def Sz(L c k)(h:aa L<=k):xk L c k=L.map (·^^^c):=by grind [xk,qp]
def xnb(n):bv (bD n 0)=bD n (zb 0):=by simp[bv]
def Hk(l)(q:aa l<=64)(c n)(D:n=(aI c:Int))(w):aG prog 253 #[aj<|st l,zb n] w λen w'=>en=ah (aj<|st<|kc l c)/\aN (ak w.heap) w w':=by
 subst D;go_enter func253.1,Tryz.ntmps253;go_wp2_with (refine GZ rfl _ _ 163 9 rfl 5 cI Hb (ak w.heap) 0 _ _ (st l) rfl rfl _ 362 (xn _ _) ?c1 ?c2 (ak w.heap) w ?c3 (zd _) ?_)
 case c1=>rw[zn];exact q
 case c2=>simpa[zn]using q
 case c3=>exact(zt _ _).alloc (zd _) _
 intro w1 p x;obtain⟨L,g⟩:∃L,l++bD (64-aa l) 0=L:=⟨_,rfl⟩;have t:aa L=64:=by rw[<-g];simp;omega
 have z:w1.heap[ak w.heap]?=ac (aq (aV (bv<|xk L c 0)) 362 (0,0)):=by rw[p];congr 2;rw[<-g];show _=aV (bv<|l++bD (64-aa l) 0);rw[LK];have e:([zb 0,zb 0,zb 0,zb 0,zb 0,zb 0,zb 0,zb 0,zb 0,zb 0,zb 0,zb 0,zb 0,zb 0,zb 0,zb 0,zb 0,zb 0,zb 0,zb 0,zb 0,zb 0,zb 0,zb 0,zb 0,zb 0,zb 0,zb 0,zb 0,zb 0,zb 0,zb 0,zb 0,zb 0,zb 0,zb 0,zb 0,zb 0,zb 0,zb 0,zb 0,zb 0,zb 0,zb 0,zb 0,zb 0,zb 0,zb 0,zb 0,zb 0,zb 0,zb 0,zb 0,zb 0,zb 0,zb 0,zb 0,zb 0,zb 0,zb 0,zb 0,zb 0,zb 0,zb 0]:Ze)=bD 64 (zb 0):=rfl;rw[e,List.drop_replicate,show hZ (ej (st l).data)=bv l from rfl,xnb]
 have s:aK (kc l c=L.map (·^^^c)):=by show(l++bD (64-aa l) 0).map _=_;rw[g]
 go_wp2;go_loopw [10] (λi wr=>∃k:Nat,k<=64/\i=zi k/\wr.heap[ak w.heap]?=ac (aq (aV (bv<|xk L c k)) 362 (0,0))/\aN (ak w.heap) w wr) (λi _=>bB (64-dF i))
 case atStart=>grind
 case round=>
  obtain⟨k,hk,rfl,d,v⟩:=hrel;by_cases C:k<64
  ·have f:k<aa L:=by omega
   obtain⟨a,r⟩:∃a,L[k]=a:=⟨_,rfl⟩;have E:ae wr (zq (ak w.heap) k)=ac (zb (aI a)):=by rw[xb _ _ _ _ _ _ d];have:=SG L c k f;simp only[bv,Jz,List.getElem?_map,this,r];rfl
   have F:aQ wr (zq (ak w.heap) k)=ao:=xt _ _ _ _ _ d;have o:(ai wr (zq (ak w.heap) k)<|zb<|aI (a^^^c)).heap[ak w.heap]?=ac (aq (aV (bv<|xk L c<|k+1)) 362 (0,0)):=by rw[jx _ _ _ _ _ _ d,Zj,Ev,<-r,SD L c k f]
   have m:aN (ak w.heap) w<|ai wr (zq (ak w.heap) k)<|zb<|aI (a^^^c):=v.setCell (zd _) _;have G:=C4 a c;generalize a^^^c=b at*;go_wp2;go_roundw
   case rel=>exact⟨k+1,À,Å,o,m⟩
   grind [dF]
  obtain rfl:k=64:=À
  rw[Sz L c 64 À,<-s.o]at d;have y:(convert 163 9<|az (ac ⟨ak w.heap,0,ar⟩) 64 64).run prog wr=cT (aj<|st<|kc l c) wr:=by have h:=gJ wr 163 9 5 (zq (ak w.heap) 0) 64 (kc l c) cI eo dA (λj B=>by rw[oB,j7,xb _ _ _ _ _ _ d];simp[bv,B]);rw[xY l c q]at h;exact h
  go_wp2;go_ret;simp_all
def L8(k x)(q:aa k<=5000)(hx:aa x<=5000)(w)(m:gG w):aG prog 211 #[aj<|st k,aj<|st x] w λen w'=>en=ah (aj<|st<|Wu k x)/\aN (ak w.heap) w w':=by
 have g:=m;have b:=m.gX;by_cases n:64<aa k
 ·have p:(64:Int)<(aa k:Nat):=by omega
  have o:=vf k;have h:aK<|Wu k x=xU (lM k) x:=by show xU (hk k) x=_;unfold hk;rw[if_pos n]
  go_enter func211.1,Tryz.ntmps211;go_wp2;refine(zM k À _ g).mono ?_;rintro en w1⟨rfl,c⟩;go_wp2;refine(Hk (lM k) À 0x36 54 rfl _).mono ?_;rintro en r⟨rfl,a⟩;have i:=xY (lM k) 0x36 À
  go_wp2;refine(zM (kc (lM k) 0x36++x) Â _<|(g.Y b c).Y (zm b c.size) a).mono ?_;rintro en s⟨rfl,d⟩;go_wp2;refine(Hk (lM k) À 0x5c 92 rfl _).mono ?_;rintro en t⟨rfl,e⟩;have j:=xY (lM k) 0x5c À;have l:=vf<|kc (lM k) 0x36++x;go_wp2;refine(zM (kc (lM k) 0x5c++lM (kc (lM k) 0x36++x)) Â _<|(((g.Y b c).Y (zm b c.size) a).Y (zm b<|xa c.size a.size) d).Y (zm b<|xa c.size<|xa a.size d.size) e).mono ?_;rintro en v⟨rfl,f⟩;go_wp2;go_ret;exact⟨by rw[h.o];rfl,Xs c<|Xs a<|Xs d<|Xs e f⟩
 have p:¬(64:Int)<(aa k:Nat):=À
 have h:aK<|Wu k x=xU k x:=by show xU (hk k) x=_;unfold hk;rw[if_neg n]
 go_enter func211.1,Tryz.ntmps211;go_wp2;refine(Hk k À 0x36 54 rfl _).mono ?_;rintro en r⟨rfl,a⟩;have i:=xY k 0x36 À
 go_wp2;refine(zM (kc k 0x36++x) Â _<|g.Y b a).mono ?_;rintro en s⟨rfl,d⟩;go_wp2;refine(Hk k À 0x5c 92 rfl _).mono ?_;rintro en t⟨rfl,e⟩;have j:=xY k 0x5c À;have l:=vf<|kc k 0x36++x;go_wp2;refine(zM (kc k 0x5c++lM (kc k 0x36++x)) Â _<|((g.Y b a).Y (zm b a.size) d).Y (zm b<|xa a.size d.size) e).mono ?_;rintro en v⟨rfl,f⟩;go_wp2;go_ret;exact⟨by rw[h.o];rfl,Xs a<|Xs d<|Xs e f⟩
def xwz(k x)(c:aa k<=4096)(hx:aa x<=4096)(w)(b:gG w):aG prog 207 #[aj<|st k,aj<|st x] w λen w'=>en=ah (bU #[aj<|st<|Wu k x,zi 0])/\aN (ak w.heap) w w':=by have a:=b;go_enter func207.1,Tryz.ntmps207;go_wp2;refine(L8 k x À À _ a).mono ?_;rintro en w1⟨rfl,d⟩;go_wp2;go_ret2;simp_all
end
section
attribute [local go_sem] zn zg
theorem xpg(v)(w:Zy):(convert 163 9<|az (ac ⟨ak w.heap,0,ar⟩) 1 1).run prog (aB w<|aq #[zb (aI v)] 5)=cT (aj<|st [v]) (aB w<|aq #[zb (aI v)] 5):=by have h:=gJ (P:=prog) (aB w<|aq #[zb (aI v)] 5) 163 9 5 (zq (ak w.heap) 0) 1 [v] cI eo dA (λj a=>by rw[oB,j7,xb _ _ _ _ _ _<|xn _ _];grind);exact h
end
section
def Sk(l n):(st l).extract 0 n=st (l.take n):=Ŀ
attribute [local go_sem] zn zg Sk
def bk(key info:Zl):Nat->Zl
 |0=>[]|k+1=>Wu key<|bk key info k++(info++[bq<|k+1])
def pK(key info:Zl):Nat->Zl
 |0=>[]|k+1=>pK key info k++bk key info (k+1)
def Sv(key a):∀k,aa (bk key a k)<=32
 |0=>by simp[bk]|k+1=>by grind [bk,wu]
theorem Ho(key a):∀k,aa (pK key a k)=32*k
 |0=>rfl|k+1=>by rw[pK,zx,Ho key a k,bk,wu];omega
def uA(key info:Zl)(n:Nat):Zl:=(pK key info 8).take n
def Sj(key a n k)(b:n<=32*k):∀j,(pK key a<|k+j).take n=(pK key a k).take n
 |0=>rfl|j+1=>by rw[<-D',pK,Y4<|by rw[Ho];omega];exact Sj key a n k b j
def Sy(key a n k)(hk:k<=8)(b:n<=32*k):(pK key a k).take n=uA key a n:=by have:=Sj key a n k b<|8-k;rw[show k+(8-k)=8 by omega]at this;exact this.symm
def Hn(key a n)(h:n<=255):aa (uA key a n)=n:=by grind [uA,Ho]
def EE(n v)(a:n=(aI v:Int))(w:Zy):(convert 163 9<|az (ac ⟨ak w.heap,0,ar⟩) 1 1).run prog (aB w<|aq #[zb n] 5)=cT (aj<|st [v]) (aB w<|aq #[zb n] 5):=by grind [xpg]
def Wo{w:Zy}{base e b v n xs}(h:w.ownsRow base e b v n xs):∃a cap,v=az a n cap/\n<=cap:=by obtain⟨d,f⟩|⟨g,cap,c,j,_,_,i,_⟩:=h.2;grind;grind
def LX{w f base e a v n xs}(h:w.ownsRow base e a v n xs)(i:aN (ak w.heap) w f):f.ownsRow base e a v n xs:=by refine⟨h.1, ?_⟩;obtain l|⟨g,b,c,k,j,d,r⟩:=h.2;grind;exact aE ⟨g,b,c,k,j,(i.block g (za.1 d).1).trans d,r⟩
def zE{w:Zy}{base e a v n xs}(h:w.ownsRow base e a v n xs):∀q,v.ownBlock=ac q->base<=q:=by intro q b;obtain⟨f,_⟩|⟨g,c,d,j,i,_⟩:=h.2;rw[f]at b;cases b;rw[j]at b;cases b;exact i
def xkf{w base a n cap m l}(h:w.ownsRow base 5 1 (az a n cap) n<|bv l)(q:m<=n):(convert 163 9<|az a m cap).run prog w=cT (zs<|l.take m) w:=by
 have p:aa l=n:=by have:=h.1;simpa[uy]using this
 cases a with
 |none=>
  obtain⟨d,k⟩|⟨g,b,c,i,_⟩:=h.2;obtain rfl:m=0:=À
  rw[run_convert_bytes_string w 163 9 5 ar 0 cap cI eo dA];rfl;grind
 |some ad=>
  obtain⟨d,k⟩|⟨g,b,c,i,_⟩:=h.2;cases d;have e:ad=(zq g 0):=by cases i;rfl
  subst e;have r:=(Sg h).2;have f:=gJ w 163 9 5 (zq g 0) cap (l.take m) cI eo dA (λj o=>Â);rw[xf,CE À]at f;exact f
def xc6(key c)(F:aa key<=64)(r:aa c<=4063)(n:Nat)(V:n<=255)(w)(D:gG w):aG prog 210 #[aj<|st key,aj<|st c,aH aU n] w λen w'=>en=ah (aj<|st<|uA key c n)/\aN (ak w.heap) w w':=by
 have I:=D;have t:=D.gX;obtain⟨S,O,x,y,z⟩:=LH;go_enter func210.1,Tryz.ntmps210;go_wp2;go_loopw [7,8,9] (λv b q wr=>∃k:Nat,k<=8/\q=aH .u8 ((k:Int)+1)/\b=aj (st<|bk key c k)/\wr.ownsRow (ak w.heap) 5 1 v (32*k) (bv<|pK key c k)/\aN (ak w.heap) w wr) (λ_ _ q _=>bB (9-dF q))
 case atStart=>exact⟨0,À,rfl,rfl,jk _ _ _ _,zt _ _⟩
 case round=>
  obtain⟨k,hk,rfl,rfl,d,f⟩:=hrel;obtain⟨a,m,rfl,E⟩:=Wo d;by_cases Q:32*k<n
  ·have R:(32*(k:Int))<(n:Nat):=by omega
   have L:=Sv key c k;have G:=EE ((k:Int)+1) (bq<|k+1) (by simp[bq];omega);have H:=d;have C:aK<|bk key c (k+1)=Wu key (bk key c k++(c++[bq<|k+1])):=rfl;generalize bk key c k=B at*;have i:=wu key<|B++(c++[bq<|k+1]);go_wp2;refine(L8 key (B++(c++[bq<|k+1])) À Â _ ?tab).mono ?_
   case tab=>exact I.Y t<|f.alloc f.size _
   rintro en W⟨rfl,g⟩;have e:=(f.alloc f.size<|aq #[aH .u8<|(k:Int)+1] 5).trans (g.mono<|xa f.size Ä);have j:=LX (H.alloc _) g;rw[<-C.o];have p:aa (bk key c<|k+1)=32:=by rw[C.o];exact i
   go_wp2_with (refine Lib.wpList_append_own_string _ rfl _ _ 163 9 rfl w.heap.size 5 S cI dA O x y z _ (32*k) (bv<|pK key c k) rfl j (st<|bk key c<|k+1) rfl ?c1 ?c2 ?c3 ?_)
   case c1=>grind [zn,nT]
   case c2=>rw[zn,p];omega
   case c3=>exact e.size
   intro T U l h _;have o:=e.grown h e.size<|zE j;have s:U.ownsRow (ak w.heap) 5 1 T (32*(k+1))<|bv<|pK key c<|k+1:=by
    have J:32*k+32=32*(k+1):=À
    have K:bv (pK key c k)++Lib.strCells (st<|bk key c<|k+1)=bv (pK key c<|k+1):=by rw[pK,LK];rfl
    rw[J,K]at l;exact l
   go_wp2;go_roundw
   case rel=>exact⟨k+1,À,Å,rfl,s,o⟩
   grind [dF]
  have R:¬(32*(k:Int))<(n:Nat):=À
  have M:(convert 163 9<|az a n m).run prog wr=cT (aj<|st<|uA key c n) wr:=by rw[xkf d À,Sy key c n k hk À]
  go_wp2;go_ret;simp_all
def xh2(a b c)(k:aa a<=4096)(l:aa b<=4096)(i:aa c<=4063)(n:Nat)(j:n<=255)(w)(h:gG w):
  aG prog 161 #[aj<|st a,aj<|st b,aj<|st c,aH aU n] w λen w'=>en=ah (bU #[aj<|st<|uA (Wu b a) c n,aH aU 0])/\aN (ak w.heap) w w':=by
 have g:=h;have f:=h.gX;go_enter func161.1,Tryz.ntmps161;go_wp2;refine(L8 b a À À _ g).mono ?_;rintro en w1⟨rfl,d⟩;have m:=wu b a;go_wp2;refine(xc6 (Wu b a) c À i n j _<|g.Y f d).mono ?_;rintro en o⟨rfl,e⟩;go_wp2;go_ret2;exact⟨rfl,Xs d e⟩
end
section
attribute [local go_sem] zC CY rT CW CZ zn zg
attribute [local go_sem] RJ Sa RE RM Rz RR RI Sc RG RL RZ RT RH Sd RB RP RD RN RA RQ
def xzs(x w):aG prog 280 #[zw x,zi 2] w λe w'=>e=ah (zw<|rr x 2)/\∃m,w'=w.drewN m:=by go_enter func280.1,fu;go_wp2;go_quiet (fail);go_wp2;go_ret;exact⟨rfl,nq,rfl⟩
def xuu(x w):aG prog 280 #[zw x,zi 13] w λe w'=>e=ah (zw<|rr x 13)/\∃m,w'=w.drewN m:=by go_enter func280.1,fu;go_wp2;go_quiet (fail);go_wp2;go_ret;exact⟨rfl,nq,rfl⟩
def xuy(x w):aG prog 280 #[zw x,zi 22] w λe w'=>e=ah (zw<|rr x 22)/\∃m,w'=w.drewN m:=by go_enter func280.1,fu;go_wp2;go_quiet (fail);go_wp2;go_ret;exact⟨rfl,nq,rfl⟩
def xzt(x w):aG prog 280 #[zw x,zi 6] w λe w'=>e=ah (zw<|rr x 6)/\∃m,w'=w.drewN m:=by go_enter func280.1,fu;go_wp2;go_quiet (fail);go_wp2;go_ret;exact⟨rfl,nq,rfl⟩
def xut(x w):aG prog 280 #[zw x,zi 11] w λe w'=>e=ah (zw<|rr x 11)/\∃m,w'=w.drewN m:=by go_enter func280.1,fu;go_wp2;go_quiet (fail);go_wp2;go_ret;exact⟨rfl,nq,rfl⟩
def xuz(x w):aG prog 280 #[zw x,zi 25] w λe w'=>e=ah (zw<|rr x 25)/\∃m,w'=w.drewN m:=by go_enter func280.1,fu;go_wp2;go_quiet (fail);go_wp2;go_ret;exact⟨rfl,nq,rfl⟩
def xzu(x w):aG prog 280 #[zw x,zi 7] w λe w'=>e=ah (zw<|rr x 7)/\∃m,w'=w.drewN m:=by go_enter func280.1,fu;go_wp2;go_quiet (fail);go_wp2;go_ret;exact⟨rfl,nq,rfl⟩
def xuw(x w):aG prog 280 #[zw x,zi 18] w λe w'=>e=ah (zw<|rr x 18)/\∃m,w'=w.drewN m:=by go_enter func280.1,fu;go_wp2;go_quiet (fail);go_wp2;go_ret;exact⟨rfl,nq,rfl⟩
def xuv(x w):aG prog 280 #[zw x,zi 17] w λe w'=>e=ah (zw<|rr x 17)/\∃m,w'=w.drewN m:=by go_enter func280.1,fu;go_wp2;go_quiet (fail);go_wp2;go_ret;exact⟨rfl,nq,rfl⟩
def xux(x w):aG prog 280 #[zw x,zi 19] w λe w'=>e=ah (zw<|rr x 19)/\∃m,w'=w.drewN m:=by go_enter func280.1,fu;go_wp2;go_quiet (fail);go_wp2;go_ret;exact⟨rfl,nq,rfl⟩
def qi(l:Zl):Nat:=l.foldl (λn b=>n*256+aI b) 0
def SO(l b):qi (l++[b])=qi l*256+aI b:=by simp[qi]
def SQ:∀(l:Zl) (n:Nat),l.foldl (λn b=>n*256+aI b) n<(n+1)*256^aa l
 |[],n=>by simp|b::r,n=>by have a:=b.toNat_lt;have h:=SQ r<|n*256+aI b;rw[D7,xg,yQ];refine zm h ?_;rw[Nat.mul_comm (256^aa r) 256,<-Nat.mul_assoc];exact Y5 _ À
theorem xV(l):qi l<256^aa l:=by have:=SQ l 0;simpa[qi]using this
def Su(q:Nat)(b:Z8)(e:q<281474976710656):kf .or aU ((q:Int)*256) (aI b:Int)=((q*256+aI b:Nat):Int):=by
 have d:=b.toNat_lt;show IntKind.i64.wrap ((cX 64 ((q:Int)*256)|||BitVec.ofInt 64 (aI b:Int)).toNat:Int)=_;have a:(cX 64<|(q:Int)*256).toNat=2^8*q:=by rw[show((q:Int)*256)=((2^8*q:Nat):Int) by omega,BitVec.ofInt_natCast,DZ,Jd À]
 have c:(cX 64 (aI b:Int)).toNat=aI b:=by rw[BitVec.ofInt_natCast,DZ,Jd À]
 rw[BitVec.toNat_or,a,c,<-Vf À];grind [zh]
def EF(l)(r:aa l<=6)(w):aG prog 244 #[zs l] w λe w'=>e=ah (zi (qi l:Nat))/\w'=w:=by
 go_enter func244.1,Tryz.ntmps244;go_wp2;go_loopw [3,4] (λv i wr=>∃k:Nat,k<=aa l/\i=zi k/\v=zi (qi (l.take k):Nat)/\wr=w) (λ_ i _=>bB (aa l-dF i))
 case atStart=>exact⟨0,À,rfl,rfl,rfl⟩
 case round=>
  obtain⟨k,hk,rfl,rfl,rfl⟩:=hrel;by_cases c:k<aa l
  ·obtain⟨b,d⟩:∃b,(st l)[k]'(by rw[zn];exact c)=b:=⟨_,rfl⟩;have f:=SO (l.take k) b;have h:l.take (k+1)=l.take k++[b]:=by rw[zp c,show l[k]=b from d]
   rw[<-h]at f;have a:=xV<|l.take k;have g:256^aa (l.take k)<=256^5:=J7 Ã Â;have j:aK<|qi (l.take<|k+1)=qi (l.take k)*256+aI b:=f;clear f h;generalize hq:qi (l.take k)=q at*;have o:q<1099511627776:=zm a g;clear a g hq;have n:=Su q b À;have m:=b.toNat_lt;have p:(k:Int)<(aa l:Nat):=À
   go_wp2;go_roundw
   case rel=>exact⟨k+1,À,Å,by rw[j.o];go_num,trivial⟩
   grind [dF]
  obtain rfl:k=aa l:=À
  rw[jz];have p:¬((aa l:Nat):Int)<(aa l:Nat):=À
  go_wp2;go_ret;simp
theorem LY(n:Nat)(h:n<=64)(w):aG prog 126 #[zi n] w λe w'=>e=ah (zs<|List.replicate n 0)/\aN (ak w.heap) w w':=by
 have b:=EE 0 0 rfl;go_enter func126.1,Tryz.ntmps126;go_wp2;go_loopw [3,4] (λv i wr=>∃k:Nat,k<=n/\i=zi k/\v=zs (bD k 0)/\aN (ak w.heap) w wr) (λ_ i _=>bB (n-dF i))
 case atStart=>exact⟨0,À,rfl,rfl,zt _ _⟩
 case round=>
  obtain⟨k,hk,rfl,rfl,a⟩:=hrel;by_cases d:k<n
  ·have g:aa (bD k (0:Z8))=k:=by simp
   have c:aK<|List.replicate (k+1) (0:Z8)=bD k 0++[0]:=Gw;generalize bD k (0:Z8)=X at*;have f:(k:Int)<(n:Nat):=À
   go_wp2;go_roundw
   case rel=>exact⟨k+1,À,Å,by rw[c.o],a.alloc a.size _⟩
   grind [dF]
  obtain rfl:k=n:=À
  have f:¬(k:Int)<(k:Nat):=À
  go_wp2;go_ret;simp_all
theorem ED(n k:Nat)(hk:k<=8)(w):aG prog 140 #[zi n,zi k] w λe w'=>e=ah (zs<|nb n k)/\aN (ak w.heap) w w':=by
 go_enter func140.1,Tryz.ntmps140;go_wp2;go_loopw [0,5,6] (λq v i wr=>∃j:Nat,j<=k/\i=zi j/\v=zs (nb n j)/\q=zi (n/256^j:Nat)/\aN (ak w.heap) w wr) (λ_ _ i _=>bB (k-dF i))
 case atStart=>exact⟨0,À,rfl,rfl,Ä,zt _ _⟩
 case round=>
  obtain⟨j,m,rfl,rfl,rfl,a⟩:=hrel;by_cases g:j<k
  ·have o:=Z2 n j;have c:aK (nb n (j+1)=bq (n/256^j)::nb n j):=rfl;have d:aK<|n/256^j/256=n/256^(j+1):=by show _=_;rw[KW,yQ]
   have h:n/256^j<=n:=Nat.div_le_self _ _;generalize n/256^j=q at*;generalize nb n j=X at*;have f:IntKind.u8.wrap (q:Int)=(aI (bq q):Int):=Ļ
   have b:=EE (aI (bq q):Int) (bq q) rfl;have l:(j:Int)<(k:Nat):=À
   go_wp2;go_roundw
   case rel=>exact⟨j+1,À,Å,by rw[c.o],by rw[<-d.o];go_num,a.alloc a.size _⟩
   grind [dF]
  obtain rfl:j=k:=À
  have l:¬(j:Int)<(j:Nat):=À
  go_wp2;go_ret;simp_all
def ub(b a)(n k:Nat)(c:b=(n:Int))(d:a=(k:Int))(hk:k<=8)(w):aG prog 140 #[zi b,zi a] w λe w'=>e=ah (zs<|nb n k)/\aN (ak w.heap) w w':=by grind [ED]
end
section
attribute [local go_sem] zn zg
structure zj(S:ZP)(w w':Zy):Prop where
 os:w'.os=w.os
 cM:w'.output=w.output
 J:ak w.heap<=ak w'.heap
 dB:∀k,k<ak w.heap->¬S k->w'.heap[k]?=w.heap[k]?
theorem zj.refl(S w):zj S w w:=⟨rfl,rfl,zd _,λ_ _ _=>rfl⟩
theorem zj.aA{S a b c}(h:zj S a b)(k:zj S b c):zj S a c:=⟨k.os.trans h.os,k.cM.trans h.cM,xa h.J k.J,λi d e=>(k.dB i (zm d h.J) e).trans<|h.dB i d e⟩
def zj.W{S c a b}(h:zj S a b)(k:∀x,S x->c x):zj c a b:=⟨h.os,h.cM,h.J,λi d e=>h.dB i d λx=>e<|k i x⟩
def zj.Q{S w w'}(h:aN (ak w.heap) w w'):zj S w w':=⟨h.os,h.output,h.size,λk hk _=>h.block k hk⟩
def zj.i{S w w'}(h:zj S w w'){p v}(b:¬S p.block)(a:ae w p=ac v):ae w' p=ac v:=
 (Z6<|h.dB p.block (js a) b).trans a
theorem zj.re{S w w' t d}(h:zj S w<|A.re w' t d):zj S w w':=⟨h.os,h.cM,h.J,h.dB⟩
def te(l n):(st l).extract 0 n=st (l.take n):=Ŀ
def Ma(l n):(st l).extract n (aa l)=st (l.drop n):=by apply AJ;grind [st,zaj]
theorem LU(w):aG prog 164 #[aX aw] w λe w'=>e=ah (bU #[])/\w'=w:=by go_enter func164.1,Tryz.ntmps164;go_wp2;go_end0;grind
def fU(tv:Zv)(w:Zy):Prop:=∃t x,tv=gB t x/\ae w (zq 1 0)=ac tv
abbrev jM(tv:Zv):kU:=gU [{v:=tv,recovered:=ao}]
theorem SH{tv}(w)(a:fU tv w):aG prog 164 #[aX ao] w λe w'=>e=jM tv/\w'=w:=by obtain⟨t,x,rfl,a⟩:=a;go_enter func164.1,Tryz.ntmps164;go_wp2;exact⟨rfl,rfl,rfl⟩
theorem Hx(n:Nat)(w):aG prog 153 #[zi n] w λe w'=>e=ah (zs<|nb n 1)/\aN (ak w.heap) w w':=by
 have c:IntKind.u8.wrap (n:Int)=(aI (bq n):Int):=Ļ
 have a:=EE (aI (bq n):Int) (bq n) rfl;have b:aK<|nb n 1=[bq n]:=by show _=_;simp[nb]
 go_enter func153.1,Tryz.ntmps153;go_wp2;go_ret;exact⟨â,(zt _ _).alloc (zd _) _⟩
def Hh(m)(n:Nat)(h:m=(n:Int))(w):aG prog 153 #[zi m] w λe w'=>e=ah (zs<|nb n 1)/\aN (ak w.heap) w w':=by grind [Hx]
def xyw(n):nb n 2=nb (n/256) 1++nb n 1:=by simp[nb]
def xtz(n):nb n 4=nb (n/65536) 2++nb n 2:=by grind [nb]
theorem Mb(n:Nat)(w):aG prog 154 #[zi n] w λe w'=>e=ah (zs<|nb n 2)/\aN (ak w.heap) w w':=by have c:=xyw n;go_enter func154.1,Tryz.ntmps154;go_wp2;refine(Hh _ (n/256) À _).mono ?_;rintro e w1⟨rfl,a⟩;go_wp2;refine(Hh _ n rfl _).mono ?_;rintro e d⟨rfl,b⟩;go_wp2;go_ret;exact⟨by rw[c];rfl,Xs a b⟩
def Si(m)(n:Nat)(h:m=(n:Int))(w):aG prog 154 #[zi m] w λe w'=>e=ah (zs<|nb n 2)/\aN (ak w.heap) w w':=by grind [Mb]
theorem xvl(n:Nat)(w):aG prog 155 #[zi n] w λe w'=>e=ah (zs<|nb n 4)/\aN (ak w.heap) w w':=by have c:=xtz n;go_enter func155.1,Tryz.ntmps155;go_wp2;refine(Si _ (n/65536) À _).mono ?_;rintro e w1⟨rfl,a⟩;go_wp2;refine(Si _ n rfl _).mono ?_;rintro e d⟨rfl,b⟩;go_wp2;go_ret;exact⟨by rw[c];rfl,Xs a b⟩
def LS(m)(n:Nat)(h:m=(n:Int))(w):aG prog 155 #[zi m] w λe w'=>e=ah (zs<|nb n 4)/\aN (ak w.heap) w w':=by grind [xvl]
def Yt(h)(a:h=aw)(w):aG prog 164 #[aX h] w λe w'=>e=ah (bU #[])/\w'=w:=by grind [LU]
def Jw{tv}(h)(b:h=ao)(w)(a:fU tv w):aG prog 164 #[aX h] w λe w'=>e=jM tv/\w'=w:=by grind [SH]
theorem xvj(b l)(n:Nat)(d:n<=aa l)(w)(a:ae w ⟨b,0,ar⟩=ac (aj<|st l))(c:aQ w ⟨b,0,ar⟩=ao):aG prog 165 #[aR<|some ⟨b,0,ar⟩,aH aU n] w λe w'=>e=ah (aj<|st<|l.take n)/\w'=ai w ⟨b,0,ar⟩ (aj<|st<|l.drop n):=by go_enter func165.1,Tryz.ntmps165;go_wp2;refine(Yt _ Ä _).mono ?_;rintro e w1⟨rfl,rfl⟩;go_wp2;go_ret;exact⟨by rw[<-te];rfl,by rw[<-Ma]⟩
theorem xqn{tv}(b l)(n:Nat)(f:aa l<n)(w)(d:ae w (zq b 0)=ac (zs l))(a:fU tv w):aG prog 165 #[zo b,zi n] w λe w'=>e=jM tv/\w'=w:=by
 have c:¬(n:Int)<=(aa l:Nat):=À
 go_enter func165.1,Tryz.ntmps165;go_wp2;refine(Jw _ Ä _ a).mono ?_;rintro e w1⟨rfl,rfl⟩;exact⟨rfl,rfl,rfl⟩
def SF(b l m)(n:Nat)(d:m=(n:Int))(f:n<=aa l)(w)(a:ae w (zq b 0)=ac (zs l))(c:aQ w (zq b 0)=ao):aG prog 165 #[zo b,zi m] w λe w'=>e=ah (zs<|l.take n)/\w'=ai w (zq b 0) (zs<|l.drop n):=by grind [xvj]
def SE{tv}(b l m)(n:Nat)(d:m=(n:Int))(f:aa l<n)(w)(c:ae w (zq b 0)=ac (zs l))(a:fU tv w):aG prog 165 #[zo b,zi m] w λe w'=>e=jM tv/\w'=w:=by grind [xqn]
end
section
attribute [local go_sem] zC CY rT CW CZ zn zg Sb RK
def bm(l:Zl)(j:Nat):Z8:=l.getD j 0
def xvt(m k):IntKind.u32.wrap ((qi [m<|4*k,m<|4*k+1,m<|4*k+2,m<|4*k+3]:Nat):Int)=u (A8 m k):=by
 have e:qi [m<|4*k,m<|4*k+1,m<|4*k+2,m<|4*k+3]=((aI (m<|4*k)*256+aI (m<|4*k+1))*256+aI (m<|4*k+2))*256+aI (m<|4*k+3):=by simp[qi]
 rw[e];unfold A8 tZ;have l:=(m<|4*k).toNat_lt;have n:=(m<|4*k+1).toNat_lt;have o:=(m<|4*k+2).toNat_lt;have p:=(m<|4*k+3).toNat_lt;generalize(m<|4*k).toNat=a at*;generalize(m<|4*k+1).toNat=b at*;generalize(m<|4*k+2).toNat=c at*;generalize(m<|4*k+3).toNat=d at*;rw[CS _ À À,jdu];simp only[BitVec.toNat_or,BitVec.toNat_shiftLeft,DZ,Nat.shiftLeft_eq];have f:a%2^32*2^24%2^32=2^24*a:=by rw[Jd (show a<2^32 by omega),Jd À,Nat.mul_comm]
 have g:b%2^32*2^16%2^32=2^16*b:=by rw[Jd (show b<2^32 by omega),Jd À,Nat.mul_comm]
 have h:c%2^32*2^8%2^32=2^8*c:=by rw[Jd (show c<2^32 by omega),Jd À,Nat.mul_comm]
 have j:d%2^32=d:=Jd À;rw[f,g,h,j,<-Vf (i:=24) (b:=2^16*b) À a];rw[show 2^24*a+2^16*b=2^16*(a*256+b) by omega,<-Vf (i:=16) (b:=2^8*c) À<|a*256+b];rw[show 2^16*(a*256+b)+2^8*c=2^8*((a*256+b)*256+c) by omega,<-Vf (i:=8) (b:=d) À<|(a*256+b)*256+c];omega
def je0(l k)(h:4*k+4<=aa l):(st l).extract (4*k) (4*k+4)=st [bm l<|4*k,bm l<|4*k+1,bm l<|4*k+2,bm l<|4*k+3]:=by apply AJ;apply Array.toList_inj.1;simp only[st,zaj,List.extract_toArray,List.toList_toArray];rw[List.extract_eq_take_drop,show 4*k+4-4*k=4 by omega];apply Ye;grind [bm]
def xw2(m i)(h:16<=i):Wf m i=CO (Wf m<|i-2)+Wf m (i-7)+CN (Wf m<|i-15)+Wf m (i-16):=by grind [LF]
def J8.fg{w a C}(h:J8 w C a)(n):J8 w C<|a.drewN n:=⟨below_drewN h.eR n,h.sz,h.b0,h.b1⟩
theorem J8.put{w a C}(h:J8 w C a)(k v):J8 w (ay C k v)<|ai a (zq (ak w.heap+1) k) v:=by refine⟨(h.eR).setCell Â _,Ï, ?_,jx _ _ _ _ _ _ h.b1⟩;rw[jj _ _ _ _ Â];exact h.b0
def xlc(l)(hl:aa l=64)(w):
  aG prog 279 #[aj<|st l] w λen w'=>en=ah (bM (aV (wv<|Wf<|bm l)))/\aN (ak w.heap) w w':=by
 go_enter func279.1,Tryz.ntmps279;go_wp2;go_loopw [4] (λi wr=>∃(k:Nat) (C:Za),k<=16/\i=aH aU k/\J8 w C wr/\ak C=64/\∀i,i<k->C[i]?=ac (aH bQ<|u<|Wf (bm l) i)) (λi _=>bB (16-dF i))
 case atStart=>exact⟨0,vc,À,rfl,J8.fI w,rfl,λi p=>À⟩
 case round=>
  obtain⟨k,C,hk,rfl,inv,e,b⟩:=hrel;have t:=inv.sz;by_cases g:k<16
  ·have S:(k:Int)<64:=by omega
   have i5:(0:Int)<=4*(k:Int):=À
   have i6:4*(k:Int)+4<=64:=À
   obtain⟨c,G⟩:∃c,ae wr ⟨ak w.heap+1,k,ar⟩=ac c:=⟨C[k]' À,å⟩;have H:aQ wr ⟨ak w.heap+1,k,ar⟩=ao:=xt _ _ _ _ _ inv.b1;have m:aK<|∀i,i<k+1->(ay C k<|aH bQ<|u<|Wf (bm l) k)[i]?=ac (aH bQ<|u<|Wf (bm l) i):=Ha e À b;have p:=inv.put k<|aH bQ<|u<|Wf (bm l) k;rw[LG (bm l) k g]at p m;have K:=xvt (bm l) k;clear b;go_wp2;rw[je0 l k À];refine(EF [bm l<|4*k,bm l<|4*k+1,bm l<|4*k+2,bm l<|4*k+3] Ä _).mono ?_;rintro en w2⟨rfl,rfl⟩;generalize qi [bm l<|4*k,bm l<|4*k+1,bm l<|4*k+2,bm l<|4*k+3]=q at*;generalize A8 (bm l) k=W at*;go_wp2;go_roundw
   case rel=>exact⟨k+1,_,À,Å,p,Â,m.o⟩
   grind [dF]
  obtain rfl:k=16:=À
  clear hk g;go_wp2;go_loopw [5] (λi w2=>∃(k:Nat) (C:Za),16<=k/\k<=64/\i=aH aU k/\J8 w C w2/\ak C=64/\∀i,i<k->C[i]?=ac (aH bQ<|u<|Wf (bm l) i)) (λi _=>bB (64-dF i))
  case atStart=>exact⟨16,C,À,À,rfl,inv,e,b⟩
  case round=>
   clear inv e b t;obtain⟨k,C,r,hk,rfl,inv,e,b⟩:=hrel;have t:=inv.sz;by_cases g:k<64
   ·have S:(k:Int)<64:=by omega
    have Q:IntKind.i64.wrap ((k:Int)-16)=(k:Int)-16:=É
    have Y:(16:Int)<=(k:Int):=À
    have bc:(k:Int)<80:=À
    have ba:(k:Int)-16<64:=À
    have n:ae wr ⟨ak w.heap+1,bB ((k:Int)-16),ar⟩=ac (aH bQ<|u<|Wf (bm l)<|k-16):=by rw[show((k:Int)-16).toNat=k-16 by omega,xb _ _ _ _ _ _ inv.b1,b _ À]
    have o:ae wr ⟨ak w.heap+1,k-16,ar⟩=ac (aH bQ<|u<|Wf (bm l)<|k-16):=by rw[xb _ _ _ _ _ _ inv.b1,b _ À]
    have O:IntKind.i64.wrap ((k:Int)-15)=(k:Int)-15:=É
    have X:(15:Int)<=(k:Int):=À
    have bb:(k:Int)<79:=À
    have Z:(k:Int)-15<64:=À
    have z:ae wr ⟨ak w.heap+1,bB ((k:Int)-15),ar⟩=ac (aH bQ<|u<|Wf (bm l)<|k-15):=by rw[show((k:Int)-15).toNat=k-15 by omega,xb _ _ _ _ _ _ inv.b1,b _ À]
    have B:ae wr ⟨ak w.heap+1,k-15,ar⟩=ac (aH bQ<|u<|Wf (bm l)<|k-15):=by rw[xb _ _ _ _ _ _ inv.b1,b _ À]
    have e7:IntKind.i64.wrap ((k:Int)-7)=(k:Int)-7:=É
    have p7:(7:Int)<=(k:Int):=À
    have r7:(k:Int)<71:=À
    have q7:(k:Int)-7<64:=À
    have I:ae wr ⟨ak w.heap+1,bB ((k:Int)-7),ar⟩=ac (aH bQ<|u<|Wf (bm l)<|k-7):=by rw[show((k:Int)-7).toNat=k-7 by omega,xb _ _ _ _ _ _ inv.b1,b _ À]
    have J:ae wr ⟨ak w.heap+1,k-7,ar⟩=ac (aH bQ<|u<|Wf (bm l)<|k-7):=by rw[xb _ _ _ _ _ _ inv.b1,b _ À]
    have e2:IntKind.i64.wrap ((k:Int)-2)=(k:Int)-2:=É
    have p2:(2:Int)<=(k:Int):=À
    have r2:(k:Int)<66:=À
    have q2:(k:Int)-2<64:=À
    have L:ae wr ⟨ak w.heap+1,bB ((k:Int)-2),ar⟩=ac (aH bQ<|u<|Wf (bm l)<|k-2):=by rw[show((k:Int)-2).toNat=k-2 by omega,xb _ _ _ _ _ _ inv.b1,b _ À]
    have M:ae wr ⟨ak w.heap+1,k-2,ar⟩=ac (aH bQ<|u<|Wf (bm l)<|k-2):=by rw[xb _ _ _ _ _ _ inv.b1,b _ À]
    obtain⟨c,G⟩:∃c,ae wr ⟨ak w.heap+1,k,ar⟩=ac c:=⟨C[k]' À,å⟩;have H:aQ wr ⟨ak w.heap+1,k,ar⟩=ao:=xt _ _ _ _ _ inv.b1;have m:aK<|∀i,i<k+1->(ay C k<|aH bQ<|u<|Wf (bm l) k)[i]?=ac (aH bQ<|u<|Wf (bm l) i):=Ha e À b;have y:aK<|∀d,J8 w C d->J8 w (ay C k<|aH bQ<|u<|Wf (bm l) k) (ai d.drew ⟨ak w.heap+1,k,ar⟩<|aH bQ<|u<|Wf (bm l) k):=λd h=>h.H k _;rw[xw2 (bm l) k r]at y m;unfold CN CO at y m;clear b;generalize Wf (bm l) (k-16)=x16 at*;generalize Wf (bm l) (k-15)=x15 at*;generalize Wf (bm l) (k-7)=x7 at*;generalize Wf (bm l) (k-2)=x2 at*;go_wp2;refine(xzu x15 _).mono ?_;rintro en w2⟨rfl,n1,rfl⟩;go_wp2;refine(xuw x15 _).mono ?_;rintro en w2⟨rfl,T,rfl⟩;go_wp2;refine(xuv x2 _).mono ?_;rintro en w2⟨rfl,U,rfl⟩;go_wp2;refine(xux x2 _).mono ?_;rintro en w2⟨rfl,V,rfl⟩;go_wp2;obtain⟨d,a⟩:∃d,wr.drewN (n1+T+U+V)=d:=⟨_,rfl⟩;have x:J8 w C d:=by rw[<-a];exact inv.fg _
    have x1:ae d ⟨ak w.heap+1,bB ((k:Int)-7),ar⟩=ac (aH bQ<|u x7):=by rw[<-a];exact I
    have x3:ae d ⟨ak w.heap+1,bB ((k:Int)-16),ar⟩=ac (aH bQ<|u x16):=by rw[<-a];exact n
    have x4:ae d ⟨ak w.heap+1,k-7,ar⟩=ac (aH bQ<|u x7):=by rw[<-a];exact J
    have x5:ae d ⟨ak w.heap+1,k-16,ar⟩=ac (aH bQ<|u x16):=by rw[<-a];exact o
    have x6:ae d ⟨ak w.heap+1,k,ar⟩=ac c:=by rw[<-a];exact G
    have x8:aQ d ⟨ak w.heap+1,k,ar⟩=ao:=by rw[<-a];exact H
    have p:=y.o d x;rw[a];clear a n z I L o B J M G H inv;go_still_tail 15,Á;go_wp2;go_roundw
    case rel=>(repeat apply lU);exact⟨⟨k+1,_,À,À,Å,p,Â,m.o⟩,rfl⟩
    case measure=>simp[dF];omega
   obtain rfl:k=64:=À
   have E:C=aV (wv<|Wf<|bm l):=RU e b;subst E;clear b hk r g;have f:(prog.info? 336).map (·.size)=ac (ak (wv<|Wf<|bm l).toArray):=ĸ
   have D:(wv<|Wf<|bm l).toArray.all (·.oneCell')=aw:=LC _;have R:ak vc=ak (wv<|Wf<|bm l).toArray:=by rw[LM,jd,Ba]
   have s:(wr.setRow (ak w.heap) (aV (wv<|Wf<|bm l))).heap[ak w.heap]?=ac (aq (aV (wv<|Wf<|bm l)) 336 (0,0)):=Jr _ _ _ _ _ _ inv.b0;have F:aN (ak w.heap) w<|wr.setRow (ak w.heap) (aV (wv<|Wf<|bm l)):=inv.eR.trans ⟨rfl,rfl,rfl,Ä,λj hj=>setRow_other _ _ _ _ À⟩;go_wp2_with (first|refine J6 rfl 336 _ rfl (ak w.heap+1) rfl 336 _ (0,0) _ inv.b1 iF rfl f ?_|refine Zo rfl 336 _ _ rfl w.heap.size _ rfl rfl 336 _ inv.b0 f R D ?_);exact ji (v:=bM (aV (wv<|Wf<|bm l))) (Jf rfl _ _ (ak w.heap) 336 _ (0,0) _ rfl s iF rfl f) rfl ⟨rfl,F⟩
end
section
attribute [local go_sem] zC CY rT CW CZ zn zg
def xk1{w:Zy}{g}{s:St}(h:w.heap[g]?=ac (aq #[zw s.a,zw s.b,zw s.c,zw s.d,zw s.e,zw s.f,zw s.g,zw s.h] 323 (0,0))):ae w (zq g 0)=ac (zw s.a)/\ae w (zq g 1)=ac (zw s.b)/\ae w (zq g 2)=ac (zw s.c)/\ae w (zq g 3)=ac (zw s.d)/\ae w (zq g 4)=ac (zw s.e)/\ae w (zq g 5)=ac (zw s.f)/\ae w (zq g 6)=ac (zw s.g)/\ae w (zq g 7)=ac (zw s.h):=by refine⟨?_, ?_, ?_, ?_, ?_, ?_, ?_, ?_⟩;all_goals (rw[xb _ _ _ _ _ _ h];rfl)
def Yq(w:Zy):Prop:=∀i,i<64->ae w (zq 2 i)=ac (zw<|Kc i)
def Yq.Y{w w' B}(h:Yq w)(a:2<B)(b:aN B w w'):Yq w':=λi c=>(b.cell (p:=zq 2 i) a).trans<|h i c
def Yq.gX{w}(h:Yq w):2<ak w.heap:=js<|h 0 Ã
structure Wh(w:Zy)(b2 b3:Nat)(W:Nat->Z3)(C D:Za)(wr:Zy):Prop where
 eR:aN (ak w.heap) w wr
 sz:b3<ak wr.heap
 Ex:ak w.heap+1<b2
 Ey:b2<b3
 h0:wr.heap[ak w.heap]?=ac (aq D 323 (0,0))
 h1:wr.heap[ak w.heap+1]?=ac (aq #[zu 0,zu 0,zu 0,zu 0,zu 0,zu 0,zu 0,zu 0] 323 (0,0))
 h2:wr.heap[b2]?=ac (aq (aV (wv W)) 336 (0,0))
 h3:wr.heap[b3]?=ac (aq C 323 (0,0))
def Wh.fI{w w1}{s:St}{W}(i:aN (ak w.heap) w w1)(j:ak w.heap+1<ak w1.heap)(k:w1.heap[ak w.heap]?=ac (aq #[zw s.a,zw s.b,zw s.c,zw s.d,zw s.e,zw s.f,zw s.g,zw s.h] 323 (0,0)))(l:w1.heap[ak w.heap+1]?=ac (aq #[zu 0,zu 0,zu 0,zu 0,zu 0,zu 0,zu 0,zu 0] 323 (0,0))):
  Wh w (ak w1.heap) (ak w1.heap+1) W #[zw s.a,zw s.b,zw s.c,zw s.d,zw s.e,zw s.f,zw s.g,zw s.h] #[zw s.a,zw s.b,zw s.c,zw s.d,zw s.e,zw s.f,zw s.g,zw s.h] (aB (aB w1<|aq (aV (wv W)) 336)<|aq #[zw s.a,zw s.b,zw s.c,zw s.d,zw s.e,zw s.f,zw s.g,zw s.h] 323):=by
 refine⟨(i.alloc i.size _).alloc (by have:=i.size;simp;omega) _,Ä,j,À, ?_, ?_,heap_alloc2_old _ _ _,heap_alloc2_new _ _ _⟩;grind [Xj];grind [Xj]
theorem Wh.put{w a b2 b3 W C D}(h:Wh w b2 b3 W C D a)(k v):Wh w b2 b3 W C (ay D k v)<|ai a.drew (zq (ak w.heap) k) v:=by have l1:=h.Ex;have b:=h.Ey;refine⟨(h.eR.drew).setCell (zd _) _,Ï,h.Ex,h.Ey,jx _ _ _ _ _ _ h.h0, ?_, ?_, ?_⟩;rw[jj _ _ _ _ Â];exact h.h1;rw[jj _ _ _ _ Â];exact h.h2;rw[jj _ _ _ _ Â];exact h.h3
def Wh.fg{w a b2 b3 W C D}(h:Wh w b2 b3 W C D a)(n):Wh w b2 b3 W C D<|a.drewN n:=
 ⟨below_drewN h.eR n,h.sz,h.Ex,h.Ey,h.h0,h.h1,h.h2,h.h3⟩
def Wh.t6{w g b2 b3 W D i c1 c2 c3 j k l m}(h:Wh w b2 b3 W #[i,c1,c2,c3,j,k,l,m] D g)(v0 a v2 b c d e f):
  Wh w b2 b3 W #[v0,a,v2,b,c,d,e,f] D (ai (ai (ai (ai (ai (ai (ai (ai g (zq b3 0) v0) (zq b3 1) a) (zq b3 2) v2) (zq b3 3) b) (zq b3 4) c) (zq b3 5) d) (zq b3 6) e) (zq b3 7) f):=by
 have l1:=h.Ex;have n:=h.Ey;refine⟨CQ _ _ _ _ _ _ _ _ _ _ _ _ À h.eR,by rw[LL];exact h.sz,h.Ex,h.Ey, ?_, ?_, ?_,P.t6 _ _ _ _ _ _ _ _ _ _ _ _ _ _ _ _ _ _ _ h.h3⟩;rw[A9 _ _ _ _ _ _ _ _ _ _ _ À];exact h.h0;rw[A9 _ _ _ _ _ _ _ _ _ _ _ À];exact h.h1;rw[A9 _ _ _ _ _ _ _ _ _ _ _ À];exact h.h2
def zv9(s l)(hl:aa l=64)(w)(hT:Yq w):
  aG prog 250 #[bM #[zw s.a,zw s.b,zw s.c,zw s.d,zw s.e,zw s.f,zw s.g,zw s.h],zs l] w λen w'=>en=ah (bM #[zu<|u (Jb s<|Wf<|bm l).a,zu<|u (Jb s<|Wf<|bm l).b,zu<|u (Jb s<|Wf<|bm l).c,zu<|u (Jb s<|Wf<|bm l).d,zu<|u (Jb s<|Wf<|bm l).e,zu<|u (Jb s<|Wf<|bm l).f,zu<|u (Jb s<|Wf<|bm l).g,zu<|u (Jb s<|Wf<|bm l).h])/\aN (ak w.heap) w w':=by
 have HT:aK<|Yq w:=hT;have bi:=hT.gX;clear hT;go_enter func250.1,Tryz.ntmps250;go_wp2;refine(xlc l hl _).mono ?_;rintro en w1⟨rfl,n⟩;have bx:=(xk1 (w:=w1) (s:=s)<|(n.block (ak w.heap) Æ).trans<|heap_alloc2_old _ _ _);obtain⟨x0,x1,x2,x3,x4,x5,x6,x7⟩:=bx;have bj:ak w.heap+1<ak w1.heap:=by have:=n.size;simp at this;omega
 have b5:ak w.heap<ak w1.heap:=À
 have B:aN (ak w.heap) w w1:=(((zt _ _).alloc (zd _) _).alloc Ä _).trans (n.mono Æ);have C:w1.heap[ak w.heap]?=ac (aq #[zw s.a,zw s.b,zw s.c,zw s.d,zw s.e,zw s.f,zw s.g,zw s.h] 323 (0,0)):=(n.block (ak w.heap) Æ).trans<|heap_alloc2_old _ _ _;have E:w1.heap[ak w.heap+1]?=ac (aq #[zu 0,zu 0,zu 0,zu 0,zu 0,zu 0,zu 0,zu 0] 323 (0,0)):=(n.block (ak w.heap+1) Ä).trans<|heap_alloc2_new _ _ _;clear n;obtain⟨W,hW⟩:∃W,Wf (bm l)=W:=⟨_,rfl⟩;rw[hW];have HW:aK<|Wf (bm l)=W:=hW;have ba:aK<|w1.heap[ak w.heap]?=ac (aq #[zw s.a,zw s.b,zw s.c,zw s.d,zw s.e,zw s.f,zw s.g,zw s.h] 323 (0,0)):=C;have bb:aK<|w1.heap[ak w.heap+1]?=ac (aq #[zu 0,zu 0,zu 0,zu 0,zu 0,zu 0,zu 0,zu 0] 323 (0,0)):=E;clear hW C E;have q:(prog.info? 336).map (·.size)=ac (ak (wv W).toArray):=ĸ
 have z:(wv W).toArray.all (·.oneCell')=aw:=LC _;have hz:ak vc=ak (wv W).toArray:=by rw[LM,jd,Ba]
 go_wp2_with (refine Zo rfl 336 _ _ rfl w1.heap.size _ rfl rfl 336 vc (xn _ _) q hz z ?_;rw[mC]);go_loopw [7] (λi wr=>∃k:Nat,k<=64/\i=zi k/\Wh w (ak w1.heap) (ak w1.heap+1) W #[zu<|u (gh s W k).a,zu<|u (gh s W k).b,zu<|u (gh s W k).c,zu<|u (gh s W k).d,zu<|u (gh s W k).e,zu<|u (gh s W k).f,zu<|u (gh s W k).g,zu<|u (gh s W k).h] #[zw s.a,zw s.b,zw s.c,zw s.d,zw s.e,zw s.f,zw s.g,zw s.h] wr) (λi _=>bB (64-dF i))
 case atStart=>exact⟨0,À,rfl,Wh.fI B bj ba.o bb.o⟩
 case round=>
  clear x0 x1 x2 x3 x4 x5 x6 x7 q z hz;obtain⟨k,hk,rfl,inv⟩:=hrel;have b4:=inv.sz;by_cases m:k<64
  ·have i1:(k:Int)<64:=by omega
   have bf:ae wr (zq 2 k)=ac (zw<|Kc k):=(inv.eR.cell (p:=zq 2 k) bi).trans<|HT.o k m;have bg:ae wr (zq (ak w1.heap) k)=ac (zw<|W k):=by rw[xb _ _ k _ _ _ inv.h2];simpa using LI W k m
   obtain⟨r,hr⟩:∃r,gh s W k=r:=⟨_,rfl⟩;rw[hr]at inv;have HR:aK<|gh s W k=r:=hr;obtain⟨H,R,I,S,J,T,K,U,L,V,M,X,O,Y,Q,Z⟩:=zH inv.h3;clear hr;go_wp2;go_quiet ((first|(go_at_call_of 280 (aH aU 6);exact Calls.quiet_of<|xzt _ _)|(go_at_call_of 280 (aH aU 11);exact Calls.quiet_of<|xut _ _)|(go_at_call_of 280 (aH aU 25);exact Calls.quiet_of<|xuz _ _)));go_wp2;refine(xzs r.a _).mono ?_;rintro en w2⟨rfl,n1,rfl⟩;go_wp2;refine(xuu r.a _).mono ?_;rintro en w2⟨rfl,n2,rfl⟩;go_wp2;refine(xuy r.a _).mono ?_;rintro en w2⟨rfl,n3,rfl⟩;obtain⟨wq,x⟩:∃wq,(wr.drewN<|nq+n1+n2).drewN n3=wq:=⟨_,rfl⟩;have o:Wh w (ak w1.heap) (ak w1.heap+1) W #[zw r.a,zw r.b,zw r.c,zw r.d,zw r.e,zw r.f,zw r.g,zw r.h] #[zw s.a,zw s.b,zw s.c,zw s.d,zw s.e,zw s.f,zw s.g,zw s.h] wq:=by rw[<-x];exact(inv.fg _).fg _
   rw[x];clear x inv bf bg H R I S J T K U L V M X O Y Q Z;obtain⟨H,R,I,S,J,T,K,U,L,V,M,X,O,Y,Q,Z⟩:=zH o.h3;obtain⟨y,t⟩:∃y,r.h+(rr r.e 6^^^rr r.e 11^^^rr r.e 25)+(r.e&&&r.f^^^ ~~~r.e&&&r.g)+Kc k+W k=y:=⟨_,rfl⟩;rw[t];have F:Wh w (ak w1.heap) (ak w1.heap+1) W #[zu<|u (gh s W<|k+1).a,zu<|u (gh s W<|k+1).b,zu<|u (gh s W<|k+1).c,zu<|u (gh s W<|k+1).d,zu<|u (gh s W<|k+1).e,zu<|u (gh s W<|k+1).f,zu<|u (gh s W<|k+1).g,zu<|u (gh s W<|k+1).h] #[zw s.a,zw s.b,zw s.c,zw s.d,zw s.e,zw s.f,zw s.g,zw s.h]<|ai (ai (ai (ai (ai (ai (ai (ai wq (zq (ak w1.heap+1) 0)<|zu<|u<|y+((rr r.a 2^^^rr r.a 13^^^rr r.a 22)+(r.a&&&r.b^^^r.a&&&r.c^^^r.b&&&r.c))) (zq (ak w1.heap+1) 1)<|zw r.a) (zq (ak w1.heap+1) 2)<|zw r.b) (zq (ak w1.heap+1) 3)<|zw r.c) (zq (ak w1.heap+1) 4)<|zw<|r.d+y) (zq (ak w1.heap+1) 5)<|zw r.e) (zq (ak w1.heap+1) 6)<|zw r.f) (zq (ak w1.heap+1) 7)<|zw r.g:=by
    have e:#[zu<|u (gh s W<|k+1).a,zu<|u (gh s W<|k+1).b,zu<|u (gh s W<|k+1).c,zu<|u (gh s W<|k+1).d,zu<|u (gh s W<|k+1).e,zu<|u (gh s W<|k+1).f,zu<|u (gh s W<|k+1).g,zu<|u (gh s W<|k+1).h]=(#[zu<|u<|y+((rr r.a 2^^^rr r.a 13^^^rr r.a 22)+(r.a&&&r.b^^^r.a&&&r.c^^^r.b&&&r.c)),zw r.a,zw r.b,zw r.c,zw<|r.d+y,zw r.e,zw r.f,zw r.g]:Za):=by
     have e1:T1 r.e r.f r.g r.h (Kc k+W k)=y:=by rw[<-t];unfold T1 Lx ch;ac_rfl
     show _=_;simp only[gh,Se,HR.o,e1,T2,Lw,Ly]
    rw[e];exact o.t6 _ _ _ _ _ _ _ _
   clear t o;go_wp2;go_roundw
   case rel=>exact⟨k+1,À,Å,F⟩
   grind [dF]
  obtain rfl:k=64:=À
  clear hk m;go_wp2;go_loopw [14] (λi w2=>∃(k:Nat) (D:Za),k<=8/\i=zi k/\Wh w (ak w1.heap) (ak w1.heap+1) W #[zu<|u (gh s W 64).a,zu<|u (gh s W 64).b,zu<|u (gh s W 64).c,zu<|u (gh s W 64).d,zu<|u (gh s W 64).e,zu<|u (gh s W 64).f,zu<|u (gh s W 64).g,zu<|u (gh s W 64).h] D w2/\ak D=8/\∀i,i<8->D[i]?=ac (zw (if i<k then jR (gh s W 64) i+jR s i else jR s i))) (λi _=>bB (8-dF i))
  case atStart=>exact⟨0,_,À,rfl,inv,rfl,λi hi=>by rw[if_neg À];exact CV _ i hi⟩
  case round=>
   clear inv;obtain⟨k,D,hk,rfl,j,be,hD⟩:=hrel;have bk:=j.sz;by_cases m:k<8
   ·have h1:ae wr (zq (ak w.heap) k)=ac (zw<|jR s k):=by rw[xb _ _ k _ _ _ j.h0,hD k m,if_neg À]
    have h2:ae wr (zq (ak w1.heap+1) k)=ac (zw<|jR (gh s W 64) k):=by rw[xb _ _ k _ _ _ j.h3,CV _ k m]
    have h3:aQ wr (zq (ak w.heap) k)=ao:=xt _ _ _ _ _ j.h0;have bh:jR (gh s W 64) k+jR s k=jR s k+jR (gh s W 64) k:=BitVec.add_comm _ _;have G:Wh w (ak w1.heap) (ak w1.heap+1) W #[zu<|u (gh s W 64).a,zu<|u (gh s W 64).b,zu<|u (gh s W 64).c,zu<|u (gh s W 64).d,zu<|u (gh s W 64).e,zu<|u (gh s W 64).f,zu<|u (gh s W 64).g,zu<|u (gh s W 64).h] (ay D k<|zw<|jR s k+jR (gh s W 64) k)<|ai wr.drew (zq (ak w.heap) k)<|zw<|jR s k+jR (gh s W 64) k:=j.put k _;have bc:aK<|∀i,i<8->(ay D k<|zw<|jR s k+jR (gh s W 64) k)[i]?=ac (zw (if i<k+1 then jR (gh s W 64) i+jR s i else jR s i)):=by intro i hi;rw[Xy];by_cases e:k=i;simp_all;rw[if_neg e,hD i hi];by_cases e2:i<k;rw[if_pos e2,if_pos À];rw[if_neg e2,if_neg À]
    clear hD bh;go_wp2;go_still_tail 9,Á;go_wp2;go_roundw
    case rel=>(repeat apply lU);exact⟨⟨k+1,_,À,Å,G,Ë,bc.o⟩,rfl⟩
    case measure=>simp[dF];omega
   obtain rfl:k=8:=À
   have bd:D=#[zu<|u (Jb s W).a,zu<|u (Jb s W).b,zu<|u (Jb s W).c,zu<|u (Jb s W).d,zu<|u (Jb s W).e,zu<|u (Jb s W).f,zu<|u (Jb s W).g,zu<|u (Jb s W).h]:=RY be (λi hi=>Ë);subst bd;obtain⟨bl,bu,bn,bv,bo,bw,bp,bz,bq,b0,br,b1,bs,b2,bt,b3⟩:=zH j.h0;have z0:ae wr (zq (ak w.heap+1) 0)=ac (zu 0):=by rw[xb _ _ 0 _ _ _ j.h1];rfl
   have f0:aQ wr (zq (ak w.heap+1) 0)=ao:=xt _ _ _ _ _ j.h1;have z1:ae wr (zq (ak w.heap+1) 1)=ac (zu 0):=by rw[xb _ _ 1 _ _ _ j.h1];rfl
   have f1:aQ wr (zq (ak w.heap+1) 1)=ao:=xt _ _ _ _ _ j.h1;have z2:ae wr (zq (ak w.heap+1) 2)=ac (zu 0):=by rw[xb _ _ 2 _ _ _ j.h1];rfl
   have f2:aQ wr (zq (ak w.heap+1) 2)=ao:=xt _ _ _ _ _ j.h1;have z3:ae wr (zq (ak w.heap+1) 3)=ac (zu 0):=by rw[xb _ _ 3 _ _ _ j.h1];rfl
   have f3:aQ wr (zq (ak w.heap+1) 3)=ao:=xt _ _ _ _ _ j.h1;have z4:ae wr (zq (ak w.heap+1) 4)=ac (zu 0):=by rw[xb _ _ 4 _ _ _ j.h1];rfl
   have f4:aQ wr (zq (ak w.heap+1) 4)=ao:=xt _ _ _ _ _ j.h1;have z5:ae wr (zq (ak w.heap+1) 5)=ac (zu 0):=by rw[xb _ _ 5 _ _ _ j.h1];rfl
   have f5:aQ wr (zq (ak w.heap+1) 5)=ao:=xt _ _ _ _ _ j.h1;have z6:ae wr (zq (ak w.heap+1) 6)=ac (zu 0):=by rw[xb _ _ 6 _ _ _ j.h1];rfl
   have f6:aQ wr (zq (ak w.heap+1) 6)=ao:=xt _ _ _ _ _ j.h1;have z7:ae wr (zq (ak w.heap+1) 7)=ac (zu 0):=by rw[xb _ _ 7 _ _ _ j.h1];rfl
   have f7:aQ wr (zq (ak w.heap+1) 7)=ao:=xt _ _ _ _ _ j.h1;have HB:aK<|Below (ak w.heap) w wr:=j.eR;clear hD hk m j;go_wp2;refine ji (v:=bM #[zu<|u (Jb s W).a,zu<|u (Jb s W).b,zu<|u (Jb s W).c,zu<|u (Jb s W).d,zu<|u (Jb s W).e,zu<|u (Jb s W).f,zu<|u (Jb s W).g,zu<|u (Jb s W).h]) ?_ rfl ⟨by rw[HW.o], ?_⟩
   ·simp[dX,Tryz.results250,go_sem, *]
   exact CQ _ _ _ _ _ _ _ _ _ _ _ _ À HB.o
def jbo{a b}{g:Nat}{X}(h:a.heap[g]?=ac X)(c:aN (ak a.heap) a b):b.heap[g]?=ac X:=
 (c.block g (za.1 h).1).trans h
def jbn{w a:Zy}{X}(b:aN (ak (aB w X).drew.heap) (aB w X).drew a):a.heap[ak w.heap]?=ac X:=
 (b.block (ak w.heap) Ä).trans (xn w X)
def jbp{w a:Zy}{X}(b:aN (ak (aB w X).heap) (aB w X) a):a.heap[ak w.heap]?=ac X:=
 (b.block (ak w.heap) Ä).trans (xn w X)
def jes{w a X}(b:aN (ak (aB w X).drew.heap) (aB w X).drew a):aN (ak w.heap) w a:=(((zt _ w).alloc (zd _) X).drew).trans<|b.mono Ä
def Sh{w a}(b:aN (ak w.drew.heap) w.drew a):aN (ak w.heap) w a:=((zt _ w).drew).trans b
def jet{w b c X}(a:aN (ak w.heap) w b)(d:aN (ak (aB b X).heap) (aB b X) c):aN (ak w.heap) w c:=(a.alloc a.size X).trans<|d.mono<|by have:=a.size;simp;omega
def Hq(w g)(h:w.heap[g]?=ac (aq #[zb 128] 5 (0,0))):(convert 163 9<|az (ac ⟨g,0,ar⟩) 1 1).run prog w=cT (aj<|st [128]) w:=by
 have h:=gJ (P:=prog) w 163 9 5 (zq g 0) 1 [128] cI eo dA (λj a=>by
  rw[oB,j7,xb _ _ _ _ _ _ h];obtain rfl:j=0:=Â
  rfl)
 exact h
structure ya(w wc:Zy)(s:St)(wr:Zy):Prop where
 eR:aN (ak w.heap) w wr
 sz:ak wc.heap<ak wr.heap
 Ht:ak w.heap<=ak wc.heap
 b0:wr.heap[ak wc.heap]?=ac (aq #[zw s.a,zw s.b,zw s.c,zw s.d,zw s.e,zw s.f,zw s.g,zw s.h] 323 (0,0))
theorem ya.dQ{w i w1 k s}(h:ya w i s w1)(j:aN (ak w1.drew.heap) w1.drew k)(t):ya w i t<|ai (ai (ai (ai (ai (ai (ai (ai k (zq (ak i.heap) 0)<|zw t.a) (zq (ak i.heap) 1)<|zw t.b) (zq (ak i.heap) 2)<|zw t.c) (zq (ak i.heap) 3)<|zw t.d) (zq (ak i.heap) 4)<|zw t.e) (zq (ak i.heap) 5)<|zw t.f) (zq (ak i.heap) 6)<|zw t.g) (zq (ak i.heap) 7)<|zw t.h:=by have m:ak i.heap<ak k.heap:=zm h.sz j.size;have l:aN (ak w.heap) w k:=h.eR.drew.trans<|j.mono h.eR.size;refine⟨CQ _ _ _ _ _ _ _ _ _ _ _ _ h.Ht l,Ë,h.Ht, ?_⟩;exact t6 _ _ _ _ _ _ _ _ _ _ _ _ _ _ _ _ _ _ _<|(j.block _<|by exact h.sz).trans h.b0
theorem ya.jH{w c w1 b s}(h:ya w c s w1)(a:aN (ak w1.heap) w1 b):ya w c s b:=
 ⟨h.eR.trans<|a.mono h.eR.size,zm h.sz a.size,h.Ht,(a.block _ h.sz).trans h.b0⟩
def xxy(x):IntKind.i64.wrap (u x)=u x:=by have:=x.isLt;grind [zh,u]
def jbz(x):nb x.toNat 4=wb x:=by grind [nb,wb,AZ,bq,Nat.shiftRight_eq_div_pow]
def je1(m k):(st m).extract (64*k) (64*k+64)=st ((m.drop<|64*k).take 64):=by apply AJ;apply Array.toList_inj.1;grind [st,zaj]
theorem xmb{a b}(h:∀j,j<64->a j=b j):∀i,i<64->Wf a i=Wf b i:=by intro i;induction i using Nat.strongRecOn with|_ i ih=>intro d;by_cases c:i<16;grind [LG,A8];grind [LF]
theorem SK(s){a b}:∀n,(∀i,i<n->a i=b i)->gh s a n=gh s b n
 |0,_=>rfl|n+1,h=>by rw[gh,gh,SK s n λi c=>h i À,h n À]
theorem xbp(s){a b}(h:∀i,i<64->a i=b i):Jb s a=Jb s b:=by grind [Jb,SK]
def xm5(s m k):Jb s (Wf<|bO m k)=Jb s (Wf<|bm<|(m.drop<|64*k).take 64):=by grind [xbp,xmb,bO,bm]
def zG(l)(hl:aa l<=90000)(w)(Z:Yq w):aG prog 199 #[aj<|st l] w λen w'=>en=ah (aj<|st<|lM l)/\aN (ak w.heap) w w':=by
 have HT:aK<|Yq w:=Z;have bd:=Z.gX;clear Z;obtain⟨z,hz⟩:∃z:Nat,z=(119-aa l%64)%64:=⟨_,rfl⟩;have bh:z<64:=À
 obtain⟨y,hy⟩:∃y:Nat,y=aa l%64:=⟨_,rfl⟩;have e1:((aa l:Nat):Int).tmod 64=(y:Nat):=by rw[qo À];omega
 have e2:IntKind.i64.wrap (119-(y:Int))=119-(y:Int):=Ì
 have e3:(119-(y:Int)).tmod 64=(z:Nat):=by rw[qo À];omega
 obtain⟨N,hN⟩:∃N:Nat,N=aa l*8:=⟨_,rfl⟩;have e4:IntKind.i64.wrap (8*(aa l:Int))=8*(aa l:Int):=Ì
 have J:aK<|8*(aa l:Int)=(N:Nat):=by show _=_;omega
 have HZ:aK<|z=(119-aa l%64)%64:=hz;have HN:aK<|N=aa l*8:=hN;clear hz hy hN;have H:∀o:Zy,(convert 163 9<|az (ac ⟨ak o.heap,0,ar⟩) 1 1).run prog (aB o<|aq #[aH .u8 128] 5).drew=cT (aj<|st [128]) (aB o<|aq #[aH .u8 128] 5).drew:=λo=>Hq _ _<|xn _ _;have O:=EE 128 128 rfl;have t:aK<|∀o:Zy,aG prog 140 #[aH aU<|8*(aa l:Int),aH aU 8] o λe w'=>e=ah (aj<|st<|nb N 8)/\aN (ak o.heap) o w':=λo=>ub (8*(aa l:Int)) 8 N 8 J.o rfl Ã o;go_enter func199.1,Tryz.ntmps199;go_upto_region 1 with fail
 go_cut [3]from 8 (λv o=>v=aj (st (128::(bD z 0++nb N 8)))/\aN (ak w.heap) w o)
 case first=>
  go_region_with (first
   |(go_at_call 126;refine(LY z À _).mono ?_;rintro en w2⟨rfl,n⟩;(first|have D:=jes n|have D:=Sh n);(first|(have K:=jbn n;have bo:=Hq _ _ K)|skip))
   |(go_at_call 140;go_fit (t.o _);rintro en w3⟨rfl,q⟩;have M:=Z2 N 8;(first|have p:=Xs D q|have p:=jet D q);(first|(have G:=jbp q;have bc:=Hq _ _ G)|(have G:=jbo K q;have bc:=Hq _ _ G)|skip)))
  all_goals go_wp2
  all_goals go_meet
  all_goals exact⟨rfl,by first|exact p|exact p.alloc p.size _⟩
 case rest=>
  obtain⟨rfl,E⟩:=hcut;clear O H t e1 e2 e3 e4 J;have hp:l++128::(bD z 0++nb N 8)=rU l:=by have:=CT (aa l);rw[HN.o];unfold rU uz;congr 3;rw[HZ.o];unfold Wv;congr 1;omega
  have M:=Z2 N 8;have R:aa (rU l)=Wv (aa l):=LN l 8 À;have ba:=CT (aa l);have F:64*(Wv (aa l)/64)=Wv (aa l):=ě
  obtain⟨c,S⟩:∃c,Wv (aa l)/64=c:=⟨_,rfl⟩;rw[S]at F;have Q:aa (rU l)=64*c:=by rw[R,F]
  have HC:aK<|Wv (aa l)/64=c:=S;have bj:64*c<=90072:=À
  clear S R ba F HZ HN;generalize hm:rU l=m at*;have T:aK<|rU l=m:=hm;have bi:aK<|aa m=64*c:=Q;clear hm;go_wp2;clear hp M;have C:ya w wc iv<|aB wc<|aq #[aH bQ<|u iv.a,aH bQ<|u iv.b,aH bQ<|u iv.c,aH bQ<|u iv.d,aH bQ<|u iv.e,aH bQ<|u iv.f,aH bQ<|u iv.g,aH bQ<|u iv.h] 323:=⟨(E.alloc E.size _),Ä,E.size,xn _ _⟩;go_loopw [5] (λi wr=>∃k:Nat,k<=c/\i=aH aU (64*(k:Int))/\ya w wc (sB m k) wr) (λi _=>bB (64*(c:Int)-dF i))
  case atStart=>exact⟨0,À,Å,C⟩
  case round=>
   clear C;obtain⟨k,hk,rfl,inv⟩:=hrel;have bb:=inv.sz;have bg:=inv.Ht;by_cases L:k<c
   ·have i0:(0:Int)<=64*(k:Int):=by omega
    have i1:64*(k:Int)<64*(c:Int):=À
    have i2:64*(k:Int)+64<=64*(c:Int):=À
    have iw:IntKind.i64.wrap (64*(k:Int)+64)=64*(k:Int)+64:=Ì
    have HB:aK<|(m.drop<|64*k).take 64=(m.drop<|64*k).take 64:=rfl;have r:aa ((m.drop<|64*k).take 64)=64:=by simp;rw[Q];omega
    have bf:=je1 m k;have W:aK<|Yq wr.drew:=HT.o.Y bd inv.eR.drew;obtain⟨s,I⟩:∃s,sB m k=s:=⟨_,rfl⟩;rw[I]at inv;have U:aK<|sB m (k+1)=Jb s (Wf<|bm<|(m.drop<|64*k).take 64):=by show Jb (sB m k) (Wf<|bO m k)=_;rw[I,xm5]
    clear I;obtain⟨b8,cg,b9,ch,ca,ci,cb,cj,cc,ck,cd,cl,ce,cm,cf,cn⟩:=zH inv.b0;generalize(m.drop<|64*k).take 64=B at*;have i3:bB (64*(k:Int))=64*k:=À
    have i4:bB (64*(k:Int)+64)=64*k+64:=À
    go_wp2;go_region_with (first
     |(go_at_call 250;go_fit (zv9 s B r _ W.o);rintro en w2⟨rfl,n⟩;have be:ak wc.heap<ak wr.drew.heap:=bb;obtain⟨bq,bz,br,b1,bs,b2,bt,b3,bu,b4,bv,b5,bw,b6,bx,b7⟩:=zH<|(n.block _ be).trans inv.b0))
    all_goals go_wp2
    all_goals go_roundw
    all_goals first
     |(refine⟨k+1,À,Å, ?_⟩;rw[U.o];exact inv.dQ n _)
     |(simp[dF];omega)
   obtain rfl:k=c:=À
   obtain⟨s,I⟩:∃s,sB m k=s:=⟨_,rfl⟩;rw[I]at inv;have U:aK<|lM l=sb s 8:=by show sb (sB (rU l)<|Wv (aa l)/64) 8=_;rw[HC.o,T.o,I]
   clear I;have r:=inv.eR;have bl:¬64*(k:Int)<64*(k:Int):=À
   go_wp2;go_loopw [6,7] (λv i w3=>∃j:Nat,j<=8/\i=aH aU j/\v=aj (st<|sb s j)/\ya w wc s w3) (λ_ i _=>bB (8-dF i))
   case atStart=>exact⟨0,À,rfl,rfl,inv⟩
   case round=>
    clear inv;obtain⟨j,hj,rfl,rfl,inv⟩:=hrel;by_cases L:j<8
    ·have j1:(j:Int)<8:=by omega
     have bn:=Hc s j;have V:aK<|sb s (j+1)=sb s j++wb (jR s j):=rfl;have S:ae wr ⟨ak wc.heap,j,ar⟩=ac (aH bQ<|u<|jR s j):=by rw[xb _ _ j _ _ _ inv.b0,CV s j L]
     have Y:aK<|nb (jR s j).toNat 4=wb (jR s j):=jbz<|jR s j;have bk:=xxy<|jR s j;generalize jR s j=x at*;generalize sb s j=X at*;go_wp2;go_fit (ub (u x) 4 x.toNat 4 rfl rfl Ã _);rintro en w2⟨rfl,n⟩;rw[Y.o];have bp:aa (wb x)=4:=rfl;go_wp2;go_roundw
     case rel=>refine⟨j+1,À,Å,by rw[V.o], ?_⟩;exact inv.jH n
     grind [dF]
    obtain rfl:j=8:=À
    have r:=inv.eR;go_wp2;go_ret;exact⟨by rw[U.o];rfl,r⟩
end
section
attribute [local go_sem] zn zg
def Yq.fP{w w'}(h:Yq w)(a:aN (ak w.heap) w w'):Yq w':=h.Y h.gX a
structure wD(w:Zy)(L:Zl)(Z:Ze)(wr:Zy):Prop where
 eR:aN (ak w.heap) w wr
 b0:wr.heap[ak w.heap]?=ac (aq (aV (bv L++Z)) 5 (aa (bv L++Z),aa (bv L++Z)+1))
def wD.i{w L Z b}(h:wD w L Z b)(k a)(c:L[k]?=ac a):ae b (zq (ak w.heap) k)=ac (zb (aI a)):=by rw[xb _ _ _ _ _ _ h.b0];grind [bv]
def wD.ee{w L Z a}(h:wD w L Z a)(k)(hk:k<aa L):aQ a (zq (ak w.heap) k)=ao:=by unfold aQ;rw[h.b0];grind [uy]
theorem wD.H{w L Z b}(h:wD w L Z b)(k)(hk:k<aa L)(a):wD w (L.set k a) Z<|ai b (zq (ak w.heap) k)<|zb (aI a):=by refine⟨h.eR.setCell (zd _) _, ?_⟩;rw[zdm _ _ _ _ _ _ _ h.b0,Jr _ _ _ _ _ _ h.b0];grind [uy,Ev]
def Hm(l)(C:aa l<=90000)(c n)(v:n=(aI c:Int))(w):aG prog 200 #[zs l,zb n] w λen w'=>en=ah (zs (l.map (·^^^c)))/\aN (ak w.heap) w w':=by
 subst v;have g:=run_bytes_of_string (P:=prog) w 9 163 5 (st l) dA cI eo;obtain⟨d,f⟩:∃d,grownCap w (st l).size 0 5=d:=⟨_,rfl⟩;have s:aa l<=d:=by rw[<-f];exact grownCap_ge w _ _ _
 rw[f,zn]at g;obtain⟨Z,q⟩:∃Z:Ze,bytesRow (st l) d=aV (bv l++Z):=⟨bD (d-aa l)<|zb 0,ĕ⟩;rw[q]at g;have o:wD w (xk l c 0) Z<|aB w.drew<|aq (aV (bv l++Z)) 5 (ak (bv l++Z).toArray,ak (bv l++Z).toArray+1):=by
  refine⟨((zt _ _).drew).alloc (zd _) _, ?_⟩;have e:xk l c 0=l:=by simp[xk]
  rw[e];exact xn w.drew _
 clear f q;generalize hW:(aB w.drew<|aq (aV (bv l++Z)) 5 (ak (bv l++Z).toArray,ak (bv l++Z).toArray+1))=w1 at*;clear hW;go_enter func200.1,Tryz.ntmps200;go_wp2;go_loopw [6] (λi wr=>∃k:Nat,k<=aa l/\i=zi k/\wD w (xk l c k) Z wr) (λi _=>bB (aa l-dF i))
 case atStart=>grind
 case round=>
  clear o g;obtain⟨k,hk,rfl,inv⟩:=hrel;by_cases m:k<aa l
  ·obtain⟨a,p⟩:∃a,l[k]=a:=⟨_,rfl⟩;have x:(k:Int)<(aa l:Nat):=by omega
   have z:=inv.i k a (by rw[SG l c k m,p]);have B:=inv.ee k (by rw[SC];exact m);have r:=inv.H k (by rw[SC];exact m)<|a^^^c;have e:(xk l c k).set k (a^^^c)=xk l c (k+1):=by rw[<-p];exact SD l c k m
   rw[e]at r;have D:=C4 a c;clear e inv p;generalize a^^^c=b at*;go_wp2;go_roundw
   case rel=>exact⟨k+1,À,Å,r⟩
   grind [dF]
  obtain rfl:k=aa l:=À
  have x:¬((aa l:Nat):Int)<(aa l:Nat):=À
  rw[Sz l c _<|zd _]at inv;have g:(convert 163 9<|az (ac ⟨ak w.heap,0,ar⟩) (aa l) d).run prog wr=cT (zs (l.map (·^^^c))) wr:=by have h:=gJ (P:=prog) wr 163 9 5 (zq (ak w.heap) 0) d (l.map (·^^^c)) cI eo dA (λj t=>by rw[oB,j7];exact inv.i j _<|Jc t);rw[jl]at h;exact h
  have y:=inv.eR;clear inv;go_wp2;go_ret;simp_all
def LR(a)(n:Nat)(b:a=(n:Int))(c:n<=64)(w):aG prog 126 #[zi a] w λe w'=>e=ah (zs<|List.replicate n 0)/\aN (ak w.heap) w w':=by grind [LY]
def EG(k x)(z:aa k<=5000)(hx:aa x<=80000)(w)(t:Yq w):aG prog 142 #[zs k,zs x] w λen w'=>en=ah (zs<|Wu k x)/\aN (ak w.heap) w w':=by
 have n:aK<|Yq w:=t;clear t;by_cases v:64<aa k
 ·have y:(64:Int)<(aa k:Nat):=by omega
  have m:=vf k;have o:aK<|Wu k x=xU (lM k) x:=by show xU (hk k) x=_;unfold hk;rw[if_pos v]
  go_enter func142.1,Tryz.ntmps142;go_wp2;go_fit (zG k À _ n.o);rintro en w1⟨rfl,l⟩;have j:aK<|Yq w1:=n.o.fP l;have c:aa (lM k)<=64:=À
  clear m;generalize lM k=K at*;have B:IntKind.i64.wrap (64-(aa K:Int))=64-(aa K:Int):=Ì
  go_wp2;go_fit (LR (64-(aa K:Int)) (64-aa K) À À _);rintro en C⟨rfl,a⟩;have f:aK ((K++bD (64-aa K) 0).map (·^^^0x36)=kc K 0x36):=rfl;have g:aK ((K++bD (64-aa K) 0).map (·^^^0x5c)=kc K 0x5c):=rfl;have i:aa (bD (64-aa K) (0:Z8))=64-aa K:=Zq;have p:aa (K++bD (64-aa K) (0:Z8))=64:=by rw[zx,i];omega
  go_wp2;generalize K++bD (64-aa K) (0:Z8)=P at*;go_fit (Hm P À 0x36 54 rfl _);rintro en D⟨rfl,b⟩;rw[f.o];have q:=xY K 0x36 c;go_wp2;go_fit (zG (kc K 0x36++x) Â _<|j.o.fP a |>.fP b);rintro en E⟨rfl,d⟩;go_wp2;go_fit (Hm P À 0x5c 92 rfl _);rintro en F⟨rfl,e⟩;rw[g.o];have r:=xY K 0x5c c;have s:=vf<|kc K 0x36++x;go_wp2;go_fit (zG (kc K 0x5c++lM (kc K 0x36++x)) Â _<|j.o.fP a |>.fP b |>.fP d |>.fP e);rintro en G⟨rfl,h⟩;go_wp2;go_ret;exact⟨by rw[o.o];rfl,Xs l<|Xs a<|Xs b<|Xs d<|Xs e h⟩
 have y:¬(64:Int)<(aa k:Nat):=À
 have o:aK<|Wu k x=xU k x:=by show xU (hk k) x=_;unfold hk;rw[if_neg v]
 have c:aa k<=64:=À
 go_enter func142.1,Tryz.ntmps142;have B:IntKind.i64.wrap (64-(aa k:Int))=64-(aa k:Int):=Ì
 go_wp2;go_fit (LR (64-(aa k:Int)) (64-aa k) À À _);rintro en C⟨rfl,a⟩;have f:aK ((k++bD (64-aa k) 0).map (·^^^0x36)=kc k 0x36):=rfl;have g:aK ((k++bD (64-aa k) 0).map (·^^^0x5c)=kc k 0x5c):=rfl;have i:aa (bD (64-aa k) (0:Z8))=64-aa k:=Zq;have p:aa (k++bD (64-aa k) (0:Z8))=64:=by rw[zx,i];omega
 go_wp2;generalize k++bD (64-aa k) (0:Z8)=P at*;go_fit (Hm P À 0x36 54 rfl _);rintro en D⟨rfl,b⟩;rw[f.o];have q:=xY k 0x36 c;go_wp2;go_fit (zG (kc k 0x36++x) Â _<|n.o.fP a |>.fP b);rintro en E⟨rfl,d⟩;go_wp2;go_fit (Hm P À 0x5c 92 rfl _);rintro en F⟨rfl,e⟩;rw[g.o];have r:=xY k 0x5c c;have s:=vf<|kc k 0x36++x;go_wp2;go_fit (zG (kc k 0x5c++lM (kc k 0x36++x)) Â _<|n.o.fP a |>.fP b |>.fP d |>.fP e);rintro en G⟨rfl,h⟩;go_wp2;go_ret;exact⟨by rw[o.o];rfl,Xs a<|Xs b<|Xs d<|Xs e h⟩
def xh6(k x)(a:aa k<=4096)(hx:4096<aa x)(w):aG prog 207 #[zs k,zs x] w λen w'=>en=ah (bU #[aj<|st [],zi 1])/\w'=w:=by
 have b:¬(4096:Int)<(aa k:Nat):=À
 have c:(4096:Int)<(aa x:Nat):=À
 go_enter func207.1,Tryz.ntmps207;go_wp2;go_ret2;exact⟨rfl,rfl⟩
def xkb(b l)(n:Nat)(O:n<=6)(y:n<=aa l)(w)(s:ae w (zq b 0)=ac (zs l))(t:aQ w (zq b 0)=ao):aG prog 166 #[zo b,zi n] w λe w'=>e=ah (zi (qi (l.take n):Nat))/\aN (ak w.heap) (ai w (zq b 0)<|zs<|l.drop n) w':=by
 obtain⟨W,d⟩:∃W,ai w (zq b 0) (zs<|l.drop n)=W:=⟨_,rfl⟩;have f:ak W.heap=ak w.heap:=by rw[<-d];simp
 obtain⟨m,o⟩:∃m,l.take n=m:=⟨_,rfl⟩;have J:aa m=n:=by rw[<-o,xf];omega
 have h:=run_bytes_of_string W 9 163 5 (st m) dA cI eo;obtain⟨a,g⟩:∃a,grownCap W (st m).size 0 5=a:=⟨_,rfl⟩;rw[g,zn]at h;obtain⟨Z,H⟩:∃Z:Ze,bytesRow (st m) a=aV (bv m++Z):=⟨bD (a-aa m)<|zb 0,ĕ⟩;rw[H]at h;have inv:wD W m Z<|aB W.drew<|aq (aV (bv m++Z)) 5 (ak (bv m++Z).toArray,ak (bv m++Z).toArray+1):=
  ⟨((zt _ _).drew).alloc (zd _) _,xn W.drew _⟩
 generalize(aB W.drew<|aq (aV (bv m++Z)) 5 (ak (bv m++Z).toArray,ak (bv m++Z).toArray+1))=w1 at*;have C:aN (ak w.heap) W w1:=by show aN _ _ _;rw[<-f];exact inv.eR
 have B:=SF b l (n:Int) n rfl y w s t;rw[d,o]at B;have D:=inv;have G:=xe d;have E:=xe o;clear inv f s t d o y;go_enter func166.1,Tryz.ntmps166;go_wp2;refine B.mono ?_;rintro e R⟨rfl,rfl⟩;go_wp2;go_loopw [5,13] (λv i wr=>∃k:Nat,k<=aa m/\i=zi k/\v=zi (qi (m.take k):Nat)/\wr=w1) (λ_ i _=>bB (aa m-dF i))
 case atStart=>exact⟨0,À,rfl,rfl,rfl⟩
 case round=>
  obtain⟨k,hk,rfl,rfl,rfl⟩:=hrel;by_cases j:k<aa m
  ·obtain⟨c,p⟩:∃c,m[k]'j=c:=⟨_,rfl⟩;have r:=D.i k c Â;have z:=SO (m.take k) c;have L:m.take (k+1)=m.take k++[c]:=by rw[zp j,p]
   rw[<-L]at z;have x:=xV<|m.take k;have M:256^aa (m.take k)<=256^5:=J7 Ã Â;have F:=z;generalize hq:qi (m.take k)=q at*;have K:=Su q c À;have I:=c.toNat_lt;have Q:(k:Int)<(aa m:Nat):=À
   go_wp2;go_roundw
   case rel=>exact⟨k+1,À,Å,by rw[F];go_num,trivial⟩
   grind [dF]
  obtain rfl:k=aa m:=À
  rw[jz];go_wp2;go_ret;exact⟨by rw[E.o];rfl,by rw[G.o];exact C⟩
def xdw{tv}(b l)(n:Nat)(d:aa l<n)(w)(c:ae w (zq b 0)=ac (zs l))(a:fU tv w):aG prog 166 #[zo b,zi n] w λe w'=>e=jM tv/\w'=w:=by have f:=SE b l (n:Int) n rfl d w c a;go_enter func166.1,Tryz.ntmps166;go_wp2;refine f.mono ?_;rintro e g⟨rfl,rfl⟩;exact⟨rfl,rfl,rfl⟩
end
def e8(x:Z8):Int:=(aI x:Int)
@[go_sem] abbrev zc(x:UInt8):dL:=aH .u8 (e8 x)
def rV(x):0<=e8 x:=by simp[e8]
def sC(x):e8 x<256:=by have:=x.toNat_lt;simp only[e8];omega
def C0(x):bB (e8 x)=aI x:=by simp[e8]
def xZ{p:Z8->Prop}(h:∀i:Fin 256,p<|UInt8.ofNat i.val)(x):p x:=by have:=h ⟨aI x,x.toNat_lt⟩;simp_all
def wy(a b):kf .xor .u8 (e8 a) (e8 b)=e8 (a^^^b):=C4 a b
def xnj(a):kf .xor .u8 (e8 a) 27=e8 (a^^^27):=C4 a 27
def xss(a):kf .xor .u8 (e8 a) 9=e8 (a^^^9):=C4 a 9
def xnk(a):kf .xor .u8 (e8 a) 99=e8 (a^^^99):=C4 a 99
def Hj(a b):kf .or .u8 (e8 a) (e8 b)=e8 (a|||b):=by
 show IntKind.u8.wrap ((cX 8 (aI a:Int)|||BitVec.ofInt 8 (aI b:Int)).toNat:Int)=_;have c:cX 8 (aI a:Int)=a.toBitVec:=Ä
 have d:cX 8 (aI b:Int)=b.toBitVec:=Ä
 rw[c,d];have h:=(a|||b).toNat_lt;have e:(a.toBitVec|||b.toBitVec).toNat=aI (a|||b):=Ä
 rw[e];show _=((aI (a|||b):Nat):Int);grind [eP,eQ,ek]
def Hu(n)(b:n<8)(k)(hk:k=((2^n:Nat):Int))(a):IntKind.u8.wrap (e8 a*k)=e8 (a<<<ku n):=by
 subst hk;obtain rfl|rfl|rfl|rfl|rfl|rfl|rfl|rfl:n=0\/n=1\/n=2\/n=3\/n=4\/n=5\/n=6\/n=7:=À
 all_goals (revert a;exact xZ È)
def xsk(a):IntKind.u8.wrap (e8 a*(2:Int))=e8 (a<<<1):=Hu 1 Ã _ rfl a
def xsl(a):IntKind.u8.wrap (e8 a*(4:Int))=e8 (a<<<2):=Hu 2 Ã _ rfl a
def xsm(a):IntKind.u8.wrap (e8 a*(8:Int))=e8 (a<<<3):=Hu 3 Ã _ rfl a
def xsn(a):IntKind.u8.wrap (e8 a*(16:Int))=e8 (a<<<4):=Hu 4 Ã _ rfl a
def Hw(n)(b:n<8)(k)(hk:k=((2^n:Nat):Int))(a):e8 a/k=e8 (a>>>ku n):=by
 subst hk;obtain rfl|rfl|rfl|rfl|rfl|rfl|rfl|rfl:n=0\/n=1\/n=2\/n=3\/n=4\/n=5\/n=6\/n=7:=À
 all_goals (revert a;exact xZ È)
def xso(a):e8 a/(16:Int)=e8 (a>>>4):=Hw 4 Ã _ rfl a
def xsp(a):e8 a/(32:Int)=e8 (a>>>5):=Hw 5 Ã _ rfl a
def xsq(a):e8 a/(64:Int)=e8 (a>>>6):=Hw 6 Ã _ rfl a
def xsr(a):e8 a/(128:Int)=e8 (a>>>7):=Hw 7 Ã _ rfl a
def mt(x:Z8):Z8:=if 128<=aI x then(x<<<1)^^^27 else x<<<1
def xx1(x)(h:(128:Int)<=e8 x):mt x=(x<<<1)^^^27:=by grind [mt,e8]
def xx2(x)(h:¬(128:Int)<=e8 x):mt x=x<<<1:=by grind [mt,e8]
def Hf(x:Z8):Z8:=x^^^x<<<1
def Hg(x:Z8):Z8:=Hf x^^^Hf x<<<2
def zD(x:Z8):Z8:=Hg x^^^Hg x<<<4
def Bc(x:Z8):Z8:=if 128<=aI (zD x) then zD x^^^9 else zD x
def nZ(x:Z8)(n:Z8):Z8:=x<<<n|||x>>>(8-n)
def He(q:Z8):Z8:=q^^^nZ q 1^^^nZ q 2^^^nZ q 3^^^nZ q 4^^^99
def Pt:Zl:=[1,3,5,15,17,51,85,255,26,46,114,150,161,248,19,53,95,225,56,72,216,115,149,164,247,2,6,10,30,34,102,170,229,52,92,228,55,89,235,38,106,190,217,112,144,171,230,49,83,245,4,12,20,60,68,204,79,209,104,184,211,110,178,205,76,212,103,169,224,59,77,215,98,166,241,8,24,40,120,136,131,158,185,208,107,189,220,127,129,152,179,206,73,219,118,154,181,196,87,249,16,48,80,240,11,29,39,105,187,214,97,163,254,25,43,125,135,146,173,236,47,113,147,174,233,32,96,160,251,22,58,78,210,109,183,194,93,231,50,86,250,21,63,65,195,94,226,61,71,201,64,192,91,237,44,116,156,191,218,117,159,186,213,100,172,239,42,126,130,157,188,223,122,142,137,128,155,182,193,88,232,35,101,175,234,37,111,177,200,67,197,84,252,31,33,99,165,244,7,9,27,45,119,153,176,203,70,202,69,207,74,222,121,139,134,145,168,227,62,66,198,81,243,14,18,54,90,238,41,123,141,140,143,138,133,148,167,242,13,23,57,75,221,124,132,151,162,253,28,36,108,180,199,82,246,1]
def Qt:Zl:=[1,246,82,199,180,108,36,28,253,162,151,132,124,221,75,57,23,13,242,167,148,133,138,143,140,141,123,41,238,90,54,18,14,243,81,198,66,62,227,168,145,134,139,121,222,74,207,69,202,70,203,176,153,119,45,27,9,7,244,165,99,33,31,252,84,197,67,200,177,111,37,234,175,101,35,232,88,193,182,155,128,137,142,122,223,188,157,130,126,42,239,172,100,213,186,159,117,218,191,156,116,44,237,91,192,64,201,71,61,226,94,195,65,63,21,250,86,50,231,93,194,183,109,210,78,58,22,251,160,96,32,233,174,147,113,47,236,173,146,135,125,43,25,254,163,97,214,187,105,39,29,11,240,80,48,16,249,87,196,181,154,118,219,73,206,179,152,129,127,220,189,107,208,185,158,131,136,120,40,24,8,241,166,98,215,77,59,224,169,103,212,76,205,178,110,211,184,104,209,79,204,68,60,20,12,4,245,83,49,230,171,144,112,217,190,106,38,235,89,55,228,92,52,229,170,102,34,30,10,6,2,247,164,149,115,216,72,56,225,95,53,19,248,161,150,114,46,26,255,85,51,17,15,5,3,1]
def Pw(n:Nat):Z8:=Pt.getD n 0
def Qw(n:Nat):Z8:=Qt.getD n 0
def So(n)(h:n<255):Pw (n+1)=Pw n^^^mt (Pw n):=
 (by decide+kernel:∀n:Fin 255,Pw (n.val+1)=Pw n.val^^^mt (Pw n.val)) ⟨n,h⟩
def xrs(n)(h:n<255):Qw (n+1)=Bc (Qw n):=
 (by decide+kernel:∀n:Fin 255,Qw (n.val+1)=Bc (Qw n.val)) ⟨n,h⟩
def Bt:Zl:=[99,124,119,123,242,107,111,197,48,1,103,43,254,215,171,118,202,130,201,125,250,89,71,240,173,212,162,175,156,164,114,192,183,253,147,38,54,63,247,204,52,165,229,241,113,216,49,21,4,199,35,195,24,150,5,154,7,18,128,226,235,39,178,117,9,131,44,26,27,110,90,160,82,59,214,179,41,227,47,132,83,209,0,237,32,252,177,91,106,203,190,57,74,76,88,207,208,239,170,251,67,77,51,133,69,249,2,127,80,60,159,168,81,163,64,143,146,157,56,245,188,182,218,33,16,255,243,210,205,12,19,236,95,151,68,23,196,167,126,61,100,93,25,115,96,129,79,220,34,42,144,136,70,238,184,20,222,94,11,219,224,50,58,10,73,6,36,92,194,211,172,98,145,149,228,121,231,200,55,109,141,213,78,169,108,86,244,234,101,122,174,8,186,120,37,46,28,166,180,198,232,221,116,31,75,189,139,138,112,62,181,102,72,3,246,14,97,53,87,185,134,193,29,158,225,248,152,17,105,217,142,148,155,30,135,233,206,85,40,223,140,161,137,13,191,230,66,104,65,153,45,15,176,84,187,22]
def Sx(x:Z8):Z8:=Bt.getD (aI x) 0
def Sn(n:Nat):Z8:=Bt.getD n 0
def Sq(x):Sn (aI x)=Sx x:=rfl
def ua:Nat->Zl
 |0=>99::bD 255 0|n+1=>(ua n).set (aI (Pw n))<|He<|Qw n
def Hp:∀n,aa (ua n)=256
 |0=>by grind [ua]|n+1=>by rw[ua,List.length_set,Hp n]
def xsc:ua 255=Bt:=È
def kb(f:Zu)(n:Nat):Ze:=(gO n).map λi=>aH .u8 (e8<|f i)
theorem rB(f n):aa (kb f n)=n:=by simp[kb]
theorem xW(f n):ak (kb f n).toArray=n:=by simp[kb]
theorem wC(f n i)(h:i<n):(kb f n)[i]?=ac (zb<|e8<|f i):=by simp[kb,h]
def xyi(f n i)(h:i<n):(kb f n).toArray[i]?=ac (zb<|e8<|f i):=by simp[kb,h]
def zI(f n):(kb f n).toArray.all (·.oneCell')=aw:=by rw[jn];intro v a;simp only[kb,GD,Xe]at a;obtain⟨i,_,rfl⟩:=a;rfl
theorem LZ{f g n}(h:∀i,i<n->f i=g i):kb f n=kb g n:=by grind [kb,W6]
theorem LO(f n k v):(kb f n).set k (zb<|e8 v)=kb (λi=>if i=k then v else f i) n:=by apply Ye;grind [kb]
def xtf(f n k v):ay (kb f n).toArray k (zb<|e8 v)=aV (kb (λi=>if i=k then v else f i) n):=by grind [LO]
theorem Hi(l):bv l=kb (λi=>l.getD i 0) (aa l):=by apply Ye;grind [wC,bv,e8,rB]
def kl(f:Zu)(n:Nat):Zl:=(gO n).map f
def zJ(f n):aa (kl f n)=n:=by simp[kl]
def Sl(f n i)(h:i<n):(kl f n).getD i 0=f i:=by simp[kl,h]
def nf(f g:Zu)(i:Nat):Z8:=f i^^^g i
def gz(f:Zu)(i:Nat):Z8:=Sx<|f<|(i+i%4*4)%16
def ny(f:Zu)(i:Nat):Z8:=f (i/4*4)^^^f (i/4*4+1)^^^f (i/4*4+2)^^^f (i/4*4+3)^^^f i^^^mt (f i^^^f (i/4*4+(i%4+1)%4))
def ve(f:Zu)(c:Z8)(j:Nat):Z8:=if j=0 then Sx (f 13)^^^c else if j=1 then Sx (f 14)else if j=2 then Sx (f 15)else Sx (f 12)
def kn(f:Zu)(c:Z8):Nat->Z8
 |i+4=>kn f c i^^^f (i+4)|i=>ve f c i^^^f i
theorem LP(f c):∀i,kn f c i=if _h:4<=i then kn f c (i-4)^^^f i else ve f c i^^^f i
 |0=>rfl|1=>rfl
 |2=>rfl|3=>rfl
 |i+4=>by rw[dif_pos À];rfl
def qZ:Nat->Z8
 |0=>1|n+1=>mt<|qZ n
def jI(f:Zu):Nat->Nat->Z8
 |0=>f|n+1=>kn (jI f n)<|qZ n
def Bb(k x:Zu):Nat->Nat->Z8
 |0=>nf x<|jI k 0
 |n+1=>nf (ny<|gz<|Bb k x n)<|jI k<|n+1
def Yr(k x:Zu):Nat->Z8:=nf (gz<|Bb k x 9)<|jI k 10
section
attribute [local go_sem] wy xnj xss xsk xsl xsm xsn
def LW(x w):aG prog 295 #[zc x] w λen w'=>en=ah (zc<|mt x)/\w'=w:=by
 by_cases h:(128:Int)<=e8 x
 ·rw[xx1 x h];go_enter func295.1,Tryz.ntmps295;go_wp2;go_ret;simp
 rw[xx2 x h];go_enter func295.1,Tryz.ntmps295;go_wp2;go_ret;simp
def xk6(x w):aG prog 306 #[zc x] w λen w'=>en=ah (zc<|Bc x)/\w'=w:=by
 by_cases h:(128:Int)<=e8 (zD x)
 ·have e:Bc x=zD x^^^9:=by unfold Bc;rw[if_pos<|by grind [e8]]
  rw[e];unfold zD Hg Hf at*;go_enter func306.1,Tryz.ntmps306;go_wp2;go_ret;simp
 have e:Bc x=zD x:=by unfold Bc;rw[if_neg<|by grind [e8]]
 rw[e];unfold zD Hg Hf at*;go_enter func306.1,Tryz.ntmps306;go_wp2;go_ret;simp
def xw6:kf .and .u64 1 7=1:=È
def xzc(x w):aG prog 305 #[zc x,zi 1] w λen w'=>en=ah (zc<|nZ x 1)/\w'=w:=by have a:=xw6;go_enter func305.1,oO;go_wp2;go_ret;exact⟨by show ah (zb<|bits .or .u8 (e8<|x<<<1)<|e8 x/128)=_;rw[xsr,Hj];rfl,rfl⟩
def xw7:kf .and .u64 2 7=2:=È
def xzd(x w):aG prog 305 #[zc x,zi 2] w λen w'=>en=ah (zc<|nZ x 2)/\w'=w:=by have a:=xw7;go_enter func305.1,oO;go_wp2;go_ret;exact⟨by show ah (zb<|bits .or .u8 (e8<|x<<<2)<|e8 x/64)=_;rw[xsq,Hj];rfl,rfl⟩
def xw8:kf .and .u64 3 7=3:=È
def xze(x w):aG prog 305 #[zc x,zi 3] w λen w'=>en=ah (zc<|nZ x 3)/\w'=w:=by have a:=xw8;go_enter func305.1,oO;go_wp2;go_ret;exact⟨by show ah (zb<|bits .or .u8 (e8<|x<<<3)<|e8 x/32)=_;rw[xsp,Hj];rfl,rfl⟩
def xw9:kf .and .u64 4 7=4:=È
def xzf(x w):aG prog 305 #[zc x,zi 4] w λen w'=>en=ah (zc<|nZ x 4)/\w'=w:=by have a:=xw9;go_enter func305.1,oO;go_wp2;go_ret;exact⟨by show ah (zb<|bits .or .u8 (e8<|x<<<4)<|e8 x/16)=_;rw[xso,Hj];rfl,rfl⟩
end
section
attribute [local go_sem] wy xnk
def yb:Za:=bV 256<|aH .u8 0
def SP:ak yb=256:=by simp[yb]
def xtd:((prog.info? 368).map λi=>(i.zero,i.size))=ac (ac<|bM yb,256):=Á
def Ss:(prog.info? 368).map (·.size)=ac 256:=Á
def xm7:prog.built 368 [(0,zb 99)]=ac (aV (bv<|ua 0)):=Á
def SJ{P ops rest o a w Q}(c:o.guard=ar)(t:Zt)(parts)(ho:o.op= .build t parts)(b)
  (d:P.built t (parts.toList.map λ(i,x)=>(i,a.eval x))=ac b)(h:wpList P ops Q rest (a.put o.dst<|bM b) w):wpList P ops Q (o::rest) a w:=
 wpList_build c t parts ho Ë Ë
def zzt(w:Zy)(A c)(t:Zt):(aB (aB w A)<|aq c t).heap[ak w.heap+1]?=ac (aq c t (0,0)):=by have h:=xn (aB w A)<|aq c t;simp_all
def ztt(w:Zy)(A c a)(t:Zt):(aB (aB w A)<|aq c t).setRow (ak w.heap+1) a=aB (aB w A) (aq a t):=by have h:=mC (aB w A) c a t;simp_all
structure xX(w:Zy)(l:Zl)(wr:Zy):Prop where
 eR:aN (ak w.heap) w wr
 sz:ak w.heap+1<ak wr.heap
 b0:wr.heap[ak w.heap]?=ac (aq yb 368 (0,0))
 b1:wr.heap[ak w.heap+1]?=ac (aq (aV (bv l)) 368 (0,0))
def xX.fI(w l):xX w l<|aB (aB w<|aq yb 368)<|aq (aV (bv l)) 368:=by
 refine⟨((zt _ _).alloc (zd _) _).alloc Ä _,Ä, ?_, ?_⟩;all_goals (show((w.heap.push _).push _)[_]?=_)
 all_goals (simp only[jb,Xi])
 grind;grind
theorem xX.H{w a l}(h:xX w l a)(k v):xX w (l.set k v)<|ai a (zq (ak w.heap+1) k)<|zc v:=by refine⟨h.eR.setCell Â _,Ï, ?_, ?_⟩;rw[jj _ _ _ _ Â];exact h.b0;rw[jx _ _ _ _ _ _ h.b1,Zj];congr 3;exact Ev l k v
def zps(w):aG prog 293 #[] w λen w'=>en=ah (bM (aV (kb Sn 256)))/\aN (ak w.heap) w w':=by
 have B:=(zero_of_info xtd).1;have d:ak yb=ak (bv<|ua 0).toArray:=by rw[SP,jd,uy,Hp]
 have f:(prog.info? 368).map (·.size)=ac (ak (bv<|ua 0).toArray):=by rw[jd,uy,Hp];exact Ss
 have b:(bv<|ua 0).toArray.all (·.oneCell')=aw:=all_oneCell_toArray<|RV _;generalize hzz:yb=zz at*;go_enter func293.1,Tryz.ntmps293;go_wp2_with (first|refine SJ rfl 368 _ rfl (bv<|ua 0).toArray xm7 ?_|(refine Zo rfl 368 _ _ rfl (ak w.heap+1) _ rfl rfl 368 zz (zzt _ _ _ _) f d b ?_;rw[ztt]));subst hzz;clear d f b B;go_loopw [2,3,5] (λp q i wr=>∃k:Nat,k<=255/\i=zi k/\p=zc (Pw k)/\q=zc (Qw k)/\xX w (ua k) wr) (λ_ _ i _=>bB (255-dF i))
 case atStart=>exact⟨0,À,rfl,rfl,rfl,xX.fI w _⟩
 case round=>
  obtain⟨k,hk,rfl,rfl,rfl,inv⟩:=hrel;by_cases a:k<255
  ·have F:(k:Int)<255:=by omega
   have t:aK<|Pw (k+1)=Pw k^^^mt (Pw k):=So k a;have x:aK<|Qw (k+1)=Bc (Qw k):=xrs k a;have o:aK<|xX w (ua<|k+1)<|ai wr (zq (ak w.heap+1)<|bB (e8<|Pw k))<|zc<|He<|Qw k:=by show xX _ _ _;rw[C0];exact inv.H _ _
   have D:aQ wr (zq (ak w.heap+1)<|bB (e8<|Pw k))=ao:=xt _ _ _ _ _ inv.b1;obtain⟨c,C⟩:∃c,ae wr (zq (ak w.heap+1)<|bB (e8<|Pw k))=ac c:=by
    have z:aI (Pw k)<ak (bv<|ua k).toArray:=by rw[jd,uy,Hp];exact(Pw k).toNat_lt
    exact⟨_,by rw[xb _ _ _ _ _ _ inv.b1,C0];exact xy z⟩
   have G:=rV<|Pw k;have H:=sC<|Pw k;clear inv;generalize Pw k=p at*;generalize Qw k=q at*;unfold He at o;go_wp2;refine(xzc q _).mono ?_;rintro en h⟨rfl,rfl⟩;go_wp2;refine(xzd q _).mono ?_;rintro en h⟨rfl,rfl⟩;go_wp2;refine(xze q _).mono ?_;rintro en h⟨rfl,rfl⟩;go_wp2;refine(xzf q _).mono ?_;rintro en h⟨rfl,rfl⟩;go_wp2;refine(LW p _).mono ?_;rintro en h⟨rfl,rfl⟩;go_wp2;refine(xk6 q _).mono ?_;rintro en h⟨rfl,rfl⟩;go_wp2;go_roundw
   case rel=>exact⟨k+1,À,Å,by rw[t.o],by rw[x.o],o.o⟩
   grind [dF]
  obtain rfl:k=255:=À
  have r:=inv.b1;rw[xsc,Hi,show(λi=>Bt.getD i 0)=Sn from rfl,show aa Bt=256 from rfl]at r;have b0:=inv.b0;have e:=inv.eR;have m:(prog.info? 368).map (·.size)=ac (ak (kb Sn 256).toArray):=by rw[xW];exact Ss
  have y:(kb Sn 256).toArray.all (·.oneCell')=aw:=zI _ _;have n:ak yb=ak (kb Sn 256).toArray:=by rw[SP,xW]
  have g:(wr.setRow (ak w.heap) (aV (kb Sn 256))).heap[ak w.heap]?=ac (aq (aV (kb Sn 256)) 368 (0,0)):=Jr _ _ _ _ _ _ b0;have l:aN (ak w.heap) w<|wr.setRow (ak w.heap) (aV (kb Sn 256)):=e.trans ⟨rfl,rfl,rfl,Ä,λj E=>setRow_other _ _ _ _ À⟩;clear inv hk a;generalize hKK:aV (kb Sn 256)=K at*;have s:aK<|aV (kb Sn 256)=K:=hKK;clear hKK;generalize yb=zz at*;go_wp2_with (first|refine J6 rfl 368 _ rfl (ak w.heap+1) rfl 368 _ (0,0) _ r mb rfl m ?_|refine Zo rfl 368 _ _ rfl w.heap.size _ rfl rfl 368 _ b0 m n y ?_);exact ji (v:=bM K) (Jf rfl _ _ (ak w.heap) 368 _ (0,0) _ rfl g mb rfl m) rfl ⟨by rw[s.o],l⟩
end
section
attribute [local go_sem] wy
section
variable {t:Zt} {d:Zt}
def gi(w:Zy)(b:Nat)(f:Zu)(n:Nat)(t:Zt):Prop:=w.heap[b]?=ac (aq (aV (kb f n)) t (0,0))
def gi.i{w b n k f}(h:gi w b f n t)(hk:k<n):ae w (zq b k)=ac (zc<|f k):=by rw[xb _ _ _ _ _ _ h,xyi _ _ _ hk]
def gi.ee{w b n k f}(h:gi w b f n t):aQ w (zq b k)=ao:=xt _ _ _ _ _ h
theorem gi.bR{w b n f g}(h:gi w b f n t)(e:∀i,i<n->f i=g i):gi w b g n t:=by grind [gi,LZ]
theorem gi.H{w b n f}(h:gi w b f n t)(k v):gi (ai w (zq b k)<|zc v) b (λi=>if i=k then v else f i) n t:=by unfold gi at*;rw[jx _ _ _ _ _ _ h,xtf]
def gi.dE{w b a n k f v}(h:gi w b f n t)(c:b≠a):gi (ai w (zq a k) v) b f n t:=by grind [gi,jj]
def gi.Y{w w' B b n f}(h:gi w b f n t)(c:aN B w w')(a:b<B):gi w' b f n t:=(c.block _ a).trans h
structure R3(w:Zy)(f0 f1 f2:Zu)(n2:Nat)(t2:Zt)(wr:Zy):Prop where
 eR:aN (ak w.heap) w wr
 sz:ak w.heap+1+1<ak wr.heap
 b0:gi wr (ak w.heap) f0 16 359
 b1:gi wr (ak w.heap+1) f1 16 359
 b2:gi wr (ak w.heap+1+1) f2 n2 t2
def R3.fI(w a b f2 c)(d:Zt):R3 w a b f2 c d<|aB (aB (aB w<|aq (aV (kb a 16)) 359)<|aq (aV (kb b 16)) 359)<|aq (aV (kb f2 c)) d:=by
 refine⟨(((zt _ _).alloc (zd _) _).alloc Ä _).alloc Æ _,Ä, ?_, ?_, ?_⟩;all_goals (show(((w.heap.push _).push _).push _)[_]?=_)
 all_goals (simp only[jb,Xi])
 grind;grind;grind
def R3.U{w e a b f2 c}(h:R3 w a b f2 c d e):R3 w a b f2 c d e.drew:=⟨h.eR.drew,h.sz,h.b0,h.b1,h.b2⟩
def R3.fg{w e a b f2 c}(h:R3 w a b f2 c d e)(n):R3 w a b f2 c d<|e.drewN n:=⟨below_drewN h.eR _,h.sz,h.b0,h.b1,h.b2⟩
def R3.Ew{w e a b f2 c}(h:R3 w a b f2 c d e)(k v):R3 w (λi=>if i=k then v else a i) b f2 c d<|ai e (zq (ak w.heap) k)<|zc v:=
 ⟨h.eR.setCell (zd _) _,Ï,h.b0.H k v,h.b1.dE À,h.b2.dE À⟩
def R3.vd{w e a b f2 c}(h:R3 w a b f2 c d e)(k v):R3 w a b (λi=>if i=k then v else f2 i) c d<|ai e (zq (ak w.heap+1+1) k)<|zc v:=
 ⟨h.eR.setCell Â _,Ï,h.b0.dE À,h.b1.dE À,h.b2.H k v⟩
def R3.qA{w f a f0' b f2 c}(h:R3 w a b f2 c d f)(e:∀i,i<16->a i=f0' i):R3 w f0' b f2 c d f:=⟨h.eR,h.sz,h.b0.bR e,h.b1,h.b2⟩
def R3.o4{w f b c f2 f2' a}(h:R3 w b c f2 a d f)(e:∀i,i<a->f2 i=f2' i):R3 w b c f2' a d f:=⟨h.eR,h.sz,h.b0,h.b1,h.b2.bR e⟩
def zF(_:Nat):Z8:=0
def LQ:(#[zb 0,zb 0,zb 0,zb 0,zb 0,zb 0,zb 0,zb 0,zb 0,zb 0,zb 0,zb 0,zb 0,zb 0,zb 0,zb 0]:Za)=aV (kb zF 16):=rfl
theorem Hr:(prog.info? 359).map (·.size)=ac 16:=Á
def zL(f):(prog.info? 359).map (·.size)=ac (ak (kb f 16).toArray):=by grind [xW,Hr]
def Be{w a b}(c)(h:aN (ak w.heap) w a)(d:ak w.heap<=b):aN (ak w.heap) w<|a.setRow b c:=h.trans ⟨rfl,rfl,rfl,Ä,λj e=>setRow_other _ _ _ _ À⟩
def Ez(f g):ak (kb f 16).toArray=ak (kb g 16).toArray:=by rw[xW,xW]
def xK(f g:Zu)(k i:Nat):Z8:=if i<k then f i^^^g i else f i
def L9(f g w):aG prog 296 #[bM (aV (kb f 16)),bM (aV (kb g 16))] w λen w'=>en=ah (bM (aV (kb (nf f g) 16)))/\aN (ak w.heap) w w':=by
 go_enter func296.1,Tryz.ntmps296;go_wp2;go_loopw [6] (λi wr=>∃k:Nat,k<=16/\i=zi k/\R3 w (xK f g k) g zF 16 359 wr) (λi _=>bB (16-dF i))
 case atStart=>exact⟨0,À,rfl,R3.fI w f g zF 16 359⟩
 case round=>
  obtain⟨k,hk,rfl,inv⟩:=hrel;have o:=inv.sz;by_cases d:k<16
  ·have q:ae wr (zq (ak w.heap) k)=ac (zc<|f k):=by rw[inv.b0.i d];simp[xK]
   have t:ae wr (zq (ak w.heap+1) k)=ac (zc<|g k):=inv.b1.i d;have x:aQ wr (zq (ak w.heap) k)=ao:=inv.b0.ee;have r:aK<|R3 w (xK f g<|k+1) g zF 16 359<|ai wr.drew (zq (ak w.heap) k)<|zc<|f k^^^g k:=by refine(inv.U.Ew k<|f k^^^g k).qA λi _=>?_;unfold xK;by_cases e:i=k;grind;grind
   clear inv;generalize f k=a at*;generalize g k=b at*;go_wp2;go_still_tail 8,Á;go_wp2;go_roundw
   case rel=>exact⟨k+1,À,Å,r.o⟩
   grind [dF]
  obtain rfl:k=16:=À
  have inv:=inv.qA (f0':=nf f g) (λi l=>by simp[xK,l,nf]);clear hk d o;have j:=inv.b0;have c:=inv.b2;have h:=inv.eR;unfold gi at j c;have l:=zL<|nf f g;have q:=zI (nf f g) 16;have p:=Ez zF<|nf f g;have m:(wr.setRow (ak w.heap+1+1) (aV (kb (nf f g) 16))).heap[(ak w.heap+1+1)]?=ac (aq (aV (kb (nf f g) 16)) 359 (0,0)):=Jr _ _ _ _ _ _ c;have n:=Be (b:=(ak w.heap+1+1)) (aV (kb (nf f g) 16)) h À;clear inv;generalize hKK:aV (kb (nf f g) 16)=K at*;have s:aK<|aV (kb (nf f g) 16)=K:=hKK;clear hKK;go_wp2_with (first|refine J6 rfl 359 _ rfl w.heap.size rfl 359 _ (0,0) _ j dK rfl l ?_|refine Zo rfl 359 _ _ rfl (ak w.heap+1+1) _ rfl rfl 359 _ c l p q ?_);exact ji (v:=bM K) (Jf rfl _ _ (ak w.heap+1+1) 359 _ (0,0) _ rfl m dK rfl l) rfl ⟨by rw[<-s.o],n⟩
def uB(w:Zy)(g:Nat):Prop:=∀i,i<256->ae w (zq g i)=ac (zc<|Sn i)
def uB.Y{w w' B g}(h:uB w g)(b:aN B w w')(a:g<B):uB w' g:=λi c=>(b.cell a).trans<|h i c
def uB.o5{w g}(h:uB w g)(x):ae w (zq g<|bB (e8 x))=ac (zc<|Sx x):=by rw[C0,h _ x.toNat_lt,Sq]
def uB.lt{w g}(h:uB w g):g<ak w.heap:=js<|h 0 Ã
def EB(f:Zu)(k i:Nat):Z8:=if i<k then gz f i else 0
def SM(f g w)(t:uB w g):aG prog 298 #[aR<|some ⟨g,0,ar⟩,bM (aV (kb f 16))] w λen w'=>en=ah (bM (aV (kb (gz f) 16)))/\aN (ak w.heap) w w':=by
 have v:=t;have y:=t.lt;go_enter func298.1,Tryz.ntmps298;go_wp2;go_loopw [8] (λi wr=>∃k:Nat,k<=16/\i=aH aU k/\R3 w f zF (EB f k) 16 359 wr) (λi _=>bB (16-dF i))
 case atStart=>exact⟨0,À,rfl,R3.fI w f zF zF 16 359⟩
 case round=>
  obtain⟨k,hk,rfl,inv⟩:=hrel;have z:=inv.sz;by_cases p:k<16
  ·obtain⟨r,M⟩:∃r,k%4=r:=⟨_,rfl⟩;obtain⟨m,L⟩:∃m,(k+r*4)%16=m:=⟨_,rfl⟩;have D:(k:Int).tmod 4=(r:Nat):=by rw[qo À];omega
   have F:((k:Int)+(r:Int)*4).tmod 16=(m:Nat):=by rw[qo À];omega
   have E:IntKind.i64.wrap ((r:Int)*4)=(r:Int)*4:=É
   have G:IntKind.i64.wrap ((k:Int)+(r:Int)*4)=(k:Int)+(r:Int)*4:=É
   have B:m<16:=À
   have O:(m:Int)<16:=À
   have s:=inv.b0.i B;have H:=(v.Y inv.eR y).o5<|f m;have I:aQ wr ⟨ak w.heap+1+1,k,ar⟩=ao:=inv.b2.ee;have J:=inv.b2.i p;have Q:=rV<|f m;have R:=sC<|f m;have x:R3 w f zF (EB f<|k+1) 16 359<|ai wr.drew ⟨ak w.heap+1+1,k,ar⟩<|aH .u8<|e8<|Sx<|f m:=by refine(inv.U.vd k<|Sx<|f m).o4 λi _=>?_;unfold EB;by_cases e:i=k;grind [gz];grind
   generalize f m=a at*;generalize EB f k k=c at*;go_wp2;go_still_tail 14,Á;go_wp2;go_roundw
   case rel=>exact⟨k+1,À,Å,x⟩
   grind [dF]
  obtain rfl:k=16:=À
  have inv:=inv.o4 (f2':=gz f) (λi l=>by simp[EB,l]);have j:=inv.b2;have d:=inv.b1;have h:=inv.eR;unfold gi at j d;have l:=zL<|gz f;have s:=zI (gz f) 16;have q:=Ez zF<|gz f;have n:(wr.setRow (ak w.heap+1) (aV (kb (gz f) 16))).heap[(ak w.heap+1)]?=ac (aq (aV (kb (gz f) 16)) 359 (0,0)):=Jr _ _ _ _ _ _ d;have o:=Be (b:=(ak w.heap+1)) (aV (kb (gz f) 16)) h À;generalize hKK:aV (kb (gz f) 16)=K at*;have C:=hKK;go_wp2_with (first|refine J6 rfl 359 _ rfl (ak w.heap+1+1) rfl 359 _ (0,0) _ j dK rfl l ?_|refine Zo rfl 359 _ _ rfl (ak w.heap+1) _ rfl rfl 359 _ d l q s ?_);exact ji (Jf rfl _ _ (ak w.heap+1) 359 _ (0,0) _ rfl n dK rfl l) rfl ⟨Â,o⟩
def mK(f:Zu)(k i:Nat):Z8:=if i<k then ny f i else 0
def xtw(f w):aG prog 297 #[bM (aV (kb f 16))] w λen w'=>en=ah (bM (aV (kb (ny f) 16)))/\aN (ak w.heap) w w':=by
 go_enter func297.1,Tryz.ntmps297;go_wp2;go_loopw [4] (λi wr=>∃p:Nat,p<=16/\p%4=0/\i=aH aU p/\R3 w f zF (mK f p) 16 359 wr) (λi _=>bB (16-dF i))
 case atStart=>exact⟨0,À,À,rfl,R3.fI w f zF zF 16 359⟩
 case round=>
  obtain⟨p,V,J,rfl,inv⟩:=hrel;have r:=inv.sz;by_cases I:p<16
  ·have X:p+3<16:=by omega
   have hd:bI ((p:Int)<16)=aw:=jm À;have R:ae wr ⟨ak w.heap,p,ar⟩=ac (aH .u8<|e8<|f p):=inv.b0.i À;have C:ae wr ⟨ak w.heap,p+1,ar⟩=ac (aH .u8<|e8<|f<|p+1):=inv.b0.i À;have D:ae wr ⟨ak w.heap,p+2,ar⟩=ac (aH .u8<|e8<|f<|p+2):=inv.b0.i À;have c3:=inv.b0.i À;have y:∀j,j<4->ny f (p+j)=f p^^^f (p+1)^^^f (p+2)^^^f (p+3)^^^f (p+j)^^^mt (f (p+j)^^^f (p+(j+1)%4)):=λj G=>by grind [ny]
   have g:=inv;go_wp2;go_quiet (fail);go_wp2;obtain⟨a,F⟩:∃a,f p^^^f (p+1)^^^f (p+2)^^^f (p+3)=a:=⟨_,rfl⟩;rw[F]at y⊢;try rw[hd]
   obtain⟨x,L⟩:∃x:Zy,x=wr:=⟨_,rfl⟩;go_loopw [31] (λi wq=>∃j:Nat,j<=4/\i=aH aU j/\R3 w f zF (mK f<|p+j) 16 359 wq) (λi _=>bB (4-dF i))
   case atStart=>exact⟨0,À,rfl,by exact g.fg _⟩
   case round=>
    obtain⟨j,G,rfl,inv⟩:=hrel;have r:=inv.sz;by_cases H:j<4
    ·obtain⟨q,W⟩:∃q,(j+1)%4=q:=⟨_,rfl⟩;have S:((j:Int)+1).tmod 4=(q:Nat):=by rw[qo À];omega
     have v:p+j<16:=À
     have M:p+q<16:=À
     have O:IntKind.i64.wrap ((p:Int)+(q:Int))=(p:Int)+(q:Int):=É
     have C:=inv.b0.i v;have D:=inv.b0.i M;have T:aQ wr ⟨ak w.heap+1+1,p+j,ar⟩=ao:=inv.b2.ee;have U:=inv.b2.i v;have B:∀wq,R3 w f zF (mK f<|p+j) 16 359 wq->R3 w f zF (mK f<|p+(j+1)) 16 359 (ai wq ⟨ak w.heap+1+1,p+j,ar⟩<|aH .u8<|e8<|a^^^f (p+j)^^^mt (f (p+j)^^^f (p+q))):=λwq h=>by refine(h.vd (p+j) _).o4 λi _=>?_;unfold mK;by_cases e:i=p+j;simp_all;rw[if_neg e];by_cases t:i<p+j;rw[if_pos t,if_pos À];rw[if_neg t,if_neg À]
     have g:=inv;generalize f (p+j)=b at*;generalize f (p+q)=c at*;generalize mK f (p+j) (p+j)=z at*;go_wp2;go_quiet (fail);go_wp2;refine(LW (b^^^c) _).mono ?_;rintro en O⟨rfl,rfl⟩;go_wp2;go_roundw
     case rel=>exact⟨j+1,À,Å,B _<|g.fg _⟩
     case measure=>simp[dF];omega
    obtain rfl:j=4:=À
    have g:=inv;go_wp2;go_roundw
    case rel=>exact⟨p+4,À,À,Å,g⟩
    case measure=>simp[dF];omega
  obtain rfl:p=16:=À
  have inv:=inv.o4 (f2':=ny f) (λi m=>by simp[mK,m]);have l:=inv.b2;have d:=inv.b1;have k:=inv.eR;unfold gi at l d;have m:=zL<|ny f;have E:=zI (ny f) 16;have s:=Ez zF<|ny f;have n:(wr.setRow (ak w.heap+1) (aV (kb (ny f) 16))).heap[(ak w.heap+1)]?=ac (aq (aV (kb (ny f) 16)) 359 (0,0)):=Jr _ _ _ _ _ _ d;have o:=Be (b:=(ak w.heap+1)) (aV (kb (ny f) 16)) k À;generalize hKK:aV (kb (ny f) 16)=K at*;have Q:=hKK;go_wp2_with (first|refine J6 rfl 359 _ rfl (ak w.heap+1+1) rfl 359 _ (0,0) _ l dK rfl m ?_|refine Zo rfl 359 _ _ rfl (ak w.heap+1) _ rfl rfl 359 _ d m s E ?_);exact ji (Jf rfl _ _ (ak w.heap+1) 359 _ (0,0) _ rfl n dK rfl m) rfl ⟨Ä,o⟩
end
end
end P
end Go.Proofs.YtjnbhiamaabbgaaGreatDoor
