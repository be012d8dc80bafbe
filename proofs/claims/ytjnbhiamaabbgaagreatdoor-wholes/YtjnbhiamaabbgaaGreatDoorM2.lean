import Derived.Test.YtjnbhiamaabbgaaGreatDoorM1
import Derived.Deep.DeepCutAuto
set_option linter.all false
set_option maxRecDepth 100000
set_option maxHeartbeats 8000000
section
variable{P:Prop}
def Ï(h:P:=by rw[zh];omega):P:=h
def á(h:P:=by rw[b.o];rfl):P:=h
def aj(h:P:=by have:=h.rI x;omega):P:=h
def oD(h:P:=by rw[<-p.o]):P:=h
def zb1(h:P:=by grind [bytesRow,zn,bv,st]):P:=h
def zba(h:P:=by apply DM;simp[st]):P:=h
def zdh(h:P:=by rw[qo À];omega):P:=h
def zdi(h:P:=by rw[xb _ _ _ _ _ _ inv.b1,b _ À]):P:=h
end
namespace Go.Proofs.YtjnbhiamaabbgaaGreatDoor
open Go renaming Calls->aK,Ending->kH,Value->eJ,bits->lr,heap_alloc_new->xn,heap_setCell_other->jj,maxLen->pu,results->eR,run_convert_bytes_back->iy,setCell_eq_setRow->zdm,setRow_heap->Jr
open Go.Addr renaming add_mid->pS
open Go.Ending renaming panicked->iL,returned->ai
open Go.IntKind renaming bits->fT,i64->bB,signed->fi,u32->cJ,wrap->fS,wrap_i64->zh
open Go.Lib renaming byteCells->hZ
open Go.Obj renaming cells->au
open Go.Proofs.Tryz renaming ntmps280->gj,ntmps305->qx
open Go.Result renaming ok->dG
open Go.RowKit renaming Below->aP,Hid->H,intOf->dV
open Go.RowKit.Below renaming heap_alloc->Xj,refl->zt
open Go.Value renaming agg->bY,bool->bG,iface->iW,int->Q,pointer->aU,slice->aB,string->ak,tuple->cE
open Go.World renaming alloc->aF,cell?->N,frozen?->aX,setCell->M,setRow_alloc_new->og,heap->Z'
open _root_ renaming ByteArray->eM,Int->U,List->bA,Nat->aD,if_neg->aL,if_pos->aT,rfl->O,trivial->bD
open _root_.Array renaming replicate->cL,setIfInBounds->aA,size->V,toList->eV
open _root_.BitVec renaming ofInt->dM
open _root_.Bool renaming false->ao,true->ay
open _root_.ByteArray renaming data_extract->zaj
open _root_.Decidable renaming decide->bR
open _root_.Exists renaming intro->ng
open _root_.Int renaming toNat->bL
open _root_.List renaming drop_eq_getElem_cons->Zx,length->T,length_append->zx,length_take->xf,map_congr_left->W6,range->iC,replicate->bS,take_of_length_le->qp,take_succ_eq_append_getElem->zp,toArray->bH
open _root_.Option renaming none->aw,some->ac
open _root_.Or renaming inr->Y
open _root_.UInt8 renaming ofNat->mZ,toNat->aN
namespace P
variable{w w' w1 a b f e:Zy}{B g k c y n b2 b3:aD}{l L:Zl}{s:St}{v z:Zv}{S:ZP}{d t:Zt}{C D:Za}
open A.Tryq Go.RowKit
section
def iv:St:=⟨1779033703,3144134277,1013904242,2773480762,1359893119,2600822924,528734635,1541459225⟩
def bT(l:Zl)(k j:aD):Z8:=l.getD (64*k+j) 0
def uO(m:Zl):aD->St
 |0=>iv|k+1=>Jb (uO m k)<|Wf<|bT m k
def oY(x:Zl):Zl:=sb (uO (uy x)<|Wv (T x)/64) 8
theorem yw(x):T (oY x)=32:=K4 _ 8
def iN(w:Zy):Prop:=∀i,i<64->N w (zq 4 i)=(R<|Kc i)
def iN.Y(h:iN w)(a:4<B)(b:aP B w w'):iN w':=λi c=>(b.cell a).trans<|h i c
def iN.iE(h:iN w):4<V (Z' w):=js<|h 0 Ã
def xev(a:w.heap[g]?=ac (au (bH (bv l)) 5 (0,0)))(k)(hk:64*k+64<=T l):∀j,j<64->N w (zq g<|64*k+j)=(zb<|u<|wu<|bT l k j):=by intro j b;rw[xb _ _ _ _ _ _ a,jds];grind [bv,bT]
def Cx(h:w.heap[g]?=ac (au #[R s.a,R s.b,R s.c,R s.d,R s.e,R s.f,R s.g,R s.h] 323 (0,0))):N w (zq g 0)=R s.a/\aX w (zq g 0)=ao/\N w (zq g 1)=R s.b/\aX w (zq g 1)=ao/\N w (zq g 2)=R s.c/\aX w (zq g 2)=ao/\N w (zq g 3)=R s.d/\aX w (zq g 3)=ao/\N w (zq g 4)=R s.e/\aX w (zq g 4)=ao/\N w (zq g 5)=R s.f/\aX w (zq g 5)=ao/\N w (zq g 6)=R s.g/\aX w (zq g 6)=ao/\N w (zq g 7)=R s.h/\aX w (zq g 7)=ao:=by refine⟨?_,xt _ _ _ _ _ h,?_,xt _ _ _ _ _ h,?_,xt _ _ _ _ _ h,?_,xt _ _ _ _ _ h,?_,xt _ _ _ _ _ h,?_,xt _ _ _ _ _ h,?_,xt _ _ _ _ _ h,?_,xt _ _ _ _ _ h⟩;all_goals (rw[xb _ _ _ _ _ _ h];rfl)
structure CD(w:Zy)(l:Zl)(s:St)(W:Zy):Prop where
 fH:aP (V<|Z' w) w W
 sz:V (Z' w)+1<V (Z' W)
 b0:W.heap[V (Z' w)]?=ac (au #[R s.a,R s.b,R s.c,R s.d,R s.e,R s.f,R s.g,R s.h] 323 (0,0))
 b1:W.heap[V (Z' w)+1]?=ac (au (bH (bv l)) 5 (0,0))
theorem CD.eG{k o}(h:CD w l s w1)(i:aP (V w1.drew.heap) w1.drew k)(j:aP (V<|Z' k) k o)(t):CD w l t<|M (M (M (M (M (M (M (M o (zq (V<|Z' w) 0)<|R t.a) (zq (V<|Z' w) 1)<|R t.b) (zq (V<|Z' w) 2)<|R t.c) (zq (V<|Z' w) 3)<|R t.d) (zq (V<|Z' w) 4)<|R t.e) (zq (V<|Z' w) 5)<|R t.f) (zq (V<|Z' w) 6)<|R t.g) (zq (V<|Z' w) 7)<|R t.h:=by have n:=zm h.sz i.size;have m:=h.fH.drew.trans<|i.mono h.fH.size;refine⟨Fx _ _ _ _ _ _ _ _ _ _ _ _ (zd _)<|m.trans<|j.mono m.size,by rw[O9];exact zm n j.size,?_,?_⟩;exact wy _ _ _ _ _ _ _ _ _ _ _ _ _ _ _ _ _ _ _<|(j.block _ À).trans<|(i.block _<|by have:=h.sz;show V (Z' w)<V (Z' w1);omega).trans h.b0;rw[D8 _ _ _ _ _ _ _ _ _ _ _ À];exact(j.block _ n).trans<|(i.block _<|by exact h.sz).trans h.b1
def xvg(x)(hx:x.size<=60000)(w)(D:iN w):aK prog 234 #[ak x] w λen w'=>en=ai (ak ⟨bH (oY (eV x.data))⟩)/\aP (V<|Z' w) w w':=by
 have v:=D.iE;have hp:=Fz x.size;have o:64*(Wv x.size/64)=Wv x.size:=za1
 obtain⟨c,u⟩:∃c,Wv x.size/64=c:=⟨_,O⟩;rw[u]at o;have G:T (uy (eV x.data))=64*c:=(Pa (eV x.data) 8 À).trans o.symm;have HL:=G;go_enter func234.1,Tryz.ntmps234;go_wp2;refine(xuf x hx _).mono ?_;rintro en w1⟨rfl,B,r⟩;rw[<-o];go_wp2;have y:CD w (uy (eV x.data)) iv w1:=by refine⟨((zt _ _).alloc (zd _) _).trans<|r.mono Â,?_,(r.block _ Â).trans ?_,?_⟩;have:=(za.1 B).1;simp_all;rw[xn];rfl;simp_all
 go_loopw [5] (λi wr=>∃k:aD,k<=c/\i=J (64*(k:U))/\CD w (uy (eV x.data)) (uO (uy (eV x.data)) k) wr) (λi _=>bL (64*(c:U)-dV i));exact⟨0,À,Å,y⟩;obtain⟨k,hk,rfl,inv⟩:=hrel;have bb:=inv.sz;by_cases S:k<c
 ·have i0:(0:U)<=64*(k:U):=by omega
  have i1:64*(k:U)<64*(c:U):=À
  have i2:64*(k:U)+64<=64*(c:U):=À
  have i3:bL (64*(k:U))=64*k:=À
  have iw:IntKind.i64.wrap (64*(k:U)+64)=64*(k:U)+64:=Ï
  have n:V (Z' w)<V (Z' wr):=À
  generalize hm:uy (eV x.data)=l at*;have F:=xev inv.b1 k À;have z:=D.Y v inv.fH.drew;obtain⟨s,p⟩:∃s,uO l k=s:=⟨_,O⟩;rw[p]at inv;have q:=xe p;have h:N wr (zq (V<|Z' w) 0)=R s.a:=by rw[xb _ _ 0 _ _ _ inv.b0];rfl
  have P:aX wr (zq (V<|Z' w) 0)=ao:=xt _ _ _ _ _ inv.b0;have A:N wr (zq (V<|Z' w) 1)=R s.b:=by rw[xb _ _ 1 _ _ _ inv.b0];rfl
  have I:aX wr (zq (V<|Z' w) 1)=ao:=xt _ _ _ _ _ inv.b0;have hd:N wr (zq (V<|Z' w) 2)=R s.c:=by rw[xb _ _ 2 _ _ _ inv.b0];rfl
  have h1:aX wr (zq (V<|Z' w) 2)=ao:=xt _ _ _ _ _ inv.b0;have W:N wr (zq (V<|Z' w) 3)=R s.d:=by rw[xb _ _ 3 _ _ _ inv.b0];rfl
  have h2:aX wr (zq (V<|Z' w) 3)=ao:=xt _ _ _ _ _ inv.b0;have X:N wr (zq (V<|Z' w) 4)=R s.e:=by rw[xb _ _ 4 _ _ _ inv.b0];rfl
  have L:aX wr (zq (V<|Z' w) 4)=ao:=xt _ _ _ _ _ inv.b0;have ho:N wr (zq (V<|Z' w) 5)=R s.f:=by rw[xb _ _ 5 _ _ _ inv.b0];rfl
  have cs:aX wr (zq (V<|Z' w) 5)=ao:=xt _ _ _ _ _ inv.b0;have g':N wr (zq (V<|Z' w) 6)=R s.g:=by rw[xb _ _ 6 _ _ _ inv.b0];rfl
  have v':aX wr (zq (V<|Z' w) 6)=ao:=xt _ _ _ _ _ inv.b0;have ba:N wr (zq (V<|Z' w) 7)=R s.h:=by rw[xb _ _ 7 _ _ _ inv.b0];rfl
  have es:aX wr (zq (V<|Z' w) 7)=ao:=xt _ _ _ _ _ inv.b0;go_wp2;go_region_with (first
   |(go_at_call 264;refine(zxh (bT l k) (V (Z' w)+1) (64*k) _ _ ?_).mono ?_;exact F;rintro en w2⟨rfl,j⟩;have⟨pc0,pf0,pc1,pf1,pc2,pf2,pc3,pf3,pc4,pf4,pc5,pf5,pc6,pf6,pc7,pf7⟩:=Cx<|(j.block _ n).trans inv.b0;have C:=zm n j.size)
   |(go_at_call 263;refine(xet s (Wf<|bT l k) _ ?_).mono ?_;exact z.Y (Nat.lt_trans v n) j;rintro en w3⟨rfl,m⟩;have⟨qc0,qf0,qc1,qf1,qc2,qf2,qc3,qf3,qc4,qf4,qc5,qf5,qc6,qf6,qc7,qf7⟩:=Cx<|(m.block _ C).trans<|(j.block _ n).trans inv.b0))
  all_goals go_wp2
  all_goals go_roundw
  refine⟨k+1,À,Å,?_⟩;show CD w l (Jb (uO l k) _) _;rw[q.o];exact inv.eG j m _
  case measure=>simp[dV];omega
  case rel=>refine⟨k+1,À,Å,?_⟩;show CD w l (Jb (uO l k) _) _;rw[q.o];exact inv.eG j m _
  case measure=>simp[dV];omega
  case rel=>refine⟨k+1,À,Å,?_⟩;show CD w l (Jb (uO l k) _) _;rw[q.o];exact inv.eG j m _
  exact Ð
 obtain rfl:k=c:=À
 obtain⟨s,p⟩:∃s,uO (uy (eV x.data)) k=s:=⟨_,O⟩;rw[p]at inv;have q:H<|oY (eV x.data)=sb s 8:=by show sb (uO (uy (eV x.data))<|Wv x.size/64) 8=_;rw[u,p]
 clear p;have⟨qc0,qf0,qc1,qf1,qc2,qf2,qc3,qf3,qc4,qf4,qc5,qf5,qc6,qf6,qc7,qf7⟩:=Cx inv.b0;have t:=inv.fH;have h3:¬64*(k:U)<64*(k:U):=À
 go_wp2;refine(ztw s _).mono ?_;rintro en w2⟨rfl,j⟩;go_wp2;go_ret;exact⟨by rw[q.o];rfl,t.trans<|j.mono t.size⟩
def Xs{c}(h:aP (V<|Z' a) a b)(k:aP (V<|Z' b) b c):aP (V<|Z' a) a c:=h.trans<|k.mono h.size
def st(l:Zl):eM:=⟨bH l⟩
@[go_sem] abbrev E(x:bA UInt8):eJ:=ak (st x)
theorem zn(l):(st l).size=T l:=O
def jdi(x):st (eV x.data)=x:=O
def zg(a b):st a++st b=st (a++b):=zba
def CF(l)(b:T l<=60000)(w)(a:iN w):aK prog 234 #[ak<|st l] w λx w'=>x=ai (ak<|st<|oY l)/\aP (V<|Z' w) w w':=
 xvg (st l) b w a
attribute [local go_sem] zn zg
def kc(l:Zl)(c:Z8):Zl:=(l++bS (64-T l) 0).map (·^^^c)
def AV(l c)(h:T l<=64):T (kc l c)=64:=by simp[kc];omega
def AR(k x:Zl):Zl:=oY<|kc k 0x5c++oY (kc k 0x36++x)
def hk(k:Zl):Zl:=if 64<T k then oY k else k
def Wu(k x:Zl):Zl:=AR (hk k) x
theorem uP(k x):T (Wu k x)=32:=yw _
def FM(a c:Z8):lr .xor .u8 (aN a:U) (aN c:U)=(aN (a^^^c):U):=by
 show IntKind.u8.wrap ((dM 8 (aN a:U)^^^dM 8 (aN c:U)).toNat:U)=_;have b:dM 8 (aN a:U)=a.toBitVec:=Â
 have d:dM 8 (aN c:U)=c.toBitVec:=Â
 rw[b,d];have e:(a.toBitVec^^^c.toBitVec).toNat=aN (a^^^c):=Â
 rw[e];simp only[fS,fT,fi];generalize(a^^^c).toNat=q at*;exact Ç
def xk(L:Zl)(c:Z8)(k:aD):Zl:=(L.take k).map (·^^^c)++L.drop k
def WG(L c k):T (xk L c k)=T L:=by simp[xk];omega
def WL(L c k)(h:k<T L):(xk L c k)[k]?=ac L[k]:=by grind [xk]
def WH(L c k)(h:k<T L):(xk L c k).set k (L[k]^^^c)=xk L c (k+1):=by unfold xk;rw[Vy _ _ Á,zp h];simp only[jl,xf,DL<|Nat.le_of_lt h,KD,qz,Js,Fr,jq];grind [Zx]
def WF(L c k)(h:T L<=k):xk L c k=L.map (·^^^c):=by grind [xk,qp]
def xnb(n):bv (bS n 0)=bS n (zb 0):=by simp[bv]
def Ll(l)(p:T l<=64)(c n)(C:n=(aN c:Int))(w):aK prog 253 #[ak<|st l,zb n] w λW w'=>W=ai (ak<|st<|kc l c)/\aP (V<|Z' w) w w':=by
 subst C;go_enter func253.1,Tryz.ntmps253;go_wp2_with (apply KZ O _ _ 163 9 O 5 cT K3 (V<|Z' w) 0 _ _ (st l) O O _ 362 (xn _ _) ?c1 ?c2 (V<|Z' w) w ?c3<|zd _)
 case c1=>rw[zn];exact p
 case c2=>simpa[zn]using p
 case c3=>exact(zt _ _).alloc (zd _) _
 intro w1 o v;obtain⟨L,g⟩:∃L,l++bS (64-T l) 0=L:=⟨_,O⟩;have s:T L=64:=by rw[<-g];simp;omega
 have y:w1.heap[V (Z' w)]?=ac (au (bH (bv<|xk L c 0)) 362 (0,0)):=by rw[o];congr 2;rw[<-g];show _=bH (bv<|l++bS (64-T l) 0);rw[O7];have e:([zb 0,zb 0,zb 0,zb 0,zb 0,zb 0,zb 0,zb 0,zb 0,zb 0,zb 0,zb 0,zb 0,zb 0,zb 0,zb 0,zb 0,zb 0,zb 0,zb 0,zb 0,zb 0,zb 0,zb 0,zb 0,zb 0,zb 0,zb 0,zb 0,zb 0,zb 0,zb 0,zb 0,zb 0,zb 0,zb 0,zb 0,zb 0,zb 0,zb 0,zb 0,zb 0,zb 0,zb 0,zb 0,zb 0,zb 0,zb 0,zb 0,zb 0,zb 0,zb 0,zb 0,zb 0,zb 0,zb 0,zb 0,zb 0,zb 0,zb 0,zb 0,zb 0,zb 0,zb 0]:Ze)=bS 64 _:=O;rw[e,List.drop_replicate,show hZ (eV (st l).data)=bv l from O,xnb]
 have r:H (kc l c=L.map (·^^^c)):=by show(l++bS _ 0).map _=_;rw[g]
 go_wp2;go_loopw [10] (λi wr=>∃k:aD,k<=64/\i=J k/\wr.heap[V (Z' w)]?=ac (au (bH (bv<|xk L c k)) 362 (0,0))/\aP (V<|Z' w) w wr) (λi _=>bL (64-dV i));grind;obtain⟨k,hk,rfl,d,t⟩:=hrel;by_cases B:k<64
 ·have f:k<T L:=by omega
  obtain⟨a,q⟩:∃a,L[k]=a:=⟨_,O⟩;have D:N wr (zq (V<|Z' w) k)=zb (aN a):=by rw[xb _ _ _ _ _ _ d];have:=WL L c k f;simp only[bv,Jz,List.getElem?_map,this,q];rfl
  have u:aX wr (zq (V<|Z' w) k)=ao:=xt _ _ _ _ _ d;have m:(M wr (zq (V<|Z' w) k)<|zb<|aN (a^^^c)).heap[V (Z' w)]?=ac (au (bH (bv<|xk L c<|k+1)) 362 (0,0)):=by rw[jx _ _ _ _ _ _ d,Zj,Hp,<-q,WH L c k f]
  have F:=FM a c;generalize a^^^c=b at*;go_wp2;go_roundw;exact⟨k+1,À,Å,m,t.setCell (zd _) _⟩;exact Ð
 obtain rfl:k=64:=À
 rw[WF L c 64 À,<-r.o]at d;have x:(convert 163 9<|aB (ac ⟨V<|Z' w,0,aw⟩) 64 64).run prog wr=dG (ak<|st<|kc l c) wr:=by have h:=iy wr 163 9 5 (zq (V<|Z' w) 0) 64 (kc l c) cT eY dK (λj z=>by rw[pS,j7,xb _ _ _ _ _ _ d];simp[bv,z]);rw[AV l c p]at h;exact h
 go_wp2;go_ret;simp_all
def Pl(k x)(q:T k<=5000)(hx:T x<=5000)(w)(m:iN w):aK prog 211 #[ak<|st k,ak<|st x] w λu w'=>u=ai (ak<|st<|Wu k x)/\aP (V<|Z' w) w w':=by
 have g:=m;have b:=m.iE;by_cases n:64<T k
 ·have p:(64:U)<(T k:aD):=by omega
  have o:=yw k;have h:H<|Wu k x=AR (oY k) x:=by show AR (hk k) x=_;unfold hk;rw[aT n]
  go_enter func211.1,Tryz.ntmps211;go_wp2;apply(CF k À _ g).mono;rintro u w1⟨rfl,c⟩;go_wp2;apply(Ll _ À 0x36 54 O _).mono;rintro u r⟨rfl,a⟩;have i:=AV (oY k) 0x36 À
  go_wp2;apply(CF _ Á _<|(g.Y b c).Y (zm b c.size) a).mono;rintro u s⟨rfl,d⟩;go_wp2;apply(Ll _ À 0x5c 92 O _).mono;rintro u t⟨rfl,e⟩;have j:=AV (oY k) 0x5c À;have l:=yw<|kc (oY k) 0x36++x;go_wp2;apply(CF _ Á _<|(((g.Y b c).Y (zm b c.size) a).Y (zm b<|xa c.size a.size) d).Y (zm b<|xa c.size<|xa a.size d.size) e).mono;rintro u v⟨rfl,f⟩;go_wp2;go_ret;exact⟨by rw[h.o];rfl,Xs c<|Xs a<|Xs d<|Xs e f⟩
 have p:¬(64:U)<(T k:aD):=À
 have h:H<|Wu k x=AR k x:=by show AR (hk k) x=_;unfold hk;rw[aL n]
 go_enter func211.1,Tryz.ntmps211;go_wp2;apply(Ll k À 0x36 54 O _).mono;rintro u r⟨rfl,a⟩;have i:=AV k 0x36 À
 go_wp2;apply(CF _ Á _<|g.Y b a).mono;rintro u s⟨rfl,d⟩;go_wp2;apply(Ll k À 0x5c 92 O _).mono;rintro u t⟨rfl,e⟩;have j:=AV k 0x5c À;have l:=yw<|kc k 0x36++x;go_wp2;apply(CF (kc k 0x5c++oY (kc k 0x36++x)) Á _<|((g.Y b a).Y (zm b a.size) d).Y (zm b<|xa a.size d.size) e).mono;rintro u v⟨rfl,f⟩;go_wp2;go_ret;exact⟨by rw[h.o];rfl,Xs a<|Xs d<|Xs e f⟩
def xwz(k x)(b:T k<=4096)(hx:T x<=4096)(w)(a:iN w):aK prog 207 #[ak<|st k,ak<|st x] w λq w'=>q=ai (cE #[ak<|st<|Wu k x,J 0])/\aP (V<|Z' w) w w':=by go_enter func207.1,Tryz.ntmps207;go_wp2;apply(Pl k x À À _ a).mono;rintro q w1⟨rfl,c⟩;go_wp2;go_ret2;simp_all
end
section
attribute [local go_sem] zn zg
theorem xpg(v)(w:Zy):(convert 163 9<|aB (ac ⟨V<|Z' w,0,aw⟩) 1 1).run prog (aF w<|au #[zb (aN v)] 5)=dG (ak<|st [v]) (aF w<|au #[zb (aN v)] 5):=by have h:=iy (aF w<|au #[zb (aN v)] 5) 163 9 5 (zq (V<|Z' w) 0) 1 [v] cT eY dK (λj a=>by rw[pS,j7,xb _ _ _ _ _ _<|xn _ _];grind);exact h
end
section
def VV(l n):(st l).extract 0 n=st (l.take n):=zba
attribute [local go_sem] zn zg VV
def bk(x I:Zl):aD->Zl
 |0=>[]|k+1=>Wu x<|bk x I k++(I++[bq<|k+1])
def sG(x I:Zl):aD->Zl
 |0=>[]|k+1=>sG x I k++bk x I (k+1)
def WD(x a):∀k,T (bk x a k)<=32
 |0=>by simp[bk]|k+1=>by grind [bk,uP]
theorem Lp(x a):∀k,T (sG x a k)=32*k
 |0=>rfl|k+1=>by rw[sG,zx,Lp x a k,bk,uP];omega
def yu(x I:Zl)(n:aD):Zl:=(sG x I 8).take n
def VU(x a n k)(b:n<=32*k):∀j,(sG x a<|k+j).take n=(sG x a k).take n
 |0=>rfl|j+1=>by rw[<-GU,sG,Y4<|by rw[Lp];omega];exact VU x a n k b j
def WE(x a n k)(hk:k<=8)(b:n<=32*k):(sG x a k).take n=yu x a n:=by have:=VU x a n k b<|8-k;rw[show k+(8-k)=8 by omega]at this;exact this.symm
def Ln(x a n)(h:n<=255):T (yu x a n)=n:=by grind [yu,Lp]
def Hx(n v)(a:n=(aN v:Int))(w:Zy):(convert 163 9<|aB (ac ⟨V<|Z' w,0,aw⟩) 1 1).run prog (aF w<|au #[zb n] 5)=dG (ak<|st [v]) (aF w<|au #[zb n] 5):=by grind [xpg]
def Wo{e b X}(h:w.ownsRow y e b v n X):∃a cap,v=aB a n cap/\n<=cap:=by obtain⟨d,f⟩|⟨g,cap,c,j,_,_,i,_⟩:=h.2;grind;grind
def Pi{e a X}(h:w.ownsRow y e a v n X)(i:aP (V<|Z' w) w f):f.ownsRow y e a v n X:=by refine⟨h.1,?_⟩;obtain l|⟨g,b,c,k,j,d,r⟩:=h.2;grind;exact Y ⟨g,b,c,k,j,(i.block g (za.1 d).1).trans d,r⟩
def Cv{e a X}(h:w.ownsRow y e a v n X):∀q,v.ownBlock=ac q->y<=q:=by intro q b;obtain⟨f,_⟩|⟨g,c,d,j,i,_⟩:=h.2;rw[f]at b;cases b;rw[j]at b;cases b;exact i
def xkf{a cap m}(h:w.ownsRow y 5 1 (aB a n cap) n<|bv l)(q:m<=n):(convert 163 9<|aB a m cap).run prog w=dG (E<|l.take m) w:=by
 have p:T l=n:=by have:=h.1;simpa[xL]using this
 cases a with
 |none=>
  obtain⟨d,k⟩|⟨g,b,c,i,_⟩:=h.2;obtain rfl:m=0:=À
  rw[run_convert_bytes_string w 163 9 5 aw 0 cap cT eY dK];rfl;grind
 |some A=>
  obtain⟨d,k⟩|⟨g,b,c,i,_⟩:=h.2;cases d;have e:A=(zq g 0):=by cases i;rfl
  subst e;have r:=(VR h).2;have f:=iy w 163 9 5 (zq g 0) cap (l.take m) cT eY dK (λj o=>Á);rw[xf,DL À]at f;exact f
def xc6(A c)(x:T A<=64)(o:T c<=4063)(n:aD)(W:n<=255)(w)(s:iN w):aK prog 210 #[ak<|st A,ak<|st c,Q bB n] w λen w'=>en=ai (ak<|st<|yu A c n)/\aP (V<|Z' w) w w':=by
 have⟨i5,hi,hz0,hz1,hz2⟩:=OY;go_enter func210.1,Tryz.ntmps210;go_wp2;go_loopw [7,8,9] (λv b q wr=>∃k:aD,k<=8/\q=Q .u8 ((k:U)+1)/\b=ak (st<|bk A c k)/\wr.ownsRow (V<|Z' w) 5 1 v (32*k) (bv<|sG A c k)/\aP (V<|Z' w) w wr) (λ_ _ q _=>bL (9-dV q));exact⟨0,À,O,O,jk _ _ _ _,zt _ _⟩;obtain⟨k,hk,rfl,rfl,d,f⟩:=hrel;obtain⟨a,l,rfl,t⟩:=Wo d;by_cases F:32*k<n
 ·have G:(32*(k:U))<(n:aD):=by omega
  have D:=WD A c k;have y:=Hx ((k:U)+1) (bq<|k+1) (by simp[bq];omega);have r:H<|bk A c (k+1)=Wu A (bk A c k++(c++[bq<|k+1])):=O;generalize bk A c k=B at*;go_wp2;apply(Pl A _ À Á _ ?tab).mono
  case tab=>exact s.Y s.iE<|f.alloc f.size _
  rintro en X⟨rfl,g⟩;have e:=(f.alloc f.size<|au #[Q .u8<|(k:U)+1] 5).trans (g.mono<|xa f.size Â);have i:=Pi (d.alloc _) g;rw[<-r.o];have m:T (bk A c<|k+1)=32:=by rw[r.o];exact uP A<|B++(c++[bq<|k+1])
  go_wp2_with (apply Lib.wpList_append_own_string _ O _ _ 163 9 O w.heap.size 5 i5 cT dK hi hz0 hz1 hz2 _ (32*k) (bv<|sG A c k) O i (st<|bk A c<|k+1) O ?c1 ?c2 ?c3)
  case c1=>grind [zn,pu]
  case c2=>rw[zn,m];omega
  case c3=>exact e.size
  intro u I j h _;have p:I.ownsRow (V<|Z' w) 5 1 u (32*(k+1))<|bv<|sG A c<|k+1:=by
   have z:32*k+32=32*(k+1):=À
   have C:bv (sG A c k)++Lib.strCells (st<|bk A c<|k+1)=bv (sG A c<|k+1):=by rw[sG,O7];rfl
   rw[z,C]at j;exact j
  go_wp2;go_roundw;exact⟨k+1,À,Å,O,p,e.grown h e.size<|Cv i⟩;exact Ð
 have G:¬(32*(k:U))<(n:aD):=À
 have P:(convert 163 9<|aB a n l).run prog wr=dG (ak<|st<|yu A c n) wr:=by rw[xkf d À,WE A c n k hk À]
 go_wp2;go_ret;simp_all
def xh2(a b c)(j:T a<=4096)(k:T b<=4096)(h:T c<=4063)(n:aD)(i:n<=255)(w)(g:iN w):
  aK prog 161 #[ak<|st a,ak<|st b,ak<|st c,Q bB n] w λx w'=>x=ai (cE #[ak<|st<|yu (Wu b a) c n,Q bB 0])/\aP (V<|Z' w) w w':=by
 have f:=g;go_enter func161.1,Tryz.ntmps161;go_wp2;apply(Pl b a À À _ f).mono;rintro x w1⟨rfl,d⟩;have l:=uP b a;go_wp2;apply(xc6 _ c À h n i _<|f.Y g.iE d).mono;rintro x m⟨rfl,e⟩;go_wp2;go_ret2;exact⟨O,Xs d e⟩
end
section
attribute [local go_sem] Cs FD ux FC FE zn zg
attribute [local go_sem] U7 VL U3 U' UZ VF U6 VN U4 U9 VK VG U5 VO U1 VD U2 VB U0 VE
def xzs(x w):aK prog 280 #[R x,J 2] w λe w'=>e=ai (R<|rr x 2)/\∃m,w'=w.drewN m:=by go_enter func280.1,gj;go_wp2;go_quiet (fail);go_wp2;go_ret;exact⟨O,nq,O⟩
def xuu(x w):aK prog 280 #[R x,J 13] w λe w'=>e=ai (R<|rr x 13)/\∃m,w'=w.drewN m:=by go_enter func280.1,gj;go_wp2;go_quiet (fail);go_wp2;go_ret;exact⟨O,nq,O⟩
def xuy(x w):aK prog 280 #[R x,J 22] w λe w'=>e=ai (R<|rr x 22)/\∃m,w'=w.drewN m:=by go_enter func280.1,gj;go_wp2;go_quiet (fail);go_wp2;go_ret;exact⟨O,nq,O⟩
def xzt(x w):aK prog 280 #[R x,J 6] w λe w'=>e=ai (R<|rr x 6)/\∃m,w'=w.drewN m:=by go_enter func280.1,gj;go_wp2;go_quiet (fail);go_wp2;go_ret;exact⟨O,nq,O⟩
def xut(x w):aK prog 280 #[R x,J 11] w λe w'=>e=ai (R<|rr x 11)/\∃m,w'=w.drewN m:=by go_enter func280.1,gj;go_wp2;go_quiet (fail);go_wp2;go_ret;exact⟨O,nq,O⟩
def xuz(x w):aK prog 280 #[R x,J 25] w λe w'=>e=ai (R<|rr x 25)/\∃m,w'=w.drewN m:=by go_enter func280.1,gj;go_wp2;go_quiet (fail);go_wp2;go_ret;exact⟨O,nq,O⟩
def xzu(x w):aK prog 280 #[R x,J 7] w λe w'=>e=ai (R<|rr x 7)/\∃m,w'=w.drewN m:=by go_enter func280.1,gj;go_wp2;go_quiet (fail);go_wp2;go_ret;exact⟨O,nq,O⟩
def xuw(x w):aK prog 280 #[R x,J 18] w λe w'=>e=ai (R<|rr x 18)/\∃m,w'=w.drewN m:=by go_enter func280.1,gj;go_wp2;go_quiet (fail);go_wp2;go_ret;exact⟨O,nq,O⟩
def xuv(x w):aK prog 280 #[R x,J 17] w λe w'=>e=ai (R<|rr x 17)/\∃m,w'=w.drewN m:=by go_enter func280.1,gj;go_wp2;go_quiet (fail);go_wp2;go_ret;exact⟨O,nq,O⟩
def xux(x w):aK prog 280 #[R x,J 19] w λe w'=>e=ai (R<|rr x 19)/\∃m,w'=w.drewN m:=by go_enter func280.1,gj;go_wp2;go_quiet (fail);go_wp2;go_ret;exact⟨O,nq,O⟩
def qi(l:Zl):aD:=l.foldl (λn b=>n*256+aN b) 0
def WQ(l b):qi (l++[b])=qi l*256+aN b:=by simp[qi]
def WS:∀(l:Zl) (n:aD),l.foldl (λn b=>n*256+aN b) n<(n+1)*256^T l
 |[],n=>by simp|b::r,n=>by have a:=b.toNat_lt;rw[GQ,xg,Cb];apply zm<|WS r<|n*256+aN b;rw[Nat.mul_comm (256^T r) 256,<-Nat.mul_assoc];exact Y5 _ À
theorem AS(l):qi l<256^T l:=by have:=WS l 0;simpa[qi]using this
def V'(q:aD)(b:Z8)(e:q<281474976710656):lr .or bB ((q:U)*256) (aN b:U)=((q*256+aN b:aD):U):=by
 have d:=b.toNat_lt;show IntKind.i64.wrap ((dM 64 ((q:U)*256)|||BitVec.ofInt 64 (aN b:U)).toNat:U)=_;have a:(dM 64<|(q:U)*256).toNat=2^8*q:=by rw[show((q:U)*256)=((2^8*q:aD):U) by omega,BitVec.ofInt_natCast,GL,Jd À]
 have c:(dM 64 (aN b:U)).toNat=aN b:=by rw[BitVec.ofInt_natCast,GL,Jd À]
 rw[BitVec.toNat_or,a,c,<-Vf À];grind [zh]
def Hy(l)(n:T l<=6)(w):aK prog 244 #[E l] w λe w'=>e=ai (J (qi l:aD))/\w'=w:=by
 go_enter func244.1,Tryz.ntmps244;go_wp2;go_loopw [3,4] (λv i wr=>∃k:aD,k<=T l/\i=J k/\v=J (qi (l.take k):aD)/\wr=w) (λ_ i _=>bL (T l-dV i));exact⟨0,À,O,O,O⟩;obtain⟨k,hk,rfl,rfl,rfl⟩:=hrel;by_cases a:k<T l
 ·obtain⟨b,c⟩:∃b,(st l)[k]'(by rw[zn];exact a)=b:=⟨_,O⟩;have f:=WQ (l.take k) b;have j:l.take (k+1)=l.take k++[b]:=by rw[zp a,show l[k]=b from c]
  rw[<-j]at f;have d:=AS<|l.take k;have m:256^T (l.take k)<=256^5:=J7 Ã Á;generalize x:qi (l.take k)=q at*;have h:=V' q b À;have g:=b.toNat_lt;have o:(k:U)<(T l:aD):=À
  go_wp2;go_roundw;exact⟨k+1,À,Å,by rw[(xe f).o];go_num,bD⟩;exact Ð
 obtain rfl:k=T l:=À
 rw[jz];go_wp2;go_ret;simp
theorem Pj(n:aD)(g:n<=64)(w):aK prog 126 #[J n] w λe w'=>e=ai (E<|List.replicate n 0)/\aP (V<|Z' w) w w':=by
 have b:=Hx 0 0 O;go_enter func126.1,Tryz.ntmps126;go_wp2;go_loopw [3,4] (λv i wr=>∃k:aD,k<=n/\i=J k/\v=E (bS k 0)/\aP (V<|Z' w) w wr) (λ_ i _=>bL (n-dV i));exact⟨0,À,O,O,zt _ _⟩;obtain⟨k,hk,rfl,rfl,a⟩:=hrel;by_cases d:k<n
 ·have f:T (bS k (0:Z8))=k:=by simp
  have c:H<|List.replicate (k+1) (0:Z8)=bS k 0++[0]:=Ku;generalize bS k (0:Z8)=X at*;have h:(k:U)<(n:aD):=À
  go_wp2;go_roundw;exact⟨k+1,À,Å,by rw[c.o],a.alloc a.size _⟩;exact Ð
 obtain rfl:k=n:=À
 go_wp2;go_ret;simp_all
theorem FI(n k:aD)(hk:k<=8)(w):aK prog 140 #[J n,J k] w λe w'=>e=ai (E<|nb n k)/\aP (V<|Z' w) w w':=by
 go_enter func140.1,Tryz.ntmps140;go_wp2;go_loopw [0,5,6] (λq v i wr=>∃j:aD,j<=k/\i=J j/\v=E (nb n j)/\q=J (n/256^j:aD)/\aP (V<|Z' w) w wr) (λ_ _ i _=>bL (k-dV i));exact⟨0,À,O,O,Â,zt _ _⟩;obtain⟨j,h,rfl,rfl,rfl,a⟩:=hrel;by_cases g:j<k
 ·have l:=Z2 n j;have c:H (nb n (j+1)=bq (n/256^j)::nb n j):=O;have d:H<|n/256^j/256=n/256^(j+1):=by show _=_;rw[Om,Cb]
  generalize n/256^j=q at*;generalize nb n j=X at*;have f:IntKind.u8.wrap (q:U)=(aN (bq q):U):=zb9
  have b:=Hx (aN (bq q):U) (bq q) O;have m:(j:U)<(k:aD):=À
  go_wp2;go_roundw;exact⟨j+1,À,Å,by rw[c.o],by rw[<-d.o];go_num,a.alloc a.size _⟩;exact Ð
 obtain rfl:j=k:=À
 go_wp2;go_ret;simp_all
def wD(b a)(n k:aD)(c:b=(n:U))(d:a=(k:U))(hk:k<=8)(w):aK prog 140 #[J b,J a] w λe w'=>e=ai (E<|nb n k)/\aP (V<|Z' w) w w':=by grind [FI]
end
section
attribute [local go_sem] zn zg
structure zj(S:ZP)(w w':Zy):Prop where
 os:w'.os=w.os
 cX:w'.output=w.output
 Q:V (Z' w)<=V (Z' w')
 dP:∀k,k<V (Z' w)->¬S k->w'.heap[k]?=w.heap[k]?
theorem zj.refl(S w):zj S w w:=⟨O,O,zd _,λ_ _ _=>O⟩
theorem zj.aE{c}(h:zj S a b)(k:zj S b c):zj S a c:=⟨k.os.trans h.os,k.cX.trans h.cX,xa h.Q k.Q,λi d e=>(k.dP i (zm d h.Q) e).trans<|h.dP i d e⟩
def zj.U{c}(h:zj S a b)(k:∀x,S x->c x):zj c a b:=⟨h.os,h.cX,h.Q,λi d e=>h.dP i d λx=>e<|k i x⟩
def zj.J(h:aP (V<|Z' w) w w'):zj S w w':=⟨h.os,h.output,h.size,λk hk _=>h.block k hk⟩
def zj.i(h:zj S w w'){p}(b:¬S p.block)(a:N w p=ac v):N w' p=ac v:=
 (Z6<|h.dP p.block (js a) b).trans a
theorem zj.re{t d}(h:zj S w<|A.re w' t d):zj S w w':=⟨h.os,h.cX,h.Q,h.dP⟩
def vD(l n):(st l).extract 0 n=st (l.take n):=zba
def Pq(l n):(st l).extract n (T l)=st (l.drop n):=by apply DM;grind [st,zaj]
theorem Pg(w):aK prog 164 #[bG ay] w λe w'=>e=ai (cE #[])/\w'=w:=by go_enter func164.1,Tryz.ntmps164;go_wp2;go_end0;grind
def ip(z:Zv)(w:Zy):Prop:=∃t x,z=iW t x/\N w (zq 1 0)=ac z
abbrev kn(z:Zv):kH:=iL [{v:=z,recovered:=ao}]
theorem WM(w)(a:ip z w):aK prog 164 #[bG ao] w λe w'=>e=kn z/\w'=w:=by obtain⟨t,x,rfl,a⟩:=a;go_enter func164.1,Tryz.ntmps164;go_wp2;exact⟨O,O,O⟩
theorem Hz(n:aD)(w):aK prog 153 #[J n] w λe w'=>e=ai (E<|nb n 1)/\aP (V<|Z' w) w w':=by
 have c:IntKind.u8.wrap (n:U)=(aN (bq n):U):=zb9
 have a:=Hx (aN (bq n):U) (bq n) O;have b:H<|nb n 1=[bq n]:=by show _=_;simp[nb]
 go_enter func153.1,Tryz.ntmps153;go_wp2;go_ret;exact⟨á,(zt _ _).alloc (zd _) _⟩
def Lf(m)(n:aD)(h:m=(n:U))(w):aK prog 153 #[J m] w λe w'=>e=ai (E<|nb n 1)/\aP (V<|Z' w) w w':=by grind [Hz]
def xyw(n):nb n 2=nb (n/256) 1++nb n 1:=by simp[nb]
def xtz(n):nb n 4=nb (n/65536) 2++nb n 2:=by grind [nb]
theorem Lx(n:aD)(w):aK prog 154 #[J n] w λe w'=>e=ai (E<|nb n 2)/\aP (V<|Z' w) w w':=by go_enter func154.1,Tryz.ntmps154;go_wp2;apply(Lf _ (n/256) À _).mono;rintro e w1⟨rfl,a⟩;go_wp2;apply(Lf _ n O _).mono;rintro e c⟨rfl,b⟩;go_wp2;go_ret;exact⟨by rw[(xyw n)];rfl,Xs a b⟩
def VT(m)(n:aD)(h:m=(n:U))(w):aK prog 154 #[J m] w λe w'=>e=ai (E<|nb n 2)/\aP (V<|Z' w) w w':=by grind [Lx]
theorem WI(n:aD)(w):aK prog 155 #[J n] w λe w'=>e=ai (E<|nb n 4)/\aP (V<|Z' w) w w':=by go_enter func155.1,Tryz.ntmps155;go_wp2;apply(VT _ (n/65536) À _).mono;rintro e w1⟨rfl,a⟩;go_wp2;apply(VT _ n O _).mono;rintro e c⟨rfl,b⟩;go_wp2;go_ret;exact⟨by rw[(xtz n)];rfl,Xs a b⟩
def Pf(m)(n:aD)(h:m=(n:U))(w):aK prog 155 #[J m] w λe w'=>e=ai (E<|nb n 4)/\aP (V<|Z' w) w w':=by grind [WI]
def Yt(h)(a:h=ay)(w):aK prog 164 #[bG h] w λe w'=>e=ai (cE #[])/\w'=w:=by grind [Pg]
def Jw(h)(b:h=ao)(w)(a:ip z w):aK prog 164 #[bG h] w λe w'=>e=kn z/\w'=w:=by grind [WM]
theorem xvj(b l)(n:aD)(d:n<=T l)(w)(a:N w ⟨b,0,aw⟩=(ak<|st l))(c:aX w ⟨b,0,aw⟩=ao):aK prog 165 #[aU<|some ⟨b,0,aw⟩,Q bB n] w λe w'=>e=ai (ak<|st<|l.take n)/\w'=M w ⟨b,0,aw⟩ (ak<|st<|l.drop n):=by go_enter func165.1,Tryz.ntmps165;go_wp2;apply(Yt _ Â _).mono;rintro e w1⟨rfl,rfl⟩;go_wp2;go_ret;exact⟨by rw[<-vD];rfl,by rw[<-Pq]⟩
theorem xqn(b l)(n:aD)(f:T l<n)(w)(d:N w (zq b 0)=E l)(a:ip z w):aK prog 165 #[K b,J n] w λe w'=>e=kn z/\w'=w:=by
 have c:¬(n:U)<=(T l:aD):=À
 go_enter func165.1,Tryz.ntmps165;go_wp2;apply(Jw _ Â _ a).mono;rintro e w1⟨rfl,rfl⟩;exact⟨O,O,O⟩
def WK(b l m)(n:aD)(d:m=(n:U))(f:n<=T l)(w)(a:N w (zq b 0)=E l)(c:aX w (zq b 0)=ao):aK prog 165 #[K b,J m] w λe w'=>e=ai (E<|l.take n)/\w'=M w (zq b 0) (E<|l.drop n):=by grind [xvj]
def WJ(b l m)(n:aD)(d:m=(n:U))(f:T l<n)(w)(c:N w (zq b 0)=E l)(a:ip z w):aK prog 165 #[K b,J m] w λe w'=>e=kn z/\w'=w:=by grind [xqn]
end
section
attribute [local go_sem] Cs FD ux FC FE zn zg VM U8
def bm(l:Zl)(j:aD):Z8:=l.getD j 0
def xvt(m k):IntKind.u32.wrap ((qi [m<|4*k,m<|4*k+1,m<|4*k+2,m<|4*k+3]:aD):U)=u (D7 m k):=by
 have e:qi [m<|4*k,m<|4*k+1,m<|4*k+2,m<|4*k+3]=((aN (m<|4*k)*256+aN (m<|4*k+1))*256+aN (m<|4*k+2))*256+aN (m<|4*k+3):=by simp[qi]
 rw[e];unfold D7 wu;have i:=(m<|4*k).toNat_lt;have j:=(m<|4*k+1).toNat_lt;have l:=(m<|4*k+2).toNat_lt;have n:=(m<|4*k+3).toNat_lt;generalize(m _).toNat=a at*;generalize(m _).toNat=b at*;generalize(m _).toNat=c at*;generalize(m _).toNat=d at*;rw[Fy _ À À,jdu];simp only[BitVec.toNat_or,BitVec.toNat_shiftLeft,GL,Nat.shiftLeft_eq];have f:a%2^32*2^24%2^32=2^24*a:=by rw[Jd (show a<2^32 by omega),Jd À,Nat.mul_comm]
 have g:b%2^32*2^16%2^32=2^16*b:=by rw[Jd (show b<2^32 by omega),Jd À,Nat.mul_comm]
 have h:c%2^32*2^8%2^32=2^8*c:=by rw[Jd (show c<2^32 by omega),Jd À,Nat.mul_comm]
 rw[f,g,h,Jd À,<-Vf À a];rw[show 2^24*a+2^16*b=2^16*(a*256+b) by omega,<-Vf À _];rw[show 2^16*(a*256+b)+2^8*c=2^8*((a*256+b)*256+c) by omega,<-Vf À _];omega
def je0(l k)(h:4*k+4<=T l):(st l).extract (4*k) (4*k+4)=st [bm l<|4*k,bm l<|4*k+1,bm l<|4*k+2,bm l<|4*k+3]:=by apply DM;apply Array.toList_inj.1;simp only[st,zaj,List.extract_toArray,List.toList_toArray];rw[List.extract_eq_take_drop,show 4*k+4-4*k=4 by omega];apply Ye;grind [bm]
def xw2(m i)(h:16<=i):Wf m i=Fw (Wf m<|i-2)+Wf m (i-7)+Fv (Wf m<|i-15)+Wf m (i-16):=by grind [OW]
def J8.fV(h:J8 w C a)(n):J8 w C<|a.drewN n:=⟨below_drewN h.fH n,h.sz,h.b0,h.b1⟩
theorem J8.put(h:J8 w C a)(k v):J8 w (aA C k v)<|M a (zq (V (Z' w)+1) k) v:=by refine⟨(h.fH).setCell Á _,Ö,?_,jx _ _ _ _ _ _ h.b1⟩;rw[jj _ _ _ _ Á];exact h.b0
def xlc(l)(hl:T l=64)(w):
  aK prog 279 #[ak<|st l] w λen w'=>en=ai (bY (bH (wv<|Wf<|bm l)))/\aP (V<|Z' w) w w':=by
 go_enter func279.1,Tryz.ntmps279;go_wp2;go_loopw [4] (λi wr=>∃(k:aD) (C:Za),k<=16/\i=Q bB k/\J8 w C wr/\V C=64/\∀i,i<k->C[i]?=(Q cJ<|u<|Wf (bm l) i)) (λi _=>bL (16-dV i));exact⟨0,yr,À,O,J8.gC w,O,λi F=>À⟩;obtain⟨k,C,hk,rfl,inv,e,b⟩:=hrel;by_cases g:k<16
 ·have hd:(k:U)<64:=by omega
  have i5:(0:U)<=4*(k:U):=À
  have i6:4*(k:U)+4<=64:=À
  obtain⟨c,D⟩:∃c,N wr ⟨V (Z' w)+1,k,aw⟩=ac c:=⟨C[k]' À,xT⟩;have P:aX wr ⟨V (Z' w)+1,k,aw⟩=ao:=xt _ _ _ _ _ inv.b1;have m:∀i,i<k+1->(aA C k<|Q cJ<|u<|Wf (bm l) k)[i]?=(Q cJ<|u<|Wf (bm l) i):=K2 e À b;have F:=inv.put k<|Q cJ<|u<|Wf (bm l) k;rw[OX (bm l) k g]at F m;have I:=xvt (bm l) k;go_wp2;rw[je0 l k À];refine(Hy [bm l<|4*k,bm l<|4*k+1,bm l<|4*k+2,bm l<|4*k+3] Â _).mono ?_;rintro en w2⟨rfl,rfl⟩;generalize qi [bm l<|4*k,bm l<|4*k+1,bm l<|4*k+2,bm l<|4*k+3]=q at*;generalize D7 (bm l) k=W at*;go_wp2;go_roundw;exact⟨k+1,_,À,Å,F,Á,m⟩;exact Ð
 obtain rfl:k=16:=À
 go_wp2;go_loopw [5] (λi w2=>∃(k:aD) (C:Za),16<=k/\k<=64/\i=Q bB k/\J8 w C w2/\V C=64/\∀i,i<k->C[i]?=(Q cJ<|u<|Wf (bm l) i)) (λi _=>bL (64-dV i));exact⟨16,C,À,À,O,inv,e,b⟩;obtain⟨k,C,p,hk,rfl,inv,e,b⟩:=hrel;have inv.sz:=inv.sz;by_cases g:k<64
 ·have hd:(k:U)<64:=by omega
  have g':IntKind.i64.wrap ((k:U)-16)=(k:U)-16:=Í
  have v':(16:U)<=(k:U):=À
  have ba:(k:U)<80:=À
  have es:(k:U)-16<64:=À
  have n:N wr ⟨V (Z' w)+1,bL ((k:U)-16),aw⟩=(Q cJ<|u<|Wf (bm l)<|k-16):=by rw[show((k:U)-16).toNat=k-16 by omega,xb _ _ _ _ _ _ inv.b1,b _ À]
  have o:N wr ⟨V (Z' w)+1,k-16,aw⟩=(Q cJ<|u<|Wf (bm l)<|k-16):=zdi
  have L:IntKind.i64.wrap ((k:U)-15)=(k:U)-15:=Í
  have h3:(15:U)<=(k:U):=À
  have ih:(k:U)<79:=À
  have X:(k:U)-15<64:=À
  have x:N wr ⟨V (Z' w)+1,bL ((k:U)-15),aw⟩=(Q cJ<|u<|Wf (bm l)<|k-15):=by rw[show((k:U)-15).toNat=k-15 by omega,xb _ _ _ _ _ _ inv.b1,b _ À]
  have y:N wr ⟨V (Z' w)+1,k-15,aw⟩=(Q cJ<|u<|Wf (bm l)<|k-15):=zdi
  have e7:IntKind.i64.wrap ((k:U)-7)=(k:U)-7:=Í
  have p7:(7:U)<=(k:U):=À
  have r7:(k:U)<71:=À
  have q7:(k:U)-7<64:=À
  have G:N wr ⟨V (Z' w)+1,bL ((k:U)-7),aw⟩=(Q cJ<|u<|Wf (bm l)<|k-7):=by rw[show((k:U)-7).toNat=k-7 by omega,xb _ _ _ _ _ _ inv.b1,b _ À]
  have A:N wr ⟨V (Z' w)+1,k-7,aw⟩=(Q cJ<|u<|Wf (bm l)<|k-7):=zdi
  have e2:IntKind.i64.wrap ((k:U)-2)=(k:U)-2:=Í
  have p2:(2:U)<=(k:U):=À
  have r2:(k:U)<66:=À
  have q2:(k:U)-2<64:=À
  have h1:N wr ⟨V (Z' w)+1,bL ((k:U)-2),aw⟩=(Q cJ<|u<|Wf (bm l)<|k-2):=by rw[show((k:U)-2).toNat=k-2 by omega,xb _ _ _ _ _ _ inv.b1,b _ À]
  have h2:N wr ⟨V (Z' w)+1,k-2,aw⟩=(Q cJ<|u<|Wf (bm l)<|k-2):=zdi
  obtain⟨c,D⟩:∃c,N wr ⟨V (Z' w)+1,k,aw⟩=ac c:=⟨C[k]' À,xT⟩;have P:aX wr ⟨V (Z' w)+1,k,aw⟩=ao:=xt _ _ _ _ _ inv.b1;have m:∀i,i<k+1->(aA C k<|Q cJ<|u<|Wf (bm l) k)[i]?=(Q cJ<|u<|Wf (bm l) i):=K2 e À b;have t:∀d,J8 w C d->J8 w (aA C k<|Q cJ<|u<|Wf (bm l) k) (M d.drew ⟨V (Z' w)+1,k,aw⟩<|Q cJ<|u<|Wf (bm l) k):=λd h=>h.H k _;rw[xw2 (bm l) k p]at t m;unfold Fv Fw at t m;generalize Wf (bm l) (k-16)=x16 at*;generalize Wf (bm l) (k-15)=x15 at*;generalize Wf (bm l) (k-7)=x7 at*;generalize Wf (bm l) (k-2)=x2 at*;go_wp2;refine(xzu x15 _).mono ?_;rintro en w2⟨rfl,n1,rfl⟩;go_wp2;refine(xuw x15 _).mono ?_;rintro en w2⟨rfl,hx,rfl⟩;go_wp2;refine(xuv x2 _).mono ?_;rintro en w2⟨rfl,S,rfl⟩;go_wp2;refine(xux x2 _).mono ?_;rintro en w2⟨rfl,ho,rfl⟩;go_wp2;obtain⟨d,a⟩:∃d,wr.drewN (n1+hx+S+ho)=d:=⟨_,O⟩;have s:J8 w C d:=by rw[<-a];exact inv.fV _
  have x1:N d ⟨V (Z' w)+1,bL ((k:U)-7),aw⟩=(Q cJ<|u x7):=by rw[<-a];exact G
  have x3:N d ⟨V (Z' w)+1,bL ((k:U)-16),aw⟩=(Q cJ<|u x16):=by rw[<-a];exact n
  have x4:N d ⟨V (Z' w)+1,k-7,aw⟩=(Q cJ<|u x7):=by rw[<-a];exact A
  have x5:N d ⟨V (Z' w)+1,k-16,aw⟩=(Q cJ<|u x16):=by rw[<-a];exact o
  have x6:N d ⟨V (Z' w)+1,k,aw⟩=ac c:=by rw[<-a];exact D
  have x8:aX d ⟨V (Z' w)+1,k,aw⟩=ao:=by rw[<-a];exact P
  rw[a];clear a n x G h1 o y A h2 D P inv;go_still_tail 15,Ä;go_wp2;go_roundw;(repeat apply ng);exact⟨⟨k+1,_,À,À,Å,t d s,Á,m⟩,O⟩;exact Ý
 obtain rfl:k=64:=À
 have z:C=bH (wv<|Wf<|bm l):=VH e b;subst z;clear b hk p g;have f:(prog.info? 336).map (·.size)=ac (V (wv<|Wf<|bm l).toArray):=zb7
 have cs:V yr=V (wv<|Wf<|bm l).toArray:=by rw[O',jd,D']
 have r:(wr.setRow (V<|Z' w) (bH (wv<|Wf<|bm l))).heap[V (Z' w)]?=ac (au (bH (wv<|Wf<|bm l)) 336 (0,0)):=Jr _ _ _ _ _ _ inv.b0;have B:aP (V<|Z' w) w<|wr.setRow (V<|Z' w) (bH (wv<|Wf<|bm l)):=inv.fH.trans ⟨O,O,O,Â,λj hj=>setRow_other _ _ _ _ À⟩;go_wp2_with (first|refine J6 O 336 _ O (V (Z' w)+1) O 336 _ (0,0) _ inv.b1 jR O f ?_|refine Zo O 336 _ _ O w.heap.size _ O O 336 _ inv.b0 f cs (OV _) ?_);exact ji (v:=bY (bH (wv<|Wf<|bm l))) (Jf O _ _ (V<|Z' w) 336 _ (0,0) _ O r jR O f) O ⟨O,B⟩
end
section
attribute [local go_sem] Cs FD ux FC FE zn zg
def xk1(h:w.heap[g]?=ac (au #[R s.a,R s.b,R s.c,R s.d,R s.e,R s.f,R s.g,R s.h] 323 (0,0))):N w (zq g 0)=R s.a/\N w (zq g 1)=R s.b/\N w (zq g 2)=R s.c/\N w (zq g 3)=R s.d/\N w (zq g 4)=R s.e/\N w (zq g 5)=R s.f/\N w (zq g 6)=R s.g/\N w (zq g 7)=R s.h:=by refine⟨?_,?_,?_,?_,?_,?_,?_,?_⟩;all_goals (rw[xb _ _ _ _ _ _ h];rfl)
def Yq(w:Zy):Prop:=∀i,i<64->N w (zq 2 i)=(R<|Kc i)
def Yq.Y(h:Yq w)(a:2<B)(b:aP B w w'):Yq w':=λi c=>(b.cell a).trans<|h i c
def Yq.iE(h:Yq w):2<V (Z' w):=js<|h 0 Ã
structure Wh(w:Zy)(b2 b3:aD)(W:aD->Z3)(C D:Za)(x:Zy):Prop where
 fH:aP (V<|Z' w) w x
 sz:b3<V (Z' x)
 Hr:V (Z' w)+1<b2
 Ht:b2<b3
 h0:x.heap[V (Z' w)]?=ac (au D 323 (0,0))
 h1:x.heap[V (Z' w)+1]?=ac (au #[zu 0,zu 0,zu 0,zu 0,zu 0,zu 0,zu 0,zu 0] 323 (0,0))
 h2:x.heap[b2]?=ac (au (bH (wv W)) 336 (0,0))
 h3:x.heap[b3]?=ac (au C 323 (0,0))
def Wh.gC{W}(i:aP (V<|Z' w) w w1)(j:V (Z' w)+1<V (Z' w1))(k:w1.heap[V (Z' w)]?=ac (au #[R s.a,R s.b,R s.c,R s.d,R s.e,R s.f,R s.g,R s.h] 323 (0,0)))(l:w1.heap[V (Z' w)+1]?=ac (au #[zu 0,zu 0,zu 0,zu 0,zu 0,zu 0,zu 0,zu 0] 323 (0,0))):
  Wh w (V<|Z' w1) (V (Z' w1)+1) W #[R s.a,R s.b,R s.c,R s.d,R s.e,R s.f,R s.g,R s.h] #[R s.a,R s.b,R s.c,R s.d,R s.e,R s.f,R s.g,R s.h] (aF (aF w1<|au (bH (wv W)) 336)<|au #[R s.a,R s.b,R s.c,R s.d,R s.e,R s.f,R s.g,R s.h] 323):=by
 refine⟨(i.alloc i.size _).alloc (by have:=i.size;simp;omega) _,Â,j,À,?_,?_,heap_alloc2_old _ _ _,heap_alloc2_new _ _ _⟩;grind [Xj];grind [Xj]
theorem Wh.put{W}(h:Wh w b2 b3 W C D a)(k v):Wh w b2 b3 W C (aA D k v)<|M a.drew (zq (V<|Z' w) k) v:=by have l1:=h.Hr;have b:=h.Ht;refine⟨(h.fH.drew).setCell (zd _) _,Ö,h.Hr,h.Ht,jx _ _ _ _ _ _ h.h0,?_,?_,?_⟩;rw[jj _ _ _ _ Á];exact h.h1;rw[jj _ _ _ _ Á];exact h.h2;rw[jj _ _ _ _ Á];exact h.h3
def Wh.fV{W}(h:Wh w b2 b3 W C D a)(n):Wh w b2 b3 W C D<|a.drewN n:=
 ⟨below_drewN h.fH n,h.sz,h.Hr,h.Ht,h.h0,h.h1,h.h2,h.h3⟩
def Wh.wy{g W i c1 c2 c3 j k l m}(h:Wh w b2 b3 W #[i,c1,c2,c3,j,k,l,m] D g)(x a q b c d e f):
  Wh w b2 b3 W #[x,a,q,b,c,d,e,f] D (M (M (M (M (M (M (M (M g (zq b3 0) x) (zq b3 1) a) (zq b3 2) q) (zq b3 3) b) (zq b3 4) c) (zq b3 5) d) (zq b3 6) e) (zq b3 7) f):=by
 have l1:=h.Hr;have n:=h.Ht;refine⟨Fx _ _ _ _ _ _ _ _ _ _ _ _ À h.fH,by rw[O9];exact h.sz,h.Hr,h.Ht,?_,?_,?_,P.wy _ _ _ _ _ _ _ _ _ _ _ _ _ _ _ _ _ _ _ h.h3⟩;rw[D8 _ _ _ _ _ _ _ _ _ _ _ À];exact h.h0;rw[D8 _ _ _ _ _ _ _ _ _ _ _ À];exact h.h1;rw[D8 _ _ _ _ _ _ _ _ _ _ _ À];exact h.h2
def zv9(s l)(hl:T l=64)(w)(hT:Yq w):
  aK prog 250 #[bY #[R s.a,R s.b,R s.c,R s.d,R s.e,R s.f,R s.g,R s.h],E l] w λen w'=>en=ai (bY #[zu<|u (Jb s<|Wf<|bm l).a,zu<|u (Jb s<|Wf<|bm l).b,zu<|u (Jb s<|Wf<|bm l).c,zu<|u (Jb s<|Wf<|bm l).d,zu<|u (Jb s<|Wf<|bm l).e,zu<|u (Jb s<|Wf<|bm l).f,zu<|u (Jb s<|Wf<|bm l).g,zu<|u (Jb s<|Wf<|bm l).h])/\aP (V<|Z' w) w w':=by
 have HT:Yq w:=hT;have P:=hT.iE;go_enter func250.1,Tryz.ntmps250;go_wp2;refine(xlc l hl _).mono ?_;rintro en w1⟨rfl,m⟩;have bx:=(xk1<|(m.block (V<|Z' w) Ç).trans<|heap_alloc2_old _ _ _);obtain⟨x0,x1,x2,x3,x4,x5,x6,x7⟩:=bx;have A:V (Z' w)+1<V (Z' w1):=by have:=m.size;simp at this;omega
 have b7:V (Z' w)<V (Z' w1):=À
 have t:=(((zt _ _).alloc (zd _) _).alloc Â _).trans (m.mono Ç);have hd:w1.heap[V (Z' w)]?=ac (au #[R s.a,R s.b,R s.c,R s.d,R s.e,R s.f,R s.g,R s.h] 323 (0,0)):=(m.block (V<|Z' w) Ç).trans<|heap_alloc2_old _ _ _;have hx:w1.heap[V (Z' w)+1]?=ac (au #[zu 0,zu 0,zu 0,zu 0,zu 0,zu 0,zu 0,zu 0] 323 (0,0)):=(m.block (V (Z' w)+1) Â).trans<|heap_alloc2_new _ _ _;obtain⟨W,hW⟩:∃W,Wf (bm l)=W:=⟨_,O⟩;rw[hW];have HW:H<|Wf (bm l)=W:=hW;have G:H<|w1.heap[V (Z' w)]?=ac (au #[R s.a,R s.b,R s.c,R s.d,R s.e,R s.f,R s.g,R s.h] 323 (0,0)):=hd;have ho:H<|w1.heap[V (Z' w)+1]?=ac (au #[zu 0,zu 0,zu 0,zu 0,zu 0,zu 0,zu 0,zu 0] 323 (0,0)):=hx;have x:(prog.info? 336).map (·.size)=ac (V (wv W).toArray):=zb7
 have I:(wv W).toArray.all (·.oneCell')=ay:=OV _;have hz:V yr=V (wv W).toArray:=by rw[O',jd,D']
 go_wp2_with (refine Zo O 336 _ _ O w1.heap.size _ O O 336 yr (xn _ _) x hz I ?_;rw[og]);go_loopw [7] (λi wr=>∃k:aD,k<=64/\i=J k/\Wh w (V<|Z' w1) (V (Z' w1)+1) W #[zu<|u (hY s W k).a,zu<|u (hY s W k).b,zu<|u (hY s W k).c,zu<|u (hY s W k).d,zu<|u (hY s W k).e,zu<|u (hY s W k).f,zu<|u (hY s W k).g,zu<|u (hY s W k).h] #[R s.a,R s.b,R s.c,R s.d,R s.e,R s.f,R s.g,R s.h] wr) (λi _=>bL (64-dV i));exact⟨0,À,O,Wh.gC t A G.o ho.o⟩;obtain⟨k,hk,rfl,inv⟩:=hrel;have b6:=inv.sz;by_cases n:k<64
 ·have i1:(k:U)<64:=by omega
  have b3:N wr (zq 2 k)=(R<|Kc k):=(inv.fH.cell (p:=zq 2 k) P).trans<|HT k n;have b4:N wr (zq (V<|Z' w1) k)=(R<|W k):=by rw[xb _ _ k _ _ _ inv.h2];simpa using OZ W k n
  obtain⟨r,hr⟩:∃r,hY s W k=r:=⟨_,O⟩;rw[hr]at inv;have HR:H<|hY s W k=r:=hr;obtain⟨S,bb,cs,bc,g',bd,v',be,X,bf,es,bg,ih,bh,ba,bi⟩:=Cx inv.h3;go_wp2;go_quiet ((first|(go_at_call_of 280 (Q bB 6);exact Calls.quiet_of<|xzt _ _)|(go_at_call_of 280 (Q bB 11);exact Calls.quiet_of<|xut _ _)|(go_at_call_of 280 (Q bB 25);exact Calls.quiet_of<|xuz _ _)));go_wp2;refine(xzs r.a _).mono ?_;rintro en w2⟨rfl,n1,rfl⟩;go_wp2;refine(xuu r.a _).mono ?_;rintro en w2⟨rfl,n2,rfl⟩;go_wp2;refine(xuy r.a _).mono ?_;rintro en w2⟨rfl,n3,rfl⟩;obtain⟨F,z⟩:∃F,(wr.drewN<|nq+n1+n2).drewN n3=F:=⟨_,O⟩;have o:Wh w (V<|Z' w1) (V (Z' w1)+1) W #[R r.a,R r.b,R r.c,R r.d,R r.e,R r.f,R r.g,R r.h] #[R s.a,R s.b,R s.c,R s.d,R s.e,R s.f,R s.g,R s.h] F:=by rw[<-z];exact(inv.fV _).fV _
  rw[z];obtain⟨S,bb,cs,bc,g',bd,v',be,X,bf,es,bg,ih,bh,ba,bi⟩:=Cx o.h3;obtain⟨q,y⟩:∃q,r.h+(rr r.e 6^^^rr r.e 11^^^rr r.e 25)+(r.e&&&r.f^^^ ~~~r.e&&&r.g)+Kc k+W k=q:=⟨_,O⟩;rw[y];have B:Wh w (V<|Z' w1) (V (Z' w1)+1) W #[zu<|u (hY s W<|k+1).a,zu<|u (hY s W<|k+1).b,zu<|u (hY s W<|k+1).c,zu<|u (hY s W<|k+1).d,zu<|u (hY s W<|k+1).e,zu<|u (hY s W<|k+1).f,zu<|u (hY s W<|k+1).g,zu<|u (hY s W<|k+1).h] #[R s.a,R s.b,R s.c,R s.d,R s.e,R s.f,R s.g,R s.h]<|M (M (M (M (M (M (M (M F (zq (V (Z' w1)+1) 0)<|zu<|u<|q+((rr r.a 2^^^rr r.a 13^^^rr r.a 22)+(r.a&&&r.b^^^r.a&&&r.c^^^r.b&&&r.c))) (zq (V (Z' w1)+1) 1)<|R r.a) (zq (V (Z' w1)+1) 2)<|R r.b) (zq (V (Z' w1)+1) 3)<|R r.c) (zq (V (Z' w1)+1) 4)<|R<|r.d+q) (zq (V (Z' w1)+1) 5)<|R r.e) (zq (V (Z' w1)+1) 6)<|R r.f) (zq (V (Z' w1)+1) 7)<|R r.g:=by
   have e:#[zu<|u (hY s W<|k+1).a,zu<|u (hY s W<|k+1).b,zu<|u (hY s W<|k+1).c,zu<|u (hY s W<|k+1).d,zu<|u (hY s W<|k+1).e,zu<|u (hY s W<|k+1).f,zu<|u (hY s W<|k+1).g,zu<|u (hY s W<|k+1).h]=(#[zu<|u<|q+((rr r.a 2^^^rr r.a 13^^^rr r.a 22)+(r.a&&&r.b^^^r.a&&&r.c^^^r.b&&&r.c)),R r.a,R r.b,R r.c,R<|r.d+q,R r.e,R r.f,R r.g]:Za):=by
    have e1:T1 r.e r.f r.g r.h (Kc k+W k)=q:=by rw[<-y];unfold T1 OS ch;ac_rfl
    show _=_;simp only[hY,VP,HR.o,e1,T2,OR,OT]
   rw[e];exact o.wy _ _ _ _ _ _ _ _
  go_wp2;go_roundw;exact⟨k+1,À,Å,B⟩;exact Ð
 obtain rfl:k=64:=À
 go_wp2;go_loopw [14] (λi w2=>∃(k:aD) (D:Za),k<=8/\i=J k/\Wh w (V<|Z' w1) (V (Z' w1)+1) W #[zu<|u (hY s W 64).a,zu<|u (hY s W 64).b,zu<|u (hY s W 64).c,zu<|u (hY s W 64).d,zu<|u (hY s W 64).e,zu<|u (hY s W 64).f,zu<|u (hY s W 64).g,zu<|u (hY s W 64).h] D w2/\V D=8/\∀i,i<8->D[i]?=ac (R (if i<k then kX (hY s W 64) i+kX s i else kX s i))) (λi _=>bL (8-dV i));exact⟨0,_,À,O,inv,O,λi h=>by rw[aL À];exact FB _ i h⟩;obtain⟨k,D,hk,rfl,j,L,hD⟩:=hrel;have bj:=j.sz;by_cases n:k<8
 ·have h1:N wr (zq (V<|Z' w) k)=(R<|kX s k):=by rw[xb _ _ k _ _ _ j.h0,hD k n,aL À]
  have h2:N wr (zq (V (Z' w1)+1) k)=(R<|kX (hY s W 64) k):=by rw[xb _ _ k _ _ _ j.h3,FB _ k n]
  have h3:aX wr (zq (V<|Z' w) k)=ao:=xt _ _ _ _ _ j.h0;have b5:kX (hY s W 64) k+kX s k=kX s k+kX (hY s W 64) k:=BitVec.add_comm _ _;have C:Wh w (V<|Z' w1) (V (Z' w1)+1) W #[zu<|u (hY s W 64).a,zu<|u (hY s W 64).b,zu<|u (hY s W 64).c,zu<|u (hY s W 64).d,zu<|u (hY s W 64).e,zu<|u (hY s W 64).f,zu<|u (hY s W 64).g,zu<|u (hY s W 64).h] (aA D k<|R<|kX s k+kX (hY s W 64) k)<|M wr.drew (zq (V<|Z' w) k)<|R<|kX s k+kX (hY s W 64) k:=j.put k _;have hs:∀i,i<8->(aA D k<|R<|kX s k+kX (hY s W 64) k)[i]?=ac (R (if i<k+1 then kX (hY s W 64) i+kX s i else kX s i)):=by intro i h;rw[Xy];by_cases e:k=i;simp_all;rw[aL e,hD i h];by_cases e2:i<k;rw[aT e2,aT À];rw[aL e2,aL À]
  go_wp2;go_still_tail 9,Ä;go_wp2;go_roundw;(repeat apply ng);exact⟨⟨k+1,_,À,Å,C,É,hs⟩,O⟩;exact Ý
 obtain rfl:k=8:=À
 have hw:D=#[zu<|u (Jb s W).a,zu<|u (Jb s W).b,zu<|u (Jb s W).c,zu<|u (Jb s W).d,zu<|u (Jb s W).e,zu<|u (Jb s W).f,zu<|u (Jb s W).g,zu<|u (Jb s W).h]:=VJ L (λi h=>É);subst hw;obtain⟨bk,bt,bl,bu,bn,bv,bo,bw,bp,bz,bq,b0,br,b1,bs,b2⟩:=Cx j.h0;have z0:N wr (zq (V (Z' w)+1) 0)=zu 0:=by rw[xb _ _ 0 _ _ _ j.h1];rfl
 have f0:aX wr (zq (V (Z' w)+1) 0)=ao:=xt _ _ _ _ _ j.h1;have z1:N wr (zq (V (Z' w)+1) 1)=zu 0:=by rw[xb _ _ 1 _ _ _ j.h1];rfl
 have f1:aX wr (zq (V (Z' w)+1) 1)=ao:=xt _ _ _ _ _ j.h1;have z2:N wr (zq (V (Z' w)+1) 2)=zu 0:=by rw[xb _ _ 2 _ _ _ j.h1];rfl
 have f2:aX wr (zq (V (Z' w)+1) 2)=ao:=xt _ _ _ _ _ j.h1;have z3:N wr (zq (V (Z' w)+1) 3)=zu 0:=by rw[xb _ _ 3 _ _ _ j.h1];rfl
 have f3:aX wr (zq (V (Z' w)+1) 3)=ao:=xt _ _ _ _ _ j.h1;have z4:N wr (zq (V (Z' w)+1) 4)=zu 0:=by rw[xb _ _ 4 _ _ _ j.h1];rfl
 have f4:aX wr (zq (V (Z' w)+1) 4)=ao:=xt _ _ _ _ _ j.h1;have z5:N wr (zq (V (Z' w)+1) 5)=zu 0:=by rw[xb _ _ 5 _ _ _ j.h1];rfl
 have f5:aX wr (zq (V (Z' w)+1) 5)=ao:=xt _ _ _ _ _ j.h1;have z6:N wr (zq (V (Z' w)+1) 6)=zu 0:=by rw[xb _ _ 6 _ _ _ j.h1];rfl
 have f6:aX wr (zq (V (Z' w)+1) 6)=ao:=xt _ _ _ _ _ j.h1;have z7:N wr (zq (V (Z' w)+1) 7)=zu 0:=by rw[xb _ _ 7 _ _ _ j.h1];rfl
 have f7:aX wr (zq (V (Z' w)+1) 7)=ao:=xt _ _ _ _ _ j.h1;have HB:aP (V<|Z' w) w wr:=j.fH;go_wp2;refine ji (v:=bY #[zu<|u (Jb s W).a,zu<|u (Jb s W).b,zu<|u (Jb s W).c,zu<|u (Jb s W).d,zu<|u (Jb s W).e,zu<|u (Jb s W).f,zu<|u (Jb s W).g,zu<|u (Jb s W).h]) ?_ O ⟨by rw[HW.o],?_⟩
 ·simp[eR,Tryz.results250,go_sem, *]
 exact Fx _ _ _ _ _ _ _ _ _ _ _ _ À HB
def jbo{X}(h:a.heap[g]?=ac X)(c:aP (V<|Z' a) a b):b.heap[g]?=ac X:=
 (c.block g (za.1 h).1).trans h
def jbn{X}(b:aP (V (aF w X).drew.heap) (aF w X).drew a):a.heap[V (Z' w)]?=ac X:=
 (b.block (V<|Z' w) Â).trans (xn w X)
def jbp{X}(b:aP (V (aF w X).heap) (aF w X) a):a.heap[V (Z' w)]?=ac X:=
 (b.block (V<|Z' w) Â).trans (xn w X)
def jes{X}(b:aP (V (aF w X).drew.heap) (aF w X).drew a):aP (V<|Z' w) w a:=(((zt _ w).alloc (zd _) X).drew).trans<|b.mono Â
def VS(b:aP (V w.drew.heap) w.drew a):aP (V<|Z' w) w a:=((zt _ w).drew).trans b
def jet{c X}(a:aP (V<|Z' w) w b)(d:aP (V (aF b X).heap) (aF b X) c):aP (V<|Z' w) w c:=(a.alloc a.size X).trans<|d.mono<|by have:=a.size;simp;omega
def Lr(w g)(h:w.heap[g]?=ac (au #[zb 128] 5 (0,0))):(convert 163 9<|aB (ac ⟨g,0,aw⟩) 1 1).run prog w=dG (ak<|st [128]) w:=by
 have h:=iy w 163 9 5 (zq g 0) 1 [128] cT eY dK (λj a=>by
  rw[pS,j7,xb _ _ _ _ _ _ h];obtain rfl:j=0:=Á
  rfl)
 exact h
structure AY(w W:Zy)(s:St)(x:Zy):Prop where
 fH:aP (V<|Z' w) w x
 sz:V (Z' W)<V (Z' x)
 Lu:V (Z' w)<=V (Z' W)
 b0:x.heap[V (Z' W)]?=ac (au #[R s.a,R s.b,R s.c,R s.d,R s.e,R s.f,R s.g,R s.h] 323 (0,0))
theorem AY.eG{i k}(h:AY w i s w1)(j:aP (V w1.drew.heap) w1.drew k)(t):AY w i t<|M (M (M (M (M (M (M (M k (zq (V<|Z' i) 0)<|R t.a) (zq (V<|Z' i) 1)<|R t.b) (zq (V<|Z' i) 2)<|R t.c) (zq (V<|Z' i) 3)<|R t.d) (zq (V<|Z' i) 4)<|R t.e) (zq (V<|Z' i) 5)<|R t.f) (zq (V<|Z' i) 6)<|R t.g) (zq (V<|Z' i) 7)<|R t.h:=by have m:V (Z' i)<V (Z' k):=zm h.sz j.size;have l:=h.fH.drew.trans<|j.mono h.fH.size;refine⟨Fx _ _ _ _ _ _ _ _ _ _ _ _ h.Lu l,É,h.Lu,?_⟩;exact wy _ _ _ _ _ _ _ _ _ _ _ _ _ _ _ _ _ _ _<|(j.block _<|by exact h.sz).trans h.b0
theorem AY.kM{c}(h:AY w c s w1)(a:aP (V<|Z' w1) w1 b):AY w c s b:=
 ⟨h.fH.trans<|a.mono h.fH.size,zm h.sz a.size,h.Lu,(a.block _ h.sz).trans h.b0⟩
def xxy(x):IntKind.i64.wrap (u x)=u x:=by have:=x.isLt;grind [zh,u]
def jbz(x):nb x.toNat 4=wb x:=by grind [nb,wb,D6,bq,Nat.shiftRight_eq_div_pow]
def je1(m k):(st m).extract (64*k) (64*k+64)=st ((m.drop<|64*k).take 64):=by apply DM;apply Array.toList_inj.1;grind [st,zaj]
theorem xmb{a b}(h:∀j,j<64->a j=b j):∀i,i<64->Wf a i=Wf b i:=by intro i;induction i using Nat.strongRecOn with|_ i I=>intro d;by_cases c:i<16;grind [OX,D7];grind [OW]
theorem WO(s){a b}:∀n,(∀i,i<n->a i=b i)->hY s a n=hY s b n
 |0,_=>rfl|n+1,h=>by rw[hY,hY,WO s n λi c=>h i À,h n À]
theorem xbp(s){a b}(h:∀i,i<64->a i=b i):Jb s a=Jb s b:=by grind [Jb,WO]
def xm5(s m k):Jb s (Wf<|bT m k)=Jb s (Wf<|bm<|(m.drop<|64*k).take 64):=by grind [xbp,xmb,bT,bm]
def Cw(l)(hl:T l<=90000)(w)(P:Yq w):aK prog 199 #[ak<|st l] w λen w'=>en=ai (ak<|st<|oY l)/\aP (V<|Z' w) w w':=by
 have HT:Yq w:=P;have bd:=P.iE;clear P;obtain⟨z,hz⟩:∃z:aD,z=(119-T l%64)%64:=⟨_,O⟩;have bh:z<64:=À
 obtain⟨y,hy⟩:∃y:aD,y=T l%64:=⟨_,O⟩;have e1:((T l:aD):U).tmod 64=(y:aD):=zdh
 have e2:IntKind.i64.wrap (119-(y:U))=119-(y:U):=Ï
 have e3:(119-(y:U)).tmod 64=(z:aD):=zdh
 obtain⟨h,hN⟩:∃h:aD,h=T l*8:=⟨_,O⟩;have e4:IntKind.i64.wrap (8*(T l:U))=8*(T l:U):=Ï
 have h1:H<|8*(T l:U)=(h:aD):=by show _=_;omega
 have HZ:H<|z=(119-T l%64)%64:=hz;have HN:H<|h=T l*8:=hN;clear hz hy hN;have g':∀o:Zy,(convert 163 9<|aB (ac ⟨V<|Z' o,0,aw⟩) 1 1).run prog (aF o<|au #[Q .u8 128] 5).drew=dG (ak<|st [128]) (aF o<|au #[Q .u8 128] 5).drew:=λo=>Lr _ _<|xn _ _;have v':=Hx 128 128 O;have t:∀o:Zy,aK prog 140 #[Q bB<|8*(T l:U),Q bB 8] o λe w'=>e=ai (ak<|st<|nb h 8)/\aP (V<|Z' o) o w':=λo=>wD (8*(T l:U)) 8 h 8 h1.o O Ã o;go_enter func199.1,Tryz.ntmps199;go_upto_region 1 with fail
 go_cut [3]from 8 (λv o=>v=ak (st (128::(bS z 0++nb h 8)))/\aP (V<|Z' w) w o)
 case first=>
  go_region_with (first
   |(go_at_call 126;refine(Pj z À _).mono ?_;rintro en w2⟨rfl,n⟩;(first|have D:=jes n|have D:=VS n);(first|(have h2:=jbn n;have bo:=Lr _ _ h2)|skip))
   |(go_at_call 140;go_fit (t _);rintro en w3⟨rfl,q⟩;have hx:=Z2 h 8;(first|have p:=Xs D q|have p:=jet D q);(first|(have G:=jbp q;have bc:=Lr _ _ G)|(have G:=jbo h2 q;have bc:=Lr _ _ G)|skip)))
  all_goals go_wp2
  all_goals go_meet
  all_goals exact⟨O,by first|exact p|exact p.alloc p.size _⟩
 case rest=>
  obtain⟨rfl,A⟩:=hcut;clear v' g' t e1 e2 e3 e4 h1;have hp:l++128::(bS z 0++nb h 8)=uy l:=by have:=Fz (T l);rw[HN.o];unfold uy xM;congr 3;rw[HZ.o];unfold Wv;congr 1;omega
  have hx:=Z2 h 8;have ho:T (uy l)=Wv (T l):=Pa l 8 À;have ba:=Fz (T l);have F:64*(Wv (T l)/64)=Wv (T l):=za1
  obtain⟨c,S⟩:∃c,Wv (T l)/64=c:=⟨_,O⟩;rw[S]at F;have cs:T (uy l)=64*c:=by rw[ho,F]
  have HC:H<|Wv (T l)/64=c:=S;have bj:64*c<=90072:=À
  clear S ho ba F HZ HN;generalize hm:uy l=m at*;have es:H<|uy l=m:=hm;have bi:H<|T m=64*c:=cs;clear hm;go_wp2;clear hp hx;have C:AY w wc iv<|aF wc<|au #[Q cJ<|u iv.a,Q cJ<|u iv.b,Q cJ<|u iv.c,Q cJ<|u iv.d,Q cJ<|u iv.e,Q cJ<|u iv.f,Q cJ<|u iv.g,Q cJ<|u iv.h] 323:=⟨(A.alloc A.size _),Â,A.size,xn _ _⟩;go_loopw [5] (λi wr=>∃k:aD,k<=c/\i=Q bB (64*(k:U))/\AY w wc (uO m k) wr) (λi _=>bL (64*(c:U)-dV i));exact⟨0,À,Å,C⟩;clear C;obtain⟨k,hk,rfl,inv⟩:=hrel;have bb:=inv.sz;have bg:=inv.Lu;by_cases L:k<c
  ·have i0:(0:U)<=64*(k:U):=by omega
   have i1:64*(k:U)<64*(c:U):=À
   have i2:64*(k:U)+64<=64*(c:U):=À
   have iw:IntKind.i64.wrap (64*(k:U)+64)=64*(k:U)+64:=Ï
   have HB:H<|(m.drop<|64*k).take 64=(m.drop<|64*k).take 64:=O;have r:T ((m.drop<|64*k).take 64)=64:=by simp;rw[cs];omega
   have bf:=je1 m k;have W:Yq wr.drew:=HT.Y bd inv.fH.drew;obtain⟨s,I⟩:∃s,uO m k=s:=⟨_,O⟩;rw[I]at inv;have hd:H<|uO m (k+1)=Jb s (Wf<|bm<|(m.drop<|64*k).take 64):=by show Jb (uO m k) (Wf<|bT m k)=_;rw[I,xm5]
   clear I;obtain⟨b8,cg,b9,ch,ca,ci,cb,cj,cc,ck,cd,cl,ce,cm,cf,cn⟩:=Cx inv.b0;generalize(m.drop<|64*k).take 64=B at*;have i3:bL (64*(k:U))=64*k:=À
   have i4:bL (64*(k:U)+64)=64*k+64:=À
   go_wp2;go_region_with (first
    |(go_at_call 250;go_fit (zv9 s B r _ W);rintro en w2⟨rfl,n⟩;have be:V (Z' wc)<V wr.drew.heap:=bb;obtain⟨bq,bz,br,b1,bs,b2,bt,b3,bu,b4,bv,b5,bw,b6,bx,b7⟩:=Cx<|(n.block _ be).trans inv.b0))
   all_goals go_wp2
   all_goals go_roundw
   all_goals first
    |(refine⟨k+1,À,Å,?_⟩;rw[hd.o];exact inv.eG n _)
    |(simp[dV];omega)
  obtain rfl:k=c:=À
  obtain⟨s,I⟩:∃s,uO m k=s:=⟨_,O⟩;rw[I]at inv;have hd:H<|oY l=sb s 8:=by show sb (uO (uy l)<|Wv (T l)/64) 8=_;rw[HC.o,es.o,I]
  clear I;have r:=inv.fH;have bl:¬64*(k:U)<64*(k:U):=À
  go_wp2;go_loopw [6,7] (λv i w3=>∃j:aD,j<=8/\i=Q bB j/\v=ak (st<|sb s j)/\AY w wc s w3) (λ_ i _=>bL (8-dV i));exact⟨0,À,O,O,inv⟩;clear inv;obtain⟨j,hj,rfl,rfl,inv⟩:=hrel;by_cases L:j<8
  ·have j1:(j:U)<8:=by omega
   have bn:=K4 s j;have h3:H<|sb s (j+1)=sb s j++wb (kX s j):=O;have S:N wr ⟨V<|Z' wc,j,aw⟩=(Q cJ<|u<|kX s j):=by rw[xb _ _ j _ _ _ inv.b0,FB s j L]
   have ih:H<|nb (kX s j).toNat 4=wb (kX s j):=jbz<|kX s j;have bk:=xxy<|kX s j;generalize kX s j=x at*;generalize sb s j=X at*;go_wp2;go_fit (wD (u x) 4 x.toNat 4 O O Ã _);rintro en w2⟨rfl,n⟩;rw[ih.o];have bp:T (wb x)=4:=O;go_wp2;go_roundw;refine⟨j+1,À,Å,by rw[h3.o],?_⟩;exact inv.kM n;exact Ð
  obtain rfl:j=8:=À
  have r:=inv.fH;go_wp2;go_ret;exact⟨by rw[hd.o];rfl,r⟩
end
section
attribute [local go_sem] zn zg
def Yq.gN(h:Yq w)(a:aP (V<|Z' w) w w'):Yq w':=h.Y h.iE a
structure Ab(w:Zy)(L:Zl)(x:Ze)(W:Zy):Prop where
 fH:aP (V<|Z' w) w W
 b0:W.heap[V (Z' w)]?=ac (au (bH (bv L++x)) 5 (T (bv L++x),T (bv L++x)+1))
def Ab.i{x}(h:Ab w L x b)(k a)(c:L[k]?=ac a):N b (zq (V<|Z' w) k)=zb (aN a):=by rw[xb _ _ _ _ _ _ h.b0];grind [bv]
def Ab.eQ{x}(h:Ab w L x a)(k)(hk:k<T L):aX a (zq (V<|Z' w) k)=ao:=by unfold aX;rw[h.b0];grind [xL]
theorem Ab.H{x}(h:Ab w L x b)(k)(hk:k<T L)(a):Ab w (L.set k a) x<|M b (zq (V<|Z' w) k)<|zb (aN a):=by refine⟨h.fH.setCell (zd _) _,?_⟩;rw[zdm _ _ _ _ _ _ _ h.b0,Jr _ _ _ _ _ _ h.b0];grind [xL,Hp]
def Lm(l)(z:T l<=90000)(c n)(t:n=(aN c:Int))(w):aK prog 200 #[E l,zb n] w λW w'=>W=ai (E (l.map (·^^^c)))/\aP (V<|Z' w) w w':=by
 subst t;have g:=run_bytes_of_string w 9 163 5 (st l) dK cT eY;obtain⟨d,m⟩:∃d,grownCap w (st l).size 0 5=d:=⟨_,O⟩;rw[m,zn]at g;obtain⟨u,r⟩:∃u:Ze,bytesRow (st l) d=bH (bv l++u):=⟨bS (d-T l)<|zb 0,zb1⟩;rw[r]at g;have q:Ab w (xk l c 0) u<|aF w.drew<|au (bH (bv l++u)) 5 (V (bv l++u).toArray,V (bv l++u).toArray+1):=by
  refine⟨((zt _ _).drew).alloc (zd _) _,?_⟩;have e:xk l c 0=l:=by simp[xk]
  rw[e];exact xn w.drew _
 generalize X:(aF w.drew _)=w1 at*;go_enter func200.1,Tryz.ntmps200;go_wp2;go_loopw [6] (λi wr=>∃k:aD,k<=T l/\i=J k/\Ab w (xk l c k) u wr) (λi _=>bL (T l-dV i));grind;obtain⟨k,hk,rfl,I⟩:=hrel;by_cases f:k<T l
 ·obtain⟨a,o⟩:∃a,l[k]=a:=⟨_,O⟩;have C:(k:U)<(T l:aD):=by omega
  have x:=I.i k a (by rw[WL l c k f,o]);have y:=I.eQ k (by rw[WG];exact f);have p:=I.H k (by rw[WG];exact f)<|a^^^c;have e:(xk l c k).set k (a^^^c)=xk l c (k+1):=by rw[<-o];exact WH l c k f
  rw[e]at p;have B:=FM a c;generalize a^^^c=b at*;go_wp2;go_roundw;exact⟨k+1,À,Å,p⟩;exact Ð
 obtain rfl:k=T l:=À
 rw[WF l c _<|zd _]at I;have g:(convert 163 9<|aB (ac ⟨V<|Z' w,0,aw⟩) (T l) d).run prog wr=dG (E (l.map (·^^^c))) wr:=by have h:=iy wr 163 9 5 (zq (V<|Z' w) 0) d (l.map (·^^^c)) cT eY dK (λj s=>by rw[pS,j7];exact I.i j _<|Jc s);rw[jl]at h;exact h
 have v:=I.fH;go_wp2;go_ret;simp_all
def Pe(a)(n:aD)(b:a=(n:U))(c:n<=64)(w):aK prog 126 #[J a] w λe w'=>e=ai (E<|List.replicate n 0)/\aP (V<|Z' w) w w':=by grind [Pj]
def FJ(k x)(z:T k<=5000)(hx:T x<=80000)(w)(y:Yq w):aK prog 142 #[E k,E x] w λX w'=>X=ai (E<|Wu k x)/\aP (V<|Z' w) w w':=by
 have m:Yq w:=y;by_cases t:64<T k
 ·have v:(64:U)<(T k:aD):=by omega
  have l:=yw k;have n:H<|Wu k x=AR (oY k) x:=by show AR (hk k) x=_;unfold hk;rw[aT t]
  go_enter func142.1,Tryz.ntmps142;go_wp2;go_fit (Cw k À _ m);rintro X w1⟨rfl,j⟩;have i:Yq w1:=m.gN j;have c:T (oY k)<=64:=À
  clear l;generalize oY k=u at*;have G:IntKind.i64.wrap (64-(T u:U))=64-(T u:U):=Ï
  go_wp2;go_fit (Pe (64-(T u:U)) (64-T u) À À _);rintro X B⟨rfl,a⟩;have f:H ((u++bS (64-T u) 0).map (·^^^0x36)=kc u 0x36):=O;have g:H ((u++bS (64-T u) 0).map (·^^^0x5c)=kc u 0x5c):=O;have s:T (bS (64-T u) (0:Z8))=64-T u:=Zq;have o:T (u++bS (64-T u) (0:Z8))=64:=by rw[zx,s];omega
  go_wp2;generalize u++bS (64-T u) (0:Z8)=P at*;go_fit (Lm P À 0x36 54 O _);rintro X C⟨rfl,b⟩;rw[f.o];have p:=AV u 0x36 c;go_wp2;go_fit (Cw (kc u 0x36++x) Á _<|i.gN a |>.gN b);rintro X D⟨rfl,d⟩;go_wp2;go_fit (Lm P À 0x5c 92 O _);rintro X W⟨rfl,e⟩;rw[g.o];have q:=AV u 0x5c c;have r:=yw<|kc u 0x36++x;go_wp2;go_fit (Cw (kc u 0x5c++oY (kc u 0x36++x)) Á _<|i.gN a |>.gN b |>.gN d |>.gN e);rintro X F⟨rfl,h⟩;go_wp2;go_ret;exact⟨by rw[n.o];rfl,Xs j<|Xs a<|Xs b<|Xs d<|Xs e h⟩
 have v:¬(64:U)<(T k:aD):=À
 have n:H<|Wu k x=AR k x:=by show AR (hk k) x=_;unfold hk;rw[aL t]
 have c:T k<=64:=À
 go_enter func142.1,Tryz.ntmps142;go_wp2;go_fit (Pe (64-(T k:U)) (64-T k) À À _);rintro X B⟨rfl,a⟩;have f:H ((k++bS (64-T k) 0).map (·^^^0x36)=kc k 0x36):=O;have g:H ((k++bS (64-T k) 0).map (·^^^0x5c)=kc k 0x5c):=O;have o:T (k++bS (64-T k) (0:Z8))=64:=by rw[zx,Zq];omega
 go_wp2;generalize k++bS (64-T k) (0:Z8)=P at*;go_fit (Lm P À 0x36 54 O _);rintro X C⟨rfl,b⟩;rw[f.o];have p:=AV k 0x36 c;go_wp2;go_fit (Cw (kc k 0x36++x) Á _<|m.gN a |>.gN b);rintro X D⟨rfl,d⟩;go_wp2;go_fit (Lm P À 0x5c 92 O _);rintro X W⟨rfl,e⟩;rw[g.o];have q:=AV k 0x5c c;have r:=yw<|kc k 0x36++x;go_wp2;go_fit (Cw (kc k 0x5c++oY (kc k 0x36++x)) Á _<|m.gN a |>.gN b |>.gN d |>.gN e);rintro X F⟨rfl,h⟩;go_wp2;go_ret;exact⟨by rw[n.o];rfl,Xs a<|Xs b<|Xs d<|Xs e h⟩
def xh6(k x)(a:T k<=4096)(hx:4096<T x)(w):aK prog 207 #[E k,E x] w λq w'=>q=ai (cE #[ak<|st [],J 1])/\w'=w:=by go_enter func207.1,Tryz.ntmps207;go_wp2;go_ret2;exact⟨O,O⟩
def xkb(b l)(n:aD)(P:n<=6)(y:n<=T l)(w)(s:N w (zq b 0)=E l)(t:aX w (zq b 0)=ao):aK prog 166 #[K b,J n] w λe w'=>e=ai (J (qi (l.take n):aD))/\aP (V<|Z' w) (M w (zq b 0)<|E<|l.drop n) w':=by
 obtain⟨W,d⟩:∃W,M w (zq b 0) (E<|l.drop n)=W:=⟨_,O⟩;have f:V (Z' W)=V (Z' w):=by rw[<-d];simp
 obtain⟨m,o⟩:∃m,l.take n=m:=⟨_,O⟩;have F:T m=n:=by rw[<-o,xf];omega
 have h:=run_bytes_of_string W 9 163 5 (st m) dK cT eY;obtain⟨a,g⟩:∃a,grownCap W (st m).size 0 5=a:=⟨_,O⟩;rw[g,zn]at h;obtain⟨u,D⟩:∃u:Ze,bytesRow (st m) a=bH (bv m++u):=⟨bS (a-T m)<|zb 0,zb1⟩;rw[D]at h;have inv:Ab W m u _:=
  ⟨((zt _ _).drew).alloc (zd _) _,xn W.drew _⟩
 generalize(aF W.drew _)=w1 at*;have I:aP (V<|Z' w) W w1:=by show aP _ _ _;rw[<-f];exact inv.fH
 have B:=WK b l (n:U) n O y w s t;rw[d,o]at B;have C:=inv;have A:=d;have hd:=o;clear inv f s t d o y;go_enter func166.1,Tryz.ntmps166;go_wp2;apply B.mono;rintro e h1⟨rfl,rfl⟩;go_wp2;go_loopw [5,13] (λv i wr=>∃k:aD,k<=T m/\i=J k/\v=J (qi (m.take k):aD)/\wr=w1) (λ_ i _=>bL (T m-dV i));exact⟨0,À,O,O,O⟩;obtain⟨k,hk,rfl,rfl,rfl⟩:=hrel;by_cases j:k<T m
 ·obtain⟨c,p⟩:∃c,m[k]'j=c:=⟨_,O⟩;have r:=C.i k c Á;have z:=WQ (m.take k) c;have X:m.take (k+1)=m.take k++[c]:=by rw[zp j,p]
  rw[<-X]at z;have x:=AS<|m.take k;have L:256^T (m.take k)<=256^5:=J7 Ã Á;generalize hq:qi (m.take k)=q at*;have G:=V' q c À;have h2:=c.toNat_lt;go_wp2;go_roundw;exact⟨k+1,À,Å,by rw[z];go_num,bD⟩;exact Ð
 obtain rfl:k=T m:=À
 rw[jz];go_wp2;go_ret;simp_all
def xdw(b l)(n:aD)(d:T l<n)(w)(c:N w (zq b 0)=E l)(a:ip z w):aK prog 166 #[K b,J n] w λe w'=>e=kn z/\w'=w:=by go_enter func166.1,Tryz.ntmps166;go_wp2;apply(WJ b l (n:U) n O d w c a).mono;rintro e f⟨rfl,rfl⟩;exact⟨O,O,O⟩
end
def e8(x:Z8):U:=(aN x:U)
@[go_sem] abbrev zc(x:UInt8):eJ:=Q .u8 (e8 x)
def uz(x):0<=e8 x:=by simp[e8]
def uQ(x):e8 x<256:=by have:=x.toNat_lt;simp[e8];omega
def FK(x):bL (e8 x)=aN x:=by simp[e8]
def AX{p:Z8->Prop}(h:∀i:Fin 256,p<|UInt8.ofNat i.val)(x):p x:=by have:=h ⟨aN x,x.toNat_lt⟩;simp_all
def zZ(a b):lr .xor .u8 (e8 a) (e8 b)=e8 (a^^^b):=FM a b
def xnj(a):lr .xor .u8 (e8 a) 27=e8 (a^^^27):=FM a 27
def xss(a):lr .xor .u8 (e8 a) 9=e8 (a^^^9):=FM a 9
def xnk(a):lr .xor .u8 (e8 a) 99=e8 (a^^^99):=FM a 99
def Lj(a b):lr .or .u8 (e8 a) (e8 b)=e8 (a|||b):=by
 show IntKind.u8.wrap ((dM 8 (aN a:U)|||BitVec.ofInt 8 (aN b:U)).toNat:U)=_;have c:dM 8 (aN a:U)=a.toBitVec:=Â
 have d:dM 8 (aN b:U)=b.toBitVec:=Â
 rw[c,d];have h:=(a|||b).toNat_lt;have e:(a.toBitVec|||b.toBitVec).toNat=aN (a|||b):=Â
 rw[e];show _=((aN (a|||b):aD):U);grind [fS,fT,fi]
def Lv(n)(b:n<8)(k)(hk:k=((2^n:aD):U))(a):IntKind.u8.wrap (e8 a*k)=e8 (a<<<mZ n):=by
 subst hk;obtain rfl|rfl|rfl|rfl|rfl|rfl|rfl|rfl:n=0\/n=1\/n=2\/n=3\/n=4\/n=5\/n=6\/n=7:=À
 all_goals (revert a;exact AX Ê)
def xsk(a):IntKind.u8.wrap (e8 a*(2:U))=e8 (a<<<1):=Lv 1 Ã _ O a
def xsl(a):IntKind.u8.wrap (e8 a*(4:U))=e8 (a<<<2):=Lv 2 Ã _ O a
def xsm(a):IntKind.u8.wrap (e8 a*(8:U))=e8 (a<<<3):=Lv 3 Ã _ O a
def xsn(a):IntKind.u8.wrap (e8 a*(16:U))=e8 (a<<<4):=Lv 4 Ã _ O a
def Lw(n)(b:n<8)(k)(hk:k=((2^n:aD):U))(a):e8 a/k=e8 (a>>>mZ n):=by
 subst hk;obtain rfl|rfl|rfl|rfl|rfl|rfl|rfl|rfl:n=0\/n=1\/n=2\/n=3\/n=4\/n=5\/n=6\/n=7:=À
 all_goals (revert a;exact AX Ê)
def xso(a):e8 a/(16:U)=e8 (a>>>4):=Lw 4 Ã _ O a
def xsp(a):e8 a/(32:U)=e8 (a>>>5):=Lw 5 Ã _ O a
def xsq(a):e8 a/(64:U)=e8 (a>>>6):=Lw 6 Ã _ O a
def xsr(a):e8 a/(128:U)=e8 (a>>>7):=Lw 7 Ã _ O a
def oO(x:Z8):Z8:=if 128<=aN x then(x<<<1)^^^27 else x<<<1
def xx1(x)(h:(128:U)<=e8 x):oO x=(x<<<1)^^^27:=by grind [oO,e8]
def xx2(x)(h:¬(128:U)<=e8 x):oO x=x<<<1:=by grind [oO,e8]
def Ld(x:Z8):Z8:=x^^^x<<<1
def Le(x:Z8):Z8:=Ld x^^^Ld x<<<2
def Cu(x:Z8):Z8:=Le x^^^Le x<<<4
def FH(x:Z8):Z8:=if 128<=aN (Cu x) then Cu x^^^9 else Cu x
def pD(x:Z8)(n:Z8):Z8:=x<<<n|||x>>>(8-n)
def Lc(q:Z8):Z8:=q^^^pD q 1^^^pD q 2^^^pD q 3^^^pD q 4^^^99
def Pt:Zl:=[1,3,5,15,17,51,85,255,26,46,114,150,161,248,19,53,95,225,56,72,216,115,149,164,247,2,6,10,30,34,102,170,229,52,92,228,55,89,235,38,106,190,217,112,144,171,230,49,83,245,4,12,20,60,68,204,79,209,104,184,211,110,178,205,76,212,103,169,224,59,77,215,98,166,241,8,24,40,120,136,131,158,185,208,107,189,220,127,129,152,179,206,73,219,118,154,181,196,87,249,16,48,80,240,11,29,39,105,187,214,97,163,254,25,43,125,135,146,173,236,47,113,147,174,233,32,96,160,251,22,58,78,210,109,183,194,93,231,50,86,250,21,63,65,195,94,226,61,71,201,64,192,91,237,44,116,156,191,218,117,159,186,213,100,172,239,42,126,130,157,188,223,122,142,137,128,155,182,193,88,232,35,101,175,234,37,111,177,200,67,197,84,252,31,33,99,165,244,7,9,27,45,119,153,176,203,70,202,69,207,74,222,121,139,134,145,168,227,62,66,198,81,243,14,18,54,90,238,41,123,141,140,143,138,133,148,167,242,13,23,57,75,221,124,132,151,162,253,28,36,108,180,199,82,246,1]
def Qt:Zl:=[1,246,82,199,180,108,36,28,253,162,151,132,124,221,75,57,23,13,242,167,148,133,138,143,140,141,123,41,238,90,54,18,14,243,81,198,66,62,227,168,145,134,139,121,222,74,207,69,202,70,203,176,153,119,45,27,9,7,244,165,99,33,31,252,84,197,67,200,177,111,37,234,175,101,35,232,88,193,182,155,128,137,142,122,223,188,157,130,126,42,239,172,100,213,186,159,117,218,191,156,116,44,237,91,192,64,201,71,61,226,94,195,65,63,21,250,86,50,231,93,194,183,109,210,78,58,22,251,160,96,32,233,174,147,113,47,236,173,146,135,125,43,25,254,163,97,214,187,105,39,29,11,240,80,48,16,249,87,196,181,154,118,219,73,206,179,152,129,127,220,189,107,208,185,158,131,136,120,40,24,8,241,166,98,215,77,59,224,169,103,212,76,205,178,110,211,184,104,209,79,204,68,60,20,12,4,245,83,49,230,171,144,112,217,190,106,38,235,89,55,228,92,52,229,170,102,34,30,10,6,2,247,164,149,115,216,72,56,225,95,53,19,248,161,150,114,46,26,255,85,51,17,15,5,3,1]
def Pw(n:aD):Z8:=Pt.getD n 0
def Qw(n:aD):Z8:=Qt.getD n 0
def VX(n)(h:n<255):Pw (n+1)=Pw n^^^oO (Pw n):=
 (by decide+kernel:∀n:Fin 255,Pw (n.val+1)=Pw n.val^^^oO (Pw n.val)) ⟨n,h⟩
def xrs(n)(h:n<255):Qw (n+1)=FH (Qw n):=
 (by decide+kernel:∀n:Fin 255,Qw (n.val+1)=FH (Qw n.val)) ⟨n,h⟩
def Bt:Zl:=[99,124,119,123,242,107,111,197,48,1,103,43,254,215,171,118,202,130,201,125,250,89,71,240,173,212,162,175,156,164,114,192,183,253,147,38,54,63,247,204,52,165,229,241,113,216,49,21,4,199,35,195,24,150,5,154,7,18,128,226,235,39,178,117,9,131,44,26,27,110,90,160,82,59,214,179,41,227,47,132,83,209,0,237,32,252,177,91,106,203,190,57,74,76,88,207,208,239,170,251,67,77,51,133,69,249,2,127,80,60,159,168,81,163,64,143,146,157,56,245,188,182,218,33,16,255,243,210,205,12,19,236,95,151,68,23,196,167,126,61,100,93,25,115,96,129,79,220,34,42,144,136,70,238,184,20,222,94,11,219,224,50,58,10,73,6,36,92,194,211,172,98,145,149,228,121,231,200,55,109,141,213,78,169,108,86,244,234,101,122,174,8,186,120,37,46,28,166,180,198,232,221,116,31,75,189,139,138,112,62,181,102,72,3,246,14,97,53,87,185,134,193,29,158,225,248,152,17,105,217,142,148,155,30,135,233,206,85,40,223,140,161,137,13,191,230,66,104,65,153,45,15,176,84,187,22]
def Sx(x:Z8):Z8:=Bt.getD (aN x) 0
def Sn(n:aD):Z8:=Bt.getD n 0
def VY(x):Sn (aN x)=Sx x:=O
def xN:aD->Zl
 |0=>99::bS 255 0|n+1=>(xN n).set (aN (Pw n))<|Lc<|Qw n
def Lq:∀n,T (xN n)=256
 |0=>by grind [xN]|n+1=>by rw[xN,List.length_set,Lq n]
def xsc:xN 255=Bt:=Ê
def kb(f:Zu)(n:aD):Ze:=(iC n).map λi=>Q .u8 (e8<|f i)
theorem tV(f n):T (kb f n)=n:=by simp[kb]
theorem AT(f n):V (kb f n).toArray=n:=by simp[kb]
theorem Aa(f n i)(h:i<n):(kb f n)[i]?=(zb<|e8<|f i):=by simp[kb,h]
def xyi(f n i)(h:i<n):(kb f n).toArray[i]?=(zb<|e8<|f i):=by simp[kb,h]
def Cy(f n):(kb f n).toArray.all (·.oneCell')=ay:=by rw[jn];intro v a;simp only[kb,KC,Xe]at a;obtain⟨i,_,rfl⟩:=a;rfl
theorem Pk{f g}(h:∀i,i<n->f i=g i):kb f n=kb g n:=by grind [kb,W6]
theorem Pb(f n k v):(kb f n).set k (zb<|e8 v)=kb (λi=>if i=k then v else f i) n:=by apply Ye;grind [kb]
def xtf(f n k v):aA (kb f n).toArray k (zb<|e8 v)=bH (kb (λi=>if i=k then v else f i) n):=by grind [Pb]
theorem Lh(l):bv l=kb (λi=>l.getD i 0) (T l):=by apply Ye;grind [Aa,bv,e8,tV]
def kl(f:Zu)(n:aD):Zl:=(iC n).map f
def Cz(f n):T (kl f n)=n:=by simp[kl]
def VW(f n i)(h:i<n):(kl f n).getD i 0=f i:=by simp[kl,h]
def pE(f g:Zu)(i:aD):Z8:=f i^^^g i
def iq(f:Zu)(i:aD):Z8:=Sx<|f<|(i+i%4*4)%16
def oZ(f:Zu)(i:aD):Z8:=f (i/4*4)^^^f (i/4*4+1)^^^f (i/4*4+2)^^^f (i/4*4+3)^^^f i^^^oO (f i^^^f (i/4*4+(i%4+1)%4))
def yv(f:Zu)(c:Z8)(j:aD):Z8:=if j=0 then Sx (f 13)^^^c else if j=1 then Sx (f 14)else if j=2 then Sx (f 15)else Sx (f 12)
def lC(f:Zu)(c:Z8):aD->Z8
 |i+4=>lC f c i^^^f (i+4)|i=>yv f c i^^^f i
theorem Pc(f c):∀i,lC f c i=if _h:4<=i then lC f c (i-4)^^^f i else yv f c i^^^f i
 |0=>rfl|1=>O
 |2=>rfl|3=>O
 |i+4=>by rw[dif_pos À];rfl
def tC:aD->Z8
 |0=>1|n+1=>oO<|tC n
def kY(f:Zu):aD->aD->Z8
 |0=>f|n+1=>lC (kY f n)<|tC n
def FG(k x:Zu):aD->aD->Z8
 |0=>pE x<|kY k 0
 |n+1=>pE (oZ<|iq<|FG k x n)<|kY k<|n+1
def Yr(k x:Zu):aD->Z8:=pE (iq<|FG k x 9)<|kY k 10
section
attribute [local go_sem] zZ xnj xss xsk xsl xsm xsn
def Ph(x w):aK prog 295 #[zc x] w λq w'=>q=ai (zc<|oO x)/\w'=w:=by
 by_cases h:(128:U)<=e8 x
 ·rw[xx1 x h];go_enter func295.1,Tryz.ntmps295;go_wp2;go_ret;simp
 rw[xx2 x h];go_enter func295.1,Tryz.ntmps295;go_wp2;go_ret;simp
def xk6(x w):aK prog 306 #[zc x] w λq w'=>q=ai (zc<|FH x)/\w'=w:=by
 by_cases h:(128:U)<=e8 (Cu x)
 ·have e:FH x=Cu x^^^9:=by unfold FH;rw[aT<|by grind [e8]]
  rw[e];unfold Cu Le Ld at*;go_enter func306.1,Tryz.ntmps306;go_wp2;go_ret;simp
 have e:FH x=Cu x:=by unfold FH;rw[aL<|by grind [e8]]
 rw[e];unfold Cu Le Ld at*;go_enter func306.1,Tryz.ntmps306;go_wp2;go_ret;simp
def xw6:lr .and .u64 1 7=1:=Ê
def xzc(x w):aK prog 305 #[zc x,J 1] w λq w'=>q=ai (zc<|pD x 1)/\w'=w:=by have a:=xw6;go_enter func305.1,qx;go_wp2;go_ret;exact⟨by show ai _=_;rw[xsr,Lj];rfl,O⟩
def xw7:lr .and .u64 2 7=2:=Ê
def xzd(x w):aK prog 305 #[zc x,J 2] w λq w'=>q=ai (zc<|pD x 2)/\w'=w:=by have a:=xw7;go_enter func305.1,qx;go_wp2;go_ret;exact⟨by show ai _=_;rw[xsq,Lj];rfl,O⟩
def xw8:lr .and .u64 3 7=3:=Ê
def xze(x w):aK prog 305 #[zc x,J 3] w λq w'=>q=ai (zc<|pD x 3)/\w'=w:=by have a:=xw8;go_enter func305.1,qx;go_wp2;go_ret;exact⟨by show ai _=_;rw[xsp,Lj];rfl,O⟩
def xw9:lr .and .u64 4 7=4:=Ê
def xzf(x w):aK prog 305 #[zc x,J 4] w λq w'=>q=ai (zc<|pD x 4)/\w'=w:=by have a:=xw9;go_enter func305.1,qx;go_wp2;go_ret;exact⟨by show ai _=_;rw[xso,Lj];rfl,O⟩
end
section
attribute [local go_sem] zZ xnk
def AZ:Za:=cL 256<|Q .u8 0
def WR:V AZ=256:=by simp[AZ]
def xtd:((prog.info? 368).map λi=>(i.zero,i.size))=ac (ac<|bY AZ,256):=Ä
def VZ:(prog.info? 368).map (·.size)=ac 256:=Ä
def xm7:prog.built 368 [(0,zb 99)]=ac (bH (bv<|xN 0)):=Ä
def WN{P j rest o a q}(c:o.guard=aw)(t:Zt)(p)(ho:o.op= .build t p)(b)
  (d:P.built t (p.toList.map λ(i,x)=>(i,a.eval x))=ac b)(h:wpList P j q rest (a.put o.dst<|bY b) w):wpList P j q (o::rest) a w:=
 wpList_build c t p ho É É
def zzt(w:Zy)(A c)(t:Zt):(aF (aF w A)<|au c t).heap[V (Z' w)+1]?=ac (au c t (0,0)):=by have h:=xn (aF w A)<|au c t;simp_all
def ztt(w:Zy)(A c a)(t:Zt):(aF (aF w A)<|au c t).setRow (V (Z' w)+1) a=aF (aF w A) (au a t):=by have h:=og (aF w A) c a t;simp_all
structure AU(w:Zy)(l:Zl)(W:Zy):Prop where
 fH:aP (V<|Z' w) w W
 sz:V (Z' w)+1<V (Z' W)
 b0:W.heap[V (Z' w)]?=ac (au AZ 368 (0,0))
 b1:W.heap[V (Z' w)+1]?=ac (au (bH (bv l)) 368 (0,0))
def AU.gC(w l):AU w l<|aF (aF w<|au AZ 368)<|au (bH (bv l)) 368:=by
 refine⟨((zt _ _).alloc (zd _) _).alloc Â _,Â,?_,?_⟩;all_goals (show((w.heap.push _).push _)[_]?=_)
 all_goals (simp only[jb,Xi])
 grind;grind
theorem AU.H(h:AU w l a)(k v):AU w (l.set k v)<|M a (zq (V (Z' w)+1) k)<|zc v:=by refine⟨h.fH.setCell Á _,Ö,?_,?_⟩;rw[jj _ _ _ _ Á];exact h.b0;rw[jx _ _ _ _ _ _ h.b1,Zj];congr 3;exact Hp l k v
def zps(w):aK prog 293 #[] w λX w'=>X=ai (bY (bH (kb Sn 256)))/\aP (V<|Z' w) w w':=by
 have B:=(zero_of_info xtd).1;have d:V AZ=V (bv<|xN 0).toArray:=by rw[WR,jd,xL,Lq]
 have g:(prog.info? 368).map (·.size)=ac (V (bv<|xN 0).toArray):=by rw[jd,xL,Lq];exact VZ
 generalize F:AZ=P at*;go_enter func293.1,Tryz.ntmps293;go_wp2_with (first|refine WN O 368 _ O (bv<|xN 0).toArray xm7 ?_|(refine Zo O 368 _ _ O (V (Z' w)+1) _ O O 368 P (zzt _ _ _ _) g d (all_oneCell_toArray<|VI _) ?_;rw[ztt]));subst F;go_loopw [2,3,5] (λp q i wr=>∃k:aD,k<=255/\i=J k/\p=zc (Pw k)/\q=zc (Qw k)/\AU w (xN k) wr) (λ_ _ i _=>bL (255-dV i));exact⟨0,À,O,O,O,AU.gC w _⟩;obtain⟨k,hk,rfl,rfl,rfl,I⟩:=hrel;by_cases a:k<255
 ·have C:(k:U)<255:=by omega
  have o:=xe<|VX k a;have r:=xe<|xrs k a;have l:AU w (xN<|k+1)<|M wr (zq (V (Z' w)+1)<|bL (e8<|Pw k))<|zc<|Lc<|Qw k:=by show AU _ _ _;rw[FK];exact I.H _ _
  have y:aX wr (zq (V (Z' w)+1)<|bL (e8<|Pw k))=ao:=xt _ _ _ _ _ I.b1;obtain⟨c,x⟩:∃c,N wr (zq (V (Z' w)+1)<|bL (e8<|Pw k))=ac c:=by
   have t:aN (Pw k)<V (bv<|xN k).toArray:=by rw[jd,xL,Lq];exact(Pw k).toNat_lt
   exact⟨_,by rw[xb _ _ _ _ _ _ I.b1,FK];exact xy t⟩
  have D:=uz<|Pw k;have W:=uQ<|Pw k;generalize Pw k=p at*;generalize Qw k=q at*;unfold Lc at l;go_wp2;refine(xzc q _).mono ?_;rintro X b⟨rfl,rfl⟩;go_wp2;refine(xzd q _).mono ?_;rintro X b⟨rfl,rfl⟩;go_wp2;refine(xze q _).mono ?_;rintro X b⟨rfl,rfl⟩;go_wp2;refine(xzf q _).mono ?_;rintro X b⟨rfl,rfl⟩;go_wp2;refine(Ph p _).mono ?_;rintro X b⟨rfl,rfl⟩;go_wp2;refine(xk6 q _).mono ?_;rintro X b⟨rfl,rfl⟩;go_wp2;go_roundw;exact⟨k+1,À,Å,by rw[o.o],by rw[r.o],l⟩;exact Ð
 obtain rfl:k=255:=À
 have m:=I.b1;rw[xsc,Lh,show(λi=>Bt.getD i 0)=Sn from O,show T Bt=256 from O]at m;have A:=I.b0;have f:(prog.info? 368).map (·.size)=ac (V (kb Sn 256).toArray):=by rw[AT];exact VZ
 have s:(kb Sn 256).toArray.all (·.oneCell')=ay:=Cy _ _;have h:V AZ=V (kb Sn 256).toArray:=by rw[WR,AT]
 have e:aP (V<|Z' w) w<|wr.setRow (V<|Z' w) (bH (kb Sn 256)):=I.fH.trans ⟨O,O,O,Â,λj z=>setRow_other _ _ _ _ À⟩;generalize G:bH (kb Sn 256)=u at*;have n:H<|bH (kb Sn 256)=u:=G;generalize AZ=P at*;go_wp2_with (first|refine J6 O 368 _ O (V (Z' w)+1) O 368 _ (0,0) _ m nA O f ?_|refine Zo O 368 _ _ O w.heap.size _ O O 368 _ A f h s ?_);exact ji (v:=bY u) (Jf O _ _ (V<|Z' w) 368 _ (0,0) _ O (Jr _ _ _ _ _ _ A) nA O f) O ⟨by rw[n.o],e⟩
end
section
attribute [local go_sem] zZ
def ia(w:Zy)(b:aD)(f:Zu)(n:aD)(t:Zt):Prop:=w.heap[b]?=ac (au (bH (kb f n)) t (0,0))
def ia.i{b f}(h:ia w b f n t)(hk:k<n):N w (zq b k)=(zc<|f k):=by rw[xb _ _ _ _ _ _ h,xyi _ _ _ hk]
def ia.eQ{b f}(h:ia w b f n t):aX w (zq b k)=ao:=xt _ _ _ _ _ h
theorem ia.cH{b f g}(h:ia w b f n t)(e:∀i,i<n->f i=g i):ia w b g n t:=by grind [ia,Pk]
theorem ia.H{b f}(h:ia w b f n t)(k v):ia (M w (zq b k)<|zc v) b (λi=>if i=k then v else f i) n t:=by unfold ia at*;rw[jx _ _ _ _ _ _ h,xtf]
def ia.dR{b a f}(h:ia w b f n t)(c:b≠a):ia (M w (zq a k) v) b f n t:=by grind [ia,jj]
def ia.Y{b f}(h:ia w b f n t)(c:aP B w w')(a:b<B):ia w' b f n t:=(c.block _ a).trans h
structure R3(w:Zy)(F x q:Zu)(p:aD)(j:Zt)(W:Zy):Prop where
 fH:aP (V<|Z' w) w W
 sz:V (Z' w)+1+1<V (Z' W)
 b0:ia W (V<|Z' w) F 16 359
 b1:ia W (V (Z' w)+1) x 16 359
 b2:ia W (V (Z' w)+1+1) q p j
def R3.gC(w a b F c)(d:Zt):R3 w a b F c d<|aF (aF (aF w<|au (bH (kb a 16)) 359)<|au (bH (kb b 16)) 359)<|au (bH (kb F c)) d:=by
 refine⟨(((zt _ _).alloc (zd _) _).alloc Â _).alloc Ç _,Â,?_,?_,?_⟩;all_goals (show(((w.heap.push _).push _).push _)[_]?=_)
 all_goals (simp[jb,Xi])
 grind;grind;grind
def R3.W{a b F}(h:R3 w a b F c d e):R3 w a b F c d e.drew:=⟨h.fH.drew,h.sz,h.b0,h.b1,h.b2⟩
def R3.fV{a b F}(h:R3 w a b F c d e)(n):R3 w a b F c d<|e.drewN n:=⟨below_drewN h.fH _,h.sz,h.b0,h.b1,h.b2⟩
def R3.Hq{a b F}(h:R3 w a b F c d e)(k v):R3 w (λi=>if i=k then v else a i) b F c d<|M e (zq (V<|Z' w) k)<|zc v:=
 ⟨h.fH.setCell (zd _) _,Ö,h.b0.H k v,h.b1.dR À,h.b2.dR À⟩
def R3.yt{a b F}(h:R3 w a b F c d e)(k v):R3 w a b (λi=>if i=k then v else F i) c d<|M e (zq (V (Z' w)+1+1) k)<|zc v:=
 ⟨h.fH.setCell Á _,Ö,h.b0.dR À,h.b1.dR À,h.b2.H k v⟩
def R3.sE{a f0' b F}(h:R3 w a b F c d f)(e:∀i,i<16->a i=f0' i):R3 w f0' b F c d f:=⟨h.fH,h.sz,h.b0.cH e,h.b1,h.b2⟩
def R3.qM{b c F f2' a}(h:R3 w b c F a d f)(e:∀i,i<a->F i=f2' i):R3 w b c f2' a d f:=⟨h.fH,h.sz,h.b0,h.b1,h.b2.cH e⟩
def zF(_:aD):Z8:=0
def Pd:(#[zb 0,zb 0,zb 0,zb 0,zb 0,zb 0,zb 0,zb 0,zb 0,zb 0,zb 0,zb 0,zb 0,zb 0,zb 0,zb 0]:Za)=bH (kb zF 16):=O
theorem Ls:(prog.info? 359).map (·.size)=ac 16:=Ä
def CE(f):(prog.info? 359).map (·.size)=ac (V (kb f 16).toArray):=by grind [AT,Ls]
def Ea{b}(c)(h:aP (V<|Z' w) w a)(d:V (Z' w)<=b):aP (V<|Z' w) w<|a.setRow b c:=h.trans ⟨O,O,O,Â,λj e=>setRow_other _ _ _ _ À⟩
def Hu(f g):V (kb f 16).toArray=V (kb g 16).toArray:=by rw[AT,AT]
def xK(f g:Zu)(k i:aD):Z8:=if i<k then f i^^^g i else f i
def Pm(f g w):aK prog 296 #[bY (bH (kb f 16)),bY (bH (kb g 16))] w λW w'=>W=ai (bY (bH (kb (pE f g) 16)))/\aP (V<|Z' w) w w':=by
 go_enter func296.1,Tryz.ntmps296;go_wp2;go_loopw [6] (λi wr=>∃k:aD,k<=16/\i=J k/\R3 w (xK f g k) g zF 16 359 wr) (λi _=>bL (16-dV i));exact⟨0,À,O,R3.gC w f g zF 16 359⟩;obtain⟨k,hk,rfl,I⟩:=hrel;have q:=I.sz;by_cases j:k<16
 ·have n:N wr (zq (V<|Z' w) k)=(zc<|f k):=by rw[I.b0.i j];simp[xK]
  have r:N wr (zq (V (Z' w)+1) k)=(zc<|g k):=I.b1.i j;have s:aX wr (zq (V<|Z' w) k)=ao:=I.b0.eQ;have o:R3 w (xK f g<|k+1) g zF 16 359<|M wr.drew (zq (V<|Z' w) k)<|zc<|f k^^^g k:=by refine(I.W.Hq k<|f k^^^g k).sE λi _=>?_;unfold xK;by_cases e:i=k;grind;grind
  generalize f k=a at*;generalize g k=b at*;go_wp2;go_still_tail 8,Ä;go_wp2;go_roundw;exact⟨k+1,À,Å,o⟩;exact Ð
 obtain rfl:k=16:=À
 have I:=I.sE (f0':=pE f g) (λi h=>by simp[xK,h,pE]);have d:=I.b0;have c:=I.b2;unfold ia at d c;have h:=CE<|pE f g;have n:=Cy (pE f g) 16;have m:=Hu zF<|pE f g;have l:=Ea (b:=(V (Z' w)+1+1)) (bH (kb (pE f g) 16)) I.fH À;generalize u:bH (kb (pE f g) 16)=x at*;have p:H<|bH (kb (pE f g) 16)=x:=u;go_wp2_with (first|refine J6 O 359 _ O w.heap.size O 359 _ (0,0) _ d ey O h ?_|refine Zo O 359 _ _ O (V (Z' w)+1+1) _ O O 359 _ c h m n ?_);exact ji (v:=bY x) (Jf O _ _ (V (Z' w)+1+1) 359 _ (0,0) _ O (Jr _ _ _ _ _ _ c) ey O h) O ⟨oD,l⟩
def xO(w:Zy)(g:aD):Prop:=∀i,i<256->N w (zq g i)=(zc<|Sn i)
def xO.Y(h:xO w g)(b:aP B w w')(a:g<B):xO w' g:=λi c=>(b.cell a).trans<|h i c
def xO.qN(h:xO w g)(x):N w (zq g<|bL (e8 x))=(zc<|Sx x):=by rw[FK,h _ x.toNat_lt,VY]
def xO.lt(h:xO w g):g<V (Z' w):=js<|h 0 Ã
def Hw(f:Zu)(k i:aD):Z8:=if i<k then iq f i else 0
def WP(f g w)(q:xO w g):aK prog 298 #[aU<|some ⟨g,0,aw⟩,bY (bH (kb f 16))] w λen w'=>en=ai (bY (bH (kb (iq f) 16)))/\aP (V<|Z' w) w w':=by
 go_enter func298.1,Tryz.ntmps298;go_wp2;go_loopw [8] (λi wr=>∃k:aD,k<=16/\i=Q bB k/\R3 w f zF (Hw f k) 16 359 wr) (λi _=>bL (16-dV i));exact⟨0,À,O,R3.gC w f zF zF 16 359⟩;obtain⟨k,hk,rfl,A⟩:=hrel;by_cases n:k<16
 ·obtain⟨r,G⟩:∃r,k%4=r:=⟨_,O⟩;obtain⟨m,F⟩:∃m,(k+r*4)%16=m:=⟨_,O⟩;have x:(k:U).tmod 4=(r:aD):=by rw[qo À];omega
  have z:((k:U)+(r:U)*4).tmod 16=(m:aD):=zdh
  have y:IntKind.i64.wrap ((r:U)*4)=(r:U)*4:=Í
  have B:IntKind.i64.wrap ((k:U)+(r:U)*4)=(k:U)+(r:U)*4:=Í
  have t:m<16:=À
  have u:(m:U)<16:=À
  have p:=A.b0.i t;have C:=(q.Y A.fH q.lt).qN<|f m;have D:aX wr ⟨V (Z' w)+1+1,k,aw⟩=ao:=A.b2.eQ;have W:=A.b2.i n;have I:=uz<|f m;have X:=uQ<|f m;have s:R3 w f zF (Hw f<|k+1) 16 359<|M wr.drew ⟨V (Z' w)+1+1,k,aw⟩<|Q .u8<|e8<|Sx<|f m:=by refine(A.W.yt k<|Sx<|f m).qM λi _=>?_;unfold Hw;by_cases e:i=k;grind [iq];grind
  generalize f m=a at*;generalize Hw f k k=c at*;go_wp2;go_still_tail 14,Ä;go_wp2;go_roundw;exact⟨k+1,À,Å,s⟩;exact Ð
 obtain rfl:k=16:=À
 have A:=A.qM (f2':=iq f) (λi j=>by simp[Hw,j]);have h:=A.b2;have d:=A.b1;unfold ia at h d;have j:=CE<|iq f;have p:=Cy (iq f) 16;have o:=Hu zF<|iq f;have l:=Ea (b:=(V (Z' w)+1)) (bH (kb (iq f) 16)) A.fH À;generalize hKK:bH (kb (iq f) 16)=P at*;have v:=hKK;go_wp2_with (first|refine J6 O 359 _ O (V (Z' w)+1+1) O 359 _ (0,0) _ h ey O j ?_|refine Zo O 359 _ _ O (V (Z' w)+1) _ O O 359 _ d j o p ?_);exact ji (Jf O _ _ (V (Z' w)+1) 359 _ (0,0) _ O (Jr _ _ _ _ _ _ d) ey O j) O ⟨Á,l⟩
def mK(f:Zu)(k i:aD):Z8:=if i<k then oZ f i else 0
def xtw(f w):aK prog 297 #[bY (bH (kb f 16))] w λen w'=>en=ai (bY (bH (kb (oZ f) 16)))/\aP (V<|Z' w) w w':=by
 go_enter func297.1,Tryz.ntmps297;go_wp2;go_loopw [4] (λi wr=>∃p:aD,p<=16/\p%4=0/\i=Q bB p/\R3 w f zF (mK f p) 16 359 wr) (λi _=>bL (16-dV i));exact⟨0,À,À,O,R3.gC w f zF zF 16 359⟩;obtain⟨p,X,P,rfl,inv⟩:=hrel;have I:=inv.sz;by_cases G:p<16
 ·have A:p+3<16:=by omega
  have hd:bR ((p:U)<16)=ay:=jm À;have h1:N wr ⟨V<|Z' w,p,aw⟩=(Q .u8<|e8<|f p):=inv.b0.i À;have y:N wr ⟨V<|Z' w,p+1,aw⟩=(Q .u8<|e8<|f<|p+1):=inv.b0.i À;have B:N wr ⟨V<|Z' w,p+2,aw⟩=(Q .u8<|e8<|f<|p+2):=inv.b0.i À;have c3:=inv.b0.i À;have v:∀j,j<4->oZ f (p+j)=f p^^^f (p+1)^^^f (p+2)^^^f (p+3)^^^f (p+j)^^^oO (f (p+j)^^^f (p+(j+1)%4)):=λj u=>by grind [oZ]
  have m:=inv;go_wp2;go_quiet (fail);go_wp2;obtain⟨a,D⟩:∃a,f p^^^f (p+1)^^^f (p+2)^^^f (p+3)=a:=⟨_,O⟩;rw[D]at v⊢;try rw[hd]
  obtain⟨t,h2⟩:∃t:Zy,t=wr:=⟨_,O⟩;go_loopw [31] (λi wq=>∃j:aD,j<=4/\i=Q bB j/\R3 w f zF (mK f<|p+j) 16 359 wq) (λi _=>bL (4-dV i));exact⟨0,À,O,by exact m.fV _⟩;obtain⟨j,u,rfl,inv⟩:=hrel;by_cases F:j<4
  ·obtain⟨q,hx⟩:∃q,(j+1)%4=q:=⟨_,O⟩;have s:p+j<16:=by omega
   have L:p+q<16:=À
   have W:IntKind.i64.wrap ((p:U)+(q:U))=(p:U)+(q:U):=Í
   have y:=inv.b0.i s;have B:=inv.b0.i L;have ho:aX wr ⟨V (Z' w)+1+1,p+j,aw⟩=ao:=inv.b2.eQ;have S:=inv.b2.i s;have x:∀wq,R3 w f zF (mK f<|p+j) 16 359 wq->R3 w f zF (mK f<|p+(j+1)) 16 359 (M wq ⟨V (Z' w)+1+1,p+j,aw⟩<|Q .u8<|e8<|a^^^f (p+j)^^^oO (f (p+j)^^^f (p+q))):=λwq h=>by refine(h.yt (p+j) _).qM λi _=>?_;unfold mK;by_cases e:i=p+j;simp_all;rw[aL e];by_cases r:i<p+j;rw[aT r,aT À];rw[aL r,aL À]
   have m:=inv;generalize f (p+j)=b at*;generalize f (p+q)=c at*;generalize mK f (p+j) (p+j)=z at*;go_wp2;go_quiet (fail);go_wp2;refine(Ph (b^^^c) _).mono ?_;rintro en W⟨rfl,rfl⟩;go_wp2;go_roundw;exact⟨j+1,À,Å,x _<|m.fV _⟩;exact Ý
  obtain rfl:j=4:=À
  go_wp2;go_roundw;exact⟨p+4,À,À,Å,inv⟩;exact Ý
 obtain rfl:p=16:=À
 have inv:=inv.qM (f2':=oZ f) (λi k=>by simp[mK,k]);have g:=inv.b2;have d:=inv.b1;unfold ia at g d;have k:=CE<|oZ f;have C:=Cy (oZ f) 16;have o:=Hu zF<|oZ f;have l:(wr.setRow (V (Z' w)+1) (bH (kb (oZ f) 16))).heap[(V (Z' w)+1)]?=ac (au (bH (kb (oZ f) 16)) 359 (0,0)):=Jr _ _ _ _ _ _ d;have n:=Ea (b:=(V (Z' w)+1)) (bH (kb (oZ f) 16)) inv.fH À;generalize hKK:bH (kb (oZ f) 16)=cs at*;have g':=hKK;go_wp2_with (first|refine J6 O 359 _ O (V (Z' w)+1+1) O 359 _ (0,0) _ g ey O k ?_|refine Zo O 359 _ _ O (V (Z' w)+1) _ O O 359 _ d k o C ?_);exact ji (Jf O _ _ (V (Z' w)+1) 359 _ (0,0) _ O l ey O k) O ⟨Â,n⟩
end
end P
end Go.Proofs.YtjnbhiamaabbgaaGreatDoor
