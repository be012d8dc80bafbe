import Derived.Test.YtjnbhiamaabbgabGreatDoorM1
import Derived.Deep.AppendLies
set_option linter.all false
set_option maxRecDepth 100000
set_option maxHeartbeats 8000000
section
variable{P:Prop}
def ç(h:P:=by simp[cB,xo hk,bN,d]):=h
def ô(h:P:=by simp[cB,xo hk,bN,b]):=h
def ù(h:P:=by rw[xf];omega):=h
def û(h:P:=by cases y):=h
def ah(h:P:=by rw[<-P];exact λ_=>O):=h
def zab(h:P:=by rw[xl];rfl):=h
def zb8(h:P:=by simp[iK,xo hk,bN]):=h
def zbq(h:P:=by have:=h.lt;let⟨D,c,y,x,q⟩:=h;exact⟨D,c,(a.dP m this b).trans y,x,q⟩):=h
def zbw(h:P:=by rw[xb _ _ _ _ _ _ h.ob,Jz,Wa<|by rw[tV];exact hk,Aa _ _ _ hk]):=h
def zc7(h:P:=by obtain⟨t,x,rfl,c⟩:=h;exact⟨t,x,O,b.i a c⟩):=h
def zcy(h:P:=by rw[n];simp[lX,g,Instr.sameBits,LK]):=h
def zdy(h:P:=by rw[Int.tdiv_eq_ediv_of_nonneg À];omega):=h
def zdz(h:P:=by rw[inv.i (p+j) À];unfold sF;rw[aL À]):=h
end
namespace Go.Proofs.YtjnbhiamaabbgabGreatDoor
open _root_ renaming Array->bE,Bool->ez,ByteArray->eM,Int->U,List->bA,Nat->Q,Option->dD,rfl->O,Array.setIfInBounds->aA,Array.size->V,Array.toList->eV,Bool.false->ao,Bool.true->M,ByteArray.data_extract->zaj,Decidable.decide->bR,Function.comp_def->zc1,Int.toNat->bL,Option.none->R,Option.some->Y,Or.inl->aJ,Or.inr->ac,UInt8.ofNat->mZ,UInt8.toNat->aN
open Go renaming Calls->aK,Code->pB,Ending->kH,Func->kL,MapEntry->eF,Program->cI,TypeId->oW,Value->eJ,World->dN,getObj->na,heap_alloc_new->xn,heap_setCell_other->jj,maxLen->pu,results->eR,run_convert_bytes_back->iy,setCell_eq_setRow->zdm,setRow_heap->Jr,Addr.add_mid->pS,Builtin.delete_->iT,Code.region->fG,Code.seq->gU,Ending.returned->ai,Exit.normal->eE,Obj.cells->au,Result.andThen->bN,Result.ok->dG,RowKit.Below.heap_setCell->zah,RowKit.Below.refl->zt,Sem.run->gc,TypeDesc.string->oC
open Instr renaming checkKey->iK,findKey->cB,findNow->eU,keyThatStays->lX,lookup->fC,mapUpdate->im,sameNow->jE
open IntKind renaming bits->fT,i64->bB,signed->fi,wrap->fS,wrap_i64->zh
open RowKit renaming Below->aP,Hid->H,intOf->dV
open Value renaming agg->bY,bool->bG,iface->iW,int->aD,map->fu,pointer->aU,slice->aB,string->ak,tuple->cE
open World renaming alloc->aF,cell?->N,frozen?->aX,heap->Z,setCell->ay,setCells->eW,setRow_alloc_new->og,size_alloc->xp
open List renaming drop_drop->zbd,drop_take->Xb,length->T,length_append->zx,length_take->xf,replicate->bS,take->eI,take_of_length_le->qp,take_succ_eq_append_getElem->zp,toArray->bH
namespace P
variable{w w' a w1:Zy}{b g c n o m z:Q}{t:Zt}{r l:Zl}{Z':Ze}{tv v:Zv}{D:bA eF}
open A.Tryq Go.RowKit
section
attribute[local go_sem] zZ
def wd(f:Zu)(c:Z8)(k j:Q):Z8:=if j<k then lC f c (j+4*((k-1-j)/4))else yv f c j
def xvu(f c k):wd f c k (k%4)^^^f k=lC f c k:=by grind [wd,Pc]
def XH(f c k j)(a:j<4):(if j=k%4 then lC f c k else wd f c k j)=wd f c (k+1) j:=by grind [wd]
def nK(f:Zu)(c:Z8)(k i:Q):Z8:=if i<k then lC f c i else f i
def SN(w':Zy)(b g:Q)(A y x q:Z8):Prop:=N w' (K b 12)=zc A/\N w' (K b 13)=zc y/\N w' (K b 14)=zc x/\N w' (K b 15)=zc q/\N w' (K g<|bL (e8 A))=(zc<|Sx A)/\N w' (K g<|bL (e8 y))=(zc<|Sx y)/\N w' (K g<|bL (e8 x))=(zc<|Sx x)/\N w' (K g<|bL (e8 q))=(zc<|Sx q)
def SN.ac{B c d e f}(h:SN w b g c d e f)(a:aP B w w')(i:b<B)(j:g<B):SN w' b g c d e f:=
 ⟨(a.cell i).trans h.1,(a.cell i).trans h.2.1,(a.cell i).trans h.2.2.1,(a.cell i).trans h.c.1,(a.cell j).trans h.d.1,(a.cell j).trans h.e.1,(a.cell j).trans h.f.1,(a.cell j).trans h.g⟩
def xaj(f c g w)(hd:xO w g):aq 173 #[zq g,bY (bH (kb f 16)),zc c] w (bY (bH (kb (lC f c) 16))):=by
 let hg:=hd.lt;go_enter func173.1,Tryz.ntmps173;go_upto_region 1 with fail
 let⟨a,e⟩:=JP<|aF (aF w<|au (bH (kb f 16)) 184) (au (bH (kb zF 16)) 184);let ho:aP (V<|Z w) w a:=by rw[<-e];exact((zt ..).alloc (zd _) _).alloc Â _
 let bc:V (Z a)=V (Z w)+1+1:=by rw[<-e];simp
 let C:ia a (V<|Z w) f 16 184:=by rw[<-e];show((w.heap.push _).push _)[_]?=_;simp only[jb,Xi];rw[aL À,aT bD]
 have Z':R3 w f zF (yv f c) 4 302 (aF a<|au #[zc<|Sx (f 13)^^^c,zc<|Sx<|f 14,zc<|Sx<|f 15,zc<|Sx<|f 12] 302).drew:=by rw[<-e];exact(R3.gC w f zF (yv f c) 4 302).W
 have d:=hd.ac ho hg;have F:N a (K (V<|Z w) 12)=(zc<|f 12):=C.i Ã;have c13:N a (K (V<|Z w) 13)=(zc<|f 13):=C.i Ã;have G:N a (K (V<|Z w) 14)=(zc<|f 14):=C.i Ã;have cs:N a (K (V<|Z w) 15)=(zc<|f 15):=C.i Ã;have o:g<V (Z a):=À
 have ba:∀X,xO (aF a X) g:=λX=>d.ac ((zt (V<|Z a) a).alloc (zd _) X) o;have u:SN a (V<|Z w) g (f 12) (f 13) (f 14)<|f 15:=⟨F,c13,G,cs,d.qN _,d.qN _,d.qN _,d.qN _⟩;have t:∀D,aP (V<|Z a) a D->SN D (V<|Z w) g (f 12) (f 13) (f 14) (f 15):=λD hb=>u.ac hb À o;have bd:=uz<|f 12;have be:=uz<|f 13;have bf:=uz<|f 14;have bg:=uz<|f 15;have bh:=uQ<|f 12;have bi:=uQ<|f 13;have bj:=uQ<|f 14;have bk:=uQ<|f 15;unfold SN at u t;generalize f 12=a12 at*;generalize f 13=a13 at*;generalize f 14=a14 at*;generalize f 15=a15 at*;try rw[Pd]
 try rw[e]
 have B:∀X,aP (V<|Z a) a<|aF a X:=λX=>(zt ..).alloc (zd _) X;go_region_held3 (λw'=>N w' (K (V<|Z w) 12)=zc a12/\N w' (K (V<|Z w) 13)=zc a13/\N w' (K (V<|Z w) 14)=zc a14/\N w' (K (V<|Z w) 15)=zc a15/\N w' (K g<|bL (e8 a12))=(zc<|Sx a12)/\N w' (K g<|bL (e8 a13))=(zc<|Sx a13)/\N w' (K g<|bL (e8 a14))=(zc<|Sx a14)/\N w' (K g<|bL (e8 a15))=(zc<|Sx a15)) (first|exact u|exact t _ (B _).drew|exact t _ (B _)|(refine t _ ?_;(iterate 4 refine Below.setCell ?_ (by show a.heap.size<=_;omega) _);first|exact(B _).drew|exact B _)) (fail);generalize hw3:(aF a<|au #[zc<|Sx a13^^^c,zc<|Sx a14,zc<|Sx a15,zc<|Sx a12] 302).drew=D at*;go_wp2;go_loopw [40] (λi wr=>∃k:Q,k<=16/\i=J k/\R3 w (nK f c k) zF (wd f c k) 4 302 wr) (λi _=>bL (16-dV i));exact⟨0,À,O,Z'⟩;obtain⟨k,hk,rfl,inv⟩:=hrel;have g':=inv.sz;by_cases q:k<16
 ·let⟨r,P⟩:=JP<|k%4;have e1:(k:U).tmod 4=(r:Q):=by rw[qo À];omega
  have A:r<4:=À
  have r5:(r:U)<4:=À
  have I:N wr (K (V<|Z w) k)=(zc<|f k):=by rw[inv.b0.i q];simp[nK]
  have h2:N wr (K (V (Z w)+1+1) r)=(zc<|wd f c k r):=inv.b2.i A;have h3:aX wr (K (V (Z w)+1+1) r)=ao:=inv.b2.eQ;have hv:wd f c k r^^^f k=lC f c k:=by rw[<-P];exact xvu f c k
  have v':R3 w (nK f c k) zF (wd f c<|k+1) 4 302 (ay wr (K (V (Z w)+1+1) r)<|zc<|lC f c k).drew:=by refine((inv.yt r<|lC f c k).qM λj hj=>?_).W;rw[<-P];exact XH f c k j hj
  have W:∀S,R3 w (nK f c k) zF (wd f c<|k+1) 4 302 S->R3 w (nK f c<|k+1) zF (wd f c<|k+1) 4 302 (ay S (K (V<|Z w) k)<|zc<|lC f c k):=λS h=>by refine(h.Hq k<|lC f c k).sE λi _=>?_;grind [nK]
  have HW:H<|wd f c (k+1) r=lC f c k:=by show _=_;rw[<-XH f c k r A,aT P.symm]
  generalize wd f c k r=x at*;generalize hfk:f k=y at*;generalize lC f c k=v at*;go_wp2;go_still_tail 9,Ä;go_upto_region 6 with fail
  have inv:=v';generalize(ay wr (K (V (Z w)+1+1) r)<|zc v).drew=w4 at*;have g':=inv.sz;have I:N w4 (K (V (Z w)+1+1) r)=zc v:=by rw[inv.b2.i A,HW.o]
  have h2:N w4 (K (V<|Z w) k)=(zc<|nK f c k k):=inv.b0.i q;have h3:aX w4 (K (V<|Z w) k)=ao:=inv.b0.eQ;have h1:=W w4 inv;generalize nK f c k k=z at*;go_wp2;go_roundw
  ·first|exact⟨k+1,À,Å,h1⟩|((repeat apply Exists.intro);exact⟨⟨k+1,À,Å,h1⟩,rfl⟩)
  exact Ð
 obtain rfl:k=16:=À
 have inv:=inv.sE (f0':=lC f c) (λi p=>by simp[nK,p]);have n:=inv.b0;have l:=inv.b1;have m:=inv.fH;unfold ia at n l;have p:=CE<|lC f c;have I:=Cy (lC f c) 16;have es:=Hu zF<|lC f c;have s:(wr.setRow (V (Z w)+1) (bH (kb (lC f c) 16))).heap[(V (Z w)+1)]?=Y (au (bH (kb (lC f c) 16)) 184 (0,0)):=Jr _ _ _ _ _ _ l;have L:=Ea (b:=(V (Z w)+1)) (bH (kb (lC f c) 16)) m À;generalize hKK:bH (kb (lC f c) 16)=hx at*;have w2:H<|bH (kb (lC f c) 16)=hx:=hKK;clear hKK;go_wp2_with (first|refine J6 O 184 _ O w.heap.size O 184 _ (0,0) _ n ey O p ?_|refine Zo O 184 _ _ O (V (Z w)+1) _ O O 184 _ l p es I ?_);exact ji (v:=bY hx) (Jf O _ _ (V (Z w)+1) 184 _ (0,0) _ O s ey O p) O ⟨by rw[<-w2.o],L⟩
end
section
attribute[local go_sem] zZ zn
def cF(k:Zu)(r i:Q):Z8:=if i<256 then Sn i else if i<256+16*(r+1)then kY k ((i-256)/16) ((i-256)%16)else 0
def wE(i:Q):Z8:=if i<256 then Sn i else 0
def xm8:prog.built 246 [(0,bY (bH (kb Sn 256)))]=Y (bH (kb wE 432)):=Ä
def LC{B b a}(c:B<=b):∀(y:Ze) (o:Q) (w:Zy),aP B a w->aP B a (eW w b o y)
 |[],_,_,h=>h|v::r,o,w,h=>by rw[eW];exact LC c r (o+1) _<|h.setCell c _
def XQ(b):∀(y:Ze) (o:Q) (w:Zy),V (eW w b o y).heap=V (Z w)
 |[],_,_=>rfl|v::r,o,w=>by rw[eW,XQ b r (o+1) _];simp
def XB(f n):∀v∈kb f n,v.oneCell'=M:=by intro v a;simp only[kb,Xe]at a;obtain⟨i,_,rfl⟩:=a;rfl
def xte(h m):kb h (m+1)=zc (h 0)::kb (λi=>h<|i+1) m:=by grind [kb,List.range_succ_eq_map,zc1]
def ia.iY:∀(m:Q) {w:Zy} {b n:Q} {f:Zu} {t:Zt} (_:ia w b f n t) (o:Q) (h:Zu),ia (eW w b o<|kb h m) b (λi=>if o<=i/\i<o+m then h (i-o)else f i) n t
 |0,w,b,n,f,t,y,o,h=>by refine(show ia w b f n t from y).cH λi _=>?_;grind|m+1,w,b,n,f,t,y,o,h=>by rw[xte,eW];refine(ia.iY m (y.H o<|h 0) (o+1) λi=>h<|i+1).cH λi _=>?_;grind
def ia.mE{f h}(d:ia w b f n t)(ho:o+m<=n)(e:∀i,i<m->f (o+i)=h i):w.rangeAt b o<|kb h m:=λj v c=>by
 let a:j<m:=by let:=(Wb.1 c).1;rwa[tV]at this
 rw[d.i À,e j a,<-c,Aa _ _ _ a]
def ia.tW{f}(a:ia w b f n t)(ho:o+m<=n):w.there b o m:=λj c=>⟨by rw[a.i À];rfl,a.eQ⟩
def ia.yz{r k}(h:ia w g (cF k r) 432 t):xO w g:=λi a=>by rw[h.i À];grind [cF]
def FR(k r q j)(b:q<=r)(a:j<16):cF k r (256+16*q+j)=kY k q j:=by grind [cF]
theorem xsd(l)(c:T l=16):((kb wE 432).take 256++bv l++(kb wE 432).drop (256+16))=kb (cF (λi=>l.getD i 0) 0) 432:=by
 apply Ye;intro i;by_cases b:i<256;rw[jq,Wa<|by grind [tV],Kx,aT b,Aa _ _ _ À,Aa _ _ _ À];grind [cF,wE];let a:T ((kb wE 432).take 256)=256:=by rw[xf,tV];rfl
 by_cases d:i<272;rw[jq,Xp À,Wa<|by rw[xL,a];omega,a,Lh,Aa _ _ _ À,Aa _ _ _ À];unfold cF;rw[aL b,aT À,show(i-256)/16=0 by omega,show(i-256)%16=i-256 by omega];rfl;rw[Xp<|by grind [xL],List.getElem?_drop,zx,a,xL,c,show 256+16+(i-(256+16))=i by omega];grind [Aa,cF,wE,tV]
def ztl(l)(hl:T l=16)(w):aK prog 110 #[E l] w λen w'=>∃g,en=ai (zq g)/\V (Z w)<=g/\ia w' g (cF (λi=>l.getD i 0) 10) 432 246/\aP (V<|Z w) w w':=by
 go_enter func110.1,Tryz.ntmps110;go_wp2;refine(zps _).mono ?_;rintro en w1⟨rfl,b⟩;have c:=b.alloc b.size<|au (bH (kb wE 432)) 246;have z:=xn w1<|au (bH (kb wE 432)) 246;have ho:V (Z w1)<V (aF w1<|au (bH (kb wE 432)) 246).heap:=Â
 have I:∀s:Zy,s.heap[V (Z w1)]?=Y (au (bH ((kb wE 432).take 256++bv l++(kb wE 432).drop (256+16))) 246 (0,0))->ia s (V<|Z w1) (cF (λi=>l.getD i 0) 0) 432 246:=λs h=>by grind [ia,xsd]
 have D:=AT wE 432;generalize hcc:kb wE 432=cc at*;have d:prog.built 246 [(0,bY (bH (kb Sn 256)))]=Y (bH cc):=by rw[xm8,hcc]
 generalize kb Sn 256=bx at*;go_upto_region 2 with(refine WN O 246 _ O cc.toArray d ?_)
 generalize aF w1 (au (bH cc) 246)=r at*;go_wp2_with (refine KZ O _ _ 100 9 O 5 cT K3 (V<|Z w1) 256 16 16 (st l) O O _ 246 z ?c1 ?c2 (V<|Z w) w c b.size ?_)
 case c1=>rw[zn];omega
 case c2=>rw[D,zn];omega
 intro s B n;let e:=I s (by rw[B,jq];rfl);let p:=b.size;generalize hK:(λi=>l.getD i 0)=key at*;let⟨g,u⟩:=JP<|V (Z w1);rw[u]at e p⊢;go_wp2;go_loopw [4,16] (λco i wr=>∃k:Q,k<=10/\i=J k/\co=zc (tC k)/\ia wr g (cF key k) 432 246/\aP (V<|Z w) w wr) (λ_ i _=>bL (10-dV i));exact⟨0,À,O,O,e,n⟩;obtain⟨k,hk,rfl,rfl,q,x⟩:=hrel;by_cases cs:k<10
 ·have i1:(k:U)<10:=À;have i2:(k:U)<11:=À
  have i3:(k:U)+1<11:=À
  have i4:(0:U)<=(k:U)+1:=À
  have i5:IntKind.i64.wrap ((k:U)+1)=(k:U)+1:=Í
  have i6:bL ((k:U)+1)=k+1:=À
  let⟨f,y⟩:=JP<|kY key k;let⟨co,o⟩:=JP<|tC k;have P:H<|kY key (k+1)=lC f co:=by show lC (kY key k) (tC k)=_;rw[y,o]
  have A:H<|tC (k+1)=oO co:=by show oO (tC k)=_;rw[o]
  have v:ia wr.drew g (cF key k) 432 246:=q;have t:∀i,i<432->(if 256+(k+1)*16<=i/\i<256+(k+1)*16+16 then lC f co (i-(256+(k+1)*16))else cF key k i)=cF key (k+1) i:=λi hi=>by unfold cF;by_cases G:i<256;grind;rw[aL G,aL G];by_cases Z':i<256+16*(k+1);grind;by_cases hd:i<256+16*(k+1+1);rw[aT À,aT hd,show(i-256)/16=k+1 by omega,show(i-256)%16=i-(256+(k+1)*16) by omega,P.o];grind
  have F:∀w',ia w' g (cF key k) 432 246->w'.rangeAt g (256+k*16) (kb f 16)/\w'.there g (256+(k+1)*16) 16:=λw' h=>⟨h.mE À λj C=>by rw[show 256+k*16+j=256+16*k+j by omega,FR key k k j (zd _) C,y],h.tW À⟩;have h1:∀w',ia w' g (cF key k) 432 246->ia (eW w' g (256+(k+1)*16)<|kb (lC f co) 16) g (cF key<|k+1) 432 246/\(eW w' g (256+(k+1)*16)<|kb (lC f co) 16).rangeAt g (256+k*16) (kb f 16)/\(eW w' g (256+(k+1)*16)<|kb (lC f co) 16).there g (256+(k+1)*16) 16:=λw' h=>by have a:=(h.iY 16 (256+(k+1)*16)<|lC f co).cH t;refine⟨a,a.mE À λj C=>?_,a.tW À⟩;rw[show 256+k*16+j=256+16*k+j by omega,FR key (k+1) k j À C,y]
  have g':(prog.info? 184).map (·.size)=Y (T (kb f 16)):=by rw[tV];exact Ls
  have S:(prog.info? 184).map (·.size)=Y (T (kb (lC f co) 16)):=by rw[tV];exact Ls
  have v':=tV f 16;have es:=tV (lC f co) 16;have W:=XB f 16;have X:=XB (lC f co) 16;have L:∀w',xO w' g->aq 173 #[zq g,bY (bH (kb f 16)),zc co] w' (bY (bH (kb (lC f co) 16))):=λw' h=>xaj f co g w' h;rw[o];generalize kb f 16=X1 at*;generalize kb (lC f co) 16=X2 at*;have hu:=ey;go_wp2;go_region_held3 (λw'=>w'.rangeAt g (256+k*16) X1/\w'.there g (256+(k+1)*16) 16) (first|exact(F wr.drew v)|exact hx|grind)
   (first
    |(go_at_call 173;refine(L _<|v.yz).mono ?_;rintro en r⟨rfl,c⟩;have m:=v.ac c (js<|q.i (k:=0) Ã);have hx:=F r m;have T2:=h1 r m;have n:aP (V<|Z w) w<|eW r g (256+(k+1)*16) X2:=LC p _ _ _<|x.drew.trans<|c.mono x.size))
  generalize hw5:eW r g (256+(k+1)*16) X2=w5 at*;go_wp2;refine(Ph co _).mono ?_;rintro en w6⟨rfl,rfl⟩;go_wp2;go_roundw;exact⟨k+1,À,Å,by rw[A.o],T2.1,n⟩;exact Ð
 obtain rfl:k=10:=À
 go_wp2;go_ret;exact⟨g,O,p,by rw[hK];exact q,x⟩
end
section
structure EI(w:Zy)(g:Q)(k C:Zu)(W:Zy):Prop where
 fH:aP (V<|Z w) w W
 sz:V (Z w)+1<V (Z W)
 CG:g<V (Z w)
 b0:ia W (V<|Z w) C 16 184
 b1:ia W (V (Z w)+1) zF 16 184
 rc:ia W g (cF k 10) 432 246
def EI.W{b k a}(h:EI w g k a b):EI w g k a b.drew:=⟨h.fH.drew,h.sz,h.CG,h.b0,h.b1,h.rc⟩
def EI.gN{c k a}(h:EI w g k a c)(b:aP (V<|Z c) c w'):EI w g k a w':=
 let e:=h.sz;let d:=h.CG
 ⟨h.fH.trans<|b.mono h.fH.size,zm h.sz b.size,h.CG,h.b0.ac b À,h.b1.ac b À,h.rc.ac b À⟩
def EI.gC(w g y x)(h:ia w g (cF y 10) 432 246):EI w g y x<|aF (aF w<|au (bH (kb x 16)) 184)<|au (bH (kb zF 16)) 184:=by
 let b:=js (h.i (k:=0) Ã);let a:aP (V<|Z w) w<|aF (aF w<|au (bH (kb x 16)) 184)<|au (bH (kb zF 16)) 184:=((zt ..).alloc (zd _) _).alloc Â _;refine⟨a,Â,b,?_,?_,h.ac a b⟩;all_goals (show((w.heap.push _).push _)[_]?=_)
 all_goals (simp only[jb,Xi])
 grind;grind
theorem XP(b):∀(y:Ze) (o:Q) (w:Zy) (j:Q),j≠b->(eW w b o y).heap[j]?=w.heap[j]?
 |[],_,_,_,_=>rfl|v::r,o,w,j,h=>by rw[eW,XP b r (o+1) _ j h,jj _ _ _ _ h]
def ia.qO{a f}{c}(h:ia w b f n t)(d:b≠a):ia (eW w a o c) b f n t:=by grind [ia,XP]
def ia.all{f}(h:ia w b f 16 t)(x):ia (eW w b 0<|kb x 16) b x 16 t:=
 (h.iY 16 0 x).cH λi a=>Á
def Px(w:Zy)(g:Q)(k _cur f:Zu)(W:Zy):Prop:=EI w g k f W
def Py(w:Zy)(_g:Q)(_key _cur f:Zu)(W:Zy):Prop:=aP (V<|Z w) w W/\ia W (V (Z w)+1) f 16 184
def EI.yx{b k a}(h:EI w g k a b)(f):Px w g k a f<|eW b (V<|Z w) 0<|kb f 16:=
 let c:=h.CG;show EI w g k f _ from⟨LC (zd _) _ _ _ h.fH,by rw[XQ];exact h.sz,h.CG,h.b0.all f,h.b1.qO À,h.rc.qO À⟩
def EI.Eb{b k a}(h:EI w g k a b)(f):Py w g k a f<|eW b (V (Z w)+1) 0<|kb f 16:=
 ⟨LC À _ _ _ h.fH,h.b1.all f⟩
def LB(x:Addr):Sem Zv:=loadVar 184 x
def SB(x:Addr)(v:Zv):Sem Unit:=storeVar 184 x v
def xrq(x):loadVar 184 x=LB x:=O
def xru(x v):storeVar 184 x v=SB x v:=O
attribute[local go_sem ↓] xrq xru
def FU(w b o f)(h:w.rangeAt b o<|kb f 16):(LB<|K b o).run prog w=dG (bY (bH (kb f 16))) w:=
 run_loadVar_mid w b o 184 _ _ h ey O (by grind [tV,Ls])
def Ps(w b o f)(h:w.there b o 16):(SB (K b o)<|bY (bH (kb f 16))).run prog w=dG () (eW w b o<|kb f 16):=
 run_storeVar_mid w b o 184 (bH (kb f 16)) (by rw[AT];exact h) (CE f) (Cy f 16)
def CK(n:Q):pB->dD pB
 | fG id y b=>if id=n then Y (fG id y b)else R
 | gU a b=>match CK n a with
  |some c=>Y c|none=>CK n b
 | .cond _ a b=>match CK n a with
  |some c=>Y c|none=>CK n b
 | .block _ c=>CK n c| .loop c=>CK n c
 | .scope c=>CK n c|_=>R
def Pv(n:Q)(f:kL):pB:=(f.body.bind<|CK n).getD .skip
def xnl{I key x}(inv:EI w g key x I)(P c1 c2 A S h2 c8 hx D ho F c13 b c d e f i k l m n o p q r c28 c29 s t v y z B c36)
  (hQ:∀(u6 u7 u8 u9 u10 u11 u12:Zv) (w9:Zy),Px w g key x (pE x<|kY key 0) w9->P eE ⟨#[zq g,c1,c2,zq (V<|Z w),zq<|V (Z w)+1,A,u6,u7,u8,u9,u10,u11,u12,c13,b,c,d,e,f,i,k,l,m,n,o,p,q,r,c28,c29,s,t,v,y,z,B,c36],[]⟩ w9):
  Code.wp prog (Pv 1 Tryz.f111) P ⟨#[zq g,c1,c2,zq (V<|Z w),zq<|V (Z w)+1,A,S,h2,c8,hx,D,ho,F,c13,b,c,d,e,f,i,k,l,m,n,o,p,q,r,c28,c29,s,t,v,y,z,B,c36],[]⟩ I:=by
 conv=>arg 2;whnf
 apply wp_region_noPanic;have L:∀a,EI w g key x a->a.rangeAt g (256) (kb (kY key 0) 16)/\a.there (V<|Z w) 0 16:=λa h=>⟨h.rc.mE À (λj u=>by first|exact FR key 10 (0) j À u|(rw[show 256+j=256+16*(0)+j by omega];exact FR key 10 (0) j À u)),h.b0.tW À⟩;have wr:=xe λa (h:EI w g key x a)=>h.yx<|pE x<|kY key 0;have R0:I.drew.rangeAt (V<|Z w) 0<|kb x 16:=inv.W.b0.mE À (λj u=>Á);have C:=Pm x<|kY key 0;have W:=λa=>FU a (V<|Z w) 0 x;have g':=λa=>FU a g (256)<|kY key 0;have X:=λa=>Ps a (V<|Z w) 0<|pE x<|kY key 0;generalize kb _ 16=XX at*;generalize kb _ 16=KK at*;generalize kb x 16=X0 at*;have hd:=inv.W;have cs:=(L _ hd).1;go_region_with (first
   |(go_at_call 175;apply(C _).mono;rintro Z' v2⟨rfl,G⟩;have h1:=(hd).gN G;have v':=(L _ h1).2;clear cs R0))
 all_goals (
  have inv:=wr.o _ h1;grind [NoPanic.normal])
def xnm{t key a}(hn:n<9)(inv:EI w g key a t)(u c1 c2 W X c8 P c d e c13 f i k B C D h2 F G hx I ho wr L c28 c29 l m o p q r c36)
  (hQ:∀(u17 u18 u19 u20 u21 u22 u23 u24 u25 u26 u27:Zv) (w9:Zy),Px w g key a (pE (oZ<|iq a)<|kY key<|n+1) w9->u eE ⟨#[zq g,c1,c2,zq (V<|Z w),zq<|V (Z w)+1,J<|(n:U)+1,W,X,c8,P,c,d,e,c13,f,i,k,u17,u18,u19,u20,u21,u22,u23,u24,u25,u26,u27,c28,c29,l,m,o,p,q,r,c36],[]⟩ w9):
  Code.wp prog (Pv 5 Tryz.f111) u ⟨#[zq g,c1,c2,zq (V<|Z w),zq<|V (Z w)+1,J<|(n:U)+1,W,X,c8,P,c,d,e,c13,f,i,k,B,C,D,h2,F,G,hx,I,ho,wr,L,c28,c29,l,m,o,p,q,r,c36],[]⟩ t:=by
 have i2:(n:U)+1<11:=À
 have i3:(0:U)<=(n:U)+1:=À
 have i4:bL ((n:U)+1)=n+1:=À
 have hg:=inv.CG;conv=>arg 2;whnf
 refine wp_region_noPanic ?_;have s:∀b,EI w g key a b->b.rangeAt g (256+(n+1)*16) (kb (kY key<|n+1) 16)/\b.there (V<|Z w) 0 16:=λb h=>⟨h.rc.mE À (λj S=>by first|exact FR key 10 ((n+1)) j À S|(rw[show 256+(n+1)*16+j=256+16*((n+1))+j by omega];exact FR key 10 ((n+1)) j À S)),h.b0.tW À⟩;have HT:=xe λb (h:EI w g key a b)=>h.yx<|pE (oZ<|iq a)<|kY key<|n+1;have R0:t.drew.rangeAt (V<|Z w) 0<|kb a 16:=inv.W.b0.mE À (λj S=>Á);have y:=WP a g;have x:=xtw<|iq a;have z:=Pm (oZ<|iq a)<|kY key<|n+1;have bb:=λb=>FU b (V<|Z w) 0 a;have ba:=λb=>FU b g (256+(n+1)*16)<|kY key<|n+1;have bc:=λb=>Ps b (V<|Z w) 0<|pE (oZ<|iq a)<|kY key<|n+1;generalize kb (pE (oZ<|iq a)<|kY key<|n+1) 16=XX at*;generalize kb (kY key<|n+1) 16=KK at*;generalize kb (oZ<|iq a) 16=X2 at*;generalize kb (iq a) 16=X1 at*;generalize kb a 16=X0 at*;have v:EI w g key a t.drew:=inv.W;have S0:=(s _ v).1;go_region_with (first
   |(go_at_call 177;refine(y _ (v).rc.yz).mono ?_;rintro Z' v2⟨rfl,cs⟩;have A:=(v).gN cs;have S2:=(s _ A).1;clear S0 R0)
   |(go_at_call 176;refine(x _).mono ?_;rintro Z' v3⟨rfl,g'⟩;have hd:=(A).gN g';have S3:=(s _ hd).1;clear S2)
   |(go_at_call 175;refine(z _).mono ?_;rintro Z' v4⟨rfl,v'⟩;have h1:=(hd).gN v';have S4:=(s _ h1).2;clear S3))
 all_goals (
  have inv:=HT.o _ h1;grind [NoPanic.normal])
def xnn{u key a}(inv:EI w g key a u)(P c1 c2 S A hd c8 h1 c d e c13 f i k l m n o p q r s t v x c28 c29 D ho F G wr I c36)
  (hQ:∀(u28 u29 u30 u31 u32 u33 u34 u35 u36:Zv) (w9:Zy),Py w g key a (pE (iq a)<|kY key 10) w9->P eE ⟨#[zq g,c1,c2,zq (V<|Z w),zq<|V (Z w)+1,S,A,hd,c8,h1,c,d,e,c13,f,i,k,l,m,n,o,p,q,r,s,t,v,x,u28,u29,u30,u31,u32,u33,u34,u35,u36],[]⟩ w9):
  Code.wp prog (Pv 6 Tryz.f111) P ⟨#[zq g,c1,c2,zq (V<|Z w),zq<|V (Z w)+1,S,A,hd,c8,h1,c,d,e,c13,f,i,k,l,m,n,o,p,q,r,s,t,v,x,c28,c29,D,ho,F,G,wr,I,c36],[]⟩ u:=by
 conv=>arg 2;whnf
 apply wp_region_noPanic;have z:∀b,EI w g key a b->b.rangeAt g (416) (kb (kY key 10) 16)/\b.there (V (Z w)+1) 0 16:=λb h=>⟨h.rc.mE À (λj L=>by first|exact FR key 10 (10) j À L|(rw[show 416+j=256+16*(10)+j by omega];exact FR key 10 (10) j À L)),h.b1.tW À⟩;have W:=xe λb (h:EI w g key a b)=>h.Eb<|pE (iq a)<|kY key 10;have R0:u.drew.rangeAt (V<|Z w) 0<|kb a 16:=inv.W.b0.mE À (λj L=>Á);have B:=WP a g;have C:=Pm (iq a)<|kY key 10;have bb:=λb=>FU b (V<|Z w) 0 a;have ba:=λb=>FU b g (416)<|kY key 10;have bc:=λb=>Ps b (V (Z w)+1) 0<|pE (iq a)<|kY key 10;generalize kb (pE (iq a)<|kY key 10) 16=XX at*;generalize kb (kY key 10) 16=KK at*;generalize kb (iq a) 16=X1 at*;generalize kb a 16=X0 at*;have y:=inv.W;have X:=(z _ y).1;go_region_with (first
   |(go_at_call 177;apply(B _ (y).rc.yz).mono;rintro Z' v2⟨rfl,cs⟩;have h2:=(y).gN cs;have g':=(z _ h2).1;clear X R0)
   |(go_at_call 175;apply(C _).mono;rintro Z' v3⟨rfl,v'⟩;have hx:=(h2).gN v';have S3:=(z _ hx).2;clear g'))
 all_goals (
  have inv:=W.o _ hx;grind [NoPanic.normal])
def zzd(key x g w)(e:ia w g (cF key 10) 432 246):aq 111 #[zq g,bY (bH (kb x 16))] w (bY (bH (kb (Yr key x) 16))):=by
 have inv:=EI.gC w g key x e;go_enter func111.1,Tryz.ntmps111;go_upto_region 1 with fail
 try rw[Pd]
 generalize(aF w _).alloc _=wa at*;apply xnl inv _ _ _ _ _ _ _ _ _ _ _ _ _ _ _ _ _ _ _ _ _ _ _ _ _ _ _ _ _ _ _ _ _ _ _;intro L u W S f h j X inv;have inv:=inv;go_wp2;go_loopw [5] (λi wr=>∃n:Q,n<=9/\i=J ((n:U)+1)/\EI w g key (FG key x n) wr) (λi _=>bL (10-dV i));exact⟨0,À,O,inv⟩;obtain⟨n,P,rfl,inv⟩:=hrel;by_cases c:n<9
 ·have A:(n:U)+1<10:=À;go_upto_region 5 with fail
  apply xnm c inv _ _ _ _ _ _ _ _ _ _ _ _ _ _ _ _ _ _ _ _ _ _ _ _ _ _ _ _ _ _ _ _ _ _;intro k l m o p q r s t v y d inv;have inv:=inv;go_wp2;go_roundw
  ·first|exact⟨n+1,À,Å,inv⟩|((repeat apply Exists.intro);exact⟨⟨n+1,À,Å,inv⟩,rfl⟩)
  exact Ð
 obtain rfl:n=9:=À
 go_upto_region 6 with fail
 apply xnn inv _ _ _ _ _ _ _ _ _ _ _ _ _ _ _ _ _ _ _ _ _ _ _ _ _ _ _ _ _ _ _ _ _ _ _;intro z B C D hd F G h1 I d inv;obtain⟨a,b⟩:Py w g key _ _ d:=inv;go_wp2;exact ji (Jf O _ _ (V (Z w)+1) 184 _ (0,0) _ O b ey O<|CE _) O ⟨O,a⟩
end
section
attribute[local go_sem] zn
def kN(y:Zl)(n i:Q):Z8:=if i<8 then y.getD i 0 else mZ (n/256^(15-i))
def A8(y:Zl)(n k i:Q):Z8:=if i<8 then y.getD i 0 else if 15-k<i then mZ (n/256^(15-i))else 0
structure C2(w:Zy)(F:Zu)(W:Zy):Prop where
 fH:aP (V<|Z w) w W
 sz:V (Z w)+1<V (Z W)
 b0:ia W (V<|Z w) zF 16 184
 b1:ia W (V (Z w)+1) F 16 184
def C2.gC(w):C2 w zF<|aF (aF w<|au (bH (kb zF 16)) 184)<|au (bH (kb zF 16)) 184:=by
 refine⟨((zt _ _).alloc (zd _) _).alloc Â _,Â,?_,?_⟩;all_goals (show((w.heap.push _).push _)[_]?=_)
 all_goals (simp only[jb,Xi])
 grind;grind
theorem C2.H{b a}(h:C2 w a b)(k v):C2 w (λi=>if i=k then v else a i)<|ay b (K (V (Z w)+1) k)<|zc v:=
 ⟨h.fH.setCell Á _,Ö,h.b0.dR À,h.b1.H k v⟩
theorem C2.cH{b a f2}(h:C2 w a b)(e:∀i,i<16->a i=f2 i):C2 w f2 b:=⟨h.fH,h.sz,h.b0,h.b1.cH e⟩
theorem ct0(a n)(b:T a=8):bv a++(kb zF 16).drop 8=kb (A8 a n 0) 16:=by apply Ye;grind [Lh,Aa,A8,zF,tV]
def zy7(a)(h1:T a=8)(n:Q)(W:n<=100000)(u)(x:u=(n:U))(w):aq 180 #[E a,aD .u64 u] w (bY (bH (kb (kN a n) 16))):=by
 subst x;have c:=C2.gC w;have g:=c.b1;have F:=c.fH;have t:V (kb zF 16).toArray=16:=AT _ _;have I:∀f:Zy,f.heap[V (Z w)+1]?=Y (au (bH (bv a++(kb zF 16).drop 8)) 184 (0,0))->aP (V (Z w)+1) (aF (aF w<|au (bH (kb zF 16)) 184)<|au (bH (kb zF 16)) 184) f->C2 w (A8 a n 0) f:=λf h X=>by refine⟨c.fH.trans<|X.mono À,?_,c.b0.ac X À,by grind [ia,ct0]⟩;grind
 unfold ia at g;go_enter func180.1,Tryz.ntmps180;go_upto_region 2 with fail
 try rw[Pd]
 generalize hwa:aF (aF w<|au (bH (kb zF 16)) 184) (au (bH (kb zF 16)) 184)=wa at*;generalize hzz:kb zF 16=zz at*;go_wp2_with (apply KZ O _ _ 100 9 O 5 cT K3 (V (Z w)+1) 0 8 16 (st a) O O _ 184 g ?c1 ?c2 (V (Z w)+1) wa (zt _ _)<|zd _)
 case c1=>rw[zn];omega
 case c2=>grind [zn]
 intro f s p;have inv:=I f (by rw[s];rfl) p;go_wp2;go_loopw [1,6] (λv i wr=>∃k:Q,k<=8/\i=J ((15:U)-k)/\v=aD .u64 (((n/256^k:Q)):U)/\C2 w (A8 a n k) wr) (λ_ i _=>bL (dV i));grind;obtain⟨k,hk,rfl,rfl,inv⟩:=hrel;have h2:=inv.sz;by_cases hx:k<8
 ·let⟨j,ho⟩:=JP<|15-k;have P:(15:U)-(k:U)=(j:U):=À;have S:j<16:=À
  let⟨m,G⟩:=JP<|n/256^k;let⟨q,A⟩:=JP<|m/256;have D:H<|n/256^(k+1)=q:=by show _=_;rw[<-A,<-G,Cb,Om]
  have cs:aX wr (K (V (Z w)+1) j)=ao:=inv.b1.eQ;have g':N wr (K (V (Z w)+1) j)=(zc<|A8 a n k j):=inv.b1.i S;have hd:(m:U)/256=(q:U):=À
  have B:C2 w (A8 a n<|k+1)<|ay wr (K (V (Z w)+1) j)<|zc<|UInt8.ofNat m:=by refine(inv.H j<|UInt8.ofNat m).cH λi o=>?_;unfold A8;by_cases e:i=j;grind;grind
  have C:H<|(15:U)-((k+1:Q):U)=(j:U)-1:=by show _=_;omega
  rw[G,P];generalize A8 a n k j=z at*;go_wp2;go_roundw
  ·first|exact⟨k+1,À,by rw[C.o],by rw[D.o],B⟩|((repeat apply Exists.intro);exact⟨⟨k+1,À,by rw[C.o],by rw[D.o],B⟩,rfl⟩)
  exact Ð
 obtain rfl:k=8:=À
 have inv:=inv.cH (f2:=kN a n) (λi o=>by grind [A8,kN]);have l:=inv.b1;have d:=inv.b0;unfold ia at l d;have o:=CE<|kN a n;have L:=Cy (kN a n) 16;have y:=Hu zF<|kN a n;have r:=Ea (b:=V (Z w)) (bH (kb (kN a n) 16)) inv.fH À;generalize hKK:bH (kb (kN a n) 16)=v' at*;go_wp2_with (first|refine J6 O 184 _ O (V (Z w)+1) O 184 _ (0,0) _ l ey O o ?_|refine Zo O 184 _ _ O w.heap.size _ O O 184 _ d o y L ?_);exact ji (Jf O _ _ (V<|Z w) 184 _ (0,0) _ O (Jr _ _ _ _ _ _ d) ey O o) O ⟨by rw[<-(xe hKK).o],r⟩
end
section
attribute[local go_sem] zn zZ
def uA(k:Zu)(y:Zl)(i:Q):Z8:=Yr k (kN y<|i/16)<|i%16
def sF(k:Zu)(y x:Zl)(d i:Q):Z8:=if i<d then x.getD i 0^^^uA k y i else x.getD i 0
def nT(k y x:Zl):Zl:=kl (λi=>x.getD i 0^^^uA (λj=>k.getD j 0) y i) (T x)
theorem A'(k a x):T (nT k a x)=T x:=Cz _ _
structure OI(w:Zy)(g o:Q)(k F:Zu)(n:Q)(Z':Ze)(W:Zy):Prop where
 fH:aP (V<|Z w) w W
 Ly:V (Z w)<=g
 yy:V (Z w)<=o
 ne:g≠o
 rc:ia W g (cF k 10) 432 246
 ob:W.heap[o]?=Y (au (bH (kb F n++Z')) 5 (T (kb F n++Z'),T (kb F n++Z')+1))
def OI.CG{y b}(h:OI w g o y b n Z' a):g<V (Z a):=js<|h.rc.i (k:=0) Ã
def OI.Lz{k b}(h:OI w g o k b n Z' a):o<V (Z a):=(za.1 h.ob).1
def OI.gN{b k c}(h:OI w g o k c n Z' b)(a:aP (V<|Z b) b w'):OI w g o k c n Z' w':=
 ⟨h.fH.trans<|a.mono h.fH.size,h.Ly,h.yy,h.ne,h.rc.ac a h.CG,(a.block _ h.Lz).trans h.ob⟩
def OI.W{b k a}(h:OI w g o k a n Z' b):OI w g o k a n Z' b.drew:=⟨h.fH.drew,h.Ly,h.yy,h.ne,h.rc,h.ob⟩
def OI.i{b y a}(h:OI w g o y a n Z' b)(k)(hk:k<n):N b (K o k)=(zc<|a k):=zbw
def OI.eQ{y b}(h:OI w g o y b n Z' a)(k)(hk:k<n):aX a (K o k)=ao:=by unfold aX;rw[h.ob];grind [tV]
theorem OI.H{c y b}(h:OI w g o y b n Z' c)(k)(hk:k<n)(v):OI w g o y (λi=>if i=k then v else b i) n Z'<|ay c (K o k)<|zc v:=by have a:=h.ne;refine⟨h.fH.setCell h.yy _,h.Ly,h.yy,h.ne,h.rc.dR a,?_⟩;rw[zdm _ _ _ _ _ _ _ h.ob,Jr _ _ _ _ _ _ h.ob];grind [tV,Pb]
theorem OI.cH{b k a fy}(h:OI w g o k a n Z' b)(e:∀i,i<n->a i=fy i):OI w g o k fy n Z' b:=by have:=h.ob;rw[Pk e]at this;exact⟨h.fH,h.Ly,h.yy,h.ne,h.rc,this⟩
def XI(x W):∃(cap:Q) (Z':Ze) (w1:Zy),T x<=cap/\(convert 9 100<|E x).run prog W=dG (aB (Y ⟨V<|Z W,0,R⟩) (T x) cap) w1/\aP (V<|Z W) W w1/\w1.heap[V (Z W)]?=Y (au (bH (kb (λi=>x.getD i 0) (T x)++Z')) 5 (T (kb (λi=>x.getD i 0) (T x)++Z'),T (kb (λi=>x.getD i 0) (T x)++Z')+1)):=by
 have a:=run_bytes_of_string W 9 100 5 (st x) dK cT eY;let⟨cap,b⟩:=JP<|grownCap W (st x).size 0 5;have c:T x<=cap:=by rw[<-b];exact grownCap_ge W _ _ _
 rw[b,zn]at a;obtain⟨Z',d⟩:∃Z':Ze,bytesRow (st x) cap=bH (bv x++Z'):=⟨bS (cap-T x)<|zb 0,zb1⟩;rw[d]at a;rw[Lh]at a;exact⟨cap,Z',_,c,a,((zt _ _).drew).alloc (zd _) _,xn W.drew _⟩
def xeq(k c x)(hk:T k=16)(es:T c=8)(hx:T x<=5000)(w):aq 115 #[E k,E c,E x] w (E<|nT k c x):=by
 go_enter func115.1,Tryz.ntmps115;go_wp2;refine(ztl k hk _).mono ?_;rintro en w1⟨g,rfl,hg,cs,v⟩;obtain⟨g',Z',w2,ba,G,F,W⟩:=XI x w1;have S:g<V (Z w1):=js (cs.i (k:=0) Ã);generalize hkey:(λi=>k.getD i 0)=key at*;have L:OI w g (V<|Z w1) key (sF key c x 0) (T x) Z' w2:=⟨v.trans<|F.mono v.size,hg,v.size,À,cs.ac F S,by rw[W];rfl⟩;have h3:(λi=>k.getD i 0)=key:=hkey;let⟨o,ho⟩:=JP<|V (Z w1);rw[ho]at L G;go_wp2;go_loopw [9] (λi wr=>∃p:Q,p<T x+16/\p%16=0/\i=J p/\OI w g o key (sF key c x p) (T x) Z' wr) (λi _=>bL (T x+16-dV i));grind;obtain⟨p,hp,bd,rfl,inv⟩:=hrel;by_cases bc:p<T x
 ·have i1:(p:U)<(T x:Q):=À;let⟨m,hm⟩:=JP<|p/16;have e1:(p:U).tdiv 16=(m:Q):=zdy
  have y:IntKind.u64.wrap (m:U)=(m:U):=by simp[fS,fT,fi];omega
  have m1:m<=100000:=À
  have D:OI w g o key (sF key c x p) (T x) Z' wr:=inv;have hd:bR ((p:U)<((T x:Q):U))=M:=jm i1;have HP:∀j,j<16->uA key c (p+j)=Yr key (kN c m) j:=λj u=>by grind [uA]
  go_wp2;refine(zy7 c es m m1 _ O _).mono ?_;rintro en w3⟨rfl,ih⟩;have s:=D.gN ih;go_wp2;refine(zzd key (kN c m) g _ s.rc).mono ?_;rintro en z⟨rfl,hs⟩;have t:=s.gN hs;have r:=t.gN<|(zt _ _).alloc (zd _)<|au (bH (kb (Yr key<|kN c m) 16)) 184;have n:ia (aF z<|au (bH (kb (Yr key<|kN c m) 16)) 184) (V<|Z z) (Yr key<|kN c m) 16 184:=xn _ _;have q1:o<V (Z z):=t.Lz;have A:=CE<|Yr key<|kN c m;have h1:=Cy (Yr key<|kN c m) 16;have X:V (#[zb 0,zb 0,zb 0,zb 0,zb 0,zb 0,zb 0,zb 0,zb 0,zb 0,zb 0,zb 0,zb 0,zb 0,zb 0,zb 0]:Za)=V (kb (Yr key<|kN c m) 16).toArray:=by rw[AT];rfl
  generalize hKK:bH (kb (Yr key<|kN c m) 16)=hr at*;go_upto_region 7 with(refine Zo O 184 _ _ O z.heap.size _ O O 184 _ (xn _ _) A X h1 ?_;rw[og])
  generalize hw5:aF z (au hr 184)=w5 at*;let⟨q,hq⟩:=JP<|V (Z z);rw[hq]at n q1⊢;have e3:IntKind.i64.wrap ((p:U)+16)=(p:U)+16:=Í
  by_cases bb:p+16<=T x
  ·have j1:(p:U)+16<=(T x:Q):=À;have j2:bL ((p:U)+16)=p+16:=À
   go_wp2;have f:OI w g o key (sF key c x<|p+0) (T x) Z' w5:=r;go_loopw [40] (λi wq=>∃j:Q,j<=16/\i=J j/\OI w g o key (sF key c x<|p+j) (T x) Z' wq/\ia wq q (Yr key<|kN c m) 16 184) (λi _=>bL ((16:U)-dV i));exact⟨0,À,O,f,n⟩;clear f n;obtain⟨j,u,rfl,inv,d⟩:=hrel;by_cases hw:j<16
   ·have h2:(j:U)<((16:Q):U):=À;have t2:(j:U)<16:=À
    have c1:N wr (K o<|p+j)=(zc<|x.getD (p+j) 0):=zdz
    have f1:aX wr (K o<|p+j)=ao:=inv.eQ (p+j) À;have c2:N wr (K q j)=(zc<|Yr key (kN c m) j):=d.i À;have B:OI w g o key (sF key c x<|p+(j+1)) (T x) Z'<|ay wr.drew (K o<|p+j)<|zc<|x.getD (p+j) 0^^^Yr key (kN c m) j:=by refine(inv.W.H (p+j) À _).cH λi _=>?_;unfold sF;by_cases e:i=p+j;subst e;rw[aT O,aT À,HP j À];rw[aL e];by_cases y:i<p+j;rw[aT y,aT À];rw[aL y,aL À]
    have C:ia (ay wr.drew (K o<|p+j)<|zc<|x.getD (p+j) 0^^^Yr key (kN c m) j) q (Yr key<|kN c m) 16 184:=ia.dR (w:=wr.drew) d À;clear inv d;generalize x.getD (p+j) 0=a at*;generalize Yr key (kN c m) j=b at*;go_wp2;go_still_tail 9,Ä;go_wp2;go_roundw
    ·first|exact⟨j+1,À,Å,B,C⟩|((repeat apply Exists.intro);exact⟨⟨j+1,À,Å,B,C⟩,rfl⟩)
    exact Ý
   have I:j=16:=À
   have h2:¬(j:U)<((16:Q):U):=À
   rw[I]at inv;have D:OI w g o key (sF key c x<|p+16) (T x) Z' wr:=inv;clear inv d;go_wp2;go_roundw;exact⟨p+16,À,À,Å,D⟩;exact Ý
  have j1:¬(p:U)+16<=(T x:Q):=À
  have j3:(T x:U)<=(p:U)+16:=À
  have j4:(T x:U)<(p:U)+16:=À
  go_wp2;let⟨l,v'⟩:=JP<|T x-p;have be:l<=16:=À
  have bf:p+l=T x:=À
  rw[v'];clear v' j1 j3 j4;have f:OI w g o key (sF key c x<|p+0) (T x) Z' w5:=r;clear r;go_loopw [40] (λi wq=>∃j:Q,j<=l/\i=J j/\OI w g o key (sF key c x<|p+j) (T x) Z' wq/\ia wq q (Yr key<|kN c m) 16 184) (λi _=>bL ((l:U)-dV i));exact⟨0,À,O,f,n⟩;clear f n;obtain⟨j,u,rfl,inv,d⟩:=hrel;by_cases hw:j<l
  ·have h2:(j:U)<((l:Q):U):=À;have t2:(j:U)<16:=À
   have c1:N wr (K o<|p+j)=(zc<|x.getD (p+j) 0):=zdz
   have f1:aX wr (K o<|p+j)=ao:=inv.eQ (p+j) À;have c2:N wr (K q j)=(zc<|Yr key (kN c m) j):=d.i À;have B:OI w g o key (sF key c x<|p+(j+1)) (T x) Z'<|ay wr.drew (K o<|p+j)<|zc<|x.getD (p+j) 0^^^Yr key (kN c m) j:=by refine(inv.W.H (p+j) À _).cH λi _=>?_;unfold sF;by_cases e:i=p+j;subst e;rw[aT O,aT À,HP j À];rw[aL e];by_cases y:i<p+j;rw[aT y,aT À];rw[aL y,aL À]
   have C:ia (ay wr.drew (K o<|p+j)<|zc<|x.getD (p+j) 0^^^Yr key (kN c m) j) q (Yr key<|kN c m) 16 184:=ia.dR (w:=wr.drew) d À;clear inv d;generalize x.getD (p+j) 0=a at*;generalize Yr key (kN c m) j=b at*;go_wp2;go_still_tail 9,Ä;go_wp2;go_roundw
   ·first|exact⟨j+1,À,Å,B,C⟩|((repeat apply Exists.intro);exact⟨⟨j+1,À,Å,B,C⟩,rfl⟩)
   exact Ý
  have I:j=l:=À
  have h2:¬(j:U)<((l:Q):U):=À
  have inv:=inv.cH (fy:=sF key c x<|p+16) (λi A=>by unfold sF;rw[aT À,aT À]);have D:OI w g o key (sF key c x<|p+16) (T x) Z' wr:=inv;clear inv d;go_wp2;go_roundw;exact⟨p+16,À,À,Å,D⟩;exact Ý
 have i1:¬(p:U)<(T x:Q):=À
 have inv:=inv.cH (fy:=λi=>x.getD i 0^^^uA key c i) (λi A=>by grind [sF]);have G:(convert 100 9<|aB (Y ⟨o,0,R⟩) (T x) g').run prog wr=dG (E<|nT k c x) wr:=by
  have e:nT k c x=kl (λi=>x.getD i 0^^^uA key c i) (T x):=by show kl (λi=>x.getD i 0^^^uA (λj=>k.getD j 0) c i) (T x)=_;rw[h3]
  rw[e];have h:=iy (P:=prog) wr 100 9 5 (K o 0) g' (kl (λi=>x.getD i 0^^^uA key c i) (T x)) cT eY dK (λj u=>by rw[pS,j7];rw[Cz]at u;rw[inv.i j u];simp[kl,e8]);rw[Cz]at h;exact h
 have hb:=inv.fH;clear inv;go_wp2;go_ret;simp_all
def xie(k a x)(hk:T k=16)(b:T a=8)(hx:T x<=4096)(w):aq 61 #[E k,E a,E x] w (cE #[E<|nT k a x,J 0]):=by go_enter func61.1,Tryz.ntmps61;go_wp2;apply(xeq k a x hk b À _).mono;rintro e w1⟨rfl,c⟩;go_wp2;go_ret2;simp_all
def zyb(k a x)(hk:T k=16)(b:T a=8)(hx:4096<T x)(w):aG 61 #[E k,E a,E x] w (cE #[ak<|st [],J 1]):=by go_enter func61.1,Tryz.ntmps61;go_wp2;go_ret2;exact⟨O,O⟩
end
section
attribute[local go_sem] zn zg
def ip.J(h:ip tv w)(b:aP (V<|Z w) w w'):ip tv w':=by obtain⟨t,x,rfl,a⟩:=h;exact⟨t,x,O,(b.cell<|js a).trans a⟩
def ip.E(h:ip tv w)(o):ip tv<|aF w o:=h.J<|(zt _ _).alloc (zd _) _
def ip.y{S}(h:ip tv w)(b:zj S w w')(a:¬S 1):ip tv w':=zc7
def Id(s w):aG 94 #[ak s,J 0] w (ak s):=by go_enter func94.1,Tryz.ntmps94;go_wp2;apply(Yt _ Â _).mono;rintro e w1⟨rfl,rfl⟩;go_wp2;go_ret;simp
def WW(s n)(b:n≠0)(w)(a:ip tv w):aK prog 94 #[ak s,J n] w λe w'=>e=kn tv/\w'=w:=by go_enter func94.1,Tryz.ntmps94;go_wp2;apply(Jw _ (by simp[b]) _ a).mono;rintro e w1⟨rfl,rfl⟩;exact⟨O,O,O⟩
def Ef:Zl:=[99,105,112,104,101,114]
def Ec:Zl:=[116,97,103]
def Ji(m:Zl)(e:Q):Zl:=yu (Wu [] m) (Ef++nb e 1) 16
def Y7(m:Zl)(e:Q):Zl:=yu (Wu [] m) (Ec++nb e 1) 32
def XZ(l):(⟨#[99,105,112,104,101,114]⟩:eM)++st l=st (Ef++l):=zg Ef l
theorem XK(l):(⟨#[116,97,103]⟩:eM)++st l=st (Ec++l):=zg Ec l
def jfc(h:T l=1):((⟨#[99,105,112,104,101,114]⟩:eM)++st l).size<=4063:=by rw[XZ,zn];simp[Ef,h]
def jfd(h:T l=1):((⟨#[116,97,103]⟩:eM)++st l).size<=4063:=by grind [XK,zn,Ec]
theorem xnf{a b p x y}(c:p.block≠a.block)(d:p.block≠b.block):N (ay (ay w1 a x) b y) p=N w1 p:=by rw[World.cell?_setCell_other _ _ _ _ λe=>d å,World.cell?_setCell_other _ _ _ _ λe=>c å]
def dv(m:Zl)(x:eM)(n:U):Zl:=yu (Wu [] m) (eV x.data) (bL n)
def xjc(m)(d:T m=32)(x n w1)(h:iN w1)(a:x.size<=4063)(b:0<=n)(c:n<=255):aq 55 #[ak<|st m,ak ⟨#[]⟩,ak x,aD bB n] w1 (cE #[ak<|st<|dv m x n,aD bB 0]):=by have:=xh2 m [] (eV x.data) À Â É (bL n) À w1 h;rw[jdi,show((bL n:Q):U)=n by omega]at this;exact this
def xji(m e):dv m (⟨#[99,105,112,104,101,114]⟩++st (nb e 1)) 16=Ji m e:=by rw[XZ];rfl
def xx6(m e):dv m (⟨#[116,97,103]⟩++st (nb e 1)) 32=Y7 m e:=by rw[XK];rfl
theorem FV(m j c o)(S:Q)(u:T m=32)(w)(C:iN w):aq 90 #[bY #[E m,J c,E j,J o],J S] w (bY #[E<|Ji m S,E<|Y7 m S]):=by
 have k:=C;have g:=Z2 S 1;go_enter func90.1,Tryz.ntmps90;go_wp2;let⟨W,d⟩:=JP<|aF (aF w<|au #[E m,J c,E j,J o] 91) (au #[ak ⟨#[]⟩,ak ⟨#[]⟩] 145);have s:N W (K (V<|Z w) 0)=E m:=by rw[<-d];simp[go_sem]
 have t:W.heap[V (Z w)+1]?=Y (au #[ak ⟨#[]⟩,ak ⟨#[]⟩] 145):=by rw[<-d];have:=xn (aF w<|au #[E m,J c,E j,J o] 91)<|au #[ak ⟨#[]⟩,ak ⟨#[]⟩] 145;rwa[xp]at this
 have f:aP (V<|Z w) w W:=by rw[<-d];exact((zt _ _).alloc (zd _) _).alloc Â _
 have D:V (Z W)=V (Z w)+2:=by rw[<-d];simp
 rw[d];have a:aP (V<|Z W) W W.drew:=(zt _ _).drew;have r:=k.ac k.iE f;have l:=f;have v:∀w1,aP (V<|Z W) W w1->N w1 (K (V<|Z w) 0)=E m:=λw1 h=>(h.cell Á).trans s;have b:=v;have p:∀w1,aP (V<|Z W) W w1->N w1 (K (V (Z w)+1) 0)=ak ⟨#[]⟩/\aX w1 (K (V (Z w)+1) 0)=ao/\N w1 (K (V (Z w)+1) 1)=ak ⟨#[]⟩/\aX w1 (K (V (Z w)+1) 1)=ao:=λw1 h=>by have i:=(h.block _ À).trans t;grind [N,aX]
 go_region_held3 (λw'=>N w' (K (V<|Z w) 0)=E m) (first|exact s|exact q|grind [xnf])
  (first
   |(go_at_call 148;apply(Lf _ S O _).mono;rintro e w1⟨rfl,i⟩;replace a:=Xs a i;have q:=b _ a;let⟨L,F,X,G⟩:=p _ a)
   |(go_at_call 55;apply((λx n w1 h y z B=>xjc m u x n w1 h y z B) _ _ _ (r.ac r.iE a) (by first|exact jfc g|exact jfd g) Ã Ã).mono;rintro e w1⟨rfl,i⟩;replace a:=Xs a i;have q:=b _ a;let⟨L,F,X,G⟩:=p _ a)
   |(go_at_call 94;apply(Id _ _).mono;rintro e w1⟨rfl,rfl⟩))
 simp only[xji,xx6];go_wp2;refine ji (by simp[eR,Tryz.results90,go_sem,L,X]) O ⟨O,?_⟩;exact((l.trans<|a.mono l.size).setCell Á _).setCell Á _
def PA(c t a x)(hk:T c=16)(b:T a=8)(hx:T x<=4096)(w):aq 150 #[bY #[E c,E t],E a,E x] w (E<|nT c a x):=by go_enter func150.1,Tryz.ntmps150;go_wp2;apply((λw1=>xie c a x hk b hx w1) _).mono;rintro e w1⟨rfl,d⟩;go_wp2;apply(Id _ _).mono;rintro e f⟨rfl,rfl⟩;go_wp2;go_ret;exact⟨O,Xs ((zt _ _).alloc (zd _) _) d⟩
def zwv(c t b x)(hk:T c=16)(a:T b=8)(hx:4096<T x)(w)(d:ip tv w):aK prog 150 #[bY #[E c,E t],E b,E x] w λe w'=>e=kn tv/\aP (V<|Z w) w w':=by go_enter func150.1,Tryz.ntmps150;go_wp2;apply((λw1=>zyb c b x hk a hx w1) _).mono;rintro e w1⟨rfl,rfl⟩;go_wp2;apply(WW _ 1 Ã _<|d.E _).mono;rintro e f⟨rfl,rfl⟩;exact⟨O,O,(zt _ _).alloc (zd _) _⟩
theorem LJ(c t x)(f:T t<=4096)(hx:T x<=4096)(w)(b:iN w):aq 159 #[bY #[E c,E t],E x] w (E<|Wu t x):=by have a:=b;go_enter func159.1,Tryz.ntmps159;go_wp2;apply((λw1 h=>xwz t x f hx w1 h) _<|a.ac a.iE<|(zt _ _).alloc (zd _) _).mono;rintro e w1⟨rfl,d⟩;go_wp2;apply(Id _ _).mono;rintro e g⟨rfl,rfl⟩;go_wp2;go_ret;exact⟨O,Xs ((zt _ _).alloc (zd _) _) d⟩
def xju(c t x)(b:T t<=4096)(hx:4096<T x)(w)(a:ip tv w):aK prog 159 #[bY #[E c,E t],E x] w λe w'=>e=kn tv/\aP (V<|Z w) w w':=by go_enter func159.1,Tryz.ntmps159;go_wp2;apply((λw1=>xh6 t x b hx w1) _).mono;rintro e w1⟨rfl,rfl⟩;go_wp2;apply(WW _ 1 Ã _<|a.E _).mono;rintro e d⟨rfl,rfl⟩;exact⟨O,O,(zt _ _).alloc (zd _) _⟩
def XR(n c:Q)(w):aq 222 #[aD bB n,aD bB c] w (ak<|st (83::(nb n 4++nb c 4))):=by
 have d:H<|(⟨#[83]⟩:eM)++st (nb n 4)++st (nb c 4)=st (83::(nb n 4++nb c 4)):=by show _=_;rw[show(⟨#[83]⟩:eM)=st [83]from O,zg,zg];simp
 go_enter func222.1,Tryz.ntmps222;go_wp2;apply(Pf _ n O _).mono;rintro e w1⟨rfl,a⟩;go_wp2;apply(Pf _ c O _).mono;rintro e f⟨rfl,b⟩;go_wp2;go_ret;exact⟨by rw[<-d.o];rfl,Xs a b⟩
def xh(w:Zy)(r:Q)(C:Za)(t:Zt):Prop:=w.heap[r]?=Y (au C t (0,0))
section
variable{w w':dN}{r r':Q}{C:bE eJ}{t:oW}{S:Q->Prop}
def xh.lt(h:xh w r C t):r<V (Z w):=(za.1 h).1
def xh.i(h:xh w r C t)(i)(a:C[i]?=Y v):N w (K r i)=Y v:=by grind [xh,N]
def xh.dS(h:xh w r C t)(i):aX w (K r i)=ao:=by grind [xh,aX]
theorem xh.H(h:xh w r C t)(i v):xh (ay w (K r i) v) r (aA C i v) t:=by grind [xh,zdm,Jr]
def xh.dR(h:xh w r C t){p}(a:r≠p.block)(v):xh (ay w p v) r C t:=by grind [xh,zah]
def xh.y(h:xh w r C t)(a:zj S w w')(b:¬S r):xh w' r C t:=(a.dP r h.lt b).trans h
def xh.ac(h:xh w r C t)(a:aP (V<|Z w) w w'):xh w' r C t:=(a.block r h.lt).trans h
def xh.E(h:xh w r C t)(o):xh (aF w o) r C t:=h.ac<|(zt _ _).alloc (zd _) _
theorem xh.ex(w:Zy)(C)(t:Zt):xh (aF w<|au C t) (V<|Z w) C t:=xn w _
theorem zj.H(w p v):zj (·=p.block) w<|ay w p v:=⟨O,O,Â,λk _ hk=>zah _ _ _ _ hk⟩
def zj.E(o):zj S w<|aF w o:= .J ((zt _ _).alloc (zd _) _)
abbrev Nw(w w':Zy):Prop:=zj (λ_=>False) w w'
abbrev aH(f a w x):=aK prog f a w λe w'=>e=ai x/\Nw w w'
def zj.cZ{W}(h:zj S W w)(c:V (Z W)<=r)(k:zj (·=r) w w'):zj S W w':=
 ⟨k.os.trans h.os,k.cX.trans h.cX,xa h.aD k.aD,λi a b=>(k.dP i (zm a h.aD) À).trans<|h.dP i a b⟩
end
def wH(h:xh w b #[ak<|st l] t)(m)(n:Q)(d:m=(n:U))(f:n<=T l):aK prog 207 #[aU<|some ⟨b,0,R⟩,aD bB m] w λe w'=>e=ai (ak<|st<|l.take n)/\zj (·=b) w w'/\xh w' b #[ak<|st<|l.drop n] t:=
 (WK b l m n d f w (h.i 0 O)<|h.dS 0).mono λe w'⟨a,c⟩=>⟨a,by grind [zj.H],by subst c;have:=h.H 0<|ak<|st<|l.drop n;grind⟩
def Pu(h:xh w b #[ak<|st l] t)(a:ip tv w)(m)(n:Q)(c:m=(n:U))(d:T l<n):aK prog 207 #[aU<|some ⟨b,0,R⟩,aD bB m] w λe w'=>e=kn tv/\w'=w:=WJ b l m n c d w (h.i 0 O) a
def wG(h:xh w b #[ak<|st l] t)(m)(n:Q)(g:m=(n:U))(f:n<=6)(i:n<=T l):aK prog 208 #[aU<|some ⟨b,0,R⟩,aD bB m] w λe w'=>e=ai (aD bB (qi (l.take n):Q))/\zj (·=b) w w'/\xh w' b #[ak<|st<|l.drop n] t:=by
 subst g;refine(xkb b l n f i w (h.i 0 O)<|h.dS 0).mono λe w'⟨c,d⟩=>?_;have a:aP (V (ay w ⟨b,0,R⟩<|ak<|st<|l.drop n).heap) (ay w ⟨b,0,R⟩<|ak<|st<|l.drop n) w':=by rw[show(ay w ⟨b,0,R⟩<|ak _).heap.size=V (Z w) by simp];exact d
 refine⟨c,?_,?_⟩;exact(zj.H w ⟨b,0,R⟩<|ak _).aE<|.J a;have:=(h.H 0 _).ac a;grind
def PE(h:xh w b #[ak<|st l] t)(a:ip tv w)(m)(n:Q)(c:m=(n:U))(d:T l<n):aK prog 208 #[aU<|some ⟨b,0,R⟩,aD bB m] w λe w'=>e=kn tv/\w'=w:=by subst c;exact xdw b l n d w (h.i 0 O) a
def jX(l:Zl):Q:=qi<|(l.drop 8).take 2
def CI(l a b):(st l).extract a b=st ((l.take b).drop a):=by apply DM;grind [st,zaj]
theorem XT(l)(f:10<=T l)(w):aH 301 #[E l] w (J (jX l:Q)):=by
 have a:H<|(st l).extract 8 10=st ((l.drop 8).take 2):=by show _=_;rw[CI,Xb]
 have b:H<|((l.drop 8).take 2).take 2=(l.drop 8).take 2:=qp Á;have c:2<=T ((l.drop 8).take 2):=Ç
 go_enter func301.1,Tryz.ntmps301;go_wp2;rw[a.o];apply(wG (xh.ex w #[E<|(l.drop 8).take 2] 277) 2 2 O Ã c).mono;rintro e w1⟨rfl,d,hk⟩;go_wp2;go_ret;exact⟨á,zj.cZ (zj.E _) (zd _) d⟩
def xi6(x l)(hx:x=st l)(a:10<=T l)(w):aH 301 #[ak x] w (J (jX l:Q)):=by grind [XT]
def xxo(l):jX l<65536:=by
 unfold jX;have:=AS<|(l.drop 8).take 2;have a:T ((l.drop 8).take 2)<=2:=ù
 have:256^T ((l.drop 8).take 2)<=256^2:=J7 Ã a;omega
def J5(l:Zl):ez:=bR (10<=T l/\42+jX l<=T l)
def zwm(l w):aH 260 #[E l] w (bG<|J5 l):=by
 have f:=xxo l;by_cases a:10<=T l
 ·have d:(10:U)<=(T l:Q):=À;have b:H<|J5 l=bR ((10+(jX l:U)+32)<=(T l:Q)):=by exact decide_eq_decide.2 ⟨λh=>À,λh=>⟨a,À⟩⟩
  go_enter func260.1,Tryz.ntmps260;go_wp2;apply(XT l a _).mono;rintro e w1⟨rfl,c⟩;go_wp2;go_ret;exact⟨á,c⟩
 have d:(T l:U)<10:=À
 have b:H<|J5 l=ao:=by show _=_;unfold J5;simp;omega
 go_enter func260.1,Tryz.ntmps260;go_wp2;go_ret;exact⟨á,zj.refl _ _⟩
end
section
variable{w x v:dN}{r i:Q}{C:bE eJ}{t:oW}{S:Q->Prop}{o:Obj}{u:eJ}
def rC{P f a y W}(h:∀v,W=v->aK P f a v y):aK P f a W y:=h _ O
def WT{P f y W e a}(h:∀v,W=v->bodyPost P f y e a v):bodyPost P f y e a W:=h _ O
def xh.al(h:xh x r C t)(e:aF x o=v):xh v r C t:=e▸h.E o
def xh.nu(e:aF x (au C t)=v):xh v (V<|Z x) C t:=e▸xh.ex x C t
theorem xh.st(h:xh x r C t)(e:ay x (K r i) u=v):xh v r (aA C i u) t:=e▸h.H i u
def xh.ot(h:xh x r C t)(e:ay x (K b i) u=v)(n:r≠b):xh v r C t:=e▸h.dR (p:=K b i) n u
def zj.al(h:zj S w x)(e:aF x o=v):zj S w v:=e▸h.aE (zj.E o)
theorem zj.st(h:zj S w x)(e:ay x (K b i) u=v)(n:V (Z w)<=b):zj S w v:=h.cZ n<|e▸zj.H x (K b i) u
def xu7(x:Zy)(p u):V (ay x p u).heap=V (Z x):=Â
def xu6(e:aF x o=v):V (Z v)=V (Z x)+1:=e▸xp x o
end
section
attribute[local go_sem] zn zg
def Pz(l:Zl):Zv:=bY #[ak<|st<|l.take 1,aD bB (qi ((l.drop 1).take 1):Q),aD bB (qi ((l.drop 4).take 4):Q),ak<|st<|l.take 10,ak<|st<|(l.drop 10).take<|jX l,ak<|st<|(l.drop<|10+jX l).take 32]
def xm6(l):jX (l.take 10)=jX l:=by grind [jX,Xb]
structure RS(w v:Zy)(b:Q)(l:Zl)(c:Za):Prop where
 B:xh v b #[E l] 277
 X:xh v (V<|Z w) #[ak ⟨#[]⟩,J 0,J 0,ak ⟨#[]⟩,ak ⟨#[]⟩,ak ⟨#[]⟩] 342
 aw:xh v (V (Z w)+1) c 342
 A:zj (·=b) w v
section
variable{w v y:dN}{h i:Q}{l l':bA UInt8}{c:bE eJ}{u:eJ}{o:Obj}{S:Q->Prop}
def RS.rL(s:RS w v b l c)(L:b<V (Z w))(k:zj (·=b) v y)(a:xh y b #[E l'] 277):RS w y b l' c:=⟨a,s.X.y k À,s.aw.y k À,s.A.aE k⟩
def RS.nw(s:RS w v b l c)(k:Nw v y):RS w y b l c:=⟨s.B.y k id,s.X.y k id,s.aw.y k id,s.A.aE<|k.U λ_ h=>h.elim⟩
def RS.fr(s:RS w v b l c)(L:b<V (Z w))(a:V (Z w)+1<h)(k:zj (·=h) v y):RS w y b l c:=⟨s.B.y k À,s.X.y k À,s.aw.y k À,s.A.cZ À k⟩
theorem RS.H(s:RS w v b l c)(L:b<V (Z w))(e:ay v (K (V (Z w)+1) i) u=y):RS w y b l<|aA c i u:=⟨s.B.ot e À,s.X.ot e À,s.aw.st e,s.A.st e À⟩
def RS.al(s:RS w v b l c)(e:aF v o=y):RS w y b l c:=s.nw<|e▸zj.E o
end
def xa4(b l l1 l2 hd n)(q3:T hd=10)(P:jX hd=n)(q2:32<=T l2)(w)(z:xh w b #[E l] 277)
  (tb:∀w0,xh w0 b #[E l] 277->aK prog 207 #[zq b,J 10] w0 λe w'=>e=ai (E hd)/\zj (·=b) w0 w'/\xh w' b #[E l1] 277)
  (tn:∀w0,xh w0 b #[E l1] 277->aK prog 207 #[zq b,J n] w0 λe w'=>e=ai (E<|l1.take n)/\zj (·=b) w0 w'/\xh w' b #[E l2] 277):
  aK prog 262 #[zq b] w λe w'=>e=ai (bY #[E<|hd.take 1,J (qi ((hd.drop 1).take 1):Q),J (qi ((hd.drop 4).take 4):Q),E hd,E<|l1.take n,E<|l2.take 32])/\zj (·=b) w w'/\xh w' b #[E<|l2.drop 32] 277:=by
 have d:=z.lt;go_enter func262.1,Tryz.ntmps262;go_wp2;refine rC λv a=>?_;have S:RS w v b l _:=⟨(z.E _).al a,(xh.ex w _ _).al a,xp w _▸xh.nu a,(zj.E _).al a⟩;refine(tb _ S.B).mono ?_;rintro e w1⟨rfl,u1,h1⟩;replace S:=S.rL d u1 h1;have c1:=S.aw.i 3 O;have f1:=S.aw.dS 3;go_wp2;refine rC λv a=>?_;replace S:=S.H d a;refine(xi6 _ hd O À _).mono ?_;rintro e w3⟨rfl,u3⟩;replace S:=S.nw u3;rw[P];go_wp2;refine(tn _ S.B).mono ?_;rintro e w4⟨rfl,u4,h2⟩;replace S:=S.rL d u4 h2;have c2:=S.aw.i 4 O;have f2:=S.aw.dS 4;go_wp2;refine rC λv a=>?_;replace S:=S.H d a;refine(wH S.B 32 32 O À).mono ?_;rintro e w6⟨rfl,u6,Z'⟩;replace S:=S.rL d u6 Z';have i:=S.aw.lt;have c3:=S.aw.i 5 O;have f3:=S.aw.dS 5;have c4:=S.aw.i (v:=E hd) 3 O;go_wp2;refine rC λv a=>?_;have B:=xh.nu a;rw[xu7]at B;replace S:=(S.H d O).al a;refine(wH B 1 1 O À).mono ?_;rintro e w8⟨rfl,u8,k8⟩;replace S:=S.fr d i u8;replace B:=k8;have c5:=S.aw.i 0 O;have f5:=S.aw.dS 0;go_wp2;refine rC λv a=>?_;replace S:=S.H d a;replace B:=B.ot a À;refine(wG B 1 1 O Ã Á).mono ?_;rintro e ba⟨rfl,q,m⟩;replace S:=S.fr d i q;replace B:=m;generalize f:qi (eI 1<|List.drop 1 hd)=v1;replace f:=f;have c6:=S.aw.i 1 O;have f6:=S.aw.dS 1;go_wp2;refine rC λv a=>?_;replace S:=S.H d a;replace B:=B.ot a À;refine(wH B 2 2 O Á).mono ?_;rintro e bb⟨rfl,r,o⟩;replace S:=S.fr d i r;replace B:=o;go_wp2;refine(wG B 4 4 O Ã Á).mono ?_;rintro e t⟨rfl,s,W⟩;replace S:=S.fr d i s;generalize g:qi (eI 4<|List.drop 2<|List.drop 1<|List.drop 1 hd)=v2;replace g:=g;have c:=λj u h=>S.aw.i (v:=u) j h;have x:=λj u h=>S.X.i (v:=u) j h;have c7:=c 2 _ O;have F:=c 0 (E<|hd.take 1) O;have G:=c 1 (J v1) O;have I:=c 3 (E hd) O;have ho:=c 4 (E<|l1.take n) O;have wr:=c 5 (E<|l2.take 32) O;have f7:=S.aw.dS 2;have c8:=x 0 _ O;have c9:=x 1 _ O;have C:=x 2 _ O;have D:=x 3 _ O;have cs:=x 4 _ O;have c13:=x 5 _ O;have f8:=S.X.dS 0;have f9:=S.X.dS 1;have L:=S.X.dS 2;have g':=S.X.dS 3;have v':=S.X.dS 4;have es:=S.X.dS 5;go_wp2;refine WT λv a=>?_;have X:=(((((((S.X.dR (p:=K (V (Z w)+1) 2) Â _).H 0 _).H 1 _).H 2 _).H 3 _).H 4 _).st a);have A:zj (λy=>y=V (Z w)\/y=V (Z w)+1) t v:=by
  subst a;iterate 7 refine zj.aE ?_<|(zj.H _ _ _).U Â
  exact zj.refl _ _
 refine ji (v:=bY #[E<|hd.take 1,J v1,J v2,E hd,E<|l1.take n,E<|l2.take 32]) (by simp[eR,Tryz.results262,go_sem,X.i (v:=E<|hd.take 1) 0 O,X.i (v:=J v1) 1 O,X.i (v:=J v2) 2 O,X.i (v:=E hd) 3 O,X.i (v:=E<|l1.take n) 4 O,X.i (v:=E<|l2.take 32) 5 O]) O ⟨?_,⟨A.os.trans S.A.os,A.cX.trans S.A.cX,xa S.A.aD A.aD,λk hk hx=>(A.dP k (zm hk S.A.aD) À).trans<|S.A.dP k hk hx⟩,S.B.y A À⟩;rw[<-f,<-g];simp
def xkn(b l)(f:J5 l=M)(w)(d:xh w b #[E l] 277):aK prog 262 #[zq b] w λe w'=>e=ai (Pz l)/\zj (·=b) w w'/\xh w' b #[E<|l.drop<|42+jX l] 277:=by
 obtain⟨a,c⟩:10<=T l/\42+jX l<=T l:=by simpa[J5]using f
 have h:=xa4 b l _ _ _ _ Á (xm6 l) Á w d
  (λg h=>wH h 10 10 O a) (λg h=>wH h _ _ O Á)
 grind [zbd,Pz,Xb]
theorem W4(l):(st l).toList=[]↔l=[]:=by rw[toList_nil_iff_emptyBytes];constructor;intro h;have:=gv ByteArray.size h;rw[zn]at this;simp_all;rintro rfl;rfl
def xqg(l):(st l).toList.isEmpty=l.isEmpty:=by grind [W4]
def H8(l w):aG 46 #[E l] w (bG (bR (0<T l/\T l<=16))):=by
 have a:H<|(!l.isEmpty&&bR ((T l:U)<=16))=bR (0<T l/\T l<=16):=by
  show _=_;cases l<;>simp
  omega
 have b:H<|l=[]->bR (0<T l/\T l<=16)=ao:=λh=>Á
 go_enter func46.1,Tryz.ntmps46;go_wp2
 ·rename_i h;go_ret;exact⟨by rw[b.o<|(xe<|W4 l).o.1 h];rfl,O⟩
 go_ret;refine⟨?_,O⟩;rw[<-a.o,<-(xe<|xqg l).o];rfl
def XU(l w):aG 47 #[E l] w (bG (bR (T l<=32))):=by
 have a:H (bR (T l<=32)=bR ((T l:U)<=32)):=decide_eq_decide.2 À;go_enter func47.1,Tryz.ntmps47;go_wp2;all_goals go_ret
 all_goals exact⟨by rw[a.o];rfl,O⟩
def XM(h:xh w b #[ak<|st l] t)(m)(n:Q)(c:m=(n:U))(f:0<n)(a:n<=16)(d:n<=T l):aK prog 315 #[aU<|some ⟨b,0,R⟩,aD bB m] w λe w'=>e=ai (ak<|st<|l.take n)/\zj (·=b) w w'/\xh w' b #[ak<|st<|l.drop n] t:=by subst c;go_enter func315.1,Tryz.ntmps315;go_wp2;apply(wH h _ n O d).mono;rintro e w1⟨rfl,i,g⟩;go_wp2;apply(H8 _ _).mono;rintro e j⟨rfl,rfl⟩;go_wp2;apply(Yt _ Â _).mono;rintro e k⟨rfl,rfl⟩;go_wp2;go_ret;simp_all
def XN(h:xh w b #[ak<|st l] t)(g:ip tv w)(i:b≠1)(m)(n:Q)(j:m=(n:U))(d:¬(0<n/\n<=16/\n<=T l)):aK prog 315 #[aU<|some ⟨b,0,R⟩,aD bB m] w λe w'=>e=kn tv/\zj (·=b) w w':=by
 subst j;have a:=h;have c:=g;go_enter func315.1,Tryz.ntmps315;go_wp2;by_cases k:n<=T l
 ·apply(wH a _ n O k).mono;rintro e w1⟨rfl,f,o⟩;go_wp2;apply(H8 _ _).mono;rintro e p⟨rfl,rfl⟩;go_wp2;apply(Jw _ Á _<|c.y f À).mono;rintro e q⟨rfl,rfl⟩;exact⟨O,O,f⟩
 apply(Pu a c _ n O À).mono;rintro e w1⟨rfl,rfl⟩;exact⟨O,O,zj.refl _ _⟩
def Wy(l:Zl):dD<|(Zl×Zl)×Zl:=
 if 2<=T l then
  let k:=qi<|l.take 1;let v:=qi<|(l.drop 1).take 1;let r:=(l.drop 1).drop 1
  if(0<k/\k<=16/\k<=T r)/\v<=T (r.drop k)/\v<=32 then Y ((r.take k,(r.drop k).take v),(r.drop k).drop v)else R
 else R
def Ee(tv:Zv)(b:Q)(t:Zt)(l:Zl)(w:Zy)(e:kH)(w':Zy):Prop:=
 zj (·=b) w w'/\(match Wy l with|some ((k,v),r)=>e=ai (bY #[E k,E v])/\xh w' b #[E r] t|none=>e=kn tv)
def zto{k v}(h:Wy l=Y ((k,v),r))(a:zj (·=b) w w')(hk:xh w' b #[E r] t):Ee tv b t l w (ai<|bY #[E k,E v]) w':=by grind [Ee]
def HJ(h:Wy l=R)(a:zj (·=b) w w'):Ee tv b t l w (kn tv) w':=by grind [Ee]
def XY(l)(z:b≠1)(h:xh w b #[ak<|st l] t)(hG:ip tv w):
  aK prog 295 #[aU<|some ⟨b,0,R⟩] w (Ee tv b t l w):=by
 have ba:=h.lt;have c:H (Wy l=if 2<=T l then
  (if(0<qi (l.take 1)/\qi (l.take 1)<=16/\qi (l.take 1)<=T ((l.drop 1).drop 1))/\qi ((l.drop 1).take 1)<=T (((l.drop 1).drop 1).drop<|qi<|l.take 1)/\qi ((l.drop 1).take 1)<=32 then Y ((((l.drop 1).drop 1).take<|qi<|l.take 1,(((l.drop 1).drop 1).drop<|qi<|l.take 1).take<|qi<|(l.drop 1).take 1),(((l.drop 1).drop 1).drop<|qi<|l.take 1).drop<|qi<|(l.drop 1).take 1)else R)else R):=O
 go_enter func295.1,Tryz.ntmps295;go_wp2;have I:H (zj (·=b) w<|aF w<|au #[ak ⟨#[]⟩,ak ⟨#[]⟩] 104):=zj.E _;have P:=h.E<|au #[ak ⟨#[]⟩,ak ⟨#[]⟩] 104;have A:=hG.E<|au #[ak ⟨#[]⟩,ak ⟨#[]⟩] 104;have X0:xh (aF w<|au #[ak ⟨#[]⟩,ak ⟨#[]⟩] 104) (V<|Z w) #[ak ⟨#[]⟩,ak ⟨#[]⟩] 104:=xh.ex _ _ _;generalize aF w (au #[ak ⟨#[]⟩,ak ⟨#[]⟩] 104)=w0 at*;by_cases cs:1<=T l
 ·refine(wG P 1 1 O Ã cs).mono ?_;rintro e w1⟨rfl,F,k1⟩;have hd:=A.y F À;have W:=X0.y F À;have r:=k1;have h1:=I.o.aE F;let⟨k,hk⟩:=JP<|qi (eI 1 l);rw[hk]at c⊢;let⟨l1,m⟩:=JP<|l.drop 1;have q1:T l1=T l-1:=by rw[<-m,Zn]
  rw[m]at c r;go_wp2;by_cases Z':1<=T l1
  ·refine(wG r 1 1 O Ã Z').mono ?_;rintro e w2⟨rfl,G,k2⟩;have S:=hd.y G À;have s:=k2;have h2:=h1.aE G;let⟨v,hv⟩:=JP<|qi (eI 1 l1);rw[hv]at c⊢;let⟨n,C⟩:=JP<|l1.drop 1;rw[C]at c s;go_wp2;by_cases g:0<k/\k<=16/\k<=T n
   ·refine(XM s _ k O g.1 g.2.1 g.2.2).mono ?_;rintro e w3⟨rfl,u,k3⟩;have G3:=S.y u À;have X:=(W.y G À).y u À;have x:=k3;have L:=h2.aE u;let⟨i,D⟩:=JP<|n.drop k;rw[D]at c x;let⟨f,B⟩:=JP<|n.take k;rw[B]at c⊢;go_wp2;by_cases hx:v<=T i
    ·refine(wH x _ v O hx).mono ?_;rintro e q⟨rfl,o,k4⟩;have j:=X.y o À;have ho:=L.aE o;have q4:T (i.take v)=v:=by rw[xf];omega
     let⟨d,g'⟩:=JP<|i.take v;rw[g']at c q4⊢;go_wp2;refine(XU d _).mono ?_;rintro e w5⟨rfl,rfl⟩;go_wp2;by_cases y:v<=32
     ·have a:H<|Wy l=Y ((f,d),i.drop v):=by show _=_;rw[c.o,aT À,aT ⟨g,hx,y⟩]
      refine(Yt _ (by simp[y]) _).mono ?_;rintro e w6⟨rfl,rfl⟩;have c0:=j.i 0 O;have f0:=j.dS 0;have c1:=j.i 1 O;have f1:=j.dS 1;go_wp2;have wr:=(j.H 0<|ak<|st f).H 1<|ak<|st d;have v':=(k4.dR (p:=⟨V<|Z w,0,R⟩) Á<|ak<|st f).dR (p:=⟨V<|Z w,1,R⟩) Á<|ak<|st d;refine ji (v:=bY #[ak<|st f,ak<|st d]) (by simp[eR,Tryz.results295,go_sem,wr.i 0 O,wr.i 1 O]) O ?_;exact zto a.o ((ho.cZ (zd _)<|zj.H _ ⟨V<|Z w,0,R⟩<|ak<|st f).cZ (zd _)<|zj.H _ ⟨V<|Z w,1,R⟩<|ak<|st d) v'
     have a:H<|Wy l=R:=by show _=_;rw[c.o,aT À,aL À]
     refine(Jw _ (by simp[y]) _<|G3.y o À).mono ?_;rintro e w6⟨rfl,rfl⟩;exact⟨O,HJ a.o<|ho⟩
    have a:H<|Wy l=R:=by show _=_;rw[c.o,aT À,aL À]
    refine(Pu x G3 _ v O À).mono ?_;rintro e q⟨rfl,rfl⟩;exact⟨O,HJ a.o<|L⟩
   have a:H<|Wy l=R:=by show _=_;rw[c.o,aT À,aL λh=>g h.1]
   refine(XN s S z _ k O g).mono ?_;rintro e q⟨rfl,o⟩;exact⟨O,HJ a.o<|h2.aE o⟩
  have a:H<|Wy l=R:=by show _=_;rw[c.o,aL À]
  refine(PE r hd 1 1 O À).mono ?_;rintro e q⟨rfl,rfl⟩;exact⟨O,HJ a.o<|h1⟩
 have a:H<|Wy l=R:=by show _=_;rw[c.o,aL À]
 refine(PE P A 1 1 O À).mono ?_;rintro e q⟨rfl,rfl⟩;exact⟨O,HJ a.o<|I.o⟩
inductive Vk where
 |put (k v:Zl)
 |del (k:Zl)
def oP:Vk->Zv
 | .put k v=>iW 104 (bY #[ak<|st k,ak<|st v])
 | .del k=>iW 106 (bY #[ak<|st k])
def oq:Zl->dD (Vk×Zl)
 |[]=>R
 |a::l=>
  if a=80 then(match Wy l with|some ((k,v),r)=>Y (.put k v,r)|none=>R)
  else if a=68 then
   (match l with
   |[]=>R|b::r=>if 0<aN b/\aN b<=16/\aN b<=T r then Y (.del<|r.take (aN b),r.drop (aN b))else R)
  else R
def FT(tv:Zv)(b:Q)(t:Zt)(l:Zl)(w:Zy)(e:kH)(w':Zy):Prop:=
 zj (·=b) w w'/\(match oq l with|some (c,r)=>e=ai (oP c)/\xh w' b #[E r] t|none=>e=kn tv)
def XS{c}(h:oq l=Y (c,r))(a:zj (·=b) w w')(hk:xh w' b #[E r] t):FT tv b t l w (ai<|oP c) w':=by grind [FT]
def H2(h:oq l=R)(a:zj (·=b) w w'):FT tv b t l w (kn tv) w':=by grind [FT]
theorem xl(l):(st l).toList=l:=by rw[ByteArray.toList_eq];rfl
def Ib(a):qi [a]=aN a:=by simp[qi]
def zy1(l)(p:b≠1)(h:xh w b #[ak<|st l] t)(X:ip tv w):
  aK prog 316 #[aU<|some ⟨b,0,R⟩] w (FT tv b t l w):=by
 have G:=h;have W:=X;go_enter func316.1,Tryz.ntmps316;go_wp2;cases l with
 |nil=>
  apply(Pu G W 1 1 O Â).mono;rintro e w1⟨rfl,rfl⟩;exact⟨O,H2 O<|zj.refl _ _⟩
 |cons a l=>
  apply(wH G 1 1 O Â).mono;rintro e w1⟨rfl,I,L⟩;have B:=W.y I À;have C:xh w1 b #[ak<|st l] t:=L;have i:=I;have n:((st<|List.take 1 (a::l)).toList==[80])=bR (a=80):=by rw[xl];by_cases h:a=80<;>simp[h]
  have j:((st<|List.take 1 (a::l)).toList==[68])=bR (a=68):=by rw[xl];by_cases h:a=68<;>simp[h]
  generalize st (eI 1 (a::l))=x at*;by_cases f:a=80
  ·have o:(x.toList==[80])=M:=by rw[n];simp[f]
   go_wp2;apply(XY l p C B).mono;intro e S s;unfold Ee at s;cases hq:Wy l with
   |none=>
    rw[hq]at s;obtain⟨g,rfl⟩:=s;exact⟨O,H2 (by simp[oq,f,hq])<|i.aE g⟩
   |some q=>
    let⟨⟨k,v⟩,r⟩:=q;rw[hq]at s;obtain⟨g,rfl,u⟩:=s;have D:H<|oq (a::l)=Y (.put k v,r):=by show _=_;simp[oq,f,hq]
    have y:=i.aE g;have z:=u;go_wp2;go_ret;exact XS D.o y z
  have o:(x.toList==[80])=ao:=by rw[n];simp[f]
  by_cases d:a=68
  ·have m:(x.toList==[68])=M:=by rw[j];simp[d]
   go_wp2;cases l with
   |nil=>
    apply(PE C B 1 1 O Â).mono;rintro e S⟨rfl,rfl⟩;exact⟨O,H2 (by simp[oq,f,d]) i⟩
   |cons c r=>
    apply(wG C 1 1 O Ã Â).mono;rintro e S⟨rfl,g,u⟩;have z:=u;have y:=i.aE g;rw[show qi (eI 1 (c::r))=aN c from Ib c];go_wp2;by_cases hk:0<aN c/\aN c<=16/\aN c<=T r
    ·have D:H<|oq (a::c::r)=Y (.del<|r.take (aN c),r.drop (aN c)):=by show _=_;simp[oq,d,hk]
     apply(XM z _ (aN c) O hk.1 hk.2.1 hk.2.2).mono;rintro e P⟨rfl,F,A⟩;go_wp2;go_ret;exact XS D.o (y.aE F) A
    apply(XN z (B.y g À) p _ (aN c) O hk).mono;rintro e P⟨rfl,F⟩;exact⟨O,H2 (by simp[oq,d,hk])<|y.aE F⟩
  have m:(x.toList==[68])=ao:=by rw[j];simp[d]
  let⟨ti,xi,hti,hcell⟩:=B;go_wp2;subst hti;exact⟨O,H2 (by simp[oq,f,d]) i⟩
def Ie{S i e a X}(h:w.ownsRow z e a v n X)(k:zj S w i)(j:∀q,z<=q->¬S q):i.ownsRow z e a v n X:=by refine⟨h.1,?_⟩;obtain m|⟨g,b,c,l,d,f,r⟩:=h.2;grind;exact ac ⟨g,b,c,l,d,(k.dP g (za.1 f).1<|j g d).trans f,r⟩
def zj.mV{S}(h:zj S a w)(k:aP (V<|Z a) w w'):zj S a w':=⟨k.os.trans h.os,k.output.trans h.cX,xa h.aD k.size,λi b c=>(k.block i b).trans<|h.dP i b c⟩
def mq:Q->Zl->dD (bA Vk)
 |_,[]=>Y []|0,_::_=>R
 |n+1,a::l=>match oq (a::l)with
  |some (c,r)=>(mq n r).map (c::·)|none=>R
def WY{k v}(h:Wy l=Y ((k,v),r)):T r<T l:=by grind [Wy]
def PH{c}(h:oq l=Y (c,r)):T r<T l:=by
 cases l with
 |nil=>cases h
 |cons a l=>simp only[oq]at h;grind [Wy]
theorem xja:∀(n:Q) (l:Zl),T l<=n->mq n l=mq (T l) l:=by
 intro n;induction n using Nat.strongRecOn with
 |_ n I=>
  intro l d;cases l with
  |nil=>cases n<;>rfl
  |cons a l=>cases n with|zero=>grind|succ n=>show mq (n+1) (a::l)=mq (T l+1) (a::l);simp only[mq];cases h:oq _ with|none=>rfl|some q=>let⟨c,r⟩:=q;have b:=PH h;grind
def Wl(l:Zl):dD<|List Vk:=match mq (T l) l with
 |some D=>if 1<=T D/\T D<=20 then Y D else R
 |none=>R
def PB{a l c}(h:oq (a::l)=Y (c,r)):mq (T (a::l)) (a::l)=(mq (T r) r).map (c::·):=by have b:=PH h;grind [mq,xja]
def Ed{a l}(h:oq (a::l)=R):mq (T (a::l)) (a::l)=R:=by grind [mq]
def XC(c):(oP c).oneCell'=M:=by cases c<;>rfl
def W9:∃i,prog.info? 173=Y i/\i.zero=Y .nilIface/\i.size=1/\i.bytes=16:=by
 have h:(prog.info? 173).map (λi=>(i.zero,i.size,i.bytes))=Y (Y .nilIface,1,16):=Ä
 simp_all
def XG:prog.underlying 150=Y (.slice 173):=(eZ 150).trans Tryz.underlying150
def xsh(tv:Zv)(l:Zl)(w:Zy)(e:kH)(w':Zy):Prop:=
 Nw w w'/\(match Wl l with|some D=>∃v,e=ai v/\w'.ownsRow (V<|Z w) 173 1 v (T D) (D.map oP)|none=>e=kn tv)
def qP(c:Q)(w:Zy):Q:=match N w (K c 0)with
 |some (ak s)=>s.size|_=>0
def FN{l}(h:xh w c #[E l] t):qP c w=T l:=by unfold qP;rw[h.i 0 O];exact zn l
theorem FQ{base' e a X}(h:w.ownsRow z e a v n X)(d:base'<=z):w.ownsRow base' e a v n X:=by refine⟨h.1,h.2.imp id ?_⟩;rintro⟨g,b,c,i,f,r⟩;exact⟨g,b,c,i,xa d f,r⟩
def zq4(l)(hl:T l<=100000)(w)(bc:1<V (Z w))(Z':ip tv w):aK prog 302 #[ak<|st l] w<|xsh tv l w:=by
 let⟨i126,hi,hz0,hz1,hz2⟩:=W9;have t:H<|Wl l=match mq (T l) l with|some D=>if 1<=T D/\T D<=20 then Y D else R|none=>R:=O;go_enter func302.1,Tryz.ntmps302
 go_wp2;have S:Nw w<|aF w<|au #[ak<|st l] 277:=zj.E _;have hx:xh (aF w<|au #[ak<|st l] 277) (V<|Z w) #[ak<|st l] 277:=xh.ex _ _ _;generalize aF w (au #[ak<|st l] 277)=w0 at*;go_loopw [4] (λv wr=>∃(D:bA Vk) (r:Zl),T D+T r<=T l/\mq (T l) l=(mq (T r) r).map (D++·)/\wr.ownsRow (V (Z w)+1) 173 1 v (T D) (D.map oP)/\xh wr (V<|Z w) #[ak<|st r] 277/\Nw w wr) (λ_ wr=>qP (V<|Z w) wr);exact⟨[],l,Â,Â,jk _ _ _ _,hx,S⟩;let⟨D,r,hlen,hch,hown,hblk,hnw⟩:=hrel;have u:=hch;obtain⟨X,i,rfl,L⟩:=Wo hown;have P:=hown;have f:=hnw;have c0:N wr ⟨V<|Z w,0,R⟩=(ak<|st r):=hblk.i 0 O;have B:=Z'.y hnw id;have HZ:=FN hblk;cases r with
 |nil=>
  have hn:=xl [];have C:H<|mq (T l) l=Y D:=by show _=_;rw[u];simp[mq]
  by_cases m:1<=T D
  ·have i1:(1:U)<=(T D:Q):=À;go_wp2;by_cases hd:T D<=20
   ·have b:H<|Wl l=Y D:=by show _=_;rw[t.o,C.o];simp[m,hd]
    refine(Yt _ Á _).mono ?_;rintro e d⟨rfl,rfl⟩;go_wp2;go_ret;refine⟨f,?_⟩;rw[b.o];exact⟨_,O,FQ P À⟩
   have b:H<|Wl l=R:=by show _=_;rw[t.o,C.o];simp[hd]
   refine(Jw _ Á _ B).mono ?_;rintro e d⟨rfl,rfl⟩;refine⟨O,f,?_⟩;rw[b.o]
  have i1:(T D:U)<1:=À
  have b:H<|Wl l=R:=by show _=_;rw[t.o,C.o];simp[m]
  go_wp2;refine(Jw _ O _ B).mono ?_;rintro e d⟨rfl,rfl⟩;refine⟨O,f,?_⟩;rw[b.o]
 |cons x r=>
  have bb:(st (x::r)).toList.isEmpty=ao:=zab
  go_wp2;refine(zy1 (x::r) À hblk B).mono ?_;intro e d o;unfold FT at o;cases hq:oq (x::r)with
  |none=>
   rw[hq]at o;obtain⟨y,rfl⟩:=o;have b:Wl l=R:=by rw[t.o,u,Ed hq];rfl
   refine⟨O,?_,?_⟩;exact f.cZ (zd _) y;grind
  |some q=>
   let⟨c,r'⟩:=q;rw[hq]at o;obtain⟨y,rfl,A⟩:=o;have h1:=Ie P y (λq h=>À);have F:H (mq (T l) l=(mq (T r') r').map ((D++[c])++·)):=by show _=_;rw[u,PB hq,Option.map_map];congr 1;funext z;simp
   have ba:=PH hq;have ho:=XC c;have bd:=A.lt;obtain⟨p,s,k⟩:∃p s,oP c=iW p s:=by cases c<;>exact⟨_,_,O⟩
   rw[k]at ho⊢;go_wp2_with (refine wpList_append_lies _ O _ _ 150 O (V (Z w)+1) 173 i126 .nilIface 1 16 XG hi hz0 hz1 hz2 O Ã (aB X (T D) i) (T D) (D.map oP) O ?own ⟨V<|Z d,0,R⟩ 1 1 [iW p s] O O ?nw ?o1 Ã ?m1 ?m2 ?m3 (V (Z d)+1) ?m4 ?_)
   case own=>exact h1.alloc _
   case m1=>grind [pu]
   case m2=>omega
   case m3=>simp;omega
   case m4=>simp
   case o1=>grind
   case nw=>intro j z h2;cases j with|zero=>simp at h2;subst h2;simp[go_sem,Addr.add]|succ j=>grind
   intro cs g w4 a n g' v';have G:=(zt _<|aF d<|au #[iW p s] 173).grown n Ç<|Cv h1;have W:=((f.cZ (zd _) y).aE<|zj.E _).mV (G.mono À);have I:=(G.block _ À).trans<|A.E<|au #[iW p s] 173;have es:w4.ownsRow (V (Z w)+1) 173 1 (aB (Y ⟨cs,0,R⟩) (T (D++[c])) g) (T (D++[c]))<|(D++[c]).map oP:=by rw[qz,zx];simp only[Js,Fr,k];exact a
   have h3:=FN I;go_wp2;go_roundw;exact⟨D++[c],r',Á,F.o,Á,I,W⟩;omega
end
abbrev KV:=bA<|Zl×Zl
def gS:KV->Zl->Zl->KV
 |[],k,v=>[(k,v)]|(y,x)::L,k,v=>if k=y then(k,v)::L else(y,x)::gS L k v
def jN:KV->Zl->KV
 |[],_=>[]|(y,x)::L,k=>if k=y then L else(y,x)::jN L k
def Xg:KV->Zl->dD Zl
 |[],_=>R|(y,x)::L,k=>if k=y then Y x else Xg L k
theorem XJ{a b}(h:st a=st b):a=b:=by have:=gv (λx=>eV x.data) h;exact this
theorem LK(a b):(st a==st b)=bR (a=b):=by grind [beq_toListBytes,xl]
def rB(v:Zl):Zv:=bY #[ak<|st v]
def rM(D:bA eF)(L:KV):Prop:=D.map (λe=>(e.key,e.val))=L.map λp=>(E p.1,rB p.2)
def PC{e p L}(h:rM (e::D) (p::L)):e.key=E p.1/\e.val=rB p.2/\rM D L:=by grind [rM]
theorem LI{e p L}(a:e.key=E p.1)(b:e.val=rB p.2)(c:rM D L):rM (e::D) (p::L):=by grind [rM]
def xno(h:rM D []):D=[]:=by unfold rM at h;simp_all
theorem XW{p L}(h:rM [] (p::L)):False:=by grind [rM]
def Ic(k):∀(L:KV) (D:bA eF) (i:Q),rM D L->
  (Xg L k=R/\eU oC (E k) D i=Y R/\jN L k=L/\∀x born,rM (D++[{key:=E k,val:=rB x,born}])<|gS L k x)\/
  ∃j v e,Xg L k=Y v/\eU oC (E k) D i=Y (Y (i+j,rB v))/\D[j]?=Y e/\e.key=E k/\rM (D.eraseIdx j) (jN L k)/\∀x,rM (D.modify j λe=>{e with key:=E k,val:=rB x})<|gS L k x
 |[],D,i,h=>by
  cases xno h;exact aJ ⟨O,O,O,λx born=>by unfold rM;rfl⟩
 |p::L,[],i,h=>(XW h).elim
 |(y,u)::L,e::D,i,h=>by
  obtain⟨b,q,c⟩:=PC h;by_cases hk:k=y;subst hk;refine ac ⟨0,u,e,by simp[Xg],?_,O,b,by simpa[jN]using c,λx=>?_⟩;grind [eU,jE,LK];grind [gS,LI];have m:jE oC (E k) e.key=Y ao:=by rw[b];simp[jE,LK,hk,decide_false]
  have r:eU oC (E k) (e::D) i=eU oC (E k) D (i+1):=by simp[eU,m]
  obtain⟨d,f,g,a⟩|⟨j,v,l,d,f,g,a,n,o⟩:=Ic k L D (i+1) c;grind [Xg,jN,gS,LI];refine ac ⟨j+1,v,l,by grind [Xg],Á,Á,a,?_,λx=>?_⟩;grind [jN,LI];grind [gS,LI]
theorem XV{k}:∀{L:KV},Xg L k=R->∀p∈L,p.1≠k
 |[],_,_,y=>û
 |(x,q)::L,h,p,y=>by by_cases hk:k=x;simp[Xg,hk]at h;simp only[Xg,hk,kB]at h;cases y with|head=>grind|tail _ y=>exact XV h p y
def PF:∀{D:bA eF} {L:KV},rM D L->∀x∈D,∃p∈L,x.key=E p.1/\x.val=rB p.2
 |[],_,_,_,y=>û
 |e::D,[],h,_,_=>by grind [rM]|e::D,p::L,h,x,y=>by obtain⟨b,c,a⟩:=PC h;cases y with|head=>grind|tail _ y=>let⟨q,j,u⟩:=PF a x y;grind
def Je(w:Zy)(m:Q)(L:KV):Prop:=∃D C,w.heap[m]?=Y (.map D C)/\rM (eV D) L/\MapKept.Stamped D C
def Je.lt{L}(h:Je w m L):m<V (Z w):=by let⟨D,c,h,_⟩:=h;grind
def Je.y{S L}(h:Je w m L)(a:zj S w w')(b:¬S m):Je w' m L:=zbq
def Yg{P D}(h:w.heap[m]?=Y (.map D c)):(na m).run P w=dG (.map D c) w:=by simp[na,gc,h]
def A9{P D}(h:w.heap[m]?=Y (.map D c))(o):(setObj m o).run P w=dG () {w with heap:=aA w.heap m o}:=by simp[setObj,gc,h]
section
variable{P:cI}{w:dN}{t S X:oW}{L:KV}
def LH(hk:P.underlying S=Y oC)(k n):∀w e,(iK e (n+1) S<|ak k).run P w=dG () w:=λw e=>zb8
def XE(q:P.underlying t=Y (.map S X))(hk:P.underlying S=Y oC)(h:Je w m L)(k x):
  ∃w',(im t (fu<|some m) (E k)<|rB x).run P w=dG () w'/\zj (·=m) w w'/\Je w' m (gS L k x):=by
 let⟨D,W,F,G,u⟩:=h;have l:=Yg (P:=P) F;have i:=LH hk (st k) 9999;have a:∀o,zj (·=m) w {w with heap:=aA w.heap m o}:=λo=>⟨O,O,Â,λj _ n=>Á⟩;have b:∀o,(aA w.heap m o)[m]?=Y o:=λo=>Á
 obtain⟨B,d,_,g⟩|⟨j,v,e,_,d,s,g,_,C⟩:=Ic k L (eV D) 0 G;have c:(cB S (E k) (eV D)).run P w=dG R w:=ç
 refine⟨{w with heap:=aA w.heap m<|.map (D.push {key:=E k,val:=rB x,born:=W}) _},?_,a _,_,_,b _,Á,MapKept.stamped_push u λy r z=>by let⟨p,I,A,_⟩:=PF G y r;grind [XV,XJ]⟩;simp[im,xo q,bN,l,i,c,A9 F];have c:(cB S (E k) (eV D)).run P w=dG (Y (0+j,rB v)) w:=ç
 rw[j7]at c;have n:D[j]?=Y e:=by simpa using s
 have f:∀w,(lX ((D[j]?.map (·.key)).getD<|E k)<|E k).run P w=dG (E k) w:=λw=>zcy
 refine⟨{w with heap:=aA w.heap m<|.map (D.modify j λe=>{e with key:=E k,val:=rB x}) W},?_,a _,_,_,b _,Á,MapKept.stamped_modify u j _ (λ_ _=>O) λy _ r=>Á⟩;simp[im,xo q,bN,l,i,c,f,A9 F]
def xu0(l:P.underlying t=Y (.map S X))(hk:P.underlying S=Y oC)(h:Je w m L)(u f:Zt)(k):
  ∃w',(iT #[t,f] u #[fu<|some m,E k]).run P w=dG (cE #[]) w'/\zj (·=m) w w'/\Je w' m (jN L k):=by
 let⟨D,C,x,s,y⟩:=h;have i:=Yg (P:=P) x;have g:=LH hk (st k) 9999;have a:∀o,zj (·=m) w {w with heap:=aA w.heap m o}:=λo=>⟨O,O,Â,λj _ q=>Á⟩;have b:∀o,(aA w.heap m o)[m]?=Y o:=λo=>Á
 obtain⟨_,d,n,_⟩|⟨j,v,e,_,d,_,_,p,_⟩:=Ic k L (eV D) 0 s;have c:(cB S (E k) (eV D)).run P w=dG R w:=ç
 refine⟨{w with heap:=aA w.heap m _},?_,a _,_,_,b _,Á,y⟩;simp[iT,xo l,bN,i,g,c,A9 x];have c:(cB S (E k) (eV D)).run P w=dG (Y (0+j,rB v)) w:=ç
 rw[j7]at c;refine⟨{w with heap:=aA w.heap m _},?_,a _,_,_,b _,?_,MapKept.stamped_erase y j⟩;simp[iT,xo l,bN,i,g,c,A9 x];simp_all
def XD(g:P.underlying t=Y (.map S X))(hk:P.underlying S=Y oC)(i:∀w,(zeroValue X).run P w=dG (rB []) w)(h:Je w m L)(k):
  (fC t (fu<|some m) (E k) M).run P w=dG (cE #[rB<|(Xg L k).getD [],bG (Xg L k).isSome]) w:=by
 let⟨D,C,x,q,y⟩:=h;have f:=Yg (P:=P) x;have d:=LH hk (st k) 9999;obtain⟨a,b,_,_⟩|⟨j,v,e,a,b,_,_,_,_⟩:=Ic k L (eV D) 0 q;have c:(cB S (E k) (eV D)).run P w=dG R w:=ô
 simp[fC,xo g,bN,f,d,c,i,a];have c:(cB S (E k) (eV D)).run P w=dG (Y (0+j,rB v)) w:=ô
 simp[fC,xo g,bN,f,d,c,a]
end
abbrev Xv:=bA<|Int×(Zl×U)
def ol:Xv->U->(Zl×U)->Xv
 |[],k,v=>[(k,v)]|(y,x)::L,k,v=>if k=y then(k,v)::L else(y,x)::ol L k v
def nS:Xv->U->Xv
 |[],_=>[]|(y,x)::L,k=>if k=y then L else(y,x)::nS L k
def Xm:Xv->U->dD (Zl×U)
 |[],_=>R|(y,x)::L,k=>if k=y then Y x else Xm L k
def nR(v:Zl×U):Zv:=bY #[ak<|st v.1,aD bB v.2]
def pW(D:bA eF)(L:Xv):Prop:=D.map (λe=>(e.key,e.val))=L.map λp=>(J p.1,nR p.2)
def FP{e p L}(h:pW (e::D) (p::L)):e.key=J p.1/\e.val=nR p.2/\pW D L:=by grind [pW]
theorem PD{e p L}(a:e.key=J p.1)(b:e.val=nR p.2)(c:pW D L):pW (e::D) (p::L):=by grind [pW]
def PG(h:pW D []):D=[]:=by unfold pW at h;simp_all
theorem LF{p L}(h:pW [] (p::L)):False:=by grind [pW]
def LG(k):∀(L:Xv) (D:bA eF) (i:Q),pW D L->
  (Xm L k=R/\eU (.int bB) (J k) D i=Y R/\nS L k=L/\∀x born,pW (D++[{key:=J k,val:=nR x,born}])<|ol L k x)\/
  ∃j v e,Xm L k=Y v/\eU (.int bB) (J k) D i=Y (Y (i+j,nR v))/\D[j]?=Y e/\e.key=J k/\pW (D.eraseIdx j) (nS L k)/\∀x,pW (D.modify j λe=>{e with key:=J k,val:=nR x})<|ol L k x
 |[],D,i,h=>by
  cases PG h;exact aJ ⟨O,O,O,λx born=>by unfold pW;rfl⟩
 |p::L,[],i,h=>(LF h).elim
 |(y,u)::L,e::D,i,h=>by
  obtain⟨b,q,c⟩:=FP h;by_cases hk:k=y;subst hk;refine ac ⟨0,u,e,by simp[Xm],?_,O,b,by simpa[nS]using c,λx=>?_⟩<;>grind [eU,jE,ol,PD]
  have m:jE (.int bB) (J k) e.key=Y ao:=by rw[b];simp[jE,hk]
  have r:eU (.int bB) (J k) (e::D) i=eU (.int bB) (J k) D (i+1):=by simp[eU,m]
  obtain⟨d,f,g,a⟩|⟨j,v,l,d,f,g,a,n,o⟩:=LG k L D (i+1) c;grind [Xm,nS,ol,PD];refine ac ⟨j+1,v,l,by grind [Xm],Á,Á,a,?_,λx=>?_⟩<;>grind [nS,PD,ol]
theorem H6{k}:∀{L:Xv},Xm L k=R->∀p∈L,p.1≠k
 |[],_,_,y=>û
 |(x,q)::L,h,p,y=>by by_cases hk:k=x;simp[Xm,hk]at h;simp only[Xm,hk,kB]at h;cases y with|head=>omega|tail _ y=>exact H6 h p y
theorem H':∀{D:bA eF} {L:Xv},pW D L->∀x∈D,∃p∈L,x.key=J p.1/\x.val=nR p.2
 |[],_,_,_,y=>û
 |e::D,[],h,_,_=>by grind [pW]|e::D,p::L,h,x,y=>by obtain⟨b,c,a⟩:=FP h;cases y with|head=>grind|tail _ y=>let⟨q,j,u⟩:=H' a x y;grind
def sH(w:Zy)(m:Q)(L:Xv):Prop:=∃D C,w.heap[m]?=Y (.map D C)/\pW (eV D) L/\MapKept.Stamped D C
def sH.lt{L}(h:sH w m L):m<V (Z w):=by let⟨D,c,h,_⟩:=h;grind
def sH.y{S L}(h:sH w m L)(a:zj S w w')(b:¬S m):sH w' m L:=zbq
section
variable{P:cI}{w:dN}{t S X:oW}{L:Xv}
def H5(hk:P.underlying S=Y (.int bB))(k n):∀w e,(iK e (n+1) S<|J k).run P w=dG () w:=λw e=>zb8
def W1(q:P.underlying t=Y (.map S X))(hk:P.underlying S=Y (.int bB))(h:sH w m L)(k x):
  ∃w',(im t (fu<|some m) (J k)<|nR x).run P w=dG () w'/\zj (·=m) w w'/\sH w' m (ol L k x):=by
 let⟨D,W,F,G,u⟩:=h;have l:=Yg (P:=P) F;have i:=H5 hk k 9999;have a:∀o,zj (·=m) w {w with heap:=aA w.heap m o}:=λo=>⟨O,O,Â,λj _ n=>Á⟩;have b:∀o,(aA w.heap m o)[m]?=Y o:=λo=>Á
 obtain⟨B,d,_,g⟩|⟨j,v,e,_,d,s,g,_,C⟩:=LG k L (eV D) 0 G;have c:(cB S (J k) (eV D)).run P w=dG R w:=ç
 refine⟨{w with heap:=aA w.heap m<|.map (D.push {key:=J k,val:=nR x,born:=W}) _},?_,a _,_,_,b _,Á,MapKept.stamped_push u λy r z=>by let⟨p,I,A,_⟩:=H' G y r;grind [H6]⟩;simp[im,xo q,bN,l,i,c,A9 F];have c:(cB S (J k) (eV D)).run P w=dG (Y (0+j,nR v)) w:=ç
 rw[j7]at c;have n:D[j]?=Y e:=by simpa using s
 have f:∀w,(lX ((D[j]?.map (·.key)).getD<|J k)<|J k).run P w=dG (J k) w:=λw=>zcy
 refine⟨{w with heap:=aA w.heap m<|.map (D.modify j λe=>{e with key:=J k,val:=nR x}) W},?_,a _,_,_,b _,Á,MapKept.stamped_modify u j _ (λ_ _=>O) λy _ r=>Á⟩;simp[im,xo q,bN,l,i,c,f,A9 F]
def WZ(l:P.underlying t=Y (.map S X))(hk:P.underlying S=Y (.int bB))(h:sH w m L)(u f:Zt)(k):
  ∃w',(iT #[t,f] u #[fu<|some m,J k]).run P w=dG (cE #[]) w'/\zj (·=m) w w'/\sH w' m (nS L k):=by
 let⟨D,C,x,s,y⟩:=h;have i:=Yg (P:=P) x;have g:=H5 hk k 9999;have a:∀o,zj (·=m) w {w with heap:=aA w.heap m o}:=λo=>⟨O,O,Â,λj _ q=>Á⟩;have b:∀o,(aA w.heap m o)[m]?=Y o:=λo=>Á
 obtain⟨_,d,n,_⟩|⟨j,v,e,_,d,_,_,p,_⟩:=LG k L (eV D) 0 s;have c:(cB S (J k) (eV D)).run P w=dG R w:=ç
 refine⟨{w with heap:=aA w.heap m _},?_,a _,_,_,b _,Á,y⟩;simp[iT,xo l,bN,i,g,c,A9 x];have c:(cB S (J k) (eV D)).run P w=dG (Y (0+j,nR v)) w:=ç
 rw[j7]at c;refine⟨{w with heap:=aA w.heap m _},?_,a _,_,_,b _,?_,MapKept.stamped_erase y j⟩;simp[iT,xo l,bN,i,g,c,A9 x];simp_all
def Ia(g:P.underlying t=Y (.map S X))(hk:P.underlying S=Y (.int bB))(i:∀w,(zeroValue X).run P w=dG (nR ([],0)) w)(h:sH w m L)(k):
  (fC t (fu<|some m) (J k) ao).run P w=dG (nR<|(Xm L k).getD ([],0)) w:=by
 let⟨D,C,x,q,y⟩:=h;have f:=Yg (P:=P) x;have d:=H5 hk k 9999;obtain⟨a,b,_,_⟩|⟨j,v,e,a,b,_,_,_,_⟩:=LG k L (eV D) 0 q;have c:(cB S (J k) (eV D)).run P w=dG R w:=ô
 simp[fC,xo g,bN,f,d,c,i,a];have c:(cB S (J k) (eV D)).run P w=dG (Y (0+j,nR v)) w:=ô
 simp[fC,xo g,bN,f,d,c,a]
end
section
attribute[local go_sem] zn zg
def mF(L:KV):Vk->KV
 | .put k v=>gS L k v| .del k=>jN L k
def gh(L:KV)(D:bA Vk):KV:=D.foldl mF L
def xim(L D c):gh L (D++[c])=mF (gh L D) c:=by simp[gh]
def CJ:prog.underlying 143=Y (.map 9 155):=(eZ 143).trans Tryz.underlying143
def WU(x w):(Instr.typeAssert (iW 104 x) 173 104 M).run prog w=dG (cE #[x,bG M]) w:=Ä
def XO(x w):(Instr.typeAssert (iW 106 x) 173 104 M).run prog w=dG (cE #[bY #[ak ⟨#[]⟩,ak ⟨#[]⟩],bG ao]) w:=Ä
def WV(x w):(Instr.typeAssert (iW 106 x) 173 106 M).run prog w=dG (cE #[x,bG M]) w:=Ä
def yA(w:Zy)(g:Q)(D:bA Vk):Prop:=∀i (h:i<T D),N w (K g i)=Y (oP D[i])
def yA.y{S D}(h:yA w g D)(a:zj S w w')(c:¬S g):yA w' g D:=λi b=>a.i c<|h i b
def KN(m g cap L D)(y:T D<=1000000)(w)(z:Je w m L)(d:yA w g D)(p:g≠m):
  aK prog 84 #[fu<|some m,aB (Y ⟨g,0,R⟩) (T D) cap] w λe w'=>e=ai (cE #[])/\zj (·=m) w w'/\Je w' m (gh L D):=by
 go_enter func84.1,Tryz.ntmps84;go_wp2;go_loopw [10] (λi wr=>∃k:Q,k<=T D/\i=J k/\Je wr m (gh L<|D.take k)/\zj (·=m) w wr) (λi _=>bL (T D-dV i));grind [gh,zj.refl];obtain⟨k,hk,rfl,r,t⟩:=hrel;by_cases b:k<T D
 ·have B:(k:U)<(T D:Q):=À;have a:=(d.y t p) k b;have h:H<|gh L (D.take<|k+1)=mF (gh L<|D.take k) D[k]:=by show _=_;rw[zp b,xim]
  have s:=t;let⟨c,o⟩:=JP<|D[k];rw[o]at a h;generalize gh L (D.take k)=L1 at*;cases c with
  |put u v=>have n:N wr (K g k)=(iW 104<|bY #[E u,E v]):=a;let⟨F,W,C,X⟩:=XE CJ dK (r.y (S:=λ_=>False) (zj.E<|au #[E u,E v] 104) id) u v;have q:(im 143 (fu<|some m) (E u)<|bY #[E v]).run prog (aF wr<|au #[E u,E v] 104)=dG () F:=W;have l:=WU (bY #[E u,E v]) wr;have f:=(s.aE<|zj.E _).aE C;have j:=X;clear a W C X;go_wp2;go_roundw;exact⟨k+1,À,Å,by rw[h.o];exact j,f⟩;exact Ð
  |del u=>have n:N wr (K g k)=(iW 106<|bY #[E u]):=a;let⟨F,W,C,X⟩:=xu0 CJ dK (r.y (S:=λ_=>False) (zj.E<|au #[E u] 106) id) 0 9 u;have l:=XO (bY #[E u]) wr;have x:=WV (bY #[E u]) wr;have f:=(s.aE<|zj.E _).aE C;have j:=X;clear a C X;go_wp2;go_roundw;exact⟨k+1,À,Å,by rw[h.o];exact j,f⟩;exact Ð
 obtain rfl:k=T D:=À
 rw[jz]at r;go_wp2;go_end0;grind
structure Lk where
 m:Zl
 tc:U
 bQ:Zl
 op:U
 mp:Q
 ep:Q
 bF:Q
 dX:Zl
 fD:Zl
 bM:U
 aQ:U
 dB:U
 gR:U
 cQ:ez
 cY:U
def Lk.G(k:Lk)(C y:Zl):Za:=#[ak<|st k.m,aD bB k.tc,ak<|st k.bQ,aD bB k.op,fu<|some k.mp,aD bB (k.ep:U),ak<|st C,ak<|st y,aD bB (k.bF:U),ak<|st k.dX,ak<|st k.fD,aD bB k.bM,aD bB k.aQ,aD bB k.dB,aD bB k.gR,bG k.cQ,aD bB k.cY]
def Jh(w:Zy)(b:Q)(k:Lk):Prop:=xh w b (k.G (Ji k.m k.ep)<|Y7 k.m k.ep) 147
def GX(b k)(g:T k.m=32)(y:Q)(w)(c:Jh w b k)(f:iN w):
  aK prog 205 #[zq b,J y] w λe w'=>e=ai (cE #[])/\zj (·=b) w w'/\Jh w' b {k with ep:=y}:=by
 have l:N w (K b 0)=E k.m:=c.i 0 O;have n:N w (K b 1)=J k.tc:=c.i 1 O;have o:N w (K b 2)=E k.bQ:=c.i 2 O;have p:N w (K b 3)=J k.op:=c.i 3 O;go_enter func205.1,Tryz.ntmps205;go_wp2;apply(FV k.m k.bQ k.tc k.op y g _ f).mono;rintro e w1⟨rfl,d⟩;have a:=xh.ac c d;have h:N w1 (K b 5)=J k.ep:=xh.i a 5 O;have q:=xh.dS a 5;have i:N w1 (K b 6)=(E<|Ji k.m k.ep):=xh.i a 6 O;have r:=xh.dS a 6;have j:N w1 (K b 7)=(E<|Y7 k.m k.ep):=xh.i a 7 O;have s:=xh.dS a 7;go_wp2;go_end0;exact⟨O,((((zj.J d).aE<|zj.H w1 (K b 5)<|J y).aE<|zj.H _ (K b 6)<|E<|Ji k.m y).aE<|zj.H _ (K b 7)<|E<|Y7 k.m y),((xh.H a 5<|J y).H 6<|E<|Ji k.m y).H 7<|E<|Y7 k.m y⟩
end
end P
end Go.Proofs.YtjnbhiamaabbgabGreatDoor
