import Derived.Test.YtjnbhiamaabbgaaGreatDoorM2
import Derived.Deep.AppendLies
set_option linter.all false
set_option maxRecDepth 100000
set_option maxHeartbeats 8000000
section
variable{P:Prop}
def Ô(h:P:=by simp[bW,xo hk,bG,l]):P:=h
def õ(h:P:=by have:=h.lt;obtain⟨a,c,b,d,e⟩:=h;exact⟨a,c,(f.dB m this g).trans b,d,e⟩):P:=h
def Ă(h:P:=by rw[xf];omega):P:=h
def ċ(h:P:=by rw[xb _ _ _ _ _ _ h.ob,Jz,Wa<|by rw[rB];exact hk,wC _ _ _ hk]):P:=h
def č(h:P:=by simp[bW,xo hk,bG,c]):P:=h
def Ĕ(h:P:=by obtain⟨t,x,rfl,c⟩:=h;exact⟨t,x,rfl,b.i a c⟩):P:=h
def Ń(h:P:=by rw[B];simp[kY,q,Instr.sameBits,If]):P:=h
def Ő(h:P:=by grind [pM]):P:=h
def ő(h:P:=by grind [oG]):P:=h
def Ŗ(h:P:=by unfold aQ;rw[h.ob];grind [rB]):P:=h
end
namespace Go.Proofs.YtjnbhiamaabbgaaGreatDoor
open Go renaming Calls->aG,Code->nW,Ending->kU,Func->jE,MapEntry->dP,Program->bT,TypeId->nt,Value->dL,World->cY,getObj->lS,heap_alloc_new->xn,heap_setCell_other->jj,maxLen->nT,results->dX,run_convert_bytes_back->gJ,setCell_eq_setRow->zdm,setRow_heap->Jr
open Go.Addr renaming add_mid->oB
open Go.Builtin renaming delete_->ie
open Go.Code renaming region->eU,seq->fO
open Go.Ending renaming returned->ah
open Go.Exit renaming normal->dM
open Go.Instr renaming checkKey->gT,findKey->bW,findNow->eh,keyThatStays->kY,lookup->fB,mapUpdate->gC,sameNow->iq
open Go.IntKind renaming bits->eQ,i64->aU,signed->ek,wrap->eP,wrap_i64->zh
open Go.Obj renaming cells->aq
open Go.Result renaming andThen->bG,ok->cT
open Go.RowKit renaming Below->aN,Hid->aK,intOf->dF
open Go.RowKit.Below renaming heap_setCell->zah,refl->zt
open Go.Sem renaming run->fp
open Go.TypeDesc renaming string->lz
open Go.Value renaming agg->bM,bool->aX,iface->gB,int->aH,map->eK,pointer->aR,slice->az,string->aj,tuple->bU
open Go.World renaming alloc->aB,cell?->ae,frozen?->aQ,setCell->ai,setCells->dZ,setRow_alloc_new->mC,size_alloc->xp
open _root_.Array renaming setIfInBounds->ay,size->ak,toList->ej
open _root_.Bool renaming false->ao,true->aw
open _root_.ByteArray renaming data_extract->zaj
open _root_.Decidable renaming decide->bI
open _root_.Function renaming comp_def->zc1
open _root_.Int renaming toNat->bB
open _root_.List renaming drop_drop->zbd,drop_take->Xb,length->aa,length_take->xf,replicate->bD,take->dU,take_of_length_le->qp,take_succ_eq_append_getElem->zp,toArray->aV
open _root_.Option renaming none->ar,some->ac
open _root_.Or renaming inl->aF,inr->aE
open _root_.UInt8 renaming ofNat->ku,toNat->aI
namespace P
open A.Tryq Go.RowKit
section
attribute [local go_sem] wy
def wd(f:Zu)(c:Z8)(k j:Nat):Z8:=if j<k then kn f c (j+4*((k-1-j)/4))else ve f c j
def xvu(f c k):wd f c k (k%4)^^^f k=kn f c k:=by grind [wd,LP]
def Td(f c k j)(a:j<4):(if j=k%4 then kn f c k else wd f c k j)=wd f c (k+1) j:=by grind [wd]
def nK(f:Zu)(c:Z8)(k i:Nat):Z8:=if i<k then kn f c i else f i
def SN(w':Zy)(b g:Nat)(a12 a13 a14 a15:Z8):Prop:=ae w' (zq b 12)=ac (zc a12)/\ae w' (zq b 13)=ac (zc a13)/\ae w' (zq b 14)=ac (zc a14)/\ae w' (zq b 15)=ac (zc a15)/\ae w' (zq g<|bB (e8 a12))=ac (zc<|Sx a12)/\ae w' (zq g<|bB (e8 a13))=ac (zc<|Sx a13)/\ae w' (zq g<|bB (e8 a14))=ac (zc<|Sx a14)/\ae w' (zq g<|bB (e8 a15))=ac (zc<|Sx a15)
def SN.Y{w w' B b g c d e f}(h:SN w b g c d e f)(a:aN B w w')(i:b<B)(j:g<B):SN w' b g c d e f:=
 ⟨(a.cell (p:=zq b 12) i).trans h.1,(a.cell (p:=zq b 13) i).trans h.2.1,(a.cell (p:=zq b 14) i).trans h.2.2.1,(a.cell (p:=zq b 15) i).trans h.c.1,(a.cell (p:=zq g _) j).trans h.d.1,(a.cell (p:=zq g _) j).trans h.e.1,(a.cell (p:=zq g _) j).trans h.f.1,(a.cell (p:=zq g _) j).trans h.g⟩
def xaj(f c g w)(O:uB w g):aG prog 294 #[zo g,bM (aV (kb f 16)),zc c] w λen w'=>en=ah (bM (aV (kb (kn f c) 16)))/\aN (ak w.heap) w w':=by
 have hg:=O.lt;go_enter func294.1,Tryz.ntmps294;go_upto_region 1 with fail
 obtain⟨a,e⟩:∃a,aB (aB w<|aq (aV (kb f 16)) 359) (aq (aV (kb zF 16)) 359)=a:=⟨_,rfl⟩;have C:aN (ak w.heap) w a:=by rw[<-e];exact((zt _ _).alloc (zd _) _).alloc Ä _
 have S:ak a.heap=ak w.heap+1+1:=by rw[<-e];simp
 have H:gi a (ak w.heap) f 16 359:=by rw[<-e];show((w.heap.push _).push _)[_]?=_;simp only[jb,Xi];rw[if_neg À,if_pos trivial]
 have HS:aK<|R3 w f zF (ve f c) 4 379 (aB a<|aq #[zc<|Sx (f 13)^^^c,zc<|Sx<|f 14,zc<|Sx<|f 15,zc<|Sx<|f 12] 379).drew:=by rw[<-e];exact(R3.fI w f zF (ve f c) 4 379).U
 have d:=O.Y C hg;have s:ae a (zq (ak w.heap) 12)=ac (zc<|f 12):=H.i Ã;have c13:ae a (zq (ak w.heap) 13)=ac (zc<|f 13):=H.i Ã;have t:ae a (zq (ak w.heap) 14)=ac (zc<|f 14):=H.i Ã;have B:ae a (zq (ak w.heap) 15)=ac (zc<|f 15):=H.i Ã;have m:g<ak a.heap:=À
 have Q:∀X,uB (aB a X) g:=λX=>d.Y ((zt (ak a.heap) a).alloc (zd _) X) m;have I:SN a (ak w.heap) g (f 12) (f 13) (f 14)<|f 15:=⟨s,c13,t,B,d.o5 _,d.o5 _,d.o5 _,d.o5 _⟩;have p:∀M,aN (ak a.heap) a M->SN M (ak w.heap) g (f 12) (f 13) (f 14) (f 15):=λM hb=>I.Y hb À m;clear s c13 t B;have U:=rV<|f 12;have V:=rV<|f 13;have W:=rV<|f 14;have Y:=rV<|f 15;have ba:=sC<|f 12;have bc:=sC<|f 13;have bd:=sC<|f 14;have be:=sC<|f 15;clear H d O Q;unfold SN at I p;generalize f 12=a12 at*;generalize f 13=a13 at*;generalize f 14=a14 at*;generalize f 15=a15 at*;try rw[LQ]
 try rw[e]
 clear e;have q:∀X,aN (ak a.heap) a<|aB a X:=λX=>(zt _ _).alloc (zd _) X;go_region_held3 (λw'=>ae w' (zq (ak w.heap) 12)=ac (zc a12)/\ae w' (zq (ak w.heap) 13)=ac (zc a13)/\ae w' (zq (ak w.heap) 14)=ac (zc a14)/\ae w' (zq (ak w.heap) 15)=ac (zc a15)/\ae w' (zq g<|bB (e8 a12))=ac (zc<|Sx a12)/\ae w' (zq g<|bB (e8 a13))=ac (zc<|Sx a13)/\ae w' (zq g<|bB (e8 a14))=ac (zc<|Sx a14)/\ae w' (zq g<|bB (e8 a15))=ac (zc<|Sx a15)) (first|exact I|exact p _ (q _).drew|exact p _ (q _)|(refine p _ ?_;(iterate 4 refine Below.setCell ?_ (by show a.heap.size<=_;omega) _);first|exact(q _).drew|exact q _)) (fail);clear I p q U V W Y ba bc bd be m S C;generalize hw3:(aB a<|aq #[zc<|Sx a13^^^c,zc<|Sx a14,zc<|Sx a15,zc<|Sx a12] 379).drew=M at*;clear hw3;go_wp2;go_loopw [40] (λi wr=>∃k:Nat,k<=16/\i=zi k/\R3 w (nK f c k) zF (wd f c k) 4 379 wr) (λi _=>bB (16-dF i))
 case atStart=>exact⟨0,À,rfl,HS.o⟩
 case round=>
  clear HS;obtain⟨k,hk,rfl,inv⟩:=hrel;have o:=inv.sz;by_cases n:k<16
  ·obtain⟨r,L⟩:∃r,k%4=r:=⟨_,rfl⟩;have e1:(k:Int).tmod 4=(r:Nat):=by rw[qo À];omega
   have Z:r<4:=À
   have r5:(r:Int)<4:=À
   have J:ae wr (zq (ak w.heap) k)=ac (zc<|f k):=by rw[inv.b0.i n];simp[nK]
   have h2:ae wr (zq (ak w.heap+1+1) r)=ac (zc<|wd f c k r):=inv.b2.i Z;have h3:aQ wr (zq (ak w.heap+1+1) r)=ao:=inv.b2.ee;have hv:wd f c k r^^^f k=kn f c k:=by rw[<-L];exact xvu f c k
   have H1:aK<|R3 w (nK f c k) zF (wd f c<|k+1) 4 379 (ai wr (zq (ak w.heap+1+1) r)<|zc<|kn f c k).drew:=by refine((inv.vd r<|kn f c k).o4 λj hj=>?_).U;rw[<-L];exact Td f c k j hj
   have H2:aK<|∀wq,R3 w (nK f c k) zF (wd f c<|k+1) 4 379 wq->R3 w (nK f c<|k+1) zF (wd f c<|k+1) 4 379 (ai wq (zq (ak w.heap) k)<|zc<|kn f c k):=λwq h=>by refine(h.Ew k<|kn f c k).qA λi _=>?_;grind [nK]
   have HW:aK<|wd f c (k+1) r=kn f c k:=by show _=_;rw[<-Td f c k r Z,if_pos L.symm]
   clear inv L;generalize wd f c k r=x at*;generalize hfk:f k=y at*;clear hfk;generalize kn f c k=v at*;go_wp2;go_still_tail 9,Á;go_upto_region 6 with fail
   have inv:=H1.o;generalize(ai wr (zq (ak w.heap+1+1) r)<|zc v).drew=w4 at*;clear H1 J h2 h3 o;have o:=inv.sz;have J:ae w4 (zq (ak w.heap+1+1) r)=ac (zc v):=by rw[inv.b2.i Z,HW.o]
   have h2:ae w4 (zq (ak w.heap) k)=ac (zc<|nK f c k k):=inv.b0.i n;have h3:aQ w4 (zq (ak w.heap) k)=ao:=inv.b0.ee;have HI:=H2.o w4 inv;clear H2 inv;generalize nK f c k k=z at*;go_wp2;go_roundw
   case rel=>first|exact⟨k+1,À,Å,HI⟩|((repeat apply Exists.intro);exact⟨⟨k+1,À,Å,HI⟩,rfl⟩)
   grind [dF]
  obtain rfl:k=16:=À
  have inv:=inv.qA (f0':=kn f c) (λi F=>by simp[nK,F]);clear hk n o;have E:=inv.b0;have l:=inv.b1;have D:=inv.eR;unfold gi at E l;have F:=zL<|kn f c;have J:=zI (kn f c) 16;have T:=Ez zF<|kn f c;have G:(wr.setRow (ak w.heap+1) (aV (kb (kn f c) 16))).heap[(ak w.heap+1)]?=ac (aq (aV (kb (kn f c) 16)) 359 (0,0)):=Jr _ _ _ _ _ _ l;have R:=Be (b:=(ak w.heap+1)) (aV (kb (kn f c) 16)) D À;clear inv;generalize hKK:aV (kb (kn f c) 16)=K at*;have HK:aK<|aV (kb (kn f c) 16)=K:=hKK;clear hKK;go_wp2_with (first|refine J6 rfl 359 _ rfl w.heap.size rfl 359 _ (0,0) _ E dK rfl F ?_|refine Zo rfl 359 _ _ rfl (ak w.heap+1) _ rfl rfl 359 _ l F T J ?_);exact ji (v:=bM K) (Jf rfl _ _ (ak w.heap+1) 359 _ (0,0) _ rfl G dK rfl F) rfl ⟨by rw[<-HK.o],R⟩
end
section
attribute [local go_sem] wy zn
def cF(k:Zu)(r i:Nat):Z8:=if i<256 then Sn i else if i<256+16*(r+1)then jI k ((i-256)/16) ((i-256)%16)else 0
def uc(i:Nat):Z8:=if i<256 then Sn i else 0
def xm8:prog.built 372 [(0,bM (aV (kb Sn 256)))]=ac (aV (kb uc 432)):=Á
def HJ{B b a}(c:B<=b):∀(vs:Ze) (o:Nat) (w:Zy),aN B a w->aN B a (dZ w b o vs)
 |[],_,_,h=>h|v::r,o,w,h=>by rw[dZ];exact HJ c r (o+1) _<|h.setCell c _
def Tm(b):∀(vs:Ze) (o:Nat) (w:Zy),ak (dZ w b o vs).heap=ak w.heap
 |[],_,_=>rfl|v::r,o,w=>by rw[dZ,Tm b r (o+1) _];simp
def S7(f n):∀v∈kb f n,v.oneCell'=aw:=by intro v a;simp only[kb,Xe]at a;obtain⟨i,_,rfl⟩:=a;rfl
def xte(h m):kb h (m+1)=zc (h 0)::kb (λi=>h<|i+1) m:=by grind [kb,List.range_succ_eq_map,zc1]
def gi.ik:∀(m:Nat) {w:Zy} {b n:Nat} {f:Zu} {t:Zt} (_:gi w b f n t) (o:Nat) (h:Zu),gi (dZ w b o<|kb h m) b (λi=>if o<=i/\i<o+m then h (i-o)else f i) n t
 |0,w,b,n,f,t,hr,o,h=>by refine(show gi w b f n t from hr).bR λi _=>?_;grind|m+1,w,b,n,f,t,hr,o,h=>by rw[xte,dZ];refine(gi.ik m (hr.H o<|h 0) (o+1) λi=>h<|i+1).bR λi _=>?_;grind
def gi.lD{w b n o m f h}{t:Zt}(d:gi w b f n t)(ho:o+m<=n)(e:∀i,i<m->f (o+i)=h i):w.rangeAt b o<|kb h m:=λj v c=>by
 have a:j<m:=by have:=(Wb.1 c).1;rwa[rB]at this
 rw[d.i À,e j a,<-c,wC _ _ _ a]
def gi.rC{w b n o m f}{t:Zt}(a:gi w b f n t)(ho:o+m<=n):w.there b o m:=λj c=>⟨by rw[a.i À];rfl,a.ee⟩
def gi.vi{w g r k}{t:Zt}(h:gi w g (cF k r) 432 t):uB w g:=λi a=>by rw[h.i À];grind [cF]
def Db(k r q j)(b:q<=r)(a:j<16):cF k r (256+16*q+j)=jI k q j:=by grind [cF]
theorem xsd(l)(c:aa l=16):((kb uc 432).take 256++bv l++(kb uc 432).drop (256+16))=kb (cF (λi=>l.getD i 0) 0) 432:=by
 apply Ye;intro i;by_cases b:i<256;rw[jq,Wa<|by grind [rB],Gz,if_pos b,wC _ _ _ À,wC _ _ _ À];grind [cF,uc];have a:aa ((kb uc 432).take 256)=256:=by rw[xf,rB];rfl
 by_cases d:i<272;rw[jq,Xp À,Wa<|by rw[uy,a];omega,a,Hi,wC _ _ _ À,wC _ _ _ À];unfold cF;rw[if_neg b,if_pos À,show(i-256)/16=0 by omega,show(i-256)%16=i-256 by omega];rfl;rw[Xp<|by grind [uy],List.getElem?_drop,zx,a,uy,c,show 256+16+(i-(256+16))=i by omega];grind [wC,cF,uc,rB]
def ztl(l)(hl:aa l=16)(w):aG prog 281 #[zs l] w λen w'=>∃g,en=ah (zo g)/\ak w.heap<=g/\gi w' g (cF (λi=>l.getD i 0) 10) 432 372/\aN (ak w.heap) w w':=by
 go_enter func281.1,Tryz.ntmps281;go_wp2;refine(zps _).mono ?_;rintro en w1⟨rfl,c⟩;have b:=c.alloc c.size<|aq (aV (kb uc 432)) 372;have s:=xn w1<|aq (aV (kb uc 432)) 372;have Q:ak w1.heap<ak (aB w1<|aq (aV (kb uc 432)) 372).heap:=Ä
 have T:aK<|∀y:Zy,y.heap[ak w1.heap]?=ac (aq (aV ((kb uc 432).take 256++bv l++(kb uc 432).drop (256+16))) 372 (0,0))->gi y (ak w1.heap) (cF (λi=>l.getD i 0) 0) 432 372:=λy h=>by grind [gi,xsd]
 have v:=xW uc 432;generalize hcc:kb uc 432=cc at*;have a:prog.built 372 [(0,bM (aV (kb Sn 256)))]=ac (aV cc):=by rw[xm8,hcc]
 generalize kb Sn 256=bx at*;go_upto_region 2 with(refine SJ rfl 372 _ rfl cc.toArray a ?_)
 generalize aB w1 (aq (aV cc) 372)=x at*;go_wp2_with (refine GZ rfl _ _ 163 9 rfl 5 cI Hb (ak w1.heap) 256 16 16 (st l) rfl rfl _ 372 s ?c1 ?c2 (ak w.heap) w b c.size ?_)
 case c1=>rw[zn];omega
 case c2=>rw[v,zn];omega
 intro y t n;have d:=T.o y (by rw[t,jq];rfl);have q:=c.size;clear t s T b a v hcc Q;generalize hK:(λi=>l.getD i 0)=key at*;have C:=xe hK;clear hK;obtain⟨g,B⟩:∃g,ak w1.heap=g:=⟨_,rfl⟩;rw[B]at d q⊢;clear B c;go_wp2;go_loopw [4,16] (λco i wr=>∃k:Nat,k<=10/\i=zi k/\co=zc (qZ k)/\gi wr g (cF key k) 432 372/\aN (ak w.heap) w wr) (λ_ i _=>bB (10-dF i))
 case atStart=>exact⟨0,À,rfl,rfl,d,n⟩
 case round=>
  clear d n;obtain⟨k,hk,rfl,rfl,p,F⟩:=hrel;by_cases ba:k<10
  ·have i1:(k:Int)<10:=by omega
   have i2:(k:Int)<11:=À
   have i3:(k:Int)+1<11:=À
   have i4:(0:Int)<=(k:Int)+1:=À
   have i5:IntKind.i64.wrap ((k:Int)+1)=(k:Int)+1:=É
   have i6:bB ((k:Int)+1)=k+1:=À
   have B:=F.size;have G:g<ak wr.heap:=js (p.i (k:=0) Ã);obtain⟨f,z⟩:∃f,jI key k=f:=⟨_,rfl⟩;obtain⟨co,o⟩:∃co,qZ k=co:=⟨_,rfl⟩;have HN:aK<|jI key (k+1)=kn f co:=by show kn (jI key k) (qZ k)=_;rw[z,o]
   have Z:aK<|qZ (k+1)=mt co:=by show mt (qZ k)=_;rw[o]
   have D:aK<|gi wr.drew g (cF key k) 432 372:=p;have S:aK<|∀j,j<16->cF key k (256+k*16+j)=f j:=λj J=>by rw[show 256+k*16+j=256+16*k+j by omega,Db key k k j (zd _) J,z]
   have r:aK<|∀i,i<432->(if 256+(k+1)*16<=i/\i<256+(k+1)*16+16 then kn f co (i-(256+(k+1)*16))else cF key k i)=cF key (k+1) i:=λi hi=>by unfold cF;by_cases Y:i<256;grind;rw[if_neg Y,if_neg Y];by_cases h2:i<256+16*(k+1);grind;by_cases h3:i<256+16*(k+1+1);rw[if_pos À,if_pos h3,show(i-256)/16=k+1 by omega,show(i-256)%16=i-(256+(k+1)*16) by omega,HN.o];grind
   have E:aK<|∀w',gi w' g (cF key k) 432 372->w'.rangeAt g (256+k*16) (kb f 16)/\w'.there g (256+(k+1)*16) 16:=λw' h=>⟨h.lD À S.o,h.rC À⟩;have U:aK<|∀w',gi w' g (cF key k) 432 372->gi (dZ w' g (256+(k+1)*16)<|kb (kn f co) 16) g (cF key<|k+1) 432 372/\(dZ w' g (256+(k+1)*16)<|kb (kn f co) 16).rangeAt g (256+k*16) (kb f 16)/\(dZ w' g (256+(k+1)*16)<|kb (kn f co) 16).there g (256+(k+1)*16) 16:=λw' h=>by have m:=(h.ik 16 (256+(k+1)*16)<|kn f co).bR r.o;refine⟨m,m.lD À λj J=>?_,m.rC À⟩;rw[show 256+k*16+j=256+16*k+j by omega,Db key (k+1) k j À J,z]
   have H:(prog.info? 359).map (·.size)=ac (aa (kb f 16)):=by rw[rB];exact Hr
   have I:(prog.info? 359).map (·.size)=ac (aa (kb (kn f co) 16)):=by rw[rB];exact Hr
   have K:=rB f 16;have L:=rB (kn f co) 16;have M:=S7 f 16;have O:=S7 (kn f co) 16;have V:aK<|∀w',uB w' g->aG prog 294 #[zo g,bM (aV (kb f 16)),zc co] w' λen R=>en=ah (bM (aV (kb (kn f co) 16)))/\aN (ak w'.heap) w' R:=λw' h=>xaj f co g w' h;rw[o];clear p z o S r;generalize kb f 16=X1 at*;generalize kb (kn f co) 16=X2 at*;have W:=E.o wr.drew D.o;have hu:=dK;go_wp2;go_region_held3 (λw'=>w'.rangeAt g (256+k*16) X1/\w'.there g (256+(k+1)*16) 16) (first|exact W|exact X|grind)
    (first
     |(go_at_call 294;refine(V.o _<|D.o.vi).mono ?_;rintro en x⟨rfl,b⟩;have e:=D.o.Y b G;have X:=E.o x e;have T2:=U.o x e;have n:aN (ak w.heap) w<|dZ x g (256+(k+1)*16) X2:=HJ q _ _ _<|F.drew.trans<|b.mono B))
   clear W X E U V H I K L M O hu b e;generalize hw5:dZ x g (256+(k+1)*16) X2=w5 at*;clear hw5;go_wp2;refine(LW co _).mono ?_;rintro en w6⟨rfl,rfl⟩;go_wp2;go_roundw
   case rel=>exact⟨k+1,À,Å,by rw[Z.o],T2.1,n⟩
   grind [dF]
  obtain rfl:k=10:=À
  go_wp2;go_ret;exact⟨g,rfl,q,by rw[C.o];exact p,F⟩
end
section
structure EI(w:Zy)(g:Nat)(key cur:Zu)(wr:Zy):Prop where
 eR:aN (ak w.heap) w wr
 sz:ak w.heap+1<ak wr.heap
 zN:g<ak w.heap
 b0:gi wr (ak w.heap) cur 16 359
 b1:gi wr (ak w.heap+1) zF 16 359
 rc:gi wr g (cF key 10) 432 372
def EI.U{w b g key a}(h:EI w g key a b):EI w g key a b.drew:=⟨h.eR.drew,h.sz,h.zN,h.b0,h.b1,h.rc⟩
def EI.fP{w c w' g key a}(h:EI w g key a c)(b:aN (ak c.heap) c w'):EI w g key a w':=
 have e:=h.sz;have d:=h.zN
 ⟨h.eR.trans<|b.mono h.eR.size,zm h.sz b.size,h.zN,h.b0.Y b À,h.b1.Y b À,h.rc.Y b À⟩
def EI.fI(w g key x)(h:gi w g (cF key 10) 432 372):EI w g key x<|aB (aB w<|aq (aV (kb x 16)) 359)<|aq (aV (kb zF 16)) 359:=by
 have b:=js (h.i (k:=0) Ã);have a:aN (ak w.heap) w<|aB (aB w<|aq (aV (kb x 16)) 359)<|aq (aV (kb zF 16)) 359:=((zt _ _).alloc (zd _) _).alloc Ä _;refine⟨a,Ä,b, ?_, ?_,h.Y a b⟩;all_goals (show((w.heap.push _).push _)[_]?=_)
 all_goals (simp only[jb,Xi])
 grind;grind
theorem Tl(b):∀(vs:Ze) (o:Nat) (w:Zy) (j:Nat),j≠b->(dZ w b o vs).heap[j]?=w.heap[j]?
 |[],_,_,_,_=>rfl|v::r,o,w,j,h=>by rw[dZ,Tl b r (o+1) _ j h,jj _ _ _ _ h]
def gi.o6{w b a n o f}{t:Zt}{c}(h:gi w b f n t)(d:b≠a):gi (dZ w a o c) b f n t:=by grind [gi,Tl]
def gi.all{w b f}{t:Zt}(h:gi w b f 16 t)(x):gi (dZ w b 0<|kb x 16) b x 16 t:=
 (h.ik 16 0 x).bR λi a=>Â
def Mi(w:Zy)(g:Nat)(key _cur f:Zu)(wr:Zy):Prop:=EI w g key f wr
def Mj(w:Zy)(_g:Nat)(_key _cur f:Zu)(wr:Zy):Prop:=aN (ak w.heap) w wr/\gi wr (ak w.heap+1) f 16 359
def EI.vg{w b g key a}(h:EI w g key a b)(f):Mi w g key a f<|dZ b (ak w.heap) 0<|kb f 16:=
 have c:=h.zN;show EI w g key f (dZ b (ak w.heap) 0<|kb f 16)from⟨HJ (zd _) _ _ _ h.eR,by rw[Tm];exact h.sz,h.zN,h.b0.all f,h.b1.o6 À,h.rc.o6 À⟩
def EI.Bf{w b g key a}(h:EI w g key a b)(f):Mj w g key a f<|dZ b (ak w.heap+1) 0<|kb f 16:=
 ⟨HJ À _ _ _ h.eR,h.b1.all f⟩
def LB(x:Addr):Sem Zv:=loadVar 359 x
def SB(x:Addr)(v:Zv):Sem Unit:=storeVar 359 x v
def xrq(x):loadVar 359 x=LB x:=rfl
def xru(x v):storeVar 359 x v=SB x v:=rfl
attribute [local go_sem ↓] xrq xru
def Dd(w b o f)(h:w.rangeAt b o<|kb f 16):(LB<|zq b o).run prog w=cT (bM (aV (kb f 16))) w:=
 run_loadVar_mid w b o 359 (kb f 16) _ h dK rfl (by grind [rB,Hr])
def Md(w b o f)(h:w.there b o 16):(SB (zq b o)<|bM (aV (kb f 16))).run prog w=cT () (dZ w b o<|kb f 16):=
 run_storeVar_mid w b o 359 (aV (kb f 16)) (by rw[xW];exact h) (zL f) (zI f 16)
def zP(n:Nat):nW->Option nW
 | eU id ops b=>if id=n then ac (eU id ops b)else ar
 | fO a b=>match zP n a with
  |some c=>ac c|none=>zP n b
 | .cond _ a b=>match zP n a with
  |some c=>ac c|none=>zP n b
 | .block _ c=>zP n c| .loop c=>zP n c
 | .scope c=>zP n c|_=>ar
def Mh(n:Nat)(f:jE):nW:=(f.body.bind<|zP n).getD .skip
def xnl{w I g key x}(inv:EI w g key x I)(Q c1 c2 M S T c8 U D E F c13 b c d e f i k l m n o p q r c28 c29 s t v y z B c36)
  (hQ:∀(u6 u7 u8 u9 u10 u11 u12:Zv) (w9:Zy),Mi w g key x (nf x<|jI key 0) w9->Q dM ⟨#[zo g,c1,c2,zo (ak w.heap),zo<|ak w.heap+1,M,u6,u7,u8,u9,u10,u11,u12,c13,b,c,d,e,f,i,k,l,m,n,o,p,q,r,c28,c29,s,t,v,y,z,B,c36],[]⟩ w9):
  Code.wp prog (Mh 1 Tryz.f282) Q ⟨#[zo g,c1,c2,zo (ak w.heap),zo<|ak w.heap+1,M,S,T,c8,U,D,E,F,c13,b,c,d,e,f,i,k,l,m,n,o,p,q,r,c28,c29,s,t,v,y,z,B,c36],[]⟩ I:=by
 conv=>arg 2;whnf
 refine wp_region_noPanic ?_;have L:∀a,EI w g key x a->a.rangeAt g (256) (kb (jI key 0) 16)/\a.there (ak w.heap) 0 16:=λa h=>⟨h.rc.lD À (λj H=>by first|exact Db key 10 (0) j À H|(rw[show 256+j=256+16*(0)+j by omega];exact Db key 10 (0) j À H)),h.b0.rC À⟩;have O:=xe λa (h:EI w g key x a)=>h.vg<|nf x<|jI key 0;have R0:I.drew.rangeAt (ak w.heap) 0<|kb x 16:=inv.U.b0.lD À (λj H=>Â);have C:=L9 x<|jI key 0;have W:=λa=>Dd a (ak w.heap) 0 x;have V:=λa=>Dd a g (256)<|jI key 0;have X:=λa=>Md a (ak w.heap) 0<|nf x<|jI key 0;generalize kb (nf x<|jI key 0) 16=XX at*;generalize kb (jI key 0) 16=KK at*;generalize kb x 16=X0 at*;have K:=inv.U;have R:=(L _ K).1;go_region_with (first
   |(go_at_call 296;refine(C _).mono ?_;rintro Z v2⟨rfl,G⟩;have J:=(K).fP G;have Y:=(L _ J).2;clear R R0))
 all_goals (
  have inv:=O.o _ J;grind [NoPanic.normal])
def xnm{w t g key a n}(hn:n<9)(inv:EI w g key a t)(Q c1 c2 W X c8 Y c d e c13 f i k B C D E F G H I J K L c28 c29 l m o p q r c36)
  (hQ:∀(u17 u18 u19 u20 u21 u22 u23 u24 u25 u26 u27:Zv) (w9:Zy),Mi w g key a (nf (ny<|gz a)<|jI key<|n+1) w9->Q dM ⟨#[zo g,c1,c2,zo (ak w.heap),zo<|ak w.heap+1,zi<|(n:Int)+1,W,X,c8,Y,c,d,e,c13,f,i,k,u17,u18,u19,u20,u21,u22,u23,u24,u25,u26,u27,c28,c29,l,m,o,p,q,r,c36],[]⟩ w9):
  Code.wp prog (Mh 5 Tryz.f282) Q ⟨#[zo g,c1,c2,zo (ak w.heap),zo<|ak w.heap+1,zi<|(n:Int)+1,W,X,c8,Y,c,d,e,c13,f,i,k,B,C,D,E,F,G,H,I,J,K,L,c28,c29,l,m,o,p,q,r,c36],[]⟩ t:=by
 have i2:(n:Int)+1<11:=À
 have i3:(0:Int)<=(n:Int)+1:=À
 have i4:bB ((n:Int)+1)=n+1:=À
 have hg:=inv.zN;conv=>arg 2;whnf
 refine wp_region_noPanic ?_;have s:∀b,EI w g key a b->b.rangeAt g (256+(n+1)*16) (kb (jI key<|n+1) 16)/\b.there (ak w.heap) 0 16:=λb h=>⟨h.rc.lD À (λj S=>by first|exact Db key 10 ((n+1)) j À S|(rw[show 256+(n+1)*16+j=256+16*((n+1))+j by omega];exact Db key 10 ((n+1)) j À S)),h.b0.rC À⟩;have HT:=xe λb (h:EI w g key a b)=>h.vg<|nf (ny<|gz a)<|jI key<|n+1;have R0:t.drew.rangeAt (ak w.heap) 0<|kb a 16:=inv.U.b0.lD À (λj S=>Â);have y:=SM a g;have x:=xtw<|gz a;have z:=L9 (ny<|gz a)<|jI key<|n+1;have bb:=λb=>Dd b (ak w.heap) 0 a;have ba:=λb=>Dd b g (256+(n+1)*16)<|jI key<|n+1;have bc:=λb=>Md b (ak w.heap) 0<|nf (ny<|gz a)<|jI key<|n+1;generalize kb (nf (ny<|gz a)<|jI key<|n+1) 16=XX at*;generalize kb (jI key<|n+1) 16=KK at*;generalize kb (ny<|gz a) 16=X2 at*;generalize kb (gz a) 16=X1 at*;generalize kb a 16=X0 at*;have v:EI w g key a t.drew:=inv.U;have S0:=(s _ v).1;clear inv;go_region_with (first
   |(go_at_call 298;refine(y _ (v).rc.vi).mono ?_;rintro Z v2⟨rfl,M⟩;have T:=(v).fP M;have S2:=(s _ T).1;clear S0 R0)
   |(go_at_call 297;refine(x _).mono ?_;rintro Z v3⟨rfl,O⟩;have U:=(T).fP O;have S3:=(s _ U).1;clear S2)
   |(go_at_call 296;refine(z _).mono ?_;rintro Z v4⟨rfl,R⟩;have V:=(U).fP R;have S4:=(s _ V).2;clear S3))
 all_goals (
  have inv:=HT.o _ V;grind [NoPanic.normal])
def xnn{w M g key a}(inv:EI w g key a M)(Q c1 c2 S T U c8 V c d e c13 f i k l m n o p q r s t v x c28 c29 D E F G H I c36)
  (hQ:∀(u28 u29 u30 u31 u32 u33 u34 u35 u36:Zv) (w9:Zy),Mj w g key a (nf (gz a)<|jI key 10) w9->Q dM ⟨#[zo g,c1,c2,zo (ak w.heap),zo<|ak w.heap+1,S,T,U,c8,V,c,d,e,c13,f,i,k,l,m,n,o,p,q,r,s,t,v,x,u28,u29,u30,u31,u32,u33,u34,u35,u36],[]⟩ w9):
  Code.wp prog (Mh 6 Tryz.f282) Q ⟨#[zo g,c1,c2,zo (ak w.heap),zo<|ak w.heap+1,S,T,U,c8,V,c,d,e,c13,f,i,k,l,m,n,o,p,q,r,s,t,v,x,c28,c29,D,E,F,G,H,I,c36],[]⟩ M:=by
 conv=>arg 2;whnf
 refine wp_region_noPanic ?_;have z:∀b,EI w g key a b->b.rangeAt g (416) (kb (jI key 10) 16)/\b.there (ak w.heap+1) 0 16:=λb h=>⟨h.rc.lD À (λj L=>by first|exact Db key 10 (10) j À L|(rw[show 416+j=256+16*(10)+j by omega];exact Db key 10 (10) j À L)),h.b1.rC À⟩;have W:=xe λb (h:EI w g key a b)=>h.Bf<|nf (gz a)<|jI key 10;have R0:M.drew.rangeAt (ak w.heap) 0<|kb a 16:=inv.U.b0.lD À (λj L=>Â);have B:=SM a g;have C:=L9 (gz a)<|jI key 10;have bb:=λb=>Dd b (ak w.heap) 0 a;have ba:=λb=>Dd b g (416)<|jI key 10;have bc:=λb=>Md b (ak w.heap+1) 0<|nf (gz a)<|jI key 10;generalize kb (nf (gz a)<|jI key 10) 16=XX at*;generalize kb (jI key 10) 16=KK at*;generalize kb (gz a) 16=X1 at*;generalize kb a 16=X0 at*;have y:=inv.U;have X:=(z _ y).1;go_region_with (first
   |(go_at_call 298;refine(B _ (y).rc.vi).mono ?_;rintro Z v2⟨rfl,J⟩;have O:=(y).fP J;have Y:=(z _ O).1;clear X R0)
   |(go_at_call 296;refine(C _).mono ?_;rintro Z v3⟨rfl,K⟩;have R:=(O).fP K;have S3:=(z _ R).2;clear Y))
 all_goals (
  have inv:=W.o _ R;grind [NoPanic.normal])
def zzd(key x g w)(e:gi w g (cF key 10) 432 372):aG prog 282 #[zo g,bM (aV (kb x 16))] w λen w'=>en=ah (bM (aV (kb (Yr key x) 16)))/\aN (ak w.heap) w w':=by
 have inv:=EI.fI w g key x e;go_enter func282.1,Tryz.ntmps282;go_upto_region 1 with fail
 try rw[LQ]
 generalize(aB w<|aq (aV (kb x 16)) 359).alloc (aq (aV (kb zF 16)) 359)=wa at*;refine xnl inv _ _ _ _ _ _ _ _ _ _ _ _ _ _ _ _ _ _ _ _ _ _ _ _ _ _ _ _ _ _ _ _ _ _ _ ?_;intro L M O Q f h j R inv;have inv:=inv;go_wp2;go_loopw [5] (λi wr=>∃n:Nat,n<=9/\i=zi ((n:Int)+1)/\EI w g key (Bb key x n) wr) (λi _=>bB (10-dF i))
 case atStart=>exact⟨0,À,rfl,inv⟩
 case round=>
  obtain⟨n,J,rfl,inv⟩:=hrel;by_cases c:n<9
  ·have K:(n:Int)+1<10:=by omega
   go_upto_region 5 with fail
   refine xnm c inv _ _ _ _ _ _ _ _ _ _ _ _ _ _ _ _ _ _ _ _ _ _ _ _ _ _ _ _ _ _ _ _ _ _ ?_;intro k l m o p q r s t v y d inv;have inv:=inv;go_wp2;go_roundw
   case rel=>first|exact⟨n+1,À,Å,inv⟩|((repeat apply Exists.intro);exact⟨⟨n+1,À,Å,inv⟩,rfl⟩)
   grind [dF]
  obtain rfl:n=9:=À
  go_upto_region 6 with fail
  refine xnn inv _ _ _ _ _ _ _ _ _ _ _ _ _ _ _ _ _ _ _ _ _ _ _ _ _ _ _ _ _ _ _ _ _ _ _ ?_;intro z B C D E F G H I d inv;obtain⟨b,a⟩:Mj w g key (Bb key x 9) (Yr key x) d:=inv;go_wp2;unfold gi at a;exact ji (Jf rfl _ _ (ak w.heap+1) 359 _ (0,0) _ rfl a dK rfl<|zL _) rfl ⟨rfl,b⟩
end
section
attribute [local go_sem] zn
def jdr(m):IntKind.u8.wrap ((m:Nat):Int)=e8 (ku m):=by simp[eP,eQ,ek,e8]
def iT(no:Zl)(n i:Nat):Z8:=if i<8 then no.getD i 0 else ku (n/256^(15-i))
def yc(no:Zl)(n k i:Nat):Z8:=if i<8 then no.getD i 0 else if 15-k<i then ku (n/256^(15-i))else 0
structure C2(w:Zy)(f1:Zu)(wr:Zy):Prop where
 eR:aN (ak w.heap) w wr
 sz:ak w.heap+1<ak wr.heap
 b0:gi wr (ak w.heap) zF 16 359
 b1:gi wr (ak w.heap+1) f1 16 359
def C2.fI(w):C2 w zF<|aB (aB w<|aq (aV (kb zF 16)) 359)<|aq (aV (kb zF 16)) 359:=by
 refine⟨((zt _ _).alloc (zd _) _).alloc Ä _,Ä, ?_, ?_⟩;all_goals (show((w.heap.push _).push _)[_]?=_)
 all_goals (simp only[jb,Xi])
 grind;grind
theorem C2.H{w b a}(h:C2 w a b)(k v):C2 w (λi=>if i=k then v else a i)<|ai b (zq (ak w.heap+1) k)<|zc v:=
 ⟨h.eR.setCell Â _,Ï,h.b0.dE À,h.b1.H k v⟩
theorem C2.bR{w b a f2}(h:C2 w a b)(e:∀i,i<16->a i=f2 i):C2 w f2 b:=⟨h.eR,h.sz,h.b0,h.b1.bR e⟩
theorem ct0(a n)(b:aa a=8):bv a++(kb zF 16).drop 8=kb (yc a n 0) 16:=by apply Ye;grind [Hi,wC,yc,zF,rB]
def zy7(a)(W:aa a=8)(n:Nat)(V:n<=100000)(Q)(D:Q=(n:Int))(w):aG prog 283 #[zs a,aH .u64 Q] w λen w'=>en=ah (bM (aV (kb (iT a n) 16)))/\aN (ak w.heap) w w':=by
 subst D;have c:=C2.fI w;have f:=c.b1;have d:=c.eR;have l:ak (kb zF 16).toArray=16:=xW _ _;have G:aK<|∀o:Zy,o.heap[ak w.heap+1]?=ac (aq (aV (bv a++(kb zF 16).drop 8)) 359 (0,0))->aN (ak w.heap+1) (aB (aB w<|aq (aV (kb zF 16)) 359)<|aq (aV (kb zF 16)) 359) o->C2 w (yc a n 0) o:=λo h M=>by refine⟨c.eR.trans<|M.mono À, ?_,c.b0.Y M À,by grind [gi,ct0]⟩;grind
 unfold gi at f;go_enter func283.1,Tryz.ntmps283;go_upto_region 2 with fail
 try rw[LQ]
 generalize hwa:aB (aB w<|aq (aV (kb zF 16)) 359) (aq (aV (kb zF 16)) 359)=wa at*;generalize hzz:kb zF 16=zz at*;go_wp2_with (refine GZ rfl _ _ 163 9 rfl 5 cI Hb (ak w.heap+1) 0 8 16 (st a) rfl rfl _ 359 f ?c1 ?c2 (ak w.heap+1) wa (zt _ _) (zd _) ?_)
 case c1=>rw[zn];omega
 case c2=>grind [zn]
 intro o s p;have inv:=G.o o (by rw[s];rfl) p;clear G s p f l d c hwa hzz;go_wp2;go_loopw [1,6] (λv i wr=>∃k:Nat,k<=8/\i=zi ((15:Int)-k)/\v=aH .u64 (((n/256^k:Nat)):Int)/\C2 w (yc a n k) wr) (λ_ i _=>bB (dF i))
 case atStart=>grind
 case round=>
  clear inv;obtain⟨k,hk,rfl,rfl,inv⟩:=hrel;have E:=inv.sz;by_cases C:k<8
  ·obtain⟨j,T⟩:∃j,15-k=j:=⟨_,rfl⟩;have L:(15:Int)-(k:Int)=(j:Int):=by omega
   have j1:(8:Int)<=(j:Int):=À
   have j2:(j:Int)<16:=À
   have Y:j<16:=À
   obtain⟨m,y⟩:∃m,n/256^k=m:=⟨_,rfl⟩;have U:m<=100000:=by rw[<-y];exact xa (Nat.div_le_self _ _) V
   obtain⟨q,O⟩:∃q,m/256=q:=⟨_,rfl⟩;have J:aK<|n/256^(k+1)=q:=by show _=_;rw[<-O,<-y,yQ,KW]
   have h3:aQ wr (zq (ak w.heap+1) j)=ao:=inv.b1.ee;have h4:ae wr (zq (ak w.heap+1) j)=ac (zc<|yc a n k j):=inv.b1.i Y;have X:=jdr m;have hd:(m:Int)/256=(q:Int):=À
   have Z:IntKind.i64.wrap ((j:Int)-1)=(j:Int)-1:=É
   have H:aK<|C2 w (yc a n<|k+1)<|ai wr (zq (ak w.heap+1) j)<|zc<|UInt8.ofNat m:=by refine(inv.H j<|UInt8.ofNat m).bR λi t=>?_;unfold yc;by_cases e:i=j;grind;grind
   have I:aK<|(15:Int)-((k+1:Nat):Int)=(j:Int)-1:=by show _=_;omega
   rw[y,L];clear inv y L T O;generalize yc a n k j=z at*;go_wp2;go_roundw
   case rel=>first|exact⟨k+1,À,by rw[I.o],by rw[J.o],H.o⟩|((repeat apply Exists.intro);exact⟨⟨k+1,À,by rw[I.o],by rw[J.o],H.o⟩,rfl⟩)
   grind [dF]
  obtain rfl:k=8:=À
  have inv:=inv.bR (f2:=iT a n) (λi t=>by grind [yc,iT]);have r:=inv.b1;have g:=inv.b0;have d:=inv.eR;unfold gi at r g;have t:=zL<|iT a n;have S:=zI (iT a n) 16;have F:=Ez zF<|iT a n;have x:(wr.setRow (ak w.heap) (aV (kb (iT a n) 16))).heap[ak w.heap]?=ac (aq (aV (kb (iT a n) 16)) 359 (0,0)):=Jr _ _ _ _ _ _ g;have B:=Be (b:=ak w.heap) (aV (kb (iT a n) 16)) d À;clear inv hk C E;generalize hKK:aV (kb (iT a n) 16)=K at*;have R:aK<|aV (kb (iT a n) 16)=K:=hKK;clear hKK;go_wp2_with (first|refine J6 rfl 359 _ rfl (ak w.heap+1) rfl 359 _ (0,0) _ r dK rfl t ?_|refine Zo rfl 359 _ _ rfl w.heap.size _ rfl rfl 359 _ g t F S ?_);exact ji (v:=bM K) (Jf rfl _ _ (ak w.heap) 359 _ (0,0) _ rfl x dK rfl t) rfl ⟨by rw[<-R.o],B⟩
end
section
attribute [local go_sem] zn wy
def rX(key:Zu)(no:Zl)(i:Nat):Z8:=Yr key (iT no<|i/16)<|i%16
def sF(key:Zu)(no x:Zl)(d i:Nat):Z8:=if i<d then x.getD i 0^^^rX key no i else x.getD i 0
def me(k no x:Zl):Zl:=kl (λi=>x.getD i 0^^^rX (λj=>k.getD j 0) no i) (aa x)
theorem ye(k a x):aa (me k a x)=aa x:=zJ _ _
structure OI(w:Zy)(g o:Nat)(key fx:Zu)(n:Nat)(Z:Ze)(wr:Zy):Prop where
 eR:aN (ak w.heap) w wr
 Hy:ak w.heap<=g
 vh:ak w.heap<=o
 ne:g≠o
 rc:gi wr g (cF key 10) 432 372
 ob:wr.heap[o]?=ac (aq (aV (kb fx n++Z)) 5 (aa (kb fx n++Z),aa (kb fx n++Z)+1))
def OI.zN{w a g o n key b Z}(h:OI w g o key b n Z a):g<ak a.heap:=js<|h.rc.i (k:=0) Ã
def OI.Hz{w a g o n key b Z}(h:OI w g o key b n Z a):o<ak a.heap:=(za.1 h.ob).1
def OI.fP{w b w' g o n key c Z}(h:OI w g o key c n Z b)(a:aN (ak b.heap) b w'):OI w g o key c n Z w':=
 ⟨h.eR.trans<|a.mono h.eR.size,h.Hy,h.vh,h.ne,h.rc.Y a h.zN,(a.block _ h.Hz).trans h.ob⟩
def OI.U{w b g o n key a Z}(h:OI w g o key a n Z b):OI w g o key a n Z b.drew:=⟨h.eR.drew,h.Hy,h.vh,h.ne,h.rc,h.ob⟩
def OI.i{w b g o n key a Z}(h:OI w g o key a n Z b)(k)(hk:k<n):ae b (zq o k)=ac (zc<|a k):=ċ
def OI.ee{w a g o n key b Z}(h:OI w g o key b n Z a)(k)(hk:k<n):aQ a (zq o k)=ao:=Ŗ
theorem OI.H{w c g o n key b Z}(h:OI w g o key b n Z c)(k)(hk:k<n)(v):OI w g o key (λi=>if i=k then v else b i) n Z<|ai c (zq o k)<|zc v:=by have a:=h.ne;refine⟨h.eR.setCell h.vh _,h.Hy,h.vh,h.ne,h.rc.dE a, ?_⟩;rw[zdm _ _ _ _ _ _ _ h.ob,Jr _ _ _ _ _ _ h.ob];grind [rB,LO]
theorem OI.bR{w b g o n key a fy Z}(h:OI w g o key a n Z b)(e:∀i,i<n->a i=fy i):OI w g o key fy n Z b:=by have:=h.ob;rw[LZ e]at this;exact⟨h.eR,h.Hy,h.vh,h.ne,h.rc,this⟩
def Te(x W):∃(cap:Nat) (Z:Ze) (w1:Zy),aa x<=cap/\(convert 9 163<|zs x).run prog W=cT (az (ac ⟨ak W.heap,0,ar⟩) (aa x) cap) w1/\aN (ak W.heap) W w1/\w1.heap[ak W.heap]?=ac (aq (aV (kb (λi=>x.getD i 0) (aa x)++Z)) 5 (aa (kb (λi=>x.getD i 0) (aa x)++Z),aa (kb (λi=>x.getD i 0) (aa x)++Z)+1)):=by
 have a:=run_bytes_of_string (P:=prog) W 9 163 5 (st x) dA cI eo;obtain⟨cap,b⟩:∃cap,grownCap W (st x).size 0 5=cap:=⟨_,rfl⟩;have c:aa x<=cap:=by rw[<-b];exact grownCap_ge W _ _ _
 rw[b,zn]at a;obtain⟨Z,d⟩:∃Z:Ze,bytesRow (st x) cap=aV (bv x++Z):=⟨bD (cap-aa x)<|zb 0,ĕ⟩;rw[d]at a;rw[Hi]at a;exact⟨cap,Z,_,c,a,((zt _ _).drew).alloc (zd _) _,xn W.drew _⟩
def xeq(k c x)(hk:aa k=16)(X:aa c=8)(hx:aa x<=5000)(w):aG prog 252 #[zs k,zs c,zs x] w λen w'=>en=ah (zs<|me k c x)/\aN (ak w.heap) w w':=by
 go_enter func252.1,Tryz.ntmps252;go_wp2;refine(ztl k hk _).mono ?_;rintro en w1⟨g,rfl,hg,C,v⟩;obtain⟨I,Z,w2,ba,B,z,R⟩:=Te x w1;have M:g<ak w1.heap:=js (C.i (k:=0) Ã);generalize hkey:(λi=>k.getD i 0)=key at*;have y:OI w g (ak w1.heap) key (sF key c x 0) (aa x) Z w2:=⟨v.trans<|z.mono v.size,hg,v.size,À,C.Y z M,by rw[R];rfl⟩;have V:aK<|(λi=>k.getD i 0)=key:=hkey;clear hkey R z C M hg v;obtain⟨o,ho⟩:∃o,ak w1.heap=o:=⟨_,rfl⟩;rw[ho]at y B;go_wp2;clear B ho;go_loopw [9] (λi wr=>∃p:Nat,p<aa x+16/\p%16=0/\i=zi p/\OI w g o key (sF key c x p) (aa x) Z wr) (λi _=>bB (aa x+16-dF i))
 case atStart=>grind
 case round=>
  clear y;obtain⟨p,hp,bd,rfl,inv⟩:=hrel;by_cases bc:p<aa x
  ·have i1:(p:Int)<(aa x:Nat):=by omega
   obtain⟨m,hm⟩:∃m,p/16=m:=⟨_,rfl⟩;have e1:(p:Int).tdiv 16=(m:Nat):=by rw[Int.tdiv_eq_ediv_of_nonneg À];omega
   have E:IntKind.u64.wrap (m:Int)=(m:Int):=by simp[eP,eQ,ek];omega
   have m1:m<=100000:=À
   have D:aK<|OI w g o key (sF key c x p) (aa x) Z wr:=inv;have hd:bI ((p:Int)<((aa x:Nat):Int))=aw:=jm i1;have HP:aK<|∀j,j<16->rX key c (p+j)=Yr key (iT c m) j:=λj O=>by grind [rX]
   clear inv;go_wp2;refine(zy7 c X m m1 _ rfl _).mono ?_;rintro en w3⟨rfl,J⟩;have s:=D.o.fP J;go_wp2;refine(zzd key (iT c m) g _ s.rc).mono ?_;rintro en F⟨rfl,L⟩;have t:=s.fP L;have r:=t.fP<|(zt _ _).alloc (zd _)<|aq (aV (kb (Yr key<|iT c m) 16)) 359;have n:gi (aB F<|aq (aV (kb (Yr key<|iT c m) 16)) 359) (ak F.heap) (Yr key<|iT c m) 16 359:=xn _ _;have q1:o<ak F.heap:=t.Hz;have U:=zL<|Yr key<|iT c m;have h1:=zI (Yr key<|iT c m) 16;have T:ak (#[zb 0,zb 0,zb 0,zb 0,zb 0,zb 0,zb 0,zb 0,zb 0,zb 0,zb 0,zb 0,zb 0,zb 0,zb 0,zb 0]:Za)=ak (kb (Yr key<|iT c m) 16).toArray:=by rw[xW];rfl
   clear s t D J L;generalize hKK:aV (kb (Yr key<|iT c m) 16)=K at*;go_upto_region 7 with(refine Zo rfl 359 _ _ rfl F.heap.size _ rfl rfl 359 _ (xn _ _) U T h1 ?_;rw[mC])
   clear U h1 T hKK;generalize hw5:aB F (aq K 359)=w5 at*;clear hw5;obtain⟨q,hq⟩:∃q,ak F.heap=q:=⟨_,rfl⟩;rw[hq]at n q1⊢;clear hq;have e3:IntKind.i64.wrap ((p:Int)+16)=(p:Int)+16:=É
   by_cases bb:p+16<=aa x
   ·have j1:(p:Int)+16<=(aa x:Nat):=by omega
    have j2:bB ((p:Int)+16)=p+16:=À
    go_wp2;have f:OI w g o key (sF key c x<|p+0) (aa x) Z w5:=r;clear r;go_loopw [40] (λi wq=>∃j:Nat,j<=16/\i=zi j/\OI w g o key (sF key c x<|p+j) (aa x) Z wq/\gi wq q (Yr key<|iT c m) 16 359) (λi _=>bB ((16:Int)-dF i))
    case atStart=>exact⟨0,À,rfl,f,n⟩
    case round=>
     clear f n;obtain⟨j,O,rfl,inv,d⟩:=hrel;by_cases W:j<16
     ·have Y:(j:Int)<((16:Nat):Int):=by omega
      have t2:(j:Int)<16:=À
      have c1:ae wr (zq o<|p+j)=ac (zc<|x.getD (p+j) 0):=by rw[inv.i (p+j) À];unfold sF;rw[if_neg À]
      have f1:aQ wr (zq o<|p+j)=ao:=inv.ee (p+j) À;have c2:ae wr (zq q j)=ac (zc<|Yr key (iT c m) j):=d.i À;have G:aK<|OI w g o key (sF key c x<|p+(j+1)) (aa x) Z<|ai wr.drew (zq o<|p+j)<|zc<|x.getD (p+j) 0^^^Yr key (iT c m) j:=by refine(inv.U.H (p+j) À _).bR λi _=>?_;unfold sF;by_cases e:i=p+j;subst e;rw[if_pos rfl,if_pos À,HP.o j À];rw[if_neg e];by_cases E:i<p+j;rw[if_pos E,if_pos À];rw[if_neg E,if_neg À]
      have H:aK<|gi (ai wr.drew (zq o<|p+j)<|zc<|x.getD (p+j) 0^^^Yr key (iT c m) j) q (Yr key<|iT c m) 16 359:=gi.dE (w:=wr.drew) d À;clear inv d;generalize x.getD (p+j) 0=a at*;generalize Yr key (iT c m) j=b at*;go_wp2;go_still_tail 9,Á;go_wp2;go_roundw
      case rel=>first|exact⟨j+1,À,Å,G.o,H.o⟩|((repeat apply Exists.intro);exact⟨⟨j+1,À,Å,G.o,H.o⟩,rfl⟩)
      case measure=>simp[dF];omega
     have Q:j=16:=À
     have Y:¬(j:Int)<((16:Nat):Int):=À
     rw[Q]at inv;have D:aK<|OI w g o key (sF key c x<|p+16) (aa x) Z wr:=inv;clear inv d;go_wp2;go_roundw
     case rel=>exact⟨p+16,À,À,Å,D.o⟩
     case measure=>simp[dF];omega
   have j1:¬(p:Int)+16<=(aa x:Nat):=À
   have j3:(aa x:Int)<=(p:Int)+16:=À
   have j4:(aa x:Int)<(p:Int)+16:=À
   go_wp2;obtain⟨l,S⟩:∃l,aa x-p=l:=⟨_,rfl⟩;have be:l<=16:=À
   have bf:p+l=aa x:=À
   rw[S];clear S j1 j3 j4;have f:OI w g o key (sF key c x<|p+0) (aa x) Z w5:=r;clear r;go_loopw [40] (λi wq=>∃j:Nat,j<=l/\i=zi j/\OI w g o key (sF key c x<|p+j) (aa x) Z wq/\gi wq q (Yr key<|iT c m) 16 359) (λi _=>bB ((l:Int)-dF i))
   case atStart=>exact⟨0,À,rfl,f,n⟩
   case round=>
    clear f n;obtain⟨j,O,rfl,inv,d⟩:=hrel;by_cases W:j<l
    ·have Y:(j:Int)<((l:Nat):Int):=by omega
     have t2:(j:Int)<16:=À
     have c1:ae wr (zq o<|p+j)=ac (zc<|x.getD (p+j) 0):=by rw[inv.i (p+j) À];unfold sF;rw[if_neg À]
     have f1:aQ wr (zq o<|p+j)=ao:=inv.ee (p+j) À;have c2:ae wr (zq q j)=ac (zc<|Yr key (iT c m) j):=d.i À;have G:aK<|OI w g o key (sF key c x<|p+(j+1)) (aa x) Z<|ai wr.drew (zq o<|p+j)<|zc<|x.getD (p+j) 0^^^Yr key (iT c m) j:=by refine(inv.U.H (p+j) À _).bR λi _=>?_;unfold sF;by_cases e:i=p+j;subst e;rw[if_pos rfl,if_pos À,HP.o j À];rw[if_neg e];by_cases E:i<p+j;rw[if_pos E,if_pos À];rw[if_neg E,if_neg À]
     have H:aK<|gi (ai wr.drew (zq o<|p+j)<|zc<|x.getD (p+j) 0^^^Yr key (iT c m) j) q (Yr key<|iT c m) 16 359:=gi.dE (w:=wr.drew) d À;clear inv d;generalize x.getD (p+j) 0=a at*;generalize Yr key (iT c m) j=b at*;go_wp2;go_still_tail 9,Á;go_wp2;go_roundw
     case rel=>first|exact⟨j+1,À,Å,G.o,H.o⟩|((repeat apply Exists.intro);exact⟨⟨j+1,À,Å,G.o,H.o⟩,rfl⟩)
     case measure=>simp[dF];omega
    have Q:j=l:=À
    have Y:¬(j:Int)<((l:Nat):Int):=À
    have inv:=inv.bR (fy:=sF key c x<|p+16) (λi U=>by unfold sF;rw[if_pos À,if_pos À]);have D:aK<|OI w g o key (sF key c x<|p+16) (aa x) Z wr:=inv;clear inv d;go_wp2;go_roundw
    case rel=>exact⟨p+16,À,À,Å,D.o⟩
    case measure=>simp[dF];omega
  have i1:¬(p:Int)<(aa x:Nat):=À
  have inv:=inv.bR (fy:=λi=>x.getD i 0^^^rX key c i) (λi U=>by grind [sF]);have B:(convert 163 9<|az (ac ⟨o,0,ar⟩) (aa x) I).run prog wr=cT (zs<|me k c x) wr:=by
   have e:me k c x=kl (λi=>x.getD i 0^^^rX key c i) (aa x):=by show kl (λi=>x.getD i 0^^^rX (λj=>k.getD j 0) c i) (aa x)=_;rw[V.o]
   rw[e];have h:=gJ (P:=prog) wr 163 9 5 (zq o 0) I (kl (λi=>x.getD i 0^^^rX key c i) (aa x)) cI eo dA (λj O=>by rw[oB,j7];rw[zJ]at O;rw[inv.i j O];simp[kl,e8]);rw[zJ]at h;exact h
  have hb:=inv.eR;clear inv;go_wp2;go_ret;simp_all
def xie(k a x)(hk:aa k=16)(b:aa a=8)(hx:aa x<=4096)(w):aG prog 206 #[zs k,zs a,zs x] w λen w'=>en=ah (bU #[zs<|me k a x,zi 0])/\aN (ak w.heap) w w':=by
 have c:¬(4096:Int)<(aa x:Nat):=À
 go_enter func206.1,Tryz.ntmps206;go_wp2;refine(xeq k a x hk b À _).mono ?_;rintro en w1⟨rfl,d⟩;go_wp2;go_ret2;simp_all
def zyb(k a x)(hk:aa k=16)(b:aa a=8)(hx:4096<aa x)(w):aG prog 206 #[zs k,zs a,zs x] w λen w'=>en=ah (bU #[aj<|st [],zi 1])/\w'=w:=by
 have c:(4096:Int)<(aa x:Nat):=À
 go_enter func206.1,Tryz.ntmps206;go_wp2;go_ret2;exact⟨rfl,rfl⟩
end
section
attribute [local go_sem] zn zg
def fU.Q{tv w w'}(h:fU tv w)(b:aN (ak w.heap) w w'):fU tv w':=by obtain⟨t,x,rfl,a⟩:=h;exact⟨t,x,rfl,(b.cell<|js a).trans a⟩
def fU.E{tv w}(h:fU tv w)(o):fU tv<|aB w o:=h.Q<|(zt _ _).alloc (zd _) _
def fU.y{tv S w w'}(h:fU tv w)(b:zj S w w')(a:¬S 1):fU tv w':=Ĕ
def Ie(s w):aG prog 116 #[aj s,zi 0] w λe w'=>e=ah (aj s)/\w'=w:=by go_enter func116.1,Tryz.ntmps116;go_wp2;refine(Yt _ Ä _).mono ?_;rintro e w1⟨rfl,rfl⟩;go_wp2;go_ret;simp
def SV{tv}(s n)(b:n≠0)(w)(a:fU tv w):aG prog 116 #[aj s,zi n] w λe w'=>e=jM tv/\w'=w:=by go_enter func116.1,Tryz.ntmps116;go_wp2;refine(Jw _ (by simp[b]) _ a).mono ?_;rintro e w1⟨rfl,rfl⟩;exact⟨rfl,rfl,rfl⟩
def Bj:Zl:=[99,105,112,104,101,114]
def Bg:Zl:=[116,97,103]
def Ji(m:Zl)(ep:Nat):Zl:=uA (Wu [] m) (Bj++nb ep 1) 16
def Y7(m:Zl)(ep:Nat):Zl:=uA (Wu [] m) (Bg++nb ep 1) 32
def Tv(l):(⟨#[99,105,112,104,101,114]⟩:ByteArray)++st l=st (Bj++l):=zg Bj l
theorem Tg(l):(⟨#[116,97,103]⟩:ByteArray)++st l=st (Bg++l):=zg Bg l
def jfc{l}(h:aa l=1):((⟨#[99,105,112,104,101,114]⟩:ByteArray)++st l).size<=4063:=by rw[Tv,zn];simp[Bj,h]
def jfd{l}(h:aa l=1):((⟨#[116,97,103]⟩:ByteArray)++st l).size<=4063:=by grind [Tg,zn,Bg]
theorem xnf{w1:Zy}{a b p x y}(c:p.block≠a.block)(d:p.block≠b.block):ae (ai (ai w1 a x) b y) p=ae w1 p:=by rw[World.cell?_setCell_other _ _ _ _ λe=>d Ě,World.cell?_setCell_other _ _ _ _ λe=>c Ě]
def dv(m:Zl)(x:ByteArray)(n:Int):Zl:=uA (Wu [] m) (ej x.data) (bB n)
def xjc(m)(d:aa m=32)(x n w1)(h:gG w1)(a:x.size<=4063)(b:0<=n)(c:n<=255):aG prog 161 #[aj<|st m,aj ⟨#[]⟩,aj x,aH aU n] w1 λen w'=>en=ah (bU #[aj<|st<|dv m x n,aH aU 0])/\aN (ak w1.heap) w1 w':=by have:=xh2 m [] (ej x.data) À Ä Ë (bB n) À w1 h;rw[jdi,show((bB n:Nat):Int)=n by omega]at this;exact this
def xji(m ep):dv m (⟨#[99,105,112,104,101,114]⟩++st (nb ep 1)) 16=Ji m ep:=by unfold dv Ji;rw[Tv];rfl
def xx6(m ep):dv m (⟨#[116,97,103]⟩++st (nb ep 1)) 32=Y7 m ep:=by unfold dv Y7;rw[Tg];rfl
theorem Id(m j c o)(ep:Nat)(J:aa m=32)(w)(H:gG w):aG prog 103 #[bM #[zs m,zi c,zs j,zi o],zi ep] w λe w'=>e=ah (bM #[zs<|Ji m ep,zs<|Y7 m ep])/\aN (ak w.heap) w w':=by
 have k:=H;have g:=Z2 ep 1;have y:∀(x:ByteArray) (n:Int) (w1:Zy),gG w1->x.size<=4063->0<=n->n<=255->aG prog 161 #[zs m,aj ⟨#[]⟩,aj x,zi n] w1 λD w'=>D=ah (bU #[zs<|dv m x n,zi 0])/\aN (ak w1.heap) w1 w':=λx n w1 h E F G=>xjc m J x n w1 h E F G;go_enter func103.1,Tryz.ntmps103;go_wp2;obtain⟨W,d⟩:∃W,aB (aB w<|aq #[zs m,zi c,zs j,zi o] 78) (aq #[aj ⟨#[]⟩,aj ⟨#[]⟩] 120)=W:=⟨_,rfl⟩;have s:ae W (zq (ak w.heap) 0)=ac (zs m):=by rw[<-d];simp[go_sem]
 have B:W.heap[ak w.heap+1]?=ac (aq #[aj ⟨#[]⟩,aj ⟨#[]⟩] 120):=by rw[<-d];have:=xn (aB w<|aq #[zs m,zi c,zs j,zi o] 78)<|aq #[aj ⟨#[]⟩,aj ⟨#[]⟩] 120;rwa[xp]at this
 have f:aN (ak w.heap) w W:=by rw[<-d];exact((zt _ _).alloc (zd _) _).alloc Ä _
 have I:ak W.heap=ak w.heap+2:=by rw[<-d];simp
 rw[d];have a:aN (ak W.heap) W W.drew:=(zt _ _).drew;have r:=k.Y k.gX f;have l:=f;have C:∀w1,aN (ak W.heap) W w1->ae w1 (zq (ak w.heap) 0)=ac (zs m):=λw1 h=>(h.cell Â).trans s;have b:=C;have p:∀w1,aN (ak W.heap) W w1->ae w1 (zq (ak w.heap+1) 0)=ac (aj ⟨#[]⟩)/\aQ w1 (zq (ak w.heap+1) 0)=ao/\ae w1 (zq (ak w.heap+1) 1)=ac (aj ⟨#[]⟩)/\aQ w1 (zq (ak w.heap+1) 1)=ao:=λw1 h=>by have i:=(h.block _ À).trans B;grind [ae,aQ]
 have z:=s;go_region_held3 (λw'=>ae w' (zq (ak w.heap) 0)=ac (zs m)) (first|exact z|exact q|grind [xnf])
  (first
   |(go_at_call 153;refine(Hh _ ep rfl _).mono ?_;rintro e w1⟨rfl,i⟩;replace a:=Xs a i;have q:=b _ a;obtain⟨t,K,v,L⟩:=p _ a)
   |(go_at_call 161;refine(y _ _ _ (r.Y r.gX a) (by first|exact jfc g|exact jfd g) Ã Ã).mono ?_;rintro e w1⟨rfl,i⟩;replace a:=Xs a i;have q:=b _ a;obtain⟨t,K,v,L⟩:=p _ a)
   |(go_at_call 116;refine(Ie _ _).mono ?_;rintro e w1⟨rfl,rfl⟩))
 simp only[xji,xx6];go_wp2;refine ji (by simp[dX,Tryz.results103,go_sem,t,v]) rfl ⟨rfl, ?_⟩;exact((l.trans<|a.mono l.size).setCell Â _).setCell Â _
def Ml(c t a x)(hk:aa c=16)(b:aa a=8)(hx:aa x<=4096)(w):aG prog 156 #[bM #[zs c,zs t],zs a,zs x] w λe w'=>e=ah (zs<|me c a x)/\aN (ak w.heap) w w':=by have d:∀w1:Zy,aG prog 206 #[zs c,zs a,zs x] w1 λf w'=>f=ah (bU #[zs<|me c a x,zi 0])/\aN (ak w1.heap) w1 w':=λw1=>xie c a x hk b hx w1;go_enter func156.1,Tryz.ntmps156;go_wp2;refine(d _).mono ?_;rintro e w1⟨rfl,g⟩;go_wp2;refine(Ie _ _).mono ?_;rintro e h⟨rfl,rfl⟩;go_wp2;go_ret;exact⟨rfl,Xs ((zt _ _).alloc (zd _) _) g⟩
def zwv{tv}(c t a x)(hk:aa c=16)(b:aa a=8)(hx:4096<aa x)(w)(h:fU tv w):aG prog 156 #[bM #[zs c,zs t],zs a,zs x] w λe w'=>e=jM tv/\aN (ak w.heap) w w':=by have f:∀w1:Zy,aG prog 206 #[zs c,zs a,zs x] w1 λg w'=>g=ah (bU #[aj<|st [],zi 1])/\w'=w1:=λw1=>zyb c a x hk b hx w1;have d:=h;go_enter func156.1,Tryz.ntmps156;go_wp2;refine(f _).mono ?_;rintro e w1⟨rfl,rfl⟩;go_wp2;refine(SV _ 1 Ã _<|d.E _).mono ?_;rintro e i⟨rfl,rfl⟩;exact⟨rfl,rfl,(zt _ _).alloc (zd _) _⟩
theorem Mu(c t x)(i:aa t<=4096)(hx:aa x<=4096)(w)(f:gG w):aG prog 157 #[bM #[zs c,zs t],zs x] w λe w'=>e=ah (zs<|Wu t x)/\aN (ak w.heap) w w':=by have a:=f;have b:∀w1:Zy,gG w1->aG prog 207 #[zs t,zs x] w1 λd w'=>d=ah (bU #[zs<|Wu t x,zi 0])/\aN (ak w1.heap) w1 w':=λw1 h=>xwz t x i hx w1 h;go_enter func157.1,Tryz.ntmps157;go_wp2;refine(b _<|a.Y a.gX<|(zt _ _).alloc (zd _) _).mono ?_;rintro e w1⟨rfl,g⟩;go_wp2;refine(Ie _ _).mono ?_;rintro e j⟨rfl,rfl⟩;go_wp2;go_ret;exact⟨rfl,Xs ((zt _ _).alloc (zd _) _) g⟩
def xju{tv}(c t x)(g:aa t<=4096)(hx:4096<aa x)(w)(f:fU tv w):aG prog 157 #[bM #[zs c,zs t],zs x] w λe w'=>e=jM tv/\aN (ak w.heap) w w':=by have b:∀w1:Zy,aG prog 207 #[zs t,zs x] w1 λd w'=>d=ah (bU #[aj<|st [],zi 1])/\w'=w1:=λw1=>xh6 t x g hx w1;have a:=f;go_enter func157.1,Tryz.ntmps157;go_wp2;refine(b _).mono ?_;rintro e w1⟨rfl,rfl⟩;go_wp2;refine(SV _ 1 Ã _<|a.E _).mono ?_;rintro e h⟨rfl,rfl⟩;exact⟨rfl,rfl,(zt _ _).alloc (zd _) _⟩
def Tn(n c:Nat)(w):aG prog 152 #[aH aU n,aH aU c] w λe w'=>e=ah (aj<|st (83::(nb n 4++nb c 4)))/\aN (ak w.heap) w w':=by
 have d:aK<|(⟨#[83]⟩:ByteArray)++st (nb n 4)++st (nb c 4)=st (83::(nb n 4++nb c 4)):=by show _=_;rw[show(⟨#[83]⟩:ByteArray)=st [83]from rfl,zg,zg];simp
 go_enter func152.1,Tryz.ntmps152;go_wp2;refine(LS _ n rfl _).mono ?_;rintro e w1⟨rfl,a⟩;go_wp2;refine(LS _ c rfl _).mono ?_;rintro e f⟨rfl,b⟩;go_wp2;go_ret;exact⟨by rw[<-d.o];rfl,Xs a b⟩
def xh(w:Zy)(r:Nat)(cs:Za)(t:Zt):Prop:=w.heap[r]?=ac (aq cs t (0,0))
section
variable {w w':cY} {r r':Nat} {cs:Array dL} {t:nt} {S:Nat->Prop}
def xh.lt(h:xh w r cs t):r<ak w.heap:=(za.1 h).1
def xh.i(h:xh w r cs t)(i){v}(a:cs[i]?=ac v):ae w (zq r i)=ac v:=by grind [xh,ae]
def xh.dG(h:xh w r cs t)(i):aQ w (zq r i)=ao:=by grind [xh,aQ]
theorem xh.H(h:xh w r cs t)(i v):xh (ai w (zq r i) v) r (ay cs i v) t:=by grind [xh,zdm,Jr]
def xh.dE(h:xh w r cs t){p}(a:r≠p.block)(v):xh (ai w p v) r cs t:=by grind [xh,zah]
def xh.y(h:xh w r cs t)(a:zj S w w')(b:¬S r):xh w' r cs t:=(a.dB r h.lt b).trans h
def xh.Y(h:xh w r cs t)(a:aN (ak w.heap) w w'):xh w' r cs t:=(a.block r h.lt).trans h
def xh.E(h:xh w r cs t)(o):xh (aB w o) r cs t:=h.Y<|(zt _ _).alloc (zd _) _
theorem xh.dT(w:Zy)(cs)(t:Zt):xh (aB w<|aq cs t) (ak w.heap) cs t:=xn w _
theorem zj.H(w p v):zj (·=p.block) w<|ai w p v:=⟨rfl,rfl,Ä,λk _ hk=>zah _ _ _ _ hk⟩
def zj.E{w}(o):zj S w<|aB w o:= .Q ((zt _ _).alloc (zd _) _)
abbrev Nw(w w':Zy):Prop:=zj (λ_=>False) w w'
def zj.cR{w0}(h:zj S w0 w)(c:ak w0.heap<=r)(k:zj (·=r) w w'):zj S w0 w':=
 ⟨k.os.trans h.os,k.cM.trans h.cM,xa h.J k.J,λi a b=>(k.dB i (zm a h.J) À).trans<|h.dB i a b⟩
end
def ue{w b l}{t:Zt}(h:xh w b #[aj<|st l] t)(m)(n:Nat)(d:m=(n:Int))(f:n<=aa l):aG prog 165 #[aR<|some ⟨b,0,ar⟩,aH aU m] w λe w'=>e=ah (aj<|st<|l.take n)/\zj (·=b) w w'/\xh w' b #[aj<|st<|l.drop n] t:=
 (SF b l m n d f w (h.i 0 rfl)<|h.dG 0).mono λe w'⟨a,c⟩=>⟨a,by grind [zj.H],by subst c;have:=h.H 0<|aj<|st<|l.drop n;grind⟩
def Me{tv w b l}{t:Zt}(h:xh w b #[aj<|st l] t)(a:fU tv w)(m)(n:Nat)(c:m=(n:Int))(d:aa l<n):aG prog 165 #[aR<|some ⟨b,0,ar⟩,aH aU m] w λe w'=>e=jM tv/\w'=w:=SE b l m n c d w (h.i 0 rfl) a
def ud{w b l}{t:Zt}(h:xh w b #[aj<|st l] t)(m)(n:Nat)(g:m=(n:Int))(f:n<=6)(i:n<=aa l):aG prog 166 #[aR<|some ⟨b,0,ar⟩,aH aU m] w λe w'=>e=ah (aH aU (qi (l.take n):Nat))/\zj (·=b) w w'/\xh w' b #[aj<|st<|l.drop n] t:=by
 subst g;refine(xkb b l n f i w (h.i 0 rfl)<|h.dG 0).mono λe w'⟨c,d⟩=>?_;have a:aN (ak (ai w ⟨b,0,ar⟩<|aj<|st<|l.drop n).heap) (ai w ⟨b,0,ar⟩<|aj<|st<|l.drop n) w':=by rw[show(ai w ⟨b,0,ar⟩<|aj<|st<|l.drop n).heap.size=ak w.heap by simp];exact d
 refine⟨c, ?_, ?_⟩;exact(zj.H w ⟨b,0,ar⟩<|aj<|st<|l.drop n).aA (.Q (S:=(·=b)) a);have:=(h.H 0<|aj<|st<|l.drop n).Y a;grind
def Mp{tv w b l}{t:Zt}(h:xh w b #[aj<|st l] t)(a:fU tv w)(m)(n:Nat)(c:m=(n:Int))(d:aa l<n):aG prog 166 #[aR<|some ⟨b,0,ar⟩,aH aU m] w λe w'=>e=jM tv/\w'=w:=by subst c;exact xdw b l n d w (h.i 0 rfl) a
def ii(l:Zl):Nat:=qi<|(l.drop 8).take 2
def zO(l a b):(st l).extract a b=st ((l.take b).drop a):=by apply AJ;grind [st,zaj,Xb]
theorem Tp(l)(f:10<=aa l)(w):aG prog 260 #[zs l] w λe w'=>e=ah (zi (ii l:Nat))/\Nw w w':=by
 have a:aK<|(st l).extract 8 10=st ((l.drop 8).take 2):=by show _=_;rw[zO,Xb]
 have b:aK<|((l.drop 8).take 2).take 2=(l.drop 8).take 2:=qp Â;have c:2<=aa ((l.drop 8).take 2):=Æ
 go_enter func260.1,Tryz.ntmps260;go_wp2;rw[a.o];refine(ud (xh.dT w #[zs<|(l.drop 8).take 2] 234) 2 2 rfl Ã c).mono ?_;rintro e w1⟨rfl,d,hk⟩;go_wp2;go_ret;exact⟨â,zj.cR (zj.E _) (zd _) d⟩
def xi6(x l)(hx:x=st l)(a:10<=aa l)(w):aG prog 260 #[aj x] w λe w'=>e=ah (zi (ii l:Nat))/\Nw w w':=by grind [Tp]
def xxo(l):ii l<65536:=by
 unfold ii;have:=xV<|(l.drop 8).take 2;have a:aa ((l.drop 8).take 2)<=2:=Ă
 have:256^aa ((l.drop 8).take 2)<=256^2:=J7 Ã a;omega
def J5(l:Zl):Bool:=bI (10<=aa l/\42+ii l<=aa l)
def zwm(l w):aG prog 231 #[zs l] w λe w'=>e=ah (aX<|J5 l)/\Nw w w':=by
 have i:=xxo l;by_cases a:10<=aa l
 ·have d:(10:Int)<=(aa l:Nat):=by omega
  have f:IntKind.i64.wrap (10+(ii l:Int))=10+(ii l:Int):=Ì
  have g:IntKind.i64.wrap (10+(ii l:Int)+32)=10+(ii l:Int)+32:=Ì
  have b:aK<|J5 l=bI ((10+(ii l:Int)+32)<=(aa l:Nat)):=by show _=_;unfold J5;exact decide_eq_decide.2 ⟨λh=>À,λh=>⟨a,À⟩⟩
  go_enter func231.1,Tryz.ntmps231;go_wp2;refine(Tp l a _).mono ?_;rintro e w1⟨rfl,c⟩;go_wp2;go_ret;exact⟨â,c⟩
 have d:(aa l:Int)<10:=À
 have b:aK<|J5 l=ao:=by show _=_;unfold J5;simp;omega
 go_enter func231.1,Tryz.ntmps231;go_wp2;go_ret;exact⟨â,zj.refl _ _⟩
end
section
variable {w x v:cY} {r b i:Nat} {cs:Array dL} {t:nt} {S:Nat->Prop} {o:Obj} {u:dL}
def pA{P f a R W}(h:∀v,W=v->aG P f a v R):aG P f a W R:=h _ rfl
def SR{P f R W e a}(h:∀v,W=v->bodyPost P f R e a v):bodyPost P f R e a W:=h _ rfl
def xh.al(h:xh x r cs t)(e:aB x o=v):xh v r cs t:=e▸h.E o
def xh.nu(e:aB x (aq cs t)=v):xh v (ak x.heap) cs t:=e▸xh.dT x cs t
theorem xh.st(h:xh x r cs t)(e:ai x (zq r i) u=v):xh v r (ay cs i u) t:=e▸h.H i u
def xh.ot(h:xh x r cs t)(e:ai x (zq b i) u=v)(n:r≠b):xh v r cs t:=e▸h.dE (p:=zq b i) n u
def zj.al(h:zj S w x)(e:aB x o=v):zj S w v:=e▸h.aA (zj.E o)
theorem zj.st(h:zj S w x)(e:ai x (zq b i) u=v)(n:ak w.heap<=b):zj S w v:=h.cR n<|e▸zj.H x (zq b i) u
def xu7(x:Zy)(p u):ak (ai x p u).heap=ak x.heap:=Ä
def xu6(e:aB x o=v):ak v.heap=ak x.heap+1:=e▸xp x o
end
section
attribute [local go_sem] zn zg
section
variable {t:Zt}
def Mk(l:Zl):Zv:=bM #[aj<|st<|l.take 1,aH aU (qi ((l.drop 1).take 1):Nat),aH aU (qi ((l.drop 4).take 4):Nat),aj<|st<|l.take 10,aj<|st<|(l.drop 10).take<|ii l,aj<|st<|(l.drop<|10+ii l).take 32]
def xm6(l):ii (l.take 10)=ii l:=by grind [ii,Xb]
structure RS(w v:Zy)(b:Nat)(l:Zl)(c:Za):Prop where
 B:xh v b #[zs l] 234
 X:xh v (ak w.heap) #[aj ⟨#[]⟩,zi 0,zi 0,aj ⟨#[]⟩,aj ⟨#[]⟩,aj ⟨#[]⟩] 305
 R:xh v (ak w.heap+1) c 305
 A:zj (·=b) w v
section
variable {w v v':cY} {b h i:Nat} {l l':List UInt8} {c:Array dL} {u:dL} {o:Obj} {S:Nat->Prop}
def RS.pL(s:RS w v b l c)(lb:b<ak w.heap)(k:zj (·=b) v v')(a:xh v' b #[zs l'] 234):RS w v' b l' c:=⟨a,s.X.y k À,s.R.y k À,s.A.aA k⟩
def RS.nw(s:RS w v b l c)(k:Nw v v'):RS w v' b l c:=⟨s.B.y k id,s.X.y k id,s.R.y k id,s.A.aA<|k.W λ_ h=>h.elim⟩
def RS.fr(s:RS w v b l c)(lb:b<ak w.heap)(a:ak w.heap+1<h)(k:zj (·=h) v v'):RS w v' b l c:=⟨s.B.y k À,s.X.y k À,s.R.y k À,s.A.cR À k⟩
theorem RS.H(s:RS w v b l c)(lb:b<ak w.heap)(e:ai v (zq (ak w.heap+1) i) u=v'):RS w v' b l<|ay c i u:=⟨s.B.ot e À,s.X.ot e À,s.R.st e,s.A.st e À⟩
def RS.al(s:RS w v b l c)(e:aB v o=v'):RS w v' b l c:=s.nw<|e▸zj.E o
end
def xa4(b l l1 l2 hd n)(q3:aa hd=10)(D:ii hd=n)(q2:32<=aa l2)(w)(t:xh w b #[zs l] 234)
  (J:∀w0,xh w0 b #[zs l] 234->aG prog 165 #[zo b,zi 10] w0 λe w'=>e=ah (zs hd)/\zj (·=b) w0 w'/\xh w' b #[zs l1] 234)
  (K:∀w0,xh w0 b #[zs l1] 234->aG prog 165 #[zo b,zi n] w0 λe w'=>e=ah (zs<|l1.take n)/\zj (·=b) w0 w'/\xh w' b #[zs l2] 234):
  aG prog 233 #[zo b] w λe w'=>e=ah (bM #[zs<|hd.take 1,zi (qi ((hd.drop 1).take 1):Nat),zi (qi ((hd.drop 4).take 4):Nat),zs hd,zs<|l1.take n,zs<|l2.take 32])/\zj (·=b) w w'/\xh w' b #[zs<|l2.drop 32] 234:=by
 have d:=t.lt;have U:=xe t;have W:=xe J;have Y:=xe K;have V:=xe D;clear t J K D;go_enter func233.1,Tryz.ntmps233;go_wp2;refine pA λv a=>?_;have S:aK<|RS w v b l _:=⟨(U.o.E _).al a,(xh.dT w _ _).al a,xp w _▸xh.nu a,(zj.E _).al a⟩;clear a;refine(W.o _ S.o.B).mono ?_;rintro e w1⟨rfl,L,E⟩;replace S:=xe<|S.o.pL d L E;clear L E;have Z:=S.o.R.i 3 rfl;have f1:=S.o.R.dG 3;go_wp2;refine pA λv a=>?_;replace S:=xe<|S.o.H d a;clear a Z f1;refine(xi6 _ hd rfl À _).mono ?_;rintro e w3⟨rfl,M⟩;replace S:=xe<|S.o.nw M;clear M;rw[V.o];go_wp2;refine(Y.o _ S.o.B).mono ?_;rintro e w4⟨rfl,O,F⟩;replace S:=xe<|S.o.pL d O F;clear O F;have c2:=S.o.R.i 4 rfl;have f2:=S.o.R.dG 4;go_wp2;refine pA λv a=>?_;replace S:=xe<|S.o.H d a;clear a c2 f2;refine(ue S.o.B 32 32 rfl À).mono ?_;rintro e w6⟨rfl,Q,G⟩;replace S:=xe<|S.o.pL d Q G;clear Q G;have s:=S.o.R.lt;have c3:=S.o.R.i 5 rfl;have f3:=S.o.R.dG 5;have c4:=S.o.R.i (v:=zs hd) 3 rfl;go_wp2;refine pA λv a=>?_;have H:=xe<|xh.nu a;rw[xu7]at H;replace S:=xe<|(S.o.H d rfl).al a;clear a c3 f3 c4;refine(ue H.o 1 1 rfl À).mono ?_;rintro e w8⟨rfl,T,I⟩;replace S:=xe<|S.o.fr d s T;replace H:=xe I;clear T I;have c5:=S.o.R.i 0 rfl;have f5:=S.o.R.dG 0;go_wp2;refine pA λv a=>?_;replace S:=xe<|S.o.H d a;replace H:=xe (H.o.ot a À);clear a c5 f5;refine(ud H.o 1 1 rfl Ã Â).mono ?_;rintro e bm⟨rfl,o,i⟩;replace S:=xe<|S.o.fr d s o;replace H:=xe i;generalize f:qi (dU 1<|List.drop 1 hd)=v1;replace f:=xe f;clear o i;have c6:=S.o.R.i 1 rfl;have f6:=S.o.R.dG 1;go_wp2;refine pA λv a=>?_;replace S:=xe<|S.o.H d a;replace H:=xe (H.o.ot a À);clear a c6 f6;refine(ue H.o 2 2 rfl Â).mono ?_;rintro e bn⟨rfl,q,m⟩;replace S:=xe<|S.o.fr d s q;replace H:=xe m;clear q m;go_wp2;refine(ud H.o 4 4 rfl Ã Â).mono ?_;rintro e C⟨rfl,r,z⟩;replace S:=xe<|S.o.fr d s r;generalize g:qi (dU 4<|List.drop 2<|List.drop 1<|List.drop 1 hd)=v2;replace g:=xe g;clear r z H;have c:=λj u h=>S.o.R.i (v:=u) j h;have x:=λj u h=>S.o.X.i (v:=u) j h;have c7:=c 2 _ rfl;have bd:=c 0 (zs<|hd.take 1) rfl;have be:=c 1 (zi v1) rfl;have bf:=c 3 (zs hd) rfl;have bg:=c 4 (zs<|l1.take n) rfl;have bh:=c 5 (zs<|l2.take 32) rfl;have f7:=S.o.R.dG 2;have c8:=x 0 _ rfl;have c9:=x 1 _ rfl;have ba:=x 2 _ rfl;have bb:=x 3 _ rfl;have bc:=x 4 _ rfl;have c13:=x 5 _ rfl;have f8:=S.o.X.dG 0;have f9:=S.o.X.dG 1;have bi:=S.o.X.dG 2;have bj:=S.o.X.dG 3;have bk:=S.o.X.dG 4;have bl:=S.o.X.dG 5;clear c x;go_wp2;refine SR λv a=>?_;have X:=(((((((S.o.X.dE (p:=zq (ak w.heap+1) 2) Ä _).H 0 _).H 1 _).H 2 _).H 3 _).H 4 _).st a);have A:zj (λy=>y=ak w.heap\/y=ak w.heap+1) C v:=by
  subst a;iterate 7 refine zj.aA ?_<|(zj.H _ _ _).W Ä
  exact zj.refl _ _
 clear a;have y0:=X.i (v:=zs<|hd.take 1) 0 rfl;have y1:=X.i (v:=zi v1) 1 rfl;have y2:=X.i (v:=zi v2) 2 rfl;have y3:=X.i (v:=zs hd) 3 rfl;have y4:=X.i (v:=zs<|l1.take n) 4 rfl;have y5:=X.i (v:=zs<|l2.take 32) 5 rfl;refine ji (v:=bM #[zs<|hd.take 1,zi v1,zi v2,zs hd,zs<|l1.take n,zs<|l2.take 32]) (by simp[dX,Tryz.results233,go_sem,y0,y1,y2,y3,y4,y5]) rfl ⟨?_,⟨A.os.trans S.o.A.os,A.cM.trans S.o.A.cM,xa S.o.A.J A.J,λk hk hn=>(A.dB k (zm hk S.o.A.J) À).trans<|S.o.A.dB k hk hn⟩,S.o.B.y A À⟩;rw[<-f.o,<-g.o];simp
def xkn(b l)(f:J5 l=aw)(w)(d:xh w b #[zs l] 234):aG prog 233 #[zo b] w λe w'=>e=ah (Mk l)/\zj (·=b) w w'/\xh w' b #[zs<|l.drop<|42+ii l] 234:=by
 obtain⟨a,c⟩:10<=aa l/\42+ii l<=aa l:=by simpa[J5]using f
 have h:=xa4 b l (l.drop 10) ((l.drop 10).drop<|ii l) (l.take 10) (ii l) Â (xm6 l) Â w d
  (λg h=>ue h 10 10 rfl a) (λg h=>ue h _ (ii l) rfl Â)
 grind [zbd,Mk,Xb]
theorem SZ(l):(st l).toList=[]↔l=[]:=by rw[toList_nil_iff_emptyBytes];constructor;intro h;have:=congrArg ByteArray.size h;rw[zn]at this;simp_all;rintro rfl;rfl
def xqg(l):(st l).toList.isEmpty=l.isEmpty:=by grind [SZ]
def EM(l w):aG prog 37 #[zs l] w λe w'=>e=ah (aX (bI (0<aa l/\aa l<=16)))/\w'=w:=by
 have b:aK<|(!l.isEmpty&&bI ((aa l:Int)<=16))=bI (0<aa l/\aa l<=16):=by
  show _=_;cases l<;>simp
  omega
 have c:aK<|l=[]->bI (0<aa l/\aa l<=16)=ao:=λh=>Â
 have a:=xe<|xqg l;have d:=xe<|SZ l;go_enter func37.1,Tryz.ntmps37;go_wp2
 ·rename_i h;go_ret;exact⟨by rw[c.o<|d.o.1 h];rfl,rfl⟩
 go_ret;refine⟨?_,rfl⟩;rw[<-b.o,<-a.o];rfl
def Tq(l w):aG prog 38 #[zs l] w λe w'=>e=ah (aX (bI (aa l<=32)))/\w'=w:=by
 have a:aK (bI (aa l<=32)=bI ((aa l:Int)<=32)):=decide_eq_decide.2 À;go_enter func38.1,Tryz.ntmps38;go_wp2;all_goals go_ret
 all_goals exact⟨by rw[a.o];rfl,rfl⟩
def Ti{w b l}(h:xh w b #[aj<|st l] t)(m)(n:Nat)(d:m=(n:Int))(g:0<n)(c:n<=16)(f:n<=aa l):aG prog 284 #[aR<|some ⟨b,0,ar⟩,aH aU m] w λe w'=>e=ah (aj<|st<|l.take n)/\zj (·=b) w w'/\xh w' b #[aj<|st<|l.drop n] t:=by subst d;have a:=h;go_enter func284.1,Tryz.ntmps284;go_wp2;refine(ue a _ n rfl f).mono ?_;rintro e w1⟨rfl,j,i⟩;go_wp2;refine(EM (l.take n) _).mono ?_;rintro e k⟨rfl,rfl⟩;go_wp2;refine(Yt _ Ä _).mono ?_;rintro e o⟨rfl,rfl⟩;go_wp2;go_ret;simp_all
def Tj{tv w b l}(h:xh w b #[aj<|st l] t)(i:fU tv w)(j:b≠1)(m)(n:Nat)(k:m=(n:Int))(d:¬(0<n/\n<=16/\n<=aa l)):aG prog 284 #[aR<|some ⟨b,0,ar⟩,aH aU m] w λe w'=>e=jM tv/\zj (·=b) w w':=by
 subst k;have a:=h;have c:=i;go_enter func284.1,Tryz.ntmps284;go_wp2;by_cases o:n<=aa l
 ·refine(ue a _ n rfl o).mono ?_;rintro e w1⟨rfl,f,p⟩;have g:=c.y f<|by omega
  go_wp2;refine(EM (l.take n) _).mono ?_;rintro e q⟨rfl,rfl⟩;go_wp2;refine(Jw _ Â _ g).mono ?_;rintro e r⟨rfl,rfl⟩;exact⟨rfl,rfl,f⟩
 refine(Me a c _ n rfl À).mono ?_;rintro e w1⟨rfl,rfl⟩;exact⟨rfl,rfl,zj.refl _ _⟩
def Wy(l:Zl):Option<|(Zl×Zl)×Zl:=
 if 2<=aa l then
  let k:=qi<|l.take 1;let v:=qi<|(l.drop 1).take 1;let r:=(l.drop 1).drop 1
  if(0<k/\k<=16/\k<=aa r)/\v<=aa (r.drop k)/\v<=32 then ac ((r.take k,(r.drop k).take v),(r.drop k).drop v)else ar
 else ar
def Bi(tv:Zv)(b:Nat)(t:Zt)(l:Zl)(w:Zy)(e:kU)(w':Zy):Prop:=
 zj (·=b) w w'/\(match Wy l with|some ((k,v),r)=>e=ah (bM #[zs k,zs v])/\xh w' b #[zs r] t|none=>e=jM tv)
def zto{tv b l k v r w w'}(h:Wy l=ac ((k,v),r))(a:zj (·=b) w w')(hk:xh w' b #[zs r] t):Bi tv b t l w (ah<|bM #[zs k,zs v]) w':=by grind [Bi]
def EH{tv b l w w'}(h:Wy l=ar)(a:zj (·=b) w w'):Bi tv b t l w (jM tv) w':=by grind [Bi]
def Tu{tv w b}(l)(z:b≠1)(h:xh w b #[aj<|st l] t)(hG:fU tv w):
  aG prog 254 #[aR<|some ⟨b,0,ar⟩] w (Bi tv b t l w):=by
 have Z:=h;have HG:=hG;have ba:=h.lt;have c:aK (Wy l=if 2<=aa l then
  (if(0<qi (l.take 1)/\qi (l.take 1)<=16/\qi (l.take 1)<=aa ((l.drop 1).drop 1))/\qi ((l.drop 1).take 1)<=aa (((l.drop 1).drop 1).drop<|qi<|l.take 1)/\qi ((l.drop 1).take 1)<=32 then ac ((((l.drop 1).drop 1).take<|qi<|l.take 1,(((l.drop 1).drop 1).drop<|qi<|l.take 1).take<|qi<|(l.drop 1).take 1),(((l.drop 1).drop 1).drop<|qi<|l.take 1).drop<|qi<|(l.drop 1).take 1)else ar)else ar):=rfl
 go_enter func254.1,Tryz.ntmps254;go_wp2;have I:aK (zj (·=b) w<|aB w<|aq #[aj ⟨#[]⟩,aj ⟨#[]⟩] 86):=zj.E _;have O:=Z.E<|aq #[aj ⟨#[]⟩,aj ⟨#[]⟩] 86;have Q:=HG.E<|aq #[aj ⟨#[]⟩,aj ⟨#[]⟩] 86;have X0:xh (aB w<|aq #[aj ⟨#[]⟩,aj ⟨#[]⟩] 86) (ak w.heap) #[aj ⟨#[]⟩,aj ⟨#[]⟩] 86:=xh.dT _ _ _;generalize aB w (aq #[aj ⟨#[]⟩,aj ⟨#[]⟩] 86)=w0 at*;by_cases h1:1<=aa l
 ·refine(ud O 1 1 rfl Ã h1).mono ?_;rintro e w1⟨rfl,F,k1⟩;have R:=Q.y F À;have X1:=X0.y F À;have r:=k1;have J:=I.o.aA F;obtain⟨k,hk⟩:∃k,qi (dU 1 l)=k:=⟨_,rfl⟩;rw[hk]at c⊢;obtain⟨l1,m⟩:∃l1,l.drop 1=l1:=⟨_,rfl⟩;have q1:aa l1=aa l-1:=by rw[<-m,Zn]
  rw[m]at c r;go_wp2;by_cases h2:1<=aa l1
  ·refine(ud r 1 1 rfl Ã h2).mono ?_;rintro e w2⟨rfl,G,k2⟩;have S:=R.y G À;have X2:=X1.y G À;have s:=k2;have K:=J.aA G;obtain⟨v,hv⟩:∃v,qi (dU 1 l1)=v:=⟨_,rfl⟩;rw[hv]at c⊢;obtain⟨n,C⟩:∃n,l1.drop 1=n:=⟨_,rfl⟩;rw[C]at c s;go_wp2;by_cases g:0<k/\k<=16/\k<=aa n
   ·refine(Ti s _ k rfl g.1 g.2.1 g.2.2).mono ?_;rintro e w3⟨rfl,H,k3⟩;have G3:=S.y H À;have X3:=X2.y H À;have x:=k3;have L:=K.aA H;obtain⟨i,D⟩:∃i,n.drop k=i:=⟨_,rfl⟩;rw[D]at c x;obtain⟨f,B⟩:∃f,n.take k=f:=⟨_,rfl⟩;rw[B]at c⊢;go_wp2;by_cases U:v<=aa i
    ·refine(ue x _ v rfl U).mono ?_;rintro e q⟨rfl,o,k4⟩;have Y:=G3.y o À;have j:=X3.y o À;have W:=k4;have M:=L.aA o;have q4:aa (i.take v)=v:=by rw[xf];omega
     obtain⟨d,E⟩:∃d,i.take v=d:=⟨_,rfl⟩;rw[E]at c q4⊢;go_wp2;refine(Tq d _).mono ?_;rintro e w5⟨rfl,rfl⟩;go_wp2;by_cases y:v<=32
     ·have a:aK<|Wy l=ac ((f,d),i.drop v):=by show _=_;rw[c.o,if_pos À,if_pos ⟨g,U,y⟩]
      refine(Yt _ (by simp[y]) _).mono ?_;rintro e w6⟨rfl,rfl⟩;have c0:=j.i 0 rfl;have f0:=j.dG 0;have c1:=j.i 1 rfl;have f1:=j.dG 1;go_wp2;have T:=(j.H 0<|aj<|st f).H 1<|aj<|st d;have X:=(W.dE (p:=⟨ak w.heap,0,ar⟩) Â<|aj<|st f).dE (p:=⟨ak w.heap,1,ar⟩) Â<|aj<|st d;have V:=(M.cR (zd _)<|zj.H _ ⟨ak w.heap,0,ar⟩<|aj<|st f).cR (zd _)<|zj.H _ ⟨ak w.heap,1,ar⟩<|aj<|st d;have y0:=T.i 0 rfl;have y1:=T.i 1 rfl;refine ji (v:=bM #[aj<|st f,aj<|st d]) (by simp[dX,Tryz.results254,go_sem,y0,y1]) rfl ?_;exact zto a.o V X
     have a:aK<|Wy l=ar:=by show _=_;rw[c.o,if_pos À,if_neg À]
     refine(Jw _ (by simp[y]) _ Y).mono ?_;rintro e w6⟨rfl,rfl⟩;exact⟨rfl,EH a.o<|M⟩
    have a:aK<|Wy l=ar:=by show _=_;rw[c.o,if_pos À,if_neg À]
    refine(Me x G3 _ v rfl À).mono ?_;rintro e q⟨rfl,rfl⟩;exact⟨rfl,EH a.o<|L⟩
   have a:aK<|Wy l=ar:=by show _=_;rw[c.o,if_pos À,if_neg λh=>g h.1]
   refine(Tj s S z _ k rfl g).mono ?_;rintro e q⟨rfl,o⟩;exact⟨rfl,EH a.o<|K.aA o⟩
  have a:aK<|Wy l=ar:=by show _=_;rw[c.o,if_neg À]
  refine(Mp r R 1 1 rfl À).mono ?_;rintro e q⟨rfl,rfl⟩;exact⟨rfl,EH a.o<|J⟩
 have a:aK<|Wy l=ar:=by show _=_;rw[c.o,if_neg À]
 refine(Mp O Q 1 1 rfl À).mono ?_;rintro e q⟨rfl,rfl⟩;exact⟨rfl,EH a.o<|I.o⟩
inductive Vk where
 |put (k v:Zl)
 |del (k:Zl)
def mG:Vk->Zv
 | .put k v=>gB 86 (bM #[aj<|st k,aj<|st v])
 | .del k=>gB 88 (bM #[aj<|st k])
def mI:Zl->Option (Vk×Zl)
 |[]=>ar
 |a::l=>
  if a=80 then(match Wy l with|some ((k,v),r)=>ac (.put k v,r)|none=>ar)
  else if a=68 then
   (match l with
   |[]=>ar|b::r=>if 0<aI b/\aI b<=16/\aI b<=aa r then ac (.del<|r.take (aI b),r.drop (aI b))else ar)
  else ar
def Dc(tv:Zv)(b:Nat)(t:Zt)(l:Zl)(w:Zy)(e:kU)(w':Zy):Prop:=
 zj (·=b) w w'/\(match mI l with|some (c,r)=>e=ah (mG c)/\xh w' b #[zs r] t|none=>e=jM tv)
def To{tv b l r c w w'}(h:mI l=ac (c,r))(a:zj (·=b) w w')(hk:xh w' b #[zs r] t):Dc tv b t l w (ah<|mG c) w':=by grind [Dc]
def EJ{tv b l w w'}(h:mI l=ar)(a:zj (·=b) w w'):Dc tv b t l w (jM tv) w':=by grind [Dc]
theorem xl(l):(st l).toList=l:=by rw[ByteArray.toList_eq];rfl
def EP(a):qi [a]=aI a:=by simp[qi]
def zy1{tv w b}(l)(p:b≠1)(h:xh w b #[aj<|st l] t)(R:fU tv w):
  aG prog 285 #[aR<|some ⟨b,0,ar⟩] w (Dc tv b t l w):=by
 have I:=h;have J:=R;go_enter func285.1,Tryz.ntmps285;go_wp2;cases l with
 |nil=>
  refine(Me I J 1 1 rfl Ä).mono ?_;rintro e w1⟨rfl,rfl⟩;exact⟨rfl,EJ rfl<|zj.refl _ _⟩
 |cons a l=>
  refine(ue I 1 1 rfl Ä).mono ?_;rintro e w1⟨rfl,K,S⟩;have B:=J.y K À;have C:xh w1 b #[aj<|st l] t:=S;have i:=K;have n:((st<|List.take 1 (a::l)).toList==[80])=bI (a=80):=by rw[xl];by_cases h:a=80<;>simp[h]
  have j:((st<|List.take 1 (a::l)).toList==[68])=bI (a=68):=by rw[xl];by_cases h:a=68<;>simp[h]
  generalize st (dU 1 (a::l))=x at*;by_cases f:a=80
  ·have o:(x.toList==[80])=aw:=by rw[n];simp[f]
   go_wp2;refine(Tu l p C B).mono ?_;intro e L s;unfold Bi at s;cases hq:Wy l with
   |none=>
    rw[hq]at s;obtain⟨g,rfl⟩:=s;exact⟨rfl,EJ (by simp[mI,f,hq])<|i.aA g⟩
   |some q=>
    obtain⟨⟨k,v⟩,r⟩:=q;rw[hq]at s;obtain⟨g,rfl,G⟩:=s;have D:aK<|mI (a::l)=ac (.put k v,r):=by show _=_;simp[mI,f,hq]
    have y:=i.aA g;have z:=G;go_wp2;go_ret;exact To D.o y z
  have o:(x.toList==[80])=ao:=by rw[n];simp[f]
  by_cases d:a=68
  ·have m:(x.toList==[68])=aw:=by rw[j];simp[d]
   go_wp2;cases l with
   |nil=>
    refine(Mp C B 1 1 rfl Ä).mono ?_;rintro e L⟨rfl,rfl⟩;exact⟨rfl,EJ (by simp[mI,f,d]) i⟩
   |cons c r=>
    refine(ud C 1 1 rfl Ã Ä).mono ?_;rintro e L⟨rfl,g,G⟩;have Q:=B.y g À;have z:=G;have y:=i.aA g;rw[show qi (dU 1 (c::r))=aI c from EP c];go_wp2;by_cases hk:0<aI c/\aI c<=16/\aI c<=aa r
    ·have D:aK<|mI (a::c::r)=ac (.del<|r.take (aI c),r.drop (aI c)):=by show _=_;simp[mI,d,hk]
     refine(Ti z _ (aI c) rfl hk.1 hk.2.1 hk.2.2).mono ?_;rintro e U⟨rfl,H,T⟩;have O:=T;have M:=y.aA H;go_wp2;go_ret;exact To D.o M O
    refine(Tj z Q p _ (aI c) rfl hk).mono ?_;rintro e U⟨rfl,H⟩;exact⟨rfl,EJ (by simp[mI,d,hk])<|y.aA H⟩
  have m:(x.toList==[68])=ao:=by rw[j];simp[d]
  obtain⟨V,W,F,E⟩:=B;go_wp2;subst F;exact⟨rfl,EJ (by simp[mI,f,d]) i⟩
def Ms{S w i base e a v n xs}(h:w.ownsRow base e a v n xs)(k:zj S w i)(j:∀q,base<=q->¬S q):i.ownsRow base e a v n xs:=by refine⟨h.1, ?_⟩;obtain m|⟨g,b,c,l,d,f,r⟩:=h.2;grind;exact aE ⟨g,b,c,l,d,(k.dB g (za.1 f).1<|j g d).trans f,r⟩
def zj.lP{S a w w'}(h:zj S a w)(k:aN (ak a.heap) w w'):zj S a w':=⟨k.os.trans h.os,k.output.trans h.cM,xa h.J k.size,λi b c=>(k.block i b).trans<|h.dB i b c⟩
def ln:Nat->Zl->Option (List Vk)
 |_,[]=>ac []|0,_::_=>ar
 |n+1,a::l=>match mI (a::l)with
  |some (c,r)=>(ln n r).map (c::·)|none=>ar
def SW{l k v r}(h:Wy l=ac ((k,v),r)):aa r<aa l:=by grind [Wy]
def Mt{l r c}(h:mI l=ac (c,r)):aa r<aa l:=by
 cases l with
 |nil=>cases h
 |cons a l=>simp only[mI]at h;grind [Wy]
theorem xja:∀(n:Nat) (l:Zl),aa l<=n->ln n l=ln (aa l) l:=by
 intro n;induction n using Nat.strongRecOn with
 |_ n ih=>
  intro l d;cases l with
  |nil=>cases n<;>rfl
  |cons a l=>
   cases n with
   |zero=>grind
   |succ n=>show ln (n+1) (a::l)=ln (aa l+1) (a::l);simp only[ln];cases h:mI (a::l)with|none=>rfl|some q=>obtain⟨c,r⟩:=q;have b:=Mt h;grind
def Wl(l:Zl):Option<|List Vk:=match ln (aa l) l with
 |some D=>if 1<=aa D/\aa D<=20 then ac D else ar
 |none=>ar
def Mn{a l r c}(h:mI (a::l)=ac (c,r)):ln (aa (a::l)) (a::l)=(ln (aa r) r).map (c::·):=by have b:=Mt h;grind [ln,xja]
def Bh{a l}(h:mI (a::l)=ar):ln (aa (a::l)) (a::l)=ar:=by grind [ln]
def S8(c):(mG c).oneCell'=aw:=by cases c<;>rfl
def S6:∃i,prog.info? 126=ac i/\i.zero=ac .nilIface/\i.size=1/\i.bytes=16:=by
 have h:(prog.info? 126).map (λi=>(i.zero,i.size,i.bytes))=ac (ac .nilIface,1,16):=Á
 simp_all
def Tc:prog.underlying 95=ac (.slice 126):=(ex 95).trans Tryz.underlying95
def xsh(tv:Zv)(l:Zl)(w:Zy)(e:kU)(w':Zy):Prop:=
 Nw w w'/\(match Wl l with|some D=>∃v,e=ah v/\w'.ownsRow (ak w.heap) 126 1 v (aa D) (D.map mG)|none=>e=jM tv)
def o7(c:Nat)(w:Zy):Nat:=match ae w (zq c 0)with
 |some (aj s)=>s.size|_=>0
def C9{w c l}(h:xh w c #[zs l] t):o7 c w=aa l:=by unfold o7;rw[h.i 0 rfl];exact zn l
theorem Da{w:Zy}{base base' e a v n xs}(h:w.ownsRow base e a v n xs)(d:base'<=base):w.ownsRow base' e a v n xs:=by refine⟨h.1,h.2.imp id ?_⟩;rintro⟨g,b,c,i,f,r⟩;exact⟨g,b,c,i,xa d f,r⟩
def zq4{tv}(l)(hl:aa l<=100000)(w)(be:1<ak w.heap)(hG:fU tv w):aG prog 261 #[aj<|st l] w<|xsh tv l w:=by
 have HG:=hG;obtain⟨y,hi,M,O,Q⟩:=S6;have E:aK<|Wl l=match ln (aa l) l with|some D=>if 1<=aa D/\aa D<=20 then ac D else ar|none=>ar:=rfl;go_enter func261.1,Tryz.ntmps261
 go_wp2;have A0:Nw w<|aB w<|aq #[aj<|st l] 234:=zj.E _;have B0:xh (aB w<|aq #[aj<|st l] 234) (ak w.heap) #[aj<|st l] 234:=xh.dT _ _ _;generalize aB w (aq #[aj<|st l] 234)=w0 at*;go_loopw [4] (λv wr=>∃(D:List Vk) (r:Zl),aa D+aa r<=aa l/\ln (aa l) l=(ln (aa r) r).map (D++·)/\wr.ownsRow (ak w.heap+1) 126 1 v (aa D) (D.map mG)/\xh wr (ak w.heap) #[aj<|st r] 234/\Nw w wr) (λ_ wr=>o7 (ak w.heap) wr)
 case atStart=>exact⟨[],l,Ä,Ä,jk _ _ _ _,B0,A0⟩
 case round=>
  obtain⟨D,r,Y,L,b,a,s⟩:=hrel;have J:=L;obtain⟨a4,m,rfl,X⟩:=Wo b;have T:=b;have HK:=a;have i:=s;have c0:ae wr ⟨ak w.heap,0,ar⟩=ac (aj<|st r):=a.i 0 rfl;have G:=HG.y s id;have HZ:=C9 a;cases r with
  |nil=>
   have hn:=xl [];have I:aK<|ln (aa l) l=ac D:=by show _=_;rw[J];simp[ln]
   by_cases o:1<=aa D
   ·have i1:(1:Int)<=(aa D:Nat):=by omega
    go_wp2;by_cases hd:aa D<=20
    ·have f:aK<|Wl l=ac D:=by show _=_;rw[E.o,I.o];simp[o,hd]
     refine(Yt _ Â _).mono ?_;rintro e g⟨rfl,rfl⟩;go_wp2;go_ret;refine⟨i, ?_⟩;rw[f.o];exact⟨_,rfl,Da T À⟩
    have f:aK<|Wl l=ar:=by show _=_;rw[E.o,I.o];simp[hd]
    refine(Jw _ Â _ G).mono ?_;rintro e g⟨rfl,rfl⟩;refine⟨rfl,i, ?_⟩;rw[f.o]
   have i1:(aa D:Int)<1:=À
   have f:aK<|Wl l=ar:=by show _=_;rw[E.o,I.o];simp[o]
   go_wp2;refine(Jw _ rfl _ G).mono ?_;rintro e g⟨rfl,rfl⟩;refine⟨rfl,i, ?_⟩;rw[f.o]
  |cons x r=>
   have bd:(st (x::r)).toList.isEmpty=ao:=by rw[xl];rfl
   go_wp2;refine(zy1 (x::r) À HK G).mono ?_;intro e g t;unfold Dc at t;cases hq:mI (x::r)with
   |none=>
    rw[hq]at t;obtain⟨F,rfl⟩:=t;have f:Wl l=ar:=by rw[E.o,J,Bh hq];rfl
    refine⟨rfl, ?_, ?_⟩;exact i.cR (zd _) F;grind
   |some q=>
    obtain⟨c,R⟩:=q;rw[hq]at t;obtain⟨F,rfl,k2⟩:=t;have N2:=i.cR (zd _) F;have K2:=k2;have V:=Ms T F (λq h=>À);have K:aK (ln (aa l) l=(ln (aa R) R).map ((D++[c])++·)):=by show _=_;rw[J,Mn hq,Option.map_map];congr 1;funext z;simp
    have bc:=Mt hq;have HV:=S8 c;have bf:=k2.lt;obtain⟨B,C,n⟩:∃B C,mG c=gB B C:=by cases c<;>exact⟨_,_,rfl⟩
    rw[n]at HV⊢;have H:=n;go_wp2_with (refine wpList_append_lies _ rfl _ _ 95 rfl (ak w.heap+1) 126 y .nilIface 1 16 Tc hi M O Q rfl Ã (az a4 (aa D) m) (aa D) (D.map mG) rfl ?own ⟨ak g.heap,0,ar⟩ 1 1 [gB B C] rfl rfl ?nw ?o1 Ã ?m1 ?m2 ?m3 (ak g.heap+1) ?m4 ?_)
    case own=>exact V.alloc _
    case m1=>grind [nT]
    case m2=>omega
    case m3=>simp;omega
    case m4=>simp
    case o1=>grind
    case nw=>intro j z hz;cases j with|zero=>simp at hz;subst hz;simp[go_sem,Addr.add]|succ j=>grind
    intro g2 k w4 d p W Z;have S:=(zt _<|aB g<|aq #[gB B C] 126).grown p Æ<|zE V;have N4:=(N2.aA<|zj.E _).lP (S.mono À);have U:=(S.block _ À).trans<|K2.E<|aq #[gB B C] 126;have ba:w4.ownsRow (ak w.heap+1) 126 1 (az (ac ⟨g2,0,ar⟩) (aa (D++[c])) k) (aa (D++[c]))<|(D++[c]).map mG:=by rw[qz,zx];simp only[Js,CK,H];exact d
    have bb:=C9 U;go_wp2;go_roundw
    case rel=>exact⟨D++[c],R,Â,K.o,Â,U,N4⟩
    omega
end
end
abbrev KV:=List<|Zl×Zl
def gt:KV->Zl->Zl->KV
 |[],k,v=>[(k,v)]|(k',v')::L,k,v=>if k=k' then(k,v)::L else(k',v')::gt L k v
def iP:KV->Zl->KV
 |[],_=>[]|(k',v')::L,k=>if k=k' then L else(k',v')::iP L k
def Xg:KV->Zl->Option Zl
 |[],_=>ar|(k',v')::L,k=>if k=k' then ac v' else Xg L k
theorem Tf{a b}(h:st a=st b):a=b:=by have:=congrArg (λx=>ej x.data) h;exact this
theorem If(a b):(st a==st b)=bI (a=b):=by grind [beq_toListBytes,xl]
def rD(v:Zl):Zv:=bM #[aj<|st v]
def pM(es:List dP)(L:KV):Prop:=es.map (λe=>(e.key,e.val))=L.map λp=>(zs p.1,rD p.2)
def Mo{e es p L}(h:pM (e::es) (p::L)):e.key=zs p.1/\e.val=rD p.2/\pM es L:=Ő
theorem Ib{e es p L}(a:e.key=zs p.1)(b:e.val=rD p.2)(c:pM es L):pM (e::es) (p::L):=Ő
def xno{es}(h:pM es []):es=[]:=by unfold pM at h;simp_all
theorem Ts{p L}(h:pM [] (p::L)):False:=Ő
def H'(k):∀(L:KV) (es:List dP) (i:Nat),pM es L->
  (Xg L k=ar/\eh lz (zs k) es i=ac ar/\iP L k=L/\∀x born,pM (es++[{key:=zs k,val:=rD x,born}])<|gt L k x)\/
  ∃j v e,Xg L k=ac v/\eh lz (zs k) es i=ac (ac (i+j,rD v))/\es[j]?=ac e/\e.key=zs k/\pM (es.eraseIdx j) (iP L k)/\∀x,pM (es.modify j λe=>{e with key:=zs k,val:=rD x})<|gt L k x
 |[],es,i,h=>by
  cases xno h;exact aF ⟨rfl,rfl,rfl,λx born=>by unfold pM;rfl⟩
 |p::L,[],i,h=>(Ts h).elim
 |(k',v')::L,e::es,i,h=>by
  obtain⟨b,q,c⟩:=Mo h;by_cases hk:k=k';subst hk;refine aE ⟨0,v',e,by simp[Xg], ?_,rfl,b,by simpa[iP]using c,λx=>?_⟩;grind [eh,iq,If];grind [gt,Ib];have m:iq lz (zs k) e.key=ac ao:=by rw[b];simp only[iq,If,hk,decide_false]
  have r:eh lz (zs k) (e::es) i=eh lz (zs k) es (i+1):=by simp only[eh,m]
  obtain⟨d,f,g,a⟩|⟨j,v,l,d,f,g,a,n,o⟩:=H' k L es (i+1) c;grind [Xg,iP,gt,Ib];refine aE ⟨j+1,v,l,by grind [Xg],Â,Â,a, ?_,λx=>?_⟩;grind [iP,Ib];grind [gt,Ib]
theorem Tr{k}:∀{L:KV},Xg L k=ar->∀p∈L,p.1≠k
 |[],_,_,hp=>by cases hp
 |(k',v')::L,h,p,hp=>by by_cases hk:k=k';simp[Xg,hk]at h;simp only[Xg,hk,if_false]at h;cases hp with|head=>grind|tail _ hp=>exact Tr h p hp
def Mq:∀{es:List dP} {L:KV},pM es L->∀x∈es,∃p∈L,x.key=zs p.1/\x.val=rD p.2
 |[],_,_,_,hx=>Ĉ
 |e::es,[],h,_,_=>Ő
 |e::es,p::L,h,x,hx=>by obtain⟨b,c,a⟩:=Mo h;cases hx with|head=>grind|tail _ hx=>obtain⟨q,f,d⟩:=Mq a x hx;grind
def Je(w:Zy)(m:Nat)(L:KV):Prop:=∃es clock,w.heap[m]?=ac (.map es clock)/\pM (ej es) L/\MapKept.Stamped es clock
def Je.lt{w m L}(h:Je w m L):m<ak w.heap:=by obtain⟨a,c,h,_⟩:=h;grind
def Je.y{S w w' m L}(h:Je w m L)(f:zj S w w')(g:¬S m):Je w' m L:=õ
def Yg{P w m es c}(h:w.heap[m]?=ac (.map es c)):(lS m).run P w=cT (.map es c) w:=by simp[lS,fp,h]
def yd{P w m es c}(h:w.heap[m]?=ac (.map es c))(o):(setObj m o).run P w=cT () {w with heap:=ay w.heap m o}:=by simp[setObj,fp,h]
section
variable {P:bT} {w:cY} {t kt et:nt} {m:Nat} {L:KV}
def Mm(hk:P.underlying kt=ac lz)(k n):∀w em,(gT em (n+1) kt<|aj k).run P w=cT () w:=λw em=>ĺ
def Ta(C:P.underlying t=ac (.map kt et))(hk:P.underlying kt=ac lz)(h:Je w m L)(k x):
  ∃w',(gC t (eK<|some m) (zs k)<|rD x).run P w=cT () w'/\zj (·=m) w w'/\Je w' m (gt L k x):=by
 obtain⟨f,a,i,s,b⟩:=h;have F:=(za.1 i).1;have z:=Yg (P:=P) i;have r:=Mm (P:=P) hk (st k) 9999;have c:∀o,zj (·=m) w {w with heap:=ay w.heap m o}:=λo=>⟨rfl,rfl,Ä,λj _ B=>Â⟩;have d:∀o,(ay w.heap m o)[m]?=ac o:=λo=>Â
 obtain⟨I,l,_,q⟩|⟨j,v,e,_,l,E,q,_,J⟩:=H' k L (ej f) 0 s;have g:(bW kt (zs k) (ej f)).run P w=cT ar w:=Ô
 refine⟨{w with heap:=ay w.heap m<|.map (f.push {key:=zs k,val:=rD x,born:=a})<|a+1}, ?_,c _,_,_,d _,Â,MapKept.stamped_push b λy D H=>by obtain⟨p,K,G,_⟩:=Mq s y D;grind [Tr,Tf]⟩;simp[gC,xo C,bG,z,r,g,yd (P:=P) i];have g:(bW kt (zs k) (ej f)).run P w=cT (ac (0+j,rD v)) w:=Ô
 rw[j7]at g;have B:f[j]?=ac e:=by simpa using E
 have n:∀w,(kY ((f[j]?.map (·.key)).getD<|zs k)<|zs k).run P w=cT (zs k) w:=λw=>Ń
 refine⟨{w with heap:=ay w.heap m<|.map (f.modify j λe=>{e with key:=zs k,val:=rD x}) a}, ?_,c _,_,_,d _,Â,MapKept.stamped_modify b j _ (λ_ _=>rfl) λy _ D=>Â⟩;simp[gC,xo C,bG,z,r,g,n,yd (P:=P) i]
def xu0(r:P.underlying t=ac (.map kt et))(hk:P.underlying kt=ac lz)(h:Je w m L)(ty n:Zt)(k):
  ∃w',(ie #[t,n] ty #[eK<|some m,zs k]).run P w=cT (bU #[]) w'/\zj (·=m) w w'/\Je w' m (iP L k):=by
 obtain⟨f,b,i,s,a⟩:=h;have x:=(za.1 i).1;have q:=Yg (P:=P) i;have p:=Mm (P:=P) hk (st k) 9999;have c:∀o,zj (·=m) w {w with heap:=ay w.heap m o}:=λo=>⟨rfl,rfl,Ä,λj _ B=>Â⟩;have d:∀o,(ay w.heap m o)[m]?=ac o:=λo=>Â
 obtain⟨_,l,y,_⟩|⟨j,v,e,_,l,_,_,z,_⟩:=H' k L (ej f) 0 s;have g:(bW kt (zs k) (ej f)).run P w=cT ar w:=Ô
 refine⟨{w with heap:=ay w.heap m<|.map f b}, ?_,c _,_,_,d _,Â,a⟩;simp[ie,xo r,bG,q,p,g,yd (P:=P) i];have g:(bW kt (zs k) (ej f)).run P w=cT (ac (0+j,rD v)) w:=Ô
 rw[j7]at g;refine⟨{w with heap:=ay w.heap m<|.map (f.eraseIdxIfInBounds j) b}, ?_,c _,_,_,d _, ?_,MapKept.stamped_erase a j⟩;simp[ie,xo r,bG,q,p,g,yd (P:=P) i];simp_all
def S'(n:P.underlying t=ac (.map kt et))(hk:P.underlying kt=ac lz)(q:∀w,(zeroValue et).run P w=cT (rD []) w)(h:Je w m L)(k):
  (fB t (eK<|some m) (zs k) aw).run P w=cT (bU #[rD<|(Xg L k).getD [],aX (Xg L k).isSome]) w:=by
 obtain⟨f,d,p,o,a⟩:=h;have l:=Yg (P:=P) p;have i:=Mm (P:=P) hk (st k) 9999;obtain⟨b,c,_,_⟩|⟨j,v,e,b,c,_,_,_,_⟩:=H' k L (ej f) 0 o;have g:(bW kt (zs k) (ej f)).run P w=cT ar w:=č
 simp[fB,xo n,bG,l,i,g,q,b];have g:(bW kt (zs k) (ej f)).run P w=cT (ac (0+j,rD v)) w:=č
 simp[fB,xo n,bG,l,i,g,b]
end
abbrev Xv:=List<|Int×(Zl×Int)
def lO:Xv->Int->(Zl×Int)->Xv
 |[],k,v=>[(k,v)]|(k',v')::L,k,v=>if k=k' then(k,v)::L else(k',v')::lO L k v
def mH:Xv->Int->Xv
 |[],_=>[]|(k',v')::L,k=>if k=k' then L else(k',v')::mH L k
def Xm:Xv->Int->Option (Zl×Int)
 |[],_=>ar|(k',v')::L,k=>if k=k' then ac v' else Xm L k
def lN(v:Zl×Int):Zv:=bM #[aj<|st v.1,aH aU v.2]
def oG(es:List dP)(L:Xv):Prop:=es.map (λe=>(e.key,e.val))=L.map λp=>(zi p.1,lN p.2)
def C'{e es p L}(h:oG (e::es) (p::L)):e.key=zi p.1/\e.val=lN p.2/\oG es L:=ő
theorem Ic{e es p L}(a:e.key=zi p.1)(b:e.val=lN p.2)(c:oG es L):oG (e::es) (p::L):=ő
def Mr{es}(h:oG es []):es=[]:=by unfold oG at h;simp_all
theorem H8{p L}(h:oG [] (p::L)):False:=ő
def Ia(k):∀(L:Xv) (es:List dP) (i:Nat),oG es L->
  (Xm L k=ar/\eh (.int aU) (zi k) es i=ac ar/\mH L k=L/\∀x born,oG (es++[{key:=zi k,val:=lN x,born}])<|lO L k x)\/
  ∃j v e,Xm L k=ac v/\eh (.int aU) (zi k) es i=ac (ac (i+j,lN v))/\es[j]?=ac e/\e.key=zi k/\oG (es.eraseIdx j) (mH L k)/\∀x,oG (es.modify j λe=>{e with key:=zi k,val:=lN x})<|lO L k x
 |[],es,i,h=>by
  cases Mr h;exact aF ⟨rfl,rfl,rfl,λx born=>by unfold oG;rfl⟩
 |p::L,[],i,h=>(H8 h).elim
 |(k',v')::L,e::es,i,h=>by
  obtain⟨b,q,c⟩:=C' h;by_cases hk:k=k';subst hk;refine aE ⟨0,v',e,by simp[Xm], ?_,rfl,b,by simpa[mH]using c,λx=>?_⟩;grind [eh,iq];grind [lO,Ic];have m:iq (.int aU) (zi k) e.key=ac ao:=by rw[b];simp[iq,hk]
  have r:eh (.int aU) (zi k) (e::es) i=eh (.int aU) (zi k) es (i+1):=by simp only[eh,m]
  obtain⟨d,f,g,a⟩|⟨j,v,l,d,f,g,a,n,o⟩:=Ia k L es (i+1) c;grind [Xm,mH,lO,Ic];refine aE ⟨j+1,v,l,by grind [Xm],Â,Â,a, ?_,λx=>?_⟩;grind [mH,Ic];grind [lO,Ic]
theorem EL{k}:∀{L:Xv},Xm L k=ar->∀p∈L,p.1≠k
 |[],_,_,hp=>by cases hp
 |(k',v')::L,h,p,hp=>by by_cases hk:k=k';simp[Xm,hk]at h;simp only[Xm,hk,if_false]at h;cases hp with|head=>omega|tail _ hp=>exact EL h p hp
theorem EN:∀{es:List dP} {L:Xv},oG es L->∀x∈es,∃p∈L,x.key=zi p.1/\x.val=lN p.2
 |[],_,_,_,hx=>Ĉ
 |e::es,[],h,_,_=>ő
 |e::es,p::L,h,x,hx=>by obtain⟨b,c,a⟩:=C' h;cases hx with|head=>grind|tail _ hx=>obtain⟨q,f,d⟩:=EN a x hx;grind
def qB(w:Zy)(m:Nat)(L:Xv):Prop:=∃es clock,w.heap[m]?=ac (.map es clock)/\oG (ej es) L/\MapKept.Stamped es clock
def qB.lt{w m L}(h:qB w m L):m<ak w.heap:=by obtain⟨a,c,h,_⟩:=h;grind
def qB.y{S w w' m L}(h:qB w m L)(f:zj S w w')(g:¬S m):qB w' m L:=õ
section
variable {P:bT} {w:cY} {t kt et:nt} {m:Nat} {L:Xv}
def EK(hk:P.underlying kt=ac (.int aU))(k n):∀w em,(gT em (n+1) kt<|zi k).run P w=cT () w:=λw em=>ĺ
def SY(C:P.underlying t=ac (.map kt et))(hk:P.underlying kt=ac (.int aU))(h:qB w m L)(k x):
  ∃w',(gC t (eK<|some m) (zi k)<|lN x).run P w=cT () w'/\zj (·=m) w w'/\qB w' m (lO L k x):=by
 obtain⟨f,a,i,s,b⟩:=h;have F:=(za.1 i).1;have z:=Yg (P:=P) i;have r:=EK (P:=P) hk k 9999;have c:∀o,zj (·=m) w {w with heap:=ay w.heap m o}:=λo=>⟨rfl,rfl,Ä,λj _ B=>Â⟩;have d:∀o,(ay w.heap m o)[m]?=ac o:=λo=>Â
 obtain⟨I,l,_,q⟩|⟨j,v,e,_,l,E,q,_,J⟩:=Ia k L (ej f) 0 s;have g:(bW kt (zi k) (ej f)).run P w=cT ar w:=Ô
 refine⟨{w with heap:=ay w.heap m<|.map (f.push {key:=zi k,val:=lN x,born:=a})<|a+1}, ?_,c _,_,_,d _,Â,MapKept.stamped_push b λy D H=>by obtain⟨p,K,G,_⟩:=EN s y D;grind [EL]⟩;simp[gC,xo C,bG,z,r,g,yd (P:=P) i];have g:(bW kt (zi k) (ej f)).run P w=cT (ac (0+j,lN v)) w:=Ô
 rw[j7]at g;have B:f[j]?=ac e:=by simpa using E
 have n:∀w,(kY ((f[j]?.map (·.key)).getD<|zi k)<|zi k).run P w=cT (zi k) w:=λw=>Ń
 refine⟨{w with heap:=ay w.heap m<|.map (f.modify j λe=>{e with key:=zi k,val:=lN x}) a}, ?_,c _,_,_,d _,Â,MapKept.stamped_modify b j _ (λ_ _=>rfl) λy _ D=>Â⟩;simp[gC,xo C,bG,z,r,g,n,yd (P:=P) i]
def SX(r:P.underlying t=ac (.map kt et))(hk:P.underlying kt=ac (.int aU))(h:qB w m L)(ty n:Zt)(k):
  ∃w',(ie #[t,n] ty #[eK<|some m,zi k]).run P w=cT (bU #[]) w'/\zj (·=m) w w'/\qB w' m (mH L k):=by
 obtain⟨f,b,i,s,a⟩:=h;have x:=(za.1 i).1;have q:=Yg (P:=P) i;have p:=EK (P:=P) hk k 9999;have c:∀o,zj (·=m) w {w with heap:=ay w.heap m o}:=λo=>⟨rfl,rfl,Ä,λj _ B=>Â⟩;have d:∀o,(ay w.heap m o)[m]?=ac o:=λo=>Â
 obtain⟨_,l,y,_⟩|⟨j,v,e,_,l,_,_,z,_⟩:=Ia k L (ej f) 0 s;have g:(bW kt (zi k) (ej f)).run P w=cT ar w:=Ô
 refine⟨{w with heap:=ay w.heap m<|.map f b}, ?_,c _,_,_,d _,Â,a⟩;simp[ie,xo r,bG,q,p,g,yd (P:=P) i];have g:(bW kt (zi k) (ej f)).run P w=cT (ac (0+j,lN v)) w:=Ô
 rw[j7]at g;refine⟨{w with heap:=ay w.heap m<|.map (f.eraseIdxIfInBounds j) b}, ?_,c _,_,_,d _, ?_,MapKept.stamped_erase a j⟩;simp[ie,xo r,bG,q,p,g,yd (P:=P) i];simp_all
def EO(n:P.underlying t=ac (.map kt et))(hk:P.underlying kt=ac (.int aU))(q:∀w,(zeroValue et).run P w=cT (lN ([],0)) w)(h:qB w m L)(k):
  (fB t (eK<|some m) (zi k) ao).run P w=cT (lN<|(Xm L k).getD ([],0)) w:=by
 obtain⟨f,d,p,o,a⟩:=h;have l:=Yg (P:=P) p;have i:=EK (P:=P) hk k 9999;obtain⟨b,c,_,_⟩|⟨j,v,e,b,c,_,_,_,_⟩:=Ia k L (ej f) 0 o;have g:(bW kt (zi k) (ej f)).run P w=cT ar w:=č
 simp[fB,xo n,bG,l,i,g,q,b];have g:(bW kt (zi k) (ej f)).run P w=cT (ac (0+j,lN v)) w:=č
 simp[fB,xo n,bG,l,i,g,b]
end
section
attribute [local go_sem] zn zg
def lE(L:KV):Vk->KV
 | .put k v=>gt L k v| .del k=>iP L k
def fE(L:KV)(D:List Vk):KV:=D.foldl lE L
def xim(L D c):fE L (D++[c])=lE (fE L D) c:=by simp[fE]
def Bm:prog.underlying 91=ac (.map 9 94):=(ex 91).trans Tryz.underlying91
def SS(x w):(Instr.typeAssert (gB 86 x) 126 86 aw).run prog w=cT (bU #[x,aX aw]) w:=Á
def Tk(x w):(Instr.typeAssert (gB 88 x) 126 86 aw).run prog w=cT (bU #[bM #[aj ⟨#[]⟩,aj ⟨#[]⟩],aX ao]) w:=Á
def SU(x w):(Instr.typeAssert (gB 88 x) 126 88 aw).run prog w=cT (bU #[x,aX aw]) w:=Á
def vj(w:Zy)(g:Nat)(D:List Vk):Prop:=∀i (h:i<aa D),ae w (zq g i)=ac (mG D[i])
def vj.y{S w w' g D}(h:vj w g D)(a:zj S w w')(c:¬S g):vj w' g D:=λi b=>a.i c<|h i b
def GM(m g cap L D)(H:aa D<=1000000)(w)(F:Je w m L)(j:vj w g D)(t:g≠m):
  aG prog 44 #[eK<|some m,az (ac ⟨g,0,ar⟩) (aa D) cap] w λe w'=>e=ah (bU #[])/\zj (·=m) w w'/\Je w' m (fE L D):=by
 have G:=F;have C:=j;go_enter func44.1,Tryz.ntmps44;go_wp2;go_loopw [10] (λi wr=>∃k:Nat,k<=aa D/\i=zi k/\Je wr m (fE L<|D.take k)/\zj (·=m) w wr) (λi _=>bB (aa D-dF i))
 case atStart=>grind [fE,zj.refl]
 case round=>
  obtain⟨k,hk,rfl,n,z⟩:=hrel;by_cases h:k<aa D
  ·have I:(k:Int)<(aa D:Nat):=by omega
   have f:=(C.y z t) k h;have p:aK<|fE L (D.take<|k+1)=lE (fE L<|D.take k) D[k]:=by show _=_;rw[zp h,xim]
   have y:=z;obtain⟨c,s⟩:∃c,D[k]=c:=⟨_,rfl⟩;rw[s]at f p;generalize fE L (D.take k)=L1 at*;cases c with
   |put ky v=>
    have r:ae wr (zq g k)=ac (gB 86<|bM #[zs ky,zs v]):=f;obtain⟨B,b,a,d⟩:=Ta Bm dA (n.y (S:=λ_=>False) (zj.E<|aq #[zs ky,zs v] 86) id) ky v;have x:(gC 91 (eK<|some m) (zs ky)<|bM #[zs v]).run prog (aB wr<|aq #[zs ky,zs v] 86)=cT () B:=b;have q:=SS (bM #[zs ky,zs v]) wr;have o:=(y.aA<|zj.E _).aA a;have l:=d;clear f b a d;go_wp2;go_roundw
    case rel=>exact⟨k+1,À,Å,by rw[p.o];exact l,o⟩
    grind [dF]
   |del ky=>
    have r:ae wr (zq g k)=ac (gB 88<|bM #[zs ky]):=f;obtain⟨B,b,a,d⟩:=xu0 Bm dA (n.y (S:=λ_=>False) (zj.E<|aq #[zs ky] 88) id) 0 9 ky;have q:=Tk (bM #[zs ky]) wr;have E:=SU (bM #[zs ky]) wr;have o:=(y.aA<|zj.E _).aA a;have l:=d;clear f a d;go_wp2;go_roundw
    case rel=>exact⟨k+1,À,Å,by rw[p.o];exact l,o⟩
    grind [dF]
  obtain rfl:k=aa D:=À
  rw[jz]at n;have l:=n;go_wp2;go_end0;grind
structure Lk where
 m:Zl
 tc:Int
 bJ:Zl
 op:Int
 mp:Nat
 ep:Nat
 bA:Nat
 dO:Zl
 eS:Zl
 bE:Int
 aP:Int
 eJ:Int
 fQ:Int
 cE:Bool
 cN:Int
def Lk.G(k:Lk)(ck tk:Zl):Za:=#[aj<|st k.m,aH aU k.tc,aj<|st k.bJ,aH aU k.op,eK<|some k.mp,aH aU (k.ep:Int),aj<|st ck,aj<|st tk,aH aU (k.bA:Int),aj<|st k.dO,aj<|st k.eS,aH aU k.bE,aH aU k.aP,aH aU k.eJ,aH aU k.fQ,aX k.cE,aH aU k.cN]
def Jh(w:Zy)(b:Nat)(k:Lk):Prop:=xh w b (k.G (Ji k.m k.ep)<|Y7 k.m k.ep) 122
def Ec(b k)(l:aa k.m=32)(e':Nat)(w)(c:Jh w b k)(j:gG w):
  aG prog 162 #[zo b,zi e'] w λe w'=>e=ah (bU #[])/\zj (·=b) w w'/\Jh w' b {k with ep:=e'}:=by
 have h:=c;have i:=j;have q:ae w (zq b 0)=ac (zs k.m):=c.i 0 rfl;have r:ae w (zq b 1)=ac (zi k.tc):=c.i 1 rfl;have s:ae w (zq b 2)=ac (zs k.bJ):=c.i 2 rfl;have t:ae w (zq b 3)=ac (zi k.op):=c.i 3 rfl;go_enter func162.1,Tryz.ntmps162;go_wp2;refine(Id k.m k.bJ k.tc k.op e' l _ i).mono ?_;rintro e w1⟨rfl,d⟩;have a:=xh.Y h d;have n:ae w1 (zq b 5)=ac (zi k.ep):=xh.i a 5 rfl;have v:=xh.dG a 5;have o:ae w1 (zq b 6)=ac (zs<|Ji k.m k.ep):=xh.i a 6 rfl;have x:=xh.dG a 6;have p:ae w1 (zq b 7)=ac (zs<|Y7 k.m k.ep):=xh.i a 7 rfl;have y:=xh.dG a 7;go_wp2;have g:=((xh.H a 5<|zi e').H 6<|zs<|Ji k.m e').H 7<|zs<|Y7 k.m e';have f:=((((zj.Q d).aA<|zj.H w1 (zq b 5)<|zi e').aA<|zj.H _ (zq b 6)<|zs<|Ji k.m e').aA<|zj.H _ (zq b 7)<|zs<|Y7 k.m e');go_end0;exact⟨rfl,f,g⟩
end
end P
end Go.Proofs.YtjnbhiamaabbgaaGreatDoor
