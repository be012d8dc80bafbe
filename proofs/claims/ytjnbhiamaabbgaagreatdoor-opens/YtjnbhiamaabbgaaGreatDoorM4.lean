import Derived.Test.YtjnbhiamaabbgaaGreatDoorM3
import Derived.Deep.RegionHeld2
import Derived.Shelf.SlIterI.Nil
import Derived.Shelf.SortM.Plain
import Derived.Shelf.SortM.SortNone
import Derived.Shelf.SlMaps.Clone
import Derived.RangeFuncNested
set_option linter.all false
set_option maxRecDepth 100000
set_option maxHeartbeats 8000000
section
variable{P:Prop}
def Ø(h:P:=by unfold nT;omega):P:=h
def æ(h:P:=by simp[jT];exact⟨rfl,rfl⟩):P:=h
def è(h:P:=by rw[jf];omega):P:=h
def ø(h:P:=by obtain rfl|rfl:=hw1<;>rfl):P:=h
def ý(h:P:=by have:=HQ.o;omega):P:=h
def Ā(h:P:=by simp[dX,Tryz.results96,go_sem]):P:=h
def Ą(h:P:=by simp[dX,nF,go_sem]):P:=h
def ď(h:P:=by show _=_;simp[eP,eQ,ek];omega):P:=h
def Ē(h:P:=by induction L with|nil=>simp[gt]|cons p L ih=>grind [gt]):P:=h
def ė(h:P:=by show _=_;unfold Sr.ib;rw[f];simp only[c.o,ha];rfl):P:=h
def ğ(h:P:=by grind [Dk.o8]):P:=h
def Ģ(h:P:=by grind [oH]):P:=h
def Ī(h:P:=by grind [Sr.dH]):P:=h
def ī(h:P:=by grind [Dk.dR]):P:=h
def Ĭ(h:P:=by simp[ho]):P:=h
def į(h:P:=by simp at e):P:=h
def İ(h:P:=by show _=_;rw[a.o];unfold Vd;rw[if_neg p]):P:=h
def Ĵ(h:P:=by simp[h]):P:=h
def Ĺ(h:P:=by simp[dX,Tryz.results59,go_sem,r1,r2]):P:=h
def ŀ(h:P:=by simp[dX,Tryz.results23,go_sem]):P:=h
def ł(h:P:=by show _=_;unfold Wx;simp only;omega):P:=h
def ŏ(h:P:=by have:=d.o;omega):P:=h
end
namespace Go.Proofs.YtjnbhiamaabbgaaGreatDoor
open Go renaming Act->jG,Calls->aG,Code->nW,Ending->kU,MapEntry->dP,Oper->fj,Value->dL,World->cY,grownBy_putObj'->om,heap_alloc_new->xn,maxLen->nT,results->dX,undef->aC,yielded->eZ
open Go.Calls renaming quiet_of_same->oz
open Go.ChangeMaps renaming setBlock->jA
open Go.Ending renaming returned->ah
open Go.Fence renaming wide->fD
open Go.Instr renaming lookup->fB
open Go.IntKind renaming bits->eQ,i64->aU,signed->ek,wrap->eP,wrap_i64->zh
open Go.KeepsOthers renaming alloc->kh
open Go.Maps renaming size->kS
open Go.Obj renaming cells->aq
open Go.Proofs renaming intOf->bP
open Go.Proofs.Tryz renaming ntmps81->kX,results32->nF
open Go.Region renaming wanted->bC
open Go.Result renaming andThen->bG,ok->cT
open Go.RowKit renaming Below->aN,Hid->aK
open Go.RowKit.Below renaming heap_alloc->Xj,heap_setCell->zah,refl->zt
open Go.Value renaming agg->bM,bool->aX,func->nV,iface->gB,int->aH,map->eK,pointer->aR,slice->az,string->aj,tuple->bU
open Go.WideElems renaming rd->nU
open Go.World renaming alloc->aB,cell?->ae,frozen?->aQ,news_of_block->fY,setCell->ai,size_alloc->xp
open _root_.Array renaming setIfInBounds->ay,size->ak,toList->ej
open _root_.Bool renaming false->ao,true->aw
open _root_.Decidable renaming decide->bI
open _root_.False renaming elim->dI
open _root_.Function renaming comp_def->zc1
open _root_.Int renaming toNat->bB
open _root_.List renaming drop_eq_getElem_cons->Zx,length->aa,length_take->xf,pairwise_cons->Xw,take_succ_eq_append_getElem->zp,toArray->aV
open _root_.List.Pairwise renaming nil->iN
open _root_.Nat renaming reduceAdd->iJ,reduceSub->jV
open _root_.Option renaming none->ar,some->ac
open _root_.Or renaming inl->aF,inr->aE
open _root_.Prod renaming fst->nC
namespace P
open A.Tryq Go.RowKit
section
attribute [local go_sem] zn zg
def zj.U{S w w'}(h:zj S w w'):zj S w w'.drew:=⟨h.os,h.cM,h.J,h.dB⟩
def xh.U{w r cs}{t:Zt}(h:xh w r cs t):xh w.drew r cs t:=h
def fU.U{tv w}(h:fU tv w):fU tv w.drew:=h
def gG.U{w}(h:gG w):gG w.drew:=h
def Je.U{w m L}(h:Je w m L):Je w.drew m L:=h
def gG.y{S w w'}(h:gG w)(a:zj S w w')(c:¬S 4):gG w':=λi b=>a.i c<|h i b
def Bo{tv}(h w)(a:fU tv w):aG prog 164 #[aX h] w λe w'=>w'=w/\((e=ah (bU #[])/\aK (h=aw))\/(e=jM tv/\aK (h=ao))):=by cases h;exact(Jw _ rfl w a).mono λe w' x=>⟨x.2,aE ⟨x.1,rfl⟩⟩;exact(Yt _ rfl w).mono λe w' x=>⟨x.2,aF ⟨x.1,rfl⟩⟩
def jbq{tv}(c t x)(a:aa t<=4096)(w)(d:gG w)(b:fU tv w):aG prog 157 #[bM #[zs c,zs t],zs x] w λe w'=>aN (ak w.heap) w w'/\((e=ah (zs<|Wu t x)/\aK (aa x<=4096))\/(e=jM tv/\aK (4096<aa x))):=by by_cases h:aa x<=4096;exact(Mu c t x a h w d).mono λe w' y=>⟨y.2,aF ⟨y.1,h⟩⟩;exact(xju c t x a À w b).mono λe w' y=>⟨y.2,aE ⟨y.1,by show _<_;omega⟩⟩
def xoe{tv}(c t b x)(hk:aa c=16)(a:aa b=8)(w)(d:fU tv w):aG prog 156 #[bM #[zs c,zs t],zs b,zs x] w λe w'=>aN (ak w.heap) w w'/\((e=ah (zs<|me c b x)/\aK (aa x<=4096))\/(e=jM tv/\aK (4096<aa x))):=by by_cases h:aa x<=4096;exact(Ml c t b x hk a h w).mono λe w' y=>⟨y.2,aF ⟨y.1,h⟩⟩;exact(zwv c t b x hk a À w d).mono λe w' y=>⟨y.2,aE ⟨y.1,by show _<_;omega⟩⟩
def jeu{tv}(l)(o:aa l<=100000)(w)(f:1<ak w.heap)(k:fU tv w):aG prog 261 #[zs l] w λe w'=>Nw w w'/\((∃D g cap,e=ah (az (ac ⟨g,0,ar⟩) (aa D:Nat) cap)/\ak w.heap<=g/\vj w' g D/\aa D<=20/\aK (Wl l=ac D))\/(e=jM tv/\aK (Wl l=ar))):=by
 apply(zq4 l o w f k).mono;rintro e w'⟨j,c⟩;refine⟨j, ?_⟩;cases hc:Wl l with
 |none=>rw[hc]at c;exact aE ⟨c,rfl⟩
 |some D=>
  rw[hc]at c;obtain⟨v,rfl,p⟩:=c;have b:1<=aa D/\aa D<=20:=by unfold Wl at hc;split at hc;grind;cases hc
  obtain⟨_,s⟩|⟨g,cap,d,rfl,n,m,x,h,q,a⟩:=p.2;omega;refine aF ⟨D,g,cap,rfl,n, ?_,b.2,rfl⟩;intro i t;simp only[ae,m];have r:(d.toList.take<|aa D*1)[i]?=(D.map mG)[i]?:=by rw[a]
  grind
def qC(kind:Zl)(ep cnt:Nat)(head body tag:Zl):Za:=#[aj<|st kind,aH aU (ep:Int),aH aU (cnt:Int),aj<|st head,aj<|st body,aj<|st tag]
def oH(k:Lk)(L:KV)(isR:Bool)(cnt:Nat)(head body tag:Zl):Option<|Lk×KV:=
 if 4096<aa (k.dO++head++body) then ar
 else if tag≠Wu (Y7 k.m k.ep) (k.dO++head++body)then ar
 else if isR then
  (match Wl (me (Ji k.m k.ep) (head.take 8) body)with
  |some D=>ac ({k with bA:=cnt,eS:=k.dO,dO:=tag},fE L D)
  |none=>ar)
 else ac ({k with bA:=cnt,eS:=k.dO,dO:=tag},L)
def zoe{k L r cnt a body tag b}(e:k.dO++a++body=b)(h:4096<aa b):oH k L r cnt a body tag=ar:=by simp[oH,e,h]
def zsj{k L r cnt a body tag b}(e:k.dO++a++body=b)(h:tag≠Wu (Y7 k.m k.ep) b):oH k L r cnt a body tag=ar:=Ģ
def zsi{k L cnt a body tag}(h:Wl (me (Ji k.m k.ep) (a.take 8) body)=ar):oH k L aw cnt a body tag=ar:=Ģ
def xec{k L cnt a body tag b D}(e:k.dO++a++body=b)(c:aa b<=4096)(d:tag=Wu (Y7 k.m k.ep) b)(h:Wl (me (Ji k.m k.ep) (a.take 8) body)=ac D):oH k L aw cnt a body tag=ac ({k with bA:=cnt,eS:=k.dO,dO:=tag},fE L D):=Ģ
def xeb{k L cnt a body tag b}(e:k.dO++a++body=b)(c:aa b<=4096)(d:tag=Wu (Y7 k.m k.ep) b):oH k L ao cnt a body tag=ac ({k with bA:=cnt,eS:=k.dO,dO:=tag},L):=Ģ
def rZ(k:Lk)(L:KV)(kind:Zl)(ep cnt:Nat)(head body tag:Zl):Option<|Lk×KV:=
 if cnt≠k.bA+1 then ar
 else if kind=[82]then(if ep=k.ep then oH k L aw cnt head body tag else ar)
 else if kind=[75]then(if ep=k.ep+1/\ep<=5/\body=[]then oH {k with ep:=ep} L ao cnt head body tag else ar)
 else ar
def zS(tv:Zv)(b mp:Nat)(o:Option<|Lk×KV)(w:Zy)(e:kU)(w':Zy):Prop:=
 match o with
 |some (k',L')=>e=ah (bU #[])/\zj (λx=>x=b\/x=mp) w w'/\Jh w' b k'/\Je w' mp L'|none=>e=jM tv/\zj (λx=>x=b\/x=mp) w w'
def Jl{tv b mp o w w'}(h:o=ar)(a:zj (λx=>x=b\/x=mp) w w'):zS tv b mp o w (jM tv) w':=by subst h;exact⟨rfl,a⟩
def De{tv b mp k' L' o w w'}(h:o=ac (k',L'))(a:zj (λx=>x=b\/x=mp) w w')(c:Jh w' b k')(d:Je w' mp L'):zS tv b mp o w (ah<|bU #[]) w':=by subst h;exact⟨rfl,a,c,d⟩
def zq5{tv}(b k L)(hm:aa k.m=32)(kind a body tag ep cnt)(ct:k.ep<=255)(cs:k.bA<4294967296)(co:aa a=10)(ce:aa body<=65535)(ht:aa k.dO=32)(w)(b3:1<ak w.heap)(cc:b≠1)(cd:b≠4)(hm1:k.mp≠1)(cu:k.mp≠4)(T:b≠k.mp)(hb:Jh w b k)(hs:Je w k.mp L)(hT:gG w)(hG:fU tv w):
  aG prog 232 #[zo b,bM<|qC kind ep cnt a body tag] w (zS tv b k.mp (rZ k L kind ep cnt a body tag) w):=by
 have HB:Jh w b k:=hb;have HT:gG w:=hT;have HG:fU tv w:=hG;have HS:Je w k.mp L:=hs;have cr:=hb.lt;have cv:=hs.lt;have e1:IntKind.i64.wrap ((k.bA:Int)+1)=(k.bA:Int)+1:=Ì
 have X:aK (rZ k L kind ep cnt a body tag=if cnt≠k.bA+1 then ar
  else if kind=[82]then(if ep=k.ep then oH k L aw cnt a body tag else ar)
  else if kind=[75]then(if ep=k.ep+1/\ep<=5/\body=[]then oH {k with ep:=ep} L ao cnt a body tag else ar)
  else ar):=rfl
 clear hb hT hG hs;unfold qC;go_enter func232.1,Tryz.ntmps232;go_wp2;have L0:Jh (aB w<|aq (qC kind ep cnt a body tag) 305) b k:=xh.E HB _;have R0:xh (aB w<|aq (qC kind ep cnt a body tag) 305) (ak w.heap) (qC kind ep cnt a body tag) 305:=xh.dT _ _ _;have G0:fU tv<|aB w<|aq (qC kind ep cnt a body tag) 305:=HG.E _;have A0:zj (λx=>x=b\/x=k.mp) w<|aB w<|aq (qC kind ep cnt a body tag) 305:=zj.E _;have M0:Je (aB w<|aq (qC kind ep cnt a body tag) 305) k.mp L:=HS.y (S:=λ_=>False) (zj.E _) id;have T0:gG<|aB w<|aq (qC kind ep cnt a body tag) 305:=HT.y (S:=λ_=>False) (zj.E _) id;have E:(aB w<|aq #[zs kind,zi ep,zi cnt,zs a,zs body,zs tag] 305)=aB w (aq (qC kind ep cnt a body tag) 305):=rfl;rw[E];clear E HB HT HG HS;generalize aB w (aq (qC kind ep cnt a body tag) 305)=w0 at*;have c1:ae w0 (zq (ak w.heap) 2)=ac (zi cnt):=R0.i 2 rfl;have c2:ae w0 (zq b 8)=ac (zi k.bA):=xh.i L0 8 rfl;go_still_tail 8,Á;go_wp2;by_cases hq:cnt=k.bA+1;rotate_left;have V:((cnt:Int)==(k.bA:Int)+1)=ao:=è
 rw[V];refine(Jw _ rfl _ G0.U).mono ?_;rintro e w1⟨rfl,rfl⟩;exact⟨rfl,Jl (by rw[X.o,if_pos hq]) A0.U⟩;have V:((cnt:Int)==(k.bA:Int)+1)=aw:=by rw[yS];omega
 rw[V];refine(Yt _ rfl _).mono ?_;rintro e w1⟨rfl,rfl⟩;have HQ:aK<|cnt=k.bA+1:=hq;clear hq;have L1:Jh w0.drew b k:=L0.U;have G:xh w0.drew (ak w.heap) (qC kind ep cnt a body tag) 305:=R0.U;have K:fU tv w0.drew:=G0.U;have J:zj (λx=>x=b\/x=k.mp) w w0.drew:=A0.U;have M1:Je w0.drew k.mp L:=M0.U;have T1:gG w0.drew:=T0.U;clear L0 R0 G0 A0 M0 T0 c1 c2 V;generalize w0.drew=w1 at*;have d0:ae w1 (zq (ak w.heap) 0)=ac (zs kind):=G.i 0 rfl;have kR:((st kind).toList==[82])=bI (kind=[82]):=by rw[xl];by_cases h:kind=[82]<;>simp[h]
 have kK:((st kind).toList==[75])=bI (kind=[75]):=by rw[xl];by_cases h:kind=[75]<;>simp[h]
 by_cases hR:kind=[82];focus
  have cj:((st kind).toList==[82])=aw:=by rw[kR];simp[hR]
  have HR:aK<|kind=[82]:=hR;clear kR kK hR;have d1:ae w1 (zq (ak w.heap) 1)=ac (zi ep):=G.i 1 rfl;have d2:ae w1 (zq b 5)=ac (zi k.ep):=xh.i L1 5 rfl;go_wp2;go_still_tail 7,Á;go_wp2;by_cases he:ep=k.ep;rotate_left;have V:((ep:Int)==(k.ep:Int))=ao:=è
  rw[V];refine(Jw _ rfl _ K.U).mono ?_;rintro e i⟨rfl,rfl⟩;exact⟨rfl,Jl (by rw[X.o,if_neg ý,if_pos HR.o,if_neg he]) J.U⟩;have V:((ep:Int)==(k.ep:Int))=aw:=by rw[yS];omega
  rw[V];refine(Yt _ rfl _).mono ?_;rintro e i⟨rfl,rfl⟩;obtain⟨q,f⟩:∃q,k=q:=⟨_,rfl⟩;have cg:aa q.dO=32:=by rw[<-f];exact ht
  have bp:aK<|k.mp=q.mp:=by show _=_;rw[f]
  have n:aK<|rZ k L kind ep cnt a body tag=oH q L aw cnt a body tag:=by show _=_;rw[X.o,if_neg ý,if_pos HR.o,if_pos he,f]
  have L2:Jh w1.drew b q:=by rw[<-f];exact L1.U
  have R2:xh w1.drew (ak w.heap) (qC kind ep cnt a body tag) 305:=G.U;have G2:fU tv w1.drew:=K.U;have A2:zj (λx=>x=b\/x=k.mp) w w1.drew:=J.U;have M2:Je w1.drew k.mp L:=M1.U;have T2:gG w1.drew:=T1.U;clear L1 G K J M1 T1 d0 d1 d2 V he X f;generalize w1.drew=i at*
 rotate_left;focus
  have cj:((st kind).toList==[82])=ao:=by rw[kR];simp[hR]
  have HR:aK<|kind≠[82]:=hR;clear kR hR;by_cases hK:kind=[75];rotate_left
  ·have ci:((st kind).toList==[75])=ao:=by rw[kK];simp[hK]
   obtain⟨ti,xi,bh,ca⟩:=K;have b7:aK<|tv=gB ti xi:=bh;rw[bh]at ca;have HN:aK<|rZ k L kind ep cnt a body tag=ar:=by show _=_;rw[X.o,if_neg ý,if_neg HR.o,if_neg hK]
   clear kK bh;go_wp2;exact⟨rfl,by have:=Jl (tv:=tv) HN.o J;rw[b7.o]at this⊢;omega⟩
  have ci:((st kind).toList==[75])=aw:=by rw[kK];simp[hK]
  have HK:aK<|kind=[75]:=hK;clear kK hK;have f1:IntKind.i64.wrap ((k.ep:Int)+1)=(k.ep:Int)+1:=Ì
  have HC:∀c,c=w1.drew->ae c (zq (ak w.heap) 1)=ac (zi ep)/\ae c (zq b 5)=ac (zi k.ep)/\ae c (zq (ak w.heap) 4)=ac (zs body):=λc h=>by subst h;exact⟨G.i 1 rfl,xh.i L1 5 rfl,G.i 4 rfl⟩
  have H:=HC _ rfl;have HN:aK<|¬(ep=k.ep+1/\ep<=5/\body=[])->rZ k L kind ep cnt a body tag=ar:=λhh=>by rw[X.o,if_neg ý,if_neg HR.o,if_pos HK.o,if_neg hh]
  have qa:((ep:Int)==(k.ep:Int)+1)=bI (ep=k.ep+1):=by by_cases h:ep=k.ep+1<;>simp[h];omega
  have qc:((st body).toList==[])=bI (body=[]):=by rw[xl];by_cases h:body=[]<;>simp[h]
  have d1:ae w1 (zq (ak w.heap) 1)=ac (zi ep):=G.i 1 rfl;have d2:ae w1 (zq b 5)=ac (zi k.ep):=xh.i L1 5 rfl;have d4:ae w1 (zq (ak w.heap) 4)=ac (zs body):=G.i 4 rfl;by_cases hA:ep=k.ep+1;rotate_left
  ·have ck:((ep:Int)==(k.ep:Int)+1)=ao:=by rw[qa];simp[hA]
   clear qa;go_wp2;go_still_tail 18,Á;go_wp2;refine(Jw _ rfl _ K.U).mono ?_;rintro e i⟨rfl,rfl⟩;exact⟨rfl,Jl (HN.o λh=>hA h.1) J.U⟩
  have ck:((ep:Int)==(k.ep:Int)+1)=aw:=by rw[qa];simp[hA]
  have HA:aK<|ep=k.ep+1:=hA;clear qa hA;by_cases hB:ep<=5;rotate_left
  ·have b9:bI ((ep:Int)<=5)=ao:=by simp;omega
   have cp:¬(ep:Int)<=5:=À
   go_wp2;go_still_tail 18,Á;go_wp2;refine(Jw _ rfl _ K.U).mono ?_;rintro e i⟨rfl,rfl⟩;exact⟨rfl,Jl (HN.o λh=>hB h.2.1) J.U⟩
  have b9:(ep:Int)<=5:=À
  by_cases hC:body=[];rotate_left
  ·have cl:((st body).toList==[])=ao:=by rw[qc];simp[hC]
   have ba:aK<|body≠[]:=hC;clear qc hC;go_wp2;go_still_tail 18,Á;go_wp2;refine(Jw _ rfl _ K.U).mono ?_;rintro e i⟨rfl,rfl⟩;exact⟨rfl,Jl (HN.o λh=>ba.o h.2.2) J.U⟩
  have cl:((st body).toList==[])=aw:=by rw[qc];simp[hC]
  have ba:aK<|body=[]:=hC;clear qc hC;go_wp2;go_still_tail 18,Á;go_wp2;refine(Yt _ rfl _).mono ?_;rintro e i⟨rfl,rfl⟩;have bs:Jh w1.drew b k:=L1.U;have bd:xh w1.drew (ak w.heap) (qC kind ep cnt a body tag) 305:=G.U;have bk:fU tv w1.drew:=K.U;have bj:zj (λx=>x=b\/x=k.mp) w w1.drew:=J.U;have bt:Je w1.drew k.mp L:=M1.U;have be:gG w1.drew:=T1.U;clear L1 G K J M1 T1 d0 d1 d2 d4 H HC HN;generalize w1.drew=wz at*;have d1:ae wz (zq (ak w.heap) 1)=ac (zi ep):=bd.i 1 rfl;go_wp2;refine(Ec b k hm ep _ bs be).mono ?_;rintro e i⟨rfl,bv,bf⟩;have y:aK (zj (·=b) wz i):=bv;obtain⟨q,f⟩:∃q:Lk,{k with ep:=ep}=q:=⟨_,rfl⟩;have cg:aa q.dO=32:=by rw[<-f];exact ht
  have bp:aK<|k.mp=q.mp:=by show _=_;rw[<-f]
  have n:aK<|rZ k L kind ep cnt a body tag=oH q L ao cnt a body tag:=by show _=_;rw[X.o,if_neg ý,if_neg HR.o,if_pos HK.o,if_pos ⟨HA.o,hB,ba.o⟩,f]
  have L2:Jh i b q:=by rw[f]at bf;exact bf
  have R2:xh i (ak w.heap) (qC kind ep cnt a body tag) 305:=bd.y y.o À;have G2:fU tv i:=bk.y y.o<|Ne.symm cc;have A2:zj (λx=>x=b\/x=k.mp) w i:=bj.aA<|y.o.W λ_ h=>aF h;have M2:Je i k.mp L:=bt.y y.o<|Ne.symm T;have T2:gG i:=be.y y.o<|Ne.symm cd;clear bs bd bk bj bt be d1 f bv bf y X
 all_goals
  have d3:ae i (zq (ak w.heap) 3)=ac (zs a):=R2.i 3 rfl;have z1:¬9223372036854775807<42+aa body:=À
  have z2:¬9223372036854775765<aa body:=À
  have cm:aa (Y7 q.m q.ep)=32:=Hn _ _ 32 Ã;have bu:aa (Ji q.m q.ep)=16:=Hn _ _ 16 Ã;obtain⟨I,b2⟩:∃I,q.dO++a++body=I:=⟨_,rfl⟩;have o:aK<|q.dO++a++body=I:=b2;clear b2;have KM:∀c s,s=st I->gG c->fU tv c->aG prog 157 #[bM #[zs<|Ji q.m q.ep,zs<|Y7 q.m q.ep],aj s] c λe r=>aN (ak c.heap) c r/\((e=ah (zs<|Wu (Y7 q.m q.ep) I)/\aK (aa I<=4096))\/(e=jM tv/\aK (4096<aa I))):=λc s hs h h'=>hs▸jbq _ _ I À c h h';obtain⟨tg,bg⟩:∃tg,Wu (Y7 q.m q.ep) I=tg:=⟨_,rfl⟩;have C:aK<|Wu (Y7 q.m q.ep) I=tg:=bg;rw[bg]at KM;clear bg;have HC:∀c,aN (ak i.heap) i c->ae c (zq (ak w.heap) 3)=ac (zs a)/\ae c (zq (ak w.heap) 4)=ac (zs body)/\ae c (zq (ak w.heap) 5)=ac (zs tag)/\ae c (zq b 6)=ac (zs<|Ji q.m q.ep)/\ae c (zq b 7)=ac (zs<|Y7 q.m q.ep)/\ae c (zq b 9)=ac (zs q.dO):=λc h=>by have r3:=R2.Y h;have l3:=xh.Y L2 h;exact⟨r3.i 3 rfl,r3.i 4 rfl,r3.i 5 rfl,l3.i 6 rfl,l3.i 7 rfl,l3.i 9 rfl⟩
  have H:=HC i<|zt _ _;go_wp2;go_region_held2 (λr=>ae r (zq (ak w.heap) 3)=ac (zs a)/\ae r (zq (ak w.heap) 4)=ac (zs body)/\ae r (zq (ak w.heap) 5)=ac (zs tag)/\ae r (zq b 6)=ac (zs<|Ji q.m q.ep)/\ae r (zq b 7)=ac (zs<|Y7 q.m q.ep)/\ae r (zq b 9)=ac (zs q.dO)) (first|exact H|exact R)
   (first
    |(go_at_call 157;refine(KM _ _ (by rw[<-o.o];grind) T2.U G2.U).mono ?_;rintro e c⟨bw,⟨rfl,v⟩|⟨rfl,v⟩⟩;rotate_left;(exact⟨rfl,Jl (by rw[n.o];exact zoe o.o v.o)<|A2.aA<|zj.Q<|(zt _ _).drew.trans bw⟩);have l:aN (ak i.heap) i c:=(zt _ _).drew.trans bw;have R:=HC c l)
    |(go_at_call 164;refine(Bo _ _<|fU.Q G2 l).mono ?_;rintro e d⟨bi,cf⟩;obtain rfl:c=d:=bi.symm;obtain⟨rfl,O⟩|⟨rfl,O⟩:=cf;rotate_left;(exact⟨rfl,Jl (by rw[n.o];exact zsj o.o<|by rw[C.o];intro hh;have:=O.o;grind)<|A2.aA<|zj.Q l⟩)))
  have Q:aK<|tag=tg:=by have:=O.o;rw[yS,xl,xl]at this;exact this
  have L3:Jh c b q:=xh.Y L2 l;have R3:xh c (ak w.heap) (qC kind ep cnt a body tag) 305:=R2.Y l;have G3:fU tv c:=fU.Q G2 l;have A3:zj (λx=>x=b\/x=k.mp) w c:=A2.aA<|zj.Q l;have M3:Je c k.mp L:=M2.y (S:=λ_=>False) (zj.Q l) id;have cw:1<ak c.heap:=zm b3 A3.J;clear H HC KM d3 O l L2 R2 G2 A2 M2 T2;try clear R
  try clear hHeld
  have d0:ae c (zq (ak w.heap) 0)=ac (zs kind):=R3.i 0 rfl;go_wp2
 rotate_left;focus
  have h8:(8:Int)<=(aa a:Int):=À
  have e8:aa (a.take 8)=8:=Æ
  have bb:∀d,aN (ak c.heap) c d->ae d (zq (ak w.heap) 3)=ac (zs a)/\ae d (zq (ak w.heap) 4)=ac (zs body)/\ae d (zq b 6)=ac (zs<|Ji q.m q.ep)/\ae d (zq b 7)=ac (zs<|Y7 q.m q.ep):=λd h=>by have r3:=R3.Y h;have l3:=xh.Y L3 h;exact⟨r3.i 3 rfl,r3.i 4 rfl,l3.i 6 rfl,l3.i 7 rfl⟩
  have H:=bb c<|zt _ _;have KS:∀d s,s=st (a.take 8)->fU tv d->aG prog 156 #[bM #[zs<|Ji q.m q.ep,zs<|Y7 q.m q.ep],aj s,zs body] d λe r=>aN (ak d.heap) d r/\((e=ah (zs<|me (Ji q.m q.ep) (a.take 8) body)/\aK (aa body<=4096))\/(e=jM tv/\aK (4096<aa body))):=λd s hs h=>hs▸xoe _ _ _ _ bu e8 d h;go_region_held2 (λr=>ae r (zq (ak w.heap) 3)=ac (zs a)/\ae r (zq (ak w.heap) 4)=ac (zs body)/\ae r (zq b 6)=ac (zs<|Ji q.m q.ep)/\ae r (zq b 7)=ac (zs<|Y7 q.m q.ep)) (first|exact H|exact R)
   ((go_at_call 156;refine(KS _ _ (te a 8) G3.U).mono ?_;rintro e d⟨bx,⟨rfl,bm⟩|⟨rfl,bm⟩⟩;rotate_left;(exfalso;have:=bm.o;have:=v.o;have:=congrArg aa o.o;simp at this;omega);have t:aN (ak c.heap) c d:=(zt _ _).drew.trans bx;have R:=bb d t))
  have L4:Jh d b q:=xh.Y L3 t;have R4:xh d (ak w.heap) (qC kind ep cnt a body tag) 305:=R3.Y t;have G4:fU tv d:=fU.Q G3 t;have A4:zj (λx=>x=b\/x=k.mp) w d:=A3.aA<|zj.Q t;have M4:Je d k.mp L:=M3.y (S:=λ_=>False) (zj.Q t) id;have bi:1<ak d.heap:=zm b3 A4.J;clear bb KS d0 t L3 R3 G3 A3 M3 H;try clear R
  try clear hHeld
  obtain⟨pl,U⟩:∃pl,me (Ji q.m q.ep) (a.take 8) body=pl:=⟨_,rfl⟩;have bq:aK<|me (Ji q.m q.ep) (a.take 8) body=pl:=U;have b1:aa pl<=100000:=by rw[<-U,ye];omega
  rw[U];clear U;have bc:∀F,Nw d F->ae F (zq b 4)=ac (eK<|some k.mp):=λF h=>by have l5:Jh F b q:=xh.y L4 h id;rw[bp.o];exact xh.i l5 4 rfl
  have H:=bc d<|zj.refl _ _;go_wp2;go_region_held2 (λr=>ae r (zq b 4)=ac (eK<|some k.mp)) (first|exact H|exact R|exact S2)
   (first
    |(go_at_call 261;refine(jeu pl b1 d.drew bi G4.U).mono ?_;rintro e F⟨p,⟨D,g,b8,rfl,b0,br,cq,M⟩|⟨rfl,M⟩⟩;rotate_left;(exact⟨rfl,Jl (by rw[n.o];exact zsi<|by rw[bq.o];exact M.o)<|A4.aA<|zj.W (⟨p.os,p.cM,p.J,p.dB⟩:Nw d F) λ_ h=>h.elim⟩);have z:Nw d F:=⟨p.os,p.cM,p.J,p.dB⟩;have R:=bc F z;have bl:ak d.heap<=g:=b0;have Y:vj F g D:=br;clear b0 br)
    |(go_at_call 44;refine(GM k.mp g b8 L D À F (M4.y z id) Y<|by have:=bl;have:=A4.J;omega).mono ?_;rintro e j⟨rfl,bz,bo⟩;have B:aK (zj (·=k.mp) F j):=bz;have W:Je j k.mp<|fE L D:=bo;have S2:ae j (zq b 4)=ac (eK<|some k.mp):=B.o.i T R;clear bz bo))
  have Z:Jh j b q:=xh.y (xh.y L4 z id) B.o T;have R5:xh j (ak w.heap) (qC kind ep cnt a body tag) 305:=xh.y (R4.y z id) B.o À;have A5:zj (λx=>x=b\/x=k.mp) w j:=(A4.aA<|zj.W z λ_ h=>h.elim).aA<|B.o.W λ_ h=>aE h;have bn:aK<|rZ k L kind ep cnt a body tag=ac ({q with bA:=cnt,eS:=q.dO,dO:=tag},fE L D):=by show _=_;rw[n.o];exact xec o.o v.o (by rw[C.o];exact Q.o)<|by rw[bq.o];exact M.o
  clear bc z B L4 R4 G4 A4 M4 H bl Y M;try clear R
  try clear S2
  try clear hHeld
  generalize fE L D=L6 at*;clear n o C Q v
 rotate_left;focus
  have bn:aK<|rZ k L kind ep cnt a body tag=ac ({q with bA:=cnt,eS:=q.dO,dO:=tag},L):=by show _=_;rw[n.o];exact xeb o.o v.o<|by rw[C.o];exact Q.o
  have Z:Jh c b q:=L3;have R5:xh c (ak w.heap) (qC kind ep cnt a body tag) 305:=R3;have A5:zj (λx=>x=b\/x=k.mp) w c:=A3;have W:Je c k.mp L:=M3;clear L3 R3 G3 A3 M3 d0;clear n o C Q v;obtain⟨j,ch⟩:∃j,j=c:=⟨_,rfl⟩;obtain⟨L6,cb⟩:∃L6,L6=L:=⟨_,rfl⟩;subst ch cb
 all_goals
  have i2:ae j (zq (ak w.heap) 2)=ac (zi cnt):=R5.i 2 rfl;have i5:ae j (zq (ak w.heap) 5)=ac (zs tag):=R5.i 5 rfl;have j8:ae j (zq b 8)=ac (zi q.bA):=xh.i Z 8 rfl;have j9:ae j (zq b 9)=ac (zs q.dO):=xh.i Z 9 rfl;have j10:ae j (zq b 10)=ac (zs q.eS):=xh.i Z 10 rfl;have g8:=xh.dG Z 8;have g9:=xh.dG Z 9;have cn:=xh.dG Z 10;go_wp2;have LE:Jh (ai (ai (ai j (zq b 8)<|zi cnt) (zq b 10)<|zs q.dO) (zq b 9)<|zs tag).drew b {q with bA:=cnt,eS:=q.dO,dO:=tag}:=(((xh.H Z 8<|zi cnt).H 10<|zs q.dO).H 9<|zs tag).U;have BS:zj (λx=>x=b) j (ai (ai (ai j (zq b 8)<|zi cnt) (zq b 10)<|zs q.dO) (zq b 9)<|zs tag).drew:=(((zj.H j (zq b 8)<|zi cnt).aA<|zj.H _ (zq b 10)<|zs q.dO).aA<|zj.H _ (zq b 9)<|zs tag).U;have AE:zj (λx=>x=b\/x=k.mp) w (ai (ai (ai j (zq b 8)<|zi cnt) (zq b 10)<|zs q.dO) (zq b 9)<|zs tag).drew:=A5.aA<|BS.W λ_ h=>aF h;have ME:Je (ai (ai (ai j (zq b 8)<|zi cnt) (zq b 10)<|zs q.dO) (zq b 9)<|zs tag).drew k.mp L6:=W.y BS<|Ne.symm T;have b5:Jh _ b _:=LE;have b4:zj _ w _:=AE;have b6:Je _ k.mp _:=ME;clear LE BS AE ME;have cx:¬ak w.heap=b:=À
  have cy:¬b=ak w.heap:=À
  go_region_with (fail);all_goals (go_end0;exact De bn.o b4 b5 b6)
def vm:prog.underlying 130=ac (.map 3 138):=Ä
def ER(w):(zeroValue 138).run prog w=cT (lN ([],0)) w:=Á
def My(s k w):(Instr.field 138 (bM #[aj s,zi k]) 0).run prog w=cT (aj s) w:=Á
def Mz(s k w):(Instr.field 138 (bM #[aj s,zi k]) 1).run prog w=cT (zi k) w:=Á
attribute [local go_sem] My Mz
structure Dk where
 bS:Int
 M:Nat
 L:Xv
 nx:Option<|Nat×Int×Int
def Dk.nxV(d:Dk):Zv:=aR (d.nx.map λc=>⟨c.1,0,ar⟩)
structure Jt(w:Zy)(D:Nat)(d:Dk):Prop where
 bO:xh w D #[zi d.bS,eK<|some d.M,d.nxV] 132
 iQ:qB w d.M d.L
 iU:∀c,d.nx=ac c->xh w c.1 #[zi c.2.1,zi c.2.2] 129
def Dk.cO(D:Nat)(d:Dk)(x:Nat):Prop:=x=D\/x=d.M\/∃c,d.nx=ac c/\x=c.1
def Jt.y{S w w' D d}(h:Jt w D d)(a:zj S w w')(b:∀x,d.cO D x->¬S x):Jt w' D d:=
 ⟨h.bO.y a<|b _<|aF rfl,h.iQ.y a<|b _<|aE<|aF rfl,λc e=>(h.iU c e).y a<|b _<|aE<|aE ⟨c,e,rfl⟩⟩
def Jt.yf{w D d}(h:Jt w D d):d.M≠D:=by intro b;obtain⟨e,c,a,_⟩:=h.iQ;rw[b]at a;have f:=h.bO;grind [xh]
def jp(L:Xv)(n:Int):Zl:=((Xm L n).getD ([],0)).1
def Dg(D d n w)(h:Jt w D d):aG prog 76 #[zo D,zi n] w λe w'=>e=ah (zs<|jp d.L n)/\w'=w:=by have b:ae w (zq D 1)=ac (eK<|some d.M):=h.bO.i 1 rfl;have a:=EO vm fd ER h.iQ n;unfold lN at a;go_enter func76.1,Tryz.ntmps76;go_wp2;go_ret;exact⟨rfl,rfl⟩
def Ij(x w):aG prog 78 #[zs x] w λe w'=>e=ah (lN (x,aa x))/\aN (ak w.heap) w w':=by go_enter func78.1,Tryz.ntmps78;go_wp2;refine ji (by simp[dX,Tryz.results78,go_sem,lN]) rfl ⟨rfl,(zt _ _).alloc (zd _) _⟩
def Vm(L:Xv)(n:Int)(f:Zl×Int):Xv:=if f.1=[]then mH L n else lO L n f
def Jt.o9{S:ZP}{w w':Zy}{D:Nat}{d:Dk}{L':Xv}(h:Jt w D d)(a:zj (·=d.M) w w')(e:qB w' d.M L'):Jt w' D {d with L:=L'}:=by refine⟨h.bO.y a<|Ne.symm h.yf,e,λc b=>(h.iU c b).y a ?_⟩;intro j;have g:=h.iU c b;obtain⟨f,k,i,_⟩:=h.iQ;grind [xh]
def Im(D d n f w)(h:Jt w D d):aG prog 159 #[zo D,zi n,lN f] w λe w'=>e=ah (bU #[])/\zj (·=d.M) w w'/\Jt w' D {d with L:=Vm d.L n f}:=by
 obtain⟨x,b⟩:=f;have p:ae w (zq D 1)=ac (eK<|some d.M):=h.bO.i 1 rfl;have q:=h.bO.lt;have i:=h.y (zj.E<|aq #[zs x,zi b] 138) λ_ _=>id;unfold lN;cases x with
 |nil=>
  have r:=xl [];obtain⟨o,g,c,j⟩:=SX vm fd i.iQ 0 3 n;have k:=(zj.E _).aA c;have l:=i.o9 (S:=λ_=>False) c j;go_enter func159.1,Tryz.ntmps159;go_wp2;(refine ji (v:=bU #[]) (by simp[dX,Tryz.results159,go_sem]) rfl ?_);exact⟨rfl,k,l⟩
 |cons a x=>
  have m:(st (a::x)).toList.isEmpty=ao:=by rw[xl];rfl
  obtain⟨o,g,c,j⟩:=SY vm fd (w:=(aB w<|aq #[zs (a::x),zi b] 138).drew) i.iQ n (a::x,b);unfold lN at g;have k:=((zj.E _).U).aA c;have l:=Jt.o9 (S:=λ_=>False) (w:=(aB w<|aq #[zs (a::x),zi b] 138).drew) ⟨i.bO,i.iQ,i.iU⟩ c j;go_enter func159.1,Tryz.ntmps159;go_wp2;have s:ae (aB w<|aq #[zs (a::x),zi b] 138) (zq D 1)=ac (eK<|some d.M):=i.bO.i 1 rfl;have t:ae (aB w<|aq #[zs (a::x),zi b] 138) (zq (ak w.heap) 0)=ac (zs (a::x)):=(xh.dT w #[zs (a::x),zi b] 138).i 0 rfl;have y:ae (aB w<|aq #[zs (a::x),zi b] 138) (zq (ak w.heap) 1)=ac (zi b):=(xh.dT w #[zs (a::x),zi b] 138).i 1 rfl;generalize aB w (aq #[zs (a::x),zi b] 138)=wq at*;go_still_tail 6,Á;go_wp2;go_end0;exact⟨rfl,k,l⟩
end
end P
namespace A
open Tryq Go Go.RowKit Go.Maps Go.Sort Go.Shelf
def fq{P:Zp}{i:Nat}{f g}(h:P.funcs[i]?=ac f)(e:f=g):P.funcs[i]?=ac g:=e▸h
def Tryq.nP:Ren:={f:=λx=>match x with|7=>125|10=>191|n=>n,t:=λx=>match x with|23=>130|26=>3|3=>138|28=>203|0=>0|27=>202|33=>188|4=>4|n=>n,g:=λx=>x}
def Tryq.pN:SlLaysZI.n7 prog nP:=by
 constructor
 case mixed=>kernel_rfl
 case f7=>exact⟨Tryz.f125.name,Á,fq func125.1 Á⟩
 case f10=>exact⟨Tryz.f191.name,Á,fq func191.1 Á⟩
 all_goals (intros;simp[nP])
def Tryq.lF:Ren:={f:=λx=>match x with|6=>124|8=>189|9=>190|11=>242|13=>123|12=>243|23=>187|24=>188|14=>267|15=>268|16=>269|17=>270|18=>271|19=>272|20=>273|21=>274|22=>275|25=>289|26=>237|27=>238|28=>290|29=>291|30=>292|31=>304|n=>n,t:=λx=>match x with|26=>3|28=>203|24=>63|0=>0|3=>3|37=>162|48=>243|50=>240|4=>4|40=>252|39=>251|45=>256|5=>5|9=>9|51=>308|55=>311|57=>339|58=>340|33=>188|n=>n,g:=λx=>x}
def Tryq.rE:SlLaysZI.n6 prog lF:=by
 constructor
 case mixed=>kernel_rfl
 case f6=>exact⟨Tryz.f124.name,Á,fq func124.1 Á⟩
 case f8=>exact⟨Tryz.f189.name,Á,fq func189.1 Á⟩
 case f11=>exact⟨Tryz.f242.name,Á,fq func242.1 Á⟩
 case i26=>kernel_rfl
 all_goals (intros;simp[lF])
def Tryq.pR:Ren:={f:=λx=>match x with|5=>190|8=>123|7=>243|19=>187|20=>188|10=>267|11=>268|12=>269|13=>270|14=>271|15=>272|16=>273|17=>274|18=>275|30=>289|31=>237|32=>238|33=>290|34=>291|35=>292|40=>304|n=>n,t:=λx=>match x with|23=>63|25=>3|3=>3|32=>162|22=>63|0=>0|44=>243|46=>240|4=>4|36=>252|35=>251|41=>256|5=>5|9=>9|53=>308|57=>311|63=>339|64=>340|n=>n,g:=λx=>x}
def Tryq.pQ:SlLaysM.n5 prog pR:=by
 constructor
 case mixed=>kernel_rfl
 case f5=>exact⟨Tryz.f190.name,Á,fq func190.1 Á⟩
 case f7=>exact⟨Tryz.f243.name,Á,fq func243.1 Á⟩
 case f8=>exact fq func123.1 Á
 case f10=>exact⟨Tryz.f267.name,Á,fq func267.1 Á⟩
 case f11=>exact⟨Tryz.f268.name,Á,fq func268.1 Á⟩
 case f12=>exact⟨Tryz.f269.name,Á,fq func269.1 Á⟩
 case f13=>exact⟨Tryz.f270.name,Á,fq func270.1 Á⟩
 case f14=>exact⟨Tryz.f271.name,Á,fq func271.1 Á⟩
 case f15=>exact⟨Tryz.f272.name,Á,fq func272.1 Á⟩
 case f16=>exact⟨Tryz.f273.name,Á,fq func273.1 Á⟩
 case f17=>exact⟨Tryz.f274.name,Á,fq func274.1 Á⟩
 case f18=>exact⟨Tryz.f275.name,Á,fq func275.1 Á⟩
 case f19=>exact fq func187.1 Á
 case f20=>exact fq func188.1 Á
 case f30=>exact⟨Tryz.f289.name,Á,fq func289.1 Á⟩
 case f31=>exact fq func237.1 Á
 case f32=>exact fq func238.1 Á
 case f33=>exact⟨Tryz.f290.name,Á,fq func290.1 Á⟩
 case f34=>exact⟨Tryz.f291.name,Á,fq func291.1 Á⟩
 case f35=>exact⟨Tryz.f292.name,Á,fq func292.1 Á⟩
 case f40=>exact⟨Tryz.f304.name,Á,fq func304.1 Á⟩
 all_goals (intros;simp[pR])
def Tryq.pP:Ren:={f:=λx=>match x with|7=>46|10=>74|n=>n,t:=λx=>match x with|23=>91|26=>9|3=>94|28=>101|0=>0|27=>100|33=>83|4=>4|n=>n,g:=λx=>x}
def Tryq.pO:SlLaysZ.n7 prog pP:=by
 constructor
 case mixed=>kernel_rfl
 case f7=>exact⟨Tryz.f46.name,Á,fq func46.1 Á⟩
 case f10=>exact⟨Tryz.f74.name,Á,fq func74.1 Á⟩
 all_goals (intros;simp[pP])
def Tryq.lG:Ren:={f:=λx=>match x with|6=>45|8=>72|9=>73|11=>121|13=>123|12=>122|23=>187|24=>188|14=>178|15=>179|16=>180|17=>181|18=>182|19=>183|20=>184|21=>185|22=>186|25=>236|26=>237|27=>238|28=>239|29=>240|30=>241|31=>266|n=>n,t:=λx=>match x with|26=>9|28=>101|24=>49|0=>0|3=>3|37=>162|48=>243|50=>240|4=>4|40=>252|39=>251|45=>256|5=>5|9=>9|51=>308|55=>311|57=>339|58=>340|33=>83|n=>n,g:=λx=>x}
def Tryq.rF:SlLaysZ.n6 prog lG:=by
 constructor
 case mixed=>kernel_rfl
 case f6=>exact⟨Tryz.f45.name,Á,fq func45.1 Á⟩
 case f8=>exact⟨Tryz.f72.name,Á,fq func72.1 Á⟩
 case f11=>exact⟨Tryz.f121.name,Á,fq func121.1 Á⟩
 case i26=>kernel_rfl
 all_goals (intros;simp[lG])
def Tryq.pT:Ren:={f:=λx=>match x with|6=>73|8=>123|9=>122|19=>187|20=>188|21=>178|22=>179|23=>180|24=>181|25=>182|26=>183|27=>184|28=>185|29=>186|36=>236|31=>237|32=>238|37=>239|38=>240|39=>241|41=>266|n=>n,t:=λx=>match x with|27=>49|29=>9|3=>3|32=>162|26=>49|0=>0|44=>243|46=>240|4=>4|36=>252|35=>251|41=>256|5=>5|9=>9|53=>308|57=>311|63=>339|64=>340|n=>n,g:=λx=>x}
def Tryq.pS:SlLaysM.n6 prog pT:=by
 constructor
 case mixed=>kernel_rfl
 case f6=>exact⟨Tryz.f73.name,Á,fq func73.1 Á⟩
 case f8=>exact fq func123.1 Á
 case f9=>exact⟨Tryz.f122.name,Á,fq func122.1 Á⟩
 case f19=>exact fq func187.1 Á
 case f20=>exact fq func188.1 Á
 case f21=>exact⟨Tryz.f178.name,Á,fq func178.1 Á⟩
 case f22=>exact⟨Tryz.f179.name,Á,fq func179.1 Á⟩
 case f23=>exact⟨Tryz.f180.name,Á,fq func180.1 Á⟩
 case f24=>exact⟨Tryz.f181.name,Á,fq func181.1 Á⟩
 case f25=>exact⟨Tryz.f182.name,Á,fq func182.1 Á⟩
 case f26=>exact⟨Tryz.f183.name,Á,fq func183.1 Á⟩
 case f27=>exact⟨Tryz.f184.name,Á,fq func184.1 Á⟩
 case f28=>exact⟨Tryz.f185.name,Á,fq func185.1 Á⟩
 case f29=>exact⟨Tryz.f186.name,Á,fq func186.1 Á⟩
 case f31=>exact fq func237.1 Á
 case f32=>exact fq func238.1 Á
 case f36=>exact⟨Tryz.f236.name,Á,fq func236.1 Á⟩
 case f37=>exact⟨Tryz.f239.name,Á,fq func239.1 Á⟩
 case f38=>exact⟨Tryz.f240.name,Á,fq func240.1 Á⟩
 case f39=>exact⟨Tryz.f241.name,Á,fq func241.1 Á⟩
 case f41=>exact⟨Tryz.f266.name,Á,fq func266.1 Á⟩
 all_goals (intros;simp[pT])
end A
namespace P
open A.Tryq Go.RowKit
section
open Go.Maps Go.Sort Go.Shelf Go.MapKept
def zR(_:Zv):Option<|DataW Nat×List MemPlace:=ac (.nil,[])
def TJ{H:Type}(p):∀es:List<|Lit×DataW H,(DataW.insert p es).Perm (p::es)
 |[]=>by simp[DataW.insert]|q::es=>by unfold DataW.insert;split;simp;exact((TJ p es).cons q).trans<|.swap ..
def EQ{H:Type}:∀es:List<|Lit×DataW H,(es.foldr DataW.insert []).Perm es
 |[]=> .refl _|p::es=>(TJ p _).trans<|(EQ es).cons p
abbrev Ig:Int->Int->Bool:=λx y=>bI (x<=y)
def TV{l l':List Int}(h:l.Perm l'):l.mergeSort Ig=l'.mergeSort Ig:=mergeSort_of_perm_i h
def jS(x:Int):Prop:=-9223372036854775808<=x/\x<=9223372036854775807
def qB.sE{w m L}(h:qB w m L)(hk:∀p∈L,jS p.1)(F:aa L<=nT):
  ∃D:DataW Nat,w.ownsMap prog 3 zR m (aa L) D/\kS D=aa L/\(intKeys D).Perm (L.map (·.1)):=by
 obtain⟨d,a,v,j,y⟩:=h;have n:ak d=aa L:=by have:=congrArg aa j;simpa using this
 have g:∀x∈ej d,∃p∈L,x.key=aH aU p.1/\nU prog 3 zR x=ac (.int aU p.1,.nil):=λx r=>by
  obtain⟨p,o,b,_⟩:=EN j x r;refine⟨p,o,b, ?_⟩;have z:=hk p o;have B:(Lit.int aU p.1).wf=aw:=by obtain⟨e,f⟩:=z;simp[Lit.wf];exact⟨e,f⟩
  simp[nU,b,keyOf,mapKey,fd,B,zR]
 refine⟨_,⟨d,a,v,⟨À,y,λx r=>Â⟩,À,rfl⟩, ?_, ?_⟩;simp only[Maps.size_eq];rw[(EQ _).length_eq];grind;simp only[intKeys];refine((EQ _).map _).trans ?_;rw[Wj];have:∀(l:List dP) (L:Xv),oG l L->(∀x∈l,∃p∈L,x.key=aH aU p.1)->(∀x∈l,x∈ej d)->l.map ((λp=>Go.intOf p.1)∘WideElems.rg prog 3 zR)=L.map (·.1):=by
  intro l;induction l with
  |nil=>intro L k _ _;cases L with|nil=>rfl|cons p L=>grind [H8]
  |cons x l ih=>
   intro L k _ c;cases L with
   |nil=>grind [oG]
   |cons p L=>
    obtain⟨s,C,E⟩:=C' k;obtain⟨q,_,i,t⟩:=g x (c x Ä);have:p.1=q.1:=by rw[s]at i;injection i
    rw[Js,Js];refine congr (congrArg List.cons ?_) ?_;rw[Function.comp_apply,WideElems.rg_of t,this];rfl;grind [EN]
 grind
def xu9(m):AnyZI.SortsIn prog lF fD m:=
 ⟨λblk d a f W e b c=>callsIn_wide.2<|AnyM.slices_Sort_int pQ blk d a f W e b c,
 λp a W=>callsIn_wide.2<|AnyM.slices_Sort_int_none pQ p a W⟩
def Zk(L:Xv):List Int:=(L.map (·.1)).mergeSort Ig
def xb1(D d w)(h:Jt w D d)(hk:∀p∈d.L,jS p.1)(B:aa d.L<=1000000):
  aG prog 75 #[zo D] w λe w'=>∃v,e=ah v/\w'.ownsRow (ak w.heap) 3 1 v (aa (Zk d.L)) ((Zk d.L).map encZ)/\aN (ak w.heap) w w':=by
 refine(callsIn_wide (n:=6)).1 ?_;obtain⟨k,b,j,i⟩:=h.iQ.sE hk (by grind [nT]);have f:kS k<=nT:=by rw[j];simp only[nT];omega
 have a:kS k*8<=140737488355328:=by rw[j];omega
 have s:=b.lt;have l:SeqGives fD 2 prog 191 #[zo (ak w.heap)] encZ (λo=>o.Perm<|intKeys k) (kS k)<|aB w<|aq #[eK<|some d.M] 130:=
  AnyZI.keys_gives (ρ:=nP) {pN with} fD _ trivial rfl À (ak w.heap) d.M _ k _ Ä Ä (by obtain⟨E,g,r,C,B,F⟩:=b;exact⟨E,g,(Xj _ _ d.M s).trans r,C,B,F⟩)
 have cK:∀q W,CallsIn fD 5 prog 125 #[eK q] W λe w'=>e=ah (nV (.func 191) #[] #[zo (ak W.heap)])/\w'=aB W (aq #[eK q] 130):=λq W=>AnyZI.keys_in pN fD 5 trivial rfl q W;have t:=AnyZI.sorted_in rE fD 5 trivial trivial trivial trivial rfl À (xu9 _) (enters_of func190.1 Á rfl) 191 #[zo (ak w.heap)] trivial (enters_of func191.1 Á rfl) _ _ f a _ l;change CallsIn _ _ prog 124 _ _ _ at t;have H:Fence.wide.fn 125:=trivial;have I:Fence.wide.fn 124:=trivial;have K:ae w (zq D 1)=ac (eK<|some d.M):=h.bO.i 1 rfl;clear h b j f a;refine callsIn_of_wp func75.1 rfl trivial ?_ rfl;simp only[Tryz.ntmps75,jd,xg,qy,iJ,jV,qu,qw,Xa,Zh,qj,qg]
 gi_wp2_with (first
  |(gi_at_call 125;refine(cK _ _).mono ?_;rintro e w'⟨rfl,rfl⟩)
  |(gi_at_call 124;refine t.mono ?_;rintro e w'⟨v,o,rfl,G,c,z,r⟩))
 go_ret;have m:o.mergeSort (λx y=>bI (x<=y))=Zk d.L:=TV<|G.trans i;rw[m]at c;have J:aa o=aa (Zk d.L):=by rw[<-m];exact(Xo o _).length_eq.symm
 rw[J]at c;exact⟨v,rfl,ownsRow_base_a c Ä,((zt _ w).alloc (zd _) _).trans<|r.mono Ä⟩
end
section
attribute [local go_sem] zn zg
attribute [local go_sem] My Mz
def Ii(w:Zy)(g:Nat)(xs:List Int):Prop:=∀i (h:i<aa xs),ae w (zq g i)=ac (zi xs[i])
def Ii.y{S w w' g xs}(h:Ii w g xs)(a:zj S w w')(c:¬S g):Ii w' g xs:=λi b=>a.i c<|h i b
def pB(L:Xv):Prop:=∀p∈L,jS p.1/\0<=p.2.2/\p.2.2<=(aa p.2.1:Nat)/\aa p.2.1<=1000000
structure rY(L:Xv):Prop where
 fV:pB L
 bA:aa L<=1000000
def Ve{L k v}:Xm L k=ac v->(k,v)∈L:=by
 induction L with
 |nil=>intro h;cases h
 |cons p L ih=>grind [Xm]
def TB{L k v p}:p∈lO L k v->p=(k,v)\/p∈L:=by induction L with|nil=>grind [lO]|cons q L ih=>grind [lO]
theorem Ik{L k p}:p∈mH L k->p∈L:=by induction L with|nil=>exact id|cons q L ih=>grind [mH]
theorem xnw(L k v):aa (lO L k v)<=aa L+1/\((Xm L k).isSome->aa (lO L k v)=aa L):=by induction L with|nil=>simp[lO,Xm]|cons q L ih=>grind [lO,Xm]
theorem TZ(L k):aa (mH L k)<=aa L:=by induction L with|nil=>simp[mH]|cons q L ih=>grind [mH]
def Zm(L:Xv)(n:Int):Zl×Int:=(Xm L n).getD ([],0)
def pB.nA{L}(h:pB L)(n):0<=(Zm L n).2/\(Zm L n).2<=(aa (Zm L n).1:Nat)/\aa (Zm L n).1<=1000000:=by unfold Zm;cases hg:Xm L n with|none=>simp|some v=>exact(h _<|Ve hg).2
def pB.pV{L}(h:pB L){n}{f:Zl×Int}(c:jS n)(b:0<=f.2/\f.2<=(aa f.1:Nat)/\aa f.1<=1000000):pB<|Vm L n f:=by unfold Vm;split;exact λp a=>h p<|Ik a;intro p a;obtain rfl|a:=TB a;grind;exact h p a
def Wx(t:Int)(f:Zl×Int):Int:=f.2+min t ((aa f.1:Nat)-f.2)
def fJ(t:Int)(L:Xv)(n:Int):Xv:=Vm L n ((Zm L n).1.take (bB (Wx t<|Zm L n)),aa ((Zm L n).1.take (bB (Wx t<|Zm L n))))
def sG(t:Int)(L:Xv):Xv:=(Zk L).foldl (fJ t) L
def TX{t}{f:Zl×Int}(a:0<=t)(h:0<=f.2/\f.2<=(aa f.1:Nat)):0<=Wx t f/\Wx t f<=(aa f.1:Nat):=by unfold Wx;omega
theorem zhh{L k n}(h:k≠n):Xm (mH L n) k=Xm L k:=by induction L with|nil=>rfl|cons q L ih=>grind [mH,Xm]
theorem zwg{L k n v}(h:k≠n):Xm (lO L n v) k=Xm L k:=by induction L with|nil=>simp[lO,Xm,h]|cons q L ih=>grind [lO,Xm]
theorem zmr{L k n f}(h:k≠n):Xm (Vm L n f) k=Xm L k:=by grind [Vm,zhh,zwg]
def pB.fJ{L:Xv}{t n:Int}(h:pB L)(b:0<=t)(a:jS n):pB<|fJ t L n:=by have hd:=h.nA n;have c:=TX (f:=Zm L n) b ⟨hd.1,hd.2.1⟩;refine h.pV a ⟨Ä,Ä, ?_⟩;grind
def zn0{L k}(h:k∈L.map (·.1)):(Xm L k).isSome:=by
 induction L with
 |nil=>cases h
 |cons q L ih=>grind [Xm]
theorem MF{L k}:k∈Zk L↔k∈L.map (·.1):=(Xo _ _).mem_iff
def MD(L):aa (Zk L)=aa L:=by grind [Zk,List.length_mergeSort]
def Mv(D d w)(h:Jt w D d)(hk:rY d.L):
  aG prog 75 #[zo D] w λe w'=>∃p g cap,e=ah (az p (aa (Zk d.L)) cap)/\(Zk d.L≠[]->p=ac ⟨g,0,ar⟩)/\ak w.heap<=g/\Ii w' g (Zk d.L)/\aN (ak w.heap) w w':=by
 refine(xb1 D d w h (λp n=>(hk.fV p n).1) hk.bA).mono ?_;rintro e w'⟨v,rfl,⟨s,m⟩,j⟩;obtain⟨rfl,k⟩|⟨g,cap,a,rfl,l,r,t,q,y,o⟩:=m;have c:=jv k;rw[c];exact⟨ar,ak w.heap,0,rfl,λx=>absurd rfl x,zd _,λi b=>absurd b Ä,j⟩;refine⟨_,g,cap,rfl,λ_=>rfl,l,λi b=>?_,j⟩;have:a.toList[i]?=ac (zi (Zk d.L)[i]):=by
  have f:(a.toList.take<|aa (Zk d.L)*1)[i]?=ac (zi (Zk d.L)[i]):=by rw[o];simp[b,encZ]
  rw[Gz]at f;simpa[b]using f
 grind [ae]
def xtp(D d t)(ht:0<=t)(U:jS t)(w)(h:Jt w D d)(hk:rY d.L):
  aG prog 208 #[zo D,zi t] w λe w'=>e=ah (bU #[])/\zj (·=d.M) w w'/\Jt w' D {d with L:=sG t d.L}:=by
 have Y:=h;have v:=hk;have HN:=U;have bc:=h.iQ.lt;go_enter func208.1,Tryz.ntmps208;go_wp2;refine(Mv D d w Y v).mono ?_;rintro e w1⟨p,g,bb,rfl,hp,hg,r,l⟩;have HP:=hp;have HR:=r;have z:=l;have ba:=Y.y (zj.Q l) λ_ _=>id;have S:g≠d.M:=À
 have HL:aa (Zk d.L)<=1000000:=by show _<=_;rw[MD];exact v.bA
 go_wp2;go_loopw [11] (λi wr=>∃k:Nat,k<=aa (Zk d.L)/\i=zi k/\zj (·=d.M) w1 wr/\Jt wr D {d with L:=((Zk d.L).take k).foldl (fJ t) d.L}/\pB (((Zk d.L).take k).foldl (fJ t) d.L)) (λi _=>bB (aa (Zk d.L)-bP i))
 case atStart=>exact⟨0,À,rfl,zj.refl _ _,Ë,by simpa using v.fV⟩
 case round=>
  obtain⟨k,hk,rfl,K,s,hf⟩:=hrel;by_cases o:k<aa (Zk d.L)
  ·have i1:(k:Int)<(aa (Zk d.L):Nat):=by omega
   have T:=HP (λe=>Â);subst T;have hc:=(HR.y K S) k o;have Z:aK<|((Zk d.L).take<|k+1).foldl (fJ t) d.L=fJ t (((Zk d.L).take k).foldl (fJ t) d.L) (Zk d.L)[k]:=by show _=_;rw[zp o,Gy];rfl
   have HI:jS (Zk d.L)[k]:=by have hm:(Zk d.L)[k]∈Zk d.L:=Xk _;rw[MF]at hm;obtain⟨q,hq,e⟩:=Xe.1 hm;show jS _;rw[<-e];exact(v.fV q hq).1
   have X:=K;have HF:=hf;have HS:=s;generalize((Zk d.L).take k).foldl (fJ t) d.L=L1 at*;generalize(Zk d.L)[k]=n at*;have a:=EO vm fd ER s.iQ n;have H:aK<|fJ t L1 n=Vm L1 n ((Zm L1 n).1.take (bB (Wx t<|Zm L1 n)),aa ((Zm L1 n).1.take (bB (Wx t<|Zm L1 n)))):=rfl;have hd:=hf.nA n;obtain⟨b,c⟩:=TX ht ⟨hd.1,hd.2.1⟩;change(fB 130 (eK<|some d.M) (zi n) ao).run prog wr=cT (lN<|Zm L1 n) wr at a;revert c b hd H a;generalize Zm L1 n=f;obtain⟨x,j⟩:=f;intro H hd b c a;unfold lN at a;simp only[Wx]at b c;simp only at hd;have c1:ae wr (zq D 1)=ac (eK<|some d.M):=s.bO.i 1 rfl;have V:=HN;unfold jS at V;go_wp2;rw[te];have I:∀y,x.take (bB (j+min t (aa x-j)))=y->fJ t L1 n=Vm L1 n (y,aa y):=λy W=>by rw[H.o,<-W];rfl
   generalize W:x.take (bB (j+min t (aa x-j)))=y;have J:=I y W;have HA:=HS.y (zj.E<|aq #[zs x,zi j] 138) λ_ _=>id;have E:=X.aA<|zj.E<|aq #[zs x,zi j] 138;refine(Ij y _).mono ?_;rintro e w2⟨rfl,m⟩;have F:=HA.y (zj.Q m) λ_ _=>id;have B:=E.aA<|zj.Q m;unfold lN;go_wp2;refine(Im D {d with L:=L1} n (y,aa y) _ F).mono ?_;rintro e w3⟨rfl,O,Q⟩;have C:=B.aA O;have G:Jt w3 D {d with L:=fJ t L1 n}:=by show Jt _ _ _;rw[J];exact Q
   go_wp2;go_roundw
   case rel=>exact⟨k+1,À,Å,C,by rw[Z.o];exact G,by rw[Z.o];exact HF.fJ ht HI⟩
   grind [bP]
  have R:k=aa (Zk d.L):=À
  subst R;have HE:Jt wr D {d with L:=sG t d.L}:=by show Jt _ _ _;rw[jz]at s;exact s
  have X:=(zj.Q z).aA K;go_wp2;go_end0;simp_all
end
section
attribute [local go_sem] zn zg
def wE(cv:Zv)(w:Zy):Prop:=∃t x,cv=gB t x/\ae w (zq 0 0)=ac cv
def wE.y{cv S w w'}(h:wE cv w)(b:zj S w w')(a:¬S 0):wE cv w':=Ĕ
structure iR(D:Nat)(d:Dk):Prop where
 gY:rY d.L
 nx:∀c,d.nx=ac c->jS c.2.1/\0<=c.2.2/\jS c.2.2
 sD:¬d.cO D 0
def Dk.dR(d:Dk):Dk:=match d.nx with
 |none=>d|some c=>{d with nx:=ac (c.1,c.2.1-1,c.2.2)}
def Dk.cQ(d:Dk):Bool:=match d.nx with
 |none=>ao|some c=>bI (c.2.1<=0)
def Dk.eN(d:Dk):Dk:=match d.nx with
 |none=>d|some c=>{d with nx:=ar,L:=sG c.2.2 d.L}
def MH(cv:Zv)(D:Nat)(d:Dk)(w:Zy)(e:kU)(w':Zy):Prop:=
 zj (d.cO D) w w'/\((e=ah (bU #[])/\Jt w' D d.dR/\aK (d.cQ=ao))\/(e=jM cv/\Jt w' D d.eN/\aK (d.cQ=aw)))
def Il{cv}(D d w)(h:Jt w D d)(hk:iR D d)(n:wE cv w):aG prog 158 #[zo D] w<|MH cv D d w:=by
 obtain⟨b,M,L,nx⟩:=d;have j:=h.bO.i 2 rfl;cases nx with
 |none=>have q:ae w (zq D 2)=ac (aR ar):=j;have p:MH cv D ⟨b,M,L,ar⟩ w (ah<|bU #[]) w:=⟨zj.refl _ _,aF ⟨rfl,h,rfl⟩⟩;clear h hk n j;go_enter func158.1,Tryz.ntmps158;go_wp2;go_end0;exact p
 |some c=>
  obtain⟨c,a,t⟩:=c;have f:=h.iU _ rfl;have y:c≠D:=by intro E;have r:=h.bO;subst E;unfold xh at r f;rw[r]at f;cases f
  have q:ae w (zq D 2)=ac (zo c):=j;have T:ae w (zq c 0)=ac (zi a):=f.i 0 rfl;have U:ae w (zq c 1)=ac (zi t):=f.i 1 rfl;obtain⟨s,l,B⟩:=hk.nx _ rfl;by_cases F:0<a
  ·have Q:-9223372036854775808<=a/\a<=9223372036854775807:=s;have p:MH cv D ⟨b,M,L,ac (c,a,t)⟩ w (ah<|bU #[])<|ai w (zq c 0)<|zi<|a-1:=by refine⟨(zj.H w (zq c 0) _).W λx m=>aE (aE ⟨_,rfl,m⟩),aF ⟨rfl,⟨?_, ?_, ?_⟩, ?_⟩⟩;exact h.bO.dE (Ne.symm y) _;refine h.iQ.y (zj.H w (zq c 0) _) ?_;intro E;obtain⟨V,k,r,_⟩:=h.iQ;grind [xh];intro K g;cases g;exact f.H 0 _;show Dk.cQ _=ao;simp[Dk.cQ];omega
   have W:=f.dG 0;have R:a-1<=9223372036854775807:=À
   clear h hk n j f s l B Q;go_enter func158.1,Tryz.ntmps158;go_wp2;go_end0;exact p
  have C:=hk;have H:=n;have I:=B;have X:=h.bO.dG 2;have S:aK<|Dk.cQ ⟨b,M,L,ac (c,a,t)⟩=aw:=by show Dk.cQ _=aw;simp[Dk.cQ];omega
  have J:Jt (ai w (zq D 2)<|aR ar) D ⟨b,M,L,ar⟩:=by refine⟨h.bO.H 2 _, ?_,λK g=>by cases g⟩;exact h.iQ.y (zj.H w (zq D 2) _) h.yf
  have G:zj (Dk.cO D ⟨b,M,L,ac (c,a,t)⟩) w<|ai w (zq D 2)<|aR ar:=(zj.H w (zq D 2) _).W λx m=>aF m;clear h hk n j f s B;go_enter func158.1,Tryz.ntmps158;go_wp2;refine(xtp D ⟨b,M,L,ar⟩ t l I _ J C.gY).mono ?_;rintro e Z⟨rfl,v,z⟩;have o:=z;have i:=G.aA<|v.W λx m=>aE (aF m);obtain⟨Y,x,rfl,O⟩:=H.y i C.sD;go_wp2;exact⟨rfl,i,aE ⟨rfl,o,S.o⟩⟩
end
section
attribute [local go_sem] zn zg
attribute [local go_sem] My Mz
def vk(cv:Zv)(D:Nat)(d:Dk)(L':Xv)(w:Zy)(e:kU)(w':Zy):Prop:=
 zj (d.cO D) w w'/\((e=ah (bU #[])/\Jt w' D {d.dR with L:=L'}/\aK (d.cQ=ao))\/(e=jM cv/\Jt w' D d.eN/\aK (d.cQ=aw)))
def Dk.mu(d:Dk):d.dR.L=d.L:=ī
theorem Dk.o8(d:Dk):d.dR.M=d.M:=ī
def Dk.ng(d:Dk)(D x):d.dR.cO D x↔d.cO D x:=by grind [Dk.cO,Dk.dR]
def TQ{cv}(D d n w)(h:Jt w D d)(hk:iR D d)(p:wE cv w):aG prog 109 #[zo D,zi n] w<|vk cv D d (mH d.L n) w:=by
 have k:=h;have m:=hk;have l:=p;go_enter func109.1,Tryz.ntmps109;go_wp2;refine(Il D d w k m l).mono ?_;rintro e w1⟨b,f⟩;obtain⟨rfl,a,g⟩|⟨rfl,a,g⟩:=f;rotate_left;exact⟨rfl,b,aE ⟨rfl,a,g⟩⟩;have r:ae w1 (zq D 1)=ac (eK<|some d.dR.M):=a.bO.i 1 rfl;obtain⟨q,j,c,i⟩:=SX vm fd a.iQ 0 3 n;have o:vk cv D d (mH d.L n) w (ah<|bU #[]) q:=by refine⟨b.aA<|c.W λx s=>aE (aF ğ),aF ⟨rfl, ?_,g⟩⟩;rw[<-Dk.mu];exact a.o9 (S:=λ_=>False) c i
 go_wp2;go_end0;exact o
def xlq{cv}(D d n w)(h:Jt w D d)(hk:iR D d)(v:wE cv w):aG prog 100 #[zo D,zi n] w<|vk cv D d (Vm d.L n (jp d.L n,aa (jp d.L n))) w:=by
 have q:=h;have s:=hk;have r:=v;go_enter func100.1,Tryz.ntmps100;go_wp2;refine(Il D d w q s r).mono ?_;rintro e w1⟨b,o⟩;obtain⟨rfl,a,p⟩|⟨rfl,a,p⟩:=o;rotate_left;exact⟨rfl,b,aE ⟨rfl,a,p⟩⟩;have g:=b;have j:=a;have z:=a.bO.i 1 rfl;have m:=EO vm fd ER a.iQ n;unfold lN at m;rw[Dk.mu]at m;change _=cT (bM #[zs<|jp d.L n,_]) _ at m;go_wp2;refine(Ij (jp d.L n) _).mono ?_;rintro e C⟨rfl,c⟩;have i:=g.aA<|zj.Q c;have k:=j.y (zj.Q c) λ_ _=>id;go_wp2;refine(Im D d.dR n (jp d.L n,aa (jp d.L n)) _ k).mono ?_;rintro e x⟨rfl,l,f⟩;have t:vk cv D d (Vm d.L n (jp d.L n,aa (jp d.L n))) w (ah<|bU #[]) x:=by refine⟨i.aA<|l.W λy B=>aE (aF ğ),aF ⟨rfl, ?_,p⟩⟩;rw[Dk.mu]at f;exact f
 go_wp2;go_end0;exact t
def xhv{cv}(D d n x)(hx:aa x<=1000000)(w)(h:Jt w D d)(hk:iR D d)(F:wE cv w):aG prog 99 #[zo D,zi n,zs x] w<|vk cv D d (Vm d.L n (jp d.L n++x,(Zm d.L n).2)) w:=by
 have s:=h;have B:=hk;have v:=F;have G:=(hk.gY.fV.nA n).2.2;go_enter func99.1,Tryz.ntmps99;go_wp2;refine(Il D d w s B v).mono ?_;rintro e w1⟨b,p⟩;obtain⟨rfl,a,q⟩|⟨rfl,a,q⟩:=p;rotate_left;exact⟨rfl,b,aE ⟨rfl,a,q⟩⟩;have i:=b;have k:=a;have I:ae w1 (zq D 1)=ac (eK<|some d.dR.M):=a.bO.i 1 rfl;have g:=EO vm fd ER a.iQ n;rw[Dk.mu]at g;change _=cT (lN<|Zm d.L n) _ at g;obtain⟨⟨y,l⟩,o⟩:∃f,Zm d.L n=f:=⟨_,rfl⟩;have t:=o;have E:aK<|jp d.L n=y:=by show(Zm d.L n).1=y;rw[o]
 rw[o]at g G;unfold lN at g;go_wp2;have r:=k.y (zj.E<|aq #[zs y,zi l] 138) λ_ _=>id;have j:=i.aA<|zj.E<|aq #[zs y,zi l] 138;refine(Im D d.dR n (y++x,l) _ r).mono ?_;rintro e H⟨rfl,m,c⟩;have C:vk cv D d (Vm d.L n (jp d.L n++x,(Zm d.L n).2)) w (ah<|bU #[]) H:=by refine⟨j.aA<|m.W λz J=>aE (aF ğ),aF ⟨rfl, ?_,q⟩⟩;rw[Dk.mu]at c;rw[E.o,t];exact c
 go_wp2;go_end0;exact C
def xwt{cv}(D d n m w)(h:Jt w D d)(hk:iR D d)(F:wE cv w)(I:m<=aa (jp d.L n)):aG prog 108 #[zo D,zi n,zi m] w<|vk cv D d (Vm d.L n ((jp d.L n).take m,aa ((jp d.L n).take m))) w:=by
 have x:=h;have C:=hk;have B:=F;go_enter func108.1,Tryz.ntmps108;go_wp2;refine(Il D d w x C B).mono ?_;rintro e w1⟨b,s⟩;obtain⟨rfl,a,t⟩|⟨rfl,a,t⟩:=s;rotate_left;exact⟨rfl,b,aE ⟨rfl,a,t⟩⟩;have i:=b;have k:=a;have H:=a.bO.i 1 rfl;have r:=EO vm fd ER a.iQ n;unfold lN at r;rw[Dk.mu]at r;change _=cT (bM #[zs<|jp d.L n,_]) _ at r;have v:∀y,(jp d.L n).take m=y->Vm d.L n ((jp d.L n).take m,aa ((jp d.L n).take m))=Vm d.L n (y,aa y):=λy g=>by rw[g]
 go_wp2;rw[te];generalize g:(jp d.L n).take m=y;have o:=v y g;rw[<-g]at o;have p:=v y g;refine(Ij y _).mono ?_;rintro e K⟨rfl,c⟩;have j:=i.aA<|zj.Q c;have l:=k.y (zj.Q c) λ_ _=>id;unfold lN;go_wp2;refine(Im D d.dR n (y,aa y) _ l).mono ?_;rintro e G⟨rfl,q,f⟩;have E:vk cv D d (Vm d.L n ((jp d.L n).take m,aa ((jp d.L n).take m))) w (ah<|bU #[]) G:=by refine⟨j.aA<|q.W λz J=>aE (aF ğ),aF ⟨rfl, ?_,t⟩⟩;rw[Dk.mu]at f;rw[p];exact f
 go_wp2;go_end0;exact E
end
section
attribute [local go_sem] zn zg
def xsj(r w):aG prog 57 #[zi r] w λe w'=>e=ah (zo<|ak w.heap+1)/\ak w'.heap=ak w.heap+2/\aN (ak w.heap) w w'/\Jt w' (ak w.heap+1) ⟨r,ak w.heap,[],ar⟩:=by
 have g:=run_makeMap (P:=prog) 130 w;have d:qB (aB w<|.map #[] 0) (ak w.heap) []:=⟨#[],0,xn _ _,rfl,MapKept.stamped_empty 0⟩;have b:aN (ak w.heap) w<|aB w<|.map #[] 0:=(zt _ _).alloc (zd _) _;have a:ak (aB w<|.map #[] 0).heap=ak w.heap+1:=Ä
 go_enter func57.1,Tryz.ntmps57;go_wp2;go_ret;refine⟨rfl,Ä,b.trans<|((zt _ _).alloc (zd _) _).mono Ä, ?_, ?_,λc f=>by cases f⟩;have:=xh.dT (aB w<|.map #[] 0) #[zi r,eK<|some (ak w.heap),aR ar] 132;rw[a]at this;exact this;exact d.y (S:=λ_=>False) (zj.E _) id
def zQ:Zv->Int
 | bM a=>match(a[0]?:Option Zv)with
  |some (aj s)=>(s.size:Int)|_=>0
 |_=>0
theorem MI(v):zQ (lN v)=(aa v.1:Nat):=by simp[zQ,lN,zn]
def pC:List dP->Array Nat->Int
 |[],_=>0|x::l,seen=>(if seen.contains x.born then zQ x.val else 0)+pC l seen
theorem TL(seen b):∀(es:List dP),b∉es.map (·.born)->pC es (seen.push b)=pC es seen
 |[],_=>rfl|x::l,h=>by have a:¬x.born=b:=λe=>h (by simp[e]);have c:=TL seen b l λe=>h<|jc.2<|Or.inr e;simp[pC,c,a]
def TT(seen e)(b:seen.contains e.born=ao):∀(es:List dP),(es.map (·.born)).Nodup->e∈es->pC es (seen.push e.born)=pC es seen+zQ e.val
 |[],_,h=>Ê
 |x::l,hn,h=>by have a:=D8.1 hn;obtain rfl|h:=jc.1 h;grind [TL,pC];have c:¬x.born=e.born:=λq=>a.1<|Xe.2 ⟨e,h,q.symm⟩;have d:=TT seen e b l a.2 h;grind [pC]
def TR(seen):∀(es:List dP),(∀x∈es,seen.contains x.born=aw)->pC es seen=(es.map λe=>zQ e.val).sum
 |[],_=>rfl|x::l,h=>by have b:=TR seen l λy a=>h y<|jc.2<|Or.inr a;grind [pC]
def TS:∀(es:List dP),pC es #[]=0
 |[]=>rfl|x::l=>by simp[pC,TS l]
def TD(seen):∀(es:List dP),(∀x∈es,0<=zQ x.val/\zQ x.val<=1000000)->0<=pC es seen/\pC es seen<=1000000*aa es
 |[],_=>by simp[pC]|x::l,h=>by have b:=TD seen l λy a=>h y<|jc.2<|Or.inr a;grind [pC]
def bK(L:Xv):Int:=(L.map λp=>(aa p.2.1:Int)).sum
def TU:∀{es:List dP} {L:Xv},oG es L->(es.map λe=>zQ e.val).sum=bK L
 |[],[],_=>rfl|[],_::_,h=>(H8 h).elim
 |e::es,[],h=>by grind [oG]|e::es,p::L,h=>by obtain⟨b,c,a⟩:=C' h;have d:=TU a;grind [bK,MI]
def xrk(D d w)(h:Jt w D d)(hk:rY d.L)(bb:-1000000000000000<=d.bS)(bc:d.bS<=1000000000000000):
  aG prog 97 #[zo D] w λe w'=>e=ah (zi<|d.bS-bK d.L)/\aN (ak w.heap) w w':=by
 have c0:ae w (zq D 0)=ac (zi d.bS):=h.bO.i 0 rfl;have J:=h.bO.i 1 rfl;obtain⟨c,a,Q,f,U⟩:=h.iQ;have t:=(za.1 Q).1;have bd:=run_range_map (P:=prog) w 130 3 138 d.M c a vm Q;have Y:=f;have I:=U;have W:=Q;have HZ:∀x∈ej c,∃v:Zl×Int,x.val=lN v/\aa v.1<=1000000:=λx B=>by obtain⟨p,hp,_,e⟩:=EN f x B;exact⟨p.2,e,(hk.fV p hp).c⟩
 have HL:aa c.toList<=1000000:=by have:=congrArg aa f;simp only[jl]at this;show _<=_;rw[this];exact hk.bA
 go_enter func97.1,Tryz.ntmps97;go_wp2;generalize hw0:aB w (.mapIter (ac d.M) a #[] a)=w0;have H:aK<|w0.heap[ak w.heap]?=ac (.mapIter (ac d.M) a #[] a):=by show _=_;rw[<-hw0];exact xn _ _
 have E:aN (ak w.heap) w w0:=by show aN _ _ _;rw[<-hw0];exact(zt _ _).alloc (zd _) _
 go_loopw [3] (λx wr=>∃b J,x=zi (d.bS-pC (ej c) b)/\a<=J/\wr.heap[ak w.heap]?=ac (.mapIter (ac d.M) a b J)/\aN (ak w.heap) w wr) (λ_ wr=>match wr.heap[ak w.heap]?with
  |some (.mapIter _ _ b _)=>ak (Go.leftOf c b)|_=>0)
 case atStart=>exact⟨#[],a,by simp[TS],zd _,H.o,E⟩
 case round=>
  obtain⟨b,c2,rfl,K,o,n⟩:=hrel;have S:=(n.block _ t).trans W;obtain⟨hz,hnx⟩|⟨x,B,w1,hw1,hnx⟩:=run_next_at (P:=prog) wr 0 (ak w.heap) d.M a c2 b c a o S I.1 K
  ·have HR:aK<|d.bS-pC (ej c) b=d.bS-bK d.L:=by show _=_;rw[TR b (ej c)<|all_seen c b hz,TU Y]
   have X:=n;go_wp2;go_ret;exact⟨by rw[HR.o];rfl,X⟩
  have g:x∈ej c/\b.contains x.born=ao:=by simp only[Go.leftOf,Array.toList_filter,Ja]at B;exact⟨B.1,Â⟩
  obtain⟨v,V,be⟩:=HZ x g.1;have i:aK<|pC (ej c) (b.push x.born)=pC (ej c) b+(aa v.1:Nat):=by show _=_;rw[TT b x g.2 (ej c) I.2.1 g.1,V,MI]
  have j:=TD (b.push x.born) (ej c) (λy hy=>by grind [MI]);rw[i.o]at j;have ba:=left_shrinks c b x B;rw[V]at hnx;obtain⟨C,q⟩:∃C,jA w1 (ak w.heap) (.mapIter (ac d.M) a (b.push x.born) a)=C:=⟨_,rfl⟩;rw[q]at hnx;have O:=(za.1 o).1;have z:w1.heap=wr.heap:=ø
  have m:C.heap[ak w.heap]?=ac (.mapIter (ac d.M) a (b.push x.born) a):=by rw[<-q];simp[jA,z,O]
  have r:aN (ak w.heap) w C:=by
   refine n.trans ?_;rw[<-q];refine⟨ø,ø,ø,by grind [jA],λk hk=>?_⟩;have T:ak w.heap≠k:=À
   simp[jA,z,T]
  have R:=(r.block _ t).trans W;have s:=run_entry_at (P:=prog) C (ak w.heap) d.M a b c a x m R g.1 I.2.1;rw[V]at s;have G:=m;have F:=r;have Z:=o;have l:=(za.1 m).1;obtain⟨y,fl⟩:=v;unfold lN at hnx s;simp only at j;generalize x.key=xk at*;generalize pC (ej c) b=sm at*;go_wp2;have hh:=(heap_alloc_old _ (aq #[zs y,aH aU fl] 138) l).trans G;refine⟨⟨b.push x.born,a, ?_,zd _,hh,F.trans<|((zt _ _).alloc (zd _) _).mono<|Nat.le_of_lt l⟩, ?_⟩;rw[i.o];grind;grind
structure kV where
 S:Nat
 mp:Nat
 L:KV
 pv:Zv
 P:List Vk
 ep:Nat
 bE:Int
 aP:Int
 eJ:Int
 fo:Int
structure Sr where
 od:Int
 my:Int
 D:Nat
 d:Dk
 m:Zl
 bA:Nat
 bJ:Zl
 op:Nat
 sn:Option kV
def Sr.nz(r:Sr):Zv:=aR (r.sn.map λs=>⟨s.S,0,ar⟩)
def Sr.G(r:Sr):Za:=#[aH aU r.od,aH aU r.my,aR<|some ⟨r.D,0,ar⟩,aj<|st r.m,aH aU (r.bA:Int),aj<|st r.bJ,aH aU (r.op:Int),r.nz]
def kV.G(s:kV):Za:=#[eK<|some s.mp,s.pv,aH aU (s.ep:Int),aH aU s.bE,aH aU s.aP,aH aU s.eJ,aH aU s.fo]
def kV.cO(s:kV)(x:Nat):Prop:=x=s.S\/x=s.mp\/∃a n c,s.pv=az (ac a) n c/\x=a.block
def Sr.cO(B:Nat)(r:Sr)(x:Nat):Prop:=x=B\/r.d.cO r.D x\/∃s,r.sn=ac s/\s.cO x
structure yg(w:Zy)(s:kV):Prop where
 bO:xh w s.S s.G 97
 iQ:Je w s.mp s.L
 iy:w.ownsRow 0 126 1 s.pv (aa s.P)<|s.P.map mG
structure Vq(w:Zy)(B:Nat)(r:Sr):Prop where
 bO:xh w B r.G 81
 fh:Jt w r.D r.d
 fW:∀s,r.sn=ac s->yg w s/\s.mp≠r.d.M
def xh.ne{w a b cs cs'}{t c:Zt}(h:xh w a cs t)(k:xh w b cs' c)(d:t≠c):a≠b:=by grind [xh]
def xh.gu{w a b cs}{t:Zt}{es c}(h:xh w a cs t)(k:w.heap[b]?=ac (.map es c)):a≠b:=by grind [xh]
theorem Je.bO{w m L}(h:Je w m L):∃es c,w.heap[m]?=ac (.map es c):=by obtain⟨es,c,h,_⟩:=h;grind
theorem qB.bO{w m L}(h:qB w m L):∃es c,w.heap[m]?=ac (.map es c):=by obtain⟨es,c,h,_⟩:=h;grind
def Df{w:Zy}{v n xs a k c}(h:w.ownsRow 0 126 1 v n xs)(f:v=az (ac a) k c):∃cur,w.heap[a.block]?=ac (aq cur 126 (0,0))/\a=(zq a.block 0):=by obtain⟨d,_⟩|⟨g,b,cur,d,_,e,_⟩:=h.2;grind;grind
def Dk.eY{w D d}(h:Jt w D d){x}(hx:d.cO D x):x<ak w.heap:=by obtain rfl|rfl|⟨c,a,rfl⟩:=hx;exact h.bO.lt;exact h.iQ.lt;exact(h.iU c a).lt
def kV.eY{w s}(h:yg w s){x}(hx:s.cO x):x<ak w.heap:=by obtain rfl|rfl|⟨a,n,c,d,rfl⟩:=hx;exact h.bO.lt;exact h.iQ.lt;obtain⟨b,e,_⟩:=Df h.iy d;grind
def Sr.eY{w B r}(h:Vq w B r){x}(hx:r.cO B x):x<ak w.heap:=by obtain rfl|hx|⟨s,a,hx⟩:=hx;exact h.bO.lt;exact Dk.eY h.fh hx;exact kV.eY (h.fW s a).1 hx
def Vq.eF{w B r s}(h:Vq w B r)(q:r.sn=ac s){x}(hx:s.cO x):¬r.d.cO r.D x:=by obtain⟨k,p⟩:=h.fW s q;obtain⟨y,v,o⟩:=h.fh.iQ.bO;obtain⟨l,j,i⟩:=k.iQ.bO;obtain rfl|rfl|⟨a,n,c,t,rfl⟩:=hx;rintro(e|e|⟨c,b,e⟩);exact k.bO.ne h.fh.bO Ã e;exact k.bO.gu o e;exact k.bO.ne (h.fh.iU c b) Ã e;rintro(e|e|⟨c,b,e⟩);exact h.fh.bO.gu i e.symm;omega;exact(h.fh.iU c b).gu i e.symm;obtain⟨f,m,_⟩:=Df k.iy t;have g:xh w a.block f 126:=m;rintro(e|e|⟨c,b,e⟩);exact g.ne h.fh.bO Ã e;grind;exact g.ne (h.fh.iU c b) Ã e
def Vq.ko{w B r}(h:Vq w B r):¬r.d.cO r.D B:=by obtain⟨g,f,a⟩:=h.fh.iQ.bO;rintro(e|e|⟨c,b,e⟩);exact h.bO.ne h.fh.bO Ã e;exact h.bO.gu a e;exact h.bO.ne (h.fh.iU c b) Ã e
def Vq.Bn{w B r s}(h:Vq w B r)(m:r.sn=ac s):¬s.cO B:=by obtain⟨k,l⟩:=h.fW s m;obtain⟨f,d,j⟩:=k.iQ.bO;rintro(e|e|⟨a,n,c,o,e⟩);exact h.bO.ne k.bO Ã e;exact h.bO.gu j e;obtain⟨b,g,_⟩:=Df k.iy o;have i:xh w a.block b 126:=g;exact h.bO.ne i Ã e
def yg.y{S w w' s}(h:yg w s)(c:zj S w w')(d:∀x,s.cO x->¬S x):yg w' s:=by refine⟨h.bO.y c<|d _<|aF rfl,h.iQ.y c<|d _<|aE<|aF rfl,h.iy.1, ?_⟩;obtain j|⟨g,a,b,f,i,e,r⟩:=h.iy.2;grind;exact aE ⟨g,a,b,f,i,(c.dB g (za.1 e).1<|d g<|aE<|aE ⟨_,_,_,f,rfl⟩).trans e,r⟩
def Vq.y{S w w' B r}(h:Vq w B r)(a:zj S w w')(b:∀x,r.cO B x->¬S x):Vq w' B r:=
 ⟨h.bO.y a<|b _<|aF rfl,h.fh.y a λx c=>b x<|aE<|aF c,λs e=>⟨(h.fW s e).1.y a λx c=>b x<|aE<|aE ⟨s,e,c⟩,(h.fW s e).2⟩⟩
structure Zd(B:Nat)(r:Sr)(w:Zy)(r':Sr)(w':Zy):Prop where
 y:zj (r.cO B) w w'
 dS:Vq w' B r'
 cO:∀x,r'.cO B x->r.cO B x\/ak w.heap<=x
theorem Zd.refl{B r w}(h:Vq w B r):Zd B r w r w:=⟨zj.refl _ _,h,λ_ h=>aF h⟩
theorem Zd.aA{B r d e w w1 f}(h:Zd B r w d w1)(k:Zd B d w1 e f):Zd B r w e f:=by refine⟨⟨k.y.os.trans h.y.os,k.y.cM.trans h.y.cM,xa h.y.J k.y.J,λi c g=>?_⟩,k.dS,λx b=>?_⟩;refine(k.y.dB i (zm c h.y.J) λb=>?_).trans<|h.y.dB i c g;obtain a|a:=h.cO i b;grind;omega;obtain a|a:=k.cO x b;exact h.cO x a;exact aE<|xa h.y.J a
def MG(B r w)(h:Vq w B r):aG prog 20 #[zo B] w λe w'=>e=ah (zi r.bA)/\w'=w:=by have a:ae w (zq B 4)=ac (zi r.bA):=h.bO.i 4 rfl;clear h;go_enter func20.1,Tryz.ntmps20;go_wp2;go_ret;simp
def Sr.jJ(r:Sr):Sr:={r with sn:=ar}
def xll(B r w)(h:Vq w B r):aG prog 12 #[zo B] w λe w'=>e=ah (zi (if r.sn.isSome then 0 else 5))/\Zd B r w r.jJ w':=by
 have a:=h.bO.i 7 rfl;cases hs:r.sn with
 |none=>
  have d:ae w (zq B 7)=ac (aR ar):=by rw[a];simp[Sr.G,Sr.nz,hs]
  have c:aK<|Zd B r w r.jJ w:=by
   have:r.jJ=r:=by unfold Sr.jJ;rw[<-hs]
   show Zd _ _ _ _ _;rw[this];exact .refl h
  clear h a;go_enter func12.1,Tryz.ntmps12;go_wp2;go_ret;exact⟨rfl,c.o⟩
 |some s=>
  have d:ae w (zq B 7)=ac (zo s.S):=by rw[a];simp[Sr.G,Sr.nz,hs]
  have f:=h.bO.dG 7;have c:aK<|Zd B r w r.jJ<|ai w (zq B 7)<|aR ar:=by refine⟨(zj.H w (zq B 7) _).W λx b=>aF b,⟨?_, ?_,λs e=>Ç⟩,λx b=>?_⟩;exact h.bO.H 7 _;exact h.fh.y (zj.H w (zq B 7) _) λx b e=>h.ko Â;obtain e|e|⟨s,e,_⟩:=b;exact aF<|aF e;exact aF<|aE<|aF e;cases e
  clear h a;go_enter func12.1,Tryz.ntmps12;go_wp2;go_ret;exact⟨rfl,c.o⟩
structure Ih(s:kV)(w:Zy)(s':kV)(w':Zy):Prop where
 y:zj s.cO w w'
 dS:yg w' s'
 cO:∀x,s'.cO x->s.cO x\/ak w.heap<=x
 mp:s'.mp=s.mp
 S:s'.S=s.S
theorem Ih.st{B r s s' w w'}(h:Vq w B r)(b:r.sn=ac s)(k:Ih s w s' w'):Zd B r w {r with sn:=ac s'} w':=by
 refine⟨k.y.W λx a=>aE (aE ⟨s,b,a⟩),⟨?_, ?_,λt c=>?_⟩,λx a=>?_⟩;have:Sr.G {r with sn:=ac s'}=r.G:=by unfold Sr.G Sr.nz;simp only[b,Xl,k.S]
 show xh _ _ (Sr.G {r with sn:=ac s'}) _;rw[this];exact h.bO.y k.y<|h.Bn b;exact h.fh.y k.y λx a d=>h.eF b d a;cases c;exact⟨k.dS,by rw[k.mp];exact(h.fW s b).2⟩;obtain e|e|⟨t,c,a⟩:=a;exact aF<|aF e;exact aF<|aE<|aF e;cases c;obtain f|f:=k.cO x a;exact aF<|aE<|aE ⟨s,b,f⟩;omega
def kV.jH(s:kV)(pv:Zv)(c:Vk):kV:={s with pv,P:=s.P++[c]}
def TK(s c w)(h:yg w s)(g:aa s.P=20):aG prog 39 #[zo s.S,mG c] w λe w'=>e=ah (zi 7)/\w'=w:=by
 obtain⟨a,d,b,f⟩:=Wo h.iy;rw[g]at b;have i:ae w (zq s.S 1)=ac (az a 20 d):=by rw[<-b];exact h.bO.i 1 rfl
 go_enter func39.1,Tryz.ntmps39;go_wp2;go_ret;simp
def TW(s c w)(h:yg w s)(hP:aa s.P<20):aG prog 39 #[zo s.S,mG c] w λe w'=>e=ah (zi 0)/\∃pv,Ih s w (s.jH pv c) w':=by
 obtain⟨F,hi,O,Q,R⟩:=S6;obtain⟨a,f,y,X⟩:=Wo h.iy;have c1:ae w (zq s.S 1)=ac (az a (aa s.P) f):=by rw[<-y];exact h.bO.i 1 rfl
 have m:=h;have o:=y;have O2:w.ownsRow 0 126 1 (az a (aa s.P) f) (aa s.P)<|s.P.map mG:=by show World.ownsRow _ _ _ _ _ _ _;rw[<-y];exact h.iy
 have HV:=S8 c;have hS:=h.bO.lt;obtain⟨T,U,C⟩:∃T U,mG c=gB T U:=by cases c<;>exact⟨_,_,rfl⟩
 rw[C]at HV⊢;have J:=C;go_enter func39.1,Tryz.ntmps39;go_wp2_with (refine wpList_append_lies _ rfl _ _ 95 rfl 0 126 F .nilIface 1 16 Tc hi O Q R rfl Ã (az a (aa s.P) f) (aa s.P) (s.P.map mG) rfl ?own (zq (ak w.heap) 0) 1 1 [gB T U] rfl rfl ?nw ?o1 Ã ?m1 ?m2 ?m3 (ak w.heap+1) ?m4 ?_)
 case own=>exact O2.alloc _
 case m1=>unfold nT;omega
 case m2=>omega
 case m3=>simp
 case m4=>simp
 case o1=>grind
 case nw=>intro j z hz;cases j with|zero=>simp at hz;subst hz;simp[go_sem,Addr.add]|succ j=>grind
 intro t d B v i l Y;have D:∀q,(az a (aa s.P) f).ownBlock=ac q->s.cO q:=by
  intro q Z;cases a with
  |none=>cases Z
  |some a=>cases Z;exact aE<|aE ⟨a,_,_,o,rfl⟩
 have I:zj (λx=>ac x=(az a (aa s.P) f).ownBlock) w B:=by refine⟨i.os,i.output,xa Ä i.size,λk hk hs=>?_⟩;exact(i.block k Æ hs).trans<|heap_alloc_old _ _ hk
 have L:¬ac s.S=(az a (aa s.P) f).ownBlock:=by
  intro e;cases a with
  |none=>cases e
  |some a=>obtain⟨p,H,_⟩:=Df m.iy o;exact m.bO.ne H Ã<|ql e
 have K:¬ac s.mp=(az a (aa s.P) f).ownBlock:=by
  intro e;cases a with
  |none=>cases e
  |some a=>obtain⟨p,H,_⟩:=Df m.iy o;obtain⟨es,k,M⟩:=m.iQ.bO;exact(show xh w a.block p 126 from H).gu M (ql e).symm
 have G:=m.bO.y I L;have V:=m.iQ.y I K;have f1:=G.dG 1;have ba:=G.i 1 rfl;have bb:t≠s.S:=by obtain e|e:=l;grind;omega
 have bc:t≠s.mp:=by obtain e|e:=l;grind;have:=m.iQ.lt;omega
 have HR:Ih s w (s.jH (az (ac ⟨t,0,ar⟩) (aa s.P+1) d) c)<|ai B (zq s.S 1)<|az (ac ⟨t,0,ar⟩) (aa s.P+1) d:=by
  refine⟨?_,⟨?_, ?_, ?_⟩, ?_,rfl,rfl⟩;exact(I.W λx E=>D x E.symm).aA<|(zj.H B (zq s.S 1) _).W λx E=>aF E;exact G.H 1 _;exact V.y (zj.H B (zq s.S 1) _) (λe=>by obtain⟨es,k,M⟩:=V.bO;exact G.gu M e.symm);have:B.ownsRow 0 126 1 (az (ac ⟨t,0,ar⟩) (aa (s.P++[c])) d) (aa (s.P++[c]))<|(s.P++[c]).map mG:=by rw[qz,zx];simp only[Js,CK,J];exact v
  have h2:(ai B (zq s.S 1)<|az (ac ⟨t,0,ar⟩) (aa s.P+1) d).ownsRow 0 126 1 (az (ac ⟨t,0,ar⟩) (aa (s.P++[c])) d) (aa (s.P++[c]))<|(s.P++[c]).map mG:=by refine⟨this.1, ?_⟩;obtain H|⟨g,W,p,hv,hg,hh,r⟩:=this.2;grind;grind [zah]
  grind [kV.jH];intro x E;obtain e|e|⟨b,n,c,hv,e⟩:=E;exact aF<|aF e;exact aF<|aE<|aF e;cases hv;grind
 go_wp2;go_ret;exact⟨rfl,_,HR⟩
def Sr.dH(r:Sr)(ok:Bool)(c:Vk)(a:Int)(r':Sr):Prop:=match r.sn with
 |none=>a=5/\r'=r|some s=>if ok=ao then a=6/\r'=r else if aa s.P=20 then a=7/\r'=r else a=0/\∃pv,r'={r with sn:=ac<|s.jH pv c}
def Sr.oc{r:Sr}{ok c}(h:r.sn=ar):r.dH ok c 5 r:=Ī
def Sr.mw{r:Sr}{s c}(h:r.sn=ac s):r.dH ao c 6 r:=Ī
theorem Sr.oa{r:Sr}{s c}(h:r.sn=ac s)(a:aa s.P=20):r.dH aw c 7 r:=Ī
theorem Sr.pU{r:Sr}{s c}(pv)(h:r.sn=ac s)(a:aa s.P≠20):r.dH aw c 0 {r with sn:=ac<|s.jH pv c}:=Ī
def nh(k:Zl):Bool:=bI (0<aa k/\aa k<=16)
def q8(v:Zl):Bool:=bI (aa v<=32)
def TE(B r b c w)(h:Vq w B r)(n:∀s,r.sn=ac s->aa s.P<=20):aG prog 16 #[zo B,zs b,zs c] w λe w'=>∃a r',e=ah (zi a)/\Zd B r w r' w'/\r.dH (nh b&&q8 c) (.put b c) a r':=by
 have j:=h.bO.i 7 rfl;have d:=h;cases hs:r.sn with
 |none=>
  have l:ae w (zq B 7)=ac (aR ar):=by rw[j];simp[Sr.G,Sr.nz,hs]
  have i:r.dH (nh b&&q8 c) (.put b c) 5 r:=Sr.oc hs;clear h j hs n;go_enter func16.1,Tryz.ntmps16;go_wp2;go_ret;exact⟨5,r,rfl,.refl d,i⟩
 |some s=>
  have l:ae w (zq B 7)=ac (zo s.S):=by rw[j];simp[Sr.G,Sr.nz,hs]
  have g:=hs;have q:=n s hs;clear h j hs n;go_enter func16.1,Tryz.ntmps16;go_wp2;refine(EM b _).mono ?_;rintro e w1⟨rfl,f⟩;obtain rfl:=f.symm;cases hk:bI (0<aa b/\aa b<=16)with
  |false=>
   have i:r.dH (nh b&&q8 c) (.put b c) 6 r:=by
    have:(nh b&&q8 c)=ao:=by simp only[nh,hk,CI]
    show Sr.dH _ _ _ _ _;rw[this];exact Sr.mw g
   go_wp2;go_ret;exact⟨6,r,rfl,.refl d,i⟩
  |true=>
   have k:=hk;go_wp2;refine(Tq c _).mono ?_;rintro e w1⟨rfl,f⟩;obtain rfl:=f.symm;cases hv:bI (aa c<=32)with
   |false=>
    have i:r.dH (nh b&&q8 c) (.put b c) 6 r:=by
     have:(nh b&&q8 c)=ao:=by simp only[nh,q8,hv,Vo]
     show Sr.dH _ _ _ _ _;rw[this];exact Sr.mw g
    go_wp2;go_ret;exact⟨6,r,rfl,.refl d,i⟩
   |true=>
    have p:aK<|(nh b&&q8 c)=aw:=by show _=_;simp only[nh,q8,hv,k,Bool.and_self]
    go_wp2;by_cases m:aa s.P=20
    ·refine(TK s (.put b c) _ (d.fW s g).1 m).mono ?_;rintro e w1⟨rfl,rfl⟩;go_wp2;go_ret;exact⟨7,r,rfl,.refl d,by rw[p.o];grind [Sr.oa]⟩
    refine(TW s (.put b c) _ (d.fW s g).1 À).mono ?_;rintro e w1⟨rfl,v,o⟩;have t:=o.st d g;go_wp2;go_ret;exact⟨0,_,rfl,t,by rw[p.o];grind [Sr.pU]⟩
def xh1(B r b w)(h:Vq w B r)(k:∀s,r.sn=ac s->aa s.P<=20):aG prog 18 #[zo B,zs b] w λe w'=>∃a r',e=ah (zi a)/\Zd B r w r' w'/\r.dH (nh b) (.del b) a r':=by
 have f:=h.bO.i 7 rfl;have c:=h;cases hs:r.sn with
 |none=>
  have i:ae w (zq B 7)=ac (aR ar):=by rw[f];simp[Sr.G,Sr.nz,hs]
  have g:r.dH (nh b) (.del b) 5 r:=Sr.oc hs;clear h f hs k;go_enter func18.1,Tryz.ntmps18;go_wp2;go_ret;exact⟨5,r,rfl,.refl c,g⟩
 |some s=>
  have i:ae w (zq B 7)=ac (zo s.S):=by rw[f];simp[Sr.G,Sr.nz,hs]
  have d:=hs;have o:=k s hs;clear h f hs k;go_enter func18.1,Tryz.ntmps18;go_wp2;refine(EM b _).mono ?_;rintro e w1⟨rfl,m⟩;obtain rfl:=m.symm;cases hk:bI (0<aa b/\aa b<=16)with
  |false=>
   have g:r.dH (nh b) (.del b) 6 r:=by
    have:(nh b)=ao:=by simp only[nh,hk,CI]
    show Sr.dH _ _ _ _ _;rw[this];exact Sr.mw d
   go_wp2;go_ret;exact⟨6,r,rfl,.refl c,g⟩
  |true=>
   have n:aK<|(nh b)=aw:=hk;go_wp2;by_cases j:aa s.P=20
   ·refine(TK s (.del b) _ (c.fW s d).1 j).mono ?_;rintro e w1⟨rfl,rfl⟩;go_wp2;go_ret;exact⟨7,r,rfl,.refl c,by rw[n.o];grind [Sr.oa]⟩
   refine(TW s (.del b) _ (c.fW s d).1 À).mono ?_;rintro e w1⟨rfl,q,l⟩;have p:=l.st c d;go_wp2;go_ret;exact⟨0,_,rfl,p,by rw[n.o];grind [Sr.pU]⟩
end
section
open Go.Maps Go.Sort Go.Shelf Go.MapKept
attribute [local go_sem] zn zg
def Je.sE{w m L}(h:Je w m L)(hk:∀p∈L,aa p.1<=nT)(C:aa L<=nT):
  ∃D:DataW Nat,w.ownsMap prog 9 zR m (aa L) D/\kS D=aa L/\(strKeys D).Perm (L.map (·.1)):=by
 obtain⟨d,a,t,g,v⟩:=h;have j:ak d=aa L:=by have:=congrArg aa g;simpa using this
 have e:∀x∈ej d,∃p∈L,x.key=zs p.1/\nU prog 9 zR x=ac (.string p.1,.nil):=λx n=>by
  obtain⟨p,k,b,_⟩:=Mq g x n;refine⟨p,k,b, ?_⟩;have y:=hk p k;have f:(ByteArray.mk (aV p.1)).size<=nT:=by simpa[ByteArray.size]using y
  simp[nU,b,keyOf,mapKey,dA,f,zR,st]
 refine⟨_,⟨d,a,t,⟨À,v,λx n=>Â⟩,À,rfl⟩, ?_, ?_⟩;simp only[Maps.size_eq];rw[(EQ _).length_eq];grind;simp only[strKeys];refine((EQ _).map _).trans ?_;rw[Wj];have:∀(l:List dP) (L:KV),pM l L->(∀x∈l,x∈ej d)->l.map ((λp=>Go.strOf p.1)∘WideElems.rg prog 9 zR)=L.map (·.1):=by
  intro l;induction l with
  |nil=>intro L i _;cases L with|nil=>rfl|cons p L=>grind [Ts]
  |cons x l ih=>intro L i c;cases L with|nil=>grind [pM]|cons p L=>obtain⟨o,z,B⟩:=Mo i;obtain⟨q,_,r,s⟩:=e x (c x Ä);have:=Tf<|Value.string.inj<|o.symm.trans r;rw[Js,Js];refine congr (congrArg _ ?_) ?_;rw[Function.comp_apply,WideElems.rg_of s];exact this.symm;grind
 grind
def xva(m):AnyZ.SortsIn prog lG fD m:=
 ⟨λblk d a f W e b c=>callsIn_wide.2<|AnyM.slices_Sort_string pS blk d a f W e b c,
 λp a W=>callsIn_wide.2<|AnyM.slices_Sort_string_none pS p a W⟩
abbrev tj:Zl->Zl->Bool:=λx y=>bI (x<=y)
def Vv(L:KV):List Zl:=(L.map (·.1)).mergeSort tj
def xdo(m w):aG prog 46 #[eK<|some m] w λe w'=>e=ah (nV (.func 74) #[] #[zo (ak w.heap)])/\w'=aB w (aq #[eK<|some m] 91):=
 (callsIn_wide (n:=5)).1 (AnyZ.keys_in pO fD 5 trivial rfl (ac m) w)
def xbi(m b L w)(h:Je w m L)(F:ae w (zq b 0)=ac (eK<|some m))(z:b<ak w.heap)(hk:∀p∈L,aa p.1<=1000000)(I:aa L<=3000000):
  aG prog 45 #[nV (.func 74) #[] #[zo b]] w λe w'=>∃v,e=ah v/\w'.ownsRow (ak w.heap) 9 1 v (aa (Vv L)) ((Vv L).map encStr)/\aN (ak w.heap) w w':=by
 obtain⟨j,l,q,g⟩:=h.sE (λp H=>xa (hk p H)<|by grind [nT]) (by grind [nT]);have k:kS j<=nT:=by rw[q];simp only[nT];omega
 have d:kS j*16<=140737488355328:=by rw[q];omega
 have n:SeqGives fD 2 prog 74 #[zo b] encStr (λi=>i.Perm<|strKeys j) (kS j) w:=
  AnyZ.keys_gives {pO with} _ _ trivial rfl À b m _ j _ z F l
 have B:=AnyZ.sorted_in rF _ 5 trivial trivial trivial trivial rfl À (xva _) (enters_of func73.1 Á rfl) 74 _ trivial (enters_of func74.1 Á rfl) _ _ k d _ n;change CallsIn _ _ prog 45 _ _ _ at B;refine((callsIn_wide).1 B).mono ?_;rintro e w'⟨v,i,rfl,E,f,C,z⟩;have D:∀a b c:Zl,tj a b=aw->tj b c=aw->tj a c=aw:=λa b c s t=>Â
 have r:∀a b:Zl,(tj a b||tj b a)=aw:=λa b=>Â
 have o:i.mergeSort (λx y=>bI (x<=y))=Vv L:=by refine List.Perm.eq_of_pairwise (le:=λa b=>tj a b=aw) (λa b _ _ s t=>?_) (KX D r i) (KX D r _)<|((Xo i _).trans<|E.trans g).trans (Xo _ _).symm;simp only[tj,Y8]at s t;exact List.le_antisymm s t
 have G:aa i=aa (Vv L):=by rw[<-o];exact(Xo i _).length_eq.symm
 rw[o,G]at f;exact⟨v,rfl,f,z⟩
def jez(m w):(binOp .eql 91 (eK<|some m)<|eK ar).run prog w=cT (aX ao) w:=run_eql_map_nil_sl w 91 9 94 (ac m) Bm
def xlk(m L w)(h:Je w m L):aG prog 43 #[eK<|some m] w λe w'=>e=ah (eK<|some (ak w.heap))/\aN (ak w.heap) w w'/\ak w'.heap=ak w.heap+1/\Je w' (ak w.heap) L:=by obtain⟨c,a,g,f,b⟩:=h;have i:=jez m;have d:aK<|Je (aB w<|.map c a) (ak w.heap) L:=⟨c,a,xn _ _,f,b⟩;go_enter func43.1,Tryz.ntmps43;go_wp2;rw[run_callFunc_extern func71 Á Á Á (e:=Extern.MapsClone.clone) Á,run_maps_clone_sl w 91 g];simp only[bG];rw[Oper.upon_value];go_wp2;rw[run_typeAssert_map_sl _ 91 20 _ _ _ Bm];simp only[bG];rw[Oper.upon_value];go_wp2;go_ret;exact⟨rfl,(zt _ _).alloc (zd _) _,Ä,d.o⟩
end
section
attribute [local go_sem] zn zg
def xin(m w):aG prog 44 #[eK<|some m,az ar 0 0] w λe w'=>e=ah (bU #[])/\w'=w:=by
 go_enter func44.1,Tryz.ntmps44;go_wp2;go_loopw [10] (λi wr=>i=zi 0/\wr=w) (λi _=>0)
 case atStart=>grind
 case round=>obtain⟨rfl,rfl⟩:=hrel;go_wp2;go_end0;grind
def MB{w v D}(h:w.ownsRow 0 126 1 v (aa D)<|D.map mG):(v=az ar 0 0/\D=[])\/∃g cap,v=az (ac ⟨g,0,ar⟩) (aa D) cap/\vj w g D/\g<ak w.heap:=by
 obtain⟨b,j⟩|⟨g,cap,a,f,l,d,m,k,n,e⟩:=h.2;grind;refine aE ⟨g,cap,f,λi c=>?_,(za.1 d).1⟩;have:a.toList[i]?=ac (mG D[i]):=by
  have b:(a.toList.take<|aa D*1)[i]?=ac (mG D[i]):=by rw[e];simp[c]
  rw[Gz]at b;simpa[c]using b
 grind [ae]
def TO(m L v D)(j:aa D<=1000000)(w)(d:Je w m L)(a:w.ownsRow 0 126 1 v (aa D)<|D.map mG):aG prog 44 #[eK<|some m,v] w λe w'=>e=ah (bU #[])/\zj (·=m) w w'/\Je w' m (fE L D):=by obtain⟨rfl,rfl⟩|⟨g,b,rfl,k,n⟩:=MB a;exact(xin m w).mono λe w'⟨f,h⟩=>⟨f,by grind [zj.refl],by rw[h];exact d⟩;refine GM m g b L D j w d k ?_;obtain⟨i,f,_⟩:=Df a rfl;obtain⟨l,c,h⟩:=d.bO;grind
def kV.j5(s:kV):KV:=fE s.L s.P
def xh4(B r w)(h:Vq w B r)(c:r.sn=ar):aG prog 23 #[zo B] w λe w'=>e=ah (bU #[az ar 0 0,zi 5])/\w'=w:=by
 have a:=h.bO.i 7 rfl;have b:ae w (zq B 7)=ac (aR ar):=by rw[a];simp[Sr.G,Sr.nz,c]
 clear h a;go_enter func23.1,Tryz.ntmps23;go_wp2;refine ji ŀ rfl ⟨rfl,rfl⟩
def xrp(B r s w)(h:Vq w B r)(I:r.sn=ac s)(hP:aa s.P<=20)(hk:∀p∈s.j5,aa p.1<=1000000)(V:aa s.j5<=3000000):aG prog 23 #[aR<|some ⟨B,0,ar⟩] w λe w'=>∃v,e=ah (bU #[v,aH aU 0])/\w'.ownsRow (ak w.heap) 9 1 v (aa (Vv s.j5)) ((Vv s.j5).map encStr)/\Nw w w':=by
 have M:=h.bO.i 7 rfl;have F:ae w ⟨B,7,ar⟩=ac (aR<|some ⟨s.S,0,ar⟩):=by rw[M];simp[Sr.G,Sr.nz,I]
 have E:=(h.fW s I).1;have Z:=E.bO.i 0 rfl;have K:=E;have Q:=hk;have x:=F;clear h M E I hk;go_enter func23.1,Tryz.ntmps23;go_wp2;refine(xlk s.mp s.L w K.iQ).mono ?_;rintro e w1⟨rfl,c,W,hm1⟩;have m:=c;have y:=hm1;have k:=K.y (zj.Q c) λ_ _=>id;have e7:=(zj.Q (S:=λ_=>False) c).i id x;have U:ae w1 ⟨s.S,1,ar⟩=ac s.pv:=k.bO.i 1 rfl;have l:=k;obtain⟨a,T,f,O⟩:=Wo k.iy;rw[f]at U;have D:=f;go_wp2;refine(TO _ s.L _ s.P À w1 y<|by rw[<-D];exact l.iy).mono ?_;rintro e i⟨rfl,G,d⟩;have n:Nw w i:=zj.cR (zj.Q m) (zd _) G;have z:=d;have X:=d.lt;go_wp2;refine(xdo _ _).mono ?_;rintro e j⟨rfl,b⟩;have C:Je j (ak w.heap) s.j5:=by show Je _ _ _;rw[b];exact z.y (S:=λ_=>False) (zj.E _) id
 have t:aK<|ae j ⟨ak i.heap,0,ar⟩=ac (eK<|some (ak w.heap)):=by show _=_;rw[b];exact(xh.dT i _ 91).i 0 rfl
 have o:Nw w j:=by show Nw _ _;rw[b];exact n.aA<|zj.E _
 have J:ak i.heap<ak j.heap:=by rw[b];simp
 clear b;go_wp2;refine(xbi _ _ s.j5 _ C t.o J Q V).mono ?_;rintro e Y⟨v,rfl,g,H⟩;have R:Y.ownsRow (ak w.heap) 9 1 v (aa (Vv s.j5))<|(Vv s.j5).map encStr:=Da g À;have q:=o.aA<|zj.Q H;go_wp2;refine ji ŀ rfl ⟨v,rfl,R,q⟩
end
section
open Go.Shelf
attribute [local go_sem] Oper.semAt_some
def rG(D:List Vk)(j:Nat):List<|Int×Vk:=((List.range' j<|aa D-j).reverse).map λ(i:Nat)=>((i:Int),D[i]?.getD (.del []))
def xm0(D j)(h:j<aa D):rG D j=rG D (j+1)++[((j:Int),D[j]?.getD (.del []))]:=by unfold rG;rw[show aa D-j=(aa D-(j+1))+1 by omega,Gx,List.reverse_cons,qz];rfl
def xr8(D j):aa (rG D j)=aa D-j:=by simp[rG]
theorem xr9(D):rG D (aa D)=[]:=by simp[rG]
def xxl(n)(R:1<=n)(l Bs h b cap D)(O:aa D<=1000000)(G:b<h)(o:Bs<h)(J t:List (Int×Vk)->Zy->Prop)
  (F:∀pre (x:Int×Vk) W,J pre W->aa pre<aa D->YieldAt fD (n-1) prog l #[aH aU x.1,mG x.2] W λe W'=>
   (e=ah (aX aw)/\J (pre++[x]) W'/\aN h W W')\/(e=ah (aX ao)/\t (pre++[x]) W'))
  (W)(p:ae W ⟨Bs,0,ar⟩=ac (az (ac ⟨b,0,ar⟩) (aa D) cap))(H:∀j,j<aa D->ae W ⟨b,j,ar⟩=ac (mG<|D[j]?.getD (.del [])))(M:J [] W):
  CallsIn fD n prog 149 #[nV (.yield l) #[] #[],aR<|some ⟨Bs,0,ar⟩] W λe W'=>(∃v,e=ah v)/\
   ((∃ys,ys=rG D 0/\J ys W')\/(∃pre,(∃k,k<=aa D/\pre=rG D k)/\t pre W')):=by
 refine callsIn_of_wp func149.1 rfl trivial ?_ rfl;simp only[Tryz.ntmps149,jd,xg,qy,iJ,jV,qu,qw,Xa,Zh,qj,qg]
 gi_wp2
 gi_loopw [3] (λi wr=>∃j:Nat,j<=aa D/\i=aH aU ((j:Int)-1)/\J (rG D j) wr/\aN h W wr)
  (λi _=>bB (bP i+1))
 case atStart=>grind [xr9,zt]
 case round=>
  obtain⟨j,Q,rfl,q,a⟩:=hrel;cases j with
  |zero=>
   have s:((0:Nat):Int)-1= -1:=À
   rw[s]
   gi_wp2
   go_end0;simp_all
  |succ j=>
   have s:((j+1:Nat):Int)-1=(j:Int):=À
   rw[s];have f:j<aa D:=À
   have z:=(a.cell G).trans<|H j f;have y:=(a.cell o).trans p;obtain⟨L,B,g,w,I,E⟩:=F _ ((j:Int),D[j]?.getD (.del [])) wr q (by rw[xr8];omega);dsimp only at I;have m:=xm0 D j f;generalize D[j]?.getD (.del [])=c at*
   gi_wp2
   refine E.mono ?_;rintro e K (⟨rfl,C,r⟩|⟨rfl,d⟩)
   ·gi_wp2
    go_roundw
    case rel=>exact⟨j,À,rfl,Â,a.trans r⟩
    grind [bP]
   gi_wp2
   refine ji (results_none rfl _ _ _) rfl ?_;exact⟨⟨_,rfl⟩,aE ⟨_,⟨j,À,m.symm⟩,d⟩⟩
def xcm(n l Bs)(J:List (Int×Vk)->Zy->Prop)(W)(a:ae W (zq Bs 0)=ac (az ar 0 0))(c:J [] W):
  CallsIn fD n prog 149 #[nV (.yield l) #[] #[],zo Bs] W λe W'=>(∃v,e=ah v)/\J [] W':=by
 refine callsIn_of_wp func149.1 rfl trivial ?_ rfl;simp only[Tryz.ntmps149,jd,xg,qy,iJ,jV,qu,qw,Xa,Zh,qj,qg]
 gi_wp2
 gi_loopw [3] (λi wr=>i=zi (-1)/\J [] wr) (λ_ _=>0)
 case atStart=>grind
 case round=>
  obtain⟨rfl,b⟩:=hrel
  gi_wp2
  go_end0;grind
def zx3(a len cap w):aG prog 94 #[az a len cap] w λe w'=>e=ah (nV (.func 149) #[] #[zo (ak w.heap)])/\w'=aB w (aq #[az a len cap] 95):=by go_enter func94.1,Tryz.ntmps94;go_wp2;go_ret;simp
def xm2(n)(y:1<=n)(Bs d sv D)(p:aa D<=1000000)(w)(a:Bs<d)(h:d<=ak w.heap)(t:ae w (zq Bs 0)=ac sv)(q:(sv=az ar 0 0/\D=[])\/∃g cap,sv=az (ac ⟨g,0,ar⟩) (aa D) cap/\vj w g D/\g<d):
  SeqStopsK fD n prog 149 #[zo Bs] (λx:Int×Vk=>#[zi x.1,mG x.2]) (aN d) (λys=>ys=rG D 0) (λpre=>∃k,k<=aa D/\pre=rG D k) (aa D) w:=λl J o W r _ _ s i=>by
 have b:=r.mono h;have c:=(b.cell a).trans t;obtain⟨rfl,rfl⟩|⟨g,cap,rfl,z,m⟩:=q;exact(xcm n l Bs J W c i).mono λe B⟨v,f⟩=>⟨v,aF ⟨_,rfl,f⟩⟩;refine(xxl n y l Bs d g cap D p m a J o s W c (λj f=>?_) i).mono ?_;have:=(b.cell m).trans<|z j f;grind;grind
end
def Nd(L:KV):Prop:=(L.map (·.1)).Nodup
theorem TA{L k v x}:x∈(gt L k v).map (·.1)↔x=k\/x∈L.map (·.1):=Ē
theorem Tz{L k x}:x∈(iP L k).map (·.1)->x∈L.map (·.1):=by induction L with|nil=>exact id|cons p L ih=>grind [iP]
theorem Nd.gt{L:KV}(h:Nd L)(k v:Zl):Nd<|gt L k v:=by induction L with|nil=>simp[Nd,P.gt]|cons p L ih=>grind [Nd,P.gt,TA]
theorem Nd.iP{L:KV}(h:Nd L)(k:Zl):Nd<|iP L k:=by induction L with|nil=>exact h|cons p L ih=>grind [Nd,P.iP,Tz]
def Nd.lE{L:KV}(h:Nd L)(c:Vk):Nd<|lE L c:=by cases c with|put k v=>exact h.gt k v|del k=>exact h.iP k
theorem Nd.fE{L:KV}(h:Nd L)(D:List Vk):Nd<|fE L D:=by induction D generalizing L with|nil=>exact h|cons c D ih=>exact ih<|h.lE c
def Je.nd{w m L}(h:Je w m L):Nd L:=by
 obtain⟨b,c,_,d,f⟩:=h;have e:b.toList.map (·.key)=L.map λp=>zs p.1:=by have:=congrArg (List.map nC) d;simpa[Wj,zc1]using this
 have a:=f.2.2;rw[e]at a;have:(L.map λp=>zs p.1)=(L.map (·.1)).map λk=>zs k:=Ä
 rw[this]at a;unfold List.Nodup at a;rw[Wk]at a;exact a.imp λh e=>h Ě
theorem TN{L}(k v x):Xg (gt L k v) x=if x=k then ac v else Xg L x:=by induction L with|nil=>grind [gt,Xg]|cons p L ih=>grind [gt,Xg]
theorem Mw{L x}(h:x∉L.map (·.1)):Xg L x=ar:=by induction L with|nil=>rfl|cons p L ih=>grind [Xg]
theorem TM{L}(b:Nd L)(k x):Xg (iP L k) x=if x=k then ar else Xg L x:=by induction L with|nil=>grind [iP,Xg]|cons p L ih=>obtain⟨c,d⟩:=p;have a:=D8.1 b;by_cases hk:k=c;grind [iP,Mw,Xg];simp only[iP,hk,if_false,Xg,ih a.2];grind
def tf(c:Vk)(x:Zl):Option<|Option Zl:=match c with
 | .put k v=>if k=x then ac (ac v)else ar
 | .del k=>if k=x then ac ar else ar
def TH{L}(a:Nd L)(c x):Xg (lE L c) x=(tf c x).getD (Xg L x):=by cases c with|put k v=>show Xg (gt L k v) x=_;grind [TN,tf]|del k=>show Xg (iP L k) x=_;grind [TM,tf]
def TI{L}(a:Nd L){D x}(h:∀c∈D,tf c x=ar):Xg (fE L D) x=Xg L x:=by induction D generalizing L with|nil=>rfl|cons c D ih=>show Xg (fE (lE L c) D) x=_;rw[ih (a.lE c) λy b=>h y<|jw _ b,TH a,h c<|xu ..];rfl
def TC(D j)(h:j<=aa D):(rG D j).map (·.2)=(D.drop j).reverse:=by unfold rG;rw[Wj,List.map_reverse];congr 1;apply List.ext_getElem;simp;grind
def xmg{L}(b:Nd L){D x k}(hk:k<=aa D){q y o}(f:rG D k=q++[y])(g:∀z∈q,tf z.2 x=ar)(hy:tf y.2 x=ac o):Xg (fE L D) x=o:=by
 have a:=TC D k hk;rw[f,qz,Js,CK]at a;have c:D.drop k=y.2::(q.map (·.2)).reverse:=by have:=congrArg List.reverse a;simpa using this.symm
 have d:D=D.take k++(y.2::(q.map (·.2)).reverse):=by rw[<-c,Gs]
 have e:fE L D=fE (lE (fE L<|D.take k) y.2) (q.map (·.2)).reverse:=by
  conv=>lhs;rw[d]
  simp[fE,Gy]
 rw[e,TI<|(b.fE _).lE _,TH<|b.fE _,hy];rfl;grind
def xil{L}(d:Nd L){D x}(e:∀z∈rG D 0,tf z.2 x=ar):Xg (fE L D) x=Xg L x:=by
 refine TI d λc b=>?_;have a:=TC D 0<|Zz _;have:c∈(rG D 0).map (·.2):=by rw[a];simpa using b
 grind
section
open Go.Shelf
attribute [local go_sem] zn zg
attribute [local go_sem] Oper.semAt_some
def xh.iu{W b a r cs}{t:Zt}(h:xh W r cs t)(c:W.grownBy b a)(d:∀r,a=ac r->∃o:Obj,W.heap[r]?=ac o/\o.isCells=ao):xh b r cs t:=
 (grownBy_keeps_cells c d h rfl).trans h
def TG(w):(zeroValue 94).run prog w=cT (rD []) w:=Á
structure jel(w:Zy)(key:Zl)(pre:List<|Int×Vk)(W:Zy):Prop where
 k:xh W (ak w.heap) #[zs key] 9
 v:xh W (ak w.heap+1) #[aj ⟨#[]⟩] 9
 b:xh W (ak w.heap+1+1) #[aX ao] 4
 Y:aN (ak w.heap) w W
 sz:ak w.heap+1+1+1+1<=ak W.heap
 no:∀z∈pre,tf z.2 key=ar
structure jem(w:Zy)(key:Zl)(c:nW)(pre:List<|Int×Vk)(W:Zy):Prop where
 wi:c= .ret
 hit:∃q y o,pre=q++[y]/\(∀z∈q,tf z.2 key=ar)/\tf y.2 key=ac o/\xh W (ak w.heap+1) #[zs<|o.getD []] 9/\xh W (ak w.heap+1+1) #[aX o.isSome] 4
 Y:aN (ak w.heap) w W
def xs2(s key w)(h:yg w s)(hP:aa s.P<=20):aG prog 59 #[aR<|some ⟨s.S,0,ar⟩,aj<|st key] w λe w'=>e=ah (bU #[aj<|st<|(Xg s.j5 key).getD [],aX (Xg s.j5 key).isSome])/\Nw w w':=by
 refine(callsIn_wide (n:=4)).1 ?_;obtain⟨a,cap,hpv,hcap⟩:=Wo h.iy;have HA:=h;have HPV:=hpv;have c1:ae w ⟨s.S,1,ar⟩=ac (az a (aa s.P) cap):=by rw[<-hpv];exact h.bO.i 1 rfl
 have c1':ae (aB (aB (aB w<|aq #[aj<|st key] 9)<|aq #[aj ⟨#[]⟩] 9)<|aq #[aX ao] 4) ⟨s.S,1,ar⟩=ac (az a (aa s.P) cap):=(zj.E (S:=λ_=>False) _).i id<|(zj.E (S:=λ_=>False) _).i id<|(zj.E (S:=λ_=>False) _).i id c1;have hfB:Fence.wide.fn 94:=trivial;refine callsIn_of_wp_marks func59.1 rfl trivial ?_ rfl;simp only[Tryz.ntmps59,jd,xg,qy,iJ,jV,qu,qw,Xa,Zh,qj,qg]
 gi_wp2_with (gi_at_call 94;refine(callsIn_wide.2<|zx3 _ _ _ _).mono ?_;rintro e w'⟨rfl,rfl⟩)
 obtain⟨W0,hW0⟩:∃W0,aB (aB (aB (aB w<|aq #[aj<|st key] 9)<|aq #[aj ⟨#[]⟩] 9)<|aq #[aX ao] 4) (aq #[az a (aa s.P) cap] 95)=W0:=⟨_,rfl⟩;rw[hW0];have B0:aN (ak w.heap) w W0:=by rw[<-hW0];exact((((zt _ w).alloc (zd _) _).alloc Ä _).alloc Æ _).alloc Æ _
 have S0:ak W0.heap=ak w.heap+1+1+1+1:=by rw[<-hW0];simp
 have K0:xh W0 (ak w.heap) #[aj<|st key] 9:=by rw[<-hW0];exact(((xh.dT w #[aj<|st key] 9).E _).E _).E _
 have V0:xh W0 (ak w.heap+1) #[aj ⟨#[]⟩] 9:=by rw[<-hW0];have:=xh.dT (aB w<|aq #[aj<|st key] 9) #[aj ⟨#[]⟩] 9;simp only[xp]at this;exact(this.E _).E _
 have L0:xh W0 (ak w.heap+1+1) #[aX ao] 4:=by rw[<-hW0];have:=xh.dT (aB (aB w<|aq #[aj<|st key] 9)<|aq #[aj ⟨#[]⟩] 9) #[aX ao] 4;simp only[xp]at this;exact this.E _
 have X0:xh W0 (ak w.heap+1+1+1) #[az a (aa s.P) cap] 95:=by rw[<-hW0];have:=xh.dT (aB (aB (aB w<|aq #[aj<|st key] 9)<|aq #[aj ⟨#[]⟩] 9)<|aq #[aX ao] 4) #[az a (aa s.P) cap] 95;simp only[xp]at this;exact this
 have HW0:=HA.y (zj.Q B0) λ_ _=>id;have hrows:=MB HW0.iy;rw[HPV]at hrows;refine wpIn_rangeFunc_ownF rfl À (gf:=149) (lb:=#[aR<|some ⟨ak w.heap+1+1+1,0,ar⟩]) rfl trivial (enters_of func149.1 Á rfl)
  (xm2 3 À (ak w.heap+1+1+1) (ak W0.heap) (az a (aa s.P) cap) s.P À W0 À (zd _) (X0.i 0 rfl) hrows) belowK_t (belowK_b<|zd _) (zt _ _) (λ_=>rfl)
  (jel w key) (jem w key)
  (λpre A B row hs hg hr=>⟨hs.k.iu hg λr e=>(hr r e).2,hs.v.iu hg λr e=>(hr r e).2,hs.b.iu hg λr e=>(hr r e).2,hs.Y.grown hg hs.Y.size λk e=>Â,xa hs.sz hg.size,hs.no⟩)
  (λc pre A B row hs hg hr=>⟨hs.wi,by obtain⟨q,y,o,h1,h2,h3,h4,h5⟩:=hs.hit;exact⟨q,y,o,h1,h2,h3,h4.iu hg λr e=>(hr r e).2,h5.iu hg λr e=>(hr r e).2⟩,hs.Y.grown hg hs.Y.size λk e=>Â⟩)
  ⟨K0,V0,L0,B0,À,λz hz=>by cases hz⟩
  (λx=>{tmps:=#[aR<|some ⟨s.S,0,ar⟩,aj<|st key,aC,aR<|some ⟨ak w.heap,0,ar⟩,aR<|some ⟨ak w.heap+1,0,ar⟩,aR<|some ⟨ak w.heap+1+1,0,ar⟩,aC,mG x.2,aC,aC,aC,aC,
   aR (ac ⟨s.S,0,ar⟩),aR<|some ⟨s.S,0,ar⟩,aR<|some ⟨s.S,1,ar⟩,az a (aa s.P) cap,nV (.func 149) #[] #[aR<|some ⟨ak w.heap+1+1+1,0,ar⟩],aH aU x.1,mG x.2,
   aC,aC,aC,aC,aC,aC,aC,aC,aC,aC,aC,aC,aC,aC,aC,aC,aC,aC,aC,aC,aC,aC,aC,aC,aC,aC,aC,aC,aC],defers:=[]}) ?assign ?body ?done ?stop
 case assign=>
  intro l x W K hK
  gi_wp2
  exact hK
 case body=>
  rintro l pre⟨ix,c⟩ W ⟨hk,hv,hb,hbel,hsz,hno⟩ _;have HK:=hk;have HV:=hv;have HB:=hb;have HE:=hbel;have HN:=hno;cases c with
  |put ky vl=>
   have h86:=SS (bM #[aj<|st ky,aj<|st vl]) W;simp only[mG];by_cases hm:ky=key
   ·subst hm;have A1:=HK.E<|aq #[aj<|st ky,aj<|st vl] 86;have A2:=HV.E<|aq #[aj<|st ky,aj<|st vl] 86;have A3:=HB.E<|aq #[aj<|st ky,aj<|st vl] 86;have ck:=A1.i 0 rfl;have cv:=A2.i 0 rfl;have fv:=A2.dG 0;have cb:=A3.i 0 rfl;have fb:=A3.dG 0;have cn0:=(xh.dT W #[aj<|st ky,aj<|st vl] 86).i 0 rfl;have cn1:=(xh.dT W #[aj<|st ky,aj<|st vl] 86).i 1 rfl
    gi_wp2
    refine⟨?_,rfl,⟨pre,(ix,.put ky vl),ac vl,rfl,HN,by simp[tf], ?_, ?_⟩, ?_⟩
    ·exact((kh _ _).trans<|KeepsOthers.setCell _ _ _).trans<|KeepsOthers.setCell _ _ _
    ·exact((HV.E _).H 0 _).dE Ä _
    ·exact((HB.E _).dE Ä _).H 0 _
    ·exact HE.trans<|(((zt _ W).alloc À _).setCell Ä _).setCell Â _
   ·have hmb:((st ky).toList==(st key).toList)=ao:=by rw[xl,xl,jf];exact hm
    have A1:=HK.E<|aq #[aj<|st ky,aj<|st vl] 86;have A2:=HV.E<|aq #[aj<|st ky,aj<|st vl] 86;have A3:=HB.E<|aq #[aj<|st ky,aj<|st vl] 86;have ck:=A1.i 0 rfl;have cv:=A2.i 0 rfl;have fv:=A2.dG 0;have cb:=A3.i 0 rfl;have fb:=A3.dG 0;have cn0:=(xh.dT W #[aj<|st ky,aj<|st vl] 86).i 0 rfl
    gi_wp2
    refine⟨kh _ _,(zt _ W).alloc À _,HK.E _,HV.E _,HB.E _,HE.trans<|(zt _ W).alloc À _,Æ,λz hz=>?_⟩;grind [tf]
  |del ky=>
   have h86:=Tk (bM #[aj<|st ky]) W;have h88:=SU (bM #[aj<|st ky]) W;simp only[mG];by_cases hm:ky=key
   ·subst hm;have A1:=HK.E<|aq #[aj<|st ky] 88;have A2:=HV.E<|aq #[aj<|st ky] 88;have A3:=HB.E<|aq #[aj<|st ky] 88;have ck:=A1.i 0 rfl;have cv:=A2.i 0 rfl;have fv:=A2.dG 0;have cb:=A3.i 0 rfl;have fb:=A3.dG 0;have cn0:=(xh.dT W #[aj<|st ky] 88).i 0 rfl
    gi_wp2
    refine⟨?_,rfl,⟨pre,(ix,.del ky),ar,rfl,HN,by simp[tf], ?_, ?_⟩, ?_⟩
    ·exact((kh _ _).trans<|KeepsOthers.setCell _ _ _).trans<|KeepsOthers.setCell _ _ _
    ·exact((HV.E _).H 0 _).dE Ä _
    ·exact((HB.E _).dE Ä _).H 0 _
    ·exact HE.trans<|(((zt _ W).alloc À _).setCell Ä _).setCell Â _
   ·have hmb:((st ky).toList==(st key).toList)=ao:=by rw[xl,xl,jf];exact hm
    have A1:=HK.E<|aq #[aj<|st ky] 88;have A2:=HV.E<|aq #[aj<|st ky] 88;have A3:=HB.E<|aq #[aj<|st ky] 88;have ck:=A1.i 0 rfl;have cv:=A2.i 0 rfl;have fv:=A2.dG 0;have cb:=A3.i 0 rfl;have fb:=A3.dG 0
    gi_wp2
    refine⟨kh _ _,(zt _ W).alloc À _,HK.E _,HV.E _,HB.E _,HE.trans<|(zt _ W).alloc À _,Æ,λz hz=>?_⟩;grind [tf]
 case done=>
  rintro D xs W hD rfl⟨hk,hv,hb,hbel,hsz,hno⟩ hK;have HM:aK<|Xg s.j5 key=Xg s.L key:=xil HA.iQ.nd hno;have HV:=hv;have HB:=hb;have HE:=hbel;have HD:=hK;have AW:=HA.y (zj.Q hbel) λ_ _=>id;have ck:=hk.i 0 rfl;have cm:ae W ⟨s.S,0,ar⟩=ac (eK<|some s.mp):=AW.bO.i 0 rfl;have hget:=S' (w:=W.drew) Bm dA TG AW.iQ key;have AW2:=AW.y (S:=λ_=>False) (zj.E<|aq #[aj ⟨#[]⟩] 94) λ_ _=>id;have hget2:=S' (P:=prog) (w:=(aB W<|aq #[aj ⟨#[]⟩] 94).drew) Bm dA TG AW2.iQ key;have cm2:ae (aB W<|aq #[aj ⟨#[]⟩] 94) ⟨s.S,0,ar⟩=ac (eK<|some s.mp):=AW2.bO.i 0 rfl;have ck2:=(hk.E<|aq #[aj ⟨#[]⟩] 94).i 0 rfl;unfold rD at hget hget2;clear AW2;clear hk hv hb hbel hno hK AW K0 V0 L0 X0 B0 hrows
  gi_wp2
  refine wpIn_wide.2 ?_;go_region;all_goals
   have VA:=(HV.E<|aq #[aj<|st<|(Xg s.L key).getD []] 94).U;have BA:=(HB.E<|aq #[aj<|st<|(Xg s.L key).getD []] 94).U;have NA:=(xh.dT W #[aj<|st<|(Xg s.L key).getD []] 94).U;have DA:(aB W<|aq #[aj<|st<|(Xg s.L key).getD []] 94).drew.heap[D]?=ac (.deferred<|some []):=(Xj W _ D (za.1 HD).1).trans HD;have EA:Nw w (aB W<|aq #[aj<|st<|(Xg s.L key).getD []] 94).drew:=((zj.Q HE).aA<|zj.E _).U;generalize(aB W<|aq #[aj<|st<|(Xg s.L key).getD []] 94).drew=WA at*;obtain⟨vl,hvl⟩:∃vl,(Xg s.L key).getD []=vl:=⟨_,rfl⟩;have HVL:=hvl;rw[hvl]at NA⊢;clear hvl hget hget2;have ca:=NA.i 0 rfl;have cv:=VA.i 0 rfl;have fv:=VA.dG 0;have cb:=BA.i 0 rfl;have fb:=BA.dG 0
   gi_wp2
   have VC:=(VA.H 0<|aj<|st vl).dE (p:=⟨ak w.heap+1+1,0,ar⟩) Ä<|aX (Xg s.L key).isSome;have BC:=(BA.dE (p:=⟨ak w.heap+1,0,ar⟩) Ä<|aj<|st vl).H 0<|aX (Xg s.L key).isSome;have DC:(ai (ai WA ⟨ak w.heap+1,0,ar⟩<|aj<|st vl) ⟨ak w.heap+1+1,0,ar⟩<|aX (Xg s.L key).isSome).heap[D]?=ac (.deferred<|some []):=(zah _ _ _ _ Â).trans<|(zah _ _ _ _ Â).trans DA;have EC:Nw w<|ai (ai WA ⟨ak w.heap+1,0,ar⟩<|aj<|st vl) ⟨ak w.heap+1+1,0,ar⟩<|aX (Xg s.L key).isSome:=(EA.cR (Xu _)<|zj.H WA ⟨ak w.heap+1,0,ar⟩ _).cR (show ak w.heap<=ak w.heap+1+1 by omega)<|zj.H _ ⟨ak w.heap+1+1,0,ar⟩ _;generalize(ai WA ⟨ak w.heap+1,0,ar⟩<|aj<|st vl).setCell ⟨ak w.heap+1+1,0,ar⟩ (aX (Xg s.L key).isSome)=WC at*;refine⟨Ä,aF ⟨_,_,rfl,run_takeDeferred DC, ?_⟩⟩;have hkr:∀r,ac D=ac r->∃o:Obj,WC.heap[r]?=ac o/\o.isCells=ao:=λr e=>by cases e;exact⟨_,DC,rfl⟩
   have r1:=(VC.iu (om WC D<|.deferred ar) hkr).i 0 rfl;have r2:=(BC.iu (om WC D<|.deferred ar) hkr).i 0 rfl;refine⟨bU #[aj<|st vl,aX (Xg s.L key).isSome],Ĺ,by rw[HM.o,HVL], ?_⟩;exact⟨EC.os,EC.cM,by simpa using EC.J,λk hk _=>(World.putObj_heap_other À).trans<|EC.dB k hk id⟩
 case stop=>
  rintro D c pre W hD⟨k,hk,rfl⟩ ⟨rfl,⟨q,y,o,h1,h2,h3,h4,h5⟩,hbel⟩ hK;have HM:aK<|Xg s.j5 key=o:=xmg HA.iQ.nd hk h1 h2 h3
  gi_wp2
  refine⟨Ä,aF ⟨_,_,rfl,run_takeDeferred hK, ?_⟩⟩;have hkr:∀r,ac D=ac r->∃o:Obj,W.heap[r]?=ac o/\o.isCells=ao:=λr e=>by cases e;exact⟨_,hK,rfl⟩
  have r1:=(h4.iu (om W D<|.deferred ar) hkr).i 0 rfl;have r2:=(h5.iu (om W D<|.deferred ar) hkr).i 0 rfl;refine⟨bU #[aj<|st<|o.getD [],aX o.isSome],Ĺ,by rw[HM.o], ?_⟩;exact⟨hbel.os,hbel.output,by simpa using hbel.size,λk hk _=>(World.putObj_heap_other À).trans<|hbel.block k hk⟩
end
section
attribute [local go_sem] zn zg
def Sr.ib(r:Sr)(key:Zl):Zl×Int:=match r.sn with
 |none=>([],5)
 |some s=>if nh key=ao then([],6)else match Xg s.j5 key with
  |none=>([],8)|some v=>(v,0)
def TF(B r a w)(h:Vq w B r)(j:∀s,r.sn=ac s->aa s.P<=20):aG prog 32 #[zo B,zs a] w λe w'=>e=ah (bU #[aj<|st (r.ib a).1,aH aU (r.ib a).2])/\Nw w w':=by
 have g:=h.bO.i 7 rfl;have n:=h;cases hs:r.sn with
 |none=>
  have i:ae w (zq B 7)=ac (aR ar):=by rw[g];simp[Sr.G,Sr.nz,hs]
  have b:aK<|r.ib a=([],5):=by show _=_;unfold Sr.ib;rw[hs]
  clear h g hs j;go_enter func32.1,Tryz.ntmps32;go_wp2;refine ji (v:=bU #[aj ⟨#[]⟩,zi 5]) Ą rfl ⟨â,zj.refl _ _⟩
 |some s=>
  have i:ae w (zq B 7)=ac (zo s.S):=by rw[g];simp[Sr.G,Sr.nz,hs]
  have f:=hs;have d:=j s hs;clear h g hs j;go_enter func32.1,Tryz.ntmps32;go_wp2;refine(EM a _).mono ?_;rintro e w1⟨rfl,l⟩;obtain rfl:=l.symm;cases hk:bI (0<aa a/\aa a<=16)with
  |false=>
   have b:aK<|r.ib a=([],6):=by show _=_;unfold Sr.ib;rw[f];simp only[nh,hk,if_true]
   go_wp2;refine ji (v:=bU #[aj ⟨#[]⟩,zi 6]) Ą rfl ⟨â,zj.refl _ _⟩
  |true=>
   have c:aK<|nh a=aw:=hk;go_wp2;refine(xs2 s a _ (n.fW s f).1 d).mono ?_;rintro e o⟨rfl,k⟩;have m:=k;cases ha:Xg s.j5 a with
   |none=>
    have b:aK<|r.ib a=([],8):=ė
    simp only[Option.getD_none,Option.isSome_none];go_wp2;refine ji (v:=bU #[aj ⟨#[]⟩,zi 8]) Ą rfl ⟨â,m⟩
   |some v=>
    have b:aK<|r.ib a=(v,0):=ė
    simp only[qt,Option.isSome_some];go_wp2;refine ji (v:=bU #[zs v,zi 0]) Ą rfl ⟨by rw[b.o],m⟩
end
end P
namespace P
open A.Tryq Go.RowKit
section
attribute [local go_sem] zn zg
def EU(m ep):aa (Ji m ep)=16:=Hn _ _ 16 Ã
theorem EV(m ep):aa (Y7 m ep)=32:=Hn _ _ 32 Ã
def wG(kind:Zl)(ep op cnt n:Nat):Zl:=kind++(nb ep 1++(nb op 2++(nb (cnt+1) 4++nb n 2)))
def zV(m kind:Zl)(ep op cnt:Nat)(plain:Zl):Zl:=me (Ji m ep) ((wG kind ep op cnt (aa plain)).take 8) plain
def sH(m mark kind:Zl)(ep op cnt:Nat)(plain:Zl):Zl:=Wu (Y7 m ep)<|mark++wG kind ep op cnt (aa plain)++zV m kind ep op cnt plain
def oU(m mark kind:Zl)(ep op cnt:Nat)(plain:Zl):Zl:=wG kind ep op cnt (aa plain)++zV m kind ep op cnt plain++sH m mark kind ep op cnt plain
def xkw(m mark kind)(ep op cnt:Nat)(plain)(hm:aa m=32)(M:aa mark=32)(L:aa kind=1)(O:aa plain<=4000)(bf:cnt<1000000000)(w)(T:gG w):
  aG prog 98 #[bM #[aj<|st m,aH aU (cnt:Int),aj<|st mark,aH aU (op:Int)],aj<|st kind,aH aU (ep:Int),aj<|st plain] w λe w'=>e=ah (aj<|st<|oU m mark kind ep op cnt plain)/\aN (ak w.heap) w w':=by
 have y:=T;have Z:=hm;have ba:=M;have bb:=O;have l1:=Z2 ep 1;have l2:=Z2 op 2;have l3:=Z2 (cnt+1) 4;have l4:=Z2 (aa plain) 2;have E:aK<|IntKind.i64.wrap ((cnt:Int)+1)=((cnt+1:Nat):Int):=ď
 have W0:aN (ak w.heap) w<|aB w<|aq #[aj<|st m,aH aU (cnt:Int),aj<|st mark,aH aU (op:Int)] 78:=(zt _ _).alloc (zd _) _;have z:xh (aB w<|aq #[aj<|st m,aH aU (cnt:Int),aj<|st mark,aH aU (op:Int)] 78) (ak w.heap) #[aj<|st m,aH aU (cnt:Int),aj<|st mark,aH aU (op:Int)] 78:=xh.dT _ _ _;go_enter func98.1,Tryz.ntmps98;go_wp2;generalize aB w (aq #[aj<|st m,aH aU (cnt:Int),aj<|st mark,aH aU (op:Int)] 78)=W at*;have c:∀w1,aN (ak W.heap) W w1->ae w1 ⟨ak w.heap,3,ar⟩=ac (aH aU (op:Int))/\ae w1 ⟨ak w.heap,1,ar⟩=ac (aH aU (cnt:Int)):=λw1 h=>⟨(z.Y h).i 3 rfl,(z.Y h).i 1 rfl⟩;have J:=c W<|zt _ _;have a:aN (ak W.heap) W W.drew:=(zt _ _).drew;go_region_held3 (λw'=>ae w' ⟨ak w.heap,3,ar⟩=ac (aH aU (op:Int))/\ae w' ⟨ak w.heap,1,ar⟩=ac (aH aU (cnt:Int))) (first|exact J|exact v)
  (first
   |(go_at_call 153;refine(Hh _ ep rfl _).mono ?_;rintro e w1⟨rfl,j⟩;replace a:=Xs a j;have v:=c _ a)
   |(go_at_call 154;refine(Mb _ _).mono ?_;rintro e w1⟨rfl,j⟩;replace a:=Xs a j;have v:=c _ a)
   |(go_at_call 155;refine(LS _ _ E.o _).mono ?_;rintro e w1⟨rfl,j⟩;replace a:=Xs a j;have v:=c _ a))
 obtain⟨hd,n⟩:∃hd,kind++(nb ep 1++(nb op 2++(nb (cnt+1) 4++nb (aa plain) 2)))=hd:=⟨_,rfl⟩;have H:aK<|wG kind ep op cnt (aa plain)=hd:=n;have bg:aa hd=10:=by rw[<-n];simp[L,l1,l2,l3,l4]
 rw[n];have f:=z.Y a;have Q:=W0.trans<|a.mono W0.size;have T1:=y.Y y.gX Q;have d0:=f.i 0 rfl;have d1:=f.i 1 rfl;have d2:=f.i 2 rfl;have d3:=f.i 3 rfl;try clear hHeld
 go_wp2;refine(Id m mark _ _ ep Z _ T1).mono ?_;rintro e p⟨rfl,x⟩;have W2:=Xs Q x;have t:=f.Y x;have V:=t.lt;obtain⟨d,l⟩:∃d,Ji m ep=d:=⟨_,rfl⟩;obtain⟨b,o⟩:∃b,Y7 m ep=b:=⟨_,rfl⟩;rw[l,o];have F:=l;have I:=o;have G:aK<|aa d=16:=by show _=_;rw[<-l];exact EU m ep
 have bc:aa b<=4096:=by show _<=_;rw[<-o,EV m ep];omega
 go_wp2;have i:xh (aB p<|aq #[aj<|st d,aj<|st b] 120) (ak p.heap) #[aj<|st d,aj<|st b] 120:=xh.dT _ _ _;have B:=t.E<|aq #[aj<|st d,aj<|st b] 120;have R:=W2.alloc À<|aq #[aj<|st d,aj<|st b] 120;have KS:∀q s,s=st (hd.take 8)->aG prog 156 #[bM #[aj<|st d,aj<|st b],aj s,aj<|st plain] q λe w'=>e=ah (aj<|st<|me d (hd.take 8) plain)/\aN (ak q.heap) q w':=λq s U=>by rw[U];exact Ml d b _ plain G.o Â À q
 generalize aB p (aq #[aj<|st d,aj<|st b] 120)=W at*;have c:∀w1,aN (ak W.heap) W w1->ae w1 ⟨ak p.heap,0,ar⟩=ac (aj<|st d)/\ae w1 ⟨ak p.heap,1,ar⟩=ac (aj<|st b):=λw1 h=>⟨(i.Y h).i 0 rfl,(i.Y h).i 1 rfl⟩;have J:=c W<|zt _ _;have a:aN (ak W.heap) W W.drew:=(zt _ _).drew;have h8:(8:Int)<=(aa hd:Nat):=À
 go_region_held3 (λw'=>ae w' ⟨ak p.heap,0,ar⟩=ac (aj<|st d)/\ae w' ⟨ak p.heap,1,ar⟩=ac (aj<|st b)) (first|exact J|exact v)
  ((go_at_call 156;refine(KS _ _<|te hd 8).mono ?_;rintro e q⟨rfl,j⟩;replace a:=Xs a j;have v:=c _ a))
 obtain⟨g,k⟩:∃g,me d (hd.take 8) plain=g:=⟨_,rfl⟩;rw[k];have D:=k;have be:aa g=aa plain:=by rw[<-k];exact ye _ _ _
 have C:=B.Y a;have X:=i.Y a;have S:=R.trans<|a.mono R.size;have T4:=y.Y y.gX S;have d2:=C.i 2 rfl;have KM:∀r s,s=st (mark++(hd++g))->gG r->aG prog 157 #[bM #[aj<|st d,aj<|st b],aj s] r λe w'=>e=ah (aj<|st<|Wu b<|mark++(hd++g))/\aN (ak r.heap) r w':=λr s U T=>by grind [Mu]
 try clear hHeld
 go_wp2;refine(KM _ _ rfl T4).mono ?_;rintro e r⟨rfl,K⟩;have bh:=wu b<|mark++(hd++g);have Y:aK<|st (hd++(g++Wu b (mark++(hd++g))))=st (oU m mark kind ep op cnt plain):=by show _=_;simp only[oU,sH,zV,H.o,F,I,D,jq]
 have W5:=Xs S K;go_wp2;go_ret;exact⟨by rw[<-Y.o];rfl,W5⟩
def zj.eg{S w w' n}(h:zj S w w'):zj S w<|w'.drewN n:=⟨h.os,h.cM,h.J,h.dB⟩
def Vb(n c:Nat):Zl:=83::(nb n 4++nb c 4)
def Sr.cH(r:Sr)(s:kV):Nat×Zl:=
 if s.bE<s.aP/\(aa (jp r.d.L s.aP):Int)<r.od then(bB s.aP,[])else(bB s.aP+1,Vb (bB s.aP+1)<|r.bA+1)
def xpo(B r s w)(h:Vq w B r)(V:r.sn=ac s)(J:0<=s.aP)(K:s.aP<=1000000000000)(H:r.bA<1000000000):aG prog 96 #[zo B] w λe w'=>e=ah (bU #[zi<|(r.cH s).1,aj<|st (r.cH s).2])/\Nw w w':=by
 obtain⟨c,k⟩:∃c:Nat,s.aP=(c:Int):=⟨bB s.aP,À⟩;have T:ae w (zq B 7)=ac (zo s.S):=by rw[h.bO.i 7 rfl];simp[Sr.G,Sr.nz,V]
 have Q:ae w (zq B 0)=ac (zi r.od):=h.bO.i 0 rfl;have R:ae w (zq B 2)=ac (zo r.D):=h.bO.i 2 rfl;have l:ae w (zq B 4)=ac (zi r.bA):=h.bO.i 4 rfl;have C:=(h.fW s V).1;have U:ae w (zq s.S 3)=ac (zi s.bE):=C.bO.i 3 rfl;have m:ae w (zq s.S 4)=ac (zi c):=by rw[<-k];exact C.bO.i 4 rfl
 have f:aK<|r.cH s=if s.bE<s.aP/\(aa (jp r.d.L s.aP):Int)<r.od then(bB s.aP,[])else(bB s.aP+1,Vb (bB s.aP+1)<|r.bA+1):=rfl;rw[k]at f;have bb:(c:Int)<=1000000000000:=À
 have y:aK<|∀n,aG prog 76 #[zo r.D,zi c] (w.drewN n) λe w'=>e=ah (zs<|jp r.d.L (c:Int))/\w'=w.drewN n:=λn=>Dg r.D r.d (c:Int) (w.drewN n) ⟨h.fh.bO,h.fh.iQ,h.fh.iU⟩;have o:aK<|IntKind.i64.wrap ((r.bA:Int)+1)=((r.bA+1:Nat):Int):=ď
 have g:aK<|IntKind.i64.wrap ((c:Int)+1)=((c+1:Nat):Int):=ď
 have O:aK<|∀w1 a b,a=((c+1:Nat):Int)->b=((r.bA+1:Nat):Int)->aG prog 152 #[zi a,zi b] w1 λe w'=>e=ah (zs<|Vb (c+1)<|r.bA+1)/\aN (ak w1.heap) w1 w':=λw1 a b X i=>by subst X i;exact Tn (c+1) (r.bA+1) w1
 obtain⟨z,t⟩:∃z,jp r.d.L (c:Int)=z:=⟨_,rfl⟩;rw[t]at y f;clear h C k t J K H;generalize r.od=sg at*;generalize s.bE=ba at*;go_enter func96.1,Tryz.ntmps96;go_wp2;by_cases i:ba<(c:Int)
 ·by_cases I:(aa z:Int)<sg
  ·have p:aK<|r.cH s=(c,[]):=by show _=_;rw[f.o,if_pos ⟨i,I⟩];simp
   go_quiet ((go_at_call 76;refine oz<|y.o _));go_wp2;refine ji (v:=bU #[zi c,aj ⟨#[]⟩]) Ā rfl ⟨by rw[p.o];rfl,(zj.refl _ _).eg⟩
  have p:aK<|r.cH s=(c+1,Vb (c+1)<|r.bA+1):=by show _=_;rw[f.o,if_neg λx=>I x.2];simp
  have Z:bI ((aa z:Int)<sg)=ao:=by simpa using I
  go_quiet ((go_at_call 76;refine oz<|y.o _));go_wp2;have F:ae (w.drewN nq) (zq s.S 4)=ac (zi c)/\ae (w.drewN nq) (zq B 4)=ac (zi r.bA):=⟨m,l⟩;have E:aK<|Nw w<|w.drewN nq:=(zj.refl _ _).eg;have j:aK<|∀w1,Nw w w1->ae w1 (zq s.S 4)=ac (zi c)/\ae w1 (zq B 4)=ac (zi r.bA):=λw1 h=>⟨h.i id m,h.i id l⟩;clear m l Q R U T;generalize w.drewN nq=W at*;go_region_held3 (λw'=>ae w' (zq s.S 4)=ac (zi c)/\ae w' (zq B 4)=ac (zi r.bA)) (first|exact F|exact G)
  ((go_at_call 152;refine(O.o _ _ _ g.o o.o).mono ?_;rintro e M⟨rfl,i⟩;have q:aK<|Nw w M:=E.o.U.aA<|zj.Q i;have G:=j.o _ q.o))
  go_wp2;refine ji (v:=bU #[zi<|IntKind.i64.wrap<|(c:Int)+1,zs<|Vb (c+1)<|r.bA+1]) Ā rfl ⟨by rw[p.o,g.o],q.o⟩
 have p:aK<|r.cH s=(c+1,Vb (c+1)<|r.bA+1):=by show _=_;rw[f.o,if_neg λx=>i x.1];simp
 have Y:bI (ba<(c:Int))=ao:=by simpa using i
 go_quiet ((go_at_call 76;refine Calls.quiet_of_same<|y.o _));go_wp2;have F:ae (w.drewN nq) (zq s.S 4)=ac (zi c)/\ae (w.drewN nq) (zq B 4)=ac (zi r.bA):=⟨m,l⟩;have E:aK<|Nw w<|w.drewN nq:=(zj.refl _ _).eg;have j:aK<|∀w1,Nw w w1->ae w1 (zq s.S 4)=ac (zi c)/\ae w1 (zq B 4)=ac (zi r.bA):=λw1 h=>⟨h.i id m,h.i id l⟩;clear m l Q R U T;generalize w.drewN nq=W at*;go_region_held3 (λw'=>ae w' (zq s.S 4)=ac (zi c)/\ae w' (zq B 4)=ac (zi r.bA)) (first|exact F|exact G)
 ((go_at_call 152;refine(O.o _ _ _ g.o o.o).mono ?_;rintro e M⟨rfl,i⟩;have q:aK<|Nw w M:=E.o.U.aA<|zj.Q i;have G:=j.o _ q.o))
 go_wp2;refine ji (v:=bU #[zi<|IntKind.i64.wrap<|(c:Int)+1,zs<|Vb (c+1)<|r.bA+1]) Ā rfl ⟨by rw[p.o,g.o],q.o⟩
section
variable {α:Type} {w w':cY} {t k:Nat} {f:α->List dL} {v:dL} {l:List α} {S:Nat->Prop}
def Rw(w:Zy)(t k:Nat)(f:α->Ze)(v:Zv)(l:List α):Prop:=w.ownsRow 0 t k v (aa l)<|l.flatMap f
def Rw.y(h:Rw w t k f v l)(i:zj S w w')(m:∀g,v.ownBlock=ac g->¬S g):Rw w' t k f v l:=by refine⟨h.1, ?_⟩;obtain e|⟨g,a,b,d,j,c,r⟩:=h.2;grind;exact aE ⟨g,a,b,d,j,(i.dB g (za.1 c).1<|m g Ŕ).trans c,r⟩
def Rw.dC(h:Rw w t k f v l):∃a cap,v=az a (aa l) cap:=by obtain⟨e,c⟩|⟨g,cap,b,d,_⟩:=h.2;grind;grind
def MU(b:∀a,aa (f a)=k):∀(l:List α) (i j:Nat) (hi:i<aa l),j<k->(l.flatMap f)[i*k+j]?=(f l[i])[j]?
 |a::l,0,j,_,hj=>by grind|a::l,i+1,j,hi,hj=>by rw[Wi,Xp Â,b,show(i+1)*k+j-k=i*k+j by grind];exact MU b l i j Â hj
def Rw.kq(h:Rw w t k f v l)(p:∀a,aa (f a)=k){i}(d:i<aa l){a n cap}(m:v=az a n cap):∃g,a=ac ⟨g,0,ar⟩/\∀j,j<k->ae w (zq g<|i*k+j)=(f l[i])[j]?:=by obtain⟨e,r⟩|⟨g,c,o,b,_⟩:=id h.2;omega;rw[m]at b;cases b;refine⟨g,rfl,λj q=>?_⟩;rw[m]at h;have:(i+1)*k<=aa l*k:=Y5 k d;rw[h.cellAt _ Â,MU p l i j d q]
end
structure Rf where
 bS:Int
 od:Int
 my:Int
 fv:Zv
 F:Xv
 mz:Bool
 jN:Int
 cE:Int
 m:Zl
 bA:Nat
 op:Nat
 bJ:Zl
 gA:Bool
 sv:Zv
 L:KV
 pv:Zv
 P:List Vk
 ep:Nat
 dO:Zl
 bE:Int
 sg:Int
 fo:Int
 eJ:Int
def Rf.G(f:Rf):Za:=#[aH aU f.bS,aH aU f.od,aH aU f.my,f.fv,aX f.mz,aH aU f.jN,aH aU f.cE,aj<|st f.m,aH aU (f.bA:Int),aH aU (f.op:Int),aj<|st f.bJ,aX f.gA,f.sv,f.pv,aH aU (f.ep:Int),aj<|st f.dO,aH aU f.bE,aH aU f.sg,aH aU f.fo,aH aU f.eJ]
def lp(p:Int×(Zl×Int)):Ze:=[aH aU p.1,aj<|st p.2.1,aH aU p.2.2]
def jT(p:Zl×Zl):Ze:=[aj<|st p.1,aj<|st p.2]
def cK:Vk->Zl
 | .put k _=>k| .del k=>k
def cV:Vk->Zl
 | .put _ v=>v| .del _=>[]
def cG:Vk->Bool
 | .put _ _=>ao| .del _=>aw
def rI(c:Vk):Ze:=[aX<|cG c,aj<|st<|cK c,aj<|st<|cV c]
structure Ju(w:Zy)(C:Nat)(f:Rf):Prop where
 bO:xh w C f.G 154
 fs:Rw w 159 3 lp f.fv f.F
 ss:Rw w 157 2 jT f.sv f.L
 ps:Rw w 147 3 rI f.pv f.P
 fn:f.F=[]->f.fv=az ar 0 0
def Ju.y{w w' C f}(h:Ju w C f)(a:Nw w w'):Ju w' C f:=⟨h.bO.y a id,h.fs.y a λ_ _=>id,h.ss.y a λ_ _=>id,h.ps.y a λ_ _=>id,h.fn⟩
def AtP(F:Xv)(n:Int)(e:kU):Prop:=(∃k,∃h:k<aa F,e=ah (zi k)/\F[k].1=n/\Xm F n=ac F[k].2)\/(e=ah (zi<|-1)/\Xm F n=ar)
def xjm{F:Xv}{k}(h:k<aa F)(n):Xm (F.drop k) n=if n=F[k].1 then ac F[k].2 else Xm (F.drop<|k+1) n:=by rw[Zx h];rfl
def xny(l)(k:Nat)(h:aa l<=k)(a:∀p∈l,aa p.2.1<=1000000):0<=bK l/\bK l<=1000000*(k:Int):=by induction l generalizing k with|nil=>simp[bK];omega|cons p l ih=>grind [bK]
def EX(C f n w)(h:Ju w C f)(t:aa f.F<=1000000):aG prog 193 #[zo C,zi n] w λe w'=>w'=w/\AtP f.F n e:=by
 obtain⟨a,d,m⟩:=h.fs.dC;have c3:ae w (zq C 3)=ac (az a (aa f.F) d):=m▸h.bO.i 3 rfl;have o:=h.fs;have r:=m;go_enter func193.1,Tryz.ntmps193;go_wp2;go_loopw [5] (λi wr=>∃k:Nat,k<=aa f.F/\i=zi k/\aK (Xm f.F n=Xm (f.F.drop k) n)/\wr=w) (λi _=>bB (aa f.F-bP i))
 case atStart=>exact⟨0,À,rfl,rfl,rfl⟩
 case round=>
  obtain⟨k,hk,rfl,l,rfl⟩:=hrel;by_cases b:k<aa f.F
  ·obtain⟨g,rfl,s⟩:=o.kq (λ_=>rfl) b r;have e0:ae wr (zq g<|k*3)=ac (zi f.F[k].1):=s 0 À;have hd:=l.o.trans<|xjm b n;have v:(k:Int)<(aa f.F:Nat):=by omega
   by_cases j:f.F[k].1=n
   ·have c:aK<|Xm f.F n=ac f.F[k].2:=by show _=_;rw[hd,if_pos j.symm]
    have p:=j;go_wp2;go_ret;exact⟨rfl,aF ⟨k,b,rfl,p,c.o⟩⟩
   have c:aK<|Xm f.F n=Xm (f.F.drop<|k+1) n:=by show _=_;rw[hd,if_neg<|Ne.symm j]
   generalize f.F[k].1=q at*;go_wp2;go_roundw
   case rel=>exact⟨k+1,À,Å,c,trivial⟩
   grind [bP]
  obtain rfl:k=aa f.F:=À
  go_wp2;go_ret;exact⟨rfl,aE ⟨rfl,by rw[l.o,Vl];rfl⟩⟩
def Ir(C f n w)(h:Ju w C f)(p:aa f.F<=1000000):aG prog 130 #[zo C,zi n] w λe w'=>w'=w/\e=ah (zs<|jp f.F n):=by
 obtain⟨a,c,j⟩:=h.fs.dC;have c3:ae w (zq C 3)=ac (az a (aa f.F) c):=j▸h.bO.i 3 rfl;have d:=h;have m:=j;go_enter func130.1,Tryz.ntmps130;go_wp2;apply(EX C f n _ d p).mono;rintro e w1⟨rfl,⟨k,hk,rfl,o,b⟩|⟨rfl,b⟩⟩
 ·obtain⟨g,rfl,i⟩:=d.fs.kq (λ_=>rfl) hk m;have q:ae w1 (zq g<|k*3+1)=ac (zs<|jp f.F n):=by rw[i 1 À];simp[lp,jp,b]
  clear i o b;go_wp2;go_ret;simp
 have l:aK<|jp f.F n=[]:=by show _=_;simp[jp,b]
 go_wp2;go_ret;exact⟨rfl,by rw[l.o];rfl⟩
def xj2(C f n w)(h:Ju w C f)(p:aa f.F<=1000000):aG prog 137 #[zo C,zi n] w λe w'=>w'=w/\e=ah (zi (aa (jp f.F n):Nat)):=by
 obtain⟨a,c,j⟩:=h.fs.dC;have c3:ae w (zq C 3)=ac (az a (aa f.F) c):=j▸h.bO.i 3 rfl;have d:=h;have m:=j;go_enter func137.1,Tryz.ntmps137;go_wp2;apply(EX C f n _ d p).mono;rintro e w1⟨rfl,⟨k,hk,rfl,o,b⟩|⟨rfl,b⟩⟩
 ·obtain⟨g,rfl,i⟩:=d.fs.kq (λ_=>rfl) hk m;have q:ae w1 (zq g<|k*3+1)=ac (zs<|jp f.F n):=by rw[i 1 À];simp[lp,jp,b]
  clear i o b;go_wp2;go_ret;simp
 have l:aK<|jp f.F n=[]:=by show _=_;simp[jp,b]
 go_wp2;go_ret;exact⟨rfl,by rw[l.o];rfl⟩
def xvs(C f w)(h:Ju w C f)(y:aa f.F<=1000000)(r:∀p∈f.F,aa p.2.1<=1000000):aG prog 136 #[zo C] w λe w'=>w'=w/\e=ah (zi<|bK f.F):=by
 obtain⟨a,d,l⟩:=h.fs.dC;have c3:ae w (zq C 3)=ac (az a (aa f.F) d):=l▸h.bO.i 3 rfl;have n:=h.fs;have o:=l;have c:=r;go_enter func136.1,Tryz.ntmps136;go_wp2;go_loopw [3,4] (λs i wr=>∃k:Nat,k<=aa f.F/\i=zi k/\s=zi (bK<|f.F.take k)/\wr=w) (λ_ i _=>bB (aa f.F-bP i))
 case atStart=>exact⟨0,À,rfl,rfl,rfl⟩
 case round=>
  obtain⟨k,hk,rfl,rfl,rfl⟩:=hrel;by_cases b:k<aa f.F
  ·obtain⟨g,rfl,j⟩:=n.kq (λ_=>rfl) b o;have e0:ae wr (zq g<|k*3+1)=ac (aj<|st f.F[k].2.1):=j 1 À;have hd:bK (f.F.take<|k+1)=bK (f.F.take k)+(aa f.F[k].2.1:Nat):=by unfold bK;rw[zp b,qz,List.sum_append];simp
   have m:=hd;have v:=c _<|Xk b;have z:0<=bK _/\bK _<=1000000*(k:Int):=xny (f.F.take k) k Â λp t=>c p<|Gv t;have B:(k:Int)<(aa f.F:Nat):=À
   clear j hd;generalize bK (f.F.take k)=q at*;generalize f.F[k].2.1=x at*;go_wp2;go_roundw
   case rel=>exact⟨k+1,À,Å,by rw[m],trivial⟩
   grind [bP]
  obtain rfl:k=aa f.F:=À
  rw[jz];go_wp2;go_ret;simp
structure Lk.ok(k:Lk):Prop where
 m:aa k.m=32
 ep:k.ep<=255
 bA:k.bA<4294967296
 dO:aa k.dO=32
theorem ML(l):ii l<=65535:=by
 unfold ii;have h:=xV<|(l.drop 8).take 2;have:aa ((l.drop 8).take 2)<=2:=Ă
 have:256^aa ((l.drop 8).take 2)<=256^2:=J7 Ã this;omega
def Jv(k:Lk)(L:KV)(l:Zl):Option<|Lk×KV:=rZ k L (l.take 1) (qi<|(l.drop 1).take 1) (qi<|(l.drop 4).take 4) (l.take 10) ((l.drop 10).take<|ii l)<|(l.drop<|10+ii l).take 32
def qE:Nat->Lk->KV->Zl->Option (Lk×KV×Zl)
 |0,k,L,l=>ac (k,L,l)
 |n+1,k,L,l=>if J5 l=aw then(match Jv k L l with
   |some (k',L')=>qE n k' L'<|l.drop<|42+ii l
   |none=>ar)else ac (k,L,l)
def Wt{l}(h:J5 l=aw):42+ii l<=aa l:=by grind [J5]
theorem Uj:∀(n m:Nat) (k:Lk) (L:KV) (l:Zl),aa l<=n->aa l<=m->qE n k L l=qE m k L l
 |0,0,_,_,_,_,_=>rfl|0,m+1,k,L,l,h,_=>by grind [qE,J5]
 |n+1,0,k,L,l,_,h=>by grind [qE,J5]
 |n+1,m+1,k,L,l,h1,h2=>by
  unfold qE;by_cases a:J5 l=aw;have:=Wt a;rw[if_pos a,if_pos a];cases Jv k L l with|none=>rfl|some q=>exact Uj n m q.1 q.2 _ Â Â
  grind
def lq(k:Lk)(L:KV)(l:Zl):Option<|Lk×KV×Zl:=qE (aa l) k L l
theorem Ue{k L l}(h:J5 l=ao):lq k L l=ac (k,L,l):=by unfold lq;cases hl:aa l with|zero=>rfl|succ n=>grind [qE]
def Uc{k k' L L' l}(h:J5 l=aw)(b:Jv k L l=ac (k',L')):lq k L l=lq k' L' (l.drop<|42+ii l):=by have:=Wt h;unfold lq;obtain⟨n,a⟩:∃n,aa l=n+1:=⟨aa l-1,À⟩;rw[a];show(if J5 l=aw then _ else _)=_;grind [Uj]
theorem Ud{k L l}(h:J5 l=aw)(b:Jv k L l=ar):lq k L l=ar:=by have:=Wt h;unfold lq;obtain⟨n,a⟩:∃n,aa l=n+1:=⟨aa l-1,À⟩;rw[a];show(if J5 l=aw then _ else _)=_;grind
def ET{k k' L L' r cnt a body tag}(h:oH k L r cnt a body tag=ac (k',L')):k'={k with bA:=cnt,eS:=k.dO,dO:=tag}:=Ģ
def xea{k k' L L' kind a body tag ep cnt}(h:rZ k L kind ep cnt a body tag=ac (k',L'))(hk:k.ok)(c:aa tag=32)(b:cnt<4294967296):k'.ok/\k'.mp=k.mp/\k'.aP=k.aP:=by unfold rZ at h;split at h;cases h;split at h;split at h;rw[ET h];exact⟨⟨hk.m,hk.ep,b,c⟩,rfl,rfl⟩;grind;split at h;split at h;rename_i hh;rw[ET h];exact⟨⟨hk.m,show ep<=255 by omega,b,c⟩,rfl,rfl⟩;grind;grind
def Uh{k k' L L' l}(h:Jv k L l=ac (k',L'))(b:J5 l=aw)(hk:k.ok):k'.ok/\k'.mp=k.mp/\k'.aP=k.aP:=by
 have a:=Wt b;apply xea h hk Â
 grind [xV,xf]
def Vd(k:Lk)(L:KV)(num:Int)(len whole:Nat):Option<|Lk×KV:=
 if whole<len then(if num=k.aP then ac ({k with cE:=aw,cN:=whole},L)else ar)else ac (k,L)
def lQ(k:Lk)(L:KV)(num:Nat)(by_:Zl):Option<|Lk×KV:=
 if 9<=aa by_ then
  (if by_.take 9≠83::(nb num 4++nb (k.bA+1) 4)then ar
  else match lq k L (by_.drop 9)with
   |some (k',L',r)=>Vd k' L' num (aa by_) (if aa r=aa by_-9 then 0 else aa by_-aa r)
   |none=>ar)
 else Vd k L num (aa by_) 0
def Ul{k L num x}(h:¬9<=aa x):lQ k L num x=Vd k L num (aa x) 0:=if_neg h
def Uk{k L num x}(h:9<=aa x)(a:x.take 9≠83::(nb num 4++nb (k.bA+1) 4)):lQ k L num x=ar:=by grind [lQ]
def Un{k L num x}(h:9<=aa x)(a:x.take 9=83::(nb num 4++nb (k.bA+1) 4)):lQ k L num x=match lq k L (x.drop 9)with
   |some (k',L',r)=>Vd k' L' num (aa x) (if aa r=aa x-9 then 0 else aa x-aa r)
   |none=>ar:=by grind [lQ]
def W8(num:Nat)(x:Zl):Za:=#[aH aU (num:Int),aj<|st x]
def jfa{tv}(b k)(hk:k.ok)(L l)(n:J5 l=aw)(w)(f:1<ak w.heap)(a:b≠1)(c:b≠4)(hm1:k.mp≠1)(e:k.mp≠4)(d:b≠k.mp)(j:Jh w b k)(o:Je w k.mp L)(i:gG w)(h:fU tv w):
  aG prog 232 #[zo b,Mk l] w (zS tv b k.mp (Jv k L l) w):=by
 have g:=Wt n;exact zq5 b k L hk.m _ _ _ _ _ _ hk.ep hk.bA Â (by grind [ML]) hk.dO w f a c hm1 e d j o i h
def zpp{tv}(b k)(hk:k.ok)(L num x)(hx:aa x<=100000)(w)(bk:1<ak w.heap)(ce:4<ak w.heap)(bs:b≠1)(bt:b≠4)(hm1:k.mp≠1)(cb:k.mp≠4)(bc:b≠k.mp)(hb:Jh w b k)(hs:Je w k.mp L)(hT:gG w)(hG:fU tv w):
  aG prog 172 #[zo b,bM<|W8 num x] w (zS tv b k.mp (lQ k L num x) w):=by
 have I:=hb;have HT:=hT;have HG:=hG;have HS:=hs;have HK:=hk;have ca:=hb.lt;have cc:=hs.lt;have kc:=hk.bA;have e1:IntKind.i64.wrap ((k.bA:Int)+1)=((k.bA+1:Nat):Int):=Ì
 unfold W8;go_enter func172.1,Tryz.ntmps172;have Q0:xh (aB w<|aq (W8 num x) 248) (ak w.heap) (W8 num x) 248:=xh.dT _ _ _;have L0:Jh (aB w<|aq (W8 num x) 248) b k:=xh.E I _;have G0:=HG.E<|aq (W8 num x) 248;have A0:zj (λy=>y=b\/y=k.mp) w<|aB w<|aq (W8 num x) 248:=zj.E _;have M0:=HS.y (S:=λ_=>False) (zj.E<|aq (W8 num x) 248) id;have T0:=HT.y (S:=λ_=>False) (zj.E<|aq (W8 num x) 248) id;by_cases h9:9<=aa x
 ·have j9:(9:Int)<=(aa x:Int):=by omega
  have C1:xh (aB (aB w<|aq (W8 num x) 248)<|aq #[zs x] 234) (ak w.heap+1) #[zs x] 234:=by have h:=xh.dT (aB w<|aq (W8 num x) 248) #[zs x] 234;rwa[xp]at h
  have Q1:=Q0.E<|aq #[zs x] 234;have L1:Jh (aB (aB w<|aq (W8 num x) 248)<|aq #[zs x] 234) b k:=xh.E L0 _;have G1:=G0.E<|aq #[zs x] 234;have A1:=A0.aA<|zj.E<|aq #[zs x] 234;have M1:=M0.y (S:=λ_=>False) (zj.E<|aq #[zs x] 234) id;have T1:=T0.y (S:=λ_=>False) (zj.E<|aq #[zs x] 234) id;go_wp2;have R:(aB w<|aq #[zi num,zs x] 248)=(aB w<|aq (W8 num x) 248):=rfl;rw[R];generalize(aB w<|aq (W8 num x) 248).alloc (aq #[zs x] 234)=w1 at*;have HC:∀g,zj (·=ak w.heap+1) w1 g->ae g (zq (ak w.heap) 0)=ac (zi num)/\ae g (zq b 8)=ac (zi k.bA):=λg h=>by have r3:=Q1.y h À;have l3:=xh.y L1 h À;exact⟨r3.i 0 rfl,l3.i 8 rfl⟩
  have S0:=HC w1<|zj.refl _ _;obtain⟨fb,be⟩:∃fb,(83::(nb num 4++nb (k.bA+1) 4))=fb:=⟨_,rfl⟩;have M:=be;have KF:∀g:Zy,aG prog 152 #[zi num,zi (k.bA+1:Nat)] g λe w'=>e=ah (zs fb)/\aN (ak g.heap) g w':=λg=>by rw[<-be];exact Tn num (k.bA+1) g
  go_region_held2 (λw'=>ae w' (zq (ak w.heap) 0)=ac (zi num)/\ae w' (zq b 8)=ac (zi k.bA)) (first|exact S0|exact S1|exact S2)
   (first
    |(go_at_call 165;refine(ue (w:=w1.drew) C1.U 9 9 rfl h9).mono ?_;rintro e V⟨rfl,l,bd⟩;have J:aK (zj (·=ak w.heap+1) w1 V):=⟨l.os,l.cM,l.J,l.dB⟩;have Y:=bd;have S1:=HC V J.o;clear l bd)
    |(go_at_call 152;refine(KF _).mono ?_;rintro e g⟨rfl,Q⟩;have X:=Q;have c:=J.o.aA<|zj.Q Q;have S2:=HC g c;clear Q)
    |(go_at_call 164;refine(Bo _ _<|G1.y c À).mono ?_;rintro e w4⟨bl,bu⟩;obtain rfl:=bl.symm;obtain⟨rfl,z⟩|⟨rfl,z⟩:=bu;rotate_left;(exact⟨rfl,Jl (Uk h9<|by rw[M];intro hh;have:=z.o;grind)<|A1.cR (r:=ak w.heap+1) À c⟩)))
  have Z:aK<|x.take 9=fb:=by have:=z.o;rw[yS,xl,xl]at this;exact this
  have B:aK (lQ k L num x=match lq k L (x.drop 9)with
   |some (k',L',r)=>Vd k' L' num (aa x) (if aa r=aa x-9 then 0 else aa x-aa r)
   |none=>ar):=Un h9<|Z.o.trans M.symm
  have Q3:=Q1.y c À;have C3:=Y.Y X;have L3:Jh g b k:=xh.y L1 c À;have G3:=G1.y c À;have A3:=A1.cR (r:=ak w.heap+1) À c;have M3:=M1.y c À;have T3:=T1.y c À;clear HC KF S0 z c J X Y Q1 C1 L1 G1 A1 M1 T1 Z M;clear S1;clear S2;try clear hHeld
  have bo:aa (x.drop 9)=aa x-9:=Ä
  obtain⟨x9,H⟩:∃y,x.drop 9=y:=⟨_,rfl⟩;rw[H]at B C3 bo;clear H;go_wp2;go_loopw [4] (λv wr=>∃(q:Lk) (E:KV) (r:Zl) (i:Nat),v=zi i/\q.ok/\q.mp=k.mp/\aa r<=aa x9/\i=(if aa r=aa x9 then 0 else aa x-aa r)/\lq k L x9=lq q E r/\xh wr (ak w.heap+1) #[zs r] 234/\xh wr (ak w.heap) (W8 num x) 248/\Jh wr b q/\fU tv wr/\zj (λy=>y=b\/y=k.mp) w wr/\Je wr k.mp E/\gG wr) (λ_ wr=>o7 (ak w.heap+1) wr)
  case atStart=>grind
  case round=>
   obtain⟨q,E,r,i,rfl,bh,bi,cd,bm,G,hC,hQ,hL,hG,hA,hM,hT⟩:=hrel;have bb:=xe bm;have j:=G;have ba:=bh;have O:=bi;have Ct:=hC;have Qt:=hQ;have Lt:=hL;have U:=hG;have At:=hA;have F:=hM;have Tt:=hT;have HZ:=C9 hC;have c0:ae wr (zq (ak w.heap+1) 0)=ac (zs r):=hC.i 0 rfl;clear bm G bh bi hC hQ hL hG hA hM hT Q3 C3 L3 G3 A3 M3 T3;go_wp2;refine(zwm r _).mono ?_;rintro e t⟨rfl,C⟩;have cf:=zm bk (At.aA<|C.W λ_ h=>h.elim).J;have C5:=Ct.y C id;have Q5:=Qt.y C id;have L5:Jh t b q:=xh.y Lt C id;have G5:=U.y C id;have A5:=At.aA<|C.W λ_ h=>h.elim;have M5:=F.y C id;have T5:=Tt.y C id;clear C Ct Qt Lt U At F Tt c0;by_cases m:J5 r=aw
   ·rw[m];have f:=m;clear m;go_wp2;refine(xkn (ak w.heap+1) r f _ C5).mono ?_;rintro e w6⟨rfl,T,k6⟩;have C6:=k6;have Q6:=Q5.y T À;have L6:Jh w6 b q:=xh.y L5 T À;have G6:=G5.y T À;have A6:=A5.cR (r:=ak w.heap+1) À T;have M6:=M5.y T À;have T6:=T5.y T À;have bv:=zm bk A6.J;clear T k6 C5 Q5 L5 G5 A5 M5 T5;go_wp2;refine(jfa (tv:=tv) b q ba E r f _ bv bs bt À À À L6 Â T6 G6).mono ?_;intro e w7 hp;unfold zS at hp;cases hra:Jv q E r with
    |none=>
     rw[hra]at hp;obtain⟨rfl,s⟩:=hp;rw[O]at s;exact⟨rfl,Jl (by rw[B.o,j,Ud f hra])<|A6.aA s⟩
    |some qq=>
     obtain⟨q2,L2⟩:=qq;rw[hra]at hp;obtain⟨rfl,s,l7,m7⟩:=hp;rw[O]at s m7;obtain⟨bf,bg,_⟩:=Uh hra f ba;have b2:=Wt f;have D:aK<|lq k L x9=lq q2 L2 (r.drop<|42+ii r):=by show _=_;rw[j];exact Uc f hra
     have d:aK<|aa (r.drop<|42+ii r)=aa r-(42+ii r):=by show _=_;simp
     obtain⟨r2,bj⟩:∃y,r.drop (42+ii r)=y:=⟨_,rfl⟩;rw[bj]at D C6 d;clear bj;have C7:=C6.y s À;have Q7:=Q6.y s À;have L7:=l7;have G7:=G6.y s À;have A7:=A6.aA s;have M7:=m7;have T7:=T6.y s À;have bp:=bf;have bq:=bg.trans O;have br:=C9 C7;have z1:ae w7 (zq (ak w.heap) 1)=ac (zs x):=Q7.i 1 rfl;have z2:ae w7 (zq (ak w.heap+1) 0)=ac (zs r2):=C7.i 0 rfl;have b3:aa r2<=aa x:=ŏ
     obtain⟨wn,bn⟩:∃wn,aa x-aa r2=wn:=⟨_,rfl⟩;have b9:=bn;have zz:IntKind.i64.wrap ((aa x:Int)-(aa r2:Int))=(wn:Int):=Ì
     clear bn;clear s l7 m7 hra bf bg C6 Q6 L6 G6 A6 M6 T6 j;go_wp2;go_roundw
     case rel=>exact⟨q2,L2,r2,wn,rfl,bp,bq,ŏ,by rw[if_neg ŏ];omega,D.o,C7,Q7,L7,G7,A7,M7,T7⟩
     case measure=>rw[HZ,br];have:=d.o;omega
   have n:J5 r=ao:=by simpa using m
   rw[n];have a:aK<|lQ k L num x=Vd q E num (aa x) i:=by show _=_;rw[B.o,j,Ue n,bb.o,bo]
   have Qt:=Q5;have Lt:=L5;have U:=G5;have At:=A5;have F:=M5;clear bb j B C5 Q5 L5 G5 A5 M5 T5 m n HZ;have t1:ae t (zq (ak w.heap) 1)=ac (zs x):=Qt.i 1 rfl;have t0:ae t (zq (ak w.heap) 0)=ac (zi num):=Qt.i 0 rfl;have bw:ae t (zq b 12)=ac (zi q.aP):=xh.i Lt 12 rfl;have bx:ae t (zq b 15)=ac (aX q.cE):=xh.i Lt 15 rfl;have bz:ae t (zq b 16)=ac (zi q.cN):=xh.i Lt 16 rfl;have b0:=xh.dG Lt 15;have b1:=xh.dG Lt 16;by_cases p:i<aa x
   ·have i1:(i:Int)<(aa x:Int):=by omega
    go_wp2;go_still_tail 7,Á;go_wp2;by_cases o:(num:Int)=q.aP
    ·refine(Yt _ Â _).mono ?_;rintro e V⟨rfl,rfl⟩;have LE:Jh (ai (ai t (zq b 15)<|aX aw) (zq b 16)<|zi i).drew b {q with cE:=aw,cN:=i}:=((xh.H Lt 15<|aX aw).H 16<|zi i).U;have W:zj (λy=>y=b) t (ai (ai t (zq b 15)<|aX aw) (zq b 16)<|zi i).drew:=((zj.H t (zq b 15)<|aX aw).aA<|zj.H _ (zq b 16)<|zi i).U;have K:aK<|lQ k L num x=ac ({q with cE:=aw,cN:=i},E):=by show _=_;rw[a.o];unfold Vd;rw[if_pos p,if_pos o];try rfl
     clear o;go_wp2;go_end0;exact De K.o (At.aA<|W.W λ_ h=>aF h) LE<|F.y W<|Ne.symm bc
    refine(Jw _ Â _ U.U).mono ?_;rintro e V⟨rfl,rfl⟩;exact⟨rfl,Jl (by rw[a.o];grind [Vd]) At.U⟩
   have i1:¬(i:Int)<(aa x:Int):=À
   have K:aK<|lQ k L num x=ac (q,E):=İ
   go_wp2;go_end0;exact De K.o At Lt F
 have j9:¬(9:Int)<=(aa x:Int):=À
 have a:aK<|lQ k L num x=Vd k L num (aa x) 0:=Ul h9;have Qt:xh (aB w<|aq #[zi num,zs x] 248) (ak w.heap) (W8 num x) 248:=Q0;have Lt:Jh (aB w<|aq #[zi num,zs x] 248) b k:=L0;have U:fU tv<|aB w<|aq #[zi num,zs x] 248:=G0;have At:zj (λy=>y=b\/y=k.mp) w<|aB w<|aq #[zi num,zs x] 248:=A0;have F:Je (aB w<|aq #[zi num,zs x] 248) k.mp L:=M0;have b4:ae w (zq b 12)=ac (zi k.aP):=xh.i I 12 rfl;have b5:ae w (zq b 15)=ac (aX k.cE):=xh.i I 15 rfl;have b6:ae w (zq b 16)=ac (zi k.cN):=xh.i I 16 rfl;have b7:=xh.dG I 15;have b8:=xh.dG I 16;clear Q0 L0 G0 A0 M0 T0 I HT HG HS;have cg:(aa x:Int)<9:=À
 have t1:ae (aB w<|aq #[zi num,zs x] 248) (zq (ak w.heap) 1)=ac (zs x):=Qt.i 1 rfl;have t0:ae (aB w<|aq #[zi num,zs x] 248) (zq (ak w.heap) 0)=ac (zi num):=Qt.i 0 rfl;have bw:ae (aB w<|aq #[zi num,zs x] 248) (zq b 12)=ac (zi k.aP):=xh.i Lt 12 rfl;have bx:ae (aB w<|aq #[zi num,zs x] 248) (zq b 15)=ac (aX k.cE):=xh.i Lt 15 rfl;have bz:ae (aB w<|aq #[zi num,zs x] 248) (zq b 16)=ac (zi k.cN):=xh.i Lt 16 rfl;have b0:=xh.dG Lt 15;have b1:=xh.dG Lt 16;by_cases p:0<aa x
 ·have i1:0<(aa x:Int):=by omega
  go_wp2;generalize(aB w<|aq #[zi num,zs x] 248)=wq at*;go_still_tail 7,Á;go_wp2;by_cases o:(num:Int)=k.aP
  ·refine(Yt _ Â _).mono ?_;rintro e V⟨rfl,rfl⟩;have LE:Jh (ai (ai wq (zq b 15)<|aX aw) (zq b 16)<|zi 0).drew b {k with cE:=aw,cN:=0}:=((xh.H Lt 15<|aX aw).H 16<|zi 0).U;have W:zj (λy=>y=b) wq (ai (ai wq (zq b 15)<|aX aw) (zq b 16)<|zi 0).drew:=((zj.H wq (zq b 15)<|aX aw).aA<|zj.H _ (zq b 16)<|zi 0).U;have K:aK<|lQ k L num x=ac ({k with cE:=aw,cN:=0},L):=by show _=_;rw[a.o];unfold Vd;rw[if_pos p,if_pos o];rfl
   clear o;go_wp2;go_end0;exact De K.o (At.aA<|W.W λ_ h=>aF h) LE<|F.y W<|Ne.symm bc
  refine(Jw _ Â _ U.U).mono ?_;rintro e V⟨rfl,rfl⟩;exact⟨rfl,Jl (by rw[a.o];grind [Vd]) At.U⟩
 have i1:¬0<(aa x:Int):=À
 have K:aK<|lQ k L num x=ac (k,L):=İ
 go_wp2;go_end0;exact De K.o At Lt F
end
section
variable {Q:Exit→jG→Zy→Prop} {s x:Operand} {K:jG→Zy→Prop} {ops:Array fj} {o:fj} {a:jG} {cs:Za}
structure El(t e k:Nat):Prop where
 yi:prog.underlying t=ac (.slice e)
 Dh:∃i z,prog.info? e=ac i/\i.zero=ac z/\i.size=k/\i.bytes<=100/\ak z.cells=k
 gX:0<k
def El.yh{t e k b z}(h:prog.underlying t=ac (.slice e))(c:(prog.info? e).map (λi=>(i.zero,i.size,i.bytes))=ac (ac z,k,b))(a:b<=100)(d:ak z.cells=k)(hk:0<k):El t e k:=by refine⟨h, ?_,hk⟩;cases hq:prog.info? e with|none=>grind|some i=>grind
def Io:El 151 157 2:= .yh ((ex 151).trans Tryz.underlying151) (z:=bM #[aj ⟨#[]⟩,aj ⟨#[]⟩]) (b:=32) Á Ã rfl Ã
def zU:El 150 159 3:= .yh ((ex 150).trans Tryz.underlying150) (z:=bM #[zi 0,aj ⟨#[]⟩,zi 0]) (b:=32) Á Ã rfl Ã
def MN:El 152 147 3:= .yh ((ex 152).trans Tryz.underlying152) (z:=bM #[aX ao,aj ⟨#[]⟩,aj ⟨#[]⟩]) (b:=40) Á Ã rfl Ã
def zj.gl{S T w0 w w'}(h:zj S w0 w)(k:zj T w w')(c:∀y,T y->ak w0.heap<=y):zj S w0 w':=
 ⟨k.os.trans h.os,k.cM.trans h.cM,xa h.J k.J,λi a b=>(k.dB i (zm a h.J) λe=>Â).trans<|h.dB i a b⟩
structure eD{α:Type}(w0 w:Zy)(e k:Nat)(f:α->Ze)(v:Zv)(l:List α):Prop where
 nw:Nw w0 w
 cO:w.ownsRow (ak w0.heap) e k v (aa l)<|l.flatMap f
 nl:l=[]->v=az ar 0 0
section
variable {α:Type} {w0 w w':cY} {t e k:Nat} {f:α->List dL} {v:dL} {l:List α}
theorem eD.nil(w0):eD w0 w0 e k f (az ar 0 0) []:=⟨zj.refl _ _,jk _ _ _ _,λ_=>rfl⟩
def eD.gl(h:eD w0 w e k f v l)(c:Nw w w'):eD w0 w' e k f v l:=by refine⟨h.nw.aA c,⟨h.cO.1, ?_⟩,h.nl⟩;obtain e|⟨g,a,b,j,i,d,r⟩:=h.cO.2;grind;exact aE ⟨g,a,b,j,i,(c.dB g (za.1 d).1 id).trans d,r⟩
theorem eD.bE{w1}(h:eD w1 w e k f v l)(c:Nw w0 w1):eD w0 w e k f v l:=by refine⟨c.aA h.nw,⟨h.cO.1, ?_⟩,h.nl⟩;obtain e|⟨g,a,b,i,d,r⟩:=h.cO.2;grind;exact aE ⟨g,a,b,i,xa c.J d,r⟩
def eD.dC(h:eD w0 w e k f v l):∃a cap,v=az a (aa l) cap:=by obtain⟨e,c⟩|⟨g,cap,b,d,_⟩:=h.cO.2;grind;grind
def eD.rw(h:eD w0 w e k f v l):Rw w e k f v l:=⟨h.cO.1,h.cO.2.imp id λ⟨g,a,b,c,_,r⟩=>⟨g,a,b,c,Zz _,r⟩⟩
theorem eD.dT(h:eD w0 w e k f v l)(g)(a:v.ownBlock=ac g):ak w0.heap<=g:=(h.cO.lt g a).1
def It{W:Zy}{B d O:Nat}(E:El t e k)(b:α)(h:W.ownsRow d e k v (aa l)<|l.flatMap f)(hd:d<=ak W.heap)(S:aa l<=1000000000000)(C:xh W B cs O)(F:f b=ej cs)(hk:aa (f b)=k)(r:∀u∈f b,u.oneCell'=aw)
  (L:a.eval s=v)(hx:a.eval x=az (ac ⟨B,0,ar⟩) 1 1)(ho:o.op= .call {callee:= .builtin .append,args:=#[s,x],argTypes:=#[t,t]})
  (H:∀g cap w',w'.ownsRow d e k (az (ac ⟨g,0,ar⟩) (aa l+1) cap) (aa (l++[b])) ((l++[b]).flatMap f)->zj (λy=>v.ownBlock=ac y) W w'->(v.ownBlock=ac g\/g=ak W.heap)->K (a.put o.dst<|az (ac ⟨g,0,ar⟩) (aa l+1) cap) w'):o.wp prog a W K Q:=by
 obtain⟨i,z,G,M,m,D,n⟩:=E.Dh;refine wp_append_lies _ s x t ho d e i z k i.bytes E.yi G M m rfl n E.gX v (aa l) _ L h (zq B 0) 1 1 (f b) hx À ?_ r Ã Ø ?_ hd _ rfl ?_;intro j u p;rw[F]at p;exact fY C j u p;have:(aa l+1)*i.bytes<=1000000000001*100:=D6 À D;omega;intro g cap w' R c w _;refine H g cap w' ?_ ⟨c.os,c.output,c.size,λq J I=>c.block q J λe=>I e.symm⟩ w;grind
def eD.iB{rest:List fj}(E:El t e k)(b:α)(h:eD w0 w e k f v l)(p:aa l<=1000000000000)(n:f b=ej cs)(hk:aa (f b)=k)(d:∀u∈f b,u.oneCell'=aw)
  (q:a.eval s=v)(hx:a.eval x=az (ac ⟨ak w.heap,0,ar⟩) 1 1)(c:o.guard=ar)(ho:o.op= .call {callee:= .builtin .append,args:=#[s,x],argTypes:=#[t,t]})
  (K:∀g cap w',eD w0 w' e k f (az (ac ⟨g,0,ar⟩) (aa l+1) cap) (l++[b])->wpList prog ops Q rest (a.put o.dst<|az (ac ⟨g,0,ar⟩) (aa l+1) cap) w'):wpList prog ops Q (o::rest) a<|aB w<|aq cs e:=
 AL c λ_ m=>It E b (h.cO.alloc _) (xa h.nw.J Ä) p (xh.dT w cs e) n hk d q hx ho λg cap w' i j _=>m _ _<|K g cap w' ⟨(h.nw.aA<|zj.E _).gl j λy r=>(h.cO.lt y r).1,i,λe=>į⟩
def Rw.pW{R:Prop}{W:Zy}{B p:Nat}(E:El t e k)(b:α)(h:Rw W e k f v l)(m:aa l<=1000000000000)(d:xh W B cs p)(i:f b=ej cs)(hk:aa (f b)=k)(c:∀u∈f b,u.oneCell'=aw)
  (n:a.eval s=v)(hx:a.eval x=az (ac ⟨B,0,ar⟩) 1 1)(j:o.guard=ar)(ho:o.op= .call {callee:= .builtin .append,args:=#[s,x],argTypes:=#[t,t]})
  (H:∀g cap w',Rw w' e k f (az (ac ⟨g,0,ar⟩) (aa l+1) cap) (l++[b])->zj (λy=>v.ownBlock=ac y) W w'->(v.ownBlock=ac g\/g=ak W.heap)->K (a.put o.dst<|az (ac ⟨g,0,ar⟩) (aa l+1) cap) w'):
  if bC o (eZ ops a.tmps)=aw then o.wp prog a W K Q else R:=by
 rw[if_pos ľ];exact It E b h (Zz _) m d i hk c n hx ho H
def eD.pW{R:Prop}{W:Zy}{B w:Nat}(E:El t e k)(b:α)(h:eD w0 W e k f v l)(p:aa l<=1000000000000)(j:xh W B cs w)(m:f b=ej cs)(hk:aa (f b)=k)(c:∀u∈f b,u.oneCell'=aw)
  (q:a.eval s=v)(hx:a.eval x=az (ac ⟨B,0,ar⟩) 1 1)(n:o.guard=ar)(ho:o.op= .call {callee:= .builtin .append,args:=#[s,x],argTypes:=#[t,t]})
  (H:∀g cap w',eD w0 w' e k f (az (ac ⟨g,0,ar⟩) (aa l+1) cap) (l++[b])->K (a.put o.dst<|az (ac ⟨g,0,ar⟩) (aa l+1) cap) w'):
  if bC o (eZ ops a.tmps)=aw then o.wp prog a W K Q else R:=by
 rw[if_pos ľ];exact It E b h.cO h.nw.J p j m hk c q hx ho λg cap w' d i _=>H g cap w' ⟨h.nw.gl i λy r=>(h.cO.lt y r).1,d,λe=>į⟩
end
end
section
attribute [local go_sem] zn zg
section
variable {α:Type}
def se(c:Vk)(s:Bool×KV)(q:Zl×Zl):Bool×KV:=
 ((s.1||decide (cK c<=q.1)),(s.2++if s.1=ao/\cK c<=q.1 then [(cK c,cV c)]else [])++if q.1=cK c then []else [q])
def rh(l:KV)(c:Vk):Bool×KV:=l.foldl (se c) (cG c,[])
def vr(l:KV)(c:Vk):KV:=(rh l c).2++if(rh l c).1=ao then [(cK c,cV c)]else []
def xjz(l:KV)(c j)(h:j<aa l):rh (l.take<|j+1) c=se c (rh (l.take j) c) l[j]:=by grind [rh,zp]
theorem xoh(l:KV)(c):∀s:Bool×KV,aa (l.foldl (se c) s).2<=aa s.2+2*aa l:=by induction l with|nil=>grind|cons q l ih=>grind [se]
def xtj(a b):(Op.bytesLess (st a).toList (st b).toList||(st a).toList==(st b).toList)=bI (a<=b):=by grind [xl,bytesLess_eq]
def Ut(l Z c)(hl:aa l<=300000000000)(w)(h:Rw w 157 2 jT Z l):
  aG prog 127 #[Z,bM (aV (rI c))] w λe w'=>∃v,e=ah v/\eD w w' 157 2 jT v (vr l c):=by
 obtain⟨a,ba,rfl⟩:=h.dC;have HR:=h;have S:Nw w<|aB w<|aq #[aX<|cG c,zs<|cK c,zs<|cV c] 147:=zj.E _;have X0:xh (aB w<|aq #[aX<|cG c,zs<|cK c,zs<|cV c] 147) (ak w.heap) #[aX<|cG c,zs<|cK c,zs<|cV c] 147:=xh.dT _ _ _;have K:aK<|vr l c=(rh l c).2++if(rh l c).1=ao then [(cK c,cV c)]else []:=rfl;have m:∀j,aa (rh (l.take j) c).2<=600000000000:=λj=>by grind [xoh,rh]
 unfold rI;go_enter func127.1,Tryz.ntmps127;go_wp2;generalize aB w (aq #[aX<|cG c,zs<|cK c,zs<|cV c] 147)=w1 at*;go_loopw [5,6,7] (λv d i wr=>∃j:Nat,j<=aa l/\i=zi j/\d=aX (rh (l.take j) c).1/\eD w1 wr 157 2 jT v (rh (l.take j) c).2) (λ_ _ i _=>bB (aa l-bP i))
 case atStart=>exact⟨0,À,rfl,rfl,eD.nil _⟩
 case round=>
  obtain⟨j,hj,rfl,rfl,I⟩:=hrel;replace m:=m j;by_cases Q:j<aa l
  ·have i1:(j:Int)<(aa l:Nat):=by omega
   obtain⟨g,rfl,Y⟩:=HR.kq (λ_=>rfl) Q rfl;have F:∀w',Nw w1 w'->ae w' (zq (ak w.heap) 1)=ac (zs<|cK c)/\ae w' (zq (ak w.heap) 2)=ac (zs<|cV c)/\ae w' (zq g<|j*2)=ac (aj<|st l[j].1)/\ae w' (zq g<|j*2+1)=ac (aj<|st l[j].2):=λw' T=>⟨T.i id<|X0.i 1 rfl,T.i id<|X0.i 2 rfl,(S.aA T).i id<|Y 0 À,(S.aA T).i id<|Y 1 À⟩;have L:aK<|rh (l.take<|j+1) c=se c (rh (l.take j) c) l[j]:=xjz l c j Q;obtain⟨⟨k,R⟩,V⟩:∃q,l[j]=q:=⟨_,rfl⟩;rw[V]at F L;obtain⟨⟨C,out⟩,B⟩:∃s,rh (l.take j) c=s:=⟨_,rfl⟩;rw[B]at L I m⊢;simp only at F I m⊢;have n:=I;have H:=xtj (cK c) k;have G:((st k).toList==(st<|cK c).toList)=bI (k=cK c):=by rw[xl,xl];by_cases h:k=cK c<;>simp[h]
   by_cases f:C=ao/\cK c<=k;focus
    obtain⟨rfl,X⟩:=f;rw[jm X]at H;have b:aK<|se c (ao,out) (k,R)=(aw,(out++[(cK c,cV c)])++if k=cK c then []else [(k,R)]):=by show _=_;simp[se,X]
    have r:=F _ n.nw;go_wp2;go_quiet (fail);have D:eD w1 (wr.drewN nq) 157 2 jT _ out:=n.gl (zj.refl _ _).eg;generalize wr.drewN nq=w2 at*;clear r n H;have r:=F _ D.nw;go_wp2_with (refine eD.iB Io (cK c,cV c) D À rfl rfl æ rfl rfl rfl rfl ?_);intro g3 M W J;have y:=J;have J:aa (out++[(cK c,cV c)])<=600000000001:=Æ
    generalize out++[(cK c,cV c)]=U at*;generalize az (ac ⟨g3,0,ar⟩) (aa out+1) M=v3 at*;clear r D
   rotate_left;focus
    have b:aK<|se c (C,out) (k,R)=(C,out++if k=cK c then []else [(k,R)]):=by show _=_;unfold se;rw[if_neg f];cases C<;>simp at f⊢;exact f
    have o:C=ao->(Op.bytesLess (st<|cK c).toList (st k).toList||(st<|cK c).toList==(st k).toList)=ao:=λe=>Â
    have r:=F _ n.nw;obtain⟨U,rfl⟩:∃x,x=out:=⟨_,rfl⟩;have J:aa U<=600000000001:=À
    clear f H;cases C;all_goals
     try replace o:=o rfl
     go_wp2;go_quiet (fail);have y:eD w1 (wr.drewN nq) 157 2 jT _ U:=n.gl (zj.refl _ _).eg;generalize wr.drewN nq=W at*;clear r n o
   all_goals
    by_cases t:k=cK c;all_goals
     first|rw[jm t]at G|rw[jo t]at G
     first|rw[if_pos t]at b|rw[if_neg t]at b
     have r:=F _ y.nw;go_wp2;go_quiet (fail);have z:eD w1 (W.drewN nq) 157 2 jT _ U:=y.gl (zj.refl _ _).eg;generalize W.drewN nq=w5 at*;clear r y G t
    focus
     rw[Xz]at b;go_wp2;go_roundw
     case rel=>exact⟨j+1,À,Å,by rw[L.o,b.o],by rw[L.o,b.o];exact z⟩
     grind [bP]
    have r:=F _ z.nw;go_wp2_with (refine eD.iB Io (k,R) z À rfl rfl æ rfl rfl rfl rfl ?_);intro g6 O w6 p;have E:=p;clear p r z;go_wp2;go_roundw
    case rel=>exact⟨j+1,À,Å,by rw[L.o,b.o],by rw[L.o,b.o];exact E⟩
    grind [bP]
  obtain rfl:j=aa l:=À
  have i1:¬(aa l:Int)<(aa l:Nat):=À
  rw[jz]at*;obtain⟨⟨C,out⟩,B⟩:∃s,rh l c=s:=⟨_,rfl⟩;rw[B]at I m K⊢;simp only at I m K⊢;have n:=I;clear B I;have r:=X0.y n.nw id;cases C with
  |true=>rw[if_neg Ä,Xz]at K;go_wp2;go_ret;exact⟨_,rfl,by rw[K.o];exact n.bE S⟩
  |false=>rw[if_pos rfl]at K;have r1:=r.i (v:=aj _) 1 rfl;have r2:=r.i (v:=aj _) 2 rfl;go_wp2_with (refine eD.iB Io (cK c,cV c) n À rfl rfl æ rfl rfl rfl rfl ?_);intro g6 O w6 p;have E:=p;clear p r1 r2 n;go_wp2;go_ret;exact⟨_,rfl,by rw[K.o];exact E.bE S⟩
def rf(l:KV)(D:List Vk):KV:=D.foldl vr l
def Uo(c):∀(l:KV) (s:Bool×KV),aa (l.foldl (se c) s).2+(!(l.foldl (se c) s).1).toNat<=aa s.2+aa l+(!s.1).toNat
 |[],s=>by simp|q::l,s=>by have a:=Uo c l<|se c s q;grind [se]
theorem xoi(l c):aa (vr l c)<=aa l+1:=by have h:=Uo c l (cG c,[]);grind [Bool.toNat_le,vr,rh]
def MT(D):∀l:KV,aa (rf l D)<=aa l+aa D:=by induction D with|nil=>intro l;simp[rf]|cons c D ih=>grind [xoi,rf]
def Rf.gc(f:Rf):KV:=rf f.L f.P
def MV(C f w)(h:Ju w C f)(R:aa f.L<=200000000000)(O:aa f.P<=20):aG prog 83 #[aR<|some ⟨C,0,ar⟩] w λe w'=>∃v,e=ah v/\Nw w w'/\Rw w' 157 2 jT v f.gc/\∀g,v.ownBlock=ac g->f.sv.ownBlock=ac g\/ak w.heap<=g:=by
 obtain⟨a,r,D⟩:=h.ps.dC;have x:=h;have y:=D;have q:ae w ⟨C,12,ar⟩=ac f.sv:=h.bO.i 12 rfl;have z:=MT;obtain⟨G,s,b⟩:=h.ss.dC;have d:=xe b;rw[b]at q;clear h D b;go_enter func83.1,Tryz.ntmps83;go_wp2;go_loopw [3,4] (λv i wr=>∃j:Nat,j<=aa f.P/\i=aH aU j/\Nw w wr/\Rw wr 157 2 jT v (rf f.L<|f.P.take j)/\∀g,v.ownBlock=ac g->f.sv.ownBlock=ac g\/ak w.heap<=g) (λ_ i _=>bB (aa f.P-bP i))
 case atStart=>exact⟨0,À,rfl,zj.refl _ _,by rw[<-d.o];exact x.ss,λg k=>aF (by rw[d.o];exact k)⟩
 case round=>
  obtain⟨j,Q,rfl,B,J,k⟩:=hrel;have n:=B;have p:=J;have E:=k;have t:=Ju.y x B;have c13:ae wr ⟨C,13,ar⟩=ac (az a (aa f.P) r):=y▸t.bO.i 13 rfl;by_cases l:j<aa f.P
  ·obtain⟨g,rfl,m⟩:=t.ps.kq (λ_=>rfl) l y;have e0:ae wr ⟨g,j*3,ar⟩=ac (aX<|cG f.P[j]):=m 0 À;have K:ae wr ⟨g,j*3+1,ar⟩=ac (aj<|st<|cK f.P[j]):=m 1 À;have M:ae wr ⟨g,j*3+2,ar⟩=ac (aj<|st<|cV f.P[j]):=m 2 À;have F:aK<|rf f.L (f.P.take<|j+1)=vr (rf f.L<|f.P.take j) f.P[j]:=by show _=_;unfold rf;rw[zp l,Gy];rfl
   have I:=z (f.P.take j) f.L;rw[xf]at I;have S:(j:Int)<(aa f.P:Nat):=À
   clear m z;generalize f.P[j]=c at*;generalize rf f.L (f.P.take j)=L1 at*;go_wp2;refine(Ut L1 _ c À _ p).mono ?_;rintro e w1⟨T,rfl,H⟩;have o:=H;go_wp2;go_roundw
   case rel=>exact⟨j+1,À,Å,n.aA o.nw,by rw[F.o];exact o.rw,λg k=>aE (xa n.J<|o.dT g k)⟩
   grind [bP]
  obtain rfl:j=aa f.P:=À
  rw[jz]at p;go_wp2;go_ret;exact⟨_,rfl,n,p,E⟩
def zj.fg{S w w' n}(h:zj S w w'):zj S w<|w'.drewN n:=⟨h.os,h.cM,h.J,h.dB⟩
def fU.fg{tv w n}(h:fU tv w):fU tv<|w.drewN n:=h
def pg(k:Lk):Prop:=((k.bA:Int)=k.tc/\k.dO=k.bJ)\/((k.bA:Int)=k.tc+1/\k.eS=k.bJ)
def ztr{tv}(b k w)(f:Jh w b k)(C:0<=k.tc)(D:k.tc<=1000000000000)(s:fU tv w):aG prog 107 #[zo b] w λe w'=>zj (λ_=>False) w w'/\((e=ah (bU #[])/\aK (pg k))\/(e=jM tv/\aK (¬pg k))):=by
 have j:=s;have v:ae w (zq b 1)=ac (zi k.tc):=f.i 1 rfl;have y:ae w (zq b 2)=ac (zs k.bJ):=f.i 2 rfl;have z:ae w (zq b 8)=ac (zi k.bA):=f.i 8 rfl;have B:ae w (zq b 9)=ac (zs k.dO):=f.i 9 rfl;have q:ae w (zq b 10)=ac (zs k.eS):=f.i 10 rfl;have d:aK<|pg k↔(((k.bA:Int)=k.tc/\k.dO=k.bJ)\/((k.bA:Int)=k.tc+1/\k.eS=k.bJ)):=Iff.rfl;have t:IntKind.i64.wrap (k.tc+1)=k.tc+1:=by simp[eP,eQ,ek];omega
 generalize(k.bA:Int)=cn at*;generalize k.tc=tc at*;go_enter func107.1,Tryz.ntmps107;by_cases h:cn=tc
 ·subst h;have p:¬cn=cn+1:=by omega
  by_cases i:k.dO=k.bJ
  ·have a:=d.o.2 (aF ⟨rfl,i⟩);have c:((st k.dO).toList==(st k.bJ).toList)=aw:=by rw[i];exact beq_self_eq_true _
   go_wp2;go_quiet (fail);go_wp2;go_quiet (fail);go_wp2;refine(Yt _ à _).mono ?_;rintro e w1⟨rfl,rfl⟩;go_wp2;go_end0;exact⟨(zj.refl _ _).fg,aF ⟨rfl,a⟩⟩
  have a:¬pg k:=λg=>by obtain⟨_,x⟩|⟨x,_⟩:=d.o.1 g;exact i x;omega
  have l:¬(st k.dO).toList=(st k.bJ).toList:=by rw[xl,xl];exact i
  have c:((st k.dO).toList==(st k.bJ).toList)=ao:=by rw[jf];exact l
  go_wp2;go_quiet (fail);go_wp2;go_quiet (fail);go_wp2;refine(Jw _ à _<|j.fg (n:=_)).mono ?_;rintro e w1⟨rfl,rfl⟩;exact⟨rfl,(zj.refl _ _).fg,aE ⟨rfl,a⟩⟩
 have r:bI (cn=tc)=ao:=Ĵ
 by_cases p:cn=tc+1
 ·subst p;by_cases m:k.eS=k.bJ
  ·have a:=d.o.2 (aE ⟨rfl,m⟩);have c:((st k.eS).toList==(st k.bJ).toList)=aw:=by rw[m];exact beq_self_eq_true _
   go_wp2;go_quiet (fail);go_wp2;go_quiet (fail);go_wp2;refine(Yt _ à _).mono ?_;rintro e w1⟨rfl,rfl⟩;go_wp2;go_end0;exact⟨(zj.refl _ _).fg,aF ⟨rfl,a⟩⟩
  have a:¬pg k:=λg=>by obtain⟨x,_⟩|⟨_,x⟩:=d.o.1 g;exact h x;grind
  have o:¬(st k.eS).toList=(st k.bJ).toList:=by rw[xl,xl];exact m
  have c:((st k.eS).toList==(st k.bJ).toList)=ao:=by rw[jf];exact o
  go_wp2;go_quiet (fail);go_wp2;go_quiet (fail);go_wp2;refine(Jw _ à _<|j.fg (n:=_)).mono ?_;rintro e w1⟨rfl,rfl⟩;exact⟨rfl,(zj.refl _ _).fg,aE ⟨rfl,a⟩⟩
 have a:¬pg k:=λg=>by obtain⟨x,_⟩|⟨x,_⟩:=d.o.1 g;exact h x;omega
 go_wp2;go_quiet (fail);go_wp2;go_quiet (fail);go_wp2;refine(Jw _ à _<|j.fg (n:=_)).mono ?_;rintro e w1⟨rfl,rfl⟩;exact⟨rfl,(zj.refl _ _).fg,aE ⟨rfl,a⟩⟩
def Bp(k:Lk)(n:Int):Bool:=bI (n=0)||(bI (n=k.fQ)||(bI (k.bE<n)&&bI (n<=k.aP)))
def xcl(b k n w)(a:Jh w b k):aG prog 110 #[zo b,zi n] w λe w'=>e=ah (aX<|Bp k n)/\w'=w:=by
 have d:ae w (zq b 11)=ac (zi k.bE):=a.i 11 rfl;have f:ae w (zq b 12)=ac (zi k.aP):=a.i 12 rfl;have g:ae w (zq b 14)=ac (zi k.fQ):=a.i 14 rfl;have c:aK<|∀n,Bp k n=(bI (n=0)||(bI (n=k.fQ)||(bI (k.bE<n)&&bI (n<=k.aP)))):=λ_=>rfl;generalize k.bE=ba at*;generalize k.aP=la at*;generalize k.fQ=sn at*;go_enter func110.1,Tryz.ntmps110;by_cases h:ba<n<;>by_cases i:n<=la<;>by_cases j:n=0<;>by_cases l:n=sn
 all_goals
  go_wp2;go_ret;refine⟨?_,rfl⟩;rw[c.o];refine congrArg ah<|congrArg aX ?_;grind
def Rf.cO(C:Nat)(f:Rf)(x:Nat):Prop:=x=C\/f.fv.ownBlock=ac x\/f.sv.ownBlock=ac x\/f.pv.ownBlock=ac x
structure Xf(C:Nat)(f:Rf)(w:Zy)(f':Rf)(w':Zy):Prop where
 y:zj (f.cO C) w w'
 dS:Ju w' C f'
 cO:∀x,f'.cO C x->f.cO C x\/ak w.heap<=x
theorem Xf.refl{C f w}(h:Ju w C f):Xf C f w f w:=⟨zj.refl _ _,h,λ_=>aF⟩
def Rw.gH{w e k g v}{l:List α}{C cs}{t:Zt}(h:Rw w e k g v l)(i:xh w C cs t)(m:t≠e):∀x,v.ownBlock=ac x->¬x=C:=by rintro x a rfl;obtain⟨e,_⟩|⟨b,c,d,f,_,j,_⟩:=h.2;rw[e]at a;cases a;rw[f]at a;cases a;grind [xh]
def Rw.eF{α β:Type}{w e e' k k' f f' v v'}{l:List α}{l':List β}(h:Rw w e k f v l)(d:Rw w e' k' f' v' l')(g:e≠e'){x}(hx:v.ownBlock=ac x):¬v'.ownBlock=ac x:=by intro m;obtain⟨q,_⟩|⟨b,a,c,j,_,i,_⟩:=h.2;rw[q]at hx;cases hx;rw[j]at hx;cases hx;exact d.gH i g b m rfl
theorem Xf.H{C:Nat}{f f':Rf}{w:Zy}(h:Ju w C f)(i:Nat)(v:Zv)(j:f'.G=ay f.G i v)(c:f'.F=f.F)(e:f'.L=f.L)(g:f'.P=f.P)(a:f'.fv=f.fv/\f'.sv=f.sv/\f'.pv=f.pv:=by exact⟨rfl,rfl,rfl⟩):Xf C f w f'<|ai w (zq C i) v:=by
 have b:=zj.H w (zq C i) v;refine⟨b.W λx d=>aF d,⟨j▸h.bO.H i v, ?_, ?_, ?_,by rw[c,a.1];exact h.fn⟩,λx d=>aF ?_⟩;rw[c,a.1];exact h.fs.y b (h.fs.gH h.bO Ã);rw[e,a.2.1];exact h.ss.y b (h.ss.gH h.bO Ã);rw[g,a.2.2];exact h.ps.y b<|h.ps.gH h.bO Ã
 grind [Rf.cO]
def xhx(C f w)(h:Ju w C f):aG prog 88 #[zo C] w λe w'=>e=ah (zi (if f.gA then 0 else 5))/\Xf C f w {f with gA:=ao} w':=by
 have a:ae w (zq C 11)=ac (aX f.gA):=h.bO.i 11 rfl;have g:=h.bO.dG 11;have b:=h;have d:Xf C f w {f with gA:=ao}<|ai w (zq C 11)<|aX ao:=Xf.H b 11 _ rfl rfl rfl rfl;cases ho:f.gA
 ·rw[ho]at a;have c:aK<|{f with gA:=ao}=f:=by show _=_;rw[<-ho]
  go_enter func88.1,Tryz.ntmps88;go_wp2;go_ret;exact⟨rfl,by rw[c.o];exact .refl b⟩
 rw[ho]at a;go_enter func88.1,Tryz.ntmps88;go_wp2;go_ret;exact⟨rfl,d⟩
theorem Xf.aA{C f b f2 w w1 d}(h:Xf C f w b w1)(k:Xf C b w1 f2 d):Xf C f w f2 d:=
 ⟨⟨k.y.os.trans h.y.os,k.y.cM.trans h.y.cM,xa h.y.J k.y.J,λx a c=>(k.y.dB x (zm a h.y.J) λe=>(h.cO x e).elim c λ_=>À).trans<|h.y.dB x a c⟩,k.dS,λx a=>(k.cO x a).elim (h.cO x) λq=>aE (xa h.y.J q)⟩
def Xf.nw{C f w w'}(h:Ju w C f)(k:Nw w w'):Xf C f w f w':=⟨k.W λ_=>dI,h.y k,λ_=>aF⟩
def Xf.iy{C f w W i v P}(h:Ju w C f)(n:Nw w W)(r:Rw i 147 3 rI v P)(b:zj (λy=>f.pv.ownBlock=ac y) W i)(m:∀g,v.ownBlock=ac g->f.pv.ownBlock=ac g\/ak w.heap<=g):Xf C f w {f with pv:=v,P:=P}<|ai i (zq C 13) v:=by have H:=h.y n;have c:=H.bO.y b λe=>H.ps.gH H.bO Ã _ e rfl;have d:=zj.H i (zq C 13) v;have k:=H.fs.y b λg j=>H.fs.eF H.ps Ã j;have l:=H.ss.y b λg j=>H.ss.eF H.ps Ã j;refine⟨(n.W λ_=>dI).aA<|(b.W λx a=>aE (aE<|aE a)).aA<|d.W λx a=>aF a,⟨c.H 13 v,k.y d<|k.gH c Ã,l.y d<|l.gH c Ã,r.y d<|r.gH c Ã,h.fn⟩,λx a=>?_⟩;obtain a|a|a|a:=a;exact aF<|aF a;exact aF<|aE<|aF a;exact aF<|aE<|aE<|aF a;exact(m x a).imp (λe=>aE (aE<|aE e)) id
def xhy(C a t)(h:a<0\/t<0)(w):aG prog 90 #[zo C,zi a,zi t] w λe w'=>e=ah (zi 3)/\w'=w:=by
 by_cases b:a<0
 ·clear h;go_enter func90.1,Tryz.ntmps90;go_wp2;go_ret;simp
 have c:t<0:=À
 go_enter func90.1,Tryz.ntmps90;go_wp2;go_ret;simp
def xh0(C f a t)(n:0<=a)(o:0<=t)(w)(h:Ju w C f):aG prog 90 #[zo C,zi a,zi t] w λe w'=>e=ah (zi 0)/\Xf C f w {f with mz:=aw,jN:=a,cE:=t} w':=by have k:=h.bO.dG 4;have l:=h.bO.dG 5;have m:=h.bO.dG 6;have g:ae w (zq C 4)=ac (aX f.mz):=h.bO.i 4 rfl;have i:ae w (zq C 5)=ac (zi f.jN):=h.bO.i 5 rfl;have j:ae w (zq C 6)=ac (zi f.cE):=h.bO.i 6 rfl;have b:=Xf.H (f':={f with mz:=aw}) h 4 _ rfl rfl rfl rfl;have c:=b.aA<|Xf.H (f':={f with mz:=aw,jN:=a}) b.dS 5 _ rfl rfl rfl rfl;have d:=c.aA<|Xf.H (f':={f with mz:=aw,jN:=a,cE:=t}) c.dS 6 _ rfl rfl rfl rfl;go_enter func90.1,Tryz.ntmps90;go_wp2;go_ret;exact⟨rfl,d⟩
def Rf.dH(f:Rf)(c:Vk)(a:Int)(f':Rf):Prop:=
 if f.gA=ao then a=5/\f'=f else if(nh (cK c)&&q8 (cV c))=ao then a=6/\f'=f else if aa f.P=20 then a=7/\f'=f else a=0/\∃v,f'={f with pv:=v,P:=f.P++[c]}
def T'(C:Nat)(f:Rf)(c:Vk)(w:Zy)(e:kU)(w':Zy):Prop:=∃a f',e=ah (zi a)/\Xf C f w f' w'/\f.dH c a f'
theorem xbx(C f c w)(h:Ju w C f)(hP:aa f.P<=20):aG prog 81 #[zo C,bM (aV (rI c))] w<|T' C f c w:=by
 obtain⟨m,o,J⟩:=h.ps.dC;have j:=J;have a:=h;have d:Nw w<|aB w<|aq #[aX<|cG c,zs<|cK c,zs<|cV c] 147:=zj.E _;have X0:xh (aB w<|aq #[aX<|cG c,zs<|cK c,zs<|cV c] 147) (ak w.heap) #[aX<|cG c,zs<|cK c,zs<|cV c] 147:=xh.dT _ _ _;have hC:=h.bO.lt;have n:ae w (zq C 11)=ac (aX f.gA):=h.bO.i 11 rfl;have c13:ae w (zq C 13)=ac (az m (aa f.P) o):=J▸h.bO.i 13 rfl;unfold rI;cases ho:f.gA
 ·rw[ho]at n;have b:f.dH c 5 f:=by show Rf.dH _ _ _ _;unfold Rf.dH;rw[if_pos ho];exact⟨rfl,rfl⟩
  go_enter func81.1,kX;go_wp2;go_ret;exact⟨5,f,rfl,.nw a d,b⟩
 rw[ho]at n;have k1:(nh (cK c)&&q8 (cV c))=bI ((0<aa (cK c)/\aa (cK c)<=16)/\aa (cV c)<=32):=by simp[nh,q8]
 by_cases hk:(0<aa (cK c)/\aa (cK c)<=16)/\aa (cV c)<=32;rotate_left
 ·have b:f.dH c 6 f:=by show Rf.dH _ _ _ _;unfold Rf.dH;rw[if_neg Ĭ,if_pos Â];exact⟨rfl,rfl⟩
  by_cases z:aa (cK c)=0
  ·have B:((aa (cK c):Int)==0)=aw:=by simp[z]
   go_enter func81.1,kX;go_wp2;go_ret;exact⟨6,f,rfl,.nw a d,b⟩
  have B:((aa (cK c):Int)==0)=ao:=è
  by_cases W:(16:Int)<(aa (cK c):Nat)
  ·clear hk z;go_enter func81.1,kX;go_wp2;go_ret;exact⟨6,f,rfl,.nw a d,b⟩
  have X:(32:Int)<(aa (cV c):Nat):=À
  go_enter func81.1,kX;go_wp2;go_ret;exact⟨6,f,rfl,.nw a d,b⟩
 have z:((aa (cK c):Int)==0)=ao:=è
 have W:¬(16:Int)<(aa (cK c):Nat):=À
 have X:¬(32:Int)<(aa (cV c):Nat):=À
 by_cases s:aa f.P=20
 ·have b:f.dH c 7 f:=by show Rf.dH _ _ _ _;unfold Rf.dH;rw[if_neg Ĭ,if_neg Â,if_pos s];exact⟨rfl,rfl⟩
  have Y:(20:Int)<=(aa f.P:Nat):=À
  go_enter func81.1,kX;go_wp2;go_ret;exact⟨7,f,rfl,.nw a d,b⟩
 have b:∀v,f.dH c 0 {f with pv:=v,P:=f.P++[c]}:=λv=>by grind [Rf.dH]
 have Y:¬(20:Int)<=(aa f.P:Nat):=À
 go_enter func81.1,kX;go_wp2;have D:=a.y d;generalize aB w (aq #[aX<|cG c,zs<|cK c,zs<|cV c] 147)=w1 at*;have p:Nw w1 (aB w1<|aq #[aX<|cG c,zs<|cK c,zs<|cV c] 147).drew:=(zj.E _).U;have Q:xh (aB w1<|aq #[aX<|cG c,zs<|cK c,zs<|cV c] 147).drew (ak w1.heap) #[aX<|cG c,zs<|cK c,zs<|cV c] 147:=xh.dT w1 _ _;have E:=D.y p;have O:Rw (aB w1<|aq #[aX<|cG c,zs<|cK c,zs<|cV c] 147).drew 147 3 rI (az m (aa f.P) o) f.P:=j▸E.ps;have G:∀k,Nw w1 k->ae k (zq C 13)=ac (az m (aa f.P) o)/\ae k (zq (ak w.heap) 0)=ac (aX<|cG c)/\ae k (zq (ak w.heap) 1)=ac (zs<|cK c)/\ae k (zq (ak w.heap) 2)=ac (zs<|cV c):=λk h=>⟨j▸(D.y h).bO.i 13 rfl,(X0.y h id).i 0 rfl,(X0.y h id).i 1 rfl,(X0.y h id).i 2 rfl⟩;have Z:=G _<|zj.refl _ _;have S1:=G _ p;have U:∀u∈rI c,u.oneCell'=aw:=by intro u I;simp[rI]at I;obtain rfl|rfl|rfl:=I<;>rfl
 have L:∀y,(az m (aa f.P) o).ownBlock=ac y->¬y=C/\y<ak w.heap:=λy x=>by rw[<-j]at x;exact⟨a.ps.gH a.bO Ã y x,(a.ps.lt y x).2⟩
 go_region_law (first|(refine Rw.pW MN c O À Q rfl rfl U rfl rfl rfl rfl ?_;intro H i K T S t;have r:=T;have l:=S;have q:=t;have F:=E.bO.y l λe=>(L _ e).1 rfl;have R:=F.dG 13;have c13:ae K (zq C 13)=ac (az m (aa f.P) o):=j▸F.i 13 rfl));all_goals
  have M:Xf C f w {f with pv:=az (ac ⟨H,0,ar⟩) (aa f.P+1) i,P:=f.P++[c]}<|ai K (zq C 13)<|az (ac ⟨H,0,ar⟩) (aa f.P+1) i:=Xf.iy a (d.aA p) r (by rw[j];exact l) λg V=>by cases V;rw[j];exact q.imp id λe=>by rw[e];exact(d.aA p).J
  go_wp2;go_ret;exact⟨0,_,rfl,M,b _⟩
def Rf.ib(f:Rf)(key:Zl):Zl×Int:=
 if f.gA=ao then([],5)else if nh key=ao then([],6)else match Xg f.gc key with
  |some v=>(v,0)|none=>([],8)
def xik{L:KV}{k}(h:k<aa L)(n):Xg (L.drop k) n=if n=L[k].1 then ac L[k].2 else Xg (L.drop<|k+1) n:=by rw[Zx h];rfl
theorem xrm(C f key w)(h:Ju w C f)(F:aa f.L<=200000000000)(E:aa f.P<=20):aG prog 82 #[zo C,zs key] w λe w'=>e=ah (bU #[aj<|st (f.ib key).1,aH aU (f.ib key).2])/\Nw w w':=by
 have d:ae w (zq C 11)=ac (aX f.gA):=h.bO.i 11 rfl;have z:=h;have o:=MT f.P f.L;cases ho:f.gA
 ·rw[ho]at d;have b:aK<|f.ib key=([],5):=by show _=_;unfold Rf.ib;rw[if_pos ho]
  rw[b.o];go_enter func82.1,Tryz.ntmps82;go_wp2;go_ret2;exact⟨rfl,zj.refl _ _⟩
 rw[ho]at d;have J:nh key=bI (0<aa key/\aa key<=16):=rfl;by_cases hk:0<aa key/\aa key<=16;rotate_left
 ·have b:aK<|f.ib key=([],6):=by show _=_;unfold Rf.ib;rw[if_neg Ĭ,if_pos Â]
  rw[b.o];by_cases s:aa key=0
  ·have p:((aa key:Int)==0)=aw:=by simp[s]
   go_enter func82.1,Tryz.ntmps82;go_wp2;go_ret2;exact⟨rfl,zj.refl _ _⟩
  have p:((aa key:Int)==0)=ao:=è
  have H:(16:Int)<(aa key:Nat):=À
  go_enter func82.1,Tryz.ntmps82;go_wp2;go_ret2;exact⟨rfl,zj.refl _ _⟩
 have b:aK<|f.ib key=match Xg f.gc key with|some v=>(v,0)|none=>([],8):=by show _=_;unfold Rf.ib;rw[if_neg Ĭ,if_neg Â]
 have s:((aa key:Int)==0)=ao:=è
 have H:¬(16:Int)<(aa key:Nat):=À
 go_enter func82.1,Tryz.ntmps82;go_wp2;refine(MV C f _ z F E).mono ?_;rintro e w1⟨v,rfl,c,r,-⟩;obtain⟨a,D,rfl⟩:=r.dC;have q:=c;have B:=r;have o:aa f.gc<=300000000000:=by unfold Rf.gc;omega
 generalize f.gc=L at*;go_wp2;go_loopw [7] (λi wr=>∃k:Nat,k<=aa L/\i=zi k/\aK (Xg L key=Xg (L.drop k) key)/\wr=w1) (λi _=>bB (aa L-bP i))
 case atStart=>exact⟨0,À,rfl,rfl,rfl⟩
 case round=>
  obtain⟨k,hk,rfl,m,rfl⟩:=hrel;by_cases l:k<aa L
  ·obtain⟨g,rfl,n⟩:=B.kq (λ_=>rfl) l rfl;have e0:ae wr (zq g<|k*2)=ac (aj<|st L[k].1):=n 0 À;have I:ae wr (zq g<|k*2+1)=ac (aj<|st L[k].2):=n 1 À;have hd:=m.o.trans<|xik l key;have G:(k:Int)<(aa L:Nat):=by omega
   have j:((st L[k].1).toList==(st key).toList)=bI (L[k].1=key):=by rw[xl,xl];by_cases h:L[k].1=key<;>simp[h]
   clear n m;by_cases c:L[k].1=key
   ·rw[if_pos c.symm]at hd;rw[hd]at b;rw[jm c]at j;generalize L[k].1=x at*;generalize L[k].2=y at*;go_wp2;go_ret2;exact⟨â,q⟩
   have t:aK<|Xg L key=Xg (L.drop<|k+1) key:=by show _=_;rw[hd,if_neg<|Ne.symm c]
   rw[jo c]at j;generalize L[k].1=x at*;generalize L[k].2=y at*;go_wp2;go_roundw
   case rel=>exact⟨k+1,À,Å,t,trivial⟩
   grind [bP]
  obtain rfl:k=aa L:=À
  have G:¬((aa L:Nat):Int)<(aa L:Nat):=À
  rw[Vl]at m;rw[m.o]at b;go_wp2;go_ret2;exact⟨â,q⟩
abbrev ug(F:Xv):Prop:=F.Pairwise λa b=>a.1<b.1
def nB(p:Int×(Zl×Int)):Bool:=!p.2.1.isEmpty
def zT(p):∀u∈lp p,u.oneCell'=aw:=by intro u a;simp[lp]at a;obtain rfl|rfl|rfl:=a<;>rfl
def Xf.gY{C f w W v O}(h:Ju w C f)(o:eD w W 159 3 lp v O):Xf C f w {f with fv:=v,F:=O}<|ai W (zq C 3) v:=by have H:=h.y o.nw;have b:=zj.H W (zq C 3) v;refine⟨(o.nw.W λ_=>dI).aA<|b.W λx a=>aF a,⟨H.bO.H 3 v,o.rw.y b<|o.rw.gH H.bO Ã,H.ss.y b<|H.ss.gH H.bO Ã,H.ps.y b<|H.ps.gH H.bO Ã,o.nl⟩,λx a=>?_⟩;obtain a|a|a|a:=a;exact aF<|aF a;exact aE<|o.dT x a;exact aF<|aE<|aE<|aF a;exact aF<|aE<|aE<|aE a
def Rw.uf{w e k g n c f A B}{p:α}(h:Rw w e k f (az (ac ⟨g,0,ar⟩) n c) (A++p::B))(b:∀a,aa (f a)=k)(j)(o:j<k):ae w (zq g<|aa A*k+j)=(f p)[j]?:=by obtain⟨d,m,l⟩:=h.kq b (i:=aa A) Ä rfl;grind
theorem Rw.bO{w e k g n c f}{l:List α}(h:Rw w e k f (az (ac ⟨g,0,ar⟩) n c) l):∃cur,xh w g cur e/\cur.toList.take (aa l*k)=l.flatMap f:=by obtain⟨q,_⟩|⟨b,a,cur,j,_,d,_,_,_,i⟩:=h.2;cases q;cases j;exact⟨cur,d,i⟩
def Rw.dG{w e k g n c f}{l:List α}(h:Rw w e k f (az (ac ⟨g,0,ar⟩) n c) l)(i):aQ w (zq g i)=ao:=by obtain⟨a,b,_⟩:=h.bO;exact b.dG i
def yk{f:α->Ze}{k}(b:∀a,aa (f a)=k):∀l:List α,aa (l.flatMap f)=aa l*k
 |[]=>by simp|a::l=>by rw[Wi,zx,b,yk b l,xg,Nat.add_mul];omega
def eD.ES{w0 w e g n c f A B}{p q:α}{a b d}(h:eD w0 w e 3 f (az (ac ⟨g,0,ar⟩) n c) (A++p::B))(D:f q=[a,b,d])(j:∀a,aa (f a)=3):eD w0 (ai (ai (ai w (zq g<|aa A*3) a) (zq g<|aa A*3+1) b) (zq g<|aa A*3+2) d) e 3 f (az (ac ⟨g,0,ar⟩) n c) (A++q::B):=by
 obtain⟨q,_⟩|⟨F,o,i,E,t,v,G,r,H,k⟩:=h.cO.2;cases q;cases E;have s:xh w g i e:=v;have l:=((s.H (aa A*3) a).H (aa A*3+1) b).H (aa A*3+2) d;have m:=((zj.H w (zq g<|aa A*3) a).aA<|zj.H _ (zq g<|aa A*3+1) b).aA<|zj.H _ (zq g<|aa A*3+2) d;obtain⟨x,y,z,C⟩:∃x y z,f p=[x,y,z]:=match f p,j p with
  |[x,y,z],_=>⟨x,y,z,rfl⟩
 refine⟨h.nw.gl m λy I=>Â,⟨?_,aE ⟨g,c,_, ?_,t,l, ?_,r,Â, ?_⟩⟩,λe=>į⟩;rw[yk j];simp;grind;simp only[Array.toList_setIfInBounds,List.take_set];simp only[zx,xg]at k⊢;rw[k,Wz,Wi,Wz,Wi,D,C,<-yk j A];grind
def Us{A B p}(e:ug<|A++B)(c:∀a∈A,a.1<p.1)(d:∀b∈B,p.1<b.1):ug (A++p::B):=by grind [Xw]
def Ur{A B X}{p:Int×(Zl×Int)}(h:(A++B).Perm X):(A++p::B).Perm<|X++[p]:=
 List.perm_middle.trans ((h.cons p).trans (List.perm_append_singleton p X).symm)
def MW(C f l lv w)(h:Ju w C f)(hr:Rw w 159 3 lp lv l)(U:(l.map (·.1)).Nodup)(bg:aa l<=999999):aG prog 196 #[aR<|some ⟨C,0,ar⟩,lv] w λe w'=>e=ah (bU #[])/\∃v F',Xf C f w {f with fv:=v,F:=F'} w'/\F'.Perm (l.filter nB)/\ug F':=by
 obtain⟨a,bi,rfl⟩:=hr.dC;have HH:=h;have HR:=hr;have HN:=U;go_enter func196.1,Tryz.ntmps196;go_wp2;go_loopw [4,5] (λv i wr=>∃(j:Nat) (O:Xv),j<=aa l/\i=aH aU j/\eD w wr 159 3 lp v O/\O.Perm ((l.take j).filter nB)/\ug O) (λ_ i _=>bB (aa l-bP i))
 case atStart=>exact⟨0,[],À,rfl,eD.nil _,List.Perm.refl _,iN⟩
 case round=>
  obtain⟨j,O,hj,rfl,ho,hp,hs⟩:=hrel;have M:=ho;have I:=hp;have Q:=hs;by_cases T:j<aa l
  ·have i1:(j:Int)<(aa l:Nat):=by omega
   obtain⟨g,rfl,L⟩:=HR.kq (λ_=>rfl) T rfl;have HQ:∀w',Nw w w'->ae w' ⟨g,j*3,ar⟩=ac (aH aU l[j].1)/\ae w' ⟨g,j*3+1,ar⟩=ac (aj<|st l[j].2.1)/\ae w' ⟨g,j*3+2,ar⟩=ac (aH aU l[j].2.2):=λw' hw=>⟨hw.i id<|L 0 À,hw.i id<|L 1 À,hw.i id<|L 2 À⟩;have K:aK<|(l.take<|j+1).filter nB=(l.take j).filter nB++if nB l[j]then [l[j]]else []:=by show _=_;rw[zp T,Yu];congr 1;simp[GC]
   have r:=HQ _ M.nw;have S:((aa l[j].2.1:Int)==0)= !nB l[j]:=by
    unfold nB;cases l[j].2.1<;>simp
    omega
   have bq:aa O<=999999:=by have h1:=I.length_eq;have R:=J0 nB<|l.take j;rw[xf]at R;omega
   obtain⟨⟨o,E,D⟩,bc⟩:∃p,l[j]=p:=⟨_,rfl⟩;rw[bc]at HQ K S r;have W:∀x∈O,x.1≠o:=λx hx e=>by obtain⟨i,hi,rfl⟩:=List.mem_iff_getElem.1 (Ja.1<|I.mem_iff.1 hx).1;rw[xf]at hi;rw[List.getElem_take]at e;have R:=(List.getElem_inj (xs:=l.map (·.1)) (i:=i) (j:=j) (h₀:=Â) (h₁:=Â) HN).1 Â;omega
   cases hf:nB (o,E,D)with
   |false=>
    rw[hf]at S K;go_wp2;go_roundw
    case rel=>exact⟨j+1,O,À,Å,M,by rw[K.o];simpa using I,Q⟩
    case measure=>simp[bP];omega
   |true=>
    rw[hf]at S K;simp only[if_true]at K;go_wp2_with (refine eD.iB zU (o,E,D) M À rfl rfl (zT _) rfl rfl rfl rfl ?_);intro s y w3 bb;have X:=bb;go_wp2;go_loopw [6] (λk wq=>∃A B:Xv,k=aH aU (aa A:Nat)/\A++B=O/\(∀q∈B,o<q.1)/\eD w wq 159 3 lp (az (ac ⟨s,0,ar⟩) (aa O+1) y) (A++(o,E,D)::B)) (λk _=>bB (bP k))
    case atStart=>exact⟨O,[],Å,Ä,Ä,X⟩
    case round=>
     obtain⟨A,B,rfl,Z,hB,ho⟩:=hrel;have c:=ho;have b:=Z;have V:=hB;obtain rfl|⟨t,q,rfl⟩:=List.eq_nil_or_concat A
     ·have k1:¬(0:Int)<((0:Nat):Int):=by omega
      rw[qj]at b c;go_wp2;go_quiet (fail);have d:eD w (wr.drewN nq) 159 3 lp _ _:=c.gl (zj.refl _ _).eg;generalize wr.drewN nq=w5 at*;go_wp2;go_roundw
      case rel=>exact⟨j+1,(o,E,D)::B,À,Å,d,by rw[K.o];exact Ur (A:=[])<|by rw[qj,b];exact I,Us (A:=[]) (by rw[qj,b];exact Q) Ä V⟩
      case measure=>simp[bP];omega
     have ba:=congrArg aa b;simp only[List.concat_eq_append,zx,xg,qy,j7]at ba c b⊢;rw[jq,Vz]at c;obtain⟨⟨z,H,G⟩,rfl⟩:∃x,x=q:=⟨_,rfl⟩;have J:Rw wr 159 3 lp (az (ac ⟨s,0,ar⟩) (aa O+1) y) ((t++[(z,H,G)])++(o,E,D)::B):=by rw[jq];exact c.rw
     have p0:ae wr ⟨s,(aa t+1)*3,ar⟩=ac (aH aU o):=by simpa[lp]using J.uf (λ_=>rfl) 0 À
     have p1:ae wr ⟨s,(aa t+1)*3+1,ar⟩=ac (aj<|st E):=by simpa[lp]using J.uf (λ_=>rfl) 1 À
     have p2:ae wr ⟨s,(aa t+1)*3+2,ar⟩=ac (aH aU D):=by simpa[lp]using J.uf (λ_=>rfl) 2 À
     have q0:ae wr ⟨s,aa t*3,ar⟩=ac (aH aU z):=c.rw.uf (λ_=>rfl) 0 À;have q1:ae wr ⟨s,aa t*3+1,ar⟩=ac (aj<|st H):=c.rw.uf (λ_=>rfl) 1 À;have q2:ae wr ⟨s,aa t*3+2,ar⟩=ac (aH aU G):=c.rw.uf (λ_=>rfl) 2 À;generalize U:aa t=n at*;have k1:(0:Int)<((n+1:Nat):Int):=À
     have k2:((n+1:Nat):Int)<((aa O+1:Nat):Int):=À
     by_cases bh:o<z
     ·go_wp2;go_quiet (fail);have d:eD w (wr.drewN nq) 159 3 lp _ _:=c.gl (zj.refl _ _).eg;replace p0:ae (wr.drewN nq) _=_:=p0;replace p1:ae (wr.drewN nq) _=_:=p1;replace p2:ae (wr.drewN nq) _=_:=p2;replace q0:ae (wr.drewN nq) _=_:=q0;replace q1:ae (wr.drewN nq) _=_:=q1;replace q2:ae (wr.drewN nq) _=_:=q2;generalize wr.drewN nq=w5 at*;have m:∀i,aQ w5 ⟨s,i,ar⟩=ao:=d.rw.dG;have bj:=m<|(n+1)*3;have bk:=m<|(n+1)*3+1;have bl:=m<|(n+1)*3+2;have bm:=m<|n*3;have bn:=m<|n*3+1;have bo:=m<|n*3+2;have bp:s<ak w5.heap:=by obtain⟨_,S,_⟩:=d.rw.bO;exact S.lt
      have bf:¬s=ak w5.heap:=À
      have be:¬ak w5.heap=s:=À
      clear m;go_wp2;refine⟨⟨t,(z,H,G)::B,by rw[U],by rw[<-b,jq];rfl,λq L=>?_, ?_⟩, ?_⟩;obtain rfl|L:=jc.1 L;omega;exact V q L;have o1:eD w w5 159 3 lp (az (ac ⟨s,0,ar⟩) (aa O+1) y) ((t++[(z,H,G)])++(o,E,D)::B):=by rw[jq];exact d
      have o2:=o1.ES (q:=(z,H,G)) rfl λ_=>rfl;rw[jq,Vz,zx,U]at o2;have o3:=o2.ES (q:=(o,E,D)) rfl λ_=>rfl;rw[U]at o3;exact o3.gl<|zj.E _;simp[bP]
     go_wp2;go_quiet (fail);have d:eD w (wr.drewN nq) 159 3 lp _ _:=c.gl (zj.refl _ _).eg;have Y:∀a∈t++[(z,H,G)],a.1<o:=λa ha=>by
      have h1:z<o:=by have:=W (z,H,G) (by rw[<-b];simp);omega
      obtain h|h:=je.1 ha;have R:=Q;rw[<-b]at R;have h3:=(Y3.1 (Y3.1 R).1).2.2 a h (z,H,G) Ä;omega;simp_all
     generalize wr.drewN nq=w5 at*;clear p0 p1 p2 q0 q1 q2;go_wp2;go_roundw
     case rel=>exact⟨j+1,t++[(z,H,G)]++(o,E,D)::B,À,Å,by rw[jq];exact d,by rw[K.o];exact Ur<|by rw[b];exact I,Us (by rw[b];exact Q) Y V⟩
     case measure=>simp[bP];omega
  obtain rfl:j=aa l:=À
  have i1:¬(aa l:Int)<(aa l:Nat):=À
  rw[jz]at I;obtain⟨a4,bd,rfl⟩:=M.dC;have HE:=Xf.gY HH M;have A:=HH.y M.nw;have c3:ae wr ⟨C,3,ar⟩=ac f.fv:=A.bO.i 3 rfl;have f3:=A.bO.dG 3;clear A;go_wp2;go_end0;exact⟨rfl,_,O,HE,I,Q⟩
end
end
section
attribute [local go_sem] zn zg te
def qD(t:Int)(p:Int×(Zl×Int)):Int×(Zl×Int):=(p.1,(p.2.1.take (bB (Wx t p.2)),Wx t p.2))
def Rf.cQ(f:Rf):Bool:=f.mz&&bI (f.jN<=0)
def Rf.dR(f:Rf):Rf:=if f.mz=aw then {f with jN:=f.jN-1}else f
def Iq(C:Nat)(f:Rf)(w w':Zy):Prop:=∃v F',Xf C f w {f with mz:=ao,gA:=ao,fv:=v,F:=F'} w'/\F'.Perm ((f.F.map<|qD f.cE).filter nB)/\ug F'
structure EW(C:Nat)(f:Rf)(w:Zy)(e:kU)(w':Zy):Prop where
 go:f.cQ=ao->e=ah (aX aw)/\Xf C f w f.dR w'
 cr:f.cQ=aw->e=ah (aX ao)/\Iq C f w w'
def Ub(C f w)(h:Ju w C f)(hF:pB f.F)(hn:(f.F.map (·.1)).Nodup)(hl:aa f.F<=999999)(ht:0<=f.cE)(ha:f.jN<=9223372036854775807):aG prog 195 #[zo C] w<|EW C f w:=by
 have c4:ae w (zq C 4)=ac (aX f.mz):=h.bO.i 4 rfl;have c5:ae w (zq C 5)=ac (zi f.jN):=h.bO.i 5 rfl;have f4:=h.bO.dG 4;have f5:=h.bO.dG 5;have s:=h;cases hr:f.mz
 ·rw[hr]at c4;have Q:EW C f w (ah<|aX aw) w:=⟨λ_=>⟨rfl,by unfold Rf.dR;rw[if_neg<|by simp[hr]];exact .refl s⟩,λq=>(by simp[Rf.cQ,hr]at q)⟩;go_enter func195.1,Tryz.ntmps195;go_wp2;go_ret;exact Q
 rw[hr]at c4;by_cases h5:0<f.jN
 ·have Q:EW C f w (ah<|aX aw)<|ai w (zq C 5)<|zi<|f.jN-1:=⟨λ_=>⟨rfl,by unfold Rf.dR;rw[if_pos hr];exact Xf.H s 5 _ rfl rfl rfl rfl⟩,λq=>(by grind [Rf.cQ])⟩;generalize f.jN=q at*;go_enter func195.1,Tryz.ntmps195;go_wp2;go_ret;exact Q
 have HK:∀r,Iq C f w r->EW C f w (ah<|aX ao) r:=λr q=>⟨λx=>(by grind [Rf.cQ]),λ_=>⟨rfl,q⟩⟩;have r1:=Xf.H (f':={f with mz:=ao}) s 4 (aX ao) rfl rfl rfl rfl;have V:=r1.aA<|Xf.H (f':={f with mz:=ao,gA:=ao}) r1.dS 11 (aX ao) rfl rfl rfl rfl;have bc:ae w (zq C 11)=ac (aX f.gA):=s.bO.i 11 rfl;have bd:=s.bO.dG 11;obtain⟨a,Y,hv⟩:=s.fs.dC;have HV:=hv;have HF:=hF;have HN:=hn;go_enter func195.1,Tryz.ntmps195;go_wp2;generalize(ai w (zq C 4)<|aX ao).setCell (zq C 11) (aX ao)=w1 at*;go_loopw [3,4] (λv i wr=>∃j:Nat,j<=aa f.F/\i=zi j/\eD w1 wr 159 3 lp v ((f.F.take j).map<|qD f.cE)) (λ_ i _=>bB (aa f.F-bP i))
 case atStart=>grind [eD.nil]
 case round=>
  obtain⟨j,hj,rfl,ho⟩:=hrel;have l:=ho;have A:=V.dS.y ho.nw;have c3:ae wr (zq C 3)=ac (az a (aa f.F) Y):=HV▸A.bO.i 3 rfl;by_cases o:j<aa f.F
  ·have i1:(j:Int)<(aa f.F:Nat):=by omega
   obtain⟨g,rfl,M⟩:=A.fs.kq (λ_=>rfl) o HV;have e0:ae wr (zq g<|j*3)=ac (zi f.F[j].1):=M 0 À;have Z:ae wr (zq g<|j*3+1)=ac (aj<|st f.F[j].2.1):=M 1 À;have e2:ae wr (zq g<|j*3+2)=ac (zi f.F[j].2.2):=M 2 À;have hE:=HF _<|Xk o;have HT:aK<|(f.F.take<|j+1).map (qD f.cE)=(f.F.take j).map (qD f.cE)++[qD f.cE f.F[j]]:=by show _=_;rw[zp o,qz];rfl
   have n:ae wr (zq C 6)=ac (zi f.cE):=A.bO.i 6 rfl;clear M;obtain⟨⟨d,b,c⟩,D⟩:∃p,f.F[j]=p:=⟨_,rfl⟩;rw[D]at e0 Z e2 hE HT;simp only at e0 Z e2 hE;clear D;have hC:=A.bO.lt;go_wp2;have k:xh (aB wr<|aq #[zi d,zs b,zi c] 159) (ak wr.heap) #[zi d,zs b,zi c] 159:=xh.dT _ _ _;have y:Nw wr<|aB wr<|aq #[zi d,zs b,zi c] 159:=zj.E _;have H:ak wr.heap<ak (aB wr<|aq #[zi d,zs b,zi c] 159).heap:=k.lt;have be:aa ((f.F.take j).map<|qD f.cE)<=999999:=Æ
   generalize(f.F.take j).map (qD f.cE)=O at*;have U:∀r,Nw wr r->ae r (zq C 6)=ac (zi f.cE):=λr hw=>hw.i id n;clear c3 n e0 Z e2 hC;generalize hw2:aB wr (aq #[zi d,zs b,zi c] 159)=w2 at*;generalize ak wr.heap=B at*;have J:=k.i (v:=zi _) 0 rfl;have K:=k.i (v:=aj _) 1 rfl;have L:=k.i (v:=zi _) 2 rfl;have n:=U _ y;have bf:=hE.2;generalize htn:f.cE=tn at*;have W:=htn;clear htn;by_cases E:tn<(aa b:Int)-c;focus
    obtain⟨N,z⟩:∃N:Nat,c+tn=(N:Int):=⟨bB (c+tn),À⟩;have HL:aK<|Wx tn (b,c)=(N:Int):=ł
    have ba:N<=aa b:=À
    go_wp2;go_quiet (fail);have t:eD w1 (w2.drewN nq) 159 3 lp _ O:=(l.gl y).gl (zj.refl _ _).eg;have X3:xh (w2.drewN nq) B _ 159:=k;replace J:ae (w2.drewN nq) _=_:=J;replace K:ae (w2.drewN nq) _=_:=K;replace L:ae (w2.drewN nq) _=_:=L;replace n:ae (w2.drewN nq) _=_:=n;clear l k hw2 H y U;generalize w2.drewN nq=I at*;go_wp2;go_quiet (fail);have m:eD w1 (I.drewN nq) 159 3 lp _ O:=t.gl (zj.refl _ _).eg;have X:xh (I.drewN nq) B _ 159:=X3;try rw[z]
    clear t X3 J K L n;generalize I.drewN nq=w4 at*;clear E z
   rotate_left;focus
    obtain⟨N,z⟩:∃N:Nat,aa b=N:=⟨_,rfl⟩;have G:¬tn<(N:Int)-c:=À
    have HL:aK<|Wx tn (b,c)=(N:Int):=ł
    have ba:N<=aa b:=À
    go_wp2;go_quiet (fail);have m:eD w1 (w2.drewN nq) 159 3 lp _ O:=(l.gl y).gl (zj.refl _ _).eg;have X:xh (w2.drewN nq) B _ 159:=k;try rw[z]
    clear l k hw2 H y U J K L n;generalize w2.drewN nq=w4 at*;go_wp2;clear E z G
   all_goals
    have d0:=X.i (v:=zi _) 0 rfl;have d1:=X.i (v:=aj _) 1 rfl;have n1:(N:Int)<=(aa b:Nat):=À
    have hc:lp (qD tn (d,b,c))=[zi d,zs<|b.take N,zi N]:=by simp[lp,qD,HL.o]
    have HC:=hc;have T:eD w1 (aB w4<|aq #[zi d,zs<|b.take N,zi N] 159).drew 159 3 lp _ O:=m.gl (zj.E _).U;have XA:xh (aB w4<|aq #[zi d,zs<|b.take N,zi N] 159).drew (ak w4.heap) #[zi d,zs<|b.take N,zi N] 159:=xh.dT w4 _ _;clear hc m;go_wp2;go_region_law (first|(refine eD.pW zU (qD tn (d,b,c)) T À XA HC rfl (zT _) rfl rfl rfl rfl ?_;intro g3 bb w6 hR;have S:=hR;clear hR));all_goals
     go_wp2;go_roundw
     case rel=>exact⟨j+1,À,Å,by rw[W,HT.o];exact S⟩
     grind [bP]
  obtain rfl:j=aa f.F:=À
  have i1:¬(aa f.F:Int)<(aa f.F:Nat):=À
  rw[jz]at l;have HM:((f.F.map<|qD f.cE).map (·.1)).Nodup:=by show List.Nodup _;rw[Wj];exact HN
  have R:aa (f.F.map<|qD f.cE)<=999999:=by show _<=_;simpa using hl
  go_wp2;refine(MW C _ _ _ _ A l.rw HM R).mono ?_;rintro e I⟨rfl,v3,F3,h1,h2,h3⟩;have HX:EW C f w (ah<|aX ao) I:=HK _ ⟨v3,F3,(V.aA<|.nw V.dS l.nw).aA h1,h2,h3⟩;clear h1 h2 h3;go_wp2;go_ret;exact HX
end
section
attribute [local go_sem] zn zg
structure Ua(f:Rf):Prop where
 fV:pB f.F
 nd:(f.F.map (·.1)).Nodup
 gp:aa f.F<=900000
 cE:0<=f.cE
 jN:f.jN<=9223372036854775807
def Rf.vp(f:Rf):f.dR.F=f.F/\f.dR.fv=f.fv/\f.dR.cE=f.cE:=by grind [Rf.dR]
structure MM(C:Nat)(f:Rf)(n:Int)(x:Zl)(w:Zy)(e:kU)(w':Zy):Prop where
 go:f.cQ=ao->e=ah (aX aw)/\∃v F',Xf C f w {f.dR with fv:=v,F:=F'} w'/\F'.Perm ((f.F.filter (λp=>p.1 != n)++[(n,x,(aa x:Int))]).filter nB)/\ug F'
 cr:f.cQ=aw->e=ah (aX ao)/\Iq C f w w'
def xui(C f n x w)(h:Ju w C f)(hk:Ua f):aG prog 129 #[zo C,zi n,zs x] w<|MM C f n x w:=by
 have HH:=h;have l:=hk;go_enter func129.1,Tryz.ntmps129;go_wp2;refine(Ub C f _ HH l.fV l.nd (by have:=l.gp;omega) l.cE l.jN).mono ?_;rintro e w1 hs;cases hst:f.cQ;rotate_left
 ·obtain⟨rfl,K⟩:=hs.cr hst;have Q:MM C f n x w (ah<|aX ao) w1:=⟨λq=>Â,λ_=>⟨rfl,K⟩⟩;go_wp2;go_ret;exact Q
 obtain⟨rfl,K⟩:=hs.go hst;have I:=K;have Q:∀T,(∃v F',Xf C f w {f.dR with fv:=v,F:=F'} T/\F'.Perm ((f.F.filter (λp=>p.1 != n)++[(n,x,(aa x:Int))]).filter nB)/\ug F')->MM C f n x w (ah<|aX aw) T:=λT q=>⟨λ_=>⟨rfl,q⟩,λy=>Â⟩;obtain⟨a,R,hv⟩:=K.dS.fs.dC;have M:=hv;have hF:=f.vp;have m:=f.vp;have Z:=l.gp;rw[m.1]at M;go_wp2;go_loopw [8,9] (λv i wr=>∃j:Nat,j<=aa f.F/\i=zi j/\eD w1 wr 159 3 lp v ((f.F.take j).filter λp=>p.1 != n)) (λ_ i _=>bB (aa f.F-bP i))
 case atStart=>grind [eD.nil]
 case round=>
  obtain⟨j,hj,rfl,S⟩:=hrel;have H:=S;have A:=I.dS.y S.nw;have c3:ae wr (zq C 3)=ac (az a (aa f.F) R):=M▸A.bO.i 3 rfl;have D:=J0 (λp:Int×(Zl×Int)=>p.1 != n)<|f.F.take j;rw[xf]at D;clear S;by_cases B:j<aa f.F
  ·have i1:(j:Int)<(aa f.F:Nat):=by omega
   have k:j<aa f.dR.F:=by rw[m.1];exact B
   obtain⟨g,rfl,G⟩:=A.fs.kq (λ_=>rfl) k M;have z:f.dR.F[j]=f.F[j]:=by congr 1;exact m.1
   rw[z]at G;have e0:ae wr (zq g<|j*3)=ac (zi f.F[j].1):=G 0 À;have U:ae wr (zq g<|j*3+1)=ac (aj<|st f.F[j].2.1):=G 1 À;have V:ae wr (zq g<|j*3+2)=ac (zi f.F[j].2.2):=G 2 À;have o:((f.F.take<|j+1).filter λp=>p.1 != n)=((f.F.take j).filter λp=>p.1 != n)++if f.F[j].1 != n then [f.F[j]]else []:=by show _=_;rw[zp B,Yu];congr 1;simp[GC]
   clear G z k;obtain⟨⟨s,px,ps⟩,E⟩:∃p,f.F[j]=p:=⟨_,rfl⟩;rw[E]at e0 U V o;simp only at e0 U V o;clear E;generalize((f.F.take j).filter λp=>p.1 != n)=O at*;by_cases r:s=n
   ·have J:(s==n)=aw:=by simp[r]
    rw[show(s != n)=ao by simp[r]]at o;clear r;go_wp2;go_roundw
    case rel=>exact⟨j+1,À,Å,by rw[o];simpa using H⟩
    grind [bP]
   have J:(s==n)=ao:=by simp[r]
   rw[show(s != n)=aw by simp[r]]at o;clear r;go_wp2_with (refine eD.iB zU (s,px,ps) H À rfl rfl (zT _) rfl rfl rfl rfl ?_);intro g3 t w3 d;have c:=d;clear d;go_wp2;go_roundw
   case rel=>exact⟨j+1,À,Å,by rw[o];exact c⟩
   grind [bP]
  obtain rfl:j=aa f.F:=À
  have i1:¬(aa f.F:Int)<(aa f.F:Nat):=À
  rw[jz]at H D;have HM:((f.F.filter (λp=>p.1 != n)++[(n,x,(aa x:Int))]).map (·.1)).Nodup:=by show List.Nodup _;rw[qz,DY];refine⟨l.nd.sublist<|List.filter_sublist.map _,Ä,λa ha b J=>?_⟩;obtain⟨p,hp,rfl⟩:=Xe.1 ha;simp at J;rw[J];simpa using(Ja.1 hp).2
  have L:aa (f.F.filter (λp=>p.1 != n)++[(n,x,(aa x:Int))])<=999999:=by show _<=_;simp;omega
  go_wp2_with (refine eD.iB zU (n,x,(aa x:Int)) H À rfl rfl (zT _) rfl rfl rfl rfl ?_);intro g3 t w3 d;have c:=d;clear d;go_wp2;refine(MW C _ _ _ _ (I.dS.y c.nw) c.rw HM L).mono ?_;rintro e w4⟨rfl,v4,F4,W,X,Y⟩;have HE:=Q _ ⟨v4,F4,(I.aA<|.nw I.dS c.nw).aA W,X,Y⟩;clear W X Y;go_wp2;go_ret;exact HE
end
def Ui:∀(n:Nat) {k k':Lk} {L L':KV} {l r:Zl},qE n k L l=ac (k',L',r)->k.ok->k'.ok/\k'.mp=k.mp/\k'.aP=k.aP
 |0,k,k',L,L',l,r,h,hk=>by grind [qE]
 |n+1,k,k',L,L',l,r,h,hk=>by
  unfold qE at h;by_cases a:J5 l=aw;rw[if_pos a]at h;cases hr:Jv k L l with|none=>grind|some p=>obtain⟨i,L1⟩:=p;rw[hr]at h;obtain⟨b,c,d⟩:=Uh hr a hk;obtain⟨e,f,g⟩:=Ui n h b;grind
  grind
theorem Ug{k k' L L' num len whole}(h:Vd k L num len whole=ac (k',L'))(hk:k.ok):k'.ok/\k'.mp=k.mp/\k'.aP=k.aP:=by unfold Vd at h;split at h;split at h;simp only[xj,Ea]at h;obtain⟨rfl,_⟩:=h;exact⟨⟨hk.m,hk.ep,hk.bA,hk.dO⟩,rfl,rfl⟩;grind;grind
theorem xej{k k' L L' num x}(h:lQ k L num x=ac (k',L'))(hk:k.ok):k'.ok/\k'.mp=k.mp/\k'.aP=k.aP:=by unfold lQ at h;split at h;split at h;cases h;split at h;rename_i k1 L1 r hr;obtain⟨a,b,c⟩:=Ui _ (show qE _ k L (x.drop 9)=ac (k1,L1,r)from hr) hk;grind [Ug];grind;grind [Ug]
def mJ(fs:Nat->Zl)(n:Nat)(k:Lk)(L:KV):Nat->Option (Lk×KV)
 |0=>ac (k,L)
 |r+1=>match mJ fs n k L r with
  |some (k',L')=>lQ k' L' (n+r)<|fs<|n+r
  |none=>ar
def MQ{fs n k L}(hk:k.ok):∀(r:Nat) {k':Lk} {L':KV},mJ fs n k L r=ac (k',L')->k'.ok/\k'.mp=k.mp/\k'.aP=k.aP
 |0,k',L',h=>by grind [mJ]
 |r+1,k',L',h=>by unfold mJ at h;cases hr:mJ fs n k L r with|none=>grind|some p=>obtain⟨d,L1⟩:=p;rw[hr]at h;obtain⟨a,b,c⟩:=MQ hk r hr;grind [xej]
def Up{fs n r k k' L L'}(h:mJ fs n k L r=ac (k',L')):mJ fs n k L (r+1)=lQ k' L' (n+r) (fs<|n+r):=by rw[mJ,h]
def MR{fs n r k L}(h:mJ fs n k L r=ar):∀d,mJ fs n k L (r+d)=ar
 |0=>h|d+1=>by rw[<-D',mJ,MR h d]
structure oe(cv tv:Zv)(w:Zy):Prop where
 In:wE cv w
 T8:fU tv w
 vo:gG w
def oe.y{cv tv S w w'}(h:oe cv tv w)(a:zj S w w')(b:∀x,S x->4<x):oe cv tv w':=
 ⟨h.In.y a λx=>Â,h.T8.y a λx=>Â,h.vo.y a λx=>Â⟩
def oe.gX{cv tv w}(h:oe cv tv w):4<ak w.heap:=h.vo.gX
structure vq(B:Nat)(r:Sr):Prop where
 m:aa r.m=32
 bJ:aa r.bJ=32
 bA:r.bA<1000000
 op:r.op<1000000
 bS:0<=r.d.bS/\r.d.bS<=1000000
 gY:rY r.d.L
 MP:aa r.d.L<1000000
 nx:∀c,r.d.nx=ac c->jS c.2.1/\0<=c.2.2/\jS c.2.2
 cO:∀x,r.cO B x->4<x
 fW:∀s,r.sn=ac s->0<=s.aP/\s.aP<=1000000000000/\aa s.P<=20
def vq.MO{B r}(h:vq B r):iR r.D r.d:=⟨h.gY,h.nx,λx=>by have:=h.cO 0<|aE<|aF x;omega⟩
def Zd.fh{B r w w' d'}(h:Vq w B r)(b:zj (r.d.cO r.D) w w')(hd:Jt w' r.D d')(g:d'.M=r.d.M)(ho:∀x,d'.cO r.D x->r.d.cO r.D x):Zd B r w {r with d:=d'} w':=by refine⟨b.W λx a=>aE (aF a),⟨?_,hd,λs c=>?_⟩,λx a=>?_⟩;exact h.bO.y b h.ko;exact⟨(h.fW s c).1.y b λx a f=>h.eF c a f,by rw[g];exact(h.fW s c).2⟩;obtain e|e|e:=a;exact aF<|aF e;exact aF<|aE<|aF<|ho x e;exact aF<|aE<|aE e
theorem Dk.vn(d:Dk):d.eN.M=d.M:=by grind [Dk.eN]
def Dk.ni(d:Dk)(D x)(h:d.eN.cO D x):d.cO D x:=by
 obtain e|e|⟨c,a,e⟩:=h;exact aF e;exact aE<|aF<|by grind [Dk.vn]
 grind [Dk.eN]
theorem vk.st{cv B r L' w w' e}(h:Vq w B r)(g:vk cv r.D r.d L' w e w'):
  (e=ah (bU #[])/\r.d.cQ=ao/\Zd B r w {r with d:={r.d.dR with L:=L'}} w')\/(e=jM cv/\r.d.cQ=aw/\Zd B r w {r with d:=r.d.eN} w'):=by
 obtain⟨f,⟨a,hd,b⟩|⟨a,hd,b⟩⟩:=g;exact aF ⟨a,b.o,Zd.fh h f hd (Dk.o8 r.d) λx c=>(Dk.ng r.d r.D x).1 c⟩;exact aE ⟨a,b.o,Zd.fh h f hd (Dk.vn r.d) λx c=>Dk.ni r.d r.D x c⟩
def Dk.gk(d:Dk)(n:Int)(x:Zl):Dk:={d.dR with L:=Vm d.L n (jp d.L n++x,(Zm d.L n).2)}
def Dk.uC(d:Dk)(n:Int):Dk:={d.dR with L:=Vm d.L n (jp d.L n,aa (jp d.L n))}
def Dk.rH(d:Dk)(n:Int):Dk:={d.dR with L:=mH d.L n}
def Dk.pL(d:Dk)(n:Int)(m:Nat):Dk:={d.dR with L:=Vm d.L n ((jp d.L n).take m,aa ((jp d.L n).take m))}
def Dk.kH(d:Dk):d.dR.bS=d.bS:=ī
def Uf(L):0<=bK L:=by induction L with|nil=>simp[bK]|cons p L ih=>grind [bK]
def MK(L n):(aa (jp L n):Int)<=bK L:=by unfold jp;induction L with|nil=>simp[Xm,bK]|cons p L ih=>grind [bK,Xm]
def rY.pV{L}(h:rY L){n}{f:Zl×Int}(b:jS n)(a:0<=f.2/\f.2<=(aa f.1:Nat)/\aa f.1<=1000000)(c:aa L<1000000):rY<|Vm L n f:=by refine⟨h.fV.pV b a, ?_⟩;grind [Vm,TZ,xnw]
section
attribute [local go_sem] zn zg
def Sr.pa(r:Sr)(s:kV)(kind:Zl)(ep:Nat)(plain:Zl):Sr:=
 {r with d:=(r.d.gk (r.cH s).1<|(r.cH s).2++oU r.m r.bJ kind ep r.op r.bA plain).uC (r.cH s).1,bA:=r.bA+1,bJ:=sH r.m r.bJ kind ep r.op r.bA plain,sn:=ac {s with aP:=(r.cH s).1}}
def Sr.eG(r:Sr)(s:kV)(kind:Zl)(ep:Nat)(plain:Zl):Option Int×Sr:=
 if(r.bA:Int)=r.my then(ac 10,r)
 else if r.d.bS-bK r.d.L<(aa (r.cH s).2:Int)+10+aa plain+32 then(ac 9,r)
 else if r.d.cQ=aw then(ar,{r with d:=r.d.eN})
 else if(r.d.gk (r.cH s).1<|(r.cH s).2++oU r.m r.bJ kind ep r.op r.bA plain).cQ=aw then(ar,{r with d:=(r.d.gk (r.cH s).1<|(r.cH s).2++oU r.m r.bJ kind ep r.op r.bA plain).eN})
 else(ac 0,r.pa s kind ep plain)
def Ip(cv:Zv):Option Int->kU
 |some v=>ah (zi v)|none=>jM cv
def Uq(r:Sr)(s):aa (r.cH s).2<=9:=by grind [Sr.cH,Vb,Z2]
def Um(m mark kind ep op cnt plain)(hk:aa kind=1):aa (oU m mark kind ep op cnt plain)=42+aa plain:=by grind [oU,wG,zV,sH,Z2,ye,wu]
def xkv(m mark kind ep op cnt plain)(hk:aa kind=1):(oU m mark kind ep op cnt plain).drop (10+aa plain)=sH m mark kind ep op cnt plain:=by
 have h:aa (wG kind ep op cnt (aa plain)++zV m kind ep op cnt plain)=10+aa plain:=by simp[wG,zV,Z2,ye,hk];omega
 grind [oU]
def iR.step{D:Nat}{d:Dk}(h:iR D d){L':Xv}(b:d.cQ=ao)(e:rY L'):iR D {d.dR with L:=L'} where
 gY:=e
 nx:=λc a=>by have a:=a;unfold Dk.dR at a;unfold Dk.cQ at b;split at a;grind;rename_i c' hc';rw[hc']at b;have:=h.nx c' hc';grind [jS]
 sD:=λx=>h.sD<|(Dk.ng d D 0).1 x
def Zd.yj{B r s w n c t}(h:Vq w B r)(f:r.sn=ac s):
  Zd B r w {r with bA:=c,bJ:=t,sn:=ac {s with aP:=n}} (ai (ai (ai w (zq s.S 4)<|zi n) (zq B 4)<|zi c) (zq B 5)<|zs t):=by
 obtain⟨k,o⟩:=h.fW s f;have b:s.S≠B:=λe=>k.bO.ne h.bO Ã e;have i:zj (λx=>x=s.S\/x=B) w<|ai (ai (ai w (zq s.S 4)<|zi n) (zq B 4)<|zi c) (zq B 5)<|zs t:=
  (((zj.H w _ _).W λx a=> .inl a).aA<|(zj.H _ _ _).W λx a=> .inr a).aA ((zj.H _ _ _).W λx a=> .inr a)
 refine⟨i.W λx a=>?_,⟨?_, ?_,λE d=>?_⟩,λx a=>?_⟩;obtain e|e:=a;exact aE<|aE ⟨s,f,aF e⟩;exact aF e;have:=((h.bO.dE (p:=zq s.S 4) (Ne.symm b)<|zi n).H 4<|zi c).H 5<|zs t;have e:ay (ay (r.G) 4<|zi c) 5 (zs t)=Sr.G {r with bA:=c,bJ:=t,sn:=ac {s with aP:=n}}:=by simp[Sr.G,Sr.nz,f]
 grind;refine h.fh.y i λx a q=>?_;obtain e|e:=q;exact h.eF f (aF e) a;exact h.ko Â;cases d;refine⟨⟨?_, ?_, ?_⟩,o⟩;have:=((k.bO.H 4<|zi n).dE (p:=zq B 4) b<|zi c).dE (p:=zq B 5) b<|zs t;exact this;refine k.iQ.y i λa=>?_;obtain⟨G,F,y⟩:=k.iQ.bO;obtain e|e:=a;exact k.bO.gu y e.symm;exact h.bO.gu y e.symm;refine⟨k.iy.1, ?_⟩;obtain H|⟨g,j,l,C,z,m,D⟩:=k.iy.2;grind;refine aE ⟨g,j,l,C,z,(i.dB g (za.1 m).1 λa=>?_).trans m,D⟩;have v:=m;obtain e|e:=a;exact k.bO.ne v Ã e.symm;exact h.bO.ne v Ã e.symm;obtain e|e|⟨E,d,a⟩:=a;exact aF<|aF e;exact aF<|aE<|aF e;cases d;exact aF<|aE<|aE ⟨s,f,a⟩
def xq5{cv tv}(B r s kind)(ep:Nat)(plain w)(h:Vq w B r)(hs:r.sn=ac s)(Y:vq B r)(hG:oe cv tv w)(X:aa kind=1)(bb:aa plain<=4000):
  aG prog 65 #[zo B,zs kind,zi ep,zs plain] w λe w'=>∃a r',r.eG s kind ep plain=(a,r')/\e=Ip cv a/\Zd B r w r' w':=by
 have HH:=h;have c:=Y;have HG:=hG;have q:=hs;have p:=X;have c1:ae w (zq B 1)=ac (zi r.my):=h.bO.i 1 rfl;have c4:ae w (zq B 4)=ac (zi r.bA):=h.bO.i 4 rfl;go_enter func65.1,Tryz.ntmps65;by_cases g:(r.bA:Int)=r.my
 ·have U:aK<|r.eG s kind ep plain=(ac 10,r):=by show _=_;unfold Sr.eG;rw[if_pos g]
  rw[<-g]at c1;go_wp2;go_quiet (fail);go_wp2;go_ret;exact⟨_,_,U.o,rfl,⟨(zj.refl _ _).eg,HH.y ((zj.refl _ _).eg) λ_ _=>id,λx l=>aF l⟩⟩
 have bl:bI ((r.bA:Int)=r.my)=ao:=by simpa using g
 have Q:=g;go_wp2;go_quiet (fail);have V:Zd B r w r<|w.drewN nq:=⟨(zj.refl _ _).eg,HH.y ((zj.refl _ _).eg) λ_ _=>id,λx l=>aF l⟩;have G0:oe cv tv<|w.drewN nq:=HG.y (S:=λ_=>False) ((zj.refl _ _).eg) λ_ x=>x.elim;generalize w.drewN nq=w0 at*;go_wp2;refine(xpo B r s _ V.dS q (c.fW s q).1 (c.fW s q).2.1<|by have:=c.bA;omega).mono ?_;rintro e w1⟨rfl,z⟩;have T1:=V.aA ⟨z.W λ_ x=>x.elim,V.dS.y z λ_ _=>id,λx l=>aF l⟩;have G1:=G0.y z λ_ x=>x.elim;obtain⟨j,E⟩:∃j,(r.cH s).1=j:=⟨_,rfl⟩;obtain⟨n,C⟩:∃n,(r.cH s).2=n:=⟨_,rfl⟩;have bg:aa n<=9:=by rw[<-C];exact Uq r s
 rw[E,C];have T:=E;have be:j<=2000000000000:=by show j<=_;rw[<-E];have:=(c.fW s q).2.1;unfold Sr.cH;split<;>simp only<;>omega
 have R:=C;have c2:=T1.dS.bO.i 2 rfl;go_wp2;refine(xrk r.D r.d _ T1.dS.fh c.gY (by have:=c.bS;omega)<|by have:=c.bS;omega).mono ?_;rintro e w2⟨rfl,t⟩;have T2:=T1.aA ⟨zj.Q t,T1.dS.y (zj.Q t) λ_ _=>id,λx l=>aF l⟩;have G2:=G1.y (S:=λ_=>False) (zj.Q t) λ_ x=>x.elim;obtain⟨M,K⟩:∃M,r.d.bS-bK r.d.L=M:=⟨_,rfl⟩;have bi:=K;rw[K];by_cases bm:M<(aa n:Int)+10+aa plain+32
 ·have U:aK<|r.eG s kind ep plain=(ac 9,r):=by show _=_;unfold Sr.eG;rw[if_neg Q,if_pos Â]
  go_wp2;go_ret;exact⟨_,_,U.o,rfl,T2⟩
 have bh:(aa n:Int)+10+aa plain+32<=M:=À
 have d3:=T2.dS.bO.i 3 rfl;have d4:=T2.dS.bO.i 4 rfl;have d5:=T2.dS.bO.i 5 rfl;have d6:=T2.dS.bO.i 6 rfl;go_wp2;refine(xkw r.m _ kind ep r.op r.bA plain c.m c.bJ p bb (by have:=c.bA;omega) _ G2.vo).mono ?_;rintro e w3⟨rfl,v⟩;have J:=T2.aA ⟨zj.Q v,T2.dS.y (zj.Q v) λ_ _=>id,λx l=>aF l⟩;have G3:=G2.y (S:=λ_=>False) (zj.Q v) λ_ x=>x.elim;obtain⟨o,F⟩:∃o,oU r.m r.bJ kind ep r.op r.bA plain=o:=⟨_,rfl⟩;have bc:aa o=42+aa plain:=by rw[<-F];exact Um _ _ _ _ _ _ _ p
 have I:=F;rw[F];have e2:=J.dS.bO.i 2 rfl;go_wp2;refine(xhv r.D r.d _ _ Â _ J.dS.fh c.MO G3.In).mono ?_;intro e w4 Z;obtain⟨rfl,i,f⟩|⟨rfl,i,f⟩:=Z.st J.dS;rotate_left;refine⟨rfl,ar,{r with d:=r.d.eN}, ?_,rfl,J.aA f⟩;grind [Sr.eG];have G:=J.aA f;have G4:=HG.y G.y c.cO;have bj:=i;have H:iR r.D<|r.d.gk (j:Int)<|n++o:=by refine c.MO.step i<|c.gY.pV ⟨À,À⟩ ?_ c.MP;have h1:=c.gY.fV.nA (j:Int);have h2:=MK r.d.L (j:Int);have h4:=c.bS;have h5:aa (Zm r.d.L (j:Int)).1=aa (jp r.d.L (j:Int)):=rfl;simp only[zx];omega
 have f2:=G.dS.bO.i 2 rfl;go_wp2;refine(xlq r.D (r.d.gk _ _) _ _ G.dS.fh H G4.In).mono ?_;intro e O ba;obtain⟨rfl,i,f⟩|⟨rfl,i,f⟩:=ba.st (r:={r with d:=r.d.gk (j:Int)<|n++o}) G.dS;rotate_left;refine⟨rfl,ar,{r with d:=(r.d.gk _ _).eN}, ?_,rfl,G.aA f⟩;grind [Sr.eG];have k:=G.aA f;have bf:=xe i;have b:=(k.dS.fW s q).1;have g7:ae O (zq B 7)=ac (zo s.S):=by rw[k.dS.bO.i 7 rfl];simp[Sr.G,Sr.nz,q]
 have g4:ae O (zq B 4)=ac (zi r.bA):=k.dS.bO.i 4 rfl;have g5:ae O (zq B 5)=ac (zs r.bJ):=k.dS.bO.i 5 rfl;have k4:=k.dS.bO.dG 4;have k5:=k.dS.bO.dG 5;have s4:ae O (zq s.S 4)=ac (zi s.aP):=b.bO.i 4 rfl;have j4:=b.bO.dG 4;have W:¬s.S=B:=λe=>b.bO.ne k.dS.bO Ã e;have bk:¬B=s.S:=λe=>W e.symm;clear b;go_wp2;have bd:wrap64 ((r.bA:Int)+1)=((r.bA+1:Nat):Int):=by have:=c.bA;unfold wrap64;omega
 have y:(st o).extract (42+aa plain-32) (42+aa plain)=st (sH r.m r.bJ kind ep r.op r.bA plain):=by rw[<-xkv r.m r.bJ kind ep r.op r.bA plain p,I,<-bc,Ma,show aa o-32=10+aa plain by omega]
 rw[bd,y];go_ret;refine⟨ac 0,r.pa s kind ep plain, ?_,rfl,k.aA ?_⟩;grind [Sr.eG];have hw:r.pa s kind ep plain={{r with d:=(r.d.gk (j:Int)<|n++o).uC (j:Int)}with bA:=r.bA+1,bJ:=sH r.m r.bJ kind ep r.op r.bA plain,sn:=ac {s with aP:=(j:Int)}}:=by unfold Sr.pa;rw[T,R,I]
 rw[hw];exact Zd.yj k.dS q
end
end P
end Go.Proofs.YtjnbhiamaabbgaaGreatDoor
