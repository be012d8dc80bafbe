import Derived.Test.YtjnbhiamaabbgaaGreatDoorM3
import Derived.Deep.RegionHeld2
import Derived.Shelf.SlIterI.Nil
import Derived.Shelf.SortM.Plain
import Derived.Shelf.SortM.SortNone
import Derived.Shelf.SlMaps.Clone
import Derived.RangeFuncNested
set_option linter.all false
set_option maxRecDepth 100000
set_option maxHeartbeats 8000000
section
variable{P:Prop}
def Ì(h:P:=by grind [bZ]):P:=h
def Ó(h:P:=by constructor):P:=h
def ê(h:P:=by rw[jf];omega):P:=h
def aC(h:P:=by have:=HQ.o;omega):P:=h
def aM(h:P:=by grind [Dk.nU]):P:=h
def D0(h:P:=by obtain rfl|rfl:=hw1<;>rfl):P:=h
def HY(h:P:=by simp[eR,o9,go_sem]):P:=h
def za3(h:P:=by grind [Sr.eD]):P:=h
def za4(h:P:=by grind [Dk.dZ]):P:=h
def zbv(h:P:=by exact((lw _ _).trans<|KeepsOthers.setCell _ _ _).trans<|KeepsOthers.setCell _ _ _):P:=h
def zc5(h:P:=by induction L with|nil=>simp[gS]|cons p L I=>grind [gS]):P:=h
def zca(h:P:=by show _=_;unfold Sr.iS;rw[f];simp only[c.o,z];rfl):P:=h
def zcs(h:P:=by simp[eR,Tryz.results59,go_sem,r1,r2]):P:=h
def zcw(h:P:=by simp[eR,Tryz.results23,go_sem]):P:=h
def zdu(h:P:=by exact HE.trans<|(((zt _ W).alloc À _).setCell Â _).setCell Á _):P:=h
end
namespace Go.Proofs.YtjnbhiamaabbgaaGreatDoor
open Go renaming Calls->aK,Code->pB,Ending->kH,MapEntry->eF,Value->eJ,World->dN,grownBy_putObj'->pL,heap_alloc_new->xn,maxLen->pu,results->eR,undef->Z
open Go.ChangeMaps renaming setBlock->kI
open Go.Ending renaming returned->ai
open Go.Fence renaming wide->gI
open Go.Instr renaming lookup->fC
open Go.IntKind renaming i64->bB,wrap_i64->zh
open Go.KeepsOthers renaming alloc->lw
open Go.Maps renaming size->pz
open Go.Obj renaming cells->au
open Go.Proofs renaming intOf->bZ
open Go.Proofs.Tryz renaming results32->o9
open Go.Result renaming andThen->bN,ok->dG
open Go.RowKit renaming Below->aP,Hid->H
open Go.RowKit.Below renaming heap_alloc->Xj,heap_setCell->zah,refl->zt
open Go.Value renaming agg->bY,bool->bG,iface->iW,int->Q,map->fu,pointer->aU,slice->aB,string->ak,tuple->cE
open Go.WideElems renaming rd->pw
open Go.World renaming alloc->aF,cell?->N,setCell->M,size_alloc->xp,heap->Z'
open _root_ renaming Array->bE,Bool->ez,Int->U,List->bA,Nat->aD,Option->dD,absurd->dC,congrArg->gv,if_false->kB,if_neg->aL,if_pos->aT,if_true->dY,rfl->O,trivial->bD
open _root_.Array renaming size->V,toList->eV
open _root_.Bool renaming false->ao,true->ay
open _root_.Decidable renaming decide->bR
open _root_.False renaming elim->eT
open _root_.Function renaming comp_def->zc1
open _root_.Int renaming toNat->bL
open _root_.List renaming length->T,length_append->zx,take_succ_eq_append_getElem->zp,toArray->bH
open _root_.Nat renaming reduceAdd->jY,reduceSub->lh
open _root_.Option renaming none->aw,some->ac
open _root_.Or renaming inl->aJ,inr->Y
open _root_.Prod renaming fst->o7
namespace P
variable{w w':Zy}{tv:Zv}{k q:Lk}{L:KV}{t b D z:aD}{a m l:Zl}
open A.Tryq Go.RowKit
section
attribute [local go_sem] zn zg
def zj.W{S}(h:zj S w w'):zj S w w'.drew:=⟨h.os,h.cX,h.Q,h.dP⟩
def xh.W{r C}{t:Zt}(h:xh w r C t):xh w.drew r C t:=h
def ip.W(h:ip tv w):ip tv w.drew:=h
def iN.W(h:iN w):iN w.drew:=h
def iN.y{S}(h:iN w)(a:zj S w w')(c:¬S 4):iN w':=λi b=>a.i c<|h i b
def Eh(h w)(a:ip tv w):aK prog 164 #[bG h] w λe w'=>w'=w/\((e=ai (cE #[])/\H (h=ay))\/(e=kn tv/\H (h=ao))):=by cases h;exact(Jw _ O w a).mono λe w' x=>⟨x.2,Y ⟨x.1,O⟩⟩;exact(Yt _ O w).mono λe w' x=>⟨x.2,aJ ⟨x.1,O⟩⟩
def jbq(c t x)(a:T t<=4096)(w)(d:iN w)(b:ip tv w):aK prog 157 #[bY #[E c,E t],E x] w λe w'=>aP (V<|Z' w) w w'/\((e=ai (E<|Wu t x)/\H (T x<=4096))\/(e=kn tv/\H (4096<T x))):=by by_cases h:T x<=4096;exact(LJ c t x a h w d).mono λe w' y=>⟨y.2,aJ ⟨y.1,h⟩⟩;exact(xju c t x a À w b).mono λe w' y=>⟨y.2,Y ⟨y.1,by show _<_;omega⟩⟩
def xoe(c t b x)(hk:T c=16)(a:T b=8)(w)(d:ip tv w):aK prog 156 #[bY #[E c,E t],E b,E x] w λe w'=>aP (V<|Z' w) w w'/\((e=ai (E<|nT c b x)/\H (T x<=4096))\/(e=kn tv/\H (4096<T x))):=by by_cases h:T x<=4096;exact(PA c t b x hk a h w).mono λe w' y=>⟨y.2,aJ ⟨y.1,h⟩⟩;exact(zwv c t b x hk a À w d).mono λe w' y=>⟨y.2,Y ⟨y.1,by show _<_;omega⟩⟩
def jeu(l)(o:T l<=100000)(w)(f:1<V (Z' w))(k:ip tv w):aK prog 261 #[E l] w λe w'=>Nw w w'/\((∃D g cap,e=ai (aB (ac ⟨g,0,aw⟩) (T D:Nat) cap)/\V (Z' w)<=g/\yA w' g D/\T D<=20/\H (Wl l=ac D))\/(e=kn tv/\H (Wl l=aw))):=by
 apply(zq4 l o w f k).mono;rintro e w'⟨j,c⟩;refine⟨j,?_⟩;cases y:Wl l with
 |none=>rw[y]at c;exact Y ⟨c,O⟩
 |some D=>
  rw[y]at c;obtain⟨v,rfl,p⟩:=c;have b:1<=T D/\T D<=20:=by unfold Wl at y;split at y;grind;cases y
  obtain⟨_,s⟩|⟨g,cap,d,rfl,n,m,x,h,q,a⟩:=p.2;omega;refine aJ ⟨D,g,cap,O,n,?_,b.2,O⟩;intro i t;simp only[N,m];have r:(d.toList.take<|T D*1)[i]?=(D.map oP)[i]?:=by rw[a]
  grind
def Ac(y:Zl)(e t:aD)(h m l:Zl):Za:=#[ak<|st y,Q bB (e:U),Q bB (t:U),ak<|st h,ak<|st m,ak<|st l]
def pX(k:Lk)(L:KV)(I:ez)(t:aD)(h m l:Zl):dD<|Lk×KV:=
 if 4096<T (k.dX++h++m) then aw
 else if l≠Wu (Y7 k.m k.ep) (k.dX++h++m)then aw
 else if I then
  (match Wl (nT (Ji k.m k.ep) (h.take 8) m)with
  |some D=>ac ({k with bF:=t,fD:=k.dX,dX:=l},gh L D)
  |none=>aw)
 else ac ({k with bF:=t,fD:=k.dX,dX:=l},L)
def zoe{r b}(e:k.dX++a++m=b)(h:4096<T b):pX k L r t a m l=aw:=by simp[pX,e,h]
def zsj{r b}(e:k.dX++a++m=b)(h:l≠Wu (Y7 k.m k.ep) b):pX k L r t a m l=aw:=lg
def zsi(h:Wl (nT (Ji k.m k.ep) (a.take 8) m)=aw):pX k L ay t a m l=aw:=lg
def xec{b D}(e:k.dX++a++m=b)(c:T b<=4096)(d:l=Wu (Y7 k.m k.ep) b)(h:Wl (nT (Ji k.m k.ep) (a.take 8) m)=ac D):pX k L ay t a m l=ac ({k with bF:=t,fD:=k.dX,dX:=l},gh L D):=lg
def xeb{b}(e:k.dX++a++m=b)(c:T b<=4096)(d:l=Wu (Y7 k.m k.ep) b):pX k L ao t a m l=ac ({k with bF:=t,fD:=k.dX,dX:=l},L):=lg
def uB(k:Lk)(L:KV)(y:Zl)(e t:aD)(h m l:Zl):dD<|Lk×KV:=
 if t≠k.bF+1 then aw
 else if y=[82]then(if e=k.ep then pX k L ay t h m l else aw)
 else if y=[75]then(if e=k.ep+1/\e<=5/\m=[]then pX {k with ep:=e} L ao t h m l else aw)
 else aw
def CO(tv:Zv)(b z:aD)(o:dD<|Lk×KV)(w:Zy)(e:kH)(w':Zy):Prop:=
 match o with
 |some (y,p)=>e=ai (cE #[])/\zj (λx=>x=b\/x=z) w w'/\Jh w' b y/\Je w' z p|none=>e=kn tv/\zj (λx=>x=b\/x=z) w w'
def Jl{o}(h:o=aw)(a:zj (λx=>x=b\/x=z) w w'):CO tv b z o w (kn tv) w':=by subst h;exact⟨O,a⟩
def FW{y p o}(h:o=ac (y,p))(a:zj (λx=>x=b\/x=z) w w')(c:Jh w' b y)(d:Je w' z p):CO tv b z o w (ai<|cE #[]) w':=by subst h;exact⟨O,a,c,d⟩
structure RE(tv:Zv)(W:Zy)(b z:aD)(q:Lk)(L:KV)(X:Za)(w:Zy):Prop where
 l:Jh w b q
 r:xh w (V<|Z' W) X 305
 g:ip tv w
 a:zj (λx=>x=b\/x=z) W w
 m:Je w z L
 t:iN w
section
variable{y:eJ}{x w p:dN}{X:bE eJ}
def RE.nw(e:RE y x b z q L X w)(c:Nw w p):RE y x b z q L X p:=⟨xh.y e.l c id,e.r.y c id,e.g.y c id,e.a.aE<|c.U λ_=>eT,e.m.y c id,e.t.y c id⟩
def RE.W(e:RE y x b z q L X w):RE y x b z q L X w.drew:=e.nw (zj.refl _ w).W
def RE.Y(e:RE y x b z q L X w)(a:aP (V<|Z' w) w p):RE y x b z q L X p:=e.nw<|zj.J a
end
def zq5(b k L)(hm:T k.m=32)(kind c m l ep t)(cq:k.ep<=255)(cp:k.bF<4294967296)(cl:T c=10)(cb:T m<=65535)(ht:T k.dX=32)(w)(b0:1<V (Z' w))(b9:b≠1)(ca:b≠4)(hm1:k.mp≠1)(cr:k.mp≠4)(ho:b≠k.mp)(hb:Jh w b k)(hs:Je w k.mp L)(hT:iN w)(hG:ip tv w):
  aK prog 232 #[K b,bY<|Ac kind ep t c m l] w (CO tv b k.mp (uB k L kind ep t c m l) w):=by
 have HB:Jh w b k:=hb;have HT:iN w:=hT;have HG:ip tv w:=hG;have HS:Je w k.mp L:=hs;have co:=hb.lt;have cs:=hs.lt;have e1:IntKind.i64.wrap ((k.bF:U)+1)=(k.bF:U)+1:=Ï
 have HP:H (uB k L kind ep t c m l=if t≠k.bF+1 then aw
  else if kind=[82]then(if ep=k.ep then pX k L ay t c m l else aw)
  else if kind=[75]then(if ep=k.ep+1/\ep<=5/\m=[]then pX {k with ep:=ep} L ao t c m l else aw)
  else aw):=O
 clear hb hT hG hs;unfold Ac;go_enter func232.1,Tryz.ntmps232;go_wp2;have E0:RE tv w b k.mp k L (Ac kind ep t c m l)<|aF w<|au (Ac kind ep t c m l) 305:=⟨xh.E HB _,xh.ex _ _ _,HG.E _,zj.E _,HS.y (S:=λ_=>False) (zj.E _) id,HT.y (S:=λ_=>False) (zj.E _) id⟩;have h3:(aF w<|au #[E kind,J ep,J t,E c,E m,E l] 305)=aF w (au (Ac kind ep t c m l) 305):=O;rw[h3];clear h3 HB HT HG HS;generalize aF w (au (Ac kind ep t c m l) 305)=w0 at*;have c1:N w0 (zq (V<|Z' w) 2)=J t:=E0.r.i 2 O;have c2:N w0 (zq b 8)=J k.bF:=xh.i E0.l 8 O;go_still_tail 8,Ä;go_wp2;by_cases hq:t=k.bF+1;rotate_left;have q1:((t:U)==(k.bF:U)+1)=ao:=ê
 rw[q1];refine(Jw _ O _ E0.g.W).mono ?_;rintro e w1⟨rfl,rfl⟩;exact⟨O,Jl (by rw[HP.o,aT hq]) E0.a.W⟩;have q1:((t:U)==(k.bF:U)+1)=ay:=by rw[zQ];omega
 rw[q1];refine(Yt _ O _).mono ?_;rintro e w1⟨rfl,rfl⟩;have HQ:H<|t=k.bF+1:=hq;clear hq;have i:=E0.W;clear E0 c1 c2 q1;generalize w0.drew=w1 at*;have d0:N w1 (zq (V<|Z' w) 0)=E kind:=i.r.i 0 O;have kR:((st kind).toList==[82])=bR (kind=[82]):=by rw[xl];by_cases h:kind=[82]<;>simp[h]
 have kK:((st kind).toList==[75])=bR (kind=[75]):=by rw[xl];by_cases h:kind=[75]<;>simp[h]
 by_cases hR:kind=[82];focus
  have cg:((st kind).toList==[82])=ay:=by rw[kR];simp[hR]
  have HR:H<|kind=[82]:=hR;clear kR kK hR;have d1:N w1 (zq (V<|Z' w) 1)=J ep:=i.r.i 1 O;have d2:N w1 (zq b 5)=J k.ep:=xh.i i.l 5 O;go_wp2;go_still_tail 7,Ä;go_wp2;by_cases he:ep=k.ep;rotate_left;have q1:((ep:U)==(k.ep:U))=ao:=ê
  rw[q1];refine(Jw _ O _ i.g.W).mono ?_;rintro e C⟨rfl,rfl⟩;exact⟨O,Jl (by rw[HP.o,aL aC,aT HR.o,aL he]) i.a.W⟩;have q1:((ep:U)==(k.ep:U))=ay:=by rw[zQ];omega
  rw[q1];refine(Yt _ O _).mono ?_;rintro e C⟨rfl,rfl⟩;obtain⟨q,j⟩:∃q,k=q:=⟨_,O⟩;have cd:T q.dX=32:=by rw[<-j];exact ht
  have bo:H<|k.mp=q.mp:=by show _=_;rw[j]
  have p:H<|uB k L kind ep t c m l=pX q L ay t c m l:=by show _=_;rw[HP.o,aL aC,aT HR.o,aT he,j]
  have u:RE tv w b k.mp q L (Ac kind ep t c m l) w1.drew:=by rw[<-j];exact i.W
  clear i d0 d1 d2 q1 he HP j;generalize w1.drew=C at*
 rotate_left;focus
  have cg:((st kind).toList==[82])=ao:=by rw[kR];simp[hR]
  have HR:H<|kind≠[82]:=hR;clear kR hR;by_cases hK:kind=[75];rotate_left
  ·have cf:((st kind).toList==[75])=ao:=by rw[kK];simp[hK]
   obtain⟨ti,xi,bi,b7⟩:=i.g;have b4:H<|tv=iW ti xi:=bi;rw[bi]at b7;have HN:H<|uB k L kind ep t c m l=aw:=by show _=_;rw[HP.o,aL aC,aL HR.o,aL hK]
   clear kK bi;go_wp2;exact⟨O,by have:=Jl (tv:=tv) HN.o i.a;rw[b4.o]at this⊢;omega⟩
  have cf:((st kind).toList==[75])=ay:=by rw[kK];simp[hK]
  have HK:H<|kind=[75]:=hK;clear kK hK;have f1:IntKind.i64.wrap ((k.ep:U)+1)=(k.ep:U)+1:=Ï
  have HC:∀d,d=w1.drew->N d (zq (V<|Z' w) 1)=J ep/\N d (zq b 5)=J k.ep/\N d (zq (V<|Z' w) 4)=E m:=λd h=>by subst h;exact⟨i.r.i 1 O,xh.i i.l 5 O,i.r.i 4 O⟩
  have P:=HC _ O;have HN:H<|¬(ep=k.ep+1/\ep<=5/\m=[])->uB k L kind ep t c m l=aw:=λhh=>by rw[HP.o,aL aC,aL HR.o,aT HK.o,aL hh]
  have qa:((ep:U)==(k.ep:U)+1)=bR (ep=k.ep+1):=by by_cases h:ep=k.ep+1<;>simp[h];omega
  have qc:((st m).toList==[])=bR (m=[]):=by rw[xl];by_cases h:m=[]<;>simp[h]
  have d1:N w1 (zq (V<|Z' w) 1)=J ep:=i.r.i 1 O;have d2:N w1 (zq b 5)=J k.ep:=xh.i i.l 5 O;have d4:N w1 (zq (V<|Z' w) 4)=E m:=i.r.i 4 O;by_cases hA:ep=k.ep+1;rotate_left
  ·have ch:((ep:U)==(k.ep:U)+1)=ao:=by rw[qa];simp[hA]
   clear qa;go_wp2;go_still_tail 18,Ä;go_wp2;refine(Jw _ O _ i.g.W).mono ?_;rintro e C⟨rfl,rfl⟩;exact⟨O,Jl (HN.o λh=>hA h.1) i.a.W⟩
  have ch:((ep:U)==(k.ep:U)+1)=ay:=by rw[qa];simp[hA]
  have HA:H<|ep=k.ep+1:=hA;clear qa hA;by_cases hB:ep<=5;rotate_left
  ·have b6:bR ((ep:U)<=5)=ao:=by simp;omega
   have cm:¬(ep:U)<=5:=À
   go_wp2;go_still_tail 18,Ä;go_wp2;refine(Jw _ O _ i.g.W).mono ?_;rintro e C⟨rfl,rfl⟩;exact⟨O,Jl (HN.o λh=>hB h.2.1) i.a.W⟩
  have b6:(ep:U)<=5:=À
  by_cases hC:m=[];rotate_left
  ·have ci:((st m).toList==[])=ao:=by rw[qc];simp[hC]
   have bd:H<|m≠[]:=hC;clear qc hC;go_wp2;go_still_tail 18,Ä;go_wp2;refine(Jw _ O _ i.g.W).mono ?_;rintro e C⟨rfl,rfl⟩;exact⟨O,Jl (HN.o λh=>bd.o h.2.2) i.a.W⟩
  have ci:((st m).toList==[])=ay:=by rw[qc];simp[hC]
  have bd:H<|m=[]:=hC;clear qc hC;go_wp2;go_still_tail 18,Ä;go_wp2;refine(Yt _ O _).mono ?_;rintro e C⟨rfl,rfl⟩;have o:=i.W;clear i d0 d1 d2 d4 P HC HN;generalize w1.drew=wz at*;have d1:N wz (zq (V<|Z' w) 1)=J ep:=o.r.i 1 O;go_wp2;refine(GX b k hm ep _ o.l o.t).mono ?_;rintro e C⟨rfl,bs,bg⟩;have h1:H (zj (·=b) wz C):=bs;obtain⟨q,j⟩:∃q:Lk,{k with ep:=ep}=q:=⟨_,O⟩;have cd:T q.dX=32:=by rw[<-j];exact ht
  have bo:H<|k.mp=q.mp:=by show _=_;rw[<-j]
  have p:H<|uB k L kind ep t c m l=pX q L ao t c m l:=by show _=_;rw[HP.o,aL aC,aL HR.o,aT HK.o,aT ⟨HA.o,hB,bd.o⟩,j]
  have u:RE tv w b k.mp q L (Ac kind ep t c m l) C:=⟨by rw[j]at bg;exact bg,o.r.y h1.o À,o.g.y h1.o<|Ne.symm b9,o.a.aE<|h1.o.U λ_ h=>aJ h,o.m.y h1.o<|Ne.symm ho,o.t.y h1.o<|Ne.symm ca⟩;clear o d1 j bs bg h1 HP
 all_goals
  have d3:N C (zq (V<|Z' w) 3)=E c:=u.r.i 3 O;have z1:¬9223372036854775807<42+T m:=À
  have z2:¬9223372036854775765<T m:=À
  have cj:T (Y7 q.m q.ep)=32:=Ln _ _ 32 Ã;have br:T (Ji q.m q.ep)=16:=Ln _ _ 16 Ã;obtain⟨A,bz⟩:∃A,q.dX++c++m=A:=⟨_,O⟩;have v:H<|q.dX++c++m=A:=bz;clear bz;have es:∀d s,s=st A->iN d->ip tv d->aK prog 157 #[bY #[E<|Ji q.m q.ep,E<|Y7 q.m q.ep],ak s] d λe z=>aP (V<|Z' d) d z/\((e=ai (E<|Wu (Y7 q.m q.ep) A)/\H (T A<=4096))\/(e=kn tv/\H (4096<T A))):=λd s hs h h'=>hs▸jbq _ _ A À d h h';obtain⟨tg,bh⟩:∃tg,Wu (Y7 q.m q.ep) A=tg:=⟨_,O⟩;have h2:H<|Wu (Y7 q.m q.ep) A=tg:=bh;rw[bh]at es;clear bh;have HC:∀d,aP (V<|Z' C) C d->N d (zq (V<|Z' w) 3)=E c/\N d (zq (V<|Z' w) 4)=E m/\N d (zq (V<|Z' w) 5)=E l/\N d (zq b 6)=(E<|Ji q.m q.ep)/\N d (zq b 7)=(E<|Y7 q.m q.ep)/\N d (zq b 9)=E q.dX:=λd h=>by have r3:=u.r.Y h;have l3:=xh.Y u.l h;exact⟨r3.i 3 O,r3.i 4 O,r3.i 5 O,l3.i 6 O,l3.i 7 O,l3.i 9 O⟩
  have P:=HC C<|zt _ _;go_wp2;go_region_held2 (λz=>N z (zq (V<|Z' w) 3)=E c/\N z (zq (V<|Z' w) 4)=E m/\N z (zq (V<|Z' w) 5)=E l/\N z (zq b 6)=(E<|Ji q.m q.ep)/\N z (zq b 7)=(E<|Y7 q.m q.ep)/\N z (zq b 9)=E q.dX) (first|exact P|exact X)
   (first
    |(go_at_call 157;refine(es _ _ (by rw[<-v.o];grind) u.t.W u.g.W).mono ?_;rintro e d⟨bt,⟨rfl,B⟩|⟨rfl,B⟩⟩;rotate_left;(exact⟨O,Jl (by rw[p.o];exact zoe v.o B.o)<|u.a.aE<|zj.J<|(zt _ _).drew.trans bt⟩);have I:aP (V<|Z' C) C d:=(zt _ _).drew.trans bt;have X:=HC d I)
    |(go_at_call 164;refine(Eh _ _<|ip.J u.g I).mono ?_;rintro e f⟨bj,cc⟩;obtain rfl:d=f:=bj.symm;obtain⟨rfl,wr⟩|⟨rfl,wr⟩:=cc;rotate_left;(exact⟨O,Jl (by rw[p.o];exact zsj v.o<|by rw[h2.o];intro hh;have:=wr.o;grind)<|u.a.aE<|zj.J I⟩)))
  have W:H<|l=tg:=by have:=wr.o;rw[zQ,xl,xl]at this;exact this
  have G:=u.Y I;have ct:1<V (Z' d):=zm b0 G.a.Q;clear P HC es d3 wr I u;try clear X
  try clear hHeld
  have d0:N d (zq (V<|Z' w) 0)=E kind:=G.r.i 0 O;go_wp2
 rotate_left;focus
  have h8:(8:U)<=(T c:U):=À
  have e8:T (c.take 8)=8:=Ç
  have be:∀f,aP (V<|Z' d) d f->N f (zq (V<|Z' w) 3)=E c/\N f (zq (V<|Z' w) 4)=E m/\N f (zq b 6)=(E<|Ji q.m q.ep)/\N f (zq b 7)=(E<|Y7 q.m q.ep):=λf h=>by have r3:=G.r.Y h;have l3:=xh.Y G.l h;exact⟨r3.i 3 O,r3.i 4 O,l3.i 6 O,l3.i 7 O⟩
  have P:=be d<|zt _ _;have KS:∀f s,s=st (c.take 8)->ip tv f->aK prog 156 #[bY #[E<|Ji q.m q.ep,E<|Y7 q.m q.ep],ak s,E m] f λe z=>aP (V<|Z' f) f z/\((e=ai (E<|nT (Ji q.m q.ep) (c.take 8) m)/\H (T m<=4096))\/(e=kn tv/\H (4096<T m))):=λf s hs h=>hs▸xoe _ _ _ _ br e8 f h;go_region_held2 (λz=>N z (zq (V<|Z' w) 3)=E c/\N z (zq (V<|Z' w) 4)=E m/\N z (zq b 6)=(E<|Ji q.m q.ep)/\N z (zq b 7)=(E<|Y7 q.m q.ep)) (first|exact P|exact X)
   ((go_at_call 156;refine(KS _ _ (vD c 8) G.g.W).mono ?_;rintro e f⟨bu,⟨rfl,bl⟩|⟨rfl,bl⟩⟩;rotate_left;(exfalso;have:=bl.o;have:=B.o;have:=gv T v.o;simp at this;omega);have bc:aP (V<|Z' d) d f:=(zt _ _).drew.trans bu;have X:=be f bc))
  have hd:=G.Y bc;have bj:1<V (Z' f):=zm b0 hd.a.Q;clear be KS d0 bc G P;try clear X
  try clear hHeld
  obtain⟨pl,g'⟩:∃pl,nT (Ji q.m q.ep) (c.take 8) m=pl:=⟨_,O⟩;have bp:H<|nT (Ji q.m q.ep) (c.take 8) m=pl:=g';have bx:T pl<=100000:=by rw[<-g',A'];omega
  rw[g'];clear g';have bf:∀r,Nw f r->N r (zq b 4)=(fu<|some k.mp):=λr h=>by have l5:Jh r b q:=xh.y hd.l h id;rw[bo.o];exact xh.i l5 4 O
  have P:=bf f<|zj.refl _ _;go_wp2;go_region_held2 (λz=>N z (zq b 4)=(fu<|some k.mp)) (first|exact P|exact X|exact S2)
   (first
    |(go_at_call 261;refine(jeu pl bx f.drew bj hd.g.W).mono ?_;rintro e r⟨y,⟨D,g,b5,rfl,bw,bq,cn,v'⟩|⟨rfl,v'⟩⟩;rotate_left;(exact⟨O,Jl (by rw[p.o];exact zsi<|by rw[bp.o];exact v'.o)<|hd.a.aE<|zj.U (⟨y.os,y.cX,y.Q,y.dP⟩:Nw f r) λ_ h=>h.elim⟩);have F:Nw f r:=⟨y.os,y.cX,y.Q,y.dP⟩;have X:=bf r F;have bk:V (Z' f)<=g:=bw;have bb:yA r g D:=bq;clear bw bq)
    |(go_at_call 44;refine(KN k.mp g b5 L D À r (hd.m.y F id) bb<|by have:=bk;have:=hd.a.Q;omega).mono ?_;rintro e n⟨rfl,bv,bn⟩;have hx:H (zj (·=k.mp) r n):=bv;have ba:Je n k.mp<|gh L D:=bn;have S2:N n (zq b 4)=(fu<|some k.mp):=hx.o.i ho X;clear bv bn))
  have L5:Jh n b q:=xh.y (xh.y hd.l F id) hx.o ho;have R5:xh n (V<|Z' w) (Ac kind ep t c m l) 305:=xh.y (hd.r.y F id) hx.o À;have A5:zj (λx=>x=b\/x=k.mp) w n:=(hd.a.aE<|zj.U F λ_ h=>h.elim).aE<|hx.o.U λ_ h=>Y h;have bm:H<|uB k L kind ep t c m l=ac ({q with bF:=t,fD:=q.dX,dX:=l},gh L D):=by show _=_;rw[p.o];exact xec v.o B.o (by rw[h2.o];exact W.o)<|by rw[bp.o];exact v'.o
  clear bf F hx hd P bk bb v';try clear X
  try clear S2
  try clear hHeld
  generalize gh L D=L6 at*;clear p v h2 W B
 rotate_left;focus
  have bm:H<|uB k L kind ep t c m l=ac ({q with bF:=t,fD:=q.dX,dX:=l},L):=by show _=_;rw[p.o];exact xeb v.o B.o<|by rw[h2.o];exact W.o
  have L5:Jh d b q:=G.l;have R5:xh d (V<|Z' w) (Ac kind ep t c m l) 305:=G.r;have A5:zj (λx=>x=b\/x=k.mp) w d:=G.a;have ba:Je d k.mp L:=G.m;clear G d0;clear p v h2 W B;obtain⟨n,ce⟩:∃n,n=d:=⟨_,O⟩;obtain⟨L6,b8⟩:∃L6,L6=L:=⟨_,O⟩;subst ce b8
 all_goals
  have i2:N n (zq (V<|Z' w) 2)=J t:=R5.i 2 O;have i5:N n (zq (V<|Z' w) 5)=E l:=R5.i 5 O;have j8:N n (zq b 8)=J q.bF:=xh.i L5 8 O;have j9:N n (zq b 9)=E q.dX:=xh.i L5 9 O;have j10:N n (zq b 10)=E q.fD:=xh.i L5 10 O;have g8:=xh.dS L5 8;have g9:=xh.dS L5 9;have ck:=xh.dS L5 10;go_wp2;have LE:Jh (M (M (M n (zq b 8)<|J t) (zq b 10)<|E q.dX) (zq b 9)<|E l).drew b {q with bF:=t,fD:=q.dX,dX:=l}:=(((xh.H L5 8<|J t).H 10<|E q.dX).H 9<|E l).W;have BS:zj (λx=>x=b) n (M (M (M n (zq b 8)<|J t) (zq b 10)<|E q.dX) (zq b 9)<|E l).drew:=(((zj.H n (zq b 8)<|J t).aE<|zj.H _ (zq b 10)<|E q.dX).aE<|zj.H _ (zq b 9)<|E l).W;have AE:zj (λx=>x=b\/x=k.mp) w (M (M (M n (zq b 8)<|J t) (zq b 10)<|E q.dX) (zq b 9)<|E l).drew:=A5.aE<|BS.U λ_ h=>aJ h;have ME:Je (M (M (M n (zq b 8)<|J t) (zq b 10)<|E q.dX) (zq b 9)<|E l).drew k.mp L6:=ba.y BS<|Ne.symm ho;have b2:Jh _ b _:=LE;have b1:zj _ w _:=AE;have b3:Je _ k.mp _:=ME;clear LE BS AE ME;have cu:¬V (Z' w)=b:=À
  have cv:¬b=V (Z' w):=À
  go_region_with (fail);all_goals (go_end0;exact FW bm.o b1 b2 b3)
def yB:prog.underlying 130=ac (.map 3 138):=Â
def Ii(w):(zeroValue 138).run prog w=dG (nR ([],0)) w:=Ä
def PK(s k w):(Instr.field 138 (bY #[ak s,J k]) 0).run prog w=dG (ak s) w:=Ä
def PL(s k w):(Instr.field 138 (bY #[ak s,J k]) 1).run prog w=dG (J k) w:=Ä
attribute [local go_sem] PK PL
structure Dk where
 bU:U
 M:aD
 L:Xv
 nx:dD<|Nat×U×U
def Dk.nxV(d:Dk):Zv:=aU (d.nx.map λc=>⟨c.1,0,aw⟩)
structure Jt(w:Zy)(D:aD)(d:Dk):Prop where
 bT:xh w D #[J d.bU,fu<|some d.M,d.nxV] 132
 jS:sH w d.M d.L
 ku:∀c,d.nx=ac c->xh w c.1 #[J c.2.1,J c.2.2] 129
def Dk.cN(D:aD)(d:Dk)(x:aD):Prop:=x=D\/x=d.M\/∃c,d.nx=ac c/\x=c.1
def Jt.y{S d}(h:Jt w D d)(a:zj S w w')(b:∀x,d.cN D x->¬S x):Jt w' D d:=
 ⟨h.bT.y a<|b _<|aJ O,h.jS.y a<|b _<|Y<|aJ O,λc e=>(h.ku c e).y a<|b _<|Y<|Y ⟨c,e,O⟩⟩
def Jt.Ba{d}(h:Jt w D d):d.M≠D:=by intro a;have⟨e,c,y,_⟩:=h.jS;rw[a]at y;have b:=h.bT;grind [xh]
def jp(L:Xv)(n:U):Zl:=((Xm L n).getD ([],0)).1
def Ei(D d n w)(h:Jt w D d):aK prog 76 #[K D,J n] w λe w'=>e=ai (E<|jp d.L n)/\w'=w:=by have b:N w (zq D 1)=(fu<|some d.M):=h.bT.i 1 O;have a:=Ia yB fR Ii h.jS n;unfold nR at a;go_enter func76.1,Tryz.ntmps76;go_wp2;go_ret;exact⟨O,O⟩
def Ih(x w):aK prog 78 #[E x] w λe w'=>e=ai (nR (x,T x))/\aP (V<|Z' w) w w':=by go_enter func78.1,Tryz.ntmps78;go_wp2;refine ji (by simp[eR,Tryz.results78,go_sem,nR]) O ⟨O,(zt _ _).alloc (zd _) _⟩
def Vm(L:Xv)(n:U)(f:Zl×U):Xv:=if f.1=[]then nS L n else ol L n f
def Jt.qQ{S:ZP}{d:Dk}{y:Xv}(h:Jt w D d)(a:zj (·=d.M) w w')(e:sH w' d.M y):Jt w' D {d with L:=y}:=by refine⟨h.bT.y a<|Ne.symm h.Ba,e,λc b=>(h.ku c b).y a ?_⟩;intro g;have f:=h.ku c b;have⟨x,k,p,_⟩:=h.jS;grind [xh]
def Ik(D d n f w)(h:Jt w D d):aK prog 159 #[K D,J n,nR f] w λe w'=>e=ai (cE #[])/\zj (·=d.M) w w'/\Jt w' D {d with L:=Vm d.L n f}:=by
 have⟨x,F⟩:=f;have j:N w (zq D 1)=(fu<|some d.M):=h.bT.i 1 O;have k:=h.bT.lt;have b:=h.y (zj.E<|au #[E x,J F] 138) λ_ _=>id;unfold nR;cases x with
 |nil=>have l:=xl [];have⟨W,u,y,s⟩:=WZ yB fR b.jS 0 3 n;have c:=(zj.E _).aE y;have g:=b.qQ (S:=λ_=>False) y s;go_enter func159.1,Tryz.ntmps159;go_wp2;(apply ji (v:=cE #[]) (by simp[eR,Tryz.results159,go_sem]) O);exact⟨O,c,g⟩
 |cons a x=>
  have i:(st (a::x)).toList.isEmpty=ao:=zab
  have⟨W,u,y,s⟩:=W1 yB fR (w:=(aF w<|au #[E (a::x),J F] 138).drew) b.jS n (a::x,F);unfold nR at u;have c:=((zj.E _).W).aE y;have g:=Jt.qQ (S:=λ_=>False) (w:=(aF w<|au #[E (a::x),J F] 138).drew) ⟨b.bT,b.jS,b.ku⟩ y s;go_enter func159.1,Tryz.ntmps159;go_wp2;have m:N (aF w<|au #[E (a::x),J F] 138) (zq D 1)=(fu<|some d.M):=b.bT.i 1 O;have o:N (aF w<|au #[E (a::x),J F] 138) (zq (V<|Z' w) 0)=E (a::x):=(xh.ex w #[E (a::x),J F] 138).i 0 O;have p:N (aF w<|au #[E (a::x),J F] 138) (zq (V<|Z' w) 1)=J F:=(xh.ex w #[E (a::x),J F] 138).i 1 O;generalize aF w _=r at*;go_still_tail 6,Ä;go_wp2;go_end0;exact⟨O,c,g⟩
end
end P
namespace A
open Tryq Go Go.RowKit Go.Maps Go.Sort Go.Shelf
def fq{P:Zp}{i:aD}{f g}(h:P.funcs[i]?=ac f)(e:f=g):P.funcs[i]?=ac g:=e▸h
def Tryq.pg:Ren:={f:=λx=>match x with|7=>125|10=>191|n=>n,t:=λx=>match x with|23=>130|26=>3|3=>138|28=>203|0=>0|27=>202|33=>188|4=>4|n=>n,g:=λx=>x}
def Tryq.rN:SlLaysZI.n7 prog pg:=by
 constructor
 case mixed=>kernel_rfl
 case f7=>exact⟨Tryz.f125.name,Ä,fq func125.1 Ä⟩
 case f10=>exact⟨Tryz.f191.name,Ä,fq func191.1 Ä⟩
 all_goals (intros;simp[pg])
def Tryq.mG:Ren:={f:=λx=>match x with|6=>124|8=>189|9=>190|11=>242|13=>123|12=>243|23=>187|24=>188|14=>267|15=>268|16=>269|17=>270|18=>271|19=>272|20=>273|21=>274|22=>275|25=>289|26=>237|27=>238|28=>290|29=>291|30=>292|31=>304|n=>n,t:=λx=>match x with|26=>3|28=>203|24=>63|0=>0|3=>3|37=>162|48=>243|50=>240|4=>4|40=>252|39=>251|45=>256|5=>5|9=>9|51=>308|55=>311|57=>339|58=>340|33=>188|n=>n,g:=λx=>x}
def Tryq.tX:SlLaysZI.n6 prog mG:=by
 constructor
 case mixed=>kernel_rfl
 case f6=>exact⟨Tryz.f124.name,Ä,fq func124.1 Ä⟩
 case f8=>exact⟨Tryz.f189.name,Ä,fq func189.1 Ä⟩
 case f11=>exact⟨Tryz.f242.name,Ä,fq func242.1 Ä⟩
 case i26=>kernel_rfl
 all_goals (intros;simp[mG])
def Tryq.rR:Ren:={f:=λx=>match x with|5=>190|8=>123|7=>243|19=>187|20=>188|10=>267|11=>268|12=>269|13=>270|14=>271|15=>272|16=>273|17=>274|18=>275|30=>289|31=>237|32=>238|33=>290|34=>291|35=>292|40=>304|n=>n,t:=λx=>match x with|23=>63|25=>3|3=>3|32=>162|22=>63|0=>0|44=>243|46=>240|4=>4|36=>252|35=>251|41=>256|5=>5|9=>9|53=>308|57=>311|63=>339|64=>340|n=>n,g:=λx=>x}
def Tryq.rQ:SlLaysM.n5 prog rR:=by
 constructor
 case mixed=>kernel_rfl
 case f5=>exact⟨Tryz.f190.name,Ä,fq func190.1 Ä⟩
 case f7=>exact⟨Tryz.f243.name,Ä,fq func243.1 Ä⟩
 case f8=>exact fq func123.1 Ä
 case f10=>exact⟨Tryz.f267.name,Ä,fq func267.1 Ä⟩
 case f11=>exact⟨Tryz.f268.name,Ä,fq func268.1 Ä⟩
 case f12=>exact⟨Tryz.f269.name,Ä,fq func269.1 Ä⟩
 case f13=>exact⟨Tryz.f270.name,Ä,fq func270.1 Ä⟩
 case f14=>exact⟨Tryz.f271.name,Ä,fq func271.1 Ä⟩
 case f15=>exact⟨Tryz.f272.name,Ä,fq func272.1 Ä⟩
 case f16=>exact⟨Tryz.f273.name,Ä,fq func273.1 Ä⟩
 case f17=>exact⟨Tryz.f274.name,Ä,fq func274.1 Ä⟩
 case f18=>exact⟨Tryz.f275.name,Ä,fq func275.1 Ä⟩
 case f19=>exact fq func187.1 Ä
 case f20=>exact fq func188.1 Ä
 case f30=>exact⟨Tryz.f289.name,Ä,fq func289.1 Ä⟩
 case f31=>exact fq func237.1 Ä
 case f32=>exact fq func238.1 Ä
 case f33=>exact⟨Tryz.f290.name,Ä,fq func290.1 Ä⟩
 case f34=>exact⟨Tryz.f291.name,Ä,fq func291.1 Ä⟩
 case f35=>exact⟨Tryz.f292.name,Ä,fq func292.1 Ä⟩
 case f40=>exact⟨Tryz.f304.name,Ä,fq func304.1 Ä⟩
 all_goals (intros;simp[rR])
def Tryq.rP:Ren:={f:=λx=>match x with|7=>46|10=>74|n=>n,t:=λx=>match x with|23=>91|26=>9|3=>94|28=>101|0=>0|27=>100|33=>83|4=>4|n=>n,g:=λx=>x}
def Tryq.rO:SlLaysZ.n7 prog rP:=by
 constructor
 case mixed=>kernel_rfl
 case f7=>exact⟨Tryz.f46.name,Ä,fq func46.1 Ä⟩
 case f10=>exact⟨Tryz.f74.name,Ä,fq func74.1 Ä⟩
 all_goals (intros;simp[rP])
def Tryq.mH:Ren:={f:=λx=>match x with|6=>45|8=>72|9=>73|11=>121|13=>123|12=>122|23=>187|24=>188|14=>178|15=>179|16=>180|17=>181|18=>182|19=>183|20=>184|21=>185|22=>186|25=>236|26=>237|27=>238|28=>239|29=>240|30=>241|31=>266|n=>n,t:=λx=>match x with|26=>9|28=>101|24=>49|0=>0|3=>3|37=>162|48=>243|50=>240|4=>4|40=>252|39=>251|45=>256|5=>5|9=>9|51=>308|55=>311|57=>339|58=>340|33=>83|n=>n,g:=λx=>x}
def Tryq.tY:SlLaysZ.n6 prog mH:=by
 constructor
 case mixed=>kernel_rfl
 case f6=>exact⟨Tryz.f45.name,Ä,fq func45.1 Ä⟩
 case f8=>exact⟨Tryz.f72.name,Ä,fq func72.1 Ä⟩
 case f11=>exact⟨Tryz.f121.name,Ä,fq func121.1 Ä⟩
 case i26=>kernel_rfl
 all_goals (intros;simp[mH])
def Tryq.rT:Ren:={f:=λx=>match x with|6=>73|8=>123|9=>122|19=>187|20=>188|21=>178|22=>179|23=>180|24=>181|25=>182|26=>183|27=>184|28=>185|29=>186|36=>236|31=>237|32=>238|37=>239|38=>240|39=>241|41=>266|n=>n,t:=λx=>match x with|27=>49|29=>9|3=>3|32=>162|26=>49|0=>0|44=>243|46=>240|4=>4|36=>252|35=>251|41=>256|5=>5|9=>9|53=>308|57=>311|63=>339|64=>340|n=>n,g:=λx=>x}
def Tryq.rS:SlLaysM.n6 prog rT:=by
 constructor
 case mixed=>kernel_rfl
 case f6=>exact⟨Tryz.f73.name,Ä,fq func73.1 Ä⟩
 case f8=>exact fq func123.1 Ä
 case f9=>exact⟨Tryz.f122.name,Ä,fq func122.1 Ä⟩
 case f19=>exact fq func187.1 Ä
 case f20=>exact fq func188.1 Ä
 case f21=>exact⟨Tryz.f178.name,Ä,fq func178.1 Ä⟩
 case f22=>exact⟨Tryz.f179.name,Ä,fq func179.1 Ä⟩
 case f23=>exact⟨Tryz.f180.name,Ä,fq func180.1 Ä⟩
 case f24=>exact⟨Tryz.f181.name,Ä,fq func181.1 Ä⟩
 case f25=>exact⟨Tryz.f182.name,Ä,fq func182.1 Ä⟩
 case f26=>exact⟨Tryz.f183.name,Ä,fq func183.1 Ä⟩
 case f27=>exact⟨Tryz.f184.name,Ä,fq func184.1 Ä⟩
 case f28=>exact⟨Tryz.f185.name,Ä,fq func185.1 Ä⟩
 case f29=>exact⟨Tryz.f186.name,Ä,fq func186.1 Ä⟩
 case f31=>exact fq func237.1 Ä
 case f32=>exact fq func238.1 Ä
 case f36=>exact⟨Tryz.f236.name,Ä,fq func236.1 Ä⟩
 case f37=>exact⟨Tryz.f239.name,Ä,fq func239.1 Ä⟩
 case f38=>exact⟨Tryz.f240.name,Ä,fq func240.1 Ä⟩
 case f39=>exact⟨Tryz.f241.name,Ä,fq func241.1 Ä⟩
 case f41=>exact⟨Tryz.f266.name,Ä,fq func266.1 Ä⟩
 all_goals (intros;simp[rT])
end A
namespace P
variable{w w':Zy}{m B:aD}{L:KV}{S:ZP}{k n:U}{t:Zt}{X:Zv}{C:Za}{c:Vk}{D:bA Vk}{x:Zl}
open A.Tryq Go.RowKit
section
open Go.Maps Go.Sort Go.Shelf Go.MapKept
def CN(_:Zv):dD<|DataW aD×bA MemPlace:=ac (.nil,[])
def YP{y:Type}(p):∀e:bA<|Lit×DataW y,(DataW.insert p e).Perm (p::e)
 |[]=>by simp[DataW.insert]|q::e=>by unfold DataW.insert;split;simp;exact((YP p e).cons q).trans<|.swap ..
def Ig{y:Type}:∀e:bA<|Lit×DataW y,(e.foldr DataW.insert []).Perm e
 |[]=> .refl _|p::e=>(YP p _).trans<|(Ig e).cons p
abbrev LL:U->U->ez:=λx y=>bR (x<=y)
def YZ{l y:bA U}(h:l.Perm y):l.mergeSort LL=y.mergeSort LL:=mergeSort_of_perm_i h
def kh(x:U):Prop:=-9223372036854775808<=x/\x<=9223372036854775807
def sH.uR{L}(h:sH w m L)(hk:∀p∈L,kh p.1)(g:T L<=pu):
  ∃D:DataW aD,w.ownsMap prog 3 CN m (T L) D/\pz D=T L/\(intKeys D).Perm (L.map (·.1)):=by
 have⟨j,y,i,s,W⟩:=h;have d:V j=T L:=by have:=gv T s;simpa using this
 have b:∀x∈eV j,∃p∈L,x.key=Q bB p.1/\pw prog 3 CN x=ac (.int bB p.1,.nil):=λx e=>by
  have⟨p,r,z,_⟩:=H' s x e;refine⟨p,r,z,?_⟩;have f:(Lit.int bB p.1).wf=ay:=by have⟨u,o⟩:=hk p r;simp[Lit.wf];exact⟨u,o⟩
  simp[pw,z,keyOf,mapKey,fR,f,CN]
 refine⟨_,⟨j,y,i,⟨À,W,λx e=>Á⟩,À,O⟩,?_,?_⟩;simp[Maps.size_eq];rw[(Ig _).length_eq];grind;simp[intKeys];apply((Ig _).map _).trans;rw[Wj];have:∀(l:bA eF) (L:Xv),pW l L->(∀x∈l,∃p∈L,x.key=Q bB p.1)->(∀x∈l,x∈eV j)->l.map ((λp=>Go.intOf p.1)∘WideElems.rg prog 3 CN)=L.map (·.1):=by
  intro l;induction l with
  |nil=>intro L c _ _;cases L with|nil=>rfl|cons p L=>grind [LF]
  |cons x l I=>
   intro L c _ a;cases L with
   |nil=>grind [pW]
   |cons p L=>
    have⟨A,G,P⟩:=FP c;have⟨q,_,v,F⟩:=b x (a x Â);have:p.1=q.1:=by rw[A]at v;injection v
    rw[Js,Js];refine congr (gv List.cons ?_) ?_;rw[Function.comp_apply,WideElems.rg_of F,this];rfl;grind [H']
 grind
def xu9(m):AnyZI.SortsIn prog mG gI m:=
 ⟨λy d a f W e b c=>callsIn_wide.2<|AnyM.slices_Sort_int rQ y d a f W e b c,
 λp a W=>callsIn_wide.2<|AnyM.slices_Sort_int_none rQ p a W⟩
def Zk(L:Xv):bA U:=(L.map (·.1)).mergeSort LL
def xb1(D d w)(h:Jt w D d)(hk:∀p∈d.L,kh p.1)(l:T d.L<=1000000):
  aK prog 75 #[K D] w λe w'=>∃v,e=ai v/\w'.ownsRow (V<|Z' w) 3 1 v (T (Zk d.L)) ((Zk d.L).map encZ)/\aP (V<|Z' w) w w':=by
 apply(callsIn_wide (n:=6)).1;have⟨P,z,G,u⟩:=h.jS.uR hk (by grind [pu]);have c:pz P<=pu:=by rw[G];simp[pu];omega
 have b:pz P*8<=140737488355328:=by rw[G];omega
 have f:SeqGives gI 2 prog 191 #[aU _] encZ (λi=>i.Perm _) _<|aF w<|au #[fu<|some d.M] 130:=
  AnyZI.keys_gives (ρ:=pg) {rN with} gI _ bD O À (V<|Z' w) d.M _ P _ Â Â (by have⟨A,F,j,I,l,hD⟩:=z;exact⟨A,F,(Xj _ _ d.M z.lt).trans j,I,l,hD⟩)
 have o:Fence.wide.fn 125:=bD;have q:Fence.wide.fn 124:=bD;have t:N w (zq D 1)=(fu<|some d.M):=h.bT.i 1 O;refine callsIn_of_wp func75.1 O bD ?_ O;simp only[Tryz.ntmps75,jd,xg,qy,jY,lh,qu,qw,Xa,Zh,qj,qg]
 gi_wp2_with (first
  |(gi_at_call 125;apply((λs W=>AnyZI.keys_in rN gI 5 bD O s W) _ _).mono;rintro e w'⟨rfl,rfl⟩)
  |(gi_at_call 124;apply(AnyZI.sorted_in tX gI 5 bD bD bD bD O À (xu9 _) (enters_of func190.1 Ä O) 191 #[aU _] bD (enters_of func191.1 Ä O) _ _ c b _ f).mono;rintro e w'⟨v,i,rfl,m,a,k,j⟩))
 go_ret;have g:i.mergeSort (λx y=>bR (x<=y))=Zk d.L:=YZ<|m.trans u;rw[g]at a;have r:T i=T (Zk d.L):=by rw[<-g];exact(Xo i _).length_eq.symm
 rw[r]at a;exact⟨v,O,ownsRow_base_a a Â,((zt _ w).alloc (zd _) _).trans<|j.mono Â⟩
end
section
attribute [local go_sem] zn zg
attribute [local go_sem] PK PL
def If(w:Zy)(g:aD)(y:bA U):Prop:=∀i (h:i<T y),N w (zq g i)=J y[i]
def If.y{g y}(h:If w g y)(a:zj S w w')(c:¬S g):If w' g y:=λi b=>a.i c<|h i b
def oQ(L:Xv):Prop:=∀p∈L,kh p.1/\0<=p.2.2/\p.2.2<=(T p.2.1:aD)/\T p.2.1<=1000000
structure rU(L:Xv):Prop where
 fU:oQ L
 bF:T L<=1000000
def Ve{L v}:Xm L k=ac v->(k,v)∈L:=by
 induction L with
 |nil=>intro h;cases h
 |cons p L I=>grind [Xm]
def YA{L v p}:p∈ol L k v->p=(k,v)\/p∈L:=by induction L with|nil=>grind [ol]|cons q L I=>grind [ol]
theorem LO{L p}:p∈nS L k->p∈L:=by induction L with|nil=>exact id|cons q L I=>grind [nS]
theorem YJ(L k v):T (ol L k v)<=T L+1/\((Xm L k).isSome->T (ol L k v)=T L):=by induction L with|nil=>simp[ol,Xm]|cons q L I=>grind [ol,Xm]
theorem PT(L k):T (nS L k)<=T L:=by induction L with|nil=>simp[nS]|cons q L I=>grind [nS]
def Zm(L:Xv)(n:U):Zl×U:=(Xm L n).getD ([],0)
def oQ.mJ{L}(h:oQ L)(n):0<=(Zm L n).2/\(Zm L n).2<=(T (Zm L n).1:aD)/\T (Zm L n).1<=1000000:=by unfold Zm;cases y:Xm L n with|none=>simp|some v=>exact(h _<|Ve y).2
def oQ.np{L}(h:oQ L){f:Zl×U}(c:kh n)(b:0<=f.2/\f.2<=(T f.1:aD)/\T f.1<=1000000):oQ<|Vm L n f:=by unfold Vm;split;exact λp a=>h p<|LO a;intro p a;obtain rfl|a:=YA a;grind;exact h p a
def Wx(t:U)(f:Zl×U):U:=f.2+min t ((T f.1:aD)-f.2)
def gK(t:U)(L:Xv)(n:U):Xv:=Vm L n ((Zm L n).1.take (bL (Wx t<|Zm L n)),T ((Zm L n).1.take (bL (Wx t<|Zm L n))))
def uT(t:U)(L:Xv):Xv:=(Zk L).foldl (gK t) L
def zz4{t}{f:Zl×U}(a:0<=t)(h:0<=f.2/\f.2<=(T f.1:aD)):0<=Wx t f/\Wx t f<=(T f.1:aD):=by unfold Wx;omega
theorem YL{L}(h:k≠n):Xm (nS L n) k=Xm L k:=by induction L with|nil=>rfl|cons q L I=>grind [nS,Xm]
theorem zwg{L v}(h:k≠n):Xm (ol L n v) k=Xm L k:=by induction L with|nil=>simp[ol,Xm,h]|cons q L I=>grind [ol,Xm]
theorem YO{L f}(h:k≠n):Xm (Vm L n f) k=Xm L k:=by grind [Vm,YL,zwg]
def oQ.gK{L:Xv}{t:U}(h:oQ L)(b:0<=t)(a:kh n):oQ<|gK t L n:=by have y:=h.mJ n;refine h.np a ⟨Â,Â,?_⟩;grind
def zn0{L}(h:k∈L.map (·.1)):(Xm L k).isSome:=by
 induction L with
 |nil=>cases h
 |cons q L I=>grind [Xm]
theorem PN{L}:k∈Zk L↔k∈L.map (·.1):=(Xo _ _).mem_iff
def LP(L):T (Zk L)=T L:=by grind [Zk,List.length_mergeSort]
def LN(D d w)(h:Jt w D d)(hk:rU d.L):
  aK prog 75 #[K D] w λe w'=>∃p g cap,e=ai (aB p (T (Zk d.L)) cap)/\(Zk d.L≠[]->p=ac ⟨g,0,aw⟩)/\V (Z' w)<=g/\If w' g (Zk d.L)/\aP (V<|Z' w) w w':=by
 apply(xb1 D d w h (λp n=>(hk.fU p n).1) hk.bF).mono;rintro e w'⟨v,rfl,⟨s,m⟩,j⟩;obtain⟨rfl,k⟩|⟨g,cap,a,rfl,l,r,t,q,y,o⟩:=m;have c:=jv k;rw[c];exact⟨aw,V<|Z' w,0,O,λx=>dC O x,zd _,λi b=>dC b Â,j⟩;refine⟨_,g,cap,O,λ_=>O,l,λi b=>?_,j⟩;have:a.toList[i]?=J (Zk d.L)[i]:=by
  have f:(a.toList.take<|T (Zk d.L)*1)[i]?=J (Zk d.L)[i]:=by rw[o];simp[b,encZ]
  rw[Kx]at f;simpa[b]using f
 grind [N]
def xtp(D d t)(X:0<=t)(h2:kh t)(w)(h:Jt w D d)(hk:rU d.L):
  aK prog 208 #[K D,J t] w λe w'=>e=ai (cE #[])/\zj (·=d.M) w w'/\Jt w' D {d with L:=uT t d.L}:=by
 have P:=h;have s:=hk;have bb:=h.jS.lt;go_enter func208.1,Tryz.ntmps208;go_wp2;apply(LN D d w P s).mono;rintro e w1⟨p,g,ba,rfl,hp,hg,o,b⟩;have h3:=P.y (zj.J b) λ_ _=>id;have hx:g≠d.M:=À
 have HL:T (Zk d.L)<=1000000:=by show _<=_;rw[LP];exact s.bF
 go_wp2;go_loopw [11] (λi wr=>∃k:aD,k<=T (Zk d.L)/\i=J k/\zj (·=d.M) w1 wr/\Jt wr D {d with L:=((Zk d.L).take k).foldl (gK t) d.L}/\oQ (((Zk d.L).take k).foldl (gK t) d.L)) (λi _=>bL (T (Zk d.L)-bZ i));exact⟨0,À,O,zj.refl _ _,É,by simpa using s.fU⟩;obtain⟨k,hk,rfl,F,r,A⟩:=hrel;by_cases m:k<T (Zk d.L)
 ·have i1:(k:U)<(T (Zk d.L):aD):=by omega
  have ho:=hp (λe=>Á);subst ho;have hc:=(o.y F hx) k m;have h1:H<|((Zk d.L).take<|k+1).foldl (gK t) d.L=gK t (((Zk d.L).take k).foldl (gK t) d.L) (Zk d.L)[k]:=by show _=_;rw[zp m,Kw];rfl
  have HI:kh (Zk d.L)[k]:=by have W:(Zk d.L)[k]∈Zk d.L:=Xk _;rw[PN]at W;have⟨q,hq,e⟩:=Xe.1 W;rw[<-e];exact(s.fU q hq).1
  have S:=F;generalize((Zk d.L).take k).foldl (gK t) d.L=L1 at*;generalize(Zk d.L)[k]=n at*;have a:=Ia yB fR Ii r.jS n;have B:H<|gK t L1 n=Vm L1 n ((Zm L1 n).1.take (bL (Wx t<|Zm L1 n)),T ((Zm L1 n).1.take (bL (Wx t<|Zm L1 n)))):=O;have hd:=A.mJ n;have⟨j,l⟩:=zz4 X ⟨hd.1,hd.2.1⟩;change(fC 130 (fu<|some d.M) (J n) ao).run prog wr=dG (nR<|Zm L1 n) wr at a;revert l j hd B a;generalize Zm L1 n=f;have⟨x,fl⟩:=f;intro B hd j l a;unfold nR at a;simp only at hd;have c1:N wr (zq D 1)=(fu<|some d.M):=r.bT.i 1 O;have cs:=h2;unfold kh at cs;go_wp2;rw[vD];have C:∀y,x.take (bL (fl+min t (T x-fl)))=y->gK t L1 n=Vm L1 n (y,T y):=λy u=>by rw[B.o,<-u];rfl
  generalize u:x.take (bL (fl+min t (T x-fl)))=y;have g':=C y u;have v':=r.y (zj.E<|au #[E x,J fl] 138) λ_ _=>id;apply(Ih y _).mono;rintro e w2⟨rfl,c⟩;have v:=(S.aE<|zj.E<|au #[E x,J fl] 138).aE<|zj.J c;unfold nR;go_wp2;apply(Ik D {d with L:=L1} n (y,T y) _<|v'.y (zj.J c) λ_ _=>id).mono;rintro e w3⟨rfl,G,es⟩;have z:Jt w3 D {d with L:=gK t L1 n}:=by show Jt _ _ _;rw[g'];exact es
  go_wp2;go_roundw;exact⟨k+1,À,Å,v.aE G,by rw[h1.o];exact z,by rw[h1.o];exact A.gK X HI⟩;exact Ì
 have I:k=T (Zk d.L):=À
 subst I;have HE:Jt wr D {d with L:=uT t d.L}:=by show Jt _ _ _;rw[jz]at r;exact r
 have S:=(zj.J b).aE F;go_wp2;go_end0;simp_all
end
section
attribute [local go_sem] zn zg
def xP(X:Zv)(w:Zy):Prop:=∃t x,X=iW t x/\N w (zq 0 0)=ac X
def xP.y(h:xP X w)(b:zj S w w')(a:¬S 0):xP X w':=zc7
structure jW(D:aD)(d:Dk):Prop where
 fW:rU d.L
 nx:∀c,d.nx=ac c->kh c.2.1/\0<=c.2.2/\kh c.2.2
 sI:¬d.cN D 0
def Dk.dZ(d:Dk):Dk:=match d.nx with
 |none=>d|some c=>{d with nx:=ac (c.1,c.2.1-1,c.2.2)}
def Dk.cS(d:Dk):ez:=match d.nx with
 |none=>ao|some c=>bR (c.2.1<=0)
def Dk.eS(d:Dk):Dk:=match d.nx with
 |none=>d|some c=>{d with nx:=aw,L:=uT c.2.2 d.L}
def PQ(X:Zv)(D:aD)(d:Dk)(w:Zy)(e:kH)(w':Zy):Prop:=
 zj (d.cN D) w w'/\((e=ai (cE #[])/\Jt w' D d.dZ/\H (d.cS=ao))\/(e=kn X/\Jt w' D d.eS/\H (d.cS=ay)))
def Ij(D d w)(h:Jt w D d)(hk:jW D d)(l:xP X w):aK prog 158 #[K D] w<|PQ X D d w:=by
 have⟨room,u,L,nx⟩:=d;have i:=h.bT.i 2 O;cases nx with
 |none=>have n:N w (zq D 2)=aU aw:=i;have m:PQ X D ⟨room,u,L,aw⟩ w (ai<|cE #[]) w:=⟨zj.refl _ _,aJ ⟨O,h,O⟩⟩;clear h hk l i;go_enter func158.1,Tryz.ntmps158;go_wp2;go_end0;exact m
 |some c=>
  have⟨c,a,t⟩:=c;have b:=h.ku _ O;have q:c≠D:=by intro v;have o:=h.bT;subst v;unfold xh at o b;rw[o]at b;cases b
  have n:N w (zq D 2)=K c:=i;have hd:N w (zq c 0)=J a:=b.i 0 O;have h1:N w (zq c 1)=J t:=b.i 1 O;have⟨ha,ht0,ht⟩:=hk.nx _ O;by_cases y:0<a
  ·have W:-9223372036854775808<=a/\a<=9223372036854775807:=ha;have m:PQ X D ⟨room,u,L,ac (c,a,t)⟩ w (ai<|cE #[])<|M w (zq c 0)<|J<|a-1:=by refine⟨(zj.H w (zq c 0) _).U λx j=>Y (Y ⟨_,O,j⟩),aJ ⟨O,⟨?_,?_,?_⟩,?_⟩⟩;exact h.bT.dR (Ne.symm q) _;refine h.jS.y (zj.H w (zq c 0) _) ?_;intro v;have⟨es,k,o,_⟩:=h.jS;grind [xh];intro F f;cases f;exact b.H 0 _;show Dk.cS _=ao;simp[Dk.cS];omega
   have h2:=b.dS 0;have I:a-1<=9223372036854775807:=À
   clear h hk l i b ha ht0 ht W;go_enter func158.1,Tryz.ntmps158;go_wp2;go_end0;exact m
  have s:=hk;have B:=l;have C:=ht;have hx:=h.bT.dS 2;have P:H<|Dk.cS ⟨room,u,L,ac (c,a,t)⟩=ay:=by show Dk.cS _=ay;simp[Dk.cS];omega
  have A:Jt (M w (zq D 2)<|aU aw) D ⟨room,u,L,aw⟩:=by refine⟨h.bT.H 2 _,?_,λF f=>by cases f⟩;exact h.jS.y (zj.H w (zq D 2) _) h.Ba
  have z:zj (Dk.cN D ⟨room,u,L,ac (c,a,t)⟩) w<|M w (zq D 2)<|aU aw:=(zj.H w (zq D 2) _).U λx j=>aJ j;clear h hk l i b ha ht;go_enter func158.1,Tryz.ntmps158;go_wp2;refine(xtp D ⟨room,u,L,aw⟩ t ht0 C _ A s.fW).mono ?_;rintro e ho⟨rfl,p,r⟩;have g:=z.aE<|p.U λx j=>Y (aJ j);obtain⟨S,x,rfl,G⟩:=B.y g s.sI;go_wp2;exact⟨O,g,Y ⟨O,r,P.o⟩⟩
end
section
attribute [local go_sem] zn zg
attribute [local go_sem] PK PL
def vF(X:Zv)(D:aD)(d:Dk)(l:Xv)(w:Zy)(e:kH)(w':Zy):Prop:=
 zj (d.cN D) w w'/\((e=ai (cE #[])/\Jt w' D {d.dZ with L:=l}/\H (d.cS=ao))\/(e=kn X/\Jt w' D d.eS/\H (d.cS=ay)))
def Dk.mI(d:Dk):d.dZ.L=d.L:=za4
theorem Dk.nU(d:Dk):d.dZ.M=d.M:=za4
theorem Dk.kO(d:Dk)(D x):d.dZ.cN D x↔d.cN D x:=by grind [Dk.cN,Dk.dZ]
def PR(D d n w)(h:Jt w D d)(hk:jW D d)(i:xP X w):aK prog 109 #[K D,J n] w<|vF X D d (nS d.L n) w:=by
 go_enter func109.1,Tryz.ntmps109;go_wp2;apply(Ij D d w h hk i).mono;rintro e w1⟨b,c⟩;obtain⟨rfl,a,f⟩|⟨rfl,a,f⟩:=c;rotate_left;exact⟨O,b,Y ⟨O,a,f⟩⟩;have j:N w1 (zq D 1)=(fu<|some d.dZ.M):=a.bT.i 1 O;have⟨W,q,y,z⟩:=WZ yB fR a.jS 0 3 n;have g:vF X D d (nS d.L n) w (ai<|cE #[]) W:=by refine⟨b.aE<|y.U λx k=>Y (aJ aM),aJ ⟨O,?_,f⟩⟩;rw[<-Dk.mI];exact a.qQ (S:=λ_=>False) y z
 go_wp2;go_end0;exact g
def uS(D d n x w)(h:Jt w D d)(hk:jW D d)(o:xP X w):aK prog 177 #[K D,J n,E x] w<|vF X D d (Vm d.L n (x,T x)) w:=by
 go_enter func177.1,Tryz.ntmps177;go_wp2;apply(Ij D d w h hk o).mono;rintro e w1⟨b,k⟩;obtain⟨rfl,a,l⟩|⟨rfl,a,l⟩:=k;rotate_left;exact⟨O,b,Y ⟨O,a,l⟩⟩;go_wp2;apply(Ih x _).mono;rintro e r⟨rfl,c⟩;have f:=b.aE<|zj.J c;have g:=a.y (zj.J c) λ_ _=>id;go_wp2;apply(Ik D d.dZ n _ _ g).mono;rintro e p⟨rfl,i,j⟩;have m:vF X D d (Vm d.L n (x,T x)) w (ai<|cE #[]) p:=by refine⟨f.aE<|i.U λy q=>Y (aJ aM),aJ ⟨O,?_,l⟩⟩;rw[<-Dk.mI];exact j
 go_wp2;go_end0;exact m
def YH(D d n w)(h:Jt w D d)(hk:jW D d)(p:xP X w):aK prog 100 #[K D,J n] w<|vF X D d (Vm d.L n (jp d.L n,T (jp d.L n))) w:=by
 go_enter func100.1,Tryz.ntmps100;go_wp2;apply(Ij D d w h hk p).mono;rintro e w1⟨b,k⟩;obtain⟨rfl,a,l⟩|⟨rfl,a,l⟩:=k;rotate_left;exact⟨O,b,Y ⟨O,a,l⟩⟩;have r:=a.bT.i 1 O;have m:=Ia yB fR Ii a.jS n;rw[Dk.mI]at m;change _=dG (bY #[E<|jp d.L n,_]) _ at m;go_wp2;apply(Ih (jp d.L n) _).mono;rintro e t⟨rfl,c⟩;have g:=b.aE<|zj.J c;have i:=a.y (zj.J c) λ_ _=>id;go_wp2;apply(Ik D d.dZ n (jp d.L n,T (jp d.L n)) _ i).mono;rintro e q⟨rfl,j,f⟩;have o:vF X D d (Vm d.L n (jp d.L n,T (jp d.L n))) w (ai<|cE #[]) q:=by refine⟨g.aE<|j.U λy s=>Y (aJ aM),aJ ⟨O,?_,l⟩⟩;rw[Dk.mI]at f;exact f
 go_wp2;go_end0;exact o
def YF(D d n x)(hx:T x<=1000000)(w)(h:Jt w D d)(hk:jW D d)(s:xP X w):aK prog 99 #[K D,J n,E x] w<|vF X D d (Vm d.L n (jp d.L n++x,(Zm d.L n).2)) w:=by
 have t:=(hk.fW.fU.mJ n).2.2;go_enter func99.1,Tryz.ntmps99;go_wp2;apply(Ij D d w h hk s).mono;rintro e w1⟨b,m⟩;obtain⟨rfl,a,o⟩|⟨rfl,a,o⟩:=m;rotate_left;exact⟨O,b,Y ⟨O,a,o⟩⟩;have B:N w1 (zq D 1)=(fu<|some d.dZ.M):=a.bT.i 1 O;have g:=Ia yB fR Ii a.jS n;rw[Dk.mI]at g;change _=dG (nR<|Zm d.L n) _ at g;obtain⟨⟨y,j⟩,l⟩:∃f,Zm d.L n=f:=⟨_,O⟩;have r:H<|jp d.L n=y:=by show(Zm d.L n).1=y;rw[l]
 rw[l]at g t;unfold nR at g;go_wp2;have p:=a.y (zj.E<|au #[E y,J j] 138) λ_ _=>id;have i:=b.aE<|zj.E<|au #[E y,J j] 138;apply(Ik D d.dZ n (y++x,j) _ p).mono;rintro e v⟨rfl,k,c⟩;have q:vF X D d (Vm d.L n (jp d.L n++x,(Zm d.L n).2)) w (ai<|cE #[]) v:=by refine⟨i.aE<|k.U λz C=>Y (aJ aM),aJ ⟨O,?_,o⟩⟩;rw[Dk.mI]at c;rw[r.o,l];exact c
 go_wp2;go_end0;exact q
def xwt(D d n m w)(h:Jt w D d)(hk:jW D d)(t:xP X w)(B:m<=T (jp d.L n)):aK prog 108 #[K D,J n,J m] w<|vF X D d (Vm d.L n ((jp d.L n).take m,T ((jp d.L n).take m))) w:=by
 go_enter func108.1,Tryz.ntmps108;go_wp2;apply(Ij D d w h hk t).mono;rintro e w1⟨b,o⟩;obtain⟨rfl,a,p⟩|⟨rfl,a,p⟩:=o;rotate_left;exact⟨O,b,Y ⟨O,a,p⟩⟩;have x:=a.bT.i 1 O;have r:=Ia yB fR Ii a.jS n;rw[Dk.mI]at r;change _=dG (bY #[E<|jp d.L n,_]) _ at r;have q:∀y,(jp d.L n).take m=y->Vm d.L n ((jp d.L n).take m,T ((jp d.L n).take m))=Vm d.L n _:=λy g=>by rw[g]
 go_wp2;rw[vD];generalize g:(jp d.L n).take m=y;have k:=q y g;rw[<-g]at k;apply(Ih y _).mono;rintro e u⟨rfl,c⟩;have i:=b.aE<|zj.J c;have j:=a.y (zj.J c) λ_ _=>id;go_wp2;apply(Ik D d.dZ n _ _ j).mono;rintro e v⟨rfl,l,f⟩;have s:vF X D d (Vm d.L n ((jp d.L n).take m,T ((jp d.L n).take m))) w (ai<|cE #[]) v:=by refine⟨i.aE<|l.U λz C=>Y (aJ aM),aJ ⟨O,?_,p⟩⟩;rw[Dk.mI]at f;rw[(q y g)];exact f
 go_wp2;go_end0;exact s
end
section
attribute [local go_sem] zn zg
def xsj(r w):aK prog 57 #[J r] w λe w'=>e=ai (K<|V (Z' w)+1)/\V (Z' w')=V (Z' w)+2/\aP (V<|Z' w) w w'/\Jt w' (V (Z' w)+1) ⟨r,V<|Z' w,[],aw⟩:=by
 have f:=run_makeMap (P:=prog) 130 w;have b:sH _ (V<|Z' w) []:=⟨#[],0,xn _ _,O,MapKept.stamped_empty 0⟩;have a:V (aF w<|.map #[] 0).heap=V (Z' w)+1:=Â
 go_enter func57.1,Tryz.ntmps57;go_wp2;go_ret;refine⟨O,Â,((zt _ _).alloc (zd _) _).trans<|((zt _ _).alloc (zd _) _).mono Â,?_,?_,λc d=>by cases d⟩;have:=xh.ex (aF w<|.map #[] 0) #[J r,fu<|some (V<|Z' w),aU aw] 132;rw[a]at this;exact this;exact b.y (S:=λ_=>False) (zj.E _) id
def CM:Zv->U
 | bY a=>match(a[0]?:dD Zv)with
  |some (ak s)=>(s.size:U)|_=>0
 |_=>0
theorem PS(v):CM (nR v)=(T v.1:aD):=by simp[CM,nR,zn]
def rD:bA eF->bE aD->U
 |[],_=>0|x::l,seen=>(if seen.contains x.born then CM x.val else 0)+rD l seen
theorem YR(s b):∀(y:bA eF),b∉y.map (·.born)->rD y (s.push b)=rD y s
 |[],_=>rfl|x::l,h=>by have a:¬x.born=b:=λe=>h (by simp[e]);simp[rD,YR s b l λe=>h<|jc.2<|Or.inr e,a]
def YX(s e)(b:s.contains e.born=ao):∀(y:bA eF),(y.map (·.born)).Nodup->e∈y->rD y (s.push e.born)=rD y s+CM e.val
 |[],_,h=>È
 |x::l,z,h=>by have a:=On.1 z;obtain rfl|h:=jc.1 h;grind [YR,rD];have c:¬x.born=e.born:=λq=>a.1<|Xe.2 ⟨e,h,q.symm⟩;have d:=YX s e b l a.2 h;grind [rD]
def YV(s):∀(z:bA eF),(∀x∈z,s.contains x.born=ay)->rD z s=(z.map λe=>CM e.val).sum
 |[],_=>rfl|x::l,h=>by have b:=YV s l λy a=>h y<|jc.2<|Or.inr a;grind [rD]
def YW:∀(e:bA eF),rD e #[]=0
 |[]=>rfl|x::l=>by simp[rD,YW l]
def YE(s):∀(e:bA eF),(∀x∈e,0<=CM x.val/\CM x.val<=1000000)->0<=rD e s/\rD e s<=1000000*T e
 |[],_=>by simp[rD]|x::l,h=>by have b:=YE s l λy a=>h y<|jc.2<|Or.inr a;grind [rD]
def bO(L:Xv):U:=(L.map λp=>(T p.2.1:Int)).sum
def YY:∀{y:bA eF} {L:Xv},pW y L->(y.map λe=>CM e.val).sum=bO L
 |[],[],_=>rfl|[],_::_,h=>(LF h).elim
 |e::y,[],h=>by grind [pW]|e::y,p::L,h=>by obtain⟨b,c,a⟩:=FP h;have d:=YY a;grind [bO,PS]
def YK(D d w)(h:Jt w D d)(hk:rU d.L)(hx:-1000000000000000<=d.bU)(S:d.bU<=1000000000000000):
  aK prog 97 #[K D] w λe w'=>e=ai (J<|d.bU-bO d.L)/\aP (V<|Z' w) w w':=by
 have ho:N w (zq D 0)=J d.bU:=h.bT.i 0 O;have u:=h.bT.i 1 O;have⟨es,clock,hm,hent,hst⟩:=h.jS;have q:=(za.1 hm).1;have cs:=run_range_map (P:=prog) w 130 3 138 d.M es clock yB hm;have C:=hst;have A:=hm;have hd:∀x∈eV es,∃v:Zl×U,x.val=nR v/\T v.1<=1000000:=λx s=>by have⟨p,hp,_,e⟩:=H' hent x s;exact⟨p.2,e,(hk.fU p hp).c⟩
 have g':T es.toList<=1000000:=by have:=gv T hent;simp only[jl]at this;rw[this];exact hk.bF
 go_enter func97.1,Tryz.ntmps97;go_wp2;generalize hw0:aF w _=w0;have B:H<|w0.heap[V (Z' w)]?=ac (.mapIter (ac d.M) clock #[] clock):=by show _=_;rw[<-hw0];exact xn _ _
 have z:aP (V<|Z' w) w w0:=by show aP _ _ _;rw[<-hw0];exact(zt _ _).alloc (zd _) _
 go_loopw [3] (λx wr=>∃a u,x=J (d.bU-rD (eV es) a)/\clock<=u/\wr.heap[V (Z' w)]?=ac (.mapIter (ac d.M) clock a u)/\aP (V<|Z' w) w wr) (λ_ wr=>match wr.heap[V (Z' w)]?with
  |some (.mapIter _ _ a _)=>V (Go.leftOf es a)|_=>0)
 exact⟨#[],clock,by simp[YW],zd _,B.o,z⟩;obtain⟨a,h1,rfl,F,o,j⟩:=hrel;obtain⟨hz,hnx⟩|⟨x,s,w1,hw1,hnx⟩:=run_next_at (P:=prog) wr 0 (V<|Z' w) d.M clock h1 a es clock o ((j.block _ q).trans A) C.1 F
 ·have I:H<|d.bU-rD (eV es) a=d.bU-bO d.L:=by show _=_;rw[YV a (eV es)<|all_seen es a hz,YY hent]
  go_wp2;go_ret;exact⟨by rw[I.o];rfl,j⟩
 have b:x∈eV es/\a.contains x.born=ao:=by simp only[Go.leftOf,Array.toList_filter,Ja]at s;exact⟨s.1,Á⟩
 have⟨v,hv,hvl⟩:=hd x b.1;have c:H<|rD (eV es) (a.push x.born)=rD (eV es) a+(T v.1:aD):=by show _=_;rw[YX a x b.2 (eV es) C.2.1 b.1,hv,PS]
 have f:=YE (a.push x.born) (eV es) (λy W=>by grind [PS]);rw[c.o]at f;have v':=left_shrinks es a x s;rw[hv]at hnx;obtain⟨t,l⟩:∃t,kI w1 (V<|Z' w) (.mapIter (ac d.M) clock (a.push x.born) clock)=t:=⟨_,O⟩;rw[l]at hnx;have r:w1.heap=wr.heap:=D0
 have i:t.heap[V (Z' w)]?=ac (.mapIter (ac d.M) clock (a.push x.born) clock):=by rw[<-l];simp[kI,r,(za.1 o).1]
 have m:aP (V<|Z' w) w t:=by
  apply j.trans;rw[<-l];refine⟨D0,D0,D0,by grind [kI],λk hk=>?_⟩;have G:V (Z' w)≠k:=À
  simp[kI,r,G]
 have n:=run_entry_at (P:=prog) t (V<|Z' w) d.M clock a es clock x i ((m.block _ q).trans A) b.1 C.2.1;rw[hv]at n;have g:=(za.1 i).1;have⟨y,fl⟩:=v;unfold nR at hnx n;simp only at f;generalize x.key=xk at*;generalize rD (eV es) a=sm at*;go_wp2;have h2:=(heap_alloc_old _ (au #[E y,Q bB fl] 138) g).trans i;refine⟨⟨a.push x.born,clock,?_,zd _,h2,m.trans<|((zt _ _).alloc (zd _) _).mono<|Nat.le_of_lt g⟩,?_⟩;rw[c.o];grind;grind
structure kE where
 S:aD
 mp:aD
 L:KV
 pv:Zv
 P:bA Vk
 ep:aD
 bM:U
 aQ:U
 dB:U
 bC:U
structure Sr where
 ov:U
 mW:U
 D:aD
 d:Dk
 m:Zl
 bF:aD
 bQ:Zl
 op:aD
 sn:dD kE
def Sr.my(r:Sr):Zv:=aU (r.sn.map λs=>⟨s.S,0,aw⟩)
def Sr.G(r:Sr):Za:=#[Q bB r.ov,Q bB r.mW,aU<|some ⟨r.D,0,aw⟩,ak<|st r.m,Q bB (r.bF:U),ak<|st r.bQ,Q bB (r.op:U),r.my]
def kE.G(s:kE):Za:=#[fu<|some s.mp,s.pv,Q bB (s.ep:U),Q bB s.bM,Q bB s.aQ,Q bB s.dB,Q bB s.bC]
def kE.cN(s:kE)(x:aD):Prop:=x=s.S\/x=s.mp\/∃a n c,s.pv=aB (ac a) n c/\x=a.block
def Sr.cN(B:aD)(r:Sr)(x:aD):Prop:=x=B\/r.d.cN r.D x\/∃s,r.sn=ac s/\s.cN x
structure Bc(w:Zy)(s:kE):Prop where
 bT:xh w s.S s.G 97
 jS:Je w s.mp s.L
 iR:w.ownsRow 0 126 1 s.pv (T s.P)<|s.P.map oP
structure Vq(w:Zy)(B:aD)(r:Sr):Prop where
 bT:xh w B r.G 81
 fA:Jt w r.D r.d
 fP:∀s,r.sn=ac s->Bc w s/\s.mp≠r.d.M
def xh.ne{a b y}{c:Zt}(h:xh w a C t)(k:xh w b y c)(d:t≠c):a≠b:=by grind [xh]
def xh.gV{a b}{e c}(h:xh w a C t)(k:w.heap[b]?=ac (.map e c)):a≠b:=by grind [xh]
theorem Je.bT(h:Je w m L):∃e c,w.heap[m]?=ac (.map e c):=by have⟨e,c,h,_⟩:=h;grind
theorem sH.bT{L}(h:sH w m L):∃e c,w.heap[m]?=ac (.map e c):=by have⟨e,c,h,_⟩:=h;grind
def FX{v n z a k c}(h:w.ownsRow 0 126 1 v n z)(f:v=aB (ac a) k c):∃y,w.heap[a.block]?=ac (au y 126 (0,0))/\a=(zq a.block 0):=by obtain⟨d,_⟩|⟨g,b,y,d,_,e,_⟩:=h.2;grind;grind
def Dk.fg{D d}(h:Jt w D d){x}(hx:d.cN D x):x<V (Z' w):=by obtain rfl|rfl|⟨c,a,rfl⟩:=hx;exact h.bT.lt;exact h.jS.lt;exact(h.ku c a).lt
def kE.fg{s}(h:Bc w s){x}(hx:s.cN x):x<V (Z' w):=by obtain rfl|rfl|⟨a,n,c,b,rfl⟩:=hx;exact h.bT.lt;exact h.jS.lt;have⟨y,z,_⟩:=FX h.iR b;grind
def Sr.fg{r}(h:Vq w B r){x}(hx:r.cN B x):x<V (Z' w):=by obtain rfl|hx|⟨s,a,hx⟩:=hx;exact h.bT.lt;exact Dk.fg h.fA hx;exact kE.fg (h.fP s a).1 hx
def Vq.fh{r s}(h:Vq w B r)(g:r.sn=ac s){x}(hx:s.cN x):¬r.d.cN r.D x:=by have⟨k,q⟩:=h.fP s g;have⟨v,l,p⟩:=h.fA.jS.bT;have⟨j,u,z⟩:=k.jS.bT;obtain rfl|rfl|⟨a,n,c,i,rfl⟩:=hx;rintro(e|e|⟨c,b,e⟩);exact k.bT.ne h.fA.bT Ã e;exact k.bT.gV p e;exact k.bT.ne (h.fA.ku c b) Ã e;rintro(e|e|⟨c,b,e⟩);exact h.fA.bT.gV z e.symm;omega;exact(h.fA.ku c b).gV z e.symm;have⟨y,o,_⟩:=FX k.iR i;have f:xh w a.block y 126:=o;rintro(e|e|⟨c,b,e⟩);exact f.ne h.fA.bT Ã e;grind;exact f.ne (h.fA.ku c b) Ã e
def Vq.kP{r}(h:Vq w B r):¬r.d.cN r.D B:=by have⟨z,q,y⟩:=h.fA.jS.bT;rintro(e|e|⟨c,a,e⟩);exact h.bT.ne h.fA.bT Ã e;exact h.bT.gV y e;exact h.bT.ne (h.fA.ku c a) Ã e
def Vq.Eg{r s}(h:Vq w B r)(b:r.sn=ac s):¬s.cN B:=by have⟨k,y⟩:=h.fP s b;have⟨z,q,p⟩:=k.jS.bT;rintro(e|e|⟨a,n,c,d,e⟩);exact h.bT.ne k.bT Ã e;exact h.bT.gV p e;have⟨j,u,_⟩:=FX k.iR d;exact h.bT.ne u Ã e
def Bc.y{s}(h:Bc w s)(c:zj S w w')(d:∀x,s.cN x->¬S x):Bc w' s:=by refine⟨h.bT.y c<|d _<|aJ O,h.jS.y c<|d _<|Y<|aJ O,h.iR.1,?_⟩;obtain j|⟨g,a,b,f,i,e,r⟩:=h.iR.2;grind;exact Y ⟨g,a,b,f,i,(c.dP g (za.1 e).1<|d g<|Y<|Y ⟨_,_,_,f,O⟩).trans e,r⟩
def Vq.y{r}(h:Vq w B r)(a:zj S w w')(b:∀x,r.cN B x->¬S x):Vq w' B r:=
 ⟨h.bT.y a<|b _<|aJ O,h.fA.y a λx c=>b x<|Y<|aJ c,λs e=>⟨(h.fP s e).1.y a λx c=>b x<|Y<|Y ⟨s,e,c⟩,(h.fP s e).2⟩⟩
structure Zd(B:aD)(r:Sr)(w:Zy)(z:Sr)(w':Zy):Prop where
 y:zj (r.cN B) w w'
 dI:Vq w' B z
 cN:∀x,z.cN B x->r.cN B x\/V (Z' w)<=x
theorem Zd.refl{r}(h:Vq w B r):Zd B r w r w:=⟨zj.refl _ _,h,λ_ h=>aJ h⟩
theorem Zd.aE{r d e w1 f}(h:Zd B r w d w1)(k:Zd B d w1 e f):Zd B r w e f:=by refine⟨⟨k.y.os.trans h.y.os,k.y.cX.trans h.y.cX,xa h.y.Q k.y.Q,λi c g=>?_⟩,k.dI,λx b=>?_⟩;refine(k.y.dP i (zm c h.y.Q) λb=>?_).trans<|h.y.dP i c g;obtain a|a:=h.cN i b;grind;omega;obtain a|a:=k.cN x b;exact h.cN x a;exact Y<|xa h.y.Q a
def PO(B r w)(h:Vq w B r):aK prog 20 #[K B] w λe w'=>e=ai (J r.bF)/\w'=w:=by have a:N w (zq B 4)=J r.bF:=h.bT.i 4 O;go_enter func20.1,Tryz.ntmps20;go_wp2;go_ret;simp
def Sr.kZ(r:Sr):Sr:={r with sn:=aw}
def xll(B r w)(h:Vq w B r):aK prog 12 #[K B] w λe w'=>e=ai (J (if r.sn.isSome then 0 else 5))/\Zd B r w r.kZ w':=by
 have a:=h.bT.i 7 O;cases y:r.sn with
 |none=>
  have d:N w (zq B 7)=aU aw:=by rw[a];simp[Sr.G,Sr.my,y]
  have c:Zd B r w r.kZ w:=by
   have:r.kZ=r:=by unfold Sr.kZ;rw[<-y]
   rw[this];exact .refl h
  clear h a;go_enter func12.1,Tryz.ntmps12;go_wp2;go_ret;exact⟨O,c⟩
 |some s=>
  have d:N w (zq B 7)=K s.S:=by rw[a];simp[Sr.G,Sr.my,y]
  have f:=h.bT.dS 7;have c:Zd B r w r.kZ<|M w (zq B 7)<|aU aw:=by refine⟨(zj.H w (zq B 7) _).U λx b=>aJ b,⟨?_,?_,λs e=>Æ⟩,λx b=>?_⟩;exact h.bT.H 7 _;exact h.fA.y (zj.H w (zq B 7) _) λx b e=>h.kP Á;obtain e|e|⟨s,e,_⟩:=b;exact aJ<|aJ e;exact aJ<|Y<|aJ e;cases e
  clear h a;go_enter func12.1,Tryz.ntmps12;go_wp2;go_ret;exact⟨O,c⟩
structure LM(s:kE)(w:Zy)(z:kE)(w':Zy):Prop where
 y:zj s.cN w w'
 dI:Bc w' z
 cN:∀x,z.cN x->s.cN x\/V (Z' w)<=x
 mp:z.mp=s.mp
 S:z.S=s.S
theorem LM.st{r s y}(h:Vq w B r)(b:r.sn=ac s)(k:LM s w y w'):Zd B r w {r with sn:=ac y} w':=by
 refine⟨k.y.U λx a=>Y (Y ⟨s,b,a⟩),⟨?_,?_,λt c=>?_⟩,λx a=>?_⟩;have:Sr.G {r with sn:=ac y}=r.G:=by unfold Sr.G Sr.my;simp[b,Xl,k.S]
 rw[this];exact h.bT.y k.y<|h.Eg b;exact h.fA.y k.y λx a d=>h.fh b d a;cases c;exact⟨k.dI,by rw[k.mp];exact(h.fP s b).2⟩;obtain e|e|⟨t,c,a⟩:=a;exact aJ<|aJ e;exact aJ<|Y<|aJ e;cases c;obtain f|f:=k.cN x a;exact aJ<|Y<|Y ⟨s,b,f⟩;omega
def kE.kM(s:kE)(pv:Zv)(c:Vk):kE:={s with pv,P:=s.P++[c]}
def YQ(s c w)(h:Bc w s)(b:T s.P=20):aK prog 39 #[K s.S,oP c] w λe w'=>e=ai (J 7)/\w'=w:=by
 have⟨a,z,y,q⟩:=Wo h.iR;rw[b]at y;have d:N w (zq s.S 1)=aB a 20 z:=by rw[<-y];exact h.bT.i 1 O
 go_enter func39.1,Tryz.ntmps39;go_wp2;go_ret;simp
def Y2(s c w)(h:Bc w s)(hP:T s.P<20):aK prog 39 #[K s.S,oP c] w λe w'=>e=ai (J 0)/\∃pv,LM s w (s.kM pv c) w':=by
 have⟨i126,hi,hz0,hz1,hz2⟩:=W9;have⟨a,cap,hpv,hcap⟩:=Wo h.iR;have c1:N w (zq s.S 1)=aB a (T s.P) cap:=by rw[<-hpv];exact h.bT.i 1 O
 have l:=h;have m:=hpv;have ho:w.ownsRow 0 126 1 (aB a (T s.P) cap) (T s.P)<|s.P.map oP:=by show World.ownsRow _ _ _ _ _ _ _;rw[<-hpv];exact h.iR
 have wr:=XC c;have hS:=h.bT.lt;obtain⟨I,P,y⟩:∃I P,oP c=iW I P:=by cases c<;>exact⟨_,_,O⟩
 rw[y]at wr⊢;go_enter func39.1,Tryz.ntmps39;go_wp2_with (apply wpList_append_lies _ O _ _ 95 O 0 126 i126 .nilIface 1 16 XG hi hz0 hz1 hz2 O Ã _ (T s.P) _ O ?own (zq (V<|Z' w) 0) 1 1 [iW I P] O O ?nw ?o1 Ã ?m1 ?m2 ?m3 (V (Z' w)+1) ?m4)
 case own=>exact ho.alloc _
 case m1=>unfold pu;omega
 case m2=>omega
 case m3=>simp
 case m4=>simp
 case o1=>grind
 case nw=>intro j z A;cases j with|zero=>simp at A;subst A;simp[go_sem,Addr.add]|succ j=>grind
 intro p d v t f i ba;have B:∀q,(aB a (T s.P) cap).ownBlock=ac q->s.cN q:=by
  intro q hd;cases a with
  |none=>cases hd
  |some a=>cases hd;exact Y<|Y ⟨a,_,_,m,O⟩
 have F:zj (λx=>ac x=(aB a (T s.P) cap).ownBlock) w v:=by refine⟨f.os,f.output,xa Â f.size,λk hk cs=>?_⟩;exact(f.block k Ç cs).trans<|heap_alloc_old _ _ hk
 have g':¬ac s.S=(aB a (T s.P) cap).ownBlock:=by
  intro e;cases a with
  |none=>cases e
  |some a=>have⟨o,u,_⟩:=FX l.iR m;exact l.bT.ne u Ã<|ql e
 have G:¬ac s.mp=(aB a (T s.P) cap).ownBlock:=by
  intro e;cases a with
  |none=>cases e
  |some a=>have⟨o,u,_⟩:=FX l.iR m;have⟨es,k,hm⟩:=l.jS.bT;exact(show xh w a.block o 126 from u).gV hm (ql e).symm
 have D:=l.bT.y F g';have h1:=l.jS.y F G;have f1:=D.dS 1;have W:=D.i 1 O;have X:p≠s.S:=by obtain e|e:=i;grind;omega
 have h3:p≠s.mp:=by obtain e|e:=i;grind;have:=l.jS.lt;omega
 have v':LM s w (s.kM (aB (ac ⟨p,0,aw⟩) (T s.P+1) d) c)<|M v (zq s.S 1)<|aB (ac ⟨p,0,aw⟩) (T s.P+1) d:=by
  refine⟨?_,⟨?_,?_,?_⟩,?_,O,O⟩;exact(F.U λx C=>B x C.symm).aE<|(zj.H v (zq s.S 1) _).U λx C=>aJ C;exact D.H 1 _;exact h1.y (zj.H v (zq s.S 1) _) (λe=>by have⟨es,k,hm⟩:=h1.bT;exact D.gV hm e.symm);have:v.ownsRow 0 126 1 (aB (ac ⟨p,0,aw⟩) (T (s.P++[c])) d) (T (s.P++[c]))<|(s.P++[c]).map oP:=by rw[qz,zx];simp[Js,Fr,y];exact t
  have h2:(M v (zq s.S 1)<|aB (ac ⟨p,0,aw⟩) (T s.P+1) d).ownsRow 0 126 1 (aB (ac ⟨p,0,aw⟩) (T (s.P++[c])) d) (T (s.P++[c]))<|(s.P++[c]).map oP:=by refine⟨this.1,?_⟩;obtain u|⟨g,L,o,hx,hg,hh,r⟩:=this.2;grind;grind [zah]
  grind [kE.kM];intro x C;obtain e|e|⟨b,n,c,hx,e⟩:=C;exact aJ<|aJ e;exact aJ<|Y<|aJ e;cases hx;grind
 go_wp2;go_ret;exact⟨O,_,v'⟩
def Sr.eD(r:Sr)(o:ez)(c:Vk)(a:U)(y:Sr):Prop:=match r.sn with
 |none=>a=5/\y=r|some s=>if o=ao then a=6/\y=r else if T s.P=20 then a=7/\y=r else a=0/\∃P,y={r with sn:=ac<|s.kM P c}
def Sr.pG{r:Sr}{o}(h:r.sn=aw):r.eD o c 5 r:=za3
def Sr.nV{r:Sr}{s}(h:r.sn=ac s):r.eD ao c 6 r:=za3
theorem Sr.pF{r:Sr}{s}(h:r.sn=ac s)(a:T s.P=20):r.eD ay c 7 r:=za3
theorem Sr.rV{r:Sr}{s}(P)(h:r.sn=ac s)(a:T s.P≠20):r.eD ay c 0 {r with sn:=ac<|s.kM P c}:=za3
def oR(k:Zl):ez:=bR (0<T k/\T k<=16)
def tD(v:Zl):ez:=bR (T v<=32)
def YG(B r b c w)(h:Vq w B r)(m:∀s,r.sn=ac s->T s.P<=20):aK prog 16 #[K B,E b,E c] w λe w'=>∃a z,e=ai (J a)/\Zd B r w z w'/\r.eD (oR b&&tD c) (.put b c) a z:=by
 have j:=h.bT.i 7 O;have d:=h;cases y:r.sn with
 |none=>
  have k:N w (zq B 7)=aU aw:=by rw[j];simp[Sr.G,Sr.my,y]
  have i:r.eD (oR b&&tD c) (.put b c) 5 r:=Sr.pG y;clear h j y m;go_enter func16.1,Tryz.ntmps16;go_wp2;go_ret;exact⟨5,r,O,.refl d,i⟩
 |some s=>
  have k:N w (zq B 7)=K s.S:=by rw[j];simp[Sr.G,Sr.my,y]
  have g:=y;have p:=m s y;clear h j y m;go_enter func16.1,Tryz.ntmps16;go_wp2;apply(H8 b _).mono;rintro e w1⟨rfl,f⟩;obtain rfl:=f.symm;cases hk:bR (0<T b/\T b<=16)with
  |false=>
   have i:r.eD (oR b&&tD c) (.put b c) 6 r:=by
    have:(oR b&&tD c)=ao:=by simp[oR,hk,Fm]
    rw[this];exact Sr.nV g
   go_wp2;go_ret;exact⟨6,r,O,.refl d,i⟩
  |true=>
   go_wp2;apply(XU c _).mono;rintro e w1⟨rfl,f⟩;obtain rfl:=f.symm;cases u:bR (T c<=32)with
   |false=>
    have i:r.eD (oR b&&tD c) (.put b c) 6 r:=by
     have:(oR b&&tD c)=ao:=by simp[oR,tD,u,Vo]
     rw[this];exact Sr.nV g
    go_wp2;go_ret;exact⟨6,r,O,.refl d,i⟩
   |true=>
    have o:H<|(oR b&&tD c)=ay:=by show _=_;simp[oR,tD,u,hk,Bool.and_self]
    go_wp2;by_cases l:T s.P=20
    ·apply(YQ s (.put b c) _ (d.fP s g).1 l).mono;rintro e w1⟨rfl,rfl⟩;go_wp2;go_ret;exact⟨7,r,O,.refl d,by rw[o.o];grind [Sr.pF]⟩
    apply(Y2 s (.put b c) _ (d.fP s g).1 À).mono;rintro e w1⟨rfl,q,n⟩;go_wp2;go_ret;exact⟨0,_,O,n.st d g,by rw[o.o];grind [Sr.rV]⟩
def xh1(B r b w)(h:Vq w B r)(k:∀s,r.sn=ac s->T s.P<=20):aK prog 18 #[K B,E b] w λe w'=>∃a z,e=ai (J a)/\Zd B r w z w'/\r.eD (oR b) (.del b) a z:=by
 have f:=h.bT.i 7 O;have c:=h;cases y:r.sn with
 |none=>
  have i:N w (zq B 7)=aU aw:=by rw[f];simp[Sr.G,Sr.my,y]
  have g:r.eD (oR b) (.del b) 5 r:=Sr.pG y;clear h f y k;go_enter func18.1,Tryz.ntmps18;go_wp2;go_ret;exact⟨5,r,O,.refl c,g⟩
 |some s=>
  have i:N w (zq B 7)=K s.S:=by rw[f];simp[Sr.G,Sr.my,y]
  have d:=y;have o:=k s y;clear h f y k;go_enter func18.1,Tryz.ntmps18;go_wp2;apply(H8 b _).mono;rintro e w1⟨rfl,m⟩;obtain rfl:=m.symm;cases hk:bR (0<T b/\T b<=16)with
  |false=>
   have g:r.eD (oR b) (.del b) 6 r:=by
    have:(oR b)=ao:=by simp[oR,hk,Fm]
    rw[this];exact Sr.nV d
   go_wp2;go_ret;exact⟨6,r,O,.refl c,g⟩
  |true=>
   have n:H<|(oR b)=ay:=hk;go_wp2;by_cases j:T s.P=20
   ·apply(YQ s (.del b) _ (c.fP s d).1 j).mono;rintro e w1⟨rfl,rfl⟩;go_wp2;go_ret;exact⟨7,r,O,.refl c,by rw[n.o];grind [Sr.pF]⟩
   apply(Y2 s (.del b) _ (c.fP s d).1 À).mono;rintro e w1⟨rfl,p,l⟩;go_wp2;go_ret;exact⟨0,_,O,l.st c d,by rw[n.o];grind [Sr.rV]⟩
end
section
open Go.Maps Go.Sort Go.Shelf Go.MapKept
attribute [local go_sem] zn zg
def Je.uR(h:Je w m L)(hk:∀p∈L,T p.1<=pu)(g:T L<=pu):
  ∃D:DataW aD,w.ownsMap prog 9 CN m (T L) D/\pz D=T L/\(strKeys D).Perm (L.map (·.1)):=by
 have⟨j,y,s,u,r⟩:=h;have e:V j=T L:=by have:=gv T u;simpa using this
 have b:∀x∈eV j,∃p∈L,x.key=ak _/\pw prog 9 CN x=ac (.string p.1,.nil):=λx f=>by
  have⟨p,o,z,_⟩:=PF u x f;refine⟨p,o,z,?_⟩;have c:(ByteArray.mk (bH p.1)).size<=pu:=by simpa[ByteArray.size]using(hk p o)
  simp[pw,z,keyOf,mapKey,dK,c,CN,st]
 refine⟨_,⟨j,y,s,⟨À,r,λx f=>Á⟩,À,O⟩,?_,?_⟩;simp[Maps.size_eq];rw[(Ig _).length_eq];grind;simp[strKeys];apply((Ig _).map _).trans;rw[Wj];have:∀(l:bA eF) (L:KV),rM l L->(∀x∈l,x∈eV j)->l.map ((λp=>Go.strOf p.1)∘WideElems.rg prog 9 CN)=L.map (·.1):=by
  intro l;induction l with
  |nil=>intro L d _;cases L with|nil=>rfl|cons p L=>grind [XW]
  |cons x l I=>intro L d a;cases L with|nil=>grind [rM]|cons p L=>have⟨A,W,F⟩:=PC d;have⟨q,_,v,i⟩:=b x (a x Â);have:=XJ<|Value.string.inj<|A.symm.trans v;rw[Js,Js];refine congr (gv _ ?_) ?_;rw[Function.comp_apply,WideElems.rg_of i];exact this.symm;grind
 grind
def xva(m):AnyZ.SortsIn prog mH gI m:=
 ⟨λy d a f W e b c=>callsIn_wide.2<|AnyM.slices_Sort_string rS y d a f W e b c,
 λp a W=>callsIn_wide.2<|AnyM.slices_Sort_string_none rS p a W⟩
abbrev Bb:Zl->Zl->ez:=λx y=>bR (x<=y)
def Vv(L:KV):bA Zl:=(L.map (·.1)).mergeSort Bb
def YC(m w):aK prog 46 #[fu<|some m] w λe w'=>e=ai (.func (.func 74) #[] #[K (V<|Z' w)])/\w'=aF w (au #[fu<|some m] 91):=
 (callsIn_wide).1 (AnyZ.keys_in rO gI 5 bD O _ w)
def YB(m b L w)(h:Je w m L)(z:N w (zq b 0)=(fu<|some m))(q:b<V (Z' w))(hk:∀p∈L,T p.1<=1000000)(D:T L<=5000000):
  aK prog 45 #[.func (.func 74) #[] #[K b]] w λe w'=>∃v,e=ai v/\w'.ownsRow (V<|Z' w) 9 1 v (T (Vv L)) ((Vv L).map encStr)/\aP (V<|Z' w) w w':=by
 have⟨G,W,F,u⟩:=h.uR (λp C=>xa (hk p C)<|by grind [pu]) (by grind [pu]);have i:pz G<=pu:=by rw[F];simp[pu];omega
 have d:pz G*16<=140737488355328:=by rw[F];omega
 have j:SeqGives gI 2 prog 74 #[aU _] encStr (λg=>g.Perm _) _ w:=
  AnyZ.keys_gives {rO with} _ _ bD O À b m _ G _ q z W
 apply((callsIn_wide).1<|AnyZ.sorted_in tY _ 5 bD bD bD bD O À (xva _) (enters_of func73.1 Ä O) 74 _ bD (enters_of func74.1 Ä O) _ _ i d _ j).mono;rintro e w'⟨v,g,rfl,t,f,r,q⟩;have s:∀a b c:Zl,Bb a b=ay->Bb b c=ay->Bb a c=ay:=λa b c n o=>Á
 have l:∀a b:Zl,(Bb a b||Bb b a)=ay:=λa b=>Á
 have k:g.mergeSort (λx y=>bR (x<=y))=Vv L:=by refine List.Perm.eq_of_pairwise (le:=λa b=>Bb a b=ay) (λa b _ _ n o=>?_) (Oo s l g) (Oo s l _)<|((Xo g _).trans<|t.trans u).trans (Xo _ _).symm;simp only[Bb,Y8]at n o;exact List.le_antisymm n o
 have B:T g=T (Vv L):=by rw[<-k];exact(Xo g _).length_eq.symm
 rw[k,B]at f;exact⟨v,O,f,q⟩
def jez(m w):(binOp .eql 91 (fu<|some m)<|fu aw).run prog w=dG (bG ao) w:=run_eql_map_nil_sl w 91 9 94 _ CJ
def xlk(m L w)(h:Je w m L):aK prog 43 #[fu<|some m] w λe w'=>e=ai (fu<|some (V<|Z' w))/\aP (V<|Z' w) w w'/\V (Z' w')=V (Z' w)+1/\Je w' (V<|Z' w) L:=by have⟨q,y,p,j,z⟩:=h;have a:=jez m;go_enter func43.1,Tryz.ntmps43;go_wp2;rw[run_callFunc_extern func71 Ä Ä Ä Ä,run_maps_clone_sl w 91 p];simp only[bN];rw[Oper.upon_value];go_wp2;rw[run_typeAssert_map_sl _ 91 20 _ _ _ CJ];simp only[bN];rw[Oper.upon_value];go_wp2;go_ret;exact⟨O,(zt _ _).alloc (zd _) _,Â,⟨q,y,xn _ _,j,z⟩⟩
end
section
attribute [local go_sem] zn zg
def xin(m w):aK prog 44 #[fu<|some m,aB aw 0 0] w λe w'=>e=ai (cE #[])/\w'=w:=by go_enter func44.1,Tryz.ntmps44;go_wp2;go_loopw [10] (λi wr=>i=J 0/\wr=w) (λi _=>0);grind;obtain⟨rfl,rfl⟩:=hrel;go_wp2;go_end0;grind
def PM{v}(h:w.ownsRow 0 126 1 v (T D)<|D.map oP):(v=aB aw 0 0/\D=[])\/∃g cap,v=aB (ac ⟨g,0,aw⟩) (T D) cap/\yA w g D/\g<V (Z' w):=by
 obtain⟨b,j⟩|⟨g,cap,a,f,l,d,m,k,n,e⟩:=h.2;grind;refine Y ⟨g,cap,f,λi c=>?_,(za.1 d).1⟩;have:a.toList[i]?=ac (oP D[i]):=by
  have b:(a.toList.take<|T D*1)[i]?=ac (oP D[i]):=by rw[e];simp[c]
  rw[Kx]at b;simpa[c]using b
 grind [N]
def YU(m L v D)(i:T D<=1000000)(w)(d:Je w m L)(a:w.ownsRow 0 126 1 v (T D)<|D.map oP):aK prog 44 #[fu<|some m,v] w λe w'=>e=ai (cE #[])/\zj (·=m) w w'/\Je w' m (gh L D):=by obtain⟨rfl,rfl⟩|⟨g,b,rfl,j,k⟩:=PM a;exact(xin m w).mono λe w'⟨f,h⟩=>⟨f,by grind [zj.refl],by rw[h];exact d⟩;apply KN m g b L D i w d j;have⟨y,f,_⟩:=FX a O;have⟨z,c,h⟩:=d.bT;grind
def kE.lT(s:kE):KV:=gh s.L s.P
def xh4(B r w)(h:Vq w B r)(c:r.sn=aw):aK prog 23 #[K B] w λe w'=>e=ai (cE #[aB aw 0 0,J 5])/\w'=w:=by
 have a:=h.bT.i 7 O;have b:N w (zq B 7)=aU aw:=by rw[a];simp[Sr.G,Sr.my,c]
 clear h a;go_enter func23.1,Tryz.ntmps23;go_wp2;refine ji zcw O ⟨O,O⟩
def xrp(B r s w)(h:Vq w B r)(y:r.sn=ac s)(W:T s.P<=20)(hk:∀p∈s.lT,T p.1<=1000000)(G:T s.lT<=5000000):aK prog 23 #[aU<|some ⟨B,0,aw⟩] w λe w'=>∃v,e=ai (cE #[v,Q bB 0])/\w'.ownsRow (V<|Z' w) 9 1 v (T (Vv s.lT)) ((Vv s.lT).map encStr)/\Nw w w':=by
 have D:=h.bT.i 7 O;have q:N w ⟨B,7,aw⟩=(aU<|some ⟨s.S,0,aw⟩):=by rw[D];simp[Sr.G,Sr.my,y]
 have o:=(h.fP s y).1;have P:=o.bT.i 0 O;have C:=o;have u:=hk;clear h D o y hk;go_enter func23.1,Tryz.ntmps23;go_wp2;apply(xlk s.mp s.L w C.jS).mono;rintro e w1⟨rfl,c,A,hm1⟩;have j:=C.y (zj.J c) λ_ _=>id;have hd:=(zj.J (S:=λ_=>False) c).i id q;have F:N w1 ⟨s.S,1,aw⟩=ac s.pv:=j.bT.i 1 O;have⟨a,cap,hpv,hcap⟩:=Wo j.iR;rw[hpv]at F;go_wp2;apply(YU _ s.L _ s.P À w1 hm1<|by rw[<-hpv];exact j.iR).mono;rintro e g⟨rfl,t,d⟩;have k:Nw w g:=zj.cZ (zj.J c) (zd _) t;have I:=d.lt;go_wp2;apply(YC _ _).mono;rintro e i⟨rfl,b⟩;have n:Je i (V<|Z' w) s.lT:=by show Je _ _ _;rw[b];exact d.y (S:=λ_=>False) (zj.E _) id
 have m:H<|N i ⟨V<|Z' g,0,aw⟩=(fu<|some (V<|Z' w)):=by show _=_;rw[b];exact(xh.ex g _ 91).i 0 O
 have l:Nw w i:=by show Nw _ _;rw[b];exact k.aE<|zj.E _
 have z:V (Z' g)<V (Z' i):=by rw[b];simp
 clear b;go_wp2;apply(YB _ _ s.lT _ n m.o z u G).mono;rintro e h1⟨v,rfl,f,x⟩;go_wp2;refine ji zcw O ⟨v,O,FQ f À,l.aE<|zj.J x⟩
end
section
open Go.Shelf
attribute [local go_sem] Oper.semAt_some
def tZ(D:bA Vk)(j:aD):bA<|Int×Vk:=((List.range' j<|T D-j).reverse).map λ(i:aD)=>((i:U),D[i]?.getD (.del []))
def xm0(D j)(h:j<T D):tZ D j=tZ D (j+1)++[((j:U),D[j]?.getD (.del []))]:=by unfold tZ;rw[show T D-j=(T D-(j+1))+1 by omega,Kv,List.reverse_cons,qz];rfl
def xr8(D j):T (tZ D j)=T D-j:=by simp[tZ]
theorem xr9(D):tZ D (T D)=[]:=by simp[tZ]
def xxl(n)(I:1<=n)(l Bs g b cap D)(G:T D<=1000000)(B:b<g)(m:Bs<g)(u s:bA (U×Vk)->Zy->Prop)
  (z:∀pre (x:U×Vk) W,u pre W->T pre<T D->YieldAt gI (n-1) prog l #[Q bB x.1,oP x.2] W λe W'=>
   (e=ai (bG ay)/\u (pre++[x]) W'/\aP g W W')\/(e=ai (bG ao)/\s (pre++[x]) W'))
  (W)(o:N W ⟨Bs,0,aw⟩=aB (ac ⟨b,0,aw⟩) (T D) cap)(C:∀j,j<T D->N W ⟨b,j,aw⟩=ac (oP<|D[j]?.getD (.del [])))(F:u [] W):
  CallsIn gI n prog 149 #[.func (.yield l) #[] #[],aU<|some ⟨Bs,0,aw⟩] W λe W'=>(∃v,e=ai v)/\
   ((∃ys,ys=tZ D 0/\u ys W')\/(∃pre,(∃k,k<=T D/\pre=tZ D k)/\s pre W')):=by
 refine callsIn_of_wp func149.1 O bD ?_ O;simp only[Tryz.ntmps149,jd,xg,qy,jY,lh,qu,qw,Xa,Zh,qj,qg]
 gi_wp2
 gi_loopw [3] (λi wr=>∃j:aD,j<=T D/\i=Q bB ((j:U)-1)/\u (tZ D j) wr/\aP g W wr)
  (λi _=>bL (bZ i+1))
 grind [xr9,zt];obtain⟨j,P,rfl,p,a⟩:=hrel;cases j with
 |zero=>
  have r:((0:aD):U)-1= -1:=À
  rw[r]
  gi_wp2
  go_end0;simp_all
 |succ j=>
  have r:((j+1:aD):U)-1=(j:U):=À
  rw[r];have f:j<T D:=À
  have w:=(a.cell B).trans<|C j f;have t:=(a.cell m).trans o;have⟨fn,tmps,assign,body,hy,hR⟩:=z _ ((j:U),D[j]?.getD (.del [])) wr p (by rw[xr8];omega);have h:=xm0 D j f;generalize D[j]?.getD _=c at*
  gi_wp2
  apply hR.mono;rintro e A (⟨rfl,y,q⟩|⟨rfl,d⟩)
  ·gi_wp2
   go_roundw;exact⟨j,À,O,Á,a.trans q⟩;exact Ì
  gi_wp2
  apply ji (results_none O _ _ _) O;exact⟨⟨_,O⟩,Y ⟨_,⟨j,À,h.symm⟩,d⟩⟩
def xcm(n l Bs)(y:bA (U×Vk)->Zy->Prop)(W)(a:N W (zq Bs 0)=aB aw 0 0)(c:y [] W):
  CallsIn gI n prog 149 #[.func (.yield l) #[] #[],K Bs] W λe z=>(∃v,e=ai v)/\y [] z:=by
 refine callsIn_of_wp func149.1 O bD ?_ O;simp only[Tryz.ntmps149,jd,xg,qy,jY,lh,qu,qw,Xa,Zh,qj,qg]
 gi_wp2
 gi_loopw [3] (λi wr=>i=J (-1)/\y [] wr) (λ_ _=>0)
 grind;obtain⟨rfl,b⟩:=hrel
 gi_wp2
 go_end0;grind
def zx3(a len cap w):aK prog 94 #[aB a len cap] w λe w'=>e=ai (.func (.func 149) #[] #[K (V<|Z' w)])/\w'=aF w (au #[aB a len cap] 95):=by go_enter func94.1,Tryz.ntmps94;go_wp2;go_ret;simp
def xm2(n)(y:1<=n)(Bs d sv D)(p:T D<=1000000)(w)(a:Bs<d)(h:d<=V (Z' w))(t:N w (zq Bs 0)=ac sv)(q:(sv=aB aw 0 0/\D=[])\/∃g cap,sv=aB (ac ⟨g,0,aw⟩) (T D) cap/\yA w g D/\g<d):
  SeqStopsK gI n prog 149 #[K Bs] (λx:U×Vk=>#[J x.1,oP x.2]) (aP d) (λF=>F=tZ D 0) (λP=>∃k,k<=T D/\P=tZ D k) (T D) w:=λl u o W r _ _ s i=>by
 have b:=r.mono h;have c:=(b.cell a).trans t;obtain⟨rfl,rfl⟩|⟨g,cap,rfl,z,m⟩:=q;exact(xcm n l Bs u W c i).mono λe B⟨v,f⟩=>⟨v,aJ ⟨_,O,f⟩⟩;refine(xxl n y l Bs d g cap D p m a u o s W c (λj f=>?_) i).mono ?_;have:=(b.cell m).trans<|z j f;grind;grind
end
def Nd(L:KV):Prop:=(L.map (·.1)).Nodup
theorem xaf{k v}:x∈(gS L k v).map (·.1)↔x=k\/x∈L.map (·.1):=zc5
theorem xae{k}:x∈(jN L k).map (·.1)->x∈L.map (·.1):=by induction L with|nil=>exact id|cons p L I=>grind [jN]
theorem Nd.gS(h:Nd L)(k v:Zl):Nd<|gS L k v:=by induction L with|nil=>simp[Nd,P.gS]|cons p L I=>grind [Nd,P.gS,xaf]
theorem Nd.jN(h:Nd L)(k:Zl):Nd<|jN L k:=by induction L with|nil=>exact h|cons p L I=>grind [Nd,P.jN,xae]
def Nd.mF(h:Nd L)(c:Vk):Nd<|mF L c:=by cases c with|put k v=>exact h.gS k v|del k=>exact h.jN k
theorem Nd.gh(h:Nd L)(D:bA Vk):Nd<|gh L D:=by induction D generalizing L with|nil=>exact h|cons c D I=>exact I<|h.mF c
def Je.nd(h:Je w m L):Nd L:=by
 have⟨y,c,_,z,q⟩:=h;have e:y.toList.map (·.key)=L.map λp=>E p.1:=by have:=gv (List.map o7) z;simpa[Wj,zc1]using this
 have a:=q.2.2;rw[e]at a;have:(L.map λp=>E p.1)=(L.map (·.1)).map λk=>E k:=Â
 rw[this]at a;unfold List.Nodup at a;rw[Wk]at a;exact a.imp λh e=>h å
theorem YT(k v x):Xg (gS L k v) x=if x=k then ac v else Xg L x:=by induction L with|nil=>grind [gS,Xg]|cons p L I=>grind [gS,Xg]
theorem PJ(h:x∉L.map (·.1)):Xg L x=aw:=by induction L with|nil=>rfl|cons p L I=>grind [Xg]
theorem YS(b:Nd L)(k x):Xg (jN L k) x=if x=k then aw else Xg L x:=by induction L with|nil=>grind [jN,Xg]|cons p L I=>have⟨y,v⟩:=p;have a:=On.1 b;by_cases hk:k=y;grind [jN,PJ,Xg];simp[jN,hk,kB,Xg,I a.2];grind
def vE(c:Vk)(x:Zl):dD<|Option Zl:=match c with
 | .put k v=>if k=x then ac (ac v)else aw
 | .del k=>if k=x then ac aw else aw
def YM(a:Nd L)(c x):Xg (mF L c) x=(vE c x).getD (Xg L x):=by cases c with|put k v=>show Xg (gS L k v) x=_;grind [YT,vE]|del k=>show Xg (jN L k) x=_;grind [YS,vE]
def YN(a:Nd L)(h:∀c∈D,vE c x=aw):Xg (gh L D) x=Xg L x:=by induction D generalizing L with|nil=>rfl|cons c D I=>show Xg (gh (mF L c) D) x=_;rw[I (a.mF c) λy b=>h y<|jw _ b,YM a,h c<|xu ..];rfl
def YD(D j)(h:j<=T D):(tZ D j).map (·.2)=(D.drop j).reverse:=by unfold tZ;rw[Wj,List.map_reverse];congr 1;apply List.ext_getElem;simp;grind
def xmg(b:Nd L){k}(hk:k<=T D){q y o}(f:tZ D k=q++[y])(g:∀z∈q,vE z.2 x=aw)(hy:vE y.2 x=ac o):Xg (gh L D) x=o:=by
 have a:=YD D k hk;rw[f,qz,Js,Fr]at a;have c:D.drop k=y.2::(q.map (·.2)).reverse:=by have:=gv List.reverse a;simpa using this.symm
 have d:D=D.take k++(y.2::(q.map (·.2)).reverse):=by rw[<-c,Km]
 have e:gh L D=gh (mF (gh L<|D.take k) y.2) (q.map (·.2)).reverse:=by
  conv=>lhs;rw[d]
  simp[gh,Kw]
 rw[e,YN<|(b.gh _).mF _,YM<|b.gh _,hy];rfl;grind
def xil(b:Nd L)(d:∀z∈tZ D 0,vE z.2 x=aw):Xg (gh L D) x=Xg L x:=by
 refine YN b λc a=>?_;have:c∈(tZ D 0).map (·.2):=by rw[(YD D 0<|Zz _)];simpa using a
 grind
section
open Go.Shelf
attribute [local go_sem] zn zg
attribute [local go_sem] Oper.semAt_some
def xh.iQ{W b a r}(h:xh W r C t)(c:W.grownBy b a)(d:∀r,a=ac r->∃o:Obj,W.heap[r]?=ac o/\o.isCells=ao):xh b r C t:=
 (grownBy_keeps_cells c d h O).trans h
def PI(w):(zeroValue 94).run prog w=dG (rB []) w:=Ä
structure jel(w:Zy)(y:Zl)(P:bA<|Int×Vk)(W:Zy):Prop where
 k:xh W (V<|Z' w) #[E y] 9
 v:xh W (V (Z' w)+1) #[ak ⟨#[]⟩] 9
 b:xh W (V (Z' w)+1+1) #[bG ao] 4
 Y:aP (V<|Z' w) w W
 sz:V (Z' w)+1+1+1+1<=V (Z' W)
 no:∀z∈P,vE z.2 y=aw
structure jem(w:Zy)(p:Zl)(c:pB)(P:bA<|Int×Vk)(W:Zy):Prop where
 zU:c= .ret
 hit:∃q y o,P=q++[y]/\(∀z∈q,vE z.2 p=aw)/\vE y.2 p=ac o/\xh W (V (Z' w)+1) #[E<|o.getD []] 9/\xh W (V (Z' w)+1+1) #[bG o.isSome] 4
 Y:aP (V<|Z' w) w W
def xs2(s u w)(h:Bc w s)(hP:T s.P<=20):aK prog 59 #[aU<|some ⟨s.S,0,aw⟩,ak<|st u] w λe w'=>e=ai (cE #[ak<|st<|(Xg s.lT u).getD [],bG (Xg s.lT u).isSome])/\Nw w w':=by
 refine(callsIn_wide (n:=4)).1 ?_;obtain⟨a,d,hpv,hcap⟩:=Wo h.iR;have HA:=h;have HPV:=hpv;have c1:N w ⟨s.S,1,aw⟩=aB a (T s.P) d:=by rw[<-hpv];exact h.bT.i 1 O
 have c1':N (aF (aF (aF w<|au #[ak<|st u] 9)<|au #[ak ⟨#[]⟩] 9)<|au #[bG ao] 4) ⟨s.S,1,aw⟩=aB a (T s.P) d:=(zj.E (S:=λ_=>False) _).i id<|(zj.E (S:=λ_=>False) _).i id<|(zj.E (S:=λ_=>False) _).i id c1;have hfB:Fence.wide.fn 94:=bD;refine callsIn_of_wp_marks func59.1 O bD ?_ O;simp only[Tryz.ntmps59,jd,xg,qy,jY,lh,qu,qw,Xa,Zh,qj,qg]
 gi_wp2_with (gi_at_call 94;refine(callsIn_wide.2<|zx3 _ _ _ _).mono ?_;rintro e w'⟨rfl,rfl⟩)
 obtain⟨W0,b⟩:∃W0,aF (aF (aF (aF w<|au #[ak<|st u] 9)<|au #[ak ⟨#[]⟩] 9)<|au #[bG ao] 4) (au #[aB a (T s.P) d] 95)=W0:=⟨_,O⟩;rw[b];have B0:aP (V<|Z' w) w W0:=by rw[<-b];exact((((zt _ w).alloc (zd _) _).alloc Â _).alloc Ç _).alloc Ç _
 have S0:V (Z' W0)=V (Z' w)+1+1+1+1:=by rw[<-b];simp
 have K0:xh W0 (V<|Z' w) #[ak<|st u] 9:=by rw[<-b];exact(((xh.ex w #[ak<|st u] 9).E _).E _).E _
 have V0:xh W0 (V (Z' w)+1) #[ak ⟨#[]⟩] 9:=by rw[<-b];have:=xh.ex (aF w<|au #[ak<|st u] 9) #[ak ⟨#[]⟩] 9;simp only[xp]at this;exact(this.E _).E _
 have L0:xh W0 (V (Z' w)+1+1) #[bG ao] 4:=by rw[<-b];have:=xh.ex (aF (aF w<|au #[ak<|st u] 9)<|au #[ak ⟨#[]⟩] 9) #[bG ao] 4;simp only[xp]at this;exact this.E _
 have X0:xh W0 (V (Z' w)+1+1+1) #[aB a (T s.P) d] 95:=by rw[<-b];have:=xh.ex (aF (aF (aF w<|au #[ak<|st u] 9)<|au #[ak ⟨#[]⟩] 9)<|au #[bG ao] 4) #[aB a (T s.P) d] 95;simp only[xp]at this;exact this
 have HW0:=HA.y (zj.J B0) λ_ _=>id;have F:=PM HW0.iR;rw[HPV]at F;refine wpIn_rangeFunc_ownF O À (gf:=149) (lb:=#[aU<|some ⟨V (Z' w)+1+1+1,0,aw⟩]) O bD (enters_of func149.1 Ä O)
  (xm2 3 À (V (Z' w)+1+1+1) (V<|Z' W0) (aB a (T s.P) d) s.P À W0 À (zd _) (X0.i 0 O) F) belowK_t (belowK_b<|zd _) (zt _ _) (λ_=>O)
  (jel w u) (jem w u)
  (λG A B row f hg hr=>⟨f.k.iQ hg λr e=>(hr r e).2,f.v.iQ hg λr e=>(hr r e).2,f.b.iQ hg λr e=>(hr r e).2,f.Y.grown hg f.Y.size λk e=>Á,xa f.sz hg.size,f.no⟩)
  (λc G A B row f hg hr=>⟨f.zU,by obtain⟨q,y,o,h1,h2,h3,h4,h5⟩:=f.hit;exact⟨q,y,o,h1,h2,h3,h4.iQ hg λr e=>(hr r e).2,h5.iQ hg λr e=>(hr r e).2⟩,f.Y.grown hg f.Y.size λk e=>Á⟩)
  ⟨K0,V0,L0,B0,À,λz hz=>by cases hz⟩
  (λx=>{tmps:=#[aU<|some ⟨s.S,0,aw⟩,ak<|st u,Z,aU<|some ⟨V<|Z' w,0,aw⟩,aU<|some ⟨V (Z' w)+1,0,aw⟩,aU<|some ⟨V (Z' w)+1+1,0,aw⟩,Z,oP x.2,Z,Z,Z,Z,
   aU (ac ⟨s.S,0,aw⟩),aU<|some ⟨s.S,0,aw⟩,aU<|some ⟨s.S,1,aw⟩,aB a (T s.P) d,.func (.func 149) #[] #[aU<|some ⟨V (Z' w)+1+1+1,0,aw⟩],Q bB x.1,oP x.2,
   Z,Z,Z,Z,Z,Z,Z,Z,Z,Z,Z,Z,Z,Z,Z,Z,Z,Z,Z,Z,Z,Z,Z,Z,Z,Z,Z,Z,Z],defers:=[]}) ?assign ?body ?done ?stop
 case assign=>
  intro l x W j hK
  gi_wp2
  exact hK
 case body=>
  rintro l G⟨ix,c⟩ W ⟨hk,hv,hb,v,hsz,hno⟩ _;have HK:=hk;have HV:=hv;have HB:=hb;have HE:=v;have HN:=hno;cases c with
  |put i g=>
   have h86:=WU (bY #[ak<|st i,ak<|st g]) W;simp only[oP];by_cases hm:i=u
   ·subst hm;have A1:=HK.E<|au #[ak<|st i,ak<|st g] 86;have I:=HV.E<|au #[ak<|st i,ak<|st g] 86;have A3:=HB.E<|au #[ak<|st i,ak<|st g] 86;have ck:=A1.i 0 O;have X:=I.i 0 O;have fv:=I.dS 0;have cb:=A3.i 0 O;have fb:=A3.dS 0;have cn0:=(xh.ex W #[ak<|st i,ak<|st g] 86).i 0 O
    gi_wp2
    refine⟨?_,O,⟨G,(ix,.put i g),ac g,O,HN,by simp[vE],?_,?_⟩,?_⟩
    ·exact zbv
    ·exact((HV.E _).H 0 _).dR Â _
    ·exact((HB.E _).dR Â _).H 0 _
    ·exact zdu
   ·have hmb:((st i).toList==(st u).toList)=ao:=by rw[xl,xl,jf];exact hm
    have A1:=HK.E<|au #[ak<|st i,ak<|st g] 86;have I:=HV.E<|au #[ak<|st i,ak<|st g] 86;have A3:=HB.E<|au #[ak<|st i,ak<|st g] 86;have ck:=A1.i 0 O;have X:=I.i 0 O;have fv:=I.dS 0;have cb:=A3.i 0 O;have fb:=A3.dS 0;have cn0:=(xh.ex W #[ak<|st i,ak<|st g] 86).i 0 O
    gi_wp2
    refine⟨lw _ _,(zt _ W).alloc À _,HK.E _,HV.E _,HB.E _,HE.trans<|(zt _ W).alloc À _,Ç,λz hz=>?_⟩;grind [vE]
  |del i=>
   have h86:=XO (bY #[ak<|st i]) W;have h88:=WV (bY #[ak<|st i]) W;simp only[oP];by_cases hm:i=u
   ·subst hm;have A1:=HK.E<|au #[ak<|st i] 88;have I:=HV.E<|au #[ak<|st i] 88;have A3:=HB.E<|au #[ak<|st i] 88;have ck:=A1.i 0 O;have X:=I.i 0 O;have fv:=I.dS 0;have cb:=A3.i 0 O;have fb:=A3.dS 0;have cn0:=(xh.ex W #[ak<|st i] 88).i 0 O
    gi_wp2
    refine⟨?_,O,⟨G,(ix,.del i),aw,O,HN,by simp[vE],?_,?_⟩,?_⟩
    ·exact zbv
    ·exact((HV.E _).H 0 _).dR Â _
    ·exact((HB.E _).dR Â _).H 0 _
    ·exact zdu
   ·have hmb:((st i).toList==(st u).toList)=ao:=by rw[xl,xl,jf];exact hm
    have A1:=HK.E<|au #[ak<|st i] 88;have I:=HV.E<|au #[ak<|st i] 88;have A3:=HB.E<|au #[ak<|st i] 88;have ck:=A1.i 0 O;have X:=I.i 0 O;have fv:=I.dS 0;have cb:=A3.i 0 O;have fb:=A3.dS 0
    gi_wp2
    refine⟨lw _ _,(zt _ W).alloc À _,HK.E _,HV.E _,HB.E _,HE.trans<|(zt _ W).alloc À _,Ç,λz hz=>?_⟩;grind [vE]
 case done=>
  rintro D xs W hD rfl⟨hk,hv,hb,v,hsz,hno⟩ hK;have HM:H<|Xg s.lT u=Xg s.L u:=xil HA.jS.nd hno;have HV:=hv;have HB:=hb;have HE:=v;have HD:=hK;have AW:=HA.y (zj.J v) λ_ _=>id;have ck:=hk.i 0 O;have cm:N W ⟨s.S,0,aw⟩=(fu<|some s.mp):=AW.bT.i 0 O;have hget:=XD (w:=W.drew) CJ dK PI AW.jS u;have AW2:=AW.y (S:=λ_=>False) (zj.E<|au #[ak ⟨#[]⟩] 94) λ_ _=>id;have hget2:=XD (P:=prog) (w:=(aF W<|au #[ak ⟨#[]⟩] 94).drew) CJ dK PI AW2.jS u;have cm2:N (aF W<|au #[ak ⟨#[]⟩] 94) ⟨s.S,0,aw⟩=(fu<|some s.mp):=AW2.bT.i 0 O;have ck2:=(hk.E<|au #[ak ⟨#[]⟩] 94).i 0 O;unfold rB at hget hget2
  gi_wp2
  refine wpIn_wide.2 ?_;go_region;all_goals
   have VA:=(HV.E<|au #[ak<|st<|(Xg s.L u).getD []] 94).W;have BA:=(HB.E<|au #[ak<|st<|(Xg s.L u).getD []] 94).W;have NA:=(xh.ex W #[ak<|st<|(Xg s.L u).getD []] 94).W;have DA:(aF W<|au #[ak<|st<|(Xg s.L u).getD []] 94).drew.heap[D]?=ac (.deferred<|some []):=(Xj W _ D (za.1 HD).1).trans HD;have EA:Nw w (aF W<|au #[ak<|st<|(Xg s.L u).getD []] 94).drew:=((zj.J HE).aE<|zj.E _).W;generalize(aF W<|au #[ak<|st<|(Xg s.L u).getD []] 94).drew=WA at*;obtain⟨g,hvl⟩:∃g,(Xg s.L u).getD []=g:=⟨_,O⟩;have HVL:=hvl;rw[hvl]at NA⊢;have ca:=NA.i 0 O;have X:=VA.i 0 O;have fv:=VA.dS 0;have cb:=BA.i 0 O;have fb:=BA.dS 0
   gi_wp2
   have VC:=(VA.H 0<|ak<|st g).dR (p:=⟨V (Z' w)+1+1,0,aw⟩) Â<|bG (Xg s.L u).isSome;have BC:=(BA.dR (p:=⟨V (Z' w)+1,0,aw⟩) Â<|ak<|st g).H 0<|bG (Xg s.L u).isSome;have DC:(M (M WA ⟨V (Z' w)+1,0,aw⟩<|ak<|st g) ⟨V (Z' w)+1+1,0,aw⟩<|bG (Xg s.L u).isSome).heap[D]?=ac (.deferred<|some []):=(zah _ _ _ _ Á).trans<|(zah _ _ _ _ Á).trans DA;have EC:Nw w<|M (M WA ⟨V (Z' w)+1,0,aw⟩<|ak<|st g) ⟨V (Z' w)+1+1,0,aw⟩<|bG (Xg s.L u).isSome:=(EA.cZ (Xu _)<|zj.H WA ⟨V (Z' w)+1,0,aw⟩ _).cZ (show V (Z' w)<=V (Z' w)+1+1 by omega)<|zj.H _ ⟨V (Z' w)+1+1,0,aw⟩ _;generalize(M WA ⟨V (Z' w)+1,0,aw⟩<|ak<|st g).setCell ⟨V (Z' w)+1+1,0,aw⟩ (bG (Xg s.L u).isSome)=WC at*;refine⟨Â,aJ ⟨_,_,O,run_takeDeferred DC,?_⟩⟩;have hkr:∀r,ac D=ac r->∃o:Obj,WC.heap[r]?=ac o/\o.isCells=ao:=λr e=>by cases e;exact⟨_,DC,O⟩
   have r1:=(VC.iQ (pL WC D<|.deferred aw) hkr).i 0 O;have r2:=(BC.iQ (pL WC D<|.deferred aw) hkr).i 0 O;refine⟨cE #[ak<|st g,bG (Xg s.L u).isSome],zcs,by rw[HM.o,HVL],?_⟩;exact⟨EC.os,EC.cX,by simpa using EC.Q,λk hk _=>(World.putObj_heap_other À).trans<|EC.dP k hk id⟩
 case stop=>
  rintro D c G W hD⟨k,hk,rfl⟩ ⟨rfl,⟨q,y,o,h1,h2,h3,h4,h5⟩,v⟩ hK;have HM:H<|Xg s.lT u=o:=xmg HA.jS.nd hk h1 h2 h3
  gi_wp2
  refine⟨Â,aJ ⟨_,_,O,run_takeDeferred hK,?_⟩⟩;have hkr:∀r,ac D=ac r->∃o:Obj,W.heap[r]?=ac o/\o.isCells=ao:=λr e=>by cases e;exact⟨_,hK,O⟩
  have r1:=(h4.iQ (pL W D<|.deferred aw) hkr).i 0 O;have r2:=(h5.iQ (pL W D<|.deferred aw) hkr).i 0 O;refine⟨cE #[ak<|st<|o.getD [],bG o.isSome],zcs,by rw[HM.o],?_⟩;exact⟨v.os,v.output,by simpa using v.size,λk hk _=>(World.putObj_heap_other À).trans<|v.block k hk⟩
end
section
attribute [local go_sem] zn zg
def Sr.iS(r:Sr)(y:Zl):Zl×U:=match r.sn with
 |none=>([],5)
 |some s=>if oR y=ao then([],6)else match Xg s.lT y with
  |none=>([],8)|some v=>(v,0)
def YI(B r a w)(h:Vq w B r)(j:∀s,r.sn=ac s->T s.P<=20):aK prog 32 #[K B,E a] w λe w'=>e=ai (cE #[ak<|st (r.iS a).1,Q bB (r.iS a).2])/\Nw w w':=by
 have g:=h.bT.i 7 O;have n:=h;cases y:r.sn with
 |none=>
  have i:N w (zq B 7)=aU aw:=by rw[g];simp[Sr.G,Sr.my,y]
  have b:H<|r.iS a=([],5):=by show _=_;unfold Sr.iS;rw[y]
  clear h g y j;go_enter func32.1,Tryz.ntmps32;go_wp2;refine ji (v:=cE #[ak ⟨#[]⟩,J 5]) HY O ⟨á,zj.refl _ _⟩
 |some s=>
  have i:N w (zq B 7)=K s.S:=by rw[g];simp[Sr.G,Sr.my,y]
  have f:=y;have d:=j s y;clear h g y j;go_enter func32.1,Tryz.ntmps32;go_wp2;apply(H8 a _).mono;rintro e w1⟨rfl,l⟩;obtain rfl:=l.symm;cases hk:bR (0<T a/\T a<=16)with
  |false=>
   have b:H<|r.iS a=([],6):=by show _=_;unfold Sr.iS;rw[f];simp[oR,hk,dY]
   go_wp2;refine ji (v:=cE #[ak ⟨#[]⟩,J 6]) HY O ⟨á,zj.refl _ _⟩
  |true=>
   have c:H<|oR a=ay:=hk;go_wp2;apply(xs2 s a _ (n.fP s f).1 d).mono;rintro e o⟨rfl,k⟩;have m:=k;cases z:Xg s.lT a with
   |none=>
    have b:H<|r.iS a=([],8):=zca
    simp only[Option.getD_none,Option.isSome_none];go_wp2;refine ji (v:=cE #[ak ⟨#[]⟩,J 8]) HY O ⟨á,m⟩
   |some v=>
    have b:H<|r.iS a=(v,0):=zca
    simp only[qt,Option.isSome_some];go_wp2;refine ji (v:=cE #[E v,J 0]) HY O ⟨by rw[b.o],m⟩
end
end P
end Go.Proofs.YtjnbhiamaabbgaaGreatDoor
