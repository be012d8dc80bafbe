import Derived.Test.YtjnbhiamaabbgabGreatDoorM2
import Derived.Deep.RegionHeld2
import Derived.Shelf.SlIterI.Nil
import Derived.Shelf.SortM.Plain
import Derived.Shelf.SortM.SortNone
import Derived.Shelf.SlMaps.Clone
import Derived.RangeFuncNested
set_option linter.all false
set_option maxRecDepth 100000
set_option maxHeartbeats 8000000
section
variable{P:Prop}
def Ì(h:P:=by grind [bZ]):=h
def ê(h:P:=by rw[jf];omega):=h
def aC(h:P:=by have:=HQ.o;omega):=h
def aM(h:P:=by grind [Dk.nU]):=h
def D0(h:P:=by obtain rfl|rfl:=hw1<;>rfl):=h
def HY(h:P:=by simp[eR,o9,go_sem]):=h
def za3(h:P:=by grind [Sr.eD]):=h
def za4(h:P:=by grind [Dk.dZ]):=h
def zbv(h:P:=by exact((lw _ _).trans<|KeepsOthers.setCell _ _ _).trans<|KeepsOthers.setCell _ _ _):=h
def zc5(h:P:=by induction L with|nil=>simp[gS]|cons p L I=>grind [gS]):=h
def zca(h:P:=by show _=_;unfold Sr.iS;rw[f];simp only[c.o,z];rfl):=h
def zcs(h:P:=by simp[eR,Tryz.results74,go_sem,r1,r2]):=h
def zcw(h:P:=by simp[eR,Tryz.results41,go_sem]):=h
def zdu(h:P:=by exact HE.trans<|(((zt _ W).alloc À _).setCell Â _).setCell Á _):=h
def Î(h:P:=by simp[bZ];omega):=h
def Ò(h:P:=by rfl):=h
def è(h:P:=by unfold pu;omega):=h
def za7(h:P:=by exact⟨O,zj.refl _ _⟩):=h
def za8(h:P:=by grind [bP]):=h
def zad(h:P:=by grind [Dk.eS]):=h
def zai(h:P:=by rintro e w1⟨rfl,rfl⟩;exact⟨O,(zj.refl _ _).fV,ac ⟨O,a⟩⟩):=h
def zao(h:P:=by simp[eR,Tryz.results160,go_sem]):=h
def zau(h:P:=by show _=_;simp[fS,fT,fi];omega):=h
def zbj(h:P:=by have:=d.o;omega):=h
def zc6(h:P:=by rintro e hd⟨rfl,rfl⟩;exact⟨O,Jl (by rw[a.o];grind [Vd]) At.W⟩):=h
def zcg(h:P:=by exact FW A.o (At.aE<|W.U λ_ h=>aJ h) LE<|F.y W<|Ne.symm bc):=h
def zct(h:P:=by show _=_;rw[a.o];unfold Vd;rw[aL p]):=h
def zcx(h:P:=by show _=_;unfold Wx;simp only;omega):=h
end
namespace Go.Proofs.YtjnbhiamaabbgabGreatDoor
open _root_ renaming Array->bE,Bool->ez,Int->U,List->bA,Nat->Q,Option->dD,absurd->dC,rfl->O,Array.setIfInBounds->aA,Array.size->V,Array.toList->eV,Bool.false->ao,Bool.true->M,Decidable.decide->bR,False.elim->eT,Function.comp_def->zc1,Int.toNat->bL,List.Pairwise.nil->iV,Nat.reduceAdd->jY,Nat.reduceSub->lh,Option.none->R,Option.some->Y,Or.inl->aJ,Or.inr->ac,Prod.fst->o7
open Go renaming Act->mh,Calls->aK,Code->pB,Ending->kH,MapEntry->eF,Oper->eX,Value->eJ,World->dN,grownBy_putObj'->pL,heap_alloc_new->xn,maxLen->pu,results->eR,undef->Z',yielded->fN,Calls.quiet_of_same->qE,ChangeMaps.setBlock->kI,Ending.returned->ai,Fence.wide->gI,Instr.lookup->fC,KeepsOthers.alloc->lw,Maps.size->pz,Obj.cells->au,Proofs.intOf->bZ,Proofs.Tryz.ntmps118->lW,Proofs.Tryz.results36->o9,Region.wanted->bP,Result.andThen->bN,Result.ok->dG,RowKit.Below->aP,RowKit.Hid->H,WideElems.rd->pw
open IntKind renaming bits->fT,i64->bB,signed->fi,wrap->fS,wrap_i64->zh
open RowKit.Below renaming heap_alloc->Xj,heap_setCell->zah,refl->zt
open Value renaming agg->bY,bool->bG,iface->iW,int->aD,map->fu,pointer->aU,slice->aB,string->ak,tuple->cE
open World renaming alloc->aF,cell?->N,frozen?->aX,heap->Z,news_of_block->gX,setCell->ay,size_alloc->xp
open List renaming drop_eq_getElem_cons->Zx,length->T,length_append->zx,length_take->xf,pairwise_cons->Xw,take_succ_eq_append_getElem->zp,toArray->bH
namespace P
variable{w w':Zy}{tv:Zv}{k q:Lk}{L:KV}{t b D z:Q}{a m l:Zl}
open A.Tryq Go.RowKit
section
attribute[local go_sem] zn zg
def zj.W{S}(h:zj S w w'):zj S w w'.drew:=⟨h.os,h.cX,h.aD,h.dP⟩
def xh.W{r C}{t:Zt}(h:xh w r C t):xh w.drew r C t:=h
def ip.W(h:ip tv w):ip tv w.drew:=h
def iN.W(h:iN w):iN w.drew:=h
def iN.y{S}(h:iN w)(a:zj S w w')(c:¬S 2):iN w':=λi b=>a.i c<|h i b
def Eh(h w)(a:ip tv w):aK prog 152 #[bG h] w λe w'=>w'=w/\((e=ai (cE #[])/\H (h=M))\/(e=kn tv/\H (h=ao))):=by cases h;exact(Jw _ O w a).mono λe w' x=>⟨x.2,ac ⟨x.1,O⟩⟩;exact(Yt _ O w).mono λe w' x=>⟨x.2,aJ ⟨x.1,O⟩⟩
def jbq(c t x)(a:T t<=4096)(w)(d:iN w)(b:ip tv w):aK prog 159 #[bY #[E c,E t],E x] w λe w'=>aP (V<|Z w) w w'/\((e=ai (E<|Wu t x)/\H (T x<=4096))\/(e=kn tv/\H (4096<T x))):=by by_cases h:T x<=4096;exact(LJ c t x a h w d).mono λe w' y=>⟨y.2,aJ ⟨y.1,h⟩⟩;exact(xju c t x a À w b).mono λe w' y=>⟨y.2,ac ⟨y.1,by show _<_;omega⟩⟩
def xoe(c t b x)(hk:T c=16)(a:T b=8)(w)(d:ip tv w):aK prog 150 #[bY #[E c,E t],E b,E x] w λe w'=>aP (V<|Z w) w w'/\((e=ai (E<|nT c b x)/\H (T x<=4096))\/(e=kn tv/\H (4096<T x))):=by by_cases h:T x<=4096;exact(PA c t b x hk a h w).mono λe w' y=>⟨y.2,aJ ⟨y.1,h⟩⟩;exact(zwv c t b x hk a À w d).mono λe w' y=>⟨y.2,ac ⟨y.1,by show _<_;omega⟩⟩
def jeu(l)(o:T l<=100000)(w)(f:1<V (Z w))(k:ip tv w):aK prog 302 #[E l] w λe w'=>Nw w w'/\((∃D g cap,e=ai (aB (Y ⟨g,0,R⟩) (T D:Nat) cap)/\V (Z w)<=g/\yA w' g D/\T D<=20/\H (Wl l=Y D))\/(e=kn tv/\H (Wl l=R))):=by
 apply(zq4 l o w f k).mono;rintro e w'⟨j,c⟩;exists j;cases y:Wl l with
 |none=>rw[y]at c;exact ac ⟨c,O⟩
 |some D=>
  rw[y]at c;obtain⟨v,rfl,p⟩:=c;let b:1<=T D/\T D<=20:=by unfold Wl at y;split at y;grind;cases y
  obtain⟨_,s⟩|⟨g,cap,d,rfl,n,m,x,h,q,a⟩:=p.2;omega;refine aJ ⟨D,g,cap,O,n,?_,b.2,O⟩;intro i t;simp only[N,m];let r:(d.toList.take<|T D*1)[i]?=(D.map oP)[i]?:=by rw[a]
  grind
def Ac(y:Zl)(e t:Q)(h m l:Zl):Za:=#[ak<|st y,aD bB (e:U),aD bB (t:U),ak<|st h,ak<|st m,ak<|st l]
def pX(k:Lk)(L:KV)(I:ez)(t:Q)(h m l:Zl):dD<|Lk×KV:=
 if 4096<T (k.dX++h++m) then R
 else if l≠Wu (Y7 k.m k.ep) (k.dX++h++m)then R
 else if I then
  (match Wl (nT (Ji k.m k.ep) (h.take 8) m)with
  |some D=>Y ({k with bF:=t,fD:=k.dX,dX:=l},gh L D)
  |none=>R)
 else Y ({k with bF:=t,fD:=k.dX,dX:=l},L)
def zoe{r b}(e:k.dX++a++m=b)(h:4096<T b):pX k L r t a m l=R:=by simp[pX,e,h]
def zsj{r b}(e:k.dX++a++m=b)(h:l≠Wu (Y7 k.m k.ep) b):pX k L r t a m l=R:=lg
def zsi(h:Wl (nT (Ji k.m k.ep) (a.take 8) m)=R):pX k L M t a m l=R:=lg
def xec{b D}(e:k.dX++a++m=b)(c:T b<=4096)(d:l=Wu (Y7 k.m k.ep) b)(h:Wl (nT (Ji k.m k.ep) (a.take 8) m)=Y D):pX k L M t a m l=Y ({k with bF:=t,fD:=k.dX,dX:=l},gh L D):=lg
def xeb{b}(e:k.dX++a++m=b)(c:T b<=4096)(d:l=Wu (Y7 k.m k.ep) b):pX k L ao t a m l=Y ({k with bF:=t,fD:=k.dX,dX:=l},L):=lg
def uB(k:Lk)(L:KV)(y:Zl)(e t:Q)(h m l:Zl):dD<|Lk×KV:=
 if t≠k.bF+1 then R
 else if y=[82]then(if e=k.ep then pX k L M t h m l else R)
 else if y=[75]then(if e=k.ep+1/\e<=5/\m=[]then pX {k with ep:=e} L ao t h m l else R)
 else R
def CO(tv:Zv)(b z:Q)(o:dD<|Lk×KV)(w:Zy)(e:kH)(w':Zy):Prop:=
 match o with
 |some (y,p)=>e=ai (cE #[])/\zj (λx=>x=b\/x=z) w w'/\Jh w' b y/\Je w' z p|none=>e=kn tv/\zj (λx=>x=b\/x=z) w w'
def Jl{o}(h:o=R)(a:zj (λx=>x=b\/x=z) w w'):CO tv b z o w (kn tv) w':=by subst h;exact⟨O,a⟩
def FW{y p o}(h:o=Y (y,p))(a:zj (λx=>x=b\/x=z) w w')(c:Jh w' b y)(d:Je w' z p):CO tv b z o w (ai<|cE #[]) w':=by subst h;exact⟨O,a,c,d⟩
structure RE(tv:Zv)(W:Zy)(b z:Q)(q:Lk)(L:KV)(X:Za)(w:Zy):Prop where
 l:Jh w b q
 r:xh w (V<|Z W) X 342
 g:ip tv w
 a:zj (λx=>x=b\/x=z) W w
 m:Je w z L
 t:iN w
section
variable{y:eJ}{x w p:dN}{X:bE eJ}
def RE.nw(e:RE y x b z q L X w)(c:Nw w p):RE y x b z q L X p:=⟨xh.y e.l c id,e.r.y c id,e.g.y c id,e.a.aE<|c.U λ_=>eT,e.m.y c id,e.t.y c id⟩
def RE.W(e:RE y x b z q L X w):RE y x b z q L X w.drew:=e.nw (zj.refl _ w).W
def RE.ac(e:RE y x b z q L X w)(a:aP (V<|Z w) w p):RE y x b z q L X p:=e.nw<|zj.J a
end
def zq5(b k L)(hm:T k.m=32)(kind c m l ep t)(cq:k.ep<=255)(cp:k.bF<4294967296)(cl:T c=10)(cb:T m<=65535)(ht:T k.dX=32)(w)(b0:1<V (Z w))(b9:b≠1)(ca:b≠2)(hm1:k.mp≠1)(cr:k.mp≠2)(ho:b≠k.mp)(hb:Jh w b k)(hs:Je w k.mp L)(hT:iN w)(hG:ip tv w):
  aK prog 261 #[zq b,bY<|Ac kind ep t c m l] w (CO tv b k.mp (uB k L kind ep t c m l) w):=by
 have HB:Jh w b k:=hb;have HT:iN w:=hT;have HG:ip tv w:=hG;have HS:Je w k.mp L:=hs;have co:=hb.lt;have cs:=hs.lt;have e1:IntKind.i64.wrap ((k.bF:U)+1)=(k.bF:U)+1:=Ï
 have HP:H (uB k L kind ep t c m l=if t≠k.bF+1 then R
  else if kind=[82]then(if ep=k.ep then pX k L M t c m l else R)
  else if kind=[75]then(if ep=k.ep+1/\ep<=5/\m=[]then pX {k with ep:=ep} L ao t c m l else R)
  else R):=O
 clear hb hT hG hs;unfold Ac;go_enter func261.1,Tryz.ntmps261;go_wp2;have E0:RE tv w b k.mp k L (Ac kind ep t c m l)<|aF w<|au (Ac kind ep t c m l) 342:=⟨xh.E HB _,xh.ex _ _ _,HG.E _,zj.E _,HS.y (S:=λ_=>False) (zj.E _) id,HT.y (S:=λ_=>False) (zj.E _) id⟩;have h3:(aF w<|au #[E kind,J ep,J t,E c,E m,E l] 342)=aF w (au (Ac kind ep t c m l) 342):=O;rw[h3];clear h3 HB HT HG HS;generalize aF w (au (Ac kind ep t c m l) 342)=w0 at*;have c1:N w0 (K (V<|Z w) 2)=J t:=E0.r.i 2 O;have c2:N w0 (K b 8)=J k.bF:=xh.i E0.l 8 O;go_still_tail 8,Ä;go_wp2;by_cases hq:t=k.bF+1;rotate_left;have q1:((t:U)==(k.bF:U)+1)=ao:=ê
 rw[q1];refine(Jw _ O _ E0.g.W).mono ?_;rintro e w1⟨rfl,rfl⟩;exact⟨O,Jl (by rw[HP.o,aT hq]) E0.a.W⟩;have q1:((t:U)==(k.bF:U)+1)=M:=by rw[zQ];omega
 rw[q1];refine(Yt _ O _).mono ?_;rintro e w1⟨rfl,rfl⟩;have HQ:H<|t=k.bF+1:=hq;clear hq;have i:=E0.W;clear E0 c1 c2 q1;generalize w0.drew=w1 at*;have d0:N w1 (K (V<|Z w) 0)=E kind:=i.r.i 0 O;have kR:((st kind).toList==[82])=bR (kind=[82]):=by rw[xl];by_cases h:kind=[82]<;>simp[h]
 have kK:((st kind).toList==[75])=bR (kind=[75]):=by rw[xl];by_cases h:kind=[75]<;>simp[h]
 by_cases hR:kind=[82];focus
  have cg:((st kind).toList==[82])=M:=by rw[kR];simp[hR]
  have HR:H<|kind=[82]:=hR;clear kR kK hR;have d1:N w1 (K (V<|Z w) 1)=J ep:=i.r.i 1 O;have d2:N w1 (K b 5)=J k.ep:=xh.i i.l 5 O;go_wp2;go_still_tail 7,Ä;go_wp2;by_cases he:ep=k.ep;rotate_left;have q1:((ep:U)==(k.ep:U))=ao:=ê
  rw[q1];refine(Jw _ O _ i.g.W).mono ?_;rintro e C⟨rfl,rfl⟩;exact⟨O,Jl (by rw[HP.o,aL aC,aT HR.o,aL he]) i.a.W⟩;have q1:((ep:U)==(k.ep:U))=M:=by rw[zQ];omega
  rw[q1];refine(Yt _ O _).mono ?_;rintro e C⟨rfl,rfl⟩;let⟨q,j⟩:=JP k;have cd:T q.dX=32:=by rw[<-j];exact ht
  have bo:H<|k.mp=q.mp:=by show _=_;rw[j]
  have p:H<|uB k L kind ep t c m l=pX q L M t c m l:=by show _=_;rw[HP.o,aL aC,aT HR.o,aT he,j]
  have u:RE tv w b k.mp q L (Ac kind ep t c m l) w1.drew:=by rw[<-j];exact i.W
  clear i d0 d1 d2 q1 he HP j;generalize w1.drew=C at*
 rotate_left;focus
  have cg:((st kind).toList==[82])=ao:=by rw[kR];simp[hR]
  have HR:H<|kind≠[82]:=hR;clear kR hR;by_cases hK:kind=[75];rotate_left
  ·have cf:((st kind).toList==[75])=ao:=by rw[kK];simp[hK]
   obtain⟨ti,xi,bi,b7⟩:=i.g;have b4:H<|tv=iW ti xi:=bi;rw[bi]at b7;have HN:H<|uB k L kind ep t c m l=R:=by show _=_;rw[HP.o,aL aC,aL HR.o,aL hK]
   clear kK bi;go_wp2;exact⟨O,by have:=Jl (tv:=tv) HN.o i.a;rw[b4.o]at this⊢;omega⟩
  have cf:((st kind).toList==[75])=M:=by rw[kK];simp[hK]
  have HK:H<|kind=[75]:=hK;clear kK hK;have f1:IntKind.i64.wrap ((k.ep:U)+1)=(k.ep:U)+1:=Ï
  have HC:∀d,d=w1.drew->N d (K (V<|Z w) 1)=J ep/\N d (K b 5)=J k.ep/\N d (K (V<|Z w) 4)=E m:=λd h=>by subst h;exact⟨i.r.i 1 O,xh.i i.l 5 O,i.r.i 4 O⟩
  have P:=HC _ O;have HN:H<|¬(ep=k.ep+1/\ep<=5/\m=[])->uB k L kind ep t c m l=R:=λhh=>by rw[HP.o,aL aC,aL HR.o,aT HK.o,aL hh]
  have qa:((ep:U)==(k.ep:U)+1)=bR (ep=k.ep+1):=by by_cases h:ep=k.ep+1<;>simp[h];omega
  have qc:((st m).toList==[])=bR (m=[]):=by rw[xl];by_cases h:m=[]<;>simp[h]
  have d1:N w1 (K (V<|Z w) 1)=J ep:=i.r.i 1 O;have d2:N w1 (K b 5)=J k.ep:=xh.i i.l 5 O;have d4:N w1 (K (V<|Z w) 4)=E m:=i.r.i 4 O;by_cases hA:ep=k.ep+1;rotate_left
  ·have ch:((ep:U)==(k.ep:U)+1)=ao:=by rw[qa];simp[hA]
   clear qa;go_wp2;go_still_tail 18,Ä;go_wp2;refine(Jw _ O _ i.g.W).mono ?_;rintro e C⟨rfl,rfl⟩;exact⟨O,Jl (HN.o λh=>hA h.1) i.a.W⟩
  have ch:((ep:U)==(k.ep:U)+1)=M:=by rw[qa];simp[hA]
  have HA:H<|ep=k.ep+1:=hA;clear qa hA;by_cases hB:ep<=5;rotate_left
  ·have b6:bR ((ep:U)<=5)=ao:=by simp;omega
   have cm:¬(ep:U)<=5:=À
   go_wp2;go_still_tail 18,Ä;go_wp2;refine(Jw _ O _ i.g.W).mono ?_;rintro e C⟨rfl,rfl⟩;exact⟨O,Jl (HN.o λh=>hB h.2.1) i.a.W⟩
  have b6:(ep:U)<=5:=À
  by_cases hC:m=[];rotate_left
  ·have ci:((st m).toList==[])=ao:=by rw[qc];simp[hC]
   have bd:H<|m≠[]:=hC;clear qc hC;go_wp2;go_still_tail 18,Ä;go_wp2;refine(Jw _ O _ i.g.W).mono ?_;rintro e C⟨rfl,rfl⟩;exact⟨O,Jl (HN.o λh=>bd.o h.2.2) i.a.W⟩
  have ci:((st m).toList==[])=M:=by rw[qc];simp[hC]
  have bd:H<|m=[]:=hC;clear qc hC;go_wp2;go_still_tail 18,Ä;go_wp2;refine(Yt _ O _).mono ?_;rintro e C⟨rfl,rfl⟩;have o:=i.W;clear i d0 d1 d2 d4 P HC HN;generalize w1.drew=wz at*;have d1:N wz (K (V<|Z w) 1)=J ep:=o.r.i 1 O;go_wp2;refine(GX b k hm ep _ o.l o.t).mono ?_;rintro e C⟨rfl,bs,bg⟩;have h1:H (zj (·=b) wz C):=bs;obtain⟨q,j⟩:∃q:Lk,{k with ep:=ep}=q:=⟨_,O⟩;have cd:T q.dX=32:=by rw[<-j];exact ht
  have bo:H<|k.mp=q.mp:=by show _=_;rw[<-j]
  have p:H<|uB k L kind ep t c m l=pX q L ao t c m l:=by show _=_;rw[HP.o,aL aC,aL HR.o,aT HK.o,aT ⟨HA.o,hB,bd.o⟩,j]
  have u:RE tv w b k.mp q L (Ac kind ep t c m l) C:=⟨by rw[j]at bg;exact bg,o.r.y h1.o À,o.g.y h1.o<|Ne.symm b9,o.a.aE<|h1.o.U λ_ h=>aJ h,o.m.y h1.o<|Ne.symm ho,o.t.y h1.o<|Ne.symm ca⟩;clear o d1 j bs bg h1 HP
 all_goals
  have d3:N C (K (V<|Z w) 3)=E c:=u.r.i 3 O;have z1:¬9223372036854775807<42+T m:=À
  have z2:¬9223372036854775765<T m:=À
  have cj:T (Y7 q.m q.ep)=32:=Ln _ _ 32 Ã;have br:T (Ji q.m q.ep)=16:=Ln _ _ 16 Ã;let⟨A,bz⟩:=JP<|q.dX++c++m;have v:H<|q.dX++c++m=A:=bz;clear bz;have es:∀d s,s=st A->iN d->ip tv d->aK prog 159 #[bY #[E<|Ji q.m q.ep,E<|Y7 q.m q.ep],ak s] d λe z=>aP (V<|Z d) d z/\((e=ai (E<|Wu (Y7 q.m q.ep) A)/\H (T A<=4096))\/(e=kn tv/\H (4096<T A))):=λd s hs h h'=>hs▸jbq _ _ A À d h h';let⟨tg,bh⟩:=JP<|Wu (Y7 q.m q.ep) A;have h2:H<|Wu (Y7 q.m q.ep) A=tg:=bh;rw[bh]at es;clear bh;have HC:∀d,aP (V<|Z C) C d->N d (K (V<|Z w) 3)=E c/\N d (K (V<|Z w) 4)=E m/\N d (K (V<|Z w) 5)=E l/\N d (K b 6)=(E<|Ji q.m q.ep)/\N d (K b 7)=(E<|Y7 q.m q.ep)/\N d (K b 9)=E q.dX:=λd h=>by have r3:=u.r.ac h;have l3:=xh.ac u.l h;exact⟨r3.i 3 O,r3.i 4 O,r3.i 5 O,l3.i 6 O,l3.i 7 O,l3.i 9 O⟩
  have P:=HC C<|zt _ _;go_wp2;go_region_held2 (λz=>N z (K (V<|Z w) 3)=E c/\N z (K (V<|Z w) 4)=E m/\N z (K (V<|Z w) 5)=E l/\N z (K b 6)=(E<|Ji q.m q.ep)/\N z (K b 7)=(E<|Y7 q.m q.ep)/\N z (K b 9)=E q.dX) (first|exact P|exact X)
   (first
    |(go_at_call 159;refine(es _ _ (by rw[<-v.o];grind) u.t.W u.g.W).mono ?_;rintro e d⟨bt,⟨rfl,B⟩|⟨rfl,B⟩⟩;rotate_left;(exact⟨O,Jl (by rw[p.o];exact zoe v.o B.o)<|u.a.aE<|zj.J<|(zt _ _).drew.trans bt⟩);have I:aP (V<|Z C) C d:=(zt _ _).drew.trans bt;have X:=HC d I)
    |(go_at_call 152;refine(Eh _ _<|ip.J u.g I).mono ?_;rintro e f⟨bj,cc⟩;obtain rfl:d=f:=bj.symm;obtain⟨rfl,wr⟩|⟨rfl,wr⟩:=cc;rotate_left;(exact⟨O,Jl (by rw[p.o];exact zsj v.o<|by rw[h2.o];intro hh;have:=wr.o;grind)<|u.a.aE<|zj.J I⟩)))
  have W:H<|l=tg:=by have:=wr.o;rw[zQ,xl,xl]at this;exact this
  have G:=u.ac I;have ct:1<V (Z d):=zm b0 G.a.aD;clear P HC es d3 wr I u;try clear X
  try clear hHeld
  have d0:N d (K (V<|Z w) 0)=E kind:=G.r.i 0 O;go_wp2
 rotate_left;focus
  have h8:(8:U)<=(T c:U):=À
  have e8:T (c.take 8)=8:=Ç
  have be:∀f,aP (V<|Z d) d f->N f (K (V<|Z w) 3)=E c/\N f (K (V<|Z w) 4)=E m/\N f (K b 6)=(E<|Ji q.m q.ep)/\N f (K b 7)=(E<|Y7 q.m q.ep):=λf h=>by have r3:=G.r.ac h;have l3:=xh.ac G.l h;exact⟨r3.i 3 O,r3.i 4 O,l3.i 6 O,l3.i 7 O⟩
  have P:=be d<|zt _ _;have KS:∀f s,s=st (c.take 8)->ip tv f->aK prog 150 #[bY #[E<|Ji q.m q.ep,E<|Y7 q.m q.ep],ak s,E m] f λe z=>aP (V<|Z f) f z/\((e=ai (E<|nT (Ji q.m q.ep) (c.take 8) m)/\H (T m<=4096))\/(e=kn tv/\H (4096<T m))):=λf s hs h=>hs▸xoe _ _ _ _ br e8 f h;go_region_held2 (λz=>N z (K (V<|Z w) 3)=E c/\N z (K (V<|Z w) 4)=E m/\N z (K b 6)=(E<|Ji q.m q.ep)/\N z (K b 7)=(E<|Y7 q.m q.ep)) (first|exact P|exact X)
   ((go_at_call 150;refine(KS _ _ (vD c 8) G.g.W).mono ?_;rintro e f⟨bu,⟨rfl,bl⟩|⟨rfl,bl⟩⟩;rotate_left;(exfalso;have:=bl.o;have:=B.o;have:=gv T v.o;simp at this;omega);have bc:aP (V<|Z d) d f:=(zt _ _).drew.trans bu;have X:=be f bc))
  have hd:=G.ac bc;have bj:1<V (Z f):=zm b0 hd.a.aD;clear be KS d0 bc G P;try clear X
  try clear hHeld
  let⟨pl,g'⟩:=JP<|nT (Ji q.m q.ep) (c.take 8) m;have bp:H<|nT (Ji q.m q.ep) (c.take 8) m=pl:=g';have bx:T pl<=100000:=by rw[<-g',A'];omega
  rw[g'];clear g';have bf:∀r,Nw f r->N r (K b 4)=(fu<|some k.mp):=λr h=>by have l5:Jh r b q:=xh.y hd.l h id;rw[bo.o];exact xh.i l5 4 O
  have P:=bf f<|zj.refl _ _;go_wp2;go_region_held2 (λz=>N z (K b 4)=(fu<|some k.mp)) (first|exact P|exact X|exact S2)
   (first
    |(go_at_call 302;refine(jeu pl bx f.drew bj hd.g.W).mono ?_;rintro e r⟨y,⟨D,g,b5,rfl,bw,bq,cn,v'⟩|⟨rfl,v'⟩⟩;rotate_left;(exact⟨O,Jl (by rw[p.o];exact zsi<|by rw[bp.o];exact v'.o)<|hd.a.aE<|zj.U (⟨y.os,y.cX,y.aD,y.dP⟩:Nw f r) λ_ h=>h.elim⟩);have F:Nw f r:=⟨y.os,y.cX,y.aD,y.dP⟩;have X:=bf r F;have bk:V (Z f)<=g:=bw;have bb:yA r g D:=bq;clear bw bq)
    |(go_at_call 84;refine(KN k.mp g b5 L D À r (hd.m.y F id) bb<|by have:=bk;have:=hd.a.aD;omega).mono ?_;rintro e n⟨rfl,bv,bn⟩;have hx:H (zj (·=k.mp) r n):=bv;have ba:Je n k.mp<|gh L D:=bn;have S2:N n (K b 4)=(fu<|some k.mp):=hx.o.i ho X;clear bv bn))
  have L5:Jh n b q:=xh.y (xh.y hd.l F id) hx.o ho;have R5:xh n (V<|Z w) (Ac kind ep t c m l) 342:=xh.y (hd.r.y F id) hx.o À;have A5:zj (λx=>x=b\/x=k.mp) w n:=(hd.a.aE<|zj.U F λ_ h=>h.elim).aE<|hx.o.U λ_ h=>ac h;have bm:H<|uB k L kind ep t c m l=Y ({q with bF:=t,fD:=q.dX,dX:=l},gh L D):=by show _=_;rw[p.o];exact xec v.o B.o (by rw[h2.o];exact W.o)<|by rw[bp.o];exact v'.o
  clear bf F hx hd P bk bb v';try clear X
  try clear S2
  try clear hHeld
  generalize gh L D=L6 at*;clear p v h2 W B
 rotate_left;focus
  have bm:H<|uB k L kind ep t c m l=Y ({q with bF:=t,fD:=q.dX,dX:=l},L):=by show _=_;rw[p.o];exact xeb v.o B.o<|by rw[h2.o];exact W.o
  have L5:Jh d b q:=G.l;have R5:xh d (V<|Z w) (Ac kind ep t c m l) 342:=G.r;have A5:zj (λx=>x=b\/x=k.mp) w d:=G.a;have ba:Je d k.mp L:=G.m;clear G d0;clear p v h2 W B;obtain⟨n,ce⟩:∃n,n=d:=⟨_,O⟩;obtain⟨L6,b8⟩:∃L6,L6=L:=⟨_,O⟩;subst ce b8
 all_goals
  have i2:N n (K (V<|Z w) 2)=J t:=R5.i 2 O;have i5:N n (K (V<|Z w) 5)=E l:=R5.i 5 O;have j8:N n (K b 8)=J q.bF:=xh.i L5 8 O;have j9:N n (K b 9)=E q.dX:=xh.i L5 9 O;have j10:N n (K b 10)=E q.fD:=xh.i L5 10 O;have g8:=xh.dS L5 8;have g9:=xh.dS L5 9;have ck:=xh.dS L5 10;go_wp2;have LE:Jh (ay (ay (ay n (K b 8)<|J t) (K b 10)<|E q.dX) (K b 9)<|E l).drew b {q with bF:=t,fD:=q.dX,dX:=l}:=(((xh.H L5 8<|J t).H 10<|E q.dX).H 9<|E l).W;have BS:zj (λx=>x=b) n (ay (ay (ay n (K b 8)<|J t) (K b 10)<|E q.dX) (K b 9)<|E l).drew:=(((zj.H n (K b 8)<|J t).aE<|zj.H _ (K b 10)<|E q.dX).aE<|zj.H _ (K b 9)<|E l).W;have AE:zj (λx=>x=b\/x=k.mp) w (ay (ay (ay n (K b 8)<|J t) (K b 10)<|E q.dX) (K b 9)<|E l).drew:=A5.aE<|BS.U λ_ h=>aJ h;have ME:Je (ay (ay (ay n (K b 8)<|J t) (K b 10)<|E q.dX) (K b 9)<|E l).drew k.mp L6:=ba.y BS<|Ne.symm ho;have b2:Jh _ b _:=LE;have b1:zj _ w _:=AE;have b3:Je _ k.mp _:=ME;clear LE BS AE ME;have cu:¬V (Z w)=b:=À
  have cv:¬b=V (Z w):=À
  go_region_with (fail);all_goals (go_end0;exact FW bm.o b1 b2 b3)
def yB:prog.underlying 134=Y (.map 3 139):=Â
def Ii(w):(zeroValue 139).run prog w=dG (nR ([],0)) w:=Ä
def PK(s k w):(Instr.field 139 (bY #[ak s,J k]) 0).run prog w=dG (ak s) w:=Ä
def PL(s k w):(Instr.field 139 (bY #[ak s,J k]) 1).run prog w=dG (J k) w:=Ä
attribute[local go_sem] PK PL
structure Dk where
 bU:U
 ay:Q
 L:Xv
 nx:dD<|Nat×U×U
def Dk.nxV(d:Dk):Zv:=aU (d.nx.map λc=>⟨c.1,0,R⟩)
structure Jt(w:Zy)(D:Q)(d:Dk):Prop where
 bT:xh w D #[J d.bU,fu<|some d.ay,d.nxV] 137
 jS:sH w d.ay d.L
 ku:∀c,d.nx=Y c->xh w c.1 #[J c.2.1,J c.2.2] 175
def Dk.cN(D:Q)(d:Dk)(x:Q):Prop:=x=D\/x=d.ay\/∃c,d.nx=Y c/\x=c.1
def Jt.y{S d}(h:Jt w D d)(a:zj S w w')(b:∀x,d.cN D x->¬S x):Jt w' D d:=
 ⟨h.bT.y a<|b _<|aJ O,h.jS.y a<|b _<|ac<|aJ O,λc e=>(h.ku c e).y a<|b _<|ac<|ac ⟨c,e,O⟩⟩
def Jt.Ba{d}(h:Jt w D d):d.ay≠D:=by intro a;let⟨e,c,y,_⟩:=h.jS;rw[a]at y;have b:=h.bT;grind [xh]
def jp(L:Xv)(n:U):Zl:=((Xm L n).getD ([],0)).1
def Ei(D d n w)(h:Jt w D d):aG 76 #[zq D,J n] w (E<|jp d.L n):=by have b:N w (K D 1)=(fu<|some d.ay):=h.bT.i 1 O;have a:=Ia yB fR Ii h.jS n;unfold nR at a;go_enter func76.1,Tryz.ntmps76;go_wp2;go_ret;exact⟨O,O⟩
def Ih(x w):aq 78 #[E x] w (nR (x,T x)):=by go_enter func78.1,Tryz.ntmps78;go_wp2;refine ji (by simp[eR,Tryz.results78,go_sem,nR]) O ⟨O,(zt _ _).alloc (zd _) _⟩
def Vm(L:Xv)(n:U)(f:Zl×U):Xv:=if f.1=[]then nS L n else ol L n f
def Jt.qQ{S:ZP}{d:Dk}{y:Xv}(h:Jt w D d)(a:zj (·=d.ay) w w')(e:sH w' d.ay y):Jt w' D {d with L:=y}:=by refine⟨h.bT.y a<|Ne.symm h.Ba,e,λc b=>(h.ku c b).y a ?_⟩;intro g;have f:=h.ku c b;let⟨x,k,p,_⟩:=h.jS;grind [xh]
def Ik(D d n f w)(h:Jt w D d):aK prog 216 #[zq D,J n,nR f] w λe w'=>e=ai (cE #[])/\zj (·=d.ay) w w'/\Jt w' D {d with L:=Vm d.L n f}:=by
 let⟨x,F⟩:=f;have j:N w (K D 1)=(fu<|some d.ay):=h.bT.i 1 O;have k:=h.bT.lt;have b:=h.y (zj.E<|au #[E x,J F] 139) λ_ _=>id;unfold nR;cases x with
 |nil=>have l:=xl [];let⟨W,u,y,s⟩:=WZ yB fR b.jS 0 3 n;have c:=(zj.E _).aE y;have g:=b.qQ (S:=λ_=>False) y s;go_enter func216.1,Tryz.ntmps216;go_wp2;(apply ji (v:=cE #[]) (by simp[eR,Tryz.results216,go_sem]) O);exact⟨O,c,g⟩
 |cons a x=>
  have i:(st (a::x)).toList.isEmpty=ao:=zab
  let⟨W,u,y,s⟩:=W1 yB fR (w:=(aF w<|au #[E (a::x),J F] 139).drew) b.jS n (a::x,F);unfold nR at u;have c:=((zj.E _).W).aE y;have g:=Jt.qQ (S:=λ_=>False) (w:=(aF w<|au #[E (a::x),J F] 139).drew) ⟨b.bT,b.jS,b.ku⟩ y s;go_enter func216.1,Tryz.ntmps216;go_wp2;have m:N (aF w<|au #[E (a::x),J F] 139) (K D 1)=(fu<|some d.ay):=b.bT.i 1 O;have o:N (aF w<|au #[E (a::x),J F] 139) (K (V<|Z w) 0)=E (a::x):=(xh.ex w #[E (a::x),J F] 139).i 0 O;have p:N (aF w<|au #[E (a::x),J F] 139) (K (V<|Z w) 1)=J F:=(xh.ex w #[E (a::x),J F] 139).i 1 O;generalize aF w _=r at*;go_still_tail 6,Ä;go_wp2;go_end0;exact⟨O,c,g⟩
end
end P
namespace A
open Tryq Go Go.RowKit Go.Maps Go.Sort Go.Shelf
def fq{P:Zp}{i:Q}{f g}(h:P.funcs[i]?=Y f)(e:f=g):P.funcs[i]?=Y g:=e▸h
def Tryq.pg:Ren:={f:=λx=>match x with|7=>132|10=>202|n=>n,t:=λx=>match x with|23=>134|26=>3|3=>139|28=>209|0=>0|27=>208|33=>219|4=>4|n=>n,g:=λx=>x}
def Tryq.rN:SlLaysZI.n7 prog pg:=by
 constructor
 case mixed=>kernel_rfl
 case f7=>exact⟨Tryz.f132.name,Ä,fq func132.1 Ä⟩
 case f10=>exact⟨Tryz.f202.name,Ä,fq func202.1 Ä⟩
 all_goals (intros;simp[pg])
def Tryq.mG:Ren:={f:=λx=>match x with|6=>131|8=>200|9=>201|11=>239|13=>219|12=>240|23=>273|24=>274|14=>286|15=>287|16=>288|17=>289|18=>290|19=>291|20=>292|21=>293|22=>294|25=>311|26=>304|27=>305|28=>312|29=>313|30=>314|31=>318|n=>n,t:=λx=>match x with|26=>3|28=>209|24=>40|0=>0|3=>3|37=>108|48=>232|50=>255|4=>4|40=>346|39=>345|45=>350|5=>5|9=>9|51=>374|55=>377|57=>384|58=>385|33=>219|n=>n,g:=λx=>x}
def Tryq.tX:SlLaysZI.n6 prog mG:=by
 constructor
 case mixed=>kernel_rfl
 case f6=>exact⟨Tryz.f131.name,Ä,fq func131.1 Ä⟩
 case f8=>exact⟨Tryz.f200.name,Ä,fq func200.1 Ä⟩
 case f11=>exact⟨Tryz.f239.name,Ä,fq func239.1 Ä⟩
 case i26=>kernel_rfl
 all_goals (intros;simp[mG])
def Tryq.rR:Ren:={f:=λx=>match x with|5=>201|8=>219|7=>240|19=>273|20=>274|10=>286|11=>287|12=>288|13=>289|14=>290|15=>291|16=>292|17=>293|18=>294|30=>311|31=>304|32=>305|33=>312|34=>313|35=>314|40=>318|n=>n,t:=λx=>match x with|23=>40|25=>3|3=>3|32=>108|22=>40|0=>0|44=>232|46=>255|4=>4|36=>346|35=>345|41=>350|5=>5|9=>9|53=>374|57=>377|63=>384|64=>385|n=>n,g:=λx=>x}
def Tryq.rQ:SlLaysM.n5 prog rR:=by
 constructor
 case mixed=>kernel_rfl
 case f5=>exact⟨Tryz.f201.name,Ä,fq func201.1 Ä⟩
 case f7=>exact⟨Tryz.f240.name,Ä,fq func240.1 Ä⟩
 case f8=>exact fq func219.1 Ä
 case f10=>exact⟨Tryz.f286.name,Ä,fq func286.1 Ä⟩
 case f11=>exact⟨Tryz.f287.name,Ä,fq func287.1 Ä⟩
 case f12=>exact⟨Tryz.f288.name,Ä,fq func288.1 Ä⟩
 case f13=>exact⟨Tryz.f289.name,Ä,fq func289.1 Ä⟩
 case f14=>exact⟨Tryz.f290.name,Ä,fq func290.1 Ä⟩
 case f15=>exact⟨Tryz.f291.name,Ä,fq func291.1 Ä⟩
 case f16=>exact⟨Tryz.f292.name,Ä,fq func292.1 Ä⟩
 case f17=>exact⟨Tryz.f293.name,Ä,fq func293.1 Ä⟩
 case f18=>exact⟨Tryz.f294.name,Ä,fq func294.1 Ä⟩
 case f19=>exact fq func273.1 Ä
 case f20=>exact fq func274.1 Ä
 case f30=>exact⟨Tryz.f311.name,Ä,fq func311.1 Ä⟩
 case f31=>exact fq func304.1 Ä
 case f32=>exact fq func305.1 Ä
 case f33=>exact⟨Tryz.f312.name,Ä,fq func312.1 Ä⟩
 case f34=>exact⟨Tryz.f313.name,Ä,fq func313.1 Ä⟩
 case f35=>exact⟨Tryz.f314.name,Ä,fq func314.1 Ä⟩
 case f40=>exact⟨Tryz.f318.name,Ä,fq func318.1 Ä⟩
 all_goals (intros;simp[rR])
def Tryq.rP:Ren:={f:=λx=>match x with|7=>86|10=>144|n=>n,t:=λx=>match x with|23=>143|26=>9|3=>155|28=>159|0=>0|27=>158|33=>101|4=>4|n=>n,g:=λx=>x}
def Tryq.rO:SlLaysZ.n7 prog rP:=by
 constructor
 case mixed=>kernel_rfl
 case f7=>exact⟨Tryz.f86.name,Ä,fq func86.1 Ä⟩
 case f10=>exact⟨Tryz.f144.name,Ä,fq func144.1 Ä⟩
 all_goals (intros;simp[rP])
def Tryq.mH:Ren:={f:=λx=>match x with|6=>85|8=>142|9=>143|11=>217|13=>219|12=>218|23=>273|24=>274|14=>264|15=>265|16=>266|17=>267|18=>268|19=>269|20=>270|21=>271|22=>272|25=>303|26=>304|27=>305|28=>306|29=>307|30=>308|31=>317|n=>n,t:=λx=>match x with|26=>9|28=>159|24=>51|0=>0|3=>3|37=>108|48=>232|50=>255|4=>4|40=>346|39=>345|45=>350|5=>5|9=>9|51=>374|55=>377|57=>384|58=>385|33=>101|n=>n,g:=λx=>x}
def Tryq.tY:SlLaysZ.n6 prog mH:=by
 constructor
 case mixed=>kernel_rfl
 case f6=>exact⟨Tryz.f85.name,Ä,fq func85.1 Ä⟩
 case f8=>exact⟨Tryz.f142.name,Ä,fq func142.1 Ä⟩
 case f11=>exact⟨Tryz.f217.name,Ä,fq func217.1 Ä⟩
 case i26=>kernel_rfl
 all_goals (intros;simp[mH])
def Tryq.rT:Ren:={f:=λx=>match x with|6=>143|8=>219|9=>218|19=>273|20=>274|21=>264|22=>265|23=>266|24=>267|25=>268|26=>269|27=>270|28=>271|29=>272|36=>303|31=>304|32=>305|37=>306|38=>307|39=>308|41=>317|n=>n,t:=λx=>match x with|27=>51|29=>9|3=>3|32=>108|26=>51|0=>0|44=>232|46=>255|4=>4|36=>346|35=>345|41=>350|5=>5|9=>9|53=>374|57=>377|63=>384|64=>385|n=>n,g:=λx=>x}
def Tryq.rS:SlLaysM.n6 prog rT:=by
 constructor
 case mixed=>kernel_rfl
 case f6=>exact⟨Tryz.f143.name,Ä,fq func143.1 Ä⟩
 case f8=>exact fq func219.1 Ä
 case f9=>exact⟨Tryz.f218.name,Ä,fq func218.1 Ä⟩
 case f19=>exact fq func273.1 Ä
 case f20=>exact fq func274.1 Ä
 case f21=>exact⟨Tryz.f264.name,Ä,fq func264.1 Ä⟩
 case f22=>exact⟨Tryz.f265.name,Ä,fq func265.1 Ä⟩
 case f23=>exact⟨Tryz.f266.name,Ä,fq func266.1 Ä⟩
 case f24=>exact⟨Tryz.f267.name,Ä,fq func267.1 Ä⟩
 case f25=>exact⟨Tryz.f268.name,Ä,fq func268.1 Ä⟩
 case f26=>exact⟨Tryz.f269.name,Ä,fq func269.1 Ä⟩
 case f27=>exact⟨Tryz.f270.name,Ä,fq func270.1 Ä⟩
 case f28=>exact⟨Tryz.f271.name,Ä,fq func271.1 Ä⟩
 case f29=>exact⟨Tryz.f272.name,Ä,fq func272.1 Ä⟩
 case f31=>exact fq func304.1 Ä
 case f32=>exact fq func305.1 Ä
 case f36=>exact⟨Tryz.f303.name,Ä,fq func303.1 Ä⟩
 case f37=>exact⟨Tryz.f306.name,Ä,fq func306.1 Ä⟩
 case f38=>exact⟨Tryz.f307.name,Ä,fq func307.1 Ä⟩
 case f39=>exact⟨Tryz.f308.name,Ä,fq func308.1 Ä⟩
 case f41=>exact⟨Tryz.f317.name,Ä,fq func317.1 Ä⟩
 all_goals (intros;simp[rT])
end A
namespace P
variable{w w':Zy}{m B:Q}{L:KV}{S:ZP}{k n:U}{t:Zt}{X:Zv}{C:Za}{c:Vk}{D:bA Vk}{x:Zl}
open A.Tryq Go.RowKit
section
open Go.Maps Go.Sort Go.Shelf Go.MapKept
def CN(_:Zv):dD<|DataW Q×bA MemPlace:=Y (.nil,[])
def YP{y:Type}(p):∀e:bA<|Lit×DataW y,(DataW.insert p e).Perm (p::e)
 |[]=>by simp[DataW.insert]|q::e=>by unfold DataW.insert;split;simp;exact((YP p e).cons q).trans<|.swap ..
def Ig{y:Type}:∀e:bA<|Lit×DataW y,(e.foldr DataW.insert []).Perm e
 |[]=> .refl _|p::e=>(YP p _).trans<|(Ig e).cons p
abbrev LL:U->U->ez:=λx y=>bR (x<=y)
def YZ{l y:bA U}(h:l.Perm y):l.mergeSort LL=y.mergeSort LL:=mergeSort_of_perm_i h
def kh(x:U):Prop:=-9223372036854775808<=x/\x<=9223372036854775807
def sH.uR{L}(h:sH w m L)(hk:∀p∈L,kh p.1)(g:T L<=pu):
  ∃D:DataW Q,w.ownsMap prog 3 CN m (T L) D/\pz D=T L/\(intKeys D).Perm (L.map (·.1)):=by
 let⟨j,y,i,s,W⟩:=h;have d:V j=T L:=by have:=gv T s;simpa using this
 have b:∀x∈eV j,∃p∈L,x.key=aD bB p.1/\pw prog 3 CN x=Y (.int bB p.1,.nil):=λx e=>by
  let⟨p,r,z,_⟩:=H' s x e;refine⟨p,r,z,?_⟩;have f:(Lit.int bB p.1).wf=M:=by let⟨u,o⟩:=hk p r;simp[Lit.wf];exact⟨u,o⟩
  simp[pw,z,keyOf,mapKey,fR,f,CN]
 refine⟨_,⟨j,y,i,⟨À,W,λx e=>Á⟩,À,O⟩,?_,?_⟩;simp[Maps.size_eq];rw[(Ig _).length_eq];grind;simp[intKeys];apply((Ig _).map _).trans;rw[Wj];have:∀(l:bA eF) (L:Xv),pW l L->(∀x∈l,∃p∈L,x.key=aD bB p.1)->(∀x∈l,x∈eV j)->l.map ((λp=>Go.intOf p.1)∘WideElems.rg prog 3 CN)=L.map (·.1):=by
  intro l;induction l with
  |nil=>intro L c _ _;cases L with|nil=>rfl|cons p L=>grind [LF]
  |cons x l I=>
   intro L c _ a;cases L with
   |nil=>grind [pW]
   |cons p L=>
    let⟨A,G,P⟩:=FP c;let⟨q,_,v,F⟩:=b x (a x Â);have:p.1=q.1:=by rw[A]at v;injection v
    rw[Js,Js];refine congr (gv List.cons ?_) ?_;rw[Function.comp_apply,WideElems.rg_of F,this];rfl;grind [H']
 grind
def xu9(m):AnyZI.SortsIn prog mG gI m:=
 ⟨λy d a f W e b c=>callsIn_wide.2<|AnyM.slices_Sort_int rQ y d a f W e b c,
 λp a W=>callsIn_wide.2<|AnyM.slices_Sort_int_none rQ p a W⟩
def Zk(L:Xv):bA U:=(L.map (·.1)).mergeSort LL
def xb1(D d w)(h:Jt w D d)(hk:∀p∈d.L,kh p.1)(l:T d.L<=1000000):
  aK prog 75 #[zq D] w λe w'=>∃v,e=ai v/\w'.ownsRow (V<|Z w) 3 1 v (T (Zk d.L)) ((Zk d.L).map encZ)/\aP (V<|Z w) w w':=by
 apply(callsIn_wide (n:=6)).1;let⟨P,z,G,u⟩:=h.jS.uR hk (by grind [pu]);have c:pz P<=pu:=by rw[G];simp[pu];omega
 have b:pz P*8<=140737488355328:=by rw[G];omega
 have f:SeqGives gI 2 prog 202 #[aU _] encZ (λi=>i.Perm _) _<|aF w<|au #[fu<|some d.ay] 134:=
  AnyZI.keys_gives (ρ:=pg) {rN with} gI _ bD O À (V<|Z w) d.ay _ P _ Â Â (by let⟨A,F,j,I,l,hD⟩:=z;exact⟨A,F,(Xj _ _ d.ay z.lt).trans j,I,l,hD⟩)
 have o:Fence.wide.fn 132:=bD;have q:Fence.wide.fn 131:=bD;have t:N w (K D 1)=(fu<|some d.ay):=h.bT.i 1 O;refine callsIn_of_wp func75.1 O bD ?_ O;simp only[Tryz.ntmps75,jd,xg,qy,jY,lh,qu,qw,Xa,Zh,qj,qg]
 gi_wp2_with (first
  |(gi_at_call 132;apply((λs W=>AnyZI.keys_in rN gI 5 bD O s W) _ _).mono;rintro e w'⟨rfl,rfl⟩)
  |(gi_at_call 131;apply(AnyZI.sorted_in tX gI 5 bD bD bD bD O À (xu9 _) (enters_of func201.1 Ä O) 202 #[aU _] bD (enters_of func202.1 Ä O) _ _ c b _ f).mono;rintro e w'⟨v,i,rfl,m,a,k,j⟩))
 go_ret;have g:i.mergeSort (λx y=>bR (x<=y))=Zk d.L:=YZ<|m.trans u;rw[g]at a;have r:T i=T (Zk d.L):=by rw[<-g];exact(Xo i _).length_eq.symm
 rw[r]at a;exact⟨v,O,ownsRow_base_a a Â,((zt _ w).alloc (zd _) _).trans<|j.mono Â⟩
end
section
attribute[local go_sem] zn zg
attribute[local go_sem] PK PL
def If(w:Zy)(g:Q)(y:bA U):Prop:=∀i (h:i<T y),N w (K g i)=J y[i]
def If.y{g y}(h:If w g y)(a:zj S w w')(c:¬S g):If w' g y:=λi b=>a.i c<|h i b
def oQ(L:Xv):Prop:=∀p∈L,kh p.1/\0<=p.2.2/\p.2.2<=(T p.2.1:Q)/\T p.2.1<=1000000
structure rU(L:Xv):Prop where
 fU:oQ L
 bF:T L<=1000000
def Ve{L v}:Xm L k=Y v->(k,v)∈L:=by
 induction L with
 |nil=>intro h;cases h
 |cons p L I=>grind [Xm]
def YA{L v p}:p∈ol L k v->p=(k,v)\/p∈L:=by induction L with|nil=>grind [ol]|cons q L I=>grind [ol]
theorem LO{L p}:p∈nS L k->p∈L:=by induction L with|nil=>exact id|cons q L I=>grind [nS]
theorem YJ(L k v):T (ol L k v)<=T L+1/\((Xm L k).isSome->T (ol L k v)=T L):=by induction L with|nil=>simp[ol,Xm]|cons q L I=>grind [ol,Xm]
theorem PT(L k):T (nS L k)<=T L:=by induction L with|nil=>simp[nS]|cons q L I=>grind [nS]
def Zm(L:Xv)(n:U):Zl×U:=(Xm L n).getD ([],0)
def oQ.mJ{L}(h:oQ L)(n):0<=(Zm L n).2/\(Zm L n).2<=(T (Zm L n).1:Q)/\T (Zm L n).1<=1000000:=by unfold Zm;cases y:Xm L n with|none=>simp|some v=>exact(h _<|Ve y).2
def oQ.np{L}(h:oQ L){f:Zl×U}(c:kh n)(b:0<=f.2/\f.2<=(T f.1:Q)/\T f.1<=1000000):oQ<|Vm L n f:=by unfold Vm;split;exact λp a=>h p<|LO a;intro p a;obtain rfl|a:=YA a;grind;exact h p a
def Wx(t:U)(f:Zl×U):U:=f.2+min t ((T f.1:Q)-f.2)
def gK(t:U)(L:Xv)(n:U):Xv:=Vm L n ((Zm L n).1.take (bL (Wx t<|Zm L n)),T ((Zm L n).1.take (bL (Wx t<|Zm L n))))
def uT(t:U)(L:Xv):Xv:=(Zk L).foldl (gK t) L
def zz4{t}{f:Zl×U}(a:0<=t)(h:0<=f.2/\f.2<=(T f.1:Q)):0<=Wx t f/\Wx t f<=(T f.1:Q):=by unfold Wx;omega
theorem YL{L}(h:k≠n):Xm (nS L n) k=Xm L k:=by induction L with|nil=>rfl|cons q L I=>grind [nS,Xm]
theorem zwg{L v}(h:k≠n):Xm (ol L n v) k=Xm L k:=by induction L with|nil=>simp[ol,Xm,h]|cons q L I=>grind [ol,Xm]
theorem YO{L f}(h:k≠n):Xm (Vm L n f) k=Xm L k:=by grind [Vm,YL,zwg]
def oQ.gK{L:Xv}{t:U}(h:oQ L)(b:0<=t)(a:kh n):oQ<|gK t L n:=by have y:=h.mJ n;refine h.np a ⟨Â,Â,?_⟩;grind
def zn0{L}(h:k∈L.map (·.1)):(Xm L k).isSome:=by
 induction L with
 |nil=>cases h
 |cons q L I=>grind [Xm]
theorem PN{L}:k∈Zk L↔k∈L.map (·.1):=(Xo _ _).mem_iff
def LP(L):T (Zk L)=T L:=by grind [Zk,List.length_mergeSort]
def LN(D d w)(h:Jt w D d)(hk:rU d.L):
  aK prog 75 #[zq D] w λe w'=>∃p g cap,e=ai (aB p (T (Zk d.L)) cap)/\(Zk d.L≠[]->p=Y ⟨g,0,R⟩)/\V (Z w)<=g/\If w' g (Zk d.L)/\aP (V<|Z w) w w':=by
 apply(xb1 D d w h (λp n=>(hk.fU p n).1) hk.bF).mono;rintro e w'⟨v,rfl,⟨s,m⟩,j⟩;obtain⟨rfl,k⟩|⟨g,cap,a,rfl,l,r,t,q,y,o⟩:=m;have c:=jv k;rw[c];exact⟨R,V<|Z w,0,O,λx=>dC O x,zd _,λi b=>dC b Â,j⟩;refine⟨_,g,cap,O,λ_=>O,l,λi b=>?_,j⟩;have:a.toList[i]?=J (Zk d.L)[i]:=by
  have f:(a.toList.take<|T (Zk d.L)*1)[i]?=J (Zk d.L)[i]:=by rw[o];simp[b,encZ]
  rw[Kx]at f;simpa[b]using f
 grind [N]
def xtp(D d t)(X:0<=t)(h2:kh t)(w)(h:Jt w D d)(hk:rU d.L):
  aK prog 263 #[zq D,J t] w λe w'=>e=ai (cE #[])/\zj (·=d.ay) w w'/\Jt w' D {d with L:=uT t d.L}:=by
 have P:=h;have s:=hk;have bb:=h.jS.lt;go_enter func263.1,Tryz.ntmps263;go_wp2;apply(LN D d w P s).mono;rintro e w1⟨p,g,ba,rfl,hp,hg,o,b⟩;have h3:=P.y (zj.J b) λ_ _=>id;have hx:g≠d.ay:=À
 have HL:T (Zk d.L)<=1000000:=by show _<=_;rw[LP];exact s.bF
 go_wp2;go_loopw [11] (λi wr=>∃k:Q,k<=T (Zk d.L)/\i=J k/\zj (·=d.ay) w1 wr/\Jt wr D {d with L:=((Zk d.L).take k).foldl (gK t) d.L}/\oQ (((Zk d.L).take k).foldl (gK t) d.L)) (λi _=>bL (T (Zk d.L)-bZ i));exact⟨0,À,O,zj.refl _ _,É,by simpa using s.fU⟩;obtain⟨k,hk,rfl,F,r,A⟩:=hrel;by_cases m:k<T (Zk d.L)
 ·have i1:(k:U)<(T (Zk d.L):Q):=À;have ho:=hp (λe=>Á);subst ho;have hc:=(o.y F hx) k m;have h1:H<|((Zk d.L).take<|k+1).foldl (gK t) d.L=gK t (((Zk d.L).take k).foldl (gK t) d.L) (Zk d.L)[k]:=by show _=_;rw[zp m,Kw];rfl
  have HI:kh (Zk d.L)[k]:=by have W:(Zk d.L)[k]∈Zk d.L:=Xk _;rw[PN]at W;let⟨q,hq,e⟩:=Xe.1 W;rw[<-e];exact(s.fU q hq).1
  have S:=F;generalize((Zk d.L).take k).foldl (gK t) d.L=L1 at*;generalize(Zk d.L)[k]=n at*;have a:=Ia yB fR Ii r.jS n;have B:H<|gK t L1 n=Vm L1 n ((Zm L1 n).1.take (bL (Wx t<|Zm L1 n)),T ((Zm L1 n).1.take (bL (Wx t<|Zm L1 n)))):=O;have hd:=A.mJ n;let⟨j,l⟩:=zz4 X ⟨hd.1,hd.2.1⟩;change(fC 134 (fu<|some d.ay) (J n) ao).run prog wr=dG (nR<|Zm L1 n) wr at a;revert l j hd B a;generalize Zm L1 n=f;let⟨x,fl⟩:=f;intro B hd j l a;unfold nR at a;simp only at hd;have c1:N wr (K D 1)=(fu<|some d.ay):=r.bT.i 1 O;have cs:=h2;unfold kh at cs;go_wp2;rw[vD];have C:∀y,x.take (bL (fl+min t (T x-fl)))=y->gK t L1 n=Vm L1 n (y,T y):=λy u=>by rw[B.o,<-u];rfl
  generalize u:x.take (bL (fl+min t (T x-fl)))=y;have g':=C y u;have v':=r.y (zj.E<|au #[E x,J fl] 139) λ_ _=>id;apply(Ih y _).mono;rintro e w2⟨rfl,c⟩;have v:=(S.aE<|zj.E<|au #[E x,J fl] 139).aE<|zj.J c;unfold nR;go_wp2;apply(Ik D {d with L:=L1} n (y,T y) _<|v'.y (zj.J c) λ_ _=>id).mono;rintro e w3⟨rfl,G,es⟩;have z:Jt w3 D {d with L:=gK t L1 n}:=by show Jt _ _ _;rw[g'];exact es
  go_wp2;go_roundw;exact⟨k+1,À,Å,v.aE G,by rw[h1.o];exact z,by rw[h1.o];exact A.gK X HI⟩;exact Ì
 have I:k=T (Zk d.L):=À
 subst I;have HE:Jt wr D {d with L:=uT t d.L}:=by show Jt _ _ _;rw[jz]at r;exact r
 have S:=(zj.J b).aE F;go_wp2;go_end0;simp_all
end
section
attribute[local go_sem] zn zg
def xP(X:Zv)(w:Zy):Prop:=∃t x,X=iW t x/\N w (K 0 0)=Y X
def xP.y(h:xP X w)(b:zj S w w')(a:¬S 0):xP X w':=zc7
structure jW(D:Q)(d:Dk):Prop where
 fW:rU d.L
 nx:∀c,d.nx=Y c->kh c.2.1/\0<=c.2.2/\kh c.2.2
 sI:¬d.cN D 0
def Dk.dZ(d:Dk):Dk:=match d.nx with
 |none=>d|some c=>{d with nx:=Y (c.1,c.2.1-1,c.2.2)}
def Dk.cS(d:Dk):ez:=match d.nx with
 |none=>ao|some c=>bR (c.2.1<=0)
def Dk.eS(d:Dk):Dk:=match d.nx with
 |none=>d|some c=>{d with nx:=R,L:=uT c.2.2 d.L}
def PQ(X:Zv)(D:Q)(d:Dk)(w:Zy)(e:kH)(w':Zy):Prop:=
 zj (d.cN D) w w'/\((e=ai (cE #[])/\Jt w' D d.dZ/\H (d.cS=ao))\/(e=kn X/\Jt w' D d.eS/\H (d.cS=M)))
def Ij(D d w)(h:Jt w D d)(hk:jW D d)(l:xP X w):aK prog 215 #[zq D] w<|PQ X D d w:=by
 let⟨room,u,L,nx⟩:=d;have i:=h.bT.i 2 O;cases nx with
 |none=>have n:N w (K D 2)=aU R:=i;have m:PQ X D ⟨room,u,L,R⟩ w (ai<|cE #[]) w:=⟨zj.refl _ _,aJ ⟨O,h,O⟩⟩;clear h hk l i;go_enter func215.1,Tryz.ntmps215;go_wp2;go_end0;exact m
 |some c=>
  let⟨c,a,t⟩:=c;have b:=h.ku _ O;have q:c≠D:=by intro v;have o:=h.bT;subst v;unfold xh at o b;rw[o]at b;cases b
  have n:N w (K D 2)=zq c:=i;have hd:N w (K c 0)=J a:=b.i 0 O;have h1:N w (K c 1)=J t:=b.i 1 O;let⟨ha,ht0,ht⟩:=hk.nx _ O;by_cases y:0<a
  ·have W:-9223372036854775808<=a/\a<=9223372036854775807:=ha;have m:PQ X D ⟨room,u,L,Y (c,a,t)⟩ w (ai<|cE #[])<|ay w (K c 0)<|J<|a-1:=by refine⟨(zj.H w (K c 0) _).U λx j=>ac (ac ⟨_,O,j⟩),aJ ⟨O,⟨?_,?_,?_⟩,?_⟩⟩;exact h.bT.dR (Ne.symm q) _;refine h.jS.y (zj.H w (K c 0) _) ?_;intro v;let⟨es,k,o,_⟩:=h.jS;grind [xh];intro F f;cases f;exact b.H 0 _;show Dk.cS _=ao;simp[Dk.cS];omega
   have h2:=b.dS 0;have I:a-1<=9223372036854775807:=À
   clear h hk l i b ha ht0 ht W;go_enter func215.1,Tryz.ntmps215;go_wp2;go_end0;exact m
  have s:=hk;have B:=l;have C:=ht;have hx:=h.bT.dS 2;have P:H<|Dk.cS ⟨room,u,L,Y (c,a,t)⟩=M:=by show Dk.cS _=M;simp[Dk.cS];omega
  have A:Jt (ay w (K D 2)<|aU R) D ⟨room,u,L,R⟩:=by refine⟨h.bT.H 2 _,?_,λF f=>by cases f⟩;exact h.jS.y (zj.H w (K D 2) _) h.Ba
  have z:zj (Dk.cN D ⟨room,u,L,Y (c,a,t)⟩) w<|ay w (K D 2)<|aU R:=(zj.H w (K D 2) _).U λx j=>aJ j;clear h hk l i b ha ht;go_enter func215.1,Tryz.ntmps215;go_wp2;refine(xtp D ⟨room,u,L,R⟩ t ht0 C _ A s.fW).mono ?_;rintro e ho⟨rfl,p,r⟩;have g:=z.aE<|p.U λx j=>ac (aJ j);obtain⟨S,x,rfl,G⟩:=B.y g s.sI;go_wp2;exact⟨O,g,ac ⟨O,r,P.o⟩⟩
end
section
attribute[local go_sem] zn zg
attribute[local go_sem] PK PL
def vF(X:Zv)(D:Q)(d:Dk)(l:Xv)(w:Zy)(e:kH)(w':Zy):Prop:=
 zj (d.cN D) w w'/\((e=ai (cE #[])/\Jt w' D {d.dZ with L:=l}/\H (d.cS=ao))\/(e=kn X/\Jt w' D d.eS/\H (d.cS=M)))
def Dk.mI(d:Dk):d.dZ.L=d.L:=za4
theorem Dk.nU(d:Dk):d.dZ.ay=d.ay:=za4
theorem Dk.kO(d:Dk)(D x):d.dZ.cN D x↔d.cN D x:=by grind [Dk.cN,Dk.dZ]
def PR(D d n w)(h:Jt w D d)(hk:jW D d)(i:xP X w):aK prog 139 #[zq D,J n] w<|vF X D d (nS d.L n) w:=by
 go_enter func139.1,Tryz.ntmps139;go_wp2;apply(Ij D d w h hk i).mono;rintro e w1⟨b,c⟩;obtain⟨rfl,a,f⟩|⟨rfl,a,f⟩:=c;rotate_left;exact⟨O,b,ac ⟨O,a,f⟩⟩;have j:N w1 (K D 1)=(fu<|some d.dZ.ay):=a.bT.i 1 O;let⟨W,q,y,z⟩:=WZ yB fR a.jS 0 3 n;have g:vF X D d (nS d.L n) w (ai<|cE #[]) W:=by refine⟨b.aE<|y.U λx k=>ac (aJ aM),aJ ⟨O,?_,f⟩⟩;rw[<-Dk.mI];exact a.qQ (S:=λ_=>False) y z
 go_wp2;go_end0;exact g
def uS(D d n x w)(h:Jt w D d)(hk:jW D d)(o:xP X w):aK prog 155 #[zq D,J n,E x] w<|vF X D d (Vm d.L n (x,T x)) w:=by
 go_enter func155.1,Tryz.ntmps155;go_wp2;apply(Ij D d w h hk o).mono;rintro e w1⟨b,k⟩;obtain⟨rfl,a,l⟩|⟨rfl,a,l⟩:=k;rotate_left;exact⟨O,b,ac ⟨O,a,l⟩⟩;go_wp2;apply(Ih x _).mono;rintro e r⟨rfl,c⟩;have f:=b.aE<|zj.J c;have g:=a.y (zj.J c) λ_ _=>id;go_wp2;apply(Ik D d.dZ n _ _ g).mono;rintro e p⟨rfl,i,j⟩;have m:vF X D d (Vm d.L n (x,T x)) w (ai<|cE #[]) p:=by refine⟨f.aE<|i.U λy q=>ac (aJ aM),aJ ⟨O,?_,l⟩⟩;rw[<-Dk.mI];exact j
 go_wp2;go_end0;exact m
def YH(D d n w)(h:Jt w D d)(hk:jW D d)(p:xP X w):aK prog 154 #[zq D,J n] w<|vF X D d (Vm d.L n (jp d.L n,T (jp d.L n))) w:=by
 go_enter func154.1,Tryz.ntmps154;go_wp2;apply(Ij D d w h hk p).mono;rintro e w1⟨b,k⟩;obtain⟨rfl,a,l⟩|⟨rfl,a,l⟩:=k;rotate_left;exact⟨O,b,ac ⟨O,a,l⟩⟩;have r:=a.bT.i 1 O;have m:=Ia yB fR Ii a.jS n;rw[Dk.mI]at m;change _=dG (bY #[E<|jp d.L n,_]) _ at m;go_wp2;apply(Ih (jp d.L n) _).mono;rintro e t⟨rfl,c⟩;have g:=b.aE<|zj.J c;have i:=a.y (zj.J c) λ_ _=>id;go_wp2;apply(Ik D d.dZ n (jp d.L n,T (jp d.L n)) _ i).mono;rintro e q⟨rfl,j,f⟩;have o:vF X D d (Vm d.L n (jp d.L n,T (jp d.L n))) w (ai<|cE #[]) q:=by refine⟨g.aE<|j.U λy s=>ac (aJ aM),aJ ⟨O,?_,l⟩⟩;rw[Dk.mI]at f;exact f
 go_wp2;go_end0;exact o
def YF(D d n x)(hx:T x<=1000000)(w)(h:Jt w D d)(hk:jW D d)(s:xP X w):aK prog 153 #[zq D,J n,E x] w<|vF X D d (Vm d.L n (jp d.L n++x,(Zm d.L n).2)) w:=by
 have t:=(hk.fW.fU.mJ n).2.2;go_enter func153.1,Tryz.ntmps153;go_wp2;apply(Ij D d w h hk s).mono;rintro e w1⟨b,m⟩;obtain⟨rfl,a,o⟩|⟨rfl,a,o⟩:=m;rotate_left;exact⟨O,b,ac ⟨O,a,o⟩⟩;have B:N w1 (K D 1)=(fu<|some d.dZ.ay):=a.bT.i 1 O;have g:=Ia yB fR Ii a.jS n;rw[Dk.mI]at g;change _=dG (nR<|Zm d.L n) _ at g;obtain⟨⟨y,j⟩,l⟩:∃f,Zm d.L n=f:=⟨_,O⟩;have r:H<|jp d.L n=y:=by show(Zm d.L n).1=y;rw[l]
 rw[l]at g t;unfold nR at g;go_wp2;have p:=a.y (zj.E<|au #[E y,J j] 139) λ_ _=>id;have i:=b.aE<|zj.E<|au #[E y,J j] 139;apply(Ik D d.dZ n (y++x,j) _ p).mono;rintro e v⟨rfl,k,c⟩;have q:vF X D d (Vm d.L n (jp d.L n++x,(Zm d.L n).2)) w (ai<|cE #[]) v:=by refine⟨i.aE<|k.U λz C=>ac (aJ aM),aJ ⟨O,?_,o⟩⟩;rw[Dk.mI]at c;rw[r.o,l];exact c
 go_wp2;go_end0;exact q
def xwt(D d n m w)(h:Jt w D d)(hk:jW D d)(t:xP X w)(B:m<=T (jp d.L n)):aK prog 138 #[zq D,J n,J m] w<|vF X D d (Vm d.L n ((jp d.L n).take m,T ((jp d.L n).take m))) w:=by
 go_enter func138.1,Tryz.ntmps138;go_wp2;apply(Ij D d w h hk t).mono;rintro e w1⟨b,o⟩;obtain⟨rfl,a,p⟩|⟨rfl,a,p⟩:=o;rotate_left;exact⟨O,b,ac ⟨O,a,p⟩⟩;have x:=a.bT.i 1 O;have r:=Ia yB fR Ii a.jS n;rw[Dk.mI]at r;change _=dG (bY #[E<|jp d.L n,_]) _ at r;have q:∀y,(jp d.L n).take m=y->Vm d.L n ((jp d.L n).take m,T ((jp d.L n).take m))=Vm d.L n _:=λy g=>by rw[g]
 go_wp2;rw[vD];generalize g:(jp d.L n).take m=y;have k:=q y g;rw[<-g]at k;apply(Ih y _).mono;rintro e u⟨rfl,c⟩;have i:=b.aE<|zj.J c;have j:=a.y (zj.J c) λ_ _=>id;go_wp2;apply(Ik D d.dZ n _ _ j).mono;rintro e v⟨rfl,l,f⟩;have s:vF X D d (Vm d.L n ((jp d.L n).take m,T ((jp d.L n).take m))) w (ai<|cE #[]) v:=by refine⟨i.aE<|l.U λz C=>ac (aJ aM),aJ ⟨O,?_,p⟩⟩;rw[Dk.mI]at f;rw[(q y g)];exact f
 go_wp2;go_end0;exact s
end
section
attribute[local go_sem] zn zg
def xsj(r w):aK prog 72 #[J r] w λe w'=>e=ai (zq<|V (Z w)+1)/\V (Z w')=V (Z w)+2/\aP (V<|Z w) w w'/\Jt w' (V (Z w)+1) ⟨r,V<|Z w,[],R⟩:=by
 have f:=run_makeMap (P:=prog) 134 w;have b:sH _ (V<|Z w) []:=⟨#[],0,xn _ _,O,MapKept.stamped_empty 0⟩;have a:V (aF w<|.map #[] 0).heap=V (Z w)+1:=Â
 go_enter func72.1,Tryz.ntmps72;go_wp2;go_ret;refine⟨O,Â,((zt _ _).alloc (zd _) _).trans<|((zt _ _).alloc (zd _) _).mono Â,?_,?_,λc d=>by cases d⟩;have:=xh.ex (aF w<|.map #[] 0) #[J r,fu<|some (V<|Z w),aU R] 137;rw[a]at this;exact this;exact b.y (S:=λ_=>False) (zj.E _) id
def CM:Zv->U
 | bY a=>match(a[0]?:dD Zv)with
  |some (ak s)=>(s.size:U)|_=>0
 |_=>0
theorem PS(v):CM (nR v)=(T v.1:Q):=by simp[CM,nR,zn]
def rD:bA eF->bE Q->U
 |[],_=>0|x::l,seen=>(if seen.contains x.born then CM x.val else 0)+rD l seen
theorem YR(s b):∀(y:bA eF),b∉y.map (·.born)->rD y (s.push b)=rD y s
 |[],_=>rfl|x::l,h=>by have a:¬x.born=b:=λe=>h (by simp[e]);simp[rD,YR s b l λe=>h<|jc.2<|Or.inr e,a]
def YX(s e)(b:s.contains e.born=ao):∀(y:bA eF),(y.map (·.born)).Nodup->e∈y->rD y (s.push e.born)=rD y s+CM e.val
 |[],_,h=>È
 |x::l,z,h=>by have a:=On.1 z;obtain rfl|h:=jc.1 h;grind [YR,rD];have c:¬x.born=e.born:=λq=>a.1<|Xe.2 ⟨e,h,q.symm⟩;have d:=YX s e b l a.2 h;grind [rD]
def YV(s):∀(z:bA eF),(∀x∈z,s.contains x.born=M)->rD z s=(z.map λe=>CM e.val).sum
 |[],_=>rfl|x::l,h=>by have b:=YV s l λy a=>h y<|jc.2<|Or.inr a;grind [rD]
def YW:∀(e:bA eF),rD e #[]=0
 |[]=>rfl|x::l=>by simp[rD,YW l]
def YE(s):∀(e:bA eF),(∀x∈e,0<=CM x.val/\CM x.val<=1000000)->0<=rD e s/\rD e s<=1000000*T e
 |[],_=>by simp[rD]|x::l,h=>by have b:=YE s l λy a=>h y<|jc.2<|Or.inr a;grind [rD]
def bO(L:Xv):U:=(L.map λp=>(T p.2.1:Int)).sum
def YY:∀{y:bA eF} {L:Xv},pW y L->(y.map λe=>CM e.val).sum=bO L
 |[],[],_=>rfl|[],_::_,h=>(LF h).elim
 |e::y,[],h=>by grind [pW]|e::y,p::L,h=>by obtain⟨b,c,a⟩:=FP h;have d:=YY a;grind [bO,PS]
def YK(D d w)(h:Jt w D d)(hk:rU d.L)(hx:-1000000000000000<=d.bU)(S:d.bU<=1000000000000000):
  aq 89 #[zq D] w (J<|d.bU-bO d.L):=by
 have ho:N w (K D 0)=J d.bU:=h.bT.i 0 O;have u:=h.bT.i 1 O;let⟨es,clock,hm,hent,hst⟩:=h.jS;have q:=(za.1 hm).1;have cs:=run_range_map (P:=prog) w 134 3 139 d.ay es clock yB hm;have C:=hst;have A:=hm;have hd:∀x∈eV es,∃v:Zl×U,x.val=nR v/\T v.1<=1000000:=λx s=>by let⟨p,hp,_,e⟩:=H' hent x s;exact⟨p.2,e,(hk.fU p hp).c⟩
 have g':T es.toList<=1000000:=by have:=gv T hent;simp only[jl]at this;rw[this];exact hk.bF
 go_enter func89.1,Tryz.ntmps89;go_wp2;generalize hw0:aF w _=w0;have B:H<|w0.heap[V (Z w)]?=Y (.mapIter (Y d.ay) clock #[] clock):=by show _=_;rw[<-hw0];exact xn _ _
 have z:aP (V<|Z w) w w0:=by show aP _ _ _;rw[<-hw0];exact(zt _ _).alloc (zd _) _
 go_loopw [3] (λx wr=>∃a u,x=J (d.bU-rD (eV es) a)/\clock<=u/\wr.heap[V (Z w)]?=Y (.mapIter (Y d.ay) clock a u)/\aP (V<|Z w) w wr) (λ_ wr=>match wr.heap[V (Z w)]?with
  |some (.mapIter _ _ a _)=>V (Go.leftOf es a)|_=>0)
 exact⟨#[],clock,by simp[YW],zd _,B.o,z⟩;obtain⟨a,h1,rfl,F,o,j⟩:=hrel;obtain⟨hz,hnx⟩|⟨x,s,w1,hw1,hnx⟩:=run_next_at (P:=prog) wr 0 (V<|Z w) d.ay clock h1 a es clock o ((j.block _ q).trans A) C.1 F
 ·have I:H<|d.bU-rD (eV es) a=d.bU-bO d.L:=by show _=_;rw[YV a (eV es)<|all_seen es a hz,YY hent]
  go_wp2;go_ret;exact⟨by rw[I.o];rfl,j⟩
 have b:x∈eV es/\a.contains x.born=ao:=by simp only[Go.leftOf,Array.toList_filter,Ja]at s;exact⟨s.1,Á⟩
 let⟨v,hv,hvl⟩:=hd x b.1;have c:H<|rD (eV es) (a.push x.born)=rD (eV es) a+(T v.1:Q):=by show _=_;rw[YX a x b.2 (eV es) C.2.1 b.1,hv,PS]
 have f:=YE (a.push x.born) (eV es) (λy W=>by grind [PS]);rw[c.o]at f;have v':=left_shrinks es a x s;rw[hv]at hnx;let⟨t,l⟩:=JP<|kI w1 (V<|Z w) (.mapIter (Y d.ay) clock (a.push x.born) clock);rw[l]at hnx;have r:w1.heap=wr.heap:=D0
 have i:t.heap[V (Z w)]?=Y (.mapIter (Y d.ay) clock (a.push x.born) clock):=by rw[<-l];simp[kI,r,(za.1 o).1]
 have m:aP (V<|Z w) w t:=by
  apply j.trans;rw[<-l];refine⟨D0,D0,D0,by grind [kI],λk hk=>?_⟩;have G:V (Z w)≠k:=À
  simp[kI,r,G]
 have n:=run_entry_at (P:=prog) t (V<|Z w) d.ay clock a es clock x i ((m.block _ q).trans A) b.1 C.2.1;rw[hv]at n;have g:=(za.1 i).1;let⟨y,fl⟩:=v;unfold nR at hnx n;simp only at f;generalize x.key=xk at*;generalize rD (eV es) a=sm at*;go_wp2;have h2:=(heap_alloc_old _ (au #[E y,aD bB fl] 139) g).trans i;refine⟨⟨a.push x.born,clock,?_,zd _,h2,m.trans<|((zt _ _).alloc (zd _) _).mono<|Nat.le_of_lt g⟩,?_⟩;rw[c.o];grind;grind
structure kE where
 S:Q
 mp:Q
 L:KV
 pv:Zv
 P:bA Vk
 ep:Q
 bM:U
 aQ:U
 dB:U
 bC:U
structure Sr where
 ov:U
 mW:U
 D:Q
 d:Dk
 m:Zl
 bF:Q
 bQ:Zl
 op:Q
 sn:dD kE
def Sr.my(r:Sr):Zv:=aU (r.sn.map λs=>⟨s.S,0,R⟩)
def Sr.G(r:Sr):Za:=#[aD bB r.ov,aD bB r.mW,aU<|some ⟨r.D,0,R⟩,ak<|st r.m,aD bB (r.bF:U),ak<|st r.bQ,aD bB (r.op:U),r.my]
def kE.G(s:kE):Za:=#[fu<|some s.mp,s.pv,aD bB (s.ep:U),aD bB s.bM,aD bB s.aQ,aD bB s.dB,aD bB s.bC]
def kE.cN(s:kE)(x:Q):Prop:=x=s.S\/x=s.mp\/∃a n c,s.pv=aB (Y a) n c/\x=a.block
def Sr.cN(B:Q)(r:Sr)(x:Q):Prop:=x=B\/r.d.cN r.D x\/∃s,r.sn=Y s/\s.cN x
structure Bc(w:Zy)(s:kE):Prop where
 bT:xh w s.S s.G 152
 jS:Je w s.mp s.L
 iR:w.ownsRow 0 173 1 s.pv (T s.P)<|s.P.map oP
structure Vq(w:Zy)(B:Q)(r:Sr):Prop where
 bT:xh w B r.G 94
 fA:Jt w r.D r.d
 fP:∀s,r.sn=Y s->Bc w s/\s.mp≠r.d.ay
def xh.ne{a b y}{c:Zt}(h:xh w a C t)(k:xh w b y c)(d:t≠c):a≠b:=by grind [xh]
def xh.gV{a b}{e c}(h:xh w a C t)(k:w.heap[b]?=Y (.map e c)):a≠b:=by grind [xh]
theorem Je.bT(h:Je w m L):∃e c,w.heap[m]?=Y (.map e c):=by let⟨e,c,h,_⟩:=h;grind
theorem sH.bT{L}(h:sH w m L):∃e c,w.heap[m]?=Y (.map e c):=by let⟨e,c,h,_⟩:=h;grind
def FX{v n z a k c}(h:w.ownsRow 0 173 1 v n z)(f:v=aB (Y a) k c):∃y,w.heap[a.block]?=Y (au y 173 (0,0))/\a=(K a.block 0):=by obtain⟨d,_⟩|⟨g,b,y,d,_,e,_⟩:=h.2;grind;grind
def Dk.fg{D d}(h:Jt w D d){x}(hx:d.cN D x):x<V (Z w):=by obtain rfl|rfl|⟨c,a,rfl⟩:=hx;exact h.bT.lt;exact h.jS.lt;exact(h.ku c a).lt
def kE.fg{s}(h:Bc w s){x}(hx:s.cN x):x<V (Z w):=by obtain rfl|rfl|⟨a,n,c,b,rfl⟩:=hx;exact h.bT.lt;exact h.jS.lt;let⟨y,z,_⟩:=FX h.iR b;grind
def Sr.fg{r}(h:Vq w B r){x}(hx:r.cN B x):x<V (Z w):=by obtain rfl|hx|⟨s,a,hx⟩:=hx;exact h.bT.lt;exact Dk.fg h.fA hx;exact kE.fg (h.fP s a).1 hx
def Vq.fh{r s}(h:Vq w B r)(g:r.sn=Y s){x}(hx:s.cN x):¬r.d.cN r.D x:=by let⟨k,q⟩:=h.fP s g;let⟨v,l,p⟩:=h.fA.jS.bT;let⟨j,u,z⟩:=k.jS.bT;obtain rfl|rfl|⟨a,n,c,i,rfl⟩:=hx;rintro(e|e|⟨c,b,e⟩);exact k.bT.ne h.fA.bT Ã e;exact k.bT.gV p e;exact k.bT.ne (h.fA.ku c b) Ã e;rintro(e|e|⟨c,b,e⟩);exact h.fA.bT.gV z e.symm;omega;exact(h.fA.ku c b).gV z e.symm;let⟨y,o,_⟩:=FX k.iR i;have f:xh w a.block y 173:=o;rintro(e|e|⟨c,b,e⟩);exact f.ne h.fA.bT Ã e;grind;exact f.ne (h.fA.ku c b) Ã e
def Vq.kP{r}(h:Vq w B r):¬r.d.cN r.D B:=by let⟨z,q,y⟩:=h.fA.jS.bT;rintro(e|e|⟨c,a,e⟩);exact h.bT.ne h.fA.bT Ã e;exact h.bT.gV y e;exact h.bT.ne (h.fA.ku c a) Ã e
def Vq.Eg{r s}(h:Vq w B r)(b:r.sn=Y s):¬s.cN B:=by let⟨k,y⟩:=h.fP s b;let⟨z,q,p⟩:=k.jS.bT;rintro(e|e|⟨a,n,c,d,e⟩);exact h.bT.ne k.bT Ã e;exact h.bT.gV p e;let⟨j,u,_⟩:=FX k.iR d;exact h.bT.ne u Ã e
def Bc.y{s}(h:Bc w s)(c:zj S w w')(d:∀x,s.cN x->¬S x):Bc w' s:=by refine⟨h.bT.y c<|d _<|aJ O,h.jS.y c<|d _<|ac<|aJ O,h.iR.1,?_⟩;obtain j|⟨g,a,b,f,i,e,r⟩:=h.iR.2;grind;exact ac ⟨g,a,b,f,i,(c.dP g (za.1 e).1<|d g<|ac<|ac ⟨_,_,_,f,O⟩).trans e,r⟩
def Vq.y{r}(h:Vq w B r)(a:zj S w w')(b:∀x,r.cN B x->¬S x):Vq w' B r:=
 ⟨h.bT.y a<|b _<|aJ O,h.fA.y a λx c=>b x<|ac<|aJ c,λs e=>⟨(h.fP s e).1.y a λx c=>b x<|ac<|ac ⟨s,e,c⟩,(h.fP s e).2⟩⟩
structure Zd(B:Q)(r:Sr)(w:Zy)(z:Sr)(w':Zy):Prop where
 y:zj (r.cN B) w w'
 dI:Vq w' B z
 cN:∀x,z.cN B x->r.cN B x\/V (Z w)<=x
theorem Zd.refl{r}(h:Vq w B r):Zd B r w r w:=⟨zj.refl _ _,h,λ_ h=>aJ h⟩
theorem Zd.aE{r d e w1 f}(h:Zd B r w d w1)(k:Zd B d w1 e f):Zd B r w e f:=by refine⟨⟨k.y.os.trans h.y.os,k.y.cX.trans h.y.cX,xa h.y.aD k.y.aD,λi c g=>?_⟩,k.dI,λx b=>?_⟩;refine(k.y.dP i (zm c h.y.aD) λb=>?_).trans<|h.y.dP i c g;obtain a|a:=h.cN i b;grind;omega;obtain a|a:=k.cN x b;exact h.cN x a;exact ac<|xa h.y.aD a
def PO(B r w)(h:Vq w B r):aG 23 #[zq B] w (J r.bF):=by have a:N w (K B 4)=J r.bF:=h.bT.i 4 O;go_enter func23.1,Tryz.ntmps23;go_wp2;go_ret;simp
def Sr.kZ(r:Sr):Sr:={r with sn:=R}
def xll(B r w)(h:Vq w B r):aK prog 11 #[zq B] w λe w'=>e=ai (J (if r.sn.isSome then 0 else 5))/\Zd B r w r.kZ w':=by
 have a:=h.bT.i 7 O;cases y:r.sn with
 |none=>
  have d:N w (K B 7)=aU R:=by rw[a];simp[Sr.G,Sr.my,y]
  have c:Zd B r w r.kZ w:=by
   have:r.kZ=r:=by unfold Sr.kZ;rw[<-y]
   rw[this];exact .refl h
  clear h a;go_enter func11.1,Tryz.ntmps11;go_wp2;go_ret;exact⟨O,c⟩
 |some s=>
  have d:N w (K B 7)=zq s.S:=by rw[a];simp[Sr.G,Sr.my,y]
  have f:=h.bT.dS 7;have c:Zd B r w r.kZ<|ay w (K B 7)<|aU R:=by refine⟨(zj.H w (K B 7) _).U λx b=>aJ b,⟨?_,?_,λs e=>Æ⟩,λx b=>?_⟩;exact h.bT.H 7 _;exact h.fA.y (zj.H w (K B 7) _) λx b e=>h.kP Á;obtain e|e|⟨s,e,_⟩:=b;exact aJ<|aJ e;exact aJ<|ac<|aJ e;cases e
  clear h a;go_enter func11.1,Tryz.ntmps11;go_wp2;go_ret;exact⟨O,c⟩
structure LM(s:kE)(w:Zy)(z:kE)(w':Zy):Prop where
 y:zj s.cN w w'
 dI:Bc w' z
 cN:∀x,z.cN x->s.cN x\/V (Z w)<=x
 mp:z.mp=s.mp
 S:z.S=s.S
theorem LM.st{r s y}(h:Vq w B r)(b:r.sn=Y s)(k:LM s w y w'):Zd B r w {r with sn:=Y y} w':=by
 refine⟨k.y.U λx a=>ac (ac ⟨s,b,a⟩),⟨?_,?_,λt c=>?_⟩,λx a=>?_⟩;have:Sr.G {r with sn:=Y y}=r.G:=by unfold Sr.G Sr.my;simp[b,Xl,k.S]
 rw[this];exact h.bT.y k.y<|h.Eg b;exact h.fA.y k.y λx a d=>h.fh b d a;cases c;exact⟨k.dI,by rw[k.mp];exact(h.fP s b).2⟩;obtain e|e|⟨t,c,a⟩:=a;exact aJ<|aJ e;exact aJ<|ac<|aJ e;cases c;obtain f|f:=k.cN x a;exact aJ<|ac<|ac ⟨s,b,f⟩;omega
def kE.kM(s:kE)(pv:Zv)(c:Vk):kE:={s with pv,P:=s.P++[c]}
def YQ(s c w)(h:Bc w s)(b:T s.P=20):aG 48 #[zq s.S,oP c] w (J 7):=by
 let⟨a,z,y,q⟩:=Wo h.iR;rw[b]at y;have d:N w (K s.S 1)=aB a 20 z:=by rw[<-y];exact h.bT.i 1 O
 go_enter func48.1,Tryz.ntmps48;go_wp2;go_ret;simp
def Y2(s c w)(h:Bc w s)(hP:T s.P<20):aK prog 48 #[zq s.S,oP c] w λe w'=>e=ai (J 0)/\∃pv,LM s w (s.kM pv c) w':=by
 let⟨i126,hi,hz0,hz1,hz2⟩:=W9;let⟨a,cap,hpv,hcap⟩:=Wo h.iR;have c1:N w (K s.S 1)=aB a (T s.P) cap:=by rw[<-hpv];exact h.bT.i 1 O
 have l:=h;have m:=hpv;have ho:w.ownsRow 0 173 1 (aB a (T s.P) cap) (T s.P)<|s.P.map oP:=by show World.ownsRow _ _ _ _ _ _ _;rw[<-hpv];exact h.iR
 have wr:=XC c;have hS:=h.bT.lt;obtain⟨I,P,y⟩:∃I P,oP c=iW I P:=by cases c<;>exact⟨_,_,O⟩
 rw[y]at wr⊢;go_enter func48.1,Tryz.ntmps48;go_wp2_with (apply wpList_append_lies _ O _ _ 150 O 0 173 i126 .nilIface 1 16 XG hi hz0 hz1 hz2 O Ã _ (T s.P) _ O ?own (K (V<|Z w) 0) 1 1 [iW I P] O O ?nw ?o1 Ã ?m1 ?m2 ?m3 (V (Z w)+1) ?m4)
 case own=>exact ho.alloc _
 case m1=>unfold pu;omega
 case m2=>omega
 case m3=>simp
 case m4=>simp
 case o1=>grind
 case nw=>intro j z A;cases j with|zero=>simp at A;subst A;simp[go_sem,Addr.add]|succ j=>grind
 intro p d v t f i ba;have B:∀q,(aB a (T s.P) cap).ownBlock=Y q->s.cN q:=by
  intro q hd;cases a with
  |none=>cases hd
  |some a=>cases hd;exact ac<|ac ⟨a,_,_,m,O⟩
 have F:zj (λx=>Y x=(aB a (T s.P) cap).ownBlock) w v:=by refine⟨f.os,f.output,xa Â f.size,λk hk cs=>?_⟩;exact(f.block k Ç cs).trans<|heap_alloc_old _ _ hk
 have g':¬Y s.S=(aB a (T s.P) cap).ownBlock:=by
  intro e;cases a with
  |none=>cases e
  |some a=>let⟨o,u,_⟩:=FX l.iR m;exact l.bT.ne u Ã<|ql e
 have G:¬Y s.mp=(aB a (T s.P) cap).ownBlock:=by
  intro e;cases a with
  |none=>cases e
  |some a=>let⟨o,u,_⟩:=FX l.iR m;let⟨es,k,hm⟩:=l.jS.bT;exact(show xh w a.block o 173 from u).gV hm (ql e).symm
 have D:=l.bT.y F g';have h1:=l.jS.y F G;have f1:=D.dS 1;have W:=D.i 1 O;have X:p≠s.S:=by obtain e|e:=i;grind;omega
 have h3:p≠s.mp:=by obtain e|e:=i;grind;have:=l.jS.lt;omega
 have v':LM s w (s.kM (aB (Y ⟨p,0,R⟩) (T s.P+1) d) c)<|ay v (K s.S 1)<|aB (Y ⟨p,0,R⟩) (T s.P+1) d:=by
  refine⟨?_,⟨?_,?_,?_⟩,?_,O,O⟩;exact(F.U λx C=>B x C.symm).aE<|(zj.H v (K s.S 1) _).U λx C=>aJ C;exact D.H 1 _;exact h1.y (zj.H v (K s.S 1) _) (λe=>by let⟨es,k,hm⟩:=h1.bT;exact D.gV hm e.symm);have:v.ownsRow 0 173 1 (aB (Y ⟨p,0,R⟩) (T (s.P++[c])) d) (T (s.P++[c]))<|(s.P++[c]).map oP:=by rw[qz,zx];simp[Js,Fr,y];exact t
  have h2:(ay v (K s.S 1)<|aB (Y ⟨p,0,R⟩) (T s.P+1) d).ownsRow 0 173 1 (aB (Y ⟨p,0,R⟩) (T (s.P++[c])) d) (T (s.P++[c]))<|(s.P++[c]).map oP:=by refine⟨this.1,?_⟩;obtain u|⟨g,L,o,hx,hg,hh,r⟩:=this.2;grind;grind [zah]
  grind [kE.kM];intro x C;obtain e|e|⟨b,n,c,hx,e⟩:=C;exact aJ<|aJ e;exact aJ<|ac<|aJ e;cases hx;grind
 go_wp2;go_ret;exact⟨O,_,v'⟩
def Sr.eD(r:Sr)(o:ez)(c:Vk)(a:U)(y:Sr):Prop:=match r.sn with
 |none=>a=5/\y=r|some s=>if o=ao then a=6/\y=r else if T s.P=20 then a=7/\y=r else a=0/\∃P,y={r with sn:=Y<|s.kM P c}
def Sr.pG{r:Sr}{o}(h:r.sn=R):r.eD o c 5 r:=za3
def Sr.nV{r:Sr}{s}(h:r.sn=Y s):r.eD ao c 6 r:=za3
theorem Sr.pF{r:Sr}{s}(h:r.sn=Y s)(a:T s.P=20):r.eD M c 7 r:=za3
theorem Sr.rV{r:Sr}{s}(P)(h:r.sn=Y s)(a:T s.P≠20):r.eD M c 0 {r with sn:=Y<|s.kM P c}:=za3
def oR(k:Zl):ez:=bR (0<T k/\T k<=16)
def tD(v:Zl):ez:=bR (T v<=32)
def YG(B r b c w)(h:Vq w B r)(m:∀s,r.sn=Y s->T s.P<=20):aK prog 24 #[zq B,E b,E c] w λe w'=>∃a z,e=ai (J a)/\Zd B r w z w'/\r.eD (oR b&&tD c) (.put b c) a z:=by
 have j:=h.bT.i 7 O;have d:=h;cases y:r.sn with
 |none=>
  have k:N w (K B 7)=aU R:=by rw[j];simp[Sr.G,Sr.my,y]
  have i:r.eD (oR b&&tD c) (.put b c) 5 r:=Sr.pG y;clear h j y m;go_enter func24.1,Tryz.ntmps24;go_wp2;go_ret;exact⟨5,r,O,.refl d,i⟩
 |some s=>
  have k:N w (K B 7)=zq s.S:=by rw[j];simp[Sr.G,Sr.my,y]
  have g:=y;have p:=m s y;clear h j y m;go_enter func24.1,Tryz.ntmps24;go_wp2;apply(H8 b _).mono;rintro e w1⟨rfl,f⟩;obtain rfl:=f.symm;cases hk:bR (0<T b/\T b<=16)with
  |false=>
   have i:r.eD (oR b&&tD c) (.put b c) 6 r:=by
    have:(oR b&&tD c)=ao:=by simp[oR,hk,Fm]
    rw[this];exact Sr.nV g
   go_wp2;go_ret;exact⟨6,r,O,.refl d,i⟩
  |true=>
   go_wp2;apply(XU c _).mono;rintro e w1⟨rfl,f⟩;obtain rfl:=f.symm;cases u:bR (T c<=32)with
   |false=>
    have i:r.eD (oR b&&tD c) (.put b c) 6 r:=by
     have:(oR b&&tD c)=ao:=by simp[oR,tD,u,Vo]
     rw[this];exact Sr.nV g
    go_wp2;go_ret;exact⟨6,r,O,.refl d,i⟩
   |true=>
    have o:H<|(oR b&&tD c)=M:=by show _=_;simp[oR,tD,u,hk,Bool.and_self]
    go_wp2;by_cases l:T s.P=20
    ·apply(YQ s (.put b c) _ (d.fP s g).1 l).mono;rintro e w1⟨rfl,rfl⟩;go_wp2;go_ret;exact⟨7,r,O,.refl d,by rw[o.o];grind [Sr.pF]⟩
    apply(Y2 s (.put b c) _ (d.fP s g).1 À).mono;rintro e w1⟨rfl,q,n⟩;go_wp2;go_ret;exact⟨0,_,O,n.st d g,by rw[o.o];grind [Sr.rV]⟩
def xh1(B r b w)(h:Vq w B r)(k:∀s,r.sn=Y s->T s.P<=20):aK prog 25 #[zq B,E b] w λe w'=>∃a z,e=ai (J a)/\Zd B r w z w'/\r.eD (oR b) (.del b) a z:=by
 have f:=h.bT.i 7 O;have c:=h;cases y:r.sn with
 |none=>
  have i:N w (K B 7)=aU R:=by rw[f];simp[Sr.G,Sr.my,y]
  have g:r.eD (oR b) (.del b) 5 r:=Sr.pG y;clear h f y k;go_enter func25.1,Tryz.ntmps25;go_wp2;go_ret;exact⟨5,r,O,.refl c,g⟩
 |some s=>
  have i:N w (K B 7)=zq s.S:=by rw[f];simp[Sr.G,Sr.my,y]
  have d:=y;have o:=k s y;clear h f y k;go_enter func25.1,Tryz.ntmps25;go_wp2;apply(H8 b _).mono;rintro e w1⟨rfl,m⟩;obtain rfl:=m.symm;cases hk:bR (0<T b/\T b<=16)with
  |false=>
   have g:r.eD (oR b) (.del b) 6 r:=by
    have:(oR b)=ao:=by simp[oR,hk,Fm]
    rw[this];exact Sr.nV d
   go_wp2;go_ret;exact⟨6,r,O,.refl c,g⟩
  |true=>
   have n:H<|(oR b)=M:=hk;go_wp2;by_cases j:T s.P=20
   ·apply(YQ s (.del b) _ (c.fP s d).1 j).mono;rintro e w1⟨rfl,rfl⟩;go_wp2;go_ret;exact⟨7,r,O,.refl c,by rw[n.o];grind [Sr.pF]⟩
   apply(Y2 s (.del b) _ (c.fP s d).1 À).mono;rintro e w1⟨rfl,p,l⟩;go_wp2;go_ret;exact⟨0,_,O,l.st c d,by rw[n.o];grind [Sr.rV]⟩
end
section
open Go.Maps Go.Sort Go.Shelf Go.MapKept
attribute[local go_sem] zn zg
def Je.uR(h:Je w m L)(hk:∀p∈L,T p.1<=pu)(g:T L<=pu):
  ∃D:DataW Q,w.ownsMap prog 9 CN m (T L) D/\pz D=T L/\(strKeys D).Perm (L.map (·.1)):=by
 let⟨j,y,s,u,r⟩:=h;have e:V j=T L:=by have:=gv T u;simpa using this
 have b:∀x∈eV j,∃p∈L,x.key=ak _/\pw prog 9 CN x=Y (.string p.1,.nil):=λx f=>by
  let⟨p,o,z,_⟩:=PF u x f;refine⟨p,o,z,?_⟩;have c:(ByteArray.mk (bH p.1)).size<=pu:=by simpa[ByteArray.size]using(hk p o)
  simp[pw,z,keyOf,mapKey,dK,c,CN,st]
 refine⟨_,⟨j,y,s,⟨À,r,λx f=>Á⟩,À,O⟩,?_,?_⟩;simp[Maps.size_eq];rw[(Ig _).length_eq];grind;simp[strKeys];apply((Ig _).map _).trans;rw[Wj];have:∀(l:bA eF) (L:KV),rM l L->(∀x∈l,x∈eV j)->l.map ((λp=>Go.strOf p.1)∘WideElems.rg prog 9 CN)=L.map (·.1):=by
  intro l;induction l with
  |nil=>intro L d _;cases L with|nil=>rfl|cons p L=>grind [XW]
  |cons x l I=>intro L d a;cases L with|nil=>grind [rM]|cons p L=>let⟨A,W,F⟩:=PC d;let⟨q,_,v,i⟩:=b x (a x Â);have:=XJ<|Value.string.inj<|A.symm.trans v;rw[Js,Js];refine congr (gv _ ?_) ?_;rw[Function.comp_apply,WideElems.rg_of i];exact this.symm;grind
 grind
def xva(m):AnyZ.SortsIn prog mH gI m:=
 ⟨λy d a f W e b c=>callsIn_wide.2<|AnyM.slices_Sort_string rS y d a f W e b c,
 λp a W=>callsIn_wide.2<|AnyM.slices_Sort_string_none rS p a W⟩
abbrev Bb:Zl->Zl->ez:=λx y=>bR (x<=y)
def Vv(L:KV):bA Zl:=(L.map (·.1)).mergeSort Bb
def YC(m w):aK prog 86 #[fu<|some m] w λe w'=>e=ai (.func (.func 144) #[] #[zq (V<|Z w)])/\w'=aF w (au #[fu<|some m] 143):=
 (callsIn_wide).1 (AnyZ.keys_in rO gI 5 bD O _ w)
def YB(m b L w)(h:Je w m L)(z:N w (K b 0)=(fu<|some m))(q:b<V (Z w))(hk:∀p∈L,T p.1<=1000000)(D:T L<=5000000):
  aK prog 85 #[.func (.func 144) #[] #[zq b]] w λe w'=>∃v,e=ai v/\w'.ownsRow (V<|Z w) 9 1 v (T (Vv L)) ((Vv L).map encStr)/\aP (V<|Z w) w w':=by
 let⟨G,W,F,u⟩:=h.uR (λp C=>xa (hk p C)<|by grind [pu]) (by grind [pu]);have i:pz G<=pu:=by rw[F];simp[pu];omega
 have d:pz G*16<=140737488355328:=by rw[F];omega
 have j:SeqGives gI 2 prog 144 #[aU _] encStr (λg=>g.Perm _) _ w:=
  AnyZ.keys_gives {rO with} _ _ bD O À b m _ G _ q z W
 apply((callsIn_wide).1<|AnyZ.sorted_in tY _ 5 bD bD bD bD O À (xva _) (enters_of func143.1 Ä O) 144 _ bD (enters_of func144.1 Ä O) _ _ i d _ j).mono;rintro e w'⟨v,g,rfl,t,f,r,q⟩;have s:∀a b c:Zl,Bb a b=M->Bb b c=M->Bb a c=M:=λa b c n o=>Á
 have l:∀a b:Zl,(Bb a b||Bb b a)=M:=λa b=>Á
 have k:g.mergeSort (λx y=>bR (x<=y))=Vv L:=by refine List.Perm.eq_of_pairwise (le:=λa b=>Bb a b=M) (λa b _ _ n o=>?_) (Oo s l g) (Oo s l _)<|((Xo g _).trans<|t.trans u).trans (Xo _ _).symm;simp only[Bb,Y8]at n o;exact List.le_antisymm n o
 have B:T g=T (Vv L):=by rw[<-k];exact(Xo g _).length_eq.symm
 rw[k,B]at f;exact⟨v,O,f,q⟩
def jez(m w):(binOp .eql 143 (fu<|some m)<|fu R).run prog w=dG (bG ao) w:=run_eql_map_nil_sl w 143 9 155 _ CJ
def xlk(m L w)(h:Je w m L):aK prog 83 #[fu<|some m] w λe w'=>e=ai (fu<|some (V<|Z w))/\aP (V<|Z w) w w'/\V (Z w')=V (Z w)+1/\Je w' (V<|Z w) L:=by let⟨q,y,p,j,z⟩:=h;have a:=jez m;go_enter func83.1,Tryz.ntmps83;go_wp2;rw[run_callFunc_extern func141 Ä Ä Ä Ä,run_maps_clone_sl w 143 p];simp only[bN];rw[Oper.upon_value];go_wp2;rw[run_typeAssert_map_sl _ 143 20 _ _ _ CJ];simp only[bN];rw[Oper.upon_value];go_wp2;go_ret;exact⟨O,(zt _ _).alloc (zd _) _,Â,⟨q,y,xn _ _,j,z⟩⟩
end
section
attribute[local go_sem] zn zg
def xin(m w):aG 84 #[fu<|some m,aB R 0 0] w (cE #[]):=by go_enter func84.1,Tryz.ntmps84;go_wp2;go_loopw [10] (λi wr=>i=J 0/\wr=w) (λi _=>0);grind;obtain⟨rfl,rfl⟩:=hrel;go_wp2;go_end0;grind
def PM{v}(h:w.ownsRow 0 173 1 v (T D)<|D.map oP):(v=aB R 0 0/\D=[])\/∃g cap,v=aB (Y ⟨g,0,R⟩) (T D) cap/\yA w g D/\g<V (Z w):=by
 obtain⟨b,j⟩|⟨g,cap,a,f,l,d,m,k,n,e⟩:=h.2;grind;refine ac ⟨g,cap,f,λi c=>?_,(za.1 d).1⟩;have:a.toList[i]?=Y (oP D[i]):=by
  have b:(a.toList.take<|T D*1)[i]?=Y (oP D[i]):=by rw[e];simp[c]
  rw[Kx]at b;simpa[c]using b
 grind [N]
def YU(m L v D)(i:T D<=1000000)(w)(d:Je w m L)(a:w.ownsRow 0 173 1 v (T D)<|D.map oP):aK prog 84 #[fu<|some m,v] w λe w'=>e=ai (cE #[])/\zj (·=m) w w'/\Je w' m (gh L D):=by obtain⟨rfl,rfl⟩|⟨g,b,rfl,j,k⟩:=PM a;exact(xin m w).mono λe w'⟨f,h⟩=>⟨f,by grind [zj.refl],by rw[h];exact d⟩;apply KN m g b L D i w d j;let⟨y,f,_⟩:=FX a O;let⟨z,c,h⟩:=d.bT;grind
def kE.lT(s:kE):KV:=gh s.L s.P
def xh4(B r w)(h:Vq w B r)(c:r.sn=R):aG 41 #[zq B] w (cE #[aB R 0 0,J 5]):=by
 have a:=h.bT.i 7 O;have b:N w (K B 7)=aU R:=by rw[a];simp[Sr.G,Sr.my,c]
 clear h a;go_enter func41.1,Tryz.ntmps41;go_wp2;refine ji zcw O ⟨O,O⟩
def xrp(B r s w)(h:Vq w B r)(y:r.sn=Y s)(W:T s.P<=20)(hk:∀p∈s.lT,T p.1<=1000000)(G:T s.lT<=5000000):aK prog 41 #[aU<|some ⟨B,0,R⟩] w λe w'=>∃v,e=ai (cE #[v,aD bB 0])/\w'.ownsRow (V<|Z w) 9 1 v (T (Vv s.lT)) ((Vv s.lT).map encStr)/\Nw w w':=by
 have D:=h.bT.i 7 O;have q:N w ⟨B,7,R⟩=(aU<|some ⟨s.S,0,R⟩):=by rw[D];simp[Sr.G,Sr.my,y]
 have o:=(h.fP s y).1;have P:=o.bT.i 0 O;have C:=o;have u:=hk;clear h D o y hk;go_enter func41.1,Tryz.ntmps41;go_wp2;apply(xlk s.mp s.L w C.jS).mono;rintro e w1⟨rfl,c,A,hm1⟩;have j:=C.y (zj.J c) λ_ _=>id;have hd:=(zj.J (S:=λ_=>False) c).i id q;have F:N w1 ⟨s.S,1,R⟩=Y s.pv:=j.bT.i 1 O;let⟨a,cap,hpv,hcap⟩:=Wo j.iR;rw[hpv]at F;go_wp2;apply(YU _ s.L _ s.P À w1 hm1<|by rw[<-hpv];exact j.iR).mono;rintro e g⟨rfl,t,d⟩;have k:Nw w g:=zj.cZ (zj.J c) (zd _) t;have I:=d.lt;go_wp2;apply(YC _ _).mono;rintro e i⟨rfl,b⟩;have n:Je i (V<|Z w) s.lT:=by show Je _ _ _;rw[b];exact d.y (S:=λ_=>False) (zj.E _) id
 have m:H<|N i ⟨V<|Z g,0,R⟩=(fu<|some (V<|Z w)):=by show _=_;rw[b];exact(xh.ex g _ 143).i 0 O
 have l:Nw w i:=by show Nw _ _;rw[b];exact k.aE<|zj.E _
 have z:V (Z g)<V (Z i):=by rw[b];simp
 clear b;go_wp2;apply(YB _ _ s.lT _ n m.o z u G).mono;rintro e h1⟨v,rfl,f,x⟩;go_wp2;refine ji zcw O ⟨v,O,FQ f À,l.aE<|zj.J x⟩
end
section
open Go.Shelf
attribute[local go_sem] Oper.semAt_some
def tZ(D:bA Vk)(j:Q):bA<|Int×Vk:=((List.range' j<|T D-j).reverse).map λ(i:Q)=>((i:U),D[i]?.getD (.del []))
def xm0(D j)(h:j<T D):tZ D j=tZ D (j+1)++[((j:U),D[j]?.getD (.del []))]:=by unfold tZ;rw[show T D-j=(T D-(j+1))+1 by omega,Kv,List.reverse_cons,qz];rfl
def xr8(D j):T (tZ D j)=T D-j:=by simp[tZ]
theorem xr9(D):tZ D (T D)=[]:=by simp[tZ]
def xxl(n)(I:1<=n)(l Bs g b cap D)(G:T D<=1000000)(B:b<g)(m:Bs<g)(u s:bA (U×Vk)->Zy->Prop)
  (z:∀pre (x:U×Vk) W,u pre W->T pre<T D->YieldAt gI (n-1) prog l #[aD bB x.1,oP x.2] W λe W'=>
   (e=ai (bG M)/\u (pre++[x]) W'/\aP g W W')\/(e=ai (bG ao)/\s (pre++[x]) W'))
  (W)(o:N W ⟨Bs,0,R⟩=aB (Y ⟨b,0,R⟩) (T D) cap)(C:∀j,j<T D->N W ⟨b,j,R⟩=Y (oP<|D[j]?.getD (.del [])))(F:u [] W):
  CallsIn gI n prog 199 #[.func (.yield l) #[] #[],aU<|some ⟨Bs,0,R⟩] W λe W'=>(∃v,e=ai v)/\
   ((∃ys,ys=tZ D 0/\u ys W')\/(∃pre,(∃k,k<=T D/\pre=tZ D k)/\s pre W')):=by
 refine callsIn_of_wp func199.1 O bD ?_ O;simp only[Tryz.ntmps199,jd,xg,qy,jY,lh,qu,qw,Xa,Zh,qj,qg]
 gi_wp2
 gi_loopw [3] (λi wr=>∃j:Q,j<=T D/\i=aD bB ((j:U)-1)/\u (tZ D j) wr/\aP g W wr)
  (λi _=>bL (bZ i+1))
 grind [xr9,zt];obtain⟨j,P,rfl,p,a⟩:=hrel;cases j with
 |zero=>
  have r:((0:Q):U)-1= -1:=À
  rw[r]
  gi_wp2
  go_end0;simp_all
 |succ j=>
  have r:((j+1:Q):U)-1=(j:U):=À
  rw[r];have f:j<T D:=À
  have w:=(a.cell B).trans<|C j f;have t:=(a.cell m).trans o;let⟨fn,tmps,assign,body,hy,hR⟩:=z _ ((j:U),D[j]?.getD (.del [])) wr p (by rw[xr8];omega);have h:=xm0 D j f;generalize D[j]?.getD _=c at*
  gi_wp2
  apply hR.mono;rintro e A (⟨rfl,y,q⟩|⟨rfl,d⟩)
  ·gi_wp2
   go_roundw;exact⟨j,À,O,Á,a.trans q⟩;exact Ì
  gi_wp2
  apply ji (results_none O _ _ _) O;exact⟨⟨_,O⟩,ac ⟨_,⟨j,À,h.symm⟩,d⟩⟩
def xcm(n l Bs)(y:bA (U×Vk)->Zy->Prop)(W)(a:N W (K Bs 0)=aB R 0 0)(c:y [] W):
  CallsIn gI n prog 199 #[.func (.yield l) #[] #[],zq Bs] W λe z=>(∃v,e=ai v)/\y [] z:=by
 refine callsIn_of_wp func199.1 O bD ?_ O;simp only[Tryz.ntmps199,jd,xg,qy,jY,lh,qu,qw,Xa,Zh,qj,qg]
 gi_wp2
 gi_loopw [3] (λi wr=>i=J (-1)/\y [] wr) (λ_ _=>0)
 grind;obtain⟨rfl,b⟩:=hrel
 gi_wp2
 go_end0;grind
def zx3(a len cap w):aK prog 130 #[aB a len cap] w λe w'=>e=ai (.func (.func 199) #[] #[zq (V<|Z w)])/\w'=aF w (au #[aB a len cap] 150):=by go_enter func130.1,Tryz.ntmps130;go_wp2;go_ret;simp
def xm2(n)(y:1<=n)(Bs d sv D)(p:T D<=1000000)(w)(a:Bs<d)(h:d<=V (Z w))(t:N w (K Bs 0)=Y sv)(q:(sv=aB R 0 0/\D=[])\/∃g cap,sv=aB (Y ⟨g,0,R⟩) (T D) cap/\yA w g D/\g<d):
  SeqStopsK gI n prog 199 #[zq Bs] (λx:U×Vk=>#[J x.1,oP x.2]) (aP d) (λF=>F=tZ D 0) (λP=>∃k,k<=T D/\P=tZ D k) (T D) w:=λl u o W r _ _ s i=>by
 have b:=r.mono h;have c:=(b.cell a).trans t;obtain⟨rfl,rfl⟩|⟨g,cap,rfl,z,m⟩:=q;exact(xcm n l Bs u W c i).mono λe B⟨v,f⟩=>⟨v,aJ ⟨_,O,f⟩⟩;refine(xxl n y l Bs d g cap D p m a u o s W c (λj f=>?_) i).mono ?_;have:=(b.cell m).trans<|z j f;grind;grind
end
def Nd(L:KV):Prop:=(L.map (·.1)).Nodup
theorem xaf{k v}:x∈(gS L k v).map (·.1)↔x=k\/x∈L.map (·.1):=zc5
theorem xae{k}:x∈(jN L k).map (·.1)->x∈L.map (·.1):=by induction L with|nil=>exact id|cons p L I=>grind [jN]
theorem Nd.gS(h:Nd L)(k v:Zl):Nd<|gS L k v:=by induction L with|nil=>simp[Nd,P.gS]|cons p L I=>grind [Nd,P.gS,xaf]
theorem Nd.jN(h:Nd L)(k:Zl):Nd<|jN L k:=by induction L with|nil=>exact h|cons p L I=>grind [Nd,P.jN,xae]
def Nd.mF(h:Nd L)(c:Vk):Nd<|mF L c:=by cases c with|put k v=>exact h.gS k v|del k=>exact h.jN k
theorem Nd.gh(h:Nd L)(D:bA Vk):Nd<|gh L D:=by induction D generalizing L with|nil=>exact h|cons c D I=>exact I<|h.mF c
def Je.nd(h:Je w m L):Nd L:=by
 let⟨y,c,_,z,q⟩:=h;have e:y.toList.map (·.key)=L.map λp=>E p.1:=by have:=gv (List.map o7) z;simpa[Wj,zc1]using this
 have a:=q.2.2;rw[e]at a;have:(L.map λp=>E p.1)=(L.map (·.1)).map λk=>E k:=Â
 rw[this]at a;unfold List.Nodup at a;rw[Wk]at a;exact a.imp λh e=>h å
theorem YT(k v x):Xg (gS L k v) x=if x=k then Y v else Xg L x:=by induction L with|nil=>grind [gS,Xg]|cons p L I=>grind [gS,Xg]
theorem PJ(h:x∉L.map (·.1)):Xg L x=R:=by induction L with|nil=>rfl|cons p L I=>grind [Xg]
theorem YS(b:Nd L)(k x):Xg (jN L k) x=if x=k then R else Xg L x:=by induction L with|nil=>grind [jN,Xg]|cons p L I=>let⟨y,v⟩:=p;have a:=On.1 b;by_cases hk:k=y;grind [jN,PJ,Xg];simp[jN,hk,kB,Xg,I a.2];grind
def vE(c:Vk)(x:Zl):dD<|Option Zl:=match c with
 | .put k v=>if k=x then Y (Y v)else R
 | .del k=>if k=x then Y R else R
def YM(a:Nd L)(c x):Xg (mF L c) x=(vE c x).getD (Xg L x):=by cases c with|put k v=>show Xg (gS L k v) x=_;grind [YT,vE]|del k=>show Xg (jN L k) x=_;grind [YS,vE]
def YN(a:Nd L)(h:∀c∈D,vE c x=R):Xg (gh L D) x=Xg L x:=by induction D generalizing L with|nil=>rfl|cons c D I=>show Xg (gh (mF L c) D) x=_;rw[I (a.mF c) λy b=>h y<|jw _ b,YM a,h c<|xu ..];rfl
def YD(D j)(h:j<=T D):(tZ D j).map (·.2)=(D.drop j).reverse:=by unfold tZ;rw[Wj,List.map_reverse];congr 1;apply List.ext_getElem;simp;grind
def xmg(b:Nd L){k}(hk:k<=T D){q y o}(f:tZ D k=q++[y])(g:∀z∈q,vE z.2 x=R)(hy:vE y.2 x=Y o):Xg (gh L D) x=o:=by
 have a:=YD D k hk;rw[f,qz,Js,Fr]at a;have c:D.drop k=y.2::(q.map (·.2)).reverse:=by have:=gv List.reverse a;simpa using this.symm
 have d:D=D.take k++(y.2::(q.map (·.2)).reverse):=by rw[<-c,Km]
 have e:gh L D=gh (mF (gh L<|D.take k) y.2) (q.map (·.2)).reverse:=by
  conv=>lhs;rw[d]
  simp[gh,Kw]
 rw[e,YN<|(b.gh _).mF _,YM<|b.gh _,hy];rfl;grind
def xil(b:Nd L)(d:∀z∈tZ D 0,vE z.2 x=R):Xg (gh L D) x=Xg L x:=by
 refine YN b λc a=>?_;have:c∈(tZ D 0).map (·.2):=by rw[(YD D 0<|Zz _)];simpa using a
 grind
section
open Go.Shelf
attribute[local go_sem] zn zg
attribute[local go_sem] Oper.semAt_some
def xh.iQ{W b a r}(h:xh W r C t)(c:W.grownBy b a)(d:∀r,a=Y r->∃o:Obj,W.heap[r]?=Y o/\o.isCells=ao):xh b r C t:=
 (grownBy_keeps_cells c d h O).trans h
def PI(w):(zeroValue 155).run prog w=dG (rB []) w:=Ä
structure jel(w:Zy)(y:Zl)(P:bA<|Int×Vk)(W:Zy):Prop where
 k:xh W (V<|Z w) #[E y] 9
 v:xh W (V (Z w)+1) #[ak ⟨#[]⟩] 9
 b:xh W (V (Z w)+1+1) #[bG ao] 4
 ac:aP (V<|Z w) w W
 sz:V (Z w)+1+1+1+1<=V (Z W)
 no:∀z∈P,vE z.2 y=R
structure jem(w:Zy)(p:Zl)(c:pB)(P:bA<|Int×Vk)(W:Zy):Prop where
 zU:c= .ret
 hit:∃q y o,P=q++[y]/\(∀z∈q,vE z.2 p=R)/\vE y.2 p=Y o/\xh W (V (Z w)+1) #[E<|o.getD []] 9/\xh W (V (Z w)+1+1) #[bG o.isSome] 4
 ac:aP (V<|Z w) w W
def xs2(s u w)(h:Bc w s)(hP:T s.P<=20):aH 74 #[aU<|some ⟨s.S,0,R⟩,ak<|st u] w (cE #[ak<|st<|(Xg s.lT u).getD [],bG (Xg s.lT u).isSome]):=by
 refine(callsIn_wide (n:=4)).1 ?_;obtain⟨a,d,hpv,hcap⟩:=Wo h.iR;have HA:=h;have HPV:=hpv;have c1:N w ⟨s.S,1,R⟩=aB a (T s.P) d:=by rw[<-hpv];exact h.bT.i 1 O
 have c1':N (aF (aF (aF w<|au #[ak<|st u] 9)<|au #[ak ⟨#[]⟩] 9)<|au #[bG ao] 4) ⟨s.S,1,R⟩=aB a (T s.P) d:=(zj.E (S:=λ_=>False) _).i id<|(zj.E (S:=λ_=>False) _).i id<|(zj.E (S:=λ_=>False) _).i id c1;have hfB:Fence.wide.fn 130:=bD;refine callsIn_of_wp_marks func74.1 O bD ?_ O;simp only[Tryz.ntmps74,jd,xg,qy,jY,lh,qu,qw,Xa,Zh,qj,qg]
 gi_wp2_with (gi_at_call 130;refine(callsIn_wide.2<|zx3 _ _ _ _).mono ?_;rintro e w'⟨rfl,rfl⟩)
 let⟨W0,b⟩:=JP<|aF (aF (aF (aF w<|au #[ak<|st u] 9)<|au #[ak ⟨#[]⟩] 9)<|au #[bG ao] 4) (au #[aB a (T s.P) d] 150);rw[b];have B0:aP (V<|Z w) w W0:=by rw[<-b];exact((((zt _ w).alloc (zd _) _).alloc Â _).alloc Ç _).alloc Ç _
 have S0:V (Z W0)=V (Z w)+1+1+1+1:=by rw[<-b];simp
 have K0:xh W0 (V<|Z w) #[ak<|st u] 9:=by rw[<-b];exact(((xh.ex w #[ak<|st u] 9).E _).E _).E _
 have V0:xh W0 (V (Z w)+1) #[ak ⟨#[]⟩] 9:=by rw[<-b];have:=xh.ex (aF w<|au #[ak<|st u] 9) #[ak ⟨#[]⟩] 9;simp only[xp]at this;exact(this.E _).E _
 have L0:xh W0 (V (Z w)+1+1) #[bG ao] 4:=by rw[<-b];have:=xh.ex (aF (aF w<|au #[ak<|st u] 9)<|au #[ak ⟨#[]⟩] 9) #[bG ao] 4;simp only[xp]at this;exact this.E _
 have X0:xh W0 (V (Z w)+1+1+1) #[aB a (T s.P) d] 150:=by rw[<-b];have:=xh.ex (aF (aF (aF w<|au #[ak<|st u] 9)<|au #[ak ⟨#[]⟩] 9)<|au #[bG ao] 4) #[aB a (T s.P) d] 150;simp only[xp]at this;exact this
 have HW0:=HA.y (zj.J B0) λ_ _=>id;have F:=PM HW0.iR;rw[HPV]at F;refine wpIn_rangeFunc_ownF O À (gf:=199) (lb:=#[aU<|some ⟨V (Z w)+1+1+1,0,R⟩]) O bD (enters_of func199.1 Ä O)
  (xm2 3 À (V (Z w)+1+1+1) (V<|Z W0) (aB a (T s.P) d) s.P À W0 À (zd _) (X0.i 0 O) F) belowK_t (belowK_b<|zd _) (zt _ _) (λ_=>O)
  (jel w u) (jem w u)
  (λG A B row f hg hr=>⟨f.k.iQ hg λr e=>(hr r e).2,f.v.iQ hg λr e=>(hr r e).2,f.b.iQ hg λr e=>(hr r e).2,f.ac.grown hg f.ac.size λk e=>Á,xa f.sz hg.size,f.no⟩)
  (λc G A B row f hg hr=>⟨f.zU,by obtain⟨q,y,o,h1,h2,h3,h4,h5⟩:=f.hit;exact⟨q,y,o,h1,h2,h3,h4.iQ hg λr e=>(hr r e).2,h5.iQ hg λr e=>(hr r e).2⟩,f.ac.grown hg f.ac.size λk e=>Á⟩)
  ⟨K0,V0,L0,B0,À,λz hz=>by cases hz⟩
  (λx=>{tmps:=#[aU<|some ⟨s.S,0,R⟩,ak<|st u,Z',aU<|some ⟨V<|Z w,0,R⟩,aU<|some ⟨V (Z w)+1,0,R⟩,aU<|some ⟨V (Z w)+1+1,0,R⟩,Z',oP x.2,Z',Z',Z',Z',
   aU (Y ⟨s.S,0,R⟩),aU<|some ⟨s.S,0,R⟩,aU<|some ⟨s.S,1,R⟩,aB a (T s.P) d,.func (.func 199) #[] #[aU<|some ⟨V (Z w)+1+1+1,0,R⟩],aD bB x.1,oP x.2,
   Z',Z',Z',Z',Z',Z',Z',Z',Z',Z',Z',Z',Z',Z',Z',Z',Z',Z',Z',Z',Z',Z',Z',Z',Z',Z',Z',Z',Z'],defers:=[]}) ?assign ?body ?done ?stop
 case assign=>
  intro l x W j hK
  gi_wp2
  exact hK
 case body=>
  rintro l G⟨ix,c⟩ W ⟨hk,hv,hb,v,hsz,hno⟩ _;have HK:=hk;have HV:=hv;have HB:=hb;have HE:=v;have HN:=hno;cases c with
  |put i g=>
   have h86:=WU (bY #[ak<|st i,ak<|st g]) W;simp only[oP];by_cases hm:i=u
   ·subst hm;have A1:=HK.E<|au #[ak<|st i,ak<|st g] 104;have I:=HV.E<|au #[ak<|st i,ak<|st g] 104;have A3:=HB.E<|au #[ak<|st i,ak<|st g] 104;have ck:=A1.i 0 O;have X:=I.i 0 O;have fv:=I.dS 0;have cb:=A3.i 0 O;have fb:=A3.dS 0;have cn0:=(xh.ex W #[ak<|st i,ak<|st g] 104).i 0 O
    gi_wp2
    refine⟨?_,O,⟨G,(ix,.put i g),Y g,O,HN,by simp[vE],?_,?_⟩,?_⟩
    ·exact zbv
    ·exact((HV.E _).H 0 _).dR Â _
    ·exact((HB.E _).dR Â _).H 0 _
    ·exact zdu
   ·have hmb:((st i).toList==(st u).toList)=ao:=by rw[xl,xl,jf];exact hm
    have A1:=HK.E<|au #[ak<|st i,ak<|st g] 104;have I:=HV.E<|au #[ak<|st i,ak<|st g] 104;have A3:=HB.E<|au #[ak<|st i,ak<|st g] 104;have ck:=A1.i 0 O;have X:=I.i 0 O;have fv:=I.dS 0;have cb:=A3.i 0 O;have fb:=A3.dS 0;have cn0:=(xh.ex W #[ak<|st i,ak<|st g] 104).i 0 O
    gi_wp2
    refine⟨lw _ _,(zt _ W).alloc À _,HK.E _,HV.E _,HB.E _,HE.trans<|(zt _ W).alloc À _,Ç,λz hz=>?_⟩;grind [vE]
  |del i=>
   have h86:=XO (bY #[ak<|st i]) W;have h88:=WV (bY #[ak<|st i]) W;simp only[oP];by_cases hm:i=u
   ·subst hm;have A1:=HK.E<|au #[ak<|st i] 106;have I:=HV.E<|au #[ak<|st i] 106;have A3:=HB.E<|au #[ak<|st i] 106;have ck:=A1.i 0 O;have X:=I.i 0 O;have fv:=I.dS 0;have cb:=A3.i 0 O;have fb:=A3.dS 0;have cn0:=(xh.ex W #[ak<|st i] 106).i 0 O
    gi_wp2
    refine⟨?_,O,⟨G,(ix,.del i),R,O,HN,by simp[vE],?_,?_⟩,?_⟩
    ·exact zbv
    ·exact((HV.E _).H 0 _).dR Â _
    ·exact((HB.E _).dR Â _).H 0 _
    ·exact zdu
   ·have hmb:((st i).toList==(st u).toList)=ao:=by rw[xl,xl,jf];exact hm
    have A1:=HK.E<|au #[ak<|st i] 106;have I:=HV.E<|au #[ak<|st i] 106;have A3:=HB.E<|au #[ak<|st i] 106;have ck:=A1.i 0 O;have X:=I.i 0 O;have fv:=I.dS 0;have cb:=A3.i 0 O;have fb:=A3.dS 0
    gi_wp2
    refine⟨lw _ _,(zt _ W).alloc À _,HK.E _,HV.E _,HB.E _,HE.trans<|(zt _ W).alloc À _,Ç,λz hz=>?_⟩;grind [vE]
 case done=>
  rintro D xs W hD rfl⟨hk,hv,hb,v,hsz,hno⟩ hK;have HM:H<|Xg s.lT u=Xg s.L u:=xil HA.jS.nd hno;have HV:=hv;have HB:=hb;have HE:=v;have HD:=hK;have AW:=HA.y (zj.J v) λ_ _=>id;have ck:=hk.i 0 O;have cm:N W ⟨s.S,0,R⟩=(fu<|some s.mp):=AW.bT.i 0 O;have hget:=XD (w:=W.drew) CJ dK PI AW.jS u;have AW2:=AW.y (S:=λ_=>False) (zj.E<|au #[ak ⟨#[]⟩] 155) λ_ _=>id;have hget2:=XD (P:=prog) (w:=(aF W<|au #[ak ⟨#[]⟩] 155).drew) CJ dK PI AW2.jS u;have cm2:N (aF W<|au #[ak ⟨#[]⟩] 155) ⟨s.S,0,R⟩=(fu<|some s.mp):=AW2.bT.i 0 O;have ck2:=(hk.E<|au #[ak ⟨#[]⟩] 155).i 0 O;unfold rB at hget hget2
  gi_wp2
  refine wpIn_wide.2 ?_;go_region;all_goals
   have VA:=(HV.E<|au #[ak<|st<|(Xg s.L u).getD []] 155).W;have BA:=(HB.E<|au #[ak<|st<|(Xg s.L u).getD []] 155).W;have NA:=(xh.ex W #[ak<|st<|(Xg s.L u).getD []] 155).W;have DA:(aF W<|au #[ak<|st<|(Xg s.L u).getD []] 155).drew.heap[D]?=Y (.deferred<|some []):=(Xj W _ D (za.1 HD).1).trans HD;have EA:Nw w (aF W<|au #[ak<|st<|(Xg s.L u).getD []] 155).drew:=((zj.J HE).aE<|zj.E _).W;generalize(aF W<|au #[ak<|st<|(Xg s.L u).getD []] 155).drew=WA at*;let⟨g,hvl⟩:=JP<|(Xg s.L u).getD [];have HVL:=hvl;rw[hvl]at NA⊢;have ca:=NA.i 0 O;have X:=VA.i 0 O;have fv:=VA.dS 0;have cb:=BA.i 0 O;have fb:=BA.dS 0
   gi_wp2
   have VC:=(VA.H 0<|ak<|st g).dR (p:=⟨V (Z w)+1+1,0,R⟩) Â<|bG (Xg s.L u).isSome;have BC:=(BA.dR (p:=⟨V (Z w)+1,0,R⟩) Â<|ak<|st g).H 0<|bG (Xg s.L u).isSome;have DC:(ay (ay WA ⟨V (Z w)+1,0,R⟩<|ak<|st g) ⟨V (Z w)+1+1,0,R⟩<|bG (Xg s.L u).isSome).heap[D]?=Y (.deferred<|some []):=(zah _ _ _ _ Á).trans<|(zah _ _ _ _ Á).trans DA;have EC:Nw w<|ay (ay WA ⟨V (Z w)+1,0,R⟩<|ak<|st g) ⟨V (Z w)+1+1,0,R⟩<|bG (Xg s.L u).isSome:=(EA.cZ (Xu _)<|zj.H WA ⟨V (Z w)+1,0,R⟩ _).cZ (show V (Z w)<=V (Z w)+1+1 by omega)<|zj.H _ ⟨V (Z w)+1+1,0,R⟩ _;generalize(ay WA ⟨V (Z w)+1,0,R⟩<|ak<|st g).setCell ⟨V (Z w)+1+1,0,R⟩ (bG (Xg s.L u).isSome)=WC at*;refine⟨Â,aJ ⟨_,_,O,run_takeDeferred DC,?_⟩⟩;have hkr:∀r,Y D=Y r->∃o:Obj,WC.heap[r]?=Y o/\o.isCells=ao:=λr e=>by cases e;exact⟨_,DC,O⟩
   have r1:=(VC.iQ (pL WC D<|.deferred R) hkr).i 0 O;have r2:=(BC.iQ (pL WC D<|.deferred R) hkr).i 0 O;refine⟨cE #[ak<|st g,bG (Xg s.L u).isSome],zcs,by rw[HM.o,HVL],?_⟩;exact⟨EC.os,EC.cX,by simpa using EC.aD,λk hk _=>(World.putObj_heap_other À).trans<|EC.dP k hk id⟩
 case stop=>
  rintro D c G W hD⟨k,hk,rfl⟩ ⟨rfl,⟨q,y,o,h1,h2,h3,h4,h5⟩,v⟩ hK;have HM:H<|Xg s.lT u=o:=xmg HA.jS.nd hk h1 h2 h3
  gi_wp2
  refine⟨Â,aJ ⟨_,_,O,run_takeDeferred hK,?_⟩⟩;have hkr:∀r,Y D=Y r->∃o:Obj,W.heap[r]?=Y o/\o.isCells=ao:=λr e=>by cases e;exact⟨_,hK,O⟩
  have r1:=(h4.iQ (pL W D<|.deferred R) hkr).i 0 O;have r2:=(h5.iQ (pL W D<|.deferred R) hkr).i 0 O;refine⟨cE #[ak<|st<|o.getD [],bG o.isSome],zcs,by rw[HM.o],?_⟩;exact⟨v.os,v.output,by simpa using v.size,λk hk _=>(World.putObj_heap_other À).trans<|v.block k hk⟩
end
section
attribute[local go_sem] zn zg
def Sr.iS(r:Sr)(y:Zl):Zl×U:=match r.sn with
 |none=>([],5)
 |some s=>if oR y=ao then([],6)else match Xg s.lT y with
  |none=>([],8)|some v=>(v,0)
def YI(B r a w)(h:Vq w B r)(j:∀s,r.sn=Y s->T s.P<=20):aH 36 #[zq B,E a] w (cE #[ak<|st (r.iS a).1,aD bB (r.iS a).2]):=by
 have g:=h.bT.i 7 O;have n:=h;cases y:r.sn with
 |none=>
  have i:N w (K B 7)=aU R:=by rw[g];simp[Sr.G,Sr.my,y]
  have b:H<|r.iS a=([],5):=by show _=_;unfold Sr.iS;rw[y]
  clear h g y j;go_enter func36.1,Tryz.ntmps36;go_wp2;refine ji (v:=cE #[ak ⟨#[]⟩,J 5]) HY O ⟨á,zj.refl _ _⟩
 |some s=>
  have i:N w (K B 7)=zq s.S:=by rw[g];simp[Sr.G,Sr.my,y]
  have f:=y;have d:=j s y;clear h g y j;go_enter func36.1,Tryz.ntmps36;go_wp2;apply(H8 a _).mono;rintro e w1⟨rfl,l⟩;obtain rfl:=l.symm;cases hk:bR (0<T a/\T a<=16)with
  |false=>
   have b:H<|r.iS a=([],6):=by show _=_;unfold Sr.iS;rw[f];simp[oR,hk,dY]
   go_wp2;refine ji (v:=cE #[ak ⟨#[]⟩,J 6]) HY O ⟨á,zj.refl _ _⟩
  |true=>
   have c:H<|oR a=M:=hk;go_wp2;apply(xs2 s a _ (n.fP s f).1 d).mono;rintro e o⟨rfl,k⟩;have m:=k;cases z:Xg s.lT a with
   |none=>
    have b:H<|r.iS a=([],8):=zca
    simp only[Option.getD_none,Option.isSome_none];go_wp2;refine ji (v:=cE #[ak ⟨#[]⟩,J 8]) HY O ⟨á,m⟩
   |some v=>
    have b:H<|r.iS a=(v,0):=zca
    simp only[qt,Option.isSome_some];go_wp2;refine ji (v:=cE #[E v,J 0]) HY O ⟨by rw[b.o],m⟩
end
end P
namespace P
variable{w w' w0 w1 W:Zy}{n t k C cnt num e B g c:Q}{X:Type}{l z q x:Zl}{L L':KV}{k':Lk}{tv v m:Zv}{aw:Prop}{r:Sr}
open A.Tryq Go.RowKit
section
attribute[local go_sem] zn zg
def F7(m y):T (Ji m y)=16:=Ln _ _ 16 Ã
theorem Ek(m y):T (Y7 m y)=32:=Ln _ _ 32 Ã
def Ad(y:Zl)(p o cnt n:Q):Zl:=y++(nb p 1++(nb o 2++(nb (cnt+1) 4++nb n 2)))
def CV(m y:Zl)(p o cnt:Q)(P:Zl):Zl:=nT (Ji m p) ((Ad y p o cnt (T P)).take 8) P
def ua(m p y:Zl)(j o cnt:Q)(P:Zl):Zl:=Wu (Y7 m j)<|p++Ad y j o cnt (T P)++CV m y j o cnt P
def rn(m p y:Zl)(j o cnt:Q)(P:Zl):Zl:=Ad y j o cnt (T P)++CV m y j o cnt P++ua m p y j o cnt P
def xkw(m mark kind)(ep op cnt:Q)(plain)(hm:T m=32)(bf:T mark=32)(L:T kind=1)(bg:T plain<=4000)(bb:cnt<1000000000)(w)(aw:iN w):
  aq 161 #[bY #[ak<|st m,aD bB (cnt:U),ak<|st mark,aD bB (op:U)],ak<|st kind,aD bB (ep:U),ak<|st plain] w (ak<|st<|rn m mark kind ep op cnt plain):=by
 have y:=aw;have X:=hm;have l1:=Z2 ep 1;have l2:=Z2 op 2;have l3:=Z2 (cnt+1) 4;have l4:=Z2 (T plain) 2;have h2:H<|IntKind.i64.wrap ((cnt:U)+1)=((cnt+1:Q):U):=zau
 have W0:aP (V<|Z w) w<|aF w<|au #[ak<|st m,aD bB (cnt:U),ak<|st mark,aD bB (op:U)] 91:=(zt _ _).alloc (zd _) _;have z:xh (aF w<|au #[ak<|st m,aD bB (cnt:U),ak<|st mark,aD bB (op:U)] 91) (V<|Z w) #[ak<|st m,aD bB (cnt:U),ak<|st mark,aD bB (op:U)] 91:=xh.ex _ _ _;go_enter func161.1,Tryz.ntmps161;go_wp2;generalize aF w (au #[ak<|st m,aD bB (cnt:U),ak<|st mark,aD bB (op:U)] 91)=W at*;have c:∀w1,aP (V<|Z W) W w1->N w1 ⟨V<|Z w,3,R⟩=aD bB (op:U)/\N w1 ⟨V<|Z w,1,R⟩=aD bB (cnt:U):=λw1 h=>⟨(z.ac h).i 3 O,(z.ac h).i 1 O⟩;have u:=c W<|zt _ _;have a:aP (V<|Z W) W W.drew:=(zt _ _).drew;go_region_held3 (λw'=>N w' ⟨V<|Z w,3,R⟩=aD bB (op:U)/\N w' ⟨V<|Z w,1,R⟩=aD bB (cnt:U)) (first|exact u|exact v)
  (first
   |(go_at_call 148;refine(Lf _ ep O _).mono ?_;rintro e w1⟨rfl,j⟩;replace a:=Xs a j;have v:=c _ a)
   |(go_at_call 157;refine(Lx _ _).mono ?_;rintro e w1⟨rfl,j⟩;replace a:=Xs a j;have v:=c _ a)
   |(go_at_call 158;refine(Pf _ _ h2.o _).mono ?_;rintro e w1⟨rfl,j⟩;replace a:=Xs a j;have v:=c _ a))
 let⟨hd,n⟩:=JP<|kind++(nb ep 1++(nb op 2++(nb (cnt+1) 4++nb (T plain) 2)));have hx:H<|Ad kind ep op cnt (T plain)=hd:=n;have bc:T hd=10:=by rw[<-n];simp[L,l1,l2,l3,l4]
 rw[n];have f:=z.ac a;have P:=W0.trans<|a.mono W0.size;have T1:=y.ac y.iE P;have d0:=f.i 0 O;have d2:=f.i 2 O;have d3:=f.i 3 O;try clear hHeld
 go_wp2;refine(FV m mark _ _ ep X _ T1).mono ?_;rintro e p⟨rfl,x⟩;have W2:=Xs P x;have t:=f.ac x;have g':=t.lt;let⟨d,l⟩:=JP<|Ji m ep;let⟨b,o⟩:=JP<|Y7 m ep;rw[l,o];have F:=l;have I:=o;have G:H<|T d=16:=by show _=_;rw[<-l];exact F7 m ep
 have v':T b<=4096:=by show _<=_;rw[<-o,Ek m ep];omega
 go_wp2;have i:xh (aF p<|au #[ak<|st d,ak<|st b] 145) (V<|Z p) #[ak<|st d,ak<|st b] 145:=xh.ex _ _ _;have B:=t.E<|au #[ak<|st d,ak<|st b] 145;have A:=W2.alloc À<|au #[ak<|st d,ak<|st b] 145;have KS:∀q s,s=st (hd.take 8)->aq 150 #[bY #[ak<|st d,ak<|st b],ak s,ak<|st plain] q (ak<|st<|nT d (hd.take 8) plain):=λq s S=>by rw[S];exact PA d b _ plain G.o Á À q
 generalize aF p (au #[ak<|st d,ak<|st b] 145)=W at*;have c:∀w1,aP (V<|Z W) W w1->N w1 ⟨V<|Z p,0,R⟩=(ak<|st d)/\N w1 ⟨V<|Z p,1,R⟩=(ak<|st b):=λw1 h=>⟨(i.ac h).i 0 O,(i.ac h).i 1 O⟩;have u:=c W<|zt _ _;have a:aP (V<|Z W) W W.drew:=(zt _ _).drew;have h8:(8:U)<=(T hd:Q):=À
 go_region_held3 (λw'=>N w' ⟨V<|Z p,0,R⟩=(ak<|st d)/\N w' ⟨V<|Z p,1,R⟩=(ak<|st b)) (first|exact u|exact v)
  ((go_at_call 150;refine(KS _ _<|vD hd 8).mono ?_;rintro e q⟨rfl,j⟩;replace a:=Xs a j;have v:=c _ a))
 let⟨g,k⟩:=JP<|nT d (hd.take 8) plain;rw[k];have D:=k;have ba:T g=T plain:=by rw[<-k];exact A' _ _ _
 have C:=B.ac a;have es:=i.ac a;have h1:=A.trans<|a.mono A.size;have T4:=y.ac y.iE h1;have d2:=C.i 2 O;have ho:∀r s,s=st (mark++(hd++g))->iN r->aq 159 #[bY #[ak<|st d,ak<|st b],ak s] r (ak<|st<|Wu b<|mark++(hd++g)):=λr s S aw=>by grind [LJ]
 try clear hHeld
 go_wp2;refine(ho _ _ O T4).mono ?_;rintro e r⟨rfl,wr⟩;have be:=uP b<|mark++(hd++g);have cs:H<|st (hd++(g++Wu b (mark++(hd++g))))=st (rn m mark kind ep op cnt plain):=by show _=_;simp only[rn,ua,CV,hx.o,F,I,D,jq]
 have W5:=Xs h1 wr;go_wp2;go_ret;exact⟨by rw[<-cs.o];rfl,W5⟩
def zj.eL{S}(h:zj S w w'):zj S w<|w'.drewN n:=⟨h.os,h.cX,h.aD,h.dP⟩
def Vb(n c:Q):Zl:=83::(nb n 4++nb c 4)
def Sr.cD(r:Sr)(s:kE):Q×Zl:=
 if s.bM<s.aQ/\(T (jp r.d.L s.aQ):U)<r.ov then(bL s.aQ,[])else(bL s.aQ+1,Vb (bL s.aQ+1)<|r.bF+1)
def xpo(B r s w)(h:Vq w B r)(S:r.sn=Y s)(A:0<=s.aQ)(hd:s.aQ<=1000000000000)(h1:r.bF<1000000000):aH 160 #[zq B] w (cE #[J<|(r.cD s).1,ak<|st (r.cD s).2]):=by
 obtain⟨c,o⟩:∃c:Q,s.aQ=(c:U):=⟨bL s.aQ,À⟩;have h2:N w (K B 7)=zq s.S:=by rw[h.bT.i 7 O];simp[Sr.G,Sr.my,S]
 have X:N w (K B 0)=J r.ov:=h.bT.i 0 O;have hx:=h.bT.i 2 O;have q:N w (K B 4)=J r.bF:=h.bT.i 4 O;have D:=(h.fP s S).1;have d3:N w (K s.S 3)=J s.bM:=D.bT.i 3 O;have t:N w (K s.S 4)=J c:=by rw[<-o];exact D.bT.i 4 O
 have f:H<|r.cD s=if s.bM<s.aQ/\(T (jp r.d.L s.aQ):U)<r.ov then(bL s.aQ,[])else(bL s.aQ+1,Vb (bL s.aQ+1)<|r.bF+1):=O;rw[o]at f;have ho:(c:U)<=1000000000000:=À
 have p:∀n,aK prog 76 #[zq r.D,J c] (w.drewN n) λe w'=>e=ai (E<|jp r.d.L (c:U))/\w'=w.drewN n:=λn=>Ei r.D r.d (c:U) (w.drewN n) ⟨h.fA.bT,h.fA.jS,h.fA.ku⟩;have k:H<|IntKind.i64.wrap ((r.bF:U)+1)=((r.bF+1:Q):U):=zau
 have g:H<|IntKind.i64.wrap ((c:U)+1)=((c+1:Q):U):=zau
 have I:∀w1 a b,a=((c+1:Q):U)->b=((r.bF+1:Q):U)->aq 222 #[J a,J b] w1 (E<|Vb (c+1)<|r.bF+1):=λw1 a b P i=>by subst P i;exact XR (c+1) (r.bF+1) w1
 let⟨y,G⟩:=JP<|jp r.d.L (c:U);rw[G]at p f;generalize r.ov=sg at*;generalize s.bM=ba at*;go_enter func160.1,Tryz.ntmps160;go_wp2;by_cases i:ba<(c:U)
 ·by_cases F:(T y:U)<sg
  ·have l:H<|r.cD s=(c,[]):=by show _=_;rw[f.o,aT ⟨i,F⟩];simp
   go_quiet ((go_at_call 76;refine qE<|p _));go_wp2;refine ji (v:=cE #[J c,ak ⟨#[]⟩]) zao O ⟨by rw[l.o];rfl,(zj.refl _ _).eL⟩
  have l:H<|r.cD s=(c+1,Vb (c+1)<|r.bF+1):=by show _=_;rw[f.o,aL λx=>F x.2];simp
  have aw:bR ((T y:U)<sg)=ao:=by simpa using F
  go_quiet ((go_at_call 76;refine qE<|p _));go_wp2;have C:N (w.drewN nq) (K s.S 4)=J c/\N (w.drewN nq) (K B 4)=J r.bF:=⟨t,q⟩;have z:Nw w<|w.drewN nq:=(zj.refl _ _).eL;have j:∀w1,Nw w w1->N w1 (K s.S 4)=J c/\N w1 (K B 4)=J r.bF:=λw1 h=>⟨h.i id t,h.i id q⟩;generalize w.drewN nq=W at*;go_region_held3 (λw'=>N w' (K s.S 4)=J c/\N w' (K B 4)=J r.bF) (first|exact C|exact u)
  ((go_at_call 222;refine(I _ _ _ g.o k.o).mono ?_;rintro e d⟨rfl,i⟩;have m:Nw w d:=z.W.aE<|zj.J i;have u:=j _ m))
  go_wp2;refine ji (v:=cE #[J<|IntKind.i64.wrap<|(c:U)+1,E<|Vb (c+1)<|r.bF+1]) zao O ⟨by rw[l.o,g.o],m⟩
 have l:H<|r.cD s=(c+1,Vb (c+1)<|r.bF+1):=by show _=_;rw[f.o,aL λx=>i x.1];simp
 have wr:bR (ba<(c:U))=ao:=by simpa using i
 go_quiet ((go_at_call 76;refine Calls.quiet_of_same<|p _));go_wp2;have C:N (w.drewN nq) (K s.S 4)=J c/\N (w.drewN nq) (K B 4)=J r.bF:=⟨t,q⟩;have z:Nw w<|w.drewN nq:=(zj.refl _ _).eL;have j:∀w1,Nw w w1->N w1 (K s.S 4)=J c/\N w1 (K B 4)=J r.bF:=λw1 h=>⟨h.i id t,h.i id q⟩;generalize w.drewN nq=W at*;go_region_held3 (λw'=>N w' (K s.S 4)=J c/\N w' (K B 4)=J r.bF) (first|exact C|exact u)
 ((go_at_call 222;refine(I _ _ _ g.o k.o).mono ?_;rintro e d⟨rfl,i⟩;have m:Nw w d:=z.W.aE<|zj.J i;have u:=j _ m))
 go_wp2;refine ji (v:=cE #[J<|IntKind.i64.wrap<|(c:U)+1,E<|Vb (c+1)<|r.bF+1]) zao O ⟨by rw[l.o,g.o],m⟩
section
variable{w w':dN}{f:X->bA eJ}{v:eJ}{l:bA X}{S:Q->Prop}
def Rw(w:Zy)(t k:Q)(f:X->Ze)(v:Zv)(l:bA X):Prop:=w.ownsRow 0 t k v (T l)<|l.flatMap f
def Rw.y(h:Rw w t k f v l)(i:zj S w w')(m:∀g,v.ownBlock=Y g->¬S g):Rw w' t k f v l:=by refine⟨h.1,?_⟩;obtain e|⟨g,a,b,d,j,c,r⟩:=h.2;grind;exact ac ⟨g,a,b,d,j,(i.dP g (za.1 c).1<|m g<|by rw[d];rfl).trans c,r⟩
def Rw.dL(h:Rw w t k f v l):∃a cap,v=aB a (T l) cap:=by obtain⟨e,c⟩|⟨g,cap,b,d,_⟩:=h.2<;>grind
def P7(b:∀a,T (f a)=k):∀(l:bA X) (i j:Q) (y:i<T l),j<k->(l.flatMap f)[i*k+j]?=(f l[i])[j]?
 |a::l,0,j,_,h=>by grind|a::l,i+1,j,y,h=>by rw[Wi,Xp Á,b,show(i+1)*k+j-k=i*k+j by grind];exact P7 b l i j Á h
def Rw.lp(h:Rw w t k f v l)(p:∀a,T (f a)=k){i}(d:i<T l){a cap}(m:v=aB a n cap):∃g,a=Y ⟨g,0,R⟩/\∀j,j<k->N w (K g<|i*k+j)=(f l[i])[j]?:=by obtain⟨e,r⟩|⟨g,c,o,b,_⟩:=id h.2;omega;rw[m]at b;cases b;refine⟨g,O,λj q=>?_⟩;rw[m]at h;have:(i+1)*k<=T l*k:=Y5 k d;rw[h.cellAt _ Á,P7 p l i j d q]
end
structure Rf where
 bU:U
 ov:U
 mW:U
 fv:Zv
 F:Xv
 nE:ez
 ko:U
 cQ:U
 m:Zl
 bF:Q
 op:Q
 bQ:Zl
 gw:ez
 sv:Zv
 L:KV
 pv:Zv
 P:bA Vk
 ep:Q
 dX:Zl
 bM:U
 sg:U
 bC:U
 dB:U
def Rf.G(f:Rf):Za:=#[aD bB f.bU,aD bB f.ov,aD bB f.mW,f.fv,bG f.nE,aD bB f.ko,aD bB f.cQ,ak<|st f.m,aD bB (f.bF:U),aD bB (f.op:U),ak<|st f.bQ,bG f.gw,f.sv,f.pv,aD bB (f.ep:U),ak<|st f.dX,aD bB f.bM,aD bB f.sg,aD bB f.bC,aD bB f.dB]
def mr(p:U×(Zl×U)):Ze:=[aD bB p.1,ak<|st p.2.1,aD bB p.2.2]
def kT(p:Zl×Zl):Ze:=[ak<|st p.1,ak<|st p.2]
def cK:Vk->Zl
 | .put k _=>k| .del k=>k
def cV:Vk->Zl
 | .put _ v=>v| .del _=>[]
def cG:Vk->ez
 | .put _ _=>ao| .del _=>M
def t6(c:Vk):Ze:=[bG<|cG c,ak<|st<|cK c,ak<|st<|cV c]
structure Ju(w:Zy)(C:Q)(f:Rf):Prop where
 bT:xh w C f.G 83
 fs:Rw w 123 3 mr f.fv f.F
 ss:Rw w 200 2 kT f.sv f.L
 ps:Rw w 197 3 t6 f.pv f.P
 fn:f.F=[]->f.fv=aB R 0 0
def Ju.y{f}(h:Ju w C f)(a:Nw w w'):Ju w' C f:=⟨h.bT.y a id,h.fs.y a λ_ _=>id,h.ss.y a λ_ _=>id,h.ps.y a λ_ _=>id,h.fn⟩
def AtP(F:Xv)(n:U)(e:kH):Prop:=(∃k,∃h:k<T F,e=ai (J k)/\F[k].1=n/\Xm F n=Y F[k].2)\/(e=ai (J<|-1)/\Xm F n=R)
def xjm{F:Xv}(h:k<T F)(n):Xm (F.drop k) n=if n=F[k].1 then Y F[k].2 else Xm (F.drop<|k+1) n:=by rw[Zx h];rfl
def ZE(l)(k:Q)(h:T l<=k)(a:∀p∈l,T p.2.1<=1000000):0<=bO l/\bO l<=1000000*(k:U):=by induction l generalizing k<;>grind [bO]
def Ir(C f n w)(h:Ju w C f)(m:T f.F<=1000000):aK prog 231 #[zq C,J n] w λe w'=>w'=w/\AtP f.F n e:=by
 let⟨a,y,p⟩:=h.fs.dL;have c3:N w (K C 3)=aB a (T f.F) y:=p▸h.bT.i 3 O;go_enter func231.1,Tryz.ntmps231;go_wp2;go_loopw [5] (λi wr=>∃k:Q,k<=T f.F/\i=J k/\H (Xm f.F n=Xm (f.F.drop k) n)/\wr=w) (λi _=>bL (T f.F-bZ i));exact⟨0,À,O,O,O⟩;obtain⟨k,hk,rfl,j,rfl⟩:=hrel;by_cases b:k<T f.F
 ·obtain⟨g,rfl,l⟩:=h.fs.lp (λ_=>O) b p;have e0:N wr (K g<|k*3)=J f.F[k].1:=l 0 À;have u:=j.o.trans<|xjm b n;have o:(k:U)<(T f.F:Q):=À;by_cases d:f.F[k].1=n
  ·have c:H<|Xm f.F n=Y f.F[k].2:=by show _=_;rw[u,aT d.symm]
   go_wp2;go_ret;exact⟨O,aJ ⟨k,b,O,d,c.o⟩⟩
  have c:H<|Xm f.F n=Xm (f.F.drop<|k+1) n:=by show _=_;rw[u,aL<|Ne.symm d]
  generalize f.F[k].1=q at*;go_wp2;go_roundw;exact⟨k+1,À,Å,c,bD⟩;exact Ì
 obtain rfl:k=T f.F:=À
 go_wp2;go_ret;exact⟨O,ac ⟨O,by rw[j.o,Vl];rfl⟩⟩
def LS(C f n w)(h:Ju w C f)(l:T f.F<=1000000):aK prog 184 #[zq C,J n] w λe w'=>w'=w/\e=ai (E<|jp f.F n):=by
 let⟨a,y,p⟩:=h.fs.dL;have c3:N w (K C 3)=aB a (T f.F) y:=p▸h.bT.i 3 O;have c:=h;go_enter func184.1,Tryz.ntmps184;go_wp2;apply(Ir C f n _ c l).mono;rintro e w1⟨rfl,⟨k,hk,rfl,j,b⟩|⟨rfl,b⟩⟩
 ·obtain⟨g,rfl,d⟩:=c.fs.lp (λ_=>O) hk p;have m:N w1 (K g<|k*3+1)=(E<|jp f.F n):=by rw[d 1 À];simp[mr,jp,b]
  clear d j b;go_wp2;go_ret;simp
 have i:H<|jp f.F n=[]:=by show _=_;simp[jp,b]
 go_wp2;go_ret;exact⟨O,by rw[i.o];rfl⟩
def ZD(C f n w)(h:Ju w C f)(l:T f.F<=1000000):aK prog 191 #[zq C,J n] w λe w'=>w'=w/\e=ai (J (T (jp f.F n):Q)):=by
 let⟨a,y,p⟩:=h.fs.dL;have c3:N w (K C 3)=aB a (T f.F) y:=p▸h.bT.i 3 O;have c:=h;go_enter func191.1,Tryz.ntmps191;go_wp2;apply(Ir C f n _ c l).mono;rintro e w1⟨rfl,⟨k,hk,rfl,j,b⟩|⟨rfl,b⟩⟩
 ·obtain⟨g,rfl,d⟩:=c.fs.lp (λ_=>O) hk p;have m:N w1 (K g<|k*3+1)=(E<|jp f.F n):=by rw[d 1 À];simp[mr,jp,b]
  clear d j b;go_wp2;go_ret;simp
 have i:H<|jp f.F n=[]:=by show _=_;simp[jp,b]
 go_wp2;go_ret;exact⟨O,by rw[i.o];rfl⟩
def ZG(C f w)(h:Ju w C f)(o:T f.F<=1000000)(l:∀p∈f.F,T p.2.1<=1000000):aK prog 190 #[zq C] w λe w'=>w'=w/\e=ai (J<|bO f.F):=by
 let⟨a,y,u⟩:=h.fs.dL;have c3:N w (K C 3)=aB a (T f.F) y:=u▸h.bT.i 3 O;have c:=l;go_enter func190.1,Tryz.ntmps190;go_wp2;go_loopw [3,4] (λs i wr=>∃k:Q,k<=T f.F/\i=J k/\s=J (bO<|f.F.take k)/\wr=w) (λ_ i _=>bL (T f.F-bZ i));exact⟨0,À,O,O,O⟩;obtain⟨k,hk,rfl,rfl,rfl⟩:=hrel;by_cases b:k<T f.F
 ·obtain⟨g,rfl,d⟩:=h.fs.lp (λ_=>O) b u;have e0:N wr (K g<|k*3+1)=(ak<|st f.F[k].2.1):=d 1 À;have S:bO (f.F.take<|k+1)=bO (f.F.take k)+(T f.F[k].2.1:Q):=by unfold bO;rw[zp b,qz,List.sum_append];simp
  have j:=S;have n:=c _<|Xk b;have r:0<=bO _/\bO _<=1000000*(k:U):=ZE (f.F.take k) k Á λp m=>c p<|Fq m;have t:(k:U)<(T f.F:Q):=À
  clear d S;generalize bO (f.F.take k)=q at*;generalize f.F[k].2.1=x at*;go_wp2;go_roundw;exact⟨k+1,À,Å,by rw[j],bD⟩;exact Ì
 obtain rfl:k=T f.F:=À
 rw[jz];go_wp2;go_ret;simp
structure Lk.ok(k:Lk):Prop where
 m:T k.m=32
 ep:k.ep<=255
 bF:k.bF<4294967296
 dX:T k.dX=32
theorem PU(l):jX l<=65535:=by
 unfold jX;have h:=AS<|(l.drop 8).take 2;have:T ((l.drop 8).take 2)<=2:=ù
 have:256^T ((l.drop 8).take 2)<=256^2:=J7 Ã this;omega
def Jv(k:Lk)(L:KV)(l:Zl):dD<|Lk×KV:=uB k L (l.take 1) (qi<|(l.drop 1).take 1) (qi<|(l.drop 4).take 4) (l.take 10) ((l.drop 10).take<|jX l)<|(l.drop<|10+jX l).take 32
def t7:Q->Lk->KV->Zl->dD (Lk×KV×Zl)
 |0,k,L,l=>Y (k,L,l)
 |n+1,k,L,l=>if J5 l=M then(match Jv k L l with
   |some (k',L')=>t7 n k' L'<|l.drop<|42+jX l
   |none=>R)else Y (k,L,l)
def Wt(h:J5 l=M):42+jX l<=T l:=by grind [J5]
theorem ZO:∀(n m:Q) (k:Lk) (L:KV) (l:Zl),T l<=n->T l<=m->t7 n k L l=t7 m k L l
 |0,0,_,_,_,_,_=>rfl|0,m+1,k,L,l,h,_=>by grind [t7,J5]
 |n+1,0,k,L,l,_,h=>by grind [t7,J5]
 |n+1,m+1,k,L,l,y,p=>by
  unfold t7;by_cases a:J5 l=M;have:=Wt a;rw[aT a,aT a];cases Jv k L l with|none=>rfl|some q=>exact ZO n m q.1 q.2 _ Á Á
  grind
def ms(k:Lk)(L:KV)(l:Zl):dD<|Lk×KV×Zl:=t7 (T l) k L l
theorem ZJ{k}(h:J5 l=ao):ms k L l=Y (k,L,l):=by unfold ms;cases y:T l with|zero=>rfl|succ n=>grind [t7]
def ZH{k}(h:J5 l=M)(b:Jv k L l=Y (k',L')):ms k L l=ms k' L' (l.drop<|42+jX l):=by have:=Wt h;unfold ms;obtain⟨n,a⟩:∃n,T l=n+1:=⟨T l-1,À⟩;rw[a];show(if J5 l=M then _ else _)=_;grind [ZO]
theorem ZI{k}(h:J5 l=M)(b:Jv k L l=R):ms k L l=R:=by have:=Wt h;unfold ms;obtain⟨n,a⟩:∃n,T l=n+1:=⟨T l-1,À⟩;rw[a];show(if J5 l=M then _ else _)=_;grind
def Io{k r a}(h:pX k L r cnt a z q=Y (k',L')):k'={k with bF:=cnt,fD:=k.dX,dX:=q}:=lg
def xea{k y a p}(h:uB k L y p cnt a z q=Y (k',L'))(hk:k.ok)(c:T q=32)(b:cnt<4294967296):k'.ok/\k'.mp=k.mp/\k'.aQ=k.aQ:=by unfold uB at h;split at h;cases h;split at h;split at h;rw[Io h];exact⟨⟨hk.m,hk.ep,b,c⟩,O,O⟩;grind;split at h;split at h;rename_i j;rw[Io h];exact⟨⟨hk.m,show p<=255 by omega,b,c⟩,O,O⟩;grind;grind
def ZM{k}(h:Jv k L l=Y (k',L'))(b:J5 l=M)(hk:k.ok):k'.ok/\k'.mp=k.mp/\k'.aQ=k.aQ:=by
 have a:=Wt b;apply xea h hk Á
 grind [AS,xf]
def Vd(k:Lk)(L:KV)(num:U)(len y:Q):dD<|Lk×KV:=
 if y<len then(if num=k.aQ then Y ({k with cQ:=M,cY:=y},L)else R)else Y (k,L)
def mX(k:Lk)(L:KV)(num:Q)(b:Zl):dD<|Lk×KV:=
 if 9<=T b then
  (if b.take 9≠83::(nb num 4++nb (k.bF+1) 4)then R
  else match ms k L (b.drop 9)with
   |some (k',L',r)=>Vd k' L' num (T b) (if T r=T b-9 then 0 else T b-T r)
   |none=>R)
 else Vd k L num (T b) 0
def ZR{k}(h:¬9<=T x):mX k L num x=Vd k L num (T x) 0:=aL h
def ZQ{k}(h:9<=T x)(a:x.take 9≠83::(nb num 4++nb (k.bF+1) 4)):mX k L num x=R:=by grind [mX]
def ZS{k}(h:9<=T x)(a:x.take 9=83::(nb num 4++nb (k.bF+1) 4)):mX k L num x=match ms k L (x.drop 9)with
   |some (k',L',r)=>Vd k' L' num (T x) (if T r=T x-9 then 0 else T x-T r)
   |none=>R:=by grind [mX]
def W8(num:Q)(x:Zl):Za:=#[aD bB (num:U),ak<|st x]
def jfa(b k)(hk:k.ok)(L l)(n:J5 l=M)(w)(f:1<V (Z w))(a:b≠1)(c:b≠2)(y:k.mp≠1)(e:k.mp≠2)(d:b≠k.mp)(j:Jh w b k)(o:Je w k.mp L)(i:iN w)(h:ip tv w):
  aK prog 261 #[zq b,Pz l] w (CO tv b k.mp (Jv k L l) w):=by
 have g:=Wt n;exact zq5 b k L hk.m _ _ _ _ _ _ hk.ep hk.bF Á (by grind [PU]) hk.dX w f a c y e d j o i h
def zpp(b k)(hk:k.ok)(L num x)(hx:T x<=100000)(w)(bk:1<V (Z w))(ce:2<V (Z w))(bs:b≠1)(bt:b≠2)(hm1:k.mp≠1)(cb:k.mp≠2)(bc:b≠k.mp)(hb:Jh w b k)(hs:Je w k.mp L)(hT:iN w)(hG:ip tv w):
  aK prog 214 #[zq b,bY<|W8 num x] w (CO tv b k.mp (mX k L num x) w):=by
 have I:=hb;have HT:=hT;have HG:=hG;have HS:=hs;have HK:=hk;have ca:=hb.lt;have cc:=hs.lt;have kc:=hk.bF;have e1:IntKind.i64.wrap ((k.bF:U)+1)=((k.bF+1:Q):U):=Ï
 unfold W8;go_enter func214.1,Tryz.ntmps214;have Q0:xh (aF w<|au (W8 num x) 289) (V<|Z w) (W8 num x) 289:=xh.ex _ _ _;have L0:Jh (aF w<|au (W8 num x) 289) b k:=xh.E I _;have G0:=HG.E<|au (W8 num x) 289;have A0:zj (λy=>y=b\/y=k.mp) w<|aF w<|au (W8 num x) 289:=zj.E _;have M0:=HS.y (S:=λ_=>False) (zj.E<|au (W8 num x) 289) id;have T0:=HT.y (S:=λ_=>False) (zj.E<|au (W8 num x) 289) id;by_cases h9:9<=T x
 ·have j9:(9:U)<=(T x:U):=À;have C1:xh (aF (aF w<|au (W8 num x) 289)<|au #[E x] 277) (V (Z w)+1) #[E x] 277:=by have h:=xh.ex (aF w<|au (W8 num x) 289) #[E x] 277;rwa[xp]at h
  have Q1:=Q0.E<|au #[E x] 277;have L1:Jh (aF (aF w<|au (W8 num x) 289)<|au #[E x] 277) b k:=xh.E L0 _;have G1:=G0.E<|au #[E x] 277;have A1:=A0.aE<|zj.E<|au #[E x] 277;have M1:=M0.y (S:=λ_=>False) (zj.E<|au #[E x] 277) id;have T1:=T0.y (S:=λ_=>False) (zj.E<|au #[E x] 277) id;go_wp2;have aw:(aF w<|au #[J num,E x] 289)=(aF w<|au (W8 num x) 289):=O;rw[aw];generalize(aF w<|au (W8 num x) 289).alloc (au #[E x] 277)=w1 at*;have HC:∀g,zj (·=V (Z w)+1) w1 g->N g (K (V<|Z w) 0)=J num/\N g (K b 8)=J k.bF:=λg h=>by have r3:=Q1.y h À;have l3:=xh.y L1 h À;exact⟨r3.i 0 O,l3.i 8 O⟩
  have S0:=HC w1<|zj.refl _ _;let⟨fb,be⟩:=JP<|(83::(nb num 4++nb (k.bF+1) 4));have h2:=be;have KF:∀g:Zy,aq 222 #[J num,J (k.bF+1:Q)] g (E fb):=λg=>by rw[<-be];exact XR num (k.bF+1) g
  go_region_held2 (λw'=>N w' (K (V<|Z w) 0)=J num/\N w' (K b 8)=J k.bF) (first|exact S0|exact S1|exact S2)
   (first
    |(go_at_call 207;refine(wH (w:=w1.drew) C1.W 9 9 O h9).mono ?_;rintro e hd⟨rfl,l,bd⟩;have ho:H (zj (·=V (Z w)+1) w1 hd):=⟨l.os,l.cX,l.aD,l.dP⟩;have v':=bd;have S1:=HC hd ho.o;clear l bd)
    |(go_at_call 222;refine(KF _).mono ?_;rintro e g⟨rfl,cs⟩;have X:=cs;have c:=ho.o.aE<|zj.J cs;have S2:=HC g c;clear cs)
    |(go_at_call 152;refine(Eh _ _<|G1.y c À).mono ?_;rintro e w4⟨bl,bu⟩;obtain rfl:=bl.symm;obtain⟨rfl,z⟩|⟨rfl,z⟩:=bu;rotate_left;(exact⟨O,Jl (ZQ h9<|by rw[h2];intro hh;have:=z.o;grind)<|A1.cZ (r:=V (Z w)+1) À c⟩)))
  have es:H<|x.take 9=fb:=by have:=z.o;rw[zQ,xl,xl]at this;exact this
  have B:H (mX k L num x=match ms k L (x.drop 9)with
   |some (k',L',r)=>Vd k' L' num (T x) (if T r=T x-9 then 0 else T x-T r)
   |none=>R):=ZS h9<|es.o.trans h2.symm
  have Q3:=Q1.y c À;have C3:=v'.ac X;have L3:Jh g b k:=xh.y L1 c À;have G3:=G1.y c À;have A3:=A1.cZ (r:=V (Z w)+1) À c;have M3:=M1.y c À;have T3:=T1.y c À;clear HC KF S0 z c ho X v' Q1 C1 L1 G1 A1 M1 T1 es h2;clear S1;clear S2;try clear hHeld
  have bo:T (x.drop 9)=T x-9:=Â
  let⟨x9,h3⟩:=JP<|x.drop 9;rw[h3]at B C3 bo;clear h3;go_wp2;go_loopw [4] (λv wr=>∃(q:Lk) (u:KV) (r:Zl) (i:Q),v=J i/\q.ok/\q.mp=k.mp/\T r<=T x9/\i=(if T r=T x9 then 0 else T x-T r)/\ms k L x9=ms q u r/\xh wr (V (Z w)+1) #[E r] 277/\xh wr (V<|Z w) (W8 num x) 289/\Jh wr b q/\ip tv wr/\zj (λy=>y=b\/y=k.mp) w wr/\Je wr k.mp u/\iN wr) (λ_ wr=>qP (V (Z w)+1) wr);grind;obtain⟨q,u,r,i,rfl,bh,bi,cd,bm,G,hC,hQ,hL,hG,hA,hM,hT⟩:=hrel;have bb:=xe bm;have j:=G;have ba:=bh;have g':=bi;have Ct:=hC;have Qt:=hQ;have Lt:=hL;have h1:=hG;have At:=hA;have F:=hM;have Tt:=hT;have HZ:=FN hC;have c0:N wr (K (V (Z w)+1) 0)=E r:=hC.i 0 O;clear bm G bh bi hC hQ hL hG hA hM hT Q3 C3 L3 G3 A3 M3 T3;go_wp2;refine(zwm r _).mono ?_;rintro e t⟨rfl,C⟩;have cf:=zm bk (At.aE<|C.U λ_ h=>h.elim).aD;have C5:=Ct.y C id;have Q5:=Qt.y C id;have L5:Jh t b q:=xh.y Lt C id;have G5:=h1.y C id;have A5:=At.aE<|C.U λ_ h=>h.elim;have M5:=F.y C id;have T5:=Tt.y C id;clear C Ct Qt Lt h1 At F Tt c0;by_cases m:J5 r=M
  ·rw[m];have f:=m;clear m;go_wp2;refine(xkn (V (Z w)+1) r f _ C5).mono ?_;rintro e w6⟨rfl,P,k6⟩;have C6:=k6;have Q6:=Q5.y P À;have L6:Jh w6 b q:=xh.y L5 P À;have G6:=G5.y P À;have A6:=A5.cZ (r:=V (Z w)+1) À P;have M6:=M5.y P À;have T6:=T5.y P À;have bv:=zm bk A6.aD;clear P k6 C5 Q5 L5 G5 A5 M5 T5;go_wp2;refine(jfa (tv:=tv) b q ba u r f _ bv bs bt À À À L6 Á T6 G6).mono ?_;intro e w7 hp;unfold CO at hp;cases hra:Jv q u r with
   |none=>
    rw[hra]at hp;obtain⟨rfl,s⟩:=hp;rw[g']at s;exact⟨O,Jl (by rw[B.o,j,ZI f hra])<|A6.aE s⟩
   |some qq=>
    obtain⟨q2,L2⟩:=qq;rw[hra]at hp;obtain⟨rfl,s,l7,m7⟩:=hp;rw[g']at s m7;obtain⟨bf,bg,_⟩:=ZM hra f ba;have b2:=Wt f;have D:H<|ms k L x9=ms q2 L2 (r.drop<|42+jX r):=by show _=_;rw[j];exact ZH f hra
    have d:H<|T (r.drop<|42+jX r)=T r-(42+jX r):=by show _=_;simp
    let⟨r2,bj⟩:=JP<|r.drop (42+jX r);rw[bj]at D C6 d;clear bj;have C7:=C6.y s À;have Q7:=Q6.y s À;have L7:=l7;have G7:=G6.y s À;have A7:=A6.aE s;have M7:=m7;have T7:=T6.y s À;have bp:=bf;have bq:=bg.trans g';have br:=FN C7;have z1:N w7 (K (V<|Z w) 1)=E x:=Q7.i 1 O;have z2:N w7 (K (V (Z w)+1) 0)=E r2:=C7.i 0 O;have b3:T r2<=T x:=zbj
    let⟨wn,bn⟩:=JP<|T x-T r2;have b9:=bn;have zz:IntKind.i64.wrap ((T x:U)-(T r2:U))=(wn:U):=Ï
    clear bn;clear s l7 m7 hra bf bg C6 Q6 L6 G6 A6 M6 T6 j;go_wp2;go_roundw;exact⟨q2,L2,r2,wn,O,bp,bq,zbj,by rw[aL zbj];omega,D.o,C7,Q7,L7,G7,A7,M7,T7⟩;rw[HZ,br];have:=d.o;omega
  have n:J5 r=ao:=by simpa using m
  rw[n];have a:H<|mX k L num x=Vd q u num (T x) i:=by show _=_;rw[B.o,j,ZJ n,bb.o,bo]
  have Qt:=Q5;have Lt:=L5;have h1:=G5;have At:=A5;have F:=M5;clear bb j B C5 Q5 L5 G5 A5 M5 T5 m n HZ;have t1:N t (K (V<|Z w) 1)=E x:=Qt.i 1 O;have t0:N t (K (V<|Z w) 0)=J num:=Qt.i 0 O;have bw:N t (K b 12)=J q.aQ:=xh.i Lt 12 O;have bx:N t (K b 15)=bG q.cQ:=xh.i Lt 15 O;have bz:N t (K b 16)=J q.cY:=xh.i Lt 16 O;have b0:=xh.dS Lt 15;have b1:=xh.dS Lt 16;by_cases p:i<T x
  ·have i1:(i:U)<(T x:U):=À;go_wp2;go_still_tail 7,Ä;go_wp2;by_cases o:(num:U)=q.aQ
   ·refine(Yt _ Á _).mono ?_;rintro e hd⟨rfl,rfl⟩;have LE:Jh (ay (ay t (K b 15)<|bG M) (K b 16)<|J i).drew b {q with cQ:=M,cY:=i}:=((xh.H Lt 15<|bG M).H 16<|J i).W;have W:zj (λy=>y=b) t (ay (ay t (K b 15)<|bG M) (K b 16)<|J i).drew:=((zj.H t (K b 15)<|bG M).aE<|zj.H _ (K b 16)<|J i).W;have A:H<|mX k L num x=Y ({q with cQ:=M,cY:=i},u):=by show _=_;rw[a.o];unfold Vd;rw[aT p,aT o];try rfl
    clear o;go_wp2;go_end0;exact zcg
   refine(Jw _ Á _ h1.W).mono ?_;exact zc6
  have i1:¬(i:U)<(T x:U):=À
  have A:H<|mX k L num x=Y (q,u):=zct
  go_wp2;go_end0;exact FW A.o At Lt F
 have j9:¬(9:U)<=(T x:U):=À
 have a:H<|mX k L num x=Vd k L num (T x) 0:=ZR h9;have Qt:xh (aF w<|au #[J num,E x] 289) (V<|Z w) (W8 num x) 289:=Q0;have Lt:Jh (aF w<|au #[J num,E x] 289) b k:=L0;have h1:ip tv<|aF w<|au #[J num,E x] 289:=G0;have At:zj (λy=>y=b\/y=k.mp) w<|aF w<|au #[J num,E x] 289:=A0;have F:Je (aF w<|au #[J num,E x] 289) k.mp L:=M0;have b4:N w (K b 12)=J k.aQ:=xh.i I 12 O;have b5:N w (K b 15)=bG k.cQ:=xh.i I 15 O;have b6:N w (K b 16)=J k.cY:=xh.i I 16 O;have b7:=xh.dS I 15;have b8:=xh.dS I 16;clear Q0 L0 G0 A0 M0 T0 I HT HG HS;have cg:(T x:U)<9:=À
 have t1:N (aF w<|au #[J num,E x] 289) (K (V<|Z w) 1)=E x:=Qt.i 1 O;have t0:N (aF w<|au #[J num,E x] 289) (K (V<|Z w) 0)=J num:=Qt.i 0 O;have bw:N (aF w<|au #[J num,E x] 289) (K b 12)=J k.aQ:=xh.i Lt 12 O;have bx:N (aF w<|au #[J num,E x] 289) (K b 15)=bG k.cQ:=xh.i Lt 15 O;have bz:N (aF w<|au #[J num,E x] 289) (K b 16)=J k.cY:=xh.i Lt 16 O;have b0:=xh.dS Lt 15;have b1:=xh.dS Lt 16;by_cases p:0<T x
 ·have i1:0<(T x:U):=À;go_wp2;generalize(aF w<|au #[J num,E x] 289)=wq at*;go_still_tail 7,Ä;go_wp2;by_cases o:(num:U)=k.aQ
  ·refine(Yt _ Á _).mono ?_;rintro e hd⟨rfl,rfl⟩;have LE:Jh (ay (ay wq (K b 15)<|bG M) (K b 16)<|J 0).drew b {k with cQ:=M,cY:=0}:=((xh.H Lt 15<|bG M).H 16<|J 0).W;have W:zj (λy=>y=b) wq (ay (ay wq (K b 15)<|bG M) (K b 16)<|J 0).drew:=((zj.H wq (K b 15)<|bG M).aE<|zj.H _ (K b 16)<|J 0).W;have A:H<|mX k L num x=Y ({k with cQ:=M,cY:=0},L):=by show _=_;rw[a.o];unfold Vd;rw[aT p,aT o];rfl
   clear o;go_wp2;go_end0;exact zcg
  refine(Jw _ Á _ h1.W).mono ?_;exact zc6
 have i1:¬0<(T x:U):=À
 have A:H<|mX k L num x=Y (k,L):=zct
 go_wp2;go_end0;exact FW A.o At Lt F
end
section
variable{S:Exit→mh→Zy→Prop}{s x:Operand}{zq:mh→Zy→Prop}{ops:bE eX}{o:eX}{a:mh}{cs:Za}
structure El(t e k:Q):Prop where
 Bf:prog.underlying t=Y (.slice e)
 FY:∃i z,prog.info? e=Y i/\i.zero=Y z/\i.size=k/\i.bytes<=100/\V z.cells=k
 iE:0<k
def El.Be{t e b z}(h:prog.underlying t=Y (.slice e))(c:(prog.info? e).map (λi=>(i.zero,i.size,i.bytes))=Y (Y z,k,b))(a:b<=100)(d:V z.cells=k)(hk:0<k):El t e k:=by refine⟨h,?_,hk⟩;cases y:prog.info? e<;>grind
def LQ:El 80 200 2:= .Be ((eZ 80).trans Tryz.underlying80) (z:=bY #[ak ⟨#[]⟩,ak ⟨#[]⟩]) (b:=32) Ä Ã O Ã
def CT:El 79 123 3:= .Be ((eZ 79).trans Tryz.underlying79) (z:=bY #[J 0,ak ⟨#[]⟩,J 0]) (b:=32) Ä Ã O Ã
def PW:El 81 197 3:= .Be ((eZ 81).trans Tryz.underlying81) (z:=bY #[bG ao,ak ⟨#[]⟩,ak ⟨#[]⟩]) (b:=40) Ä Ã O Ã
def zj.ib{S p}(h:zj S w0 w)(k:zj p w w')(c:∀y,p y->V (Z w0)<=y):zj S w0 w':=
 ⟨k.os.trans h.os,k.cX.trans h.cX,xa h.aD k.aD,λi a b=>(k.dP i (zm a h.aD) λe=>Á).trans<|h.dP i a b⟩
structure ff{X:Type}(w0 w:Zy)(e k:Q)(f:X->Ze)(v:Zv)(l:bA X):Prop where
 nw:Nw w0 w
 cN:w.ownsRow (V<|Z w0) e k v (T l)<|l.flatMap f
 nl:l=[]->v=aB R 0 0
section
variable{D w w':dN}{f:X->bA eJ}{v:eJ}{l:bA X}
theorem ff.nil(D):ff D D e k f (aB R 0 0) []:=⟨zj.refl _ _,jk _ _ _ _,λ_=>O⟩
def ff.ib(h:ff D w e k f v l)(c:Nw w w'):ff D w' e k f v l:=by refine⟨h.nw.aE c,⟨h.cN.1,?_⟩,h.nl⟩;obtain e|⟨g,a,b,j,i,d,r⟩:=h.cN.2;grind;exact ac ⟨g,a,b,j,i,(c.dP g (za.1 d).1 id).trans d,r⟩
theorem ff.bM(h:ff w1 w e k f v l)(c:Nw D w1):ff D w e k f v l:=by refine⟨c.aE h.nw,⟨h.cN.1,?_⟩,h.nl⟩;obtain e|⟨g,a,b,i,d,r⟩:=h.cN.2;grind;exact ac ⟨g,a,b,i,xa c.aD d,r⟩
def ff.dL(h:ff D w e k f v l):∃a cap,v=aB a (T l) cap:=by obtain⟨e,c⟩|⟨g,cap,b,d,_⟩:=h.cN.2<;>grind
def ff.rw(h:ff D w e k f v l):Rw w e k f v l:=⟨h.cN.1,h.cN.2.imp id λ⟨g,a,b,c,_,r⟩=>⟨g,a,b,c,Zz _,r⟩⟩
theorem ff.ex(h:ff D w e k f v l)(g)(a:v.ownBlock=Y g):V (Z D)<=g:=(h.cN.lt g a).1
def LU{d G:Q}(P:El t e k)(b:X)(h:W.ownsRow d e k v (T l)<|l.flatMap f)(hd:d<=V (Z W))(h1:T l<=1000000000000)(r:xh W B cs G)(w:f b=eV cs)(hk:T (f b)=k)(n:∀u∈f b,u.oneCell'=M)
  (F:a.eval s=v)(hx:a.eval x=aB (Y ⟨B,0,R⟩) 1 1)(ho:o.op= .call {callee:= .builtin .append,args:=#[s,x],argTypes:=#[t,t]})
  (A:∀g cap w',w'.ownsRow d e k (aB (Y ⟨g,0,R⟩) (T l+1) cap) (T (l++[b])) ((l++[b]).flatMap f)->zj (λy=>v.ownBlock=Y y) W w'->(v.ownBlock=Y g\/g=V (Z W))->zq (a.put o.dst<|aB (Y ⟨g,0,R⟩) (T l+1) cap) w'):o.wp prog a W zq S:=by
 let⟨i,z,hi,hz,hs1,hb,hzs⟩:=P.FY;refine wp_append_lies _ s x t ho d e i z k i.bytes P.Bf hi hz hs1 O hzs P.iE v (T l) _ F h (K B 0) 1 1 (f b) hx À ?_ n Ã è ?_ hd _ O ?_;intro j u m;rw[w]at m;exact gX r j u m;have:(T l+1)*i.bytes<=1000000000001*100:=GP À hb;omega;intro g cap w' I c p _;refine A g cap w' ?_ ⟨c.os,c.output,c.size,λq D C=>c.block q D λe=>C e.symm⟩ p;grind
def ff.jK{rest:bA eX}(F:El t e k)(b:X)(h:ff D w e k f v l)(p:T l<=1000000000000)(n:f b=eV cs)(hk:T (f b)=k)(d:∀u∈f b,u.oneCell'=M)
  (q:a.eval s=v)(hx:a.eval x=aB (Y ⟨V<|Z w,0,R⟩) 1 1)(c:o.guard=R)(ho:o.op= .call {callee:= .builtin .append,args:=#[s,x],argTypes:=#[t,t]})
  (zq:∀g cap w',ff D w' e k f (aB (Y ⟨g,0,R⟩) (T l+1) cap) (l++[b])->wpList prog ops S rest (a.put o.dst<|aB (Y ⟨g,0,R⟩) (T l+1) cap) w'):wpList prog ops S (o::rest) a<|aF w<|au cs e:=
 DP c λ_ m=>LU F b (h.cN.alloc _) (xa h.nw.aD Â) p (xh.ex w cs e) n hk d q hx ho λg cap w' i j _=>m _ _<|zq g cap w' ⟨(h.nw.aE<|zj.E _).ib j λy r=>(h.cN.lt y r).1,i,λe=>oz⟩
def Rw.rX{p:Q}(F:El t e k)(b:X)(h:Rw W e k f v l)(m:T l<=1000000000000)(d:xh W B cs p)(i:f b=eV cs)(hk:T (f b)=k)(c:∀u∈f b,u.oneCell'=M)
  (n:a.eval s=v)(hx:a.eval x=aB (Y ⟨B,0,R⟩) 1 1)(j:o.guard=R)(ho:o.op= .call {callee:= .builtin .append,args:=#[s,x],argTypes:=#[t,t]})
  (G:∀g cap w',Rw w' e k f (aB (Y ⟨g,0,R⟩) (T l+1) cap) (l++[b])->zj (λy=>v.ownBlock=Y y) W w'->(v.ownBlock=Y g\/g=V (Z W))->zq (a.put o.dst<|aB (Y ⟨g,0,R⟩) (T l+1) cap) w'):
  if bP o (fN ops a.tmps)=M then o.wp prog a W zq S else aw:=by
 rw[aT za8];exact LU F b h (Zz _) m d i hk c n hx ho G
def ff.rX{w:Q}(F:El t e k)(b:X)(h:ff D W e k f v l)(p:T l<=1000000000000)(j:xh W B cs w)(m:f b=eV cs)(hk:T (f b)=k)(c:∀u∈f b,u.oneCell'=M)
  (q:a.eval s=v)(hx:a.eval x=aB (Y ⟨B,0,R⟩) 1 1)(n:o.guard=R)(ho:o.op= .call {callee:= .builtin .append,args:=#[s,x],argTypes:=#[t,t]})
  (G:∀g cap w',ff D w' e k f (aB (Y ⟨g,0,R⟩) (T l+1) cap) (l++[b])->zq (a.put o.dst<|aB (Y ⟨g,0,R⟩) (T l+1) cap) w'):
  if bP o (fN ops a.tmps)=M then o.wp prog a W zq S else aw:=by
 rw[aT za8];exact LU F b h.cN h.nw.aD p j m hk c q hx ho λg cap w' d i _=>G g cap w' ⟨h.nw.ib i λy r=>(h.cN.lt y r).1,d,λe=>oz⟩
end
end
section
attribute[local go_sem] zn zg
def uD(c:Vk)(s:ez×KV)(q:Zl×Zl):ez×KV:=
 ((s.1||decide (cK c<=q.1)),(s.2++if s.1=ao/\cK c<=q.1 then [(cK c,cV c)]else [])++if q.1=cK c then []else [q])
def tG(l:KV)(c:Vk):ez×KV:=l.foldl (uD c) (cG c,[])
def yD(l:KV)(c:Vk):KV:=(tG l c).2++if(tG l c).1=ao then [(cK c,cV c)]else []
def xjz(l:KV)(c j)(h:j<T l):tG (l.take<|j+1) c=uD c (tG (l.take j) c) l[j]:=by grind [tG,zp]
theorem xoh(l:KV)(c):∀s:ez×KV,T (l.foldl (uD c) s).2<=T s.2+2*T l:=by induction l with|nil=>grind|cons q l I=>grind [uD]
def xtj(a b):(Op.bytesLess (st a).toList (st b).toList||(st a).toList==(st b).toList)=bR (a<=b):=by grind [xl,bytesLess_eq]
def ZY(l hx c)(hl:T l<=300000000000)(w)(h:Rw w 200 2 kT hx l):
  aK prog 181 #[hx,bY (bH (t6 c))] w λe w'=>∃v,e=ai v/\ff w w' 200 2 kT v (yD l c):=by
 obtain⟨a,ba,rfl⟩:=h.dL;have S:Nw w<|aF w<|au #[bG<|cG c,E<|cK c,E<|cV c] 197:=zj.E _;have X0:xh (aF w<|au #[bG<|cG c,E<|cK c,E<|cV c] 197) (V<|Z w) #[bG<|cG c,E<|cK c,E<|cV c] 197:=xh.ex _ _ _;have u:H<|yD l c=(tG l c).2++if(tG l c).1=ao then [(cK c,cV c)]else []:=O;have m:∀j,T (tG (l.take j) c).2<=600000000000:=λj=>by grind [xoh,tG]
 unfold t6;go_enter func181.1,Tryz.ntmps181;go_wp2;generalize aF w (au #[bG<|cG c,E<|cK c,E<|cV c] 197)=w1 at*;go_loopw [5,6,7] (λv d i wr=>∃j:Q,j<=T l/\i=J j/\d=bG (tG (l.take j) c).1/\ff w1 wr 200 2 kT v (tG (l.take j) c).2) (λ_ _ i _=>bL (T l-bZ i));exact⟨0,À,O,O,ff.nil _⟩;obtain⟨j,hj,rfl,rfl,I⟩:=hrel;replace m:=m j;by_cases ho:j<T l
 ·have i1:(j:U)<(T l:Q):=À;obtain⟨g,rfl,cs⟩:=h.lp (λ_=>O) ho O;have F:∀w',Nw w1 w'->N w' (K (V<|Z w) 1)=(E<|cK c)/\N w' (K (V<|Z w) 2)=(E<|cV c)/\N w' (K g<|j*2)=(ak<|st l[j].1)/\N w' (K g<|j*2+1)=(ak<|st l[j].2):=λw' P=>⟨P.i id<|X0.i 1 O,P.i id<|X0.i 2 O,(S.aE P).i id<|cs 0 À,(S.aE P).i id<|cs 1 À⟩;have L:H<|tG (l.take<|j+1) c=uD c (tG (l.take j) c) l[j]:=xjz l c j ho;obtain⟨⟨k,aw⟩,g'⟩:∃q,l[j]=q:=⟨_,O⟩;rw[g']at F L;obtain⟨⟨C,out⟩,B⟩:∃s,tG (l.take j) c=s:=⟨_,O⟩;rw[B]at L I m⊢;simp only at F I m⊢;have n:=I;have hd:=xtj (cK c) k;have G:((st k).toList==(st<|cK c).toList)=bR (k=cK c):=by rw[xl,xl];by_cases h:k=cK c<;>simp[h]
  by_cases f:C=ao/\cK c<=k;focus
   obtain⟨rfl,X⟩:=f;rw[jm X]at hd;have b:H<|uD c (ao,out) (k,aw)=(M,(out++[(cK c,cV c)])++if k=cK c then []else [(k,aw)]):=by show _=_;simp[uD,X]
   have r:=F _ n.nw;go_wp2;go_quiet (fail);have D:ff w1 (wr.drewN nq) 200 2 kT _ out:=n.ib (zj.refl _ _).eL;generalize wr.drewN nq=w2 at*;clear r n hd;have r:=F _ D.nw;go_wp2_with (refine ff.jK LQ (cK c,cV c) D À O O zw O O O O ?_);intro g3 v' W h1;have y:=h1;have h1:T (out++[(cK c,cV c)])<=600000000001:=Ç
   generalize out++[(cK c,cV c)]=A at*;generalize aB (Y ⟨g3,0,R⟩) (T out+1) v'=v3 at*;clear r D
  rotate_left;focus
   have b:H<|uD c (C,out) (k,aw)=(C,out++if k=cK c then []else [(k,aw)]):=by show _=_;unfold uD;rw[aL f];cases C<;>simp at f⊢;exact f
   have o:C=ao->(Op.bytesLess (st<|cK c).toList (st k).toList||(st<|cK c).toList==(st k).toList)=ao:=λe=>Á
   have r:=F _ n.nw;obtain⟨A,rfl⟩:∃x,x=out:=⟨_,O⟩;have h1:T A<=600000000001:=À
   clear f hd;cases C;all_goals
    try replace o:=o O
    go_wp2;go_quiet (fail);have y:ff w1 (wr.drewN nq) 200 2 kT _ A:=n.ib (zj.refl _ _).eL;generalize wr.drewN nq=W at*;clear r n o
  all_goals
   by_cases t:k=cK c;all_goals
    first|rw[jm t]at G|rw[jo t]at G
    first|rw[aT t]at b|rw[aL t]at b
    have r:=F _ y.nw;go_wp2;go_quiet (fail);have z:ff w1 (W.drewN nq) 200 2 kT _ A:=y.ib (zj.refl _ _).eL;generalize W.drewN nq=w5 at*;clear r y G t
   focus
    rw[Xz]at b;go_wp2;go_roundw;exact⟨j+1,À,Å,by rw[L.o,b.o],by rw[L.o,b.o];exact z⟩;exact Ì
   have r:=F _ z.nw;go_wp2_with (refine ff.jK LQ (k,aw) z À O O zw O O O O ?_);intro g6 es w6 p;have h2:=p;clear p r z;go_wp2;go_roundw;exact⟨j+1,À,Å,by rw[L.o,b.o],by rw[L.o,b.o];exact h2⟩;exact Ì
 obtain rfl:j=T l:=À
 have i1:¬(T l:U)<(T l:Q):=À
 rw[jz]at*;obtain⟨⟨C,out⟩,B⟩:∃s,tG l c=s:=⟨_,O⟩;rw[B]at I m u⊢;simp only at I m u⊢;have n:=I;clear B I;have r:=X0.y n.nw id;cases C with
 |true=>rw[aL Â,Xz]at u;go_wp2;go_ret;exact⟨_,O,by rw[u.o];exact n.bM S⟩
 |false=>rw[aT O]at u;have r1:=r.i (v:=ak _) 1 O;have r2:=r.i (v:=ak _) 2 O;go_wp2_with (refine ff.jK LQ (cK c,cV c) n À O O zw O O O O ?_);intro g6 es w6 p;have h2:=p;clear p r1 r2 n;go_wp2;go_ret;exact⟨_,O,by rw[u.o];exact h2.bM S⟩
def tE(l:KV)(D:bA Vk):KV:=D.foldl yD l
def ZT(c):∀(l:KV) (s:ez×KV),T (l.foldl (uD c) s).2+(!(l.foldl (uD c) s).1).toNat<=T s.2+T l+(!s.1).toNat
 |[],s=>by simp|q::l,s=>by have a:=ZT c l<|uD c s q;grind [uD]
theorem xoi(l c):T (yD l c)<=T l+1:=by have h:=ZT c l (cG c,[]);grind [Bool.toNat_le,yD,tG]
def P6(D):∀l:KV,T (tE l D)<=T l+T D:=by induction D with|nil=>intro l;simp[tE]|cons c D I=>grind [xoi,tE]
def Rf.hU(f:Rf):KV:=tE f.L f.P
def P9(C f w)(h:Ju w C f)(I:T f.L<=200000000000)(G:T f.P<=20):aK prog 120 #[aU<|some ⟨C,0,R⟩] w λe w'=>∃v,e=ai v/\Nw w w'/\Rw w' 200 2 kT v f.hU/\∀g,v.ownBlock=Y g->f.sv.ownBlock=Y g\/V (Z w)<=g:=by
 let⟨a,cap,hv⟩:=h.ps.dL;have r:=h;have s:=hv;have p:N w ⟨C,12,R⟩=Y f.sv:=h.bT.i 12 O;have t:=P6;let⟨a12,cap12,A⟩:=h.ss.dL;have b:=A;rw[A]at p;go_enter func120.1,Tryz.ntmps120;go_wp2;go_loopw [3,4] (λv i wr=>∃j:Q,j<=T f.P/\i=aD bB j/\Nw w wr/\Rw wr 200 2 kT v (tE f.L<|f.P.take j)/\∀g,v.ownBlock=Y g->f.sv.ownBlock=Y g\/V (Z w)<=g) (λ_ i _=>bL (T f.P-bZ i));exact⟨0,À,O,zj.refl _ _,by rw[<-b];exact r.ss,λg d=>aJ (by rw[b];exact d)⟩;obtain⟨j,u,rfl,x,D,d⟩:=hrel;have m:=x;have o:=D;have q:=Ju.y r x;have c13:N wr ⟨C,13,R⟩=aB a (T f.P) cap:=s▸q.bT.i 13 O;by_cases k:j<T f.P
 ·obtain⟨g,rfl,l⟩:=q.ps.lp (λ_=>O) k s;have e0:N wr ⟨g,j*3,R⟩=(bG<|cG f.P[j]):=l 0 À;have S:N wr ⟨g,j*3+1,R⟩=(ak<|st<|cK f.P[j]):=l 1 À;have F:N wr ⟨g,j*3+2,R⟩=(ak<|st<|cV f.P[j]):=l 2 À;have y:H<|tE f.L (f.P.take<|j+1)=yD (tE f.L<|f.P.take j) f.P[j]:=by show _=_;unfold tE;rw[zp k,Kw];rfl
  have B:=t (f.P.take j) f.L;rw[xf]at B;clear l t;generalize f.P[j]=c at*;generalize tE f.L _=L1 at*;go_wp2;apply(ZY L1 _ c À _ o).mono;rintro e w1⟨P,rfl,z⟩;have n:=z;go_wp2;go_roundw;exact⟨j+1,À,Å,m.aE n.nw,by rw[y.o];exact n.rw,λg d=>ac (xa m.aD<|n.ex g d)⟩;exact Ì
 obtain rfl:j=T f.P:=À
 rw[jz]at o;go_wp2;go_ret;exact⟨_,O,m,o,d⟩
def zj.fV{S}(h:zj S w w'):zj S w<|w'.drewN n:=⟨h.os,h.cX,h.aD,h.dP⟩
def ip.fV(h:ip tv w):ip tv<|w.drewN n:=h
def rp(k:Lk):Prop:=((k.bF:U)=k.tc/\k.dX=k.bQ)\/((k.bF:U)=k.tc+1/\k.fD=k.bQ)
def ztr(b k w)(f:Jh w b k)(C:0<=k.tc)(D:k.tc<=1000000000000)(s:ip tv w):aK prog 137 #[zq b] w λe w'=>zj (λ_=>False) w w'/\((e=ai (cE #[])/\H (rp k))\/(e=kn tv/\H (¬rp k))):=by
 have j:=s;have v:N w (K b 1)=J k.tc:=f.i 1 O;have y:N w (K b 2)=E k.bQ:=f.i 2 O;have z:N w (K b 8)=J k.bF:=f.i 8 O;have B:N w (K b 9)=E k.dX:=f.i 9 O;have q:N w (K b 10)=E k.fD:=f.i 10 O;have d:H<|rp k↔(((k.bF:U)=k.tc/\k.dX=k.bQ)\/((k.bF:U)=k.tc+1/\k.fD=k.bQ)):=Iff.rfl;have t:IntKind.i64.wrap (k.tc+1)=k.tc+1:=by simp[fS,fT,fi];omega
 generalize(k.bF:U)=u at*;generalize k.tc=S at*;go_enter func137.1,Tryz.ntmps137;by_cases h:u=S
 ·subst h;have p:¬u=u+1:=À;by_cases i:k.dX=k.bQ
  ·have a:=d.o.2 (aJ ⟨O,i⟩);have c:((st k.dX).toList==(st k.bQ).toList)=M:=by rw[i];exact beq_self_eq_true _
   go_wp2;go_quiet (fail);go_wp2;go_quiet (fail);go_wp2;refine(Yt _ Ò _).mono ?_;rintro e w1⟨rfl,rfl⟩;go_wp2;go_end0;exact⟨(zj.refl _ _).fV,aJ ⟨O,a⟩⟩
  have a:¬rp k:=λg=>by obtain⟨_,x⟩|⟨x,_⟩:=d.o.1 g;exact i x;omega
  have l:¬(st k.dX).toList=(st k.bQ).toList:=by rw[xl,xl];exact i
  have c:((st k.dX).toList==(st k.bQ).toList)=ao:=by rw[jf];exact l
  go_wp2;go_quiet (fail);go_wp2;go_quiet (fail);go_wp2;refine(Jw _ Ò _<|j.fV (n:=_)).mono ?_;exact zai
 have r:bR (u=S)=ao:=ta
 by_cases p:u=S+1
 ·subst p;by_cases m:k.fD=k.bQ
  ·have a:=d.o.2 (ac ⟨O,m⟩);have c:((st k.fD).toList==(st k.bQ).toList)=M:=by rw[m];exact beq_self_eq_true _
   go_wp2;go_quiet (fail);go_wp2;go_quiet (fail);go_wp2;refine(Yt _ Ò _).mono ?_;rintro e w1⟨rfl,rfl⟩;go_wp2;go_end0;exact⟨(zj.refl _ _).fV,aJ ⟨O,a⟩⟩
  have a:¬rp k:=λg=>by obtain⟨x,_⟩|⟨_,x⟩:=d.o.1 g;exact h x;grind
  have o:¬(st k.fD).toList=(st k.bQ).toList:=by rw[xl,xl];exact m
  have c:((st k.fD).toList==(st k.bQ).toList)=ao:=by rw[jf];exact o
  go_wp2;go_quiet (fail);go_wp2;go_quiet (fail);go_wp2;refine(Jw _ Ò _<|j.fV (n:=_)).mono ?_;exact zai
 have a:¬rp k:=λg=>by obtain⟨x,_⟩|⟨x,_⟩:=d.o.1 g;exact h x;omega
 go_wp2;go_quiet (fail);go_wp2;go_quiet (fail);go_wp2;refine(Jw _ Ò _<|j.fV (n:=_)).mono ?_;exact zai
def Ej(k:Lk)(n:U):ez:=bR (n=0)||(bR (n=k.gR)||(bR (k.bM<n)&&bR (n<=k.aQ)))
def xcl(b k n w)(a:Jh w b k):aG 140 #[zq b,J n] w (bG<|Ej k n):=by
 have d:N w (K b 11)=J k.bM:=a.i 11 O;have f:N w (K b 12)=J k.aQ:=a.i 12 O;have g:N w (K b 14)=J k.gR:=a.i 14 O;have c:H<|∀n,Ej k n=(bR _||(bR _||(bR _&&bR _))):=λ_=>O;generalize k.bM=y at*;generalize k.aQ=p at*;generalize k.gR=S at*;go_enter func140.1,Tryz.ntmps140;by_cases h:y<n<;>by_cases i:n<=p<;>by_cases j:n=0<;>by_cases l:n=S
 all_goals
  go_wp2;go_ret;refine⟨?_,O⟩;rw[c.o];refine gv ai<|congrArg bG ?_;grind
def Rf.cN(C:Q)(f:Rf)(x:Q):Prop:=x=C\/f.fv.ownBlock=Y x\/f.sv.ownBlock=Y x\/f.pv.ownBlock=Y x
structure Xf(C:Q)(f:Rf)(w:Zy)(F:Rf)(w':Zy):Prop where
 y:zj (f.cN C) w w'
 dI:Ju w' C F
 cN:∀x,F.cN C x->f.cN C x\/V (Z w)<=x
theorem Xf.refl{f}(h:Ju w C f):Xf C f w f w:=⟨zj.refl _ _,h,λ_=>aJ⟩
def Rw.ir{g}{l:bA X}{y}{t:Zt}(h:Rw w e k g v l)(i:xh w C y t)(m:t≠e):∀x,v.ownBlock=Y x->¬x=C:=by rintro x a rfl;obtain⟨e,_⟩|⟨b,c,d,f,_,j,_⟩:=h.2;rw[e]at a;cases a;rw[f]at a;cases a;grind [xh]
def Rw.fh{u:Type}{y k' f F p}{l:bA X}{o:bA u}(h:Rw w e k f v l)(d:Rw w y k' F p o)(g:e≠y){x}(hx:v.ownBlock=Y x):¬p.ownBlock=Y x:=by intro m;obtain⟨q,_⟩|⟨b,a,c,j,_,i,_⟩:=h.2;rw[q]at hx;cases hx;rw[j]at hx;cases hx;exact d.ir i g b m O
theorem Xf.H{f f':Rf}(h:Ju w C f)(i:Q)(v:Zv)(j:f'.G=aA f.G i v)(c:f'.F=f.F)(e:f'.L=f.L)(g:f'.P=f.P)(a:f'.fv=f.fv/\f'.sv=f.sv/\f'.pv=f.pv:=by exact⟨rfl,rfl,rfl⟩):Xf C f w f'<|ay w (K C i) v:=by
 have b:=zj.H w (K C i) v;refine⟨b.U λx d=>aJ d,⟨j▸h.bT.H i v,?_,?_,?_,by rw[c,a.1];exact h.fn⟩,λx d=>aJ ?_⟩;rw[c,a.1];exact h.fs.y b (h.fs.ir h.bT Ã);rw[e,a.2.1];exact h.ss.y b (h.ss.ir h.bT Ã);rw[g,a.2.2];exact h.ps.y b<|h.ps.ir h.bT Ã
 grind [Rf.cN]
def xhx(C f w)(h:Ju w C f):aK prog 124 #[zq C] w λe w'=>e=ai (J (if f.gw then 0 else 5))/\Xf C f w {f with gw:=ao} w':=by
 have a:N w (K C 11)=bG f.gw:=h.bT.i 11 O;have g:=h.bT.dS 11;have b:=h;have d:Xf C f w {f with gw:=ao}<|ay w (K C 11)<|bG ao:=Xf.H b 11 _ O O O O;cases y:f.gw
 ·rw[y]at a;have c:H<|{f with gw:=ao}=f:=by show _=_;rw[<-y]
  go_enter func124.1,Tryz.ntmps124;go_wp2;go_ret;exact⟨O,by rw[c.o];exact .refl b⟩
 rw[y]at a;go_enter func124.1,Tryz.ntmps124;go_wp2;go_ret;exact⟨O,d⟩
theorem Xf.aE{f b F d}(h:Xf C f w b w1)(k:Xf C b w1 F d):Xf C f w F d:=
 ⟨⟨k.y.os.trans h.y.os,k.y.cX.trans h.y.cX,xa h.y.aD k.y.aD,λx a c=>(k.y.dP x (zm a h.y.aD) λe=>(h.cN x e).elim c λ_=>À).trans<|h.y.dP x a c⟩,k.dI,λx a=>(k.cN x a).elim (h.cN x) λq=>ac (xa h.y.aD q)⟩
def Xf.nw{f}(h:Ju w C f)(k:Nw w w'):Xf C f w f w':=⟨k.U λ_=>eT,h.y k,λ_=>aJ⟩
def Xf.iR{f i P}(h:Ju w C f)(n:Nw w W)(r:Rw i 197 3 t6 v P)(b:zj (λy=>f.pv.ownBlock=Y y) W i)(m:∀g,v.ownBlock=Y g->f.pv.ownBlock=Y g\/V (Z w)<=g):Xf C f w {f with pv:=v,P:=P}<|ay i (K C 13) v:=by have p:=h.y n;have c:=p.bT.y b λe=>p.ps.ir p.bT Ã _ e O;have d:=zj.H i (K C 13) v;have k:=p.fs.y b λg j=>p.fs.fh p.ps Ã j;have l:=p.ss.y b λg j=>p.ss.fh p.ps Ã j;refine⟨(n.U λ_=>eT).aE<|(b.U λx a=>ac (ac<|ac a)).aE<|d.U λx a=>aJ a,⟨c.H 13 v,k.y d<|k.ir c Ã,l.y d<|l.ir c Ã,r.y d<|r.ir c Ã,h.fn⟩,λx a=>?_⟩;obtain a|a|a|a:=a;exact aJ<|aJ a;exact aJ<|ac<|aJ a;exact aJ<|ac<|ac<|aJ a;exact(m x a).imp (λe=>ac (ac<|ac e)) id
def xhy(C a t)(h:a<0\/t<0)(w):aG 126 #[zq C,J a,J t] w (J 3):=by
 by_cases b:a<0
 ·clear h;go_enter func126.1,Tryz.ntmps126;go_wp2;go_ret;simp
 have c:t<0:=À
 go_enter func126.1,Tryz.ntmps126;go_wp2;go_ret;simp
def xh0(C f a t)(n:0<=a)(o:0<=t)(w)(h:Ju w C f):aK prog 126 #[zq C,J a,J t] w λe w'=>e=ai (J 0)/\Xf C f w {f with nE:=M,ko:=a,cQ:=t} w':=by have k:=h.bT.dS 4;have l:=h.bT.dS 5;have m:=h.bT.dS 6;have g:N w (K C 4)=bG f.nE:=h.bT.i 4 O;have i:N w (K C 5)=J f.ko:=h.bT.i 5 O;have j:N w (K C 6)=J f.cQ:=h.bT.i 6 O;have b:=Xf.H (f':={f with nE:=M}) h 4 _ O O O O;have c:=b.aE<|Xf.H (f':={f with nE:=M,ko:=a}) b.dI 5 _ O O O O;have d:=c.aE<|Xf.H (f':={f with nE:=M,ko:=a,cQ:=t}) c.dI 6 _ O O O O;go_enter func126.1,Tryz.ntmps126;go_wp2;go_ret;exact⟨O,d⟩
def Rf.eD(f:Rf)(c:Vk)(a:U)(F:Rf):Prop:=
 if f.gw=ao then a=5/\F=f else if(oR (cK c)&&tD (cV c))=ao then a=6/\F=f else if T f.P=20 then a=7/\F=f else a=0/\∃v,F={f with pv:=v,P:=f.P++[c]}
def ZA(C:Q)(f:Rf)(c:Vk)(w:Zy)(e:kH)(w':Zy):Prop:=∃a F,e=ai (J a)/\Xf C f w F w'/\f.eD c a F
theorem xbx(C f c w)(h:Ju w C f)(hP:T f.P<=20):aK prog 118 #[zq C,bY (bH (t6 c))] w<|ZA C f c w:=by
 obtain⟨m,o,A⟩:=h.ps.dL;have j:=A;have a:=h;have d:Nw w<|aF w<|au #[bG<|cG c,E<|cK c,E<|cV c] 197:=zj.E _;have X0:xh (aF w<|au #[bG<|cG c,E<|cK c,E<|cV c] 197) (V<|Z w) #[bG<|cG c,E<|cK c,E<|cV c] 197:=xh.ex _ _ _;have hC:=h.bT.lt;have n:N w (K C 11)=bG f.gw:=h.bT.i 11 O;have c13:N w (K C 13)=aB m (T f.P) o:=A▸h.bT.i 13 O;unfold t6;cases ho:f.gw
 ·rw[ho]at n;have b:f.eD c 5 f:=by show Rf.eD _ _ _ _;unfold Rf.eD;rw[aT ho];exact⟨O,O⟩
  go_enter func118.1,lW;go_wp2;go_ret;exact⟨5,f,O,.nw a d,b⟩
 rw[ho]at n;have k1:(oR (cK c)&&tD (cV c))=bR ((0<T (cK c)/\T (cK c)<=16)/\T (cV c)<=32):=by simp[oR,tD]
 by_cases hk:(0<T (cK c)/\T (cK c)<=16)/\T (cV c)<=32;rotate_left
 ·have b:f.eD c 6 f:=by show Rf.eD _ _ _ _;unfold Rf.eD;rw[aL<|by simp[ho],aT Á];exact⟨O,O⟩
  by_cases z:T (cK c)=0
  ·have B:((T (cK c):U)==0)=M:=by simp[z]
   go_enter func118.1,lW;go_wp2;go_ret;exact⟨6,f,O,.nw a d,b⟩
  have B:((T (cK c):U)==0)=ao:=ê
  by_cases W:(16:U)<(T (cK c):Q)
  ·clear hk z;go_enter func118.1,lW;go_wp2;go_ret;exact⟨6,f,O,.nw a d,b⟩
  have X:(32:U)<(T (cV c):Q):=À
  go_enter func118.1,lW;go_wp2;go_ret;exact⟨6,f,O,.nw a d,b⟩
 have z:((T (cK c):U)==0)=ao:=ê
 have W:¬(16:U)<(T (cK c):Q):=À
 have X:¬(32:U)<(T (cV c):Q):=À
 by_cases s:T f.P=20
 ·have b:f.eD c 7 f:=by show Rf.eD _ _ _ _;unfold Rf.eD;rw[aL<|by simp[ho],aL Á,aT s];exact⟨O,O⟩
  have hx:(20:U)<=(T f.P:Q):=À
  go_enter func118.1,lW;go_wp2;go_ret;exact⟨7,f,O,.nw a d,b⟩
 have b:∀v,f.eD c 0 {f with pv:=v,P:=f.P++[c]}:=λv=>by grind [Rf.eD]
 have hx:¬(20:U)<=(T f.P:Q):=À
 go_enter func118.1,lW;go_wp2;have D:=a.y d;generalize aF w (au #[bG<|cG c,E<|cK c,E<|cV c] 197)=w1 at*;have p:Nw w1 (aF w1<|au #[bG<|cG c,E<|cK c,E<|cV c] 197).drew:=(zj.E _).W;have wr:xh (aF w1<|au #[bG<|cG c,E<|cK c,E<|cV c] 197).drew (V<|Z w1) #[bG<|cG c,E<|cK c,E<|cV c] 197:=xh.ex w1 _ _;have hd:=D.y p;have cs:Rw (aF w1<|au #[bG<|cG c,E<|cK c,E<|cV c] 197).drew 197 3 t6 (aB m (T f.P) o) f.P:=j▸hd.ps;have G:∀k,Nw w1 k->N k (K C 13)=aB m (T f.P) o/\N k (K (V<|Z w) 0)=(bG<|cG c)/\N k (K (V<|Z w) 1)=(E<|cK c)/\N k (K (V<|Z w) 2)=(E<|cV c):=λk h=>⟨j▸(D.y h).bT.i 13 O,(X0.y h id).i 0 O,(X0.y h id).i 1 O,(X0.y h id).i 2 O⟩;have h3:=G _<|zj.refl _ _;have S1:=G _ p;have g':∀u∈t6 c,u.oneCell'=M:=by intro u I;simp[t6]at I;obtain rfl|rfl|rfl:=I<;>rfl
 have L:∀y,(aB m (T f.P) o).ownBlock=Y y->¬y=C/\y<V (Z w):=λy x=>by rw[<-j]at x;exact⟨a.ps.ir a.bT Ã y x,(a.ps.lt y x).2⟩
 go_region_law (first|(refine Rw.rX PW c cs À wr O O g' O O O O ?_;intro h1 i h2 v' S t;have r:=v';have l:=S;have q:=t;have F:=hd.bT.y l λe=>(L _ e).1 O;have aw:=F.dS 13;have c13:N h2 (K C 13)=aB m (T f.P) o:=j▸F.i 13 O));all_goals
  have es:Xf C f w {f with pv:=aB (Y ⟨h1,0,R⟩) (T f.P+1) i,P:=f.P++[c]}<|ay h2 (K C 13)<|aB (Y ⟨h1,0,R⟩) (T f.P+1) i:=Xf.iR a (d.aE p) r (by rw[j];exact l) λg ba=>by cases ba;rw[j];exact q.imp id λe=>by rw[e];exact(d.aE p).aD
  go_wp2;go_ret;exact⟨0,_,O,es,b _⟩
def Rf.iS(f:Rf)(y:Zl):Zl×U:=
 if f.gw=ao then([],5)else if oR y=ao then([],6)else match Xg f.hU y with
  |some v=>(v,0)|none=>([],8)
def xik(h:k<T L)(n):Xg (L.drop k) n=if n=L[k].1 then Y L[k].2 else Xg (L.drop<|k+1) n:=by rw[Zx h];rfl
theorem xrm(C f P w)(h:Ju w C f)(D:T f.L<=200000000000)(B:T f.P<=20):aH 119 #[zq C,E P] w (cE #[ak<|st (f.iS P).1,aD bB (f.iS P).2]):=by
 have d:N w (K C 11)=bG f.gw:=h.bT.i 11 O;have o:=P6 f.P f.L;cases A:f.gw
 ·rw[A]at d;have b:H<|f.iS P=([],5):=by show _=_;unfold Rf.iS;rw[aT A]
  rw[b.o];go_enter func119.1,Tryz.ntmps119;go_wp2;go_ret2;exact za7
 rw[A]at d;have S:oR P=bR (0<T P/\T P<=16):=O;by_cases hk:0<T P/\T P<=16;rotate_left
 ·have b:H<|f.iS P=([],6):=by show _=_;unfold Rf.iS;rw[aL<|by simp[A],aT Á]
  rw[b.o];by_cases s:T P=0
  ·have p:((T P:U)==0)=M:=by simp[s]
   go_enter func119.1,Tryz.ntmps119;go_wp2;go_ret2;exact za7
  have p:((T P:U)==0)=ao:=ê
  have F:(16:U)<(T P:Q):=À
  go_enter func119.1,Tryz.ntmps119;go_wp2;go_ret2;exact za7
 have b:H<|f.iS P=match Xg f.hU P with|some v=>(v,0)|none=>([],8):=by show _=_;unfold Rf.iS;rw[aL<|by simp[A],aL Á]
 have s:((T P:U)==0)=ao:=ê
 have F:¬(16:U)<(T P:Q):=À
 go_enter func119.1,Tryz.ntmps119;go_wp2;refine(P9 C f _ h D B).mono ?_;rintro e w1⟨v,rfl,c,r,-⟩;obtain⟨a,z,rfl⟩:=r.dL;have q:=c;have o:T f.hU<=300000000000:=by unfold Rf.hU;omega
 generalize f.hU=L at*;go_wp2;go_loopw [7] (λi wr=>∃k:Q,k<=T L/\i=J k/\H (Xg L P=Xg (L.drop k) P)/\wr=w1) (λi _=>bL (T L-bZ i));exact⟨0,À,O,O,O⟩;obtain⟨k,hk,rfl,m,rfl⟩:=hrel;by_cases l:k<T L
 ·obtain⟨g,rfl,n⟩:=r.lp (λ_=>O) l O;have e0:N wr (K g<|k*2)=(ak<|st L[k].1):=n 0 À;have G:N wr (K g<|k*2+1)=(ak<|st L[k].2):=n 1 À;have I:=m.o.trans<|xik l P;have u:(k:U)<(T L:Q):=À;have j:((st L[k].1).toList==(st P).toList)=bR (L[k].1=P):=by rw[xl,xl];by_cases h:L[k].1=P<;>simp[h]
  clear n m;by_cases c:L[k].1=P
  ·rw[aT c.symm]at I;rw[I]at b;rw[jm c]at j;generalize L[k].1=x at*;generalize L[k].2=y at*;go_wp2;go_ret2;exact⟨á,q⟩
  have t:H<|Xg L P=Xg (L.drop<|k+1) P:=by show _=_;rw[I,aL<|Ne.symm c]
  rw[jo c]at j;generalize L[k].1=x at*;generalize L[k].2=y at*;go_wp2;go_roundw;exact⟨k+1,À,Å,t,bD⟩;exact Ì
 obtain rfl:k=T L:=À
 have u:¬((T L:Q):U)<(T L:Q):=À
 rw[Vl]at m;rw[m.o]at b;go_wp2;go_ret2;exact⟨á,q⟩
abbrev wJ(F:Xv):Prop:=F.Pairwise λa b=>a.1<b.1
def o4(p:U×(Zl×U)):ez:=!p.2.1.isEmpty
def CQ(p):∀u∈mr p,u.oneCell'=M:=by intro u a;simp[mr]at a;obtain rfl|rfl|rfl:=a<;>rfl
def Xf.fW{f p}(h:Ju w C f)(o:ff w W 123 3 mr v p):Xf C f w {f with fv:=v,F:=p}<|ay W (K C 3) v:=by have y:=h.y o.nw;have b:=zj.H W (K C 3) v;refine⟨(o.nw.U λ_=>eT).aE<|b.U λx a=>aJ a,⟨y.bT.H 3 v,o.rw.y b<|o.rw.ir y.bT Ã,y.ss.y b<|y.ss.ir y.bT Ã,y.ps.y b<|y.ps.ir y.bT Ã,o.nl⟩,λx a=>?_⟩;obtain a|a|a|a:=a;exact aJ<|aJ a;exact ac<|o.ex x a;exact aJ<|ac<|ac<|aJ a;exact aJ<|ac<|ac<|ac a
def Rw.wI{f A B}{p:X}(h:Rw w e k f (aB (Y ⟨g,0,R⟩) n c) (A++p::B))(b:∀a,T (f a)=k)(j)(o:j<k):N w (K g<|T A*k+j)=(f p)[j]?:=by obtain⟨d,m,l⟩:=h.lp b (i:=T A) Â O;grind
theorem Rw.bT{f}{l:bA X}(h:Rw w e k f (aB (Y ⟨g,0,R⟩) n c) l):∃y,xh w g y e/\y.toList.take (T l*k)=l.flatMap f:=by obtain⟨q,_⟩|⟨b,a,y,j,_,d,_,_,_,i⟩:=h.2;cases q;cases j;exact⟨y,d,i⟩
def Rw.dS{f}{l:bA X}(h:Rw w e k f (aB (Y ⟨g,0,R⟩) n c) l)(i):aX w (K g i)=ao:=by obtain⟨a,b,_⟩:=h.bT;exact b.dS i
def Bh{f:X->Ze}{k}(b:∀a,T (f a)=k):∀l:bA X,T (l.flatMap f)=T l*k
 |[]=>by simp|a::l=>by rw[Wi,zx,b,Bh b l,xg,Nat.add_mul];omega
def ff.Im{f A B}{p q:X}{a b d}(h:ff w0 w e 3 f (aB (Y ⟨g,0,R⟩) n c) (A++p::B))(D:f q=[a,b,d])(j:∀a,T (f a)=3):ff w0 (ay (ay (ay w (K g<|T A*3) a) (K g<|T A*3+1) b) (K g<|T A*3+2) d) e 3 f (aB (Y ⟨g,0,R⟩) n c) (A++q::B):=by
 obtain⟨q,_⟩|⟨F,o,i,u,t,v,G,r,S,k⟩:=h.cN.2;cases q;cases u;have s:xh w g i e:=v;have l:=((s.H (T A*3) a).H (T A*3+1) b).H (T A*3+2) d;have m:=((zj.H w (K g<|T A*3) a).aE<|zj.H _ (K g<|T A*3+1) b).aE<|zj.H _ (K g<|T A*3+2) d;obtain⟨x,y,z,C⟩:∃x y z,f p=[x,y,z]:=match f p,j p with
  |[x,y,z],_=>⟨x,y,z,O⟩
 refine⟨h.nw.ib m λy I=>Á,⟨?_,ac ⟨g,c,_,?_,t,l,?_,r,Á,?_⟩⟩,λe=>oz⟩;rw[Bh j];simp;grind;simp only[Array.toList_setIfInBounds,List.take_set];simp only[zx,xg]at k⊢;rw[k,Wz,Wi,Wz,Wi,D,C,<-Bh j A];grind
def ZX{A B p}(e:wJ<|A++B)(c:∀a∈A,a.1<p.1)(d:∀b∈B,p.1<b.1):wJ (A++p::B):=by grind [Xw]
def ZW{A B X}{p:U×(Zl×U)}(h:(A++B).Perm X):(A++p::B).Perm<|X++[p]:=
 List.perm_middle.trans ((h.cons p).trans (List.perm_append_singleton p X).symm)
def Qe(C f l lv w)(h:Ju w C f)(hr:Rw w 123 3 mr lv l)(g':(l.map (·.1)).Nodup)(bg:T l<=999999):aK prog 234 #[aU<|some ⟨C,0,R⟩,lv] w λe w'=>e=ai (cE #[])/\∃v F',Xf C f w {f with fv:=v,F:=F'} w'/\F'.Perm (l.filter o4)/\wJ F':=by
 obtain⟨a,bi,rfl⟩:=hr.dL;have HH:=h;have HR:=hr;have HN:=g';go_enter func234.1,Tryz.ntmps234;go_wp2;go_loopw [4,5] (λv i wr=>∃(j:Q) (u:Xv),j<=T l/\i=aD bB j/\ff w wr 123 3 mr v u/\u.Perm ((l.take j).filter o4)/\wJ u) (λ_ i _=>bL (T l-bZ i));exact⟨0,[],À,O,ff.nil _,List.Perm.refl _,iV⟩;obtain⟨j,u,hj,rfl,ho,hp,hs⟩:=hrel;have cs:=ho;have I:=hp;have v':=hs;by_cases ih:j<T l
 ·have i1:(j:U)<(T l:Q):=À;obtain⟨g,rfl,L⟩:=HR.lp (λ_=>O) ih O;have HQ:∀w',Nw w w'->N w' ⟨g,j*3,R⟩=aD bB l[j].1/\N w' ⟨g,j*3+1,R⟩=(ak<|st l[j].2.1)/\N w' ⟨g,j*3+2,R⟩=aD bB l[j].2.2:=λw' hw=>⟨hw.i id<|L 0 À,hw.i id<|L 1 À,hw.i id<|L 2 À⟩;have h2:H<|(l.take<|j+1).filter o4=(l.take j).filter o4++if o4 l[j]then [l[j]]else []:=by show _=_;rw[zp ih,Yu];congr 1;simp[KB]
  have r:=HQ _ cs.nw;have S:((T l[j].2.1:U)==0)= !o4 l[j]:=by
   unfold o4;cases l[j].2.1<;>simp
   omega
  have bq:T u<=999999:=by have h1:=I.length_eq;have aw:=J0 o4<|l.take j;rw[xf]at aw;omega
  obtain⟨⟨o,P,D⟩,bc⟩:∃p,l[j]=p:=⟨_,O⟩;rw[bc]at HQ h2 S r;have W:∀x∈u,x.1≠o:=λx hx e=>by obtain⟨i,hi,rfl⟩:=List.mem_iff_getElem.1 (Ja.1<|I.mem_iff.1 hx).1;rw[xf]at hi;rw[List.getElem_take]at e;have aw:=(List.getElem_inj (xs:=l.map (·.1)) (i:=i) (j:=j) (h₀:=Á) (h₁:=Á) HN).1 Á;omega
  cases hf:o4 (o,P,D)with
  |false=>rw[hf]at S h2;go_wp2;go_roundw;exact⟨j+1,u,À,Å,cs,by rw[h2.o];simpa using I,v'⟩;exact Î
  |true=>
   rw[hf]at S h2;simp only[dY]at h2;go_wp2_with (refine ff.jK CT (o,P,D) cs À O O (CQ _) O O O O ?_);intro s y w3 bb;have X:=bb;go_wp2;go_loopw [6] (λk wq=>∃A B:Xv,k=aD bB (T A:Q)/\A++B=u/\(∀q∈B,o<q.1)/\ff w wq 123 3 mr (aB (Y ⟨s,0,R⟩) (T u+1) y) (A++(o,P,D)::B)) (λk _=>bL (bZ k));exact⟨u,[],Å,Â,Â,X⟩;obtain⟨A,B,rfl,e1,hB,ho⟩:=hrel;have c:=ho;have b:=e1;have es:=hB;obtain rfl|⟨t,q,rfl⟩:=List.eq_nil_or_concat A
   ·have k1:¬(0:U)<((0:Q):U):=À;rw[qj]at b c;go_wp2;go_quiet (fail);have d:ff w (wr.drewN nq) 123 3 mr _ _:=c.ib (zj.refl _ _).eL;generalize wr.drewN nq=w5 at*;go_wp2;go_roundw;exact⟨j+1,(o,P,D)::B,À,Å,d,by rw[h2.o];exact ZW (A:=[])<|by rw[qj,b];exact I,ZX (A:=[]) (by rw[qj,b];exact v') Â es⟩;exact Î
   have ba:=gv T b;simp only[List.concat_eq_append,zx,xg,qy,j7]at ba c b⊢;rw[jq,Vz]at c;obtain⟨⟨z,hd,G⟩,rfl⟩:∃x,x=q:=⟨_,O⟩;have w2:Rw wr 123 3 mr (aB (Y ⟨s,0,R⟩) (T u+1) y) ((t++[(z,hd,G)])++(o,P,D)::B):=by rw[jq];exact c.rw
   have p0:N wr ⟨s,(T t+1)*3,R⟩=aD bB o:=by simpa[mr]using w2.wI (λ_=>O) 0 À
   have p1:N wr ⟨s,(T t+1)*3+1,R⟩=(ak<|st P):=by simpa[mr]using w2.wI (λ_=>O) 1 À
   have p2:N wr ⟨s,(T t+1)*3+2,R⟩=aD bB D:=by simpa[mr]using w2.wI (λ_=>O) 2 À
   have q0:N wr ⟨s,T t*3,R⟩=aD bB z:=c.rw.wI (λ_=>O) 0 À;have q1:N wr ⟨s,T t*3+1,R⟩=(ak<|st hd):=c.rw.wI (λ_=>O) 1 À;have q2:N wr ⟨s,T t*3+2,R⟩=aD bB G:=c.rw.wI (λ_=>O) 2 À;generalize g':T t=n at*;have k1:(0:U)<((n+1:Q):U):=À
   have k2:((n+1:Q):U)<((T u+1:Q):U):=À
   by_cases bh:o<z
   ·go_wp2;go_quiet (fail);have d:ff w (wr.drewN nq) 123 3 mr _ _:=c.ib (zj.refl _ _).eL;replace p0:N (wr.drewN nq) _=_:=p0;replace p1:N (wr.drewN nq) _=_:=p1;replace p2:N (wr.drewN nq) _=_:=p2;replace q0:N (wr.drewN nq) _=_:=q0;replace q1:N (wr.drewN nq) _=_:=q1;replace q2:N (wr.drewN nq) _=_:=q2;generalize wr.drewN nq=w5 at*;have m:∀i,aX w5 ⟨s,i,R⟩=ao:=d.rw.dS;have bj:=m<|(n+1)*3;have bk:=m<|(n+1)*3+1;have bl:=m<|(n+1)*3+2;have bm:=m<|n*3;have bn:=m<|n*3+1;have bo:=m<|n*3+2;have bp:s<V (Z w5):=by obtain⟨_,S,_⟩:=d.rw.bT;exact S.lt
    have bf:¬s=V (Z w5):=À
    have be:¬V (Z w5)=s:=À
    clear m;go_wp2;refine⟨⟨t,(z,hd,G)::B,by rw[g'],by rw[<-b,jq];rfl,λq L=>?_,?_⟩,?_⟩;obtain rfl|L:=jc.1 L;omega;exact es q L;have o1:ff w w5 123 3 mr (aB (Y ⟨s,0,R⟩) (T u+1) y) ((t++[(z,hd,G)])++(o,P,D)::B):=by rw[jq];exact d
    have o2:=o1.Im (q:=(z,hd,G)) O λ_=>O;rw[jq,Vz,zx,g']at o2;have o3:=o2.Im (q:=(o,P,D)) O λ_=>O;rw[g']at o3;exact o3.ib<|zj.E _;simp[bZ]
   go_wp2;go_quiet (fail);have d:ff w (wr.drewN nq) 123 3 mr _ _:=c.ib (zj.refl _ _).eL;have fr:∀a∈t++[(z,hd,G)],a.1<o:=λa ha=>by
    have h1:z<o:=by have:=W (z,hd,G) (by rw[<-b];simp);omega
    obtain h|h:=je.1 ha;have aw:=v';rw[<-b]at aw;have h3:=(Y3.1 (Y3.1 aw).1).2.2 a h (z,hd,G) Â;omega;simp_all
   generalize wr.drewN nq=w5 at*;clear p0 p1 p2 q0 q1 q2;go_wp2;go_roundw;exact⟨j+1,t++[(z,hd,G)]++(o,P,D)::B,À,Å,by rw[jq];exact d,by rw[h2.o];exact ZW<|by rw[b];exact I,ZX (by rw[b];exact v') fr es⟩;exact Î
 obtain rfl:j=T l:=À
 have i1:¬(T l:U)<(T l:Q):=À
 rw[jz]at I;obtain⟨a4,bd,rfl⟩:=cs.dL;have HE:=Xf.fW HH cs;have A:=HH.y cs.nw;have c3:N wr ⟨C,3,R⟩=Y f.fv:=A.bT.i 3 O;have f3:=A.bT.dS 3;clear A;go_wp2;go_end0;exact⟨O,_,u,HE,I,v'⟩
end
section
attribute[local go_sem] zn zg vD
def sJ(t:U)(p:U×(Zl×U)):U×(Zl×U):=(p.1,(p.2.1.take (bL (Wx t p.2)),Wx t p.2))
def Rf.cS(f:Rf):ez:=f.nE&&bR (f.ko<=0)
def Rf.dZ(f:Rf):Rf:=if f.nE=M then {f with ko:=f.ko-1}else f
def LR(C:Q)(f:Rf)(w w':Zy):Prop:=∃v y,Xf C f w {f with nE:=ao,gw:=ao,fv:=v,F:=y} w'/\y.Perm ((f.F.map<|sJ f.cQ).filter o4)/\wJ y
structure Iq(C:Q)(f:Rf)(w:Zy)(e:kH)(w':Zy):Prop where
 go:f.cS=ao->e=ai (bG M)/\Xf C f w f.dZ w'
 cr:f.cS=M->e=ai (bG ao)/\LR C f w w'
def ZC(C f w)(h:Ju w C f)(hF:oQ f.F)(hn:(f.F.map (·.1)).Nodup)(hl:T f.F<=999999)(ht:0<=f.cQ)(ha:f.ko<=9223372036854775807):aK prog 233 #[zq C] w<|Iq C f w:=by
 have c4:N w (K C 4)=bG f.nE:=h.bT.i 4 O;have c5:N w (K C 5)=J f.ko:=h.bT.i 5 O;have f4:=h.bT.dS 4;have f5:=h.bT.dS 5;have s:=h;cases hr:f.nE
 ·rw[hr]at c4;have cs:Iq C f w (ai<|bG M) w:=⟨λ_=>⟨O,by unfold Rf.dZ;rw[aL<|by simp[hr]];exact .refl s⟩,λq=>(by simp[Rf.cS,hr]at q)⟩;go_enter func233.1,Tryz.ntmps233;go_wp2;go_ret;exact cs
 rw[hr]at c4;by_cases h5:0<f.ko
 ·have cs:Iq C f w (ai<|bG M)<|ay w (K C 5)<|J<|f.ko-1:=⟨λ_=>⟨O,by unfold Rf.dZ;rw[aT hr];exact Xf.H s 5 _ O O O O⟩,λq=>(by grind [Rf.cS])⟩;generalize f.ko=q at*;go_enter func233.1,Tryz.ntmps233;go_wp2;go_ret;exact cs
 have HK:∀r,LR C f w r->Iq C f w (ai<|bG ao) r:=λr q=>⟨λx=>(by grind [Rf.cS]),λ_=>⟨O,q⟩⟩;have r1:=Xf.H (f':={f with nE:=ao}) s 4 (bG ao) O O O O;have g':=r1.aE<|Xf.H (f':={f with nE:=ao,gw:=ao}) r1.dI 11 (bG ao) O O O O;have bc:N w (K C 11)=bG f.gw:=s.bT.i 11 O;have bd:=s.bT.dS 11;let⟨a,cap,hv⟩:=s.fs.dL;have HV:=hv;go_enter func233.1,Tryz.ntmps233;go_wp2;generalize(ay w (K C 4)<|bG ao).setCell (K C 11) (bG ao)=w1 at*;go_loopw [3,4] (λv i wr=>∃j:Q,j<=T f.F/\i=J j/\ff w1 wr 123 3 mr v ((f.F.take j).map<|sJ f.cQ)) (λ_ i _=>bL (T f.F-bZ i));grind [ff.nil];obtain⟨j,hj,rfl,ho⟩:=hrel;have l:=ho;have A:=g'.dI.y ho.nw;have c3:N wr (K C 3)=aB a (T f.F) cap:=HV▸A.bT.i 3 O;by_cases o:j<T f.F
 ·have i1:(j:U)<(T f.F:Q):=À;obtain⟨g,rfl,F⟩:=A.fs.lp (λ_=>O) o HV;have e0:N wr (K g<|j*3)=J f.F[j].1:=F 0 À;have v':N wr (K g<|j*3+1)=(ak<|st f.F[j].2.1):=F 1 À;have es:N wr (K g<|j*3+2)=J f.F[j].2.2:=F 2 À;have hE:=hF _<|Xk o;have HT:H<|(f.F.take<|j+1).map (sJ f.cQ)=(f.F.take j).map (sJ f.cQ)++[sJ f.cQ f.F[j]]:=by show _=_;rw[zp o,qz];rfl
  have n:N wr (K C 6)=J f.cQ:=A.bT.i 6 O;clear F;obtain⟨⟨d,b,c⟩,D⟩:∃p,f.F[j]=p:=⟨_,O⟩;rw[D]at e0 v' es hE HT;simp only at e0 v' es hE;clear D;have hC:=A.bT.lt;go_wp2;have k:xh (aF wr<|au #[J d,E b,J c] 123) (V<|Z wr) #[J d,E b,J c] 123:=xh.ex _ _ _;have y:Nw wr<|aF wr<|au #[J d,E b,J c] 123:=zj.E _;have hs:V (Z wr)<V (aF wr<|au #[J d,E b,J c] 123).heap:=k.lt;have be:T ((f.F.take j).map<|sJ f.cQ)<=999999:=Ç
  generalize(f.F.take j).map (sJ f.cQ)=P at*;have ih:∀r,Nw wr r->N r (K C 6)=J f.cQ:=λr hw=>hw.i id n;clear c3 n e0 v' es hC;generalize hw2:aF wr (au #[J d,E b,J c] 123)=w2 at*;generalize V (Z wr)=B at*;have hd:=k.i (v:=J _) 0 O;have hx:=k.i (v:=ak _) 1 O;have L:=k.i (v:=J _) 2 O;have n:=ih _ y;have bf:=hE.2;generalize htn:f.cQ=tn at*;have W:=htn;clear htn;by_cases e1:tn<(T b:U)-c;focus
   obtain⟨u,z⟩:∃u:Q,c+tn=(u:U):=⟨bL (c+tn),À⟩;have HL:H<|Wx tn (b,c)=(u:U):=zcx
   have ba:u<=T b:=À
   go_wp2;go_quiet (fail);have t:ff w1 (w2.drewN nq) 123 3 mr _ P:=(l.ib y).ib (zj.refl _ _).eL;have X3:xh (w2.drewN nq) B _ 123:=k;replace hd:N (w2.drewN nq) _=_:=hd;replace hx:N (w2.drewN nq) _=_:=hx;replace L:N (w2.drewN nq) _=_:=L;replace n:N (w2.drewN nq) _=_:=n;clear l k hw2 hs y ih;generalize w2.drewN nq=I at*;go_wp2;go_quiet (fail);have m:ff w1 (I.drewN nq) 123 3 mr _ P:=t.ib (zj.refl _ _).eL;have X:xh (I.drewN nq) B _ 123:=X3;try rw[z]
   clear t X3 hd hx L n;generalize I.drewN nq=w4 at*;clear e1 z
  rotate_left;focus
   obtain⟨u,z⟩:∃u:Q,T b=u:=⟨_,O⟩;have G:¬tn<(u:U)-c:=À
   have HL:H<|Wx tn (b,c)=(u:U):=zcx
   have ba:u<=T b:=À
   go_wp2;go_quiet (fail);have m:ff w1 (w2.drewN nq) 123 3 mr _ P:=(l.ib y).ib (zj.refl _ _).eL;have X:xh (w2.drewN nq) B _ 123:=k;try rw[z]
   clear l k hw2 hs y ih hd hx L n;generalize w2.drewN nq=w4 at*;go_wp2;clear e1 z G
  all_goals
   have d0:=X.i (v:=J _) 0 O;have d1:=X.i (v:=ak _) 1 O;have n1:(u:U)<=(T b:Q):=À
   have hc:mr (sJ tn (d,b,c))=[J d,E<|b.take u,J u]:=by simp[mr,sJ,HL.o]
   have HC:=hc;have w3:ff w1 (aF w4<|au #[J d,E<|b.take u,J u] 123).drew 123 3 mr _ P:=m.ib (zj.E _).W;have XA:xh (aF w4<|au #[J d,E<|b.take u,J u] 123).drew (V<|Z w4) #[J d,E<|b.take u,J u] 123:=xh.ex w4 _ _;clear hc m;go_wp2;go_region_law (first|(refine ff.rX CT (sJ tn (d,b,c)) w3 À XA HC O (CQ _) O O O O ?_;intro g3 bb w6 hR;have S:=hR;clear hR));all_goals
    go_wp2;go_roundw;exact⟨j+1,À,Å,by rw[W,HT.o];exact S⟩;exact Ì
 obtain rfl:j=T f.F:=À
 have i1:¬(T f.F:U)<(T f.F:Q):=À
 rw[jz]at l;have HM:((f.F.map<|sJ f.cQ).map (·.1)).Nodup:=by show List.Nodup _;rw[Wj];exact hn
 have aw:T (f.F.map<|sJ f.cQ)<=999999:=by show _<=_;simpa using hl
 go_wp2;refine(Qe C _ _ _ _ A l.rw HM aw).mono ?_;rintro e I⟨rfl,v3,F3,h1,h2,h3⟩;have HX:Iq C f w (ai<|bG ao) I:=HK _ ⟨v3,F3,(g'.aE<|.nw g'.dI l.nw).aE h1,h2,h3⟩;clear h1 h2 h3;go_wp2;go_ret;exact HX
end
section
attribute[local go_sem] zn zg
structure ZB(f:Rf):Prop where
 fU:oQ f.F
 nd:(f.F.map (·.1)).Nodup
 gT:T f.F<=900000
 cQ:0<=f.cQ
 ko:f.ko<=9223372036854775807
def Rf.yC(f:Rf):f.dZ.F=f.F/\f.dZ.fv=f.fv/\f.dZ.cQ=f.cQ:=by grind [Rf.dZ]
structure PV(C:Q)(f:Rf)(n:U)(x:Zl)(w:Zy)(e:kH)(w':Zy):Prop where
 go:f.cS=ao->e=ai (bG M)/\∃v y,Xf C f w {f.dZ with fv:=v,F:=y} w'/\y.Perm ((f.F.filter (λp=>p.1 != n)++[(n,x,(T x:U))]).filter o4)/\wJ y
 cr:f.cS=M->e=ai (bG ao)/\LR C f w w'
def xui(C f n x w)(h:Ju w C f)(hk:ZB f):aK prog 183 #[zq C,J n,E x] w<|PV C f n x w:=by
 have l:=hk;go_enter func183.1,Tryz.ntmps183;go_wp2;refine(ZC C f _ h l.fU l.nd (by have:=l.gT;omega) l.cQ l.ko).mono ?_;rintro e w1 hx;cases hst:f.cS;rotate_left
 ·obtain⟨rfl,u⟩:=hx.cr hst;have h1:PV C f n x w (ai<|bG ao) w1:=⟨λq=>Á,λ_=>⟨O,u⟩⟩;go_wp2;go_ret;exact h1
 obtain⟨rfl,u⟩:=hx.go hst;have I:=u;have h1:∀S,(∃v F',Xf C f w {f.dZ with fv:=v,F:=F'} S/\F'.Perm ((f.F.filter (λp=>p.1 != n)++[(n,x,(T x:U))]).filter o4)/\wJ F')->PV C f n x w (ai<|bG M) S:=λS q=>⟨λ_=>⟨O,q⟩,λy=>Á⟩;let⟨a,cap,hv⟩:=u.dI.fs.dL;have h2:=hv;have hF:=f.yC;have m:=f.yC;have es:=l.gT;rw[m.1]at h2;go_wp2;go_loopw [8,9] (λv i wr=>∃j:Q,j<=T f.F/\i=J j/\ff w1 wr 123 3 mr v ((f.F.take j).filter λp=>p.1 != n)) (λ_ i _=>bL (T f.F-bZ i));grind [ff.nil];obtain⟨j,hj,rfl,aw⟩:=hrel;have P:=aw;have A:=I.dI.y aw.nw;have c3:N wr (K C 3)=aB a (T f.F) cap:=h2▸A.bT.i 3 O;have D:=J0 (λp:U×(Zl×U)=>p.1 != n)<|f.F.take j;rw[xf]at D;clear aw;by_cases B:j<T f.F
 ·have i1:(j:U)<(T f.F:Q):=À;have k:j<T f.dZ.F:=by rw[m.1];exact B
  obtain⟨g,rfl,G⟩:=A.fs.lp (λ_=>O) k h2;have z:f.dZ.F[j]=f.F[j]:=by congr 1;exact m.1
  rw[z]at G;have e0:N wr (K g<|j*3)=J f.F[j].1:=G 0 À;have ho:N wr (K g<|j*3+1)=(ak<|st f.F[j].2.1):=G 1 À;have cs:N wr (K g<|j*3+2)=J f.F[j].2.2:=G 2 À;have o:((f.F.take<|j+1).filter λp=>p.1 != n)=((f.F.take j).filter λp=>p.1 != n)++if f.F[j].1 != n then [f.F[j]]else []:=by show _=_;rw[zp B,Yu];congr 1;simp[KB]
  clear G z k;obtain⟨⟨s,px,ps⟩,g'⟩:∃p,f.F[j]=p:=⟨_,O⟩;rw[g']at e0 ho cs o;simp only at e0 ho cs o;clear g';generalize((f.F.take j).filter λp=>p.1 != n)=ba at*;by_cases r:s=n
  ·have hd:(s==n)=M:=by simp[r]
   rw[show(s != n)=ao by simp[r]]at o;clear r;go_wp2;go_roundw;exact⟨j+1,À,Å,by rw[o];simpa using P⟩;exact Ì
  have hd:(s==n)=ao:=by simp[r]
  rw[show(s != n)=M by simp[r]]at o;clear r;go_wp2_with (refine ff.jK CT (s,px,ps) P À O O (CQ _) O O O O ?_);intro g3 t w3 d;have c:=d;clear d;go_wp2;go_roundw;exact⟨j+1,À,Å,by rw[o];exact c⟩;exact Ì
 obtain rfl:j=T f.F:=À
 have i1:¬(T f.F:U)<(T f.F:Q):=À
 rw[jz]at P D;have HM:((f.F.filter (λp=>p.1 != n)++[(n,x,(T x:U))]).map (·.1)).Nodup:=by show List.Nodup _;rw[qz,GK];refine⟨l.nd.sublist<|List.filter_sublist.map _,Â,λa ha b hd=>?_⟩;obtain⟨p,hp,rfl⟩:=Xe.1 ha;simp at hd;rw[hd];simpa using(Ja.1 hp).2
 have L:T (f.F.filter (λp=>p.1 != n)++[(n,x,(T x:U))])<=999999:=by show _<=_;simp;omega
 go_wp2_with (refine ff.jK CT (n,x,(T x:U)) P À O O (CQ _) O O O O ?_);intro g3 t w3 d;have c:=d;clear d;go_wp2;refine(Qe C _ _ _ _ (I.dI.y c.nw) c.rw HM L).mono ?_;rintro e w4⟨rfl,v4,F4,v',W,X⟩;have HE:=h1 _ ⟨v4,F4,(I.aE<|.nw I.dI c.nw).aE v',W,X⟩;clear v' W X;go_wp2;go_ret;exact HE
end
def ZN:∀(n:Q) {k k':Lk} {L L':KV} {l r:Zl},t7 n k L l=Y (k',L',r)->k.ok->k'.ok/\k'.mp=k.mp/\k'.aQ=k.aQ
 |0,k,k',L,L',l,r,h,hk=>by grind [t7]
 |n+1,k,k',L,L',l,r,h,hk=>by
  unfold t7 at h;by_cases a:J5 l=M;rw[aT a]at h;cases y:Jv k L l with|none=>grind|some p=>obtain⟨b,L1⟩:=p;rw[y]at h;let⟨j,u,o⟩:=ZM y a hk;let⟨s,i,d⟩:=ZN n h j;grind
  grind
theorem ZL{k num len y}(h:Vd k L num len y=Y (k',L'))(hk:k.ok):k'.ok/\k'.mp=k.mp/\k'.aQ=k.aQ:=by unfold Vd at h;split at h;split at h;simp[xj,GV]at h;obtain⟨rfl,_⟩:=h;exact⟨⟨hk.m,hk.ep,hk.bF,hk.dX⟩,O,O⟩;grind;grind
theorem xej{k}(h:mX k L num x=Y (k',L'))(hk:k.ok):k'.ok/\k'.mp=k.mp/\k'.aQ=k.aQ:=by unfold mX at h;split at h;split at h;cases h;split at h;rename_i p L1 r y;let⟨j,u,o⟩:=ZN _ y hk;grind [ZL];grind;grind [ZL]
def ow(F:Q->Zl)(n:Q)(k:Lk)(L:KV):Q->dD (Lk×KV)
 |0=>Y (k,L)
 |r+1=>match ow F n k L r with
  |some (k',L')=>mX k' L' (n+r)<|F<|n+r
  |none=>R
def PY{F n k L}(hk:k.ok):∀(r:Q) {k':Lk} {L':KV},ow F n k L r=Y (k',L')->k'.ok/\k'.mp=k.mp/\k'.aQ=k.aQ
 |0,k',L',h=>by grind [ow]|r+1,k',L',h=>by unfold ow at h;cases y:ow F n k L r with|none=>grind|some p=>obtain⟨a,L1⟩:=p;rw[y]at h;let⟨j,u,o⟩:=PY hk r y;grind [xej]
def ZU{F r k}(h:ow F n k L r=Y (k',L')):ow F n k L (r+1)=mX k' L' (n+r) (F<|n+r):=by rw[ow,h]
def PZ{F n r k L}(h:ow F n k L r=R):∀d,ow F n k L (r+d)=R
 |0=>h|d+1=>by rw[<-GU,ow,PZ h d]
structure nD(m tv:Zv)(w:Zy):Prop where
 Il:xP m w
 Y':ip tv w
 uV:iN w
def nD.y{S}(h:nD m tv w)(a:zj S w w')(b:∀x,S x->2<x):nD m tv w':=
 ⟨h.Il.y a λx=>Á,h.Y'.y a λx=>Á,h.uV.y a λx=>Á⟩
def nD.iE(h:nD m tv w):2<V (Z w):=h.uV.iE
structure pH(B:Q)(r:Sr):Prop where
 m:T r.m=32
 bQ:T r.bQ=32
 bF:r.bF<1000000
 op:r.op<1000000
 bU:0<=r.d.bU/\r.d.bU<=1000000
 fW:rU r.d.L
 Ip:T r.d.L<1000000
 nx:∀c,r.d.nx=Y c->kh c.2.1/\0<=c.2.2/\kh c.2.2
 cN:∀x,r.cN B x->2<x
 fP:∀s,r.sn=Y s->0<=s.aQ/\s.aQ<=1000000000000/\T s.P<=20
def pH.F0(h:pH B r):jW r.D r.d:=⟨h.fW,h.nx,λx=>by have:=h.cN 0<|ac<|aJ x;omega⟩
def Zd.fA{D}(h:Vq w B r)(b:zj (r.d.cN r.D) w w')(y:Jt w' r.D D)(g:D.ay=r.d.ay)(ho:∀x,D.cN r.D x->r.d.cN r.D x):Zd B r w {r with d:=D} w':=by refine⟨b.U λx a=>ac (aJ a),⟨?_,y,λs c=>?_⟩,λx a=>?_⟩;exact h.bT.y b h.kP;exact⟨(h.fP s c).1.y b λx a f=>h.fh c a f,by rw[g];exact(h.fP s c).2⟩;obtain e|e|e:=a;exact aJ<|aJ e;exact aJ<|ac<|aJ<|ho x e;exact aJ<|ac<|ac e
theorem Dk.uU(d:Dk):d.eS.ay=d.ay:=zad
def Dk.mL(d:Dk)(D x)(h:d.eS.cN D x):d.cN D x:=by
 obtain e|e|⟨c,a,e⟩:=h;exact aJ e;exact ac<|aJ<|by grind [Dk.uU]
 exact zad
theorem vF.st{L' e}(h:Vq w B r)(g:vF m r.D r.d L' w e w'):
  (e=ai (cE #[])/\r.d.cS=ao/\Zd B r w {r with d:={r.d.dZ with L:=L'}} w')\/(e=kn m/\r.d.cS=M/\Zd B r w {r with d:=r.d.eS} w'):=by
 obtain⟨f,⟨a,y,b⟩|⟨a,y,b⟩⟩:=g;exact aJ ⟨a,b.o,Zd.fA h f y (Dk.nU r.d) λx c=>(Dk.kO r.d r.D x).1 c⟩;exact ac ⟨a,b.o,Zd.fA h f y (Dk.uU r.d) λx c=>Dk.mL r.d r.D x c⟩
def Dk.gt(d:Dk)(n:U)(x:Zl):Dk:={d.dZ with L:=Vm d.L n (jp d.L n++x,(Zm d.L n).2)}
def Dk.uC(d:Dk)(n:U):Dk:={d.dZ with L:=Vm d.L n (jp d.L n,T (jp d.L n))}
def Dk.nC(d:Dk)(n:U)(x:Zl):Dk:={d.dZ with L:=Vm d.L n (x,T x)}
def Dk.qR(d:Dk)(n:U):Dk:={d.dZ with L:=nS d.L n}
def Dk.rL(d:Dk)(n:U)(m:Q):Dk:={d.dZ with L:=Vm d.L n ((jp d.L n).take m,T ((jp d.L n).take m))}
def Dk.jO(d:Dk):d.dZ.bU=d.bU:=za4
def ZK(L):0<=bO L:=by induction L with|nil=>simp[bO]|cons p L I=>grind [bO]
def In(L n):(T (jp L n):U)<=bO L:=by unfold jp;induction L with|nil=>simp[Xm,bO]|cons p L I=>grind [bO,Xm]
def rU.np{L}(h:rU L){n}{f:Zl×U}(b:kh n)(a:0<=f.2/\f.2<=(T f.1:Q)/\T f.1<=1000000)(c:T L<1000000):rU<|Vm L n f:=by refine⟨h.fU.np b a,?_⟩;grind [Vm,PT,YJ]
section
attribute[local go_sem] zn zg
def Sr.jI(r:Sr)(s:kE)(y:Zl)(p:Q)(P:Zl):Sr:=
 {r with d:=(r.d.gt (r.cD s).1<|(r.cD s).2++rn r.m r.bQ y p r.op r.bF P).uC (r.cD s).1,bF:=r.bF+1,bQ:=ua r.m r.bQ y p r.op r.bF P,sn:=Y {s with aQ:=(r.cD s).1}}
def Sr.fc(r:Sr)(s:kE)(y:Zl)(p:Q)(P:Zl):dD U×Sr:=
 if(r.bF:U)=r.mW then(Y 10,r)
 else if r.d.bU-bO r.d.L<(T (r.cD s).2:U)+10+T P+32 then(Y 9,r)
 else if r.d.cS=M then(R,{r with d:=r.d.eS})
 else if(r.d.gt (r.cD s).1<|(r.cD s).2++rn r.m r.bQ y p r.op r.bF P).cS=M then(R,{r with d:=(r.d.gt (r.cD s).1<|(r.cD s).2++rn r.m r.bQ y p r.op r.bF P).eS})
 else(Y 0,r.jI s y p P)
def FZ(m:Zv):dD U->kH
 |some v=>ai (J v)|none=>kn m
def ZV(r:Sr)(s):T (r.cD s).2<=9:=by grind [Sr.cD,Vb,Z2]
def P8(m p y j o cnt P)(hk:T y=1):T (rn m p y j o cnt P)=42+T P:=by grind [rn,Ad,CV,ua,Z2,A',uP]
def xkv(m p y j o cnt P)(hk:T y=1):(rn m p y j o cnt P).drop (10+T P)=ua m p y j o cnt P:=by
 have h:T (Ad y j o cnt (T P)++CV m y j o cnt P)=10+T P:=by simp[Ad,CV,Z2,A',hk];omega
 grind [rn]
def jW.step{D:Q}{d:Dk}(h:jW D d){L':Xv}(b:d.cS=ao)(e:rU L'):jW D {d.dZ with L:=L'} where
 fW:=e
 nx:=λc a=>by have a:=a;unfold Dk.dZ at a;unfold Dk.cS at b;split at a;grind;rename_i p y;rw[y]at b;have:=h.nx p y;grind [kh]
 sI:=λx=>h.sI<|(Dk.kO d D 0).1 x
def Zd.Bg{s n t}(h:Vq w B r)(f:r.sn=Y s):
  Zd B r w {r with bF:=c,bQ:=t,sn:=Y {s with aQ:=n}} (ay (ay (ay w (K s.S 4)<|J n) (K B 4)<|J c) (K B 5)<|E t):=by
 obtain⟨k,o⟩:=h.fP s f;have b:s.S≠B:=λe=>k.bT.ne h.bT Ã e;have i:zj (λx=>x=s.S\/x=B) w<|ay (ay (ay w (K s.S 4)<|J n) (K B 4)<|J c) (K B 5)<|E t:=
  (((zj.H w (K s.S 4) _).U λx a=>aJ a).aE<|(zj.H _ (K B 4) _).U λx a=>ac a).aE ((zj.H _ (K B 5) _).U λx a=>ac a)
 refine⟨i.U λx a=>?_,⟨?_,?_,λu d=>?_⟩,λx a=>?_⟩;obtain e|e:=a;exact ac<|ac ⟨s,f,aJ e⟩;exact aJ e;have:=((h.bT.dR (p:=K s.S 4) (Ne.symm b)<|J n).H 4<|J c).H 5<|E t;have e:aA (aA (r.G) 4<|J c) 5 (E t)=Sr.G {r with bF:=c,bQ:=t,sn:=Y {s with aQ:=n}}:=by simp[Sr.G,Sr.my,f]
 grind;refine h.fA.y i λx a q=>?_;obtain e|e:=q;exact h.fh f (aJ e) a;exact h.kP Á;cases d;refine⟨⟨?_,?_,?_⟩,o⟩;have:=((k.bT.H 4<|J n).dR (p:=K B 4) b<|J c).dR (p:=K B 5) b<|E t;exact this;refine k.jS.y i λa=>?_;obtain⟨G,F,y⟩:=k.jS.bT;obtain e|e:=a;exact k.bT.gV y e.symm;exact h.bT.gV y e.symm;refine⟨k.iR.1,?_⟩;obtain S|⟨g,j,l,C,z,m,D⟩:=k.iR.2;grind;refine ac ⟨g,j,l,C,z,(i.dP g (za.1 m).1 λa=>?_).trans m,D⟩;have v:=m;obtain e|e:=a;exact k.bT.ne v Ã e.symm;exact h.bT.ne v Ã e.symm;obtain e|e|⟨u,d,a⟩:=a;exact aJ<|aJ e;exact aJ<|ac<|aJ e;cases d;exact aJ<|ac<|ac ⟨s,f,a⟩
def ZF(B r s kind)(ep:Q)(plain w)(h:Vq w B r)(hs:r.sn=Y s)(wr:pH B r)(hG:nD m tv w)(X:T kind=1)(bb:T plain<=4000):
  aK prog 100 #[zq B,E kind,J ep,E plain] w λe w'=>∃a r',r.fc s kind ep plain=(a,r')/\e=FZ m a/\Zd B r w r' w':=by
 have HH:=h;have b:=wr;have HG:=hG;have q:=hs;have p:=X;have c1:N w (K B 1)=J r.mW:=h.bT.i 1 O;have c4:N w (K B 4)=J r.bF:=h.bT.i 4 O;go_enter func100.1,Tryz.ntmps100;by_cases j:(r.bF:U)=r.mW
 ·have A:H<|r.fc s kind ep plain=(Y 10,r):=by show _=_;unfold Sr.fc;rw[aT j]
  rw[<-j]at c1;go_wp2;go_quiet (fail);go_wp2;go_ret;exact⟨_,_,A.o,O,⟨(zj.refl _ _).eL,HH.y ((zj.refl _ _).eL) λ_ _=>id,λx l=>aJ l⟩⟩
 have cs:=j;go_wp2;go_quiet (fail);have hd:Zd B r w r<|w.drewN nq:=⟨(zj.refl _ _).eL,HH.y ((zj.refl _ _).eL) λ_ _=>id,λx l=>aJ l⟩;have G0:nD m tv<|w.drewN nq:=HG.y (S:=λ_=>False) ((zj.refl _ _).eL) λ_ x=>x.elim;generalize w.drewN nq=w0 at*;go_wp2;refine(xpo B r s _ hd.dI q (b.fP s q).1 (b.fP s q).2.1<|by have:=b.bF;omega).mono ?_;rintro e w1⟨rfl,z⟩;have T1:=hd.aE ⟨z.U λ_ x=>x.elim,hd.dI.y z λ_ _=>id,λx l=>aJ l⟩;have G1:=G0.y z λ_ x=>x.elim;let⟨i,hx⟩:=JP<|(r.cD s).1;let⟨n,C⟩:=JP<|(r.cD s).2;have bg:T n<=9:=by rw[<-C];exact ZV r s
 rw[hx,C];have g':=hx;have be:i<=2000000000000:=by show i<=_;rw[<-hx];have:=(b.fP s q).2.1;unfold Sr.cD;split<;>simp only<;>omega
 have aw:=C;have c2:=T1.dI.bT.i 2 O;go_wp2;refine(YK r.D r.d _ T1.dI.fA b.fW (by have:=b.bU;omega)<|by have:=b.bU;omega).mono ?_;rintro e w2⟨rfl,t⟩;have T2:=T1.aE ⟨zj.J t,T1.dI.y (zj.J t) λ_ _=>id,λx l=>aJ l⟩;have G2:=G1.y (S:=λ_=>False) (zj.J t) λ_ x=>x.elim;let⟨D,ho⟩:=JP<|r.d.bU-bO r.d.L;have bi:=ho;rw[ho];by_cases bl:D<(T n:U)+10+T plain+32
 ·have A:H<|r.fc s kind ep plain=(Y 9,r):=by show _=_;unfold Sr.fc;rw[aL cs,aT Á]
  go_wp2;go_ret;exact⟨_,_,A.o,O,T2⟩
 have bh:(T n:U)+10+T plain+32<=D:=À
 have d3:=T2.dI.bT.i 3 O;have d4:=T2.dI.bT.i 4 O;have d5:=T2.dI.bT.i 5 O;have d6:=T2.dI.bT.i 6 O;go_wp2;refine(xkw r.m _ kind ep r.op r.bF plain b.m b.bQ p bb (by have:=b.bF;omega) _ G2.uV).mono ?_;rintro e w3⟨rfl,v⟩;have u:=T2.aE ⟨zj.J v,T2.dI.y (zj.J v) λ_ _=>id,λx l=>aJ l⟩;have G3:=G2.y (S:=λ_=>False) (zj.J v) λ_ x=>x.elim;let⟨o,F⟩:=JP<|rn r.m r.bQ kind ep r.op r.bF plain;have bc:T o=42+T plain:=by rw[<-F];exact P8 _ _ _ _ _ _ _ p
 have I:=F;rw[F];have e2:=u.dI.bT.i 2 O;go_wp2;refine(YF r.D r.d _ _ Á _ u.dI.fA b.F0 G3.Il).mono ?_;intro e w4 v';obtain⟨rfl,g,f⟩|⟨rfl,g,f⟩:=v'.st u.dI;rotate_left;refine⟨O,R,{r with d:=r.d.eS},?_,O,u.aE f⟩;grind [Sr.fc];have G:=u.aE f;have G4:=HG.y G.y b.cN;have bj:=g;have es:jW r.D<|r.d.gt (i:U)<|n++o:=by refine b.F0.step g<|b.fW.np ⟨À,À⟩ ?_ b.Ip;have h1:=b.fW.fU.mJ (i:U);have h2:=In r.d.L (i:U);have h4:=b.bU;have h5:T (Zm r.d.L (i:U)).1=T (jp r.d.L (i:U)):=O;simp only[zx];omega
 have f2:=G.dI.bT.i 2 O;go_wp2;refine(YH r.D (r.d.gt _ _) _ _ G.dI.fA es G4.Il).mono ?_;intro e P ba;obtain⟨rfl,g,f⟩|⟨rfl,g,f⟩:=ba.st (r:={r with d:=r.d.gt (i:U)<|n++o}) G.dI;rotate_left;refine⟨O,R,{r with d:=(r.d.gt _ _).eS},?_,O,G.aE f⟩;grind [Sr.fc];have k:=G.aE f;have bf:=g;have c:=(k.dI.fP s q).1;have g7:N P (K B 7)=zq s.S:=by rw[k.dI.bT.i 7 O];simp[Sr.G,Sr.my,q]
 have g4:N P (K B 4)=J r.bF:=k.dI.bT.i 4 O;have g5:N P (K B 5)=E r.bQ:=k.dI.bT.i 5 O;have k4:=k.dI.bT.dS 4;have k5:=k.dI.bT.dS 5;have s4:N P (K s.S 4)=J s.aQ:=c.bT.i 4 O;have j4:=c.bT.dS 4;have W:¬s.S=B:=λe=>c.bT.ne k.dI.bT Ã e;have bk:¬B=s.S:=λe=>W e.symm;go_wp2;have bd:wrap64 ((r.bF:U)+1)=((r.bF+1:Q):U):=by have:=b.bF;unfold wrap64;omega
 have y:(st o).extract (42+T plain-32) (42+T plain)=st (ua r.m r.bQ kind ep r.op r.bF plain):=by rw[<-xkv r.m r.bQ kind ep r.op r.bF plain p,I,<-bc,Pq,show T o-32=10+T plain by omega]
 rw[bd,y];go_ret;refine⟨Y 0,r.jI s kind ep plain,?_,O,k.aE ?_⟩;grind [Sr.fc];have hw:r.jI s kind ep plain={{r with d:=(r.d.gt (i:U)<|n++o).uC (i:U)}with bF:=r.bF+1,bQ:=ua r.m r.bQ kind ep r.op r.bF plain,sn:=Y {s with aQ:=(i:U)}}:=by unfold Sr.jI;rw[g',aw,I]
 rw[hw];exact Zd.Bg k.dI q
end
end P
end Go.Proofs.YtjnbhiamaabbgabGreatDoor
