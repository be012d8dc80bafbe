import Derived.Test.YtjnbhiamaabbgaaGreatDoorM5
import Derived.Shelf.Strings.Repeat
import Derived.Shelf.Strings.OnBuilder
import Derived.Shelf.Strings.BuilderK
set_option linter.all false
set_option maxRecDepth 100000
set_option maxHeartbeats 8000000
section
variable{P:Prop}
def ï(h:P:=by unfold kh;omega):P:=h
def zae(h:P:=by obtain⟨o,t,u⟩:∃o t,MJ w b D d k o t X:=⟨_,_,HM.o,hw▸DA,hw▸LA,KA,OA,hw▸B⟩):P:=h
def zbb(h:P:=by have:=o.o;grind):P:=h
def zbk(h:P:=by show _<=_;omega):P:=h
def zc0(h:P:=by show _=_;rw[s.o,l.o];show vK m a _=_;unfold vK;rw[aT t.o]):P:=h
def zc4(h:P:=by rw[this];exact⟨O,W.U λy f=>Y f,xh.y HL W v,h2,λy f=>Dk.mL d D y f⟩):P:=h
def zcn(h:P:=by have:=o.o;simp at this;(try simp);omega):P:=h
def zds(h:P:=by rw[s.o,l.o];show vK m a _=aw;unfold vK;rw[aL zbb]):P:=h
def ze4(h:P:=by exact⟨k+1,À,Å,by rw[s.o];exact f,p⟩;exact Ì):P:=h
def ze6(h:P:=by have:l=[]:=jv À;subst this;rfl):P:=h
end
namespace Go.Proofs.YtjnbhiamaabbgaaGreatDoor
open Go renaming Act->mh,Calls->aK,Ending->kH,Oper->eX,Program->cI,TypeId->oW,Value->eJ,World->dN,heap_alloc_new->xn,maxLen->pu,results->eR
open Go.Calls renaming quiet_of_same->qE
open Go.Code renaming region->fG
open Go.Departure renaming mixedOrders->nf
open Go.Ending renaming returned->ai
open Go.Exit renaming normal->eE
open Go.Instr renaming findKey->cB,lookup->fC,mapUpdate->im
open Go.IntKind renaming i64->bB,wrap_i64->zh
open Go.Lib renaming byteCells->hZ
open Go.Obj renaming cells->au
open Go.Proofs renaming intOf->bZ
open Go.Region renaming Mode->kJ,binds->fY,ready->aY,wanted->bP
open Go.Region.Mode renaming any->gH
open Go.Result renaming andThen->bN,ok->dG
open Go.RowKit renaming Below->aP,Hid->H
open Go.RowKit.Below renaming refl->zt
open Go.TypeDesc renaming string->oC
open Go.Value renaming agg->bY,bool->bG,iface->iW,int->Q,map->fu,pointer->aU,slice->aB,string->ak,tuple->cE
open Go.World renaming alloc->aF,cell?->N,frozen?->aX,news_of_block->gX,setCell->M,size_alloc->xp,heap->Z'
open _root_ renaming Array->bE,Bool->ez,ByteArray->eM,Int->U,List->bA,Nat->aD,Option->dD,absurd->dC,if_false->kB,if_neg->aL,if_pos->aT,if_true->dY,rfl->O,trivial->bD
open _root_.Array renaming replicate->cL,setIfInBounds->aA,size->V,toList->eV
open _root_.Bool renaming false->ao,true->ay
open _root_.Decidable renaming decide->bR
open _root_.False renaming elim->eT
open _root_.Function renaming comp_def->zc1
open _root_.Int renaming toNat->bL
open _root_.List renaming drop_eq_getElem_cons->Zx,length->T,length_append->zx,length_pos_iff->Z0,length_take->xf,replicate->bS,take_of_length_le->qp,take_succ_eq_append_getElem->zp,toArray->bH
open _root_.Option renaming none->aw,some->ac
open _root_.Or renaming inl->aJ,inr->Y
namespace P
open A.Tryq Go.RowKit
section
attribute [local go_sem] zn zg
def tH(k:Lk):bA U->Dk->ez×Dk
 |[],d=>(ay,d)|n::y,d=>if Ej k n=ay then tH k y d else if d.cS=ay then(ao,d.eS)else tH k y (d.qR n)
def rU.del{L}(h:rU L)(n):rU<|nS L n:=⟨λp a=>h.fU p<|LO a,xa (PT _ _) h.bF⟩
def Dk.sL(d:Dk)(n D x):(d.qR n).cN D x↔d.cN D x:=Dk.kO d D x
def Wd(k:Lk)(d:Dk):ez×Lk×Dk:=((tH k (Zk d.L) d).1,k,(tH k (Zk d.L) d).2)
def Zb(k:Lk)(d:Dk):ez×Lk×Dk:=
 if k.cQ=ay/\0<k.cY then(if d.cS=ay then(ao,k,d.eS)else Wd k (d.rL k.aQ (bL k.cY)))
 else if k.cQ=ay then(if d.cS=ay then(ao,k,d.eS)else Wd {k with aQ:=k.aQ-1} (d.qR k.aQ))
 else Wd k d
def Qz(C:Zv)(b:aD)(D:aD)(d:Dk)(w:Zy)(x:ez×Lk×Dk)(e:kH)(W:Zy):Prop:=
 e=(if x.1=ay then ai (cE #[])else kn C)/\zj (λy=>y=b\/d.cN D y) w W/\Jh W b x.2.1/\Jt W D x.2.2/\(∀y,x.2.2.cN D y->d.cN D y)
structure MJ(w:Zy)(b D:aD)(d:Dk)(k x:Lk)(z:Dk)(W:Zy):Prop where
 M:Zb k d=Wd x z
 A:Jt W D z
 L:Jh W b x
 K:jW D z
 O:∀y,z.cN D y->d.cN D y
 B:zj (λy=>y=b\/d.cN D y) w W
def xtv{cv}(b k D d w)(hl:Jh w b k)(hd:Jt w D d)(hk:jW D d)(b1:T d.L<1000000)(hG:xP cv w)(v:¬d.cN D b)(b2:b≠0)
  (hw:k.cQ=ay->0<=k.cY/\k.cY<=(T (jp d.L k.aQ):aD))(cf:-1000000000000<=k.aQ/\k.aQ<=1000000000000):
  aK prog 68 #[aU<|some ⟨b,0,aw⟩,aU<|some ⟨D,0,aw⟩] w (Qz cv b D d w<|Zb k d):=by
 have HL:=hl;have HD:=hd;have G:=hk;have HG:=hG;have HW:=hw;have be:N w ⟨b,15,aw⟩=bG k.cQ:=hl.i 15 O;have h1:N w ⟨b,16,aw⟩=Q bB k.cY:=hl.i 16 O;have b0:=hl.i 12 O;go_enter func68.1,Tryz.ntmps68;cases htn:k.cQ;focus
  rw[htn]at be;have HM:H<|Zb k d=Wd k d:=by show _=_;unfold Zb;rw[aL Á,aL Á]
  have DA:=HD;have LA:=HL;have KA:=G;have OA:∀y,d.cN D y->d.cN D y:=λ_ h=>h;have B:zj (λy=>y=b\/d.cN D y) w w:=zj.refl _ _;go_wp2;refine rC λX hw=>?_;obtain⟨o,t,u⟩:∃o t,MJ w b D d k o t X:=⟨_,_,HM.o,hw▸DA,hw▸LA,KA,OA,hw▸B⟩
 rotate_left;focus
  rw[htn]at be;obtain⟨cg,ch⟩:=HW htn;by_cases bl:0<k.cY;focus
   obtain⟨z,bk⟩:∃z:aD,k.cY=(z:U):=⟨bL k.cY,À⟩;rw[bk]at h1;have ho:H<|d.cS=ao->Zb k d=Wd k (d.rL k.aQ z):=λa=>by grind [Zb]
   have F:∀c,zj (d.cN D) w c->Jt c D d.eS->d.cS=ay->Qz cv b D d w (Zb k d) (kn cv) c:=λc W h2 h3=>by
    have:Zb k d=(ao,k,d.eS):=by unfold Zb;rw[aT ⟨htn,bl⟩,aT h3]
    exact zc4
   have CU:∀w1,Nw w w1->aK prog 108 #[aU<|some ⟨D,0,aw⟩,Q bB k.aQ,Q bB (z:U)] w1 (vF cv D d (Vm d.L k.aQ ((jp d.L k.aQ).take z,T ((jp d.L k.aQ).take z))) w1):=λw1 h=>xwt D d _ z w1 (HD.y h λ_ _=>id) G (HG.y h id) À;have S0:N w ⟨b,12,aw⟩=Q bB k.aQ/\N w ⟨b,16,aw⟩=Q bB (z:U):=⟨b0,h1⟩;have bv:=HL;have bx:∀c,Jh c b k->N c ⟨b,12,aw⟩=Q bB k.aQ/\N c ⟨b,16,aw⟩=Q bB (z:U):=λc L=>⟨L.i 12 O,by rw[<-bk];exact L.i 16 O⟩;go_wp2;go_region_held2 (λw'=>N w' ⟨b,12,aw⟩=Q bB k.aQ/\N w' ⟨b,16,aw⟩=Q bB (z:U)) (first|exact S0|exact S1)
    ((go_at_call 108;refine(CU _ (zj.refl _ _).W).mono ?_;rintro e c⟨l,⟨rfl,m,a⟩|⟨rfl,m,a⟩⟩;rotate_left;(exact⟨O,F _ ((zj.refl _ _).W.aE l) m a.o⟩);have v':zj (d.cN D) w c:=(zj.refl _ _).W.aE l;have bn:Jt c D<|d.rL k.aQ z:=m;have bd:H<|d.cS=ao:=a.o;have L:Jh c b k:=xh.y bv v' v;have S1:=bx c L))
   have HM:=xe<|ho.o bd.o;have DA:=bn;have LA:=L;have KA:jW D<|d.rL k.aQ z:=G.step bd.o<|G.fW.np ï (by have W:=G.fW.fU.mJ k.aQ;grind [Zm,jp]) b1;have OA:∀y,(d.rL k.aQ z).cN D y->d.cN D y:=λy f=>(Dk.kO d D y).1 f;have B:zj (λy=>y=b\/d.cN D y) w c:=v'.U λy f=>Y f;try clear hHeld
   go_wp2;refine rC λX hw=>?_;obtain⟨o,t,u⟩:∃o t,MJ w b D d k o t X:=⟨_,_,HM.o,hw▸DA,hw▸LA,KA,OA,hw▸B⟩
  rotate_left;focus
   have bj:k.cY=0:=À
   rw[bj]at h1;have ho:H<|d.cS=ao->Zb k d=Wd {k with aQ:=k.aQ-1} (d.qR k.aQ):=λa=>by grind [Zb]
   have F:∀c,zj (d.cN D) w c->Jt c D d.eS->d.cS=ay->Qz cv b D d w (Zb k d) (kn cv) c:=λc W h2 h3=>by
    have:Zb k d=(ao,k,d.eS):=by unfold Zb;rw[aL λx=>bl x.2,aT htn,aT h3]
    exact zc4
   go_wp2;refine(PR D d _ _ HD G HG).mono ?_;rintro e c⟨l,⟨rfl,m,a⟩|⟨rfl,m,a⟩⟩;rotate_left;exact⟨O,F _ l m a.o⟩;have L:=xh.y HL l v;have HM:=xe<|ho.o a.o;have cd:N c ⟨b,12,aw⟩=Q bB k.aQ:=L.i 12 O;have ce:=L.dS 12;have DA:Jt (M c ⟨b,12,aw⟩<|Q bB<|k.aQ-1) D<|d.qR k.aQ:=m.y (zj.H c _ _) λx hx e=>v (by have e:x=b:=e;rw[<-e];exact(Dk.sL d _ D x).1 hx);have LA:Jh (M c ⟨b,12,aw⟩<|Q bB<|k.aQ-1) b {k with aQ:=k.aQ-1}:=xh.H L 12 _;have KA:jW D<|d.qR k.aQ:=G.step a.o<|G.fW.del _;have OA:∀y,(d.qR k.aQ).cN D y->d.cN D y:=λy f=>(Dk.sL d _ D y).1 f;have B:zj (λy=>y=b\/d.cN D y) w<|M c ⟨b,12,aw⟩<|Q bB<|k.aQ-1:=(l.U λy f=>Y f).aE<|(zj.H c _ _).U λy f=>aJ f;have i1:-9223372036854775808<=k.aQ-1:=À
   go_wp2;refine rC λX hw=>?_;obtain⟨o,t,u⟩:∃o t,MJ w b D d k o t X:=⟨_,_,HM.o,hw▸DA,hw▸LA,KA,OA,hw▸B⟩
 all_goals
  replace u:=u;refine(LN D t X u.A u.K.fW).mono ?_;rintro e w1⟨p,g,cc,rfl,hp,hg,bi,cs⟩;have HP:=hp;have HR:=bi;have bo:=u.B.aE<|zj.J cs;have bm:=u.A.y (zj.J cs) λ_ _=>id;have bz:=xh.Y u.L cs;have bu:T (Zk t.L)<=1000000:=by show _<=_;rw[LP];exact u.K.fW.bF
  have b5:¬d.cN D g:=λx=>by have:=Dk.fg HD x;have:=u.B.Q;omega
  have br:=b5;obtain⟨s,bg⟩:∃s,Zk t.L=s:=⟨_,O⟩;have bc:=bg;rw[bg]at HP HR bu⊢;go_wp2;go_loopw [47] (λi wr=>∃(j:aD) (r:Dk),j<=T s/\i=Q bB j/\zj (λy=>y=b\/d.cN D y) w wr/\zj (λy=>d.cN D y) w1 wr/\Jh wr b o/\Jt wr D r/\jW D r/\(∀y,r.cN D y->d.cN D y)/\tH o (s.drop j) r=tH o s t) (λi _=>bL (T s-bZ i));exact⟨0,t,À,O,bo,zj.refl _ _,bz,bm,u.K,u.O,O⟩;obtain⟨j,r,hj,rfl,hb,b3,b7,b4,b9,bh,b8⟩:=hrel;have C:=hb;have g':=b3;have P:=b7;have S:=b4;have I:=b9;have q:=bh;have A:=b8;by_cases bf:j<T s
  ·have i1:(j:U)<(T s:aD):=by omega
   have ca:=HP (λe=>Á);subst ca;have hc:=(HR.y g' br) j bf;have bb:=Zx bf;generalize s[j]=n at*;go_wp2;refine(xcl b o n _ P).mono ?_;rintro e w2⟨rfl,cb⟩;obtain rfl:wr=w2:=cb.symm;cases hbl:Ej o n with
   |true=>
    have HN:H<|tH o (s.drop<|j+1) r=tH o s t:=by show _=_;rw[<-A,bb];simp only[tH,hbl,dY]
    go_wp2;go_roundw;exact⟨j+1,r,À,Å,C,g',P,S,I,q,HN.o⟩;exact Î
   |false=>
    have HN:H<|tH o (s.drop j) r=if r.cS=ay then(ao,r.eS)else tH o (s.drop<|j+1) (r.qR n):=by show _=_;rw[bb];simp only[tH,hbl,ja,kB]
    have GR:=HG.y C λx=>by obtain x|x:=x;exact b2 x.symm;exact G.sI x
    go_wp2;refine(PR D r n _ S I GR).mono ?_;rintro e c⟨l,⟨rfl,m,a⟩|⟨rfl,m,a⟩⟩;rotate_left;refine⟨O,?_⟩;rw[u.M];have hm:tH o s t=(ao,r.eS):=by rw[<-A,HN.o,aT a.o]
    unfold Wd;rw[bc,hm];exact⟨O,C.aE<|l.U λy f=>Y (q y f),xh.y P l λx=>v<|q _ x,m,λy f=>q y<|Dk.mL r D y f⟩;have bp:=C.aE<|l.U λy f=>Y (q y f);have ba:=g'.aE<|l.U λy f=>q y f;have bt:=xh.y P l λx=>v<|q _ x;have bq:=m;have bs:=I.step a.o<|I.fW.del n;have bw:H<|tH o (s.drop<|j+1) (r.qR n)=tH o s t:=by show _=_;rw[<-A,HN.o,aL<|by rw[a.o];decide]
    go_wp2;go_roundw;exact⟨j+1,r.qR n,À,Å,bp,ba,bt,bq,bs,λy f=>q y<|(Dk.sL r n D y).1 f,bw.o⟩;exact Î
  have b6:j=T s:=À
  subst b6;have HF:H<|tH o s t=(ay,r):=by show _=_;rw[<-A,Vl];rfl
  go_wp2;go_end0;rw[u.M];unfold Wd;rw[bc,HF.o];exact⟨O,C,P,S,q⟩
def sQ(k v:Zl):Zl:=nb (T k) 1++(nb (T v) 1++(k++v))
def vI:Vk->Zl
 | .put k v=>80::sQ k v| .del k=>68::(nb (T k) 1++k)
def ÿ(k v)(hk:T k<=1000000)(q:T v<=1000000)(w):aK prog 173 #[bY #[E k,E v]] w λe y=>e=ai (E<|sQ k v)/\aP (V<|Z' w) w y:=by
 have l1:=Z2 (T k) 1;have r:=Z2 (T v) 1;have W0:aP (V<|Z' w) w<|aF w<|au #[E k,E v] 86:=(zt _ _).alloc (zd _) _;have c:xh (aF w<|au #[E k,E v] 86) (V<|Z' w) #[E k,E v] 86:=xh.ex _ _ _;have d:¬9223372036854775807<2+T k:=À
 have f:¬9223372036854775807<1+(1+T k):=À
 have g:¬9223372036854775807<1+1+T k+T v:=À
 have i:¬9223372036854775807<2+T k+T v:=À
 have j:¬9223372036854775807<1+(1+T k)+T v:=À
 have l:¬9223372036854775807<1+(1+(T k+T v)):=À
 have m:¬9223372036854775807<2+(T k+T v):=À
 have n:¬9223372036854775807<1+1+(T k+T v):=À
 go_enter func173.1,Tryz.ntmps173;go_wp2;generalize aF w (au #[E k,E v] 86)=W at*;have a:∀w1,aP (V<|Z' W) W w1->N w1 (zq (V<|Z' w) 0)=E k/\N w1 (zq (V<|Z' w) 1)=E v:=λw1 h=>⟨(c.Y h).i 0 O,(c.Y h).i 1 O⟩;have b:aP (V<|Z' W) W W.drew:=(zt _ _).drew;go_region_held3 (λy=>N y (zq (V<|Z' w) 0)=E k/\N y (zq (V<|Z' w) 1)=E v) (first|exact(a W<|zt _ _)|exact o)
  ((go_at_call 153;refine(Hz _ _).mono ?_;rintro e w1⟨rfl,p⟩;replace b:=Xs b p;have o:=a _ b))
 try clear hHeld
 go_wp2;go_ret;exact⟨by simp only[sQ,jq];rfl,W0.trans<|b.mono W0.size⟩
def xd5(k v)(hk:T k<=1000000)(c:T v<=1000000)(w):aK prog 324 #[bY #[ak<|st k,ak<|st v]] w λe W=>e=ai (ak<|st (80::sQ k v))/\aP (V<|Z' w) w W:=by
 have b:H<|(⟨#[80]⟩:eM)++st (sQ k v)=st (80::sQ k v):=by show _=_;rw[show(⟨#[80]⟩:eM)=st [80]from O,zg];rfl
 have d:T (sQ k v)<=2000002:=by simp[sQ,Z2];omega
 go_enter func324.1,Tryz.ntmps324;go_wp2;apply(ÿ k v hk c _).mono;rintro e w1⟨rfl,a⟩;go_wp2;go_ret;exact⟨by rw[<-b.o];rfl,((zt _ _).alloc (zd _) _).trans<|a.mono Â⟩
def xcy(k)(hk:T k<=1000000)(w):aK prog 325 #[bY #[ak<|st k]] w λe y=>e=ai (ak<|st (68::(nb (T k) 1++k)))/\aP (V<|Z' w) w y:=by
 have l1:=Z2 (T k) 1;have f:H<|((⟨#[68]⟩:eM)++st (nb (T k) 1))++st k=st (68::(nb (T k) 1++k)):=by show _=_;rw[show(⟨#[68]⟩:eM)=st [68]from O,zg,zg];rfl
 have W0:aP (V<|Z' w) w<|aF w<|au #[ak<|st k] 88:=(zt _ _).alloc (zd _) _;have d:xh _ (V<|Z' w) #[ak<|st k] 88:=xh.ex _ _ _;have c:¬9223372036854775807<2+T k:=À
 go_enter func325.1,Tryz.ntmps325;go_wp2;generalize aF w _=W at*;have a:∀w1,aP (V<|Z' W) W w1->N w1 ⟨V<|Z' w,0,aw⟩=ac _:=λw1 h=>(d.Y h).i 0 O;have b:aP (V<|Z' W) W W.drew:=(zt _ _).drew;go_region_held3 (λy=>N y ⟨V<|Z' w,0,aw⟩=(ak<|st k)) (first|exact(a W<|zt _ _)|exact g)
  ((go_at_call 153;apply(Hz _ _).mono;rintro e w1⟨rfl,i⟩;replace b:=Xs b i;have g:=a _ b))
 try clear hHeld
 go_wp2;go_ret;exact⟨by rw[<-f.o];rfl,W0.trans<|b.mono W0.size⟩
structure Mf where
 ep:aD
 op:aD
 bF:aD
 bC:aD
 bM:aD
 cW:aD
 gT:aD
 ga:Zl
 aQ:Zl
def Mf.G(m:Mf):Za:=#[Q bB (m.ep:U),Q bB (m.op:U),Q bB (m.bF:U),Q bB (m.bC:U),Q bB (m.bM:U),Q bB (m.cW:U),Q bB (m.gT:U),ak<|st m.ga,ak<|st m.aQ]
def Mf.V(m:Mf):Zv:=bY m.G
def Mf.lM(m:Mf)(i:aD):Zl:=67::(nb m.ep 1++(nb m.op 2++(nb m.bC 2++nb i 2)))
abbrev MC(b:aD)(m:Mf)(r:Zl)(w:Zy):Prop:=N w (zq b 0)=J m.ep/\N w (zq b 1)=J m.op/\N w (zq b 2)=J m.bF/\N w (zq b 3)=J m.bC/\N w (zq b 4)=J m.bM/\N w (zq b 5)=J m.cW/\N w (zq b 6)=J m.gT/\N w (zq b 7)=E r/\N w (zq b 8)=E m.aQ
def xh.mc{w b m a}(h:xh w b #[J m.ep,J m.op,J m.bF,J m.bC,J m.bM,J m.cW,J m.gT,ak<|P.st a,ak<|P.st m.aQ] 185):MC b m a w:=⟨h.i 0 O,h.i 1 O,h.i 2 O,h.i 3 O,h.i 4 O,h.i 5 O,h.i 6 O,h.i 7 O,h.i 8 O⟩
def xo9(m:Mf)(i:aD)(w):aK prog 175 #[m.V,Q bB (i:U)] w λe y=>e=ai (ak<|st<|m.lM i)/\aP (V<|Z' w) w y:=by
 have l1:=Z2 m.ep 1;have j:=Z2 m.op 2;have k:=Z2 m.bC 2;have l:=Z2 i 2;have g:H<|(⟨#[67]⟩:eM)++st (nb m.ep 1)++st (nb m.op 2)++st (nb m.bC 2)++st (nb i 2)=st (m.lM i):=by show _=_;rw[show(⟨#[67]⟩:eM)=st [67]from O];simp only[zg];simp[Mf.lM]
 have W0:aP (V<|Z' w) w<|aF w<|au m.G 185:=(zt _ _).alloc (zd _) _;have c:xh (aF w<|au m.G 185) (V<|Z' w) m.G 185:=xh.ex _ _ _;unfold Mf.V;unfold Mf.G at*;go_enter func175.1,Tryz.ntmps175;go_wp2;generalize aF w (au _ 185)=W at*;have b:∀w1,aP (V<|Z' W) W w1->N w1 ⟨V<|Z' w,0,aw⟩=Q bB (m.ep:U)/\N w1 ⟨V<|Z' w,1,aw⟩=Q bB (m.op:U)/\N w1 ⟨V<|Z' w,3,aw⟩=Q bB (m.bC:U):=λw1 h=>⟨(c.Y h).i 0 O,(c.Y h).i 1 O,(c.Y h).i 3 O⟩;have a:aP (V<|Z' W) W W.drew:=(zt _ _).drew;go_region_held3 (λy=>N y ⟨V<|Z' w,0,aw⟩=Q bB (m.ep:U)/\N y ⟨V<|Z' w,1,aw⟩=Q bB (m.op:U)/\N y ⟨V<|Z' w,3,aw⟩=Q bB (m.bC:U)) (first|exact(b W<|zt _ _)|exact f)
  (first
   |(go_at_call 153;refine(Hz _ _).mono ?_;rintro e w1⟨rfl,d⟩;replace a:=Xs a d;have f:=b _ a)
   |(go_at_call 154;refine(Lx _ _).mono ?_;rintro e w1⟨rfl,d⟩;replace a:=Xs a d;have f:=b _ a))
 try clear hHeld
 go_wp2;go_ret;exact⟨by rw[<-g.o];rfl,W0.trans<|a.mono W0.size⟩
def fE(n:U):aD:=if n=10001 then 10002 else 10001
def yH(n w):aK prog 174 #[J n] w λe W=>e=ai (J<|fE n)/\W=w:=by
 have a:H<|fE n=if n=10001 then 10002 else 10001:=O;go_enter func174.1,Tryz.ntmps174;by_cases h:n=10001
 ·subst h;go_wp2;go_ret;exact⟨by rw[a.o];rfl,O⟩
 go_wp2;go_ret;exact⟨by rw[a.o,aL h];rfl,O⟩
end
end P
namespace A
open Tryq Go Go.RowKit Go.Shelf
def pI{P:Zp}{i:aD}{f g}(h:P.funcs[i]?=ac f)(e:f=g):P.funcs[i]?=ac g:=e▸h
def Tryq.func160:prog.funcs[160]?=ac Tryz.f160:=Hi Ã Tryz.func160
def Tryq.func209:prog.funcs[209]?=ac Tryz.f209:=Hi Ã Tryz.func209
def Tryq.kF:Ren:={f:=λx=>match x with|105=>93|212=>145|99=>146|165=>147|166=>101|170=>148|169=>102|263=>202|264=>203|206=>204|240=>160|241=>205|276=>209|277=>251|156=>119|n=>n,t:=λx=>match x with|9=>9|3=>3|4=>4|20=>20|0=>0|46=>162|109=>219|5=>5|72=>179|76=>180|51=>243|146=>266|53=>240|148=>268|70=>177|37=>163|75=>169|127=>229|164=>283|80=>113|31=>49|n=>n,g:=λx=>x}
def Tryq.Bi:Lays.n105 prog kF:=by
 constructor
 case mixed=>kernel_rfl
 case f99=>exact pI func146.1 Ä
 case f105=>exact pI func93.1 Ä
 case f165=>exact pI func147.1 Ä
 case f166=>exact pI func101.1 Ä
 case f169=>exact pI func102.1 Ä
 case f170=>exact pI func148.1 Ä
 case f206=>exact pI func204.1 Ä
 case f212=>exact pI func145.1 Ä
 case f240=>exact pI func160 Ä
 case f241=>exact pI func205.1 Ä
 case f263=>exact pI func202.1 Ä
 case f264=>exact pI func203.1 Ä
 case f276=>exact pI func209 Ä
 case f277=>exact pI func251 Ä
 all_goals (intros;simp[kF])
def Tryq.ub:Lays.n156 prog kF:=by
 constructor
 case mixed=>kernel_rfl
 case f156=>exact pI func119.1 Ä
 case f165=>exact pI func147.1 Ä
 case f166=>exact pI func101.1 Ä
 case f169=>exact pI func102.1 Ä
 case f240=>exact pI func160 Ä
 case f241=>exact pI func205.1 Ä
 case f276=>exact pI func209 Ä
 case f277=>exact pI func251 Ä
 all_goals (intros;simp[kF])
def Tryq.vH:Lays.n166 prog kF:=by
 constructor
 case mixed=>kernel_rfl
 case f166=>exact pI func101.1 Ä
 case f240=>exact pI func160 Ä
 case f276=>exact pI func209 Ä
 all_goals (intros;simp[kF])
def Tryq.vG:Lays.n169 prog kF:=by
 constructor
 case mixed=>kernel_rfl
 case f169=>exact pI func102.1 Ä
 all_goals (intros;simp[kF])
def Tryq.jP:Builder.Extra prog kF where
 sizeBuilder:=Ä
 liesBuilder:=Ä
 t5:=(eZ 5).trans Tryz.underlying5
 a5:=λw=>(AN 5 w).trans<|Tryz.isAgg5 w
 z5:=λw=>(yn 5 w).trans<|Tryz.sizeOf5 w
 v5:=λw=>(D3 5 w).trans<|Tryz.zeroValue5 w
 infoByte:=Ä
 cellsByte:=Ä
 sizeByte:=Ä
 neB5:=Ã
end A
namespace P
variable{B b a S op C n m g j z:aD}{w w':Zy}{l k q p x:Zl}{v cv tv:Zv}{L:KV}{xs:bA Zl}{r r':Sr}{s:kE}{t:Zt}
open A.Tryq
section
open Go.RowKit
attribute [local go_sem] zn zg
def Yn:Zl:=bS 32 0
def xib(w):aK prog 93 #[ak ⟨#[0]⟩,J 32] w λe w'=>e=ai (E Yn)/\aP (V<|Z' w) w w':=
 (Any.strings_Repeat Bi jP ⟨#[0]⟩ 32 w Ã Ã).mono λe w'⟨a,b⟩=>⟨a.trans<|by rw[show Lib.repeatL (eV (⟨#[0]⟩:eM).data) 32=Yn from Ã];rfl,b⟩
def þ(w):aK prog 58 #[] w λe w'=>e=ai (E Yn)/\aP (V<|Z' w) w w':=by go_enter func58.1,Tryz.ntmps58;go_wp2;apply(xib _).mono;rintro e w1⟨rfl,a⟩;go_wp2;go_ret;simp_all
def Ae(B b:aD)(l:Zl)(w:Zy):Prop:=Lib.IsBuilder 179 5 B b (hZ l) w
theorem Ae.ex(w:Zy):Ae (V<|Z' w) (V<|Z' w) []<|aF w<|au #[aU aw,aB aw 0 0] 179:=Lib.fresh_isBuilder _ _ _
def Ċ{d p y}(h:Lib.BuilderAt 179 5 B b p y w)(i:aP d w w')(f:V (Z' w)<=d):Lib.BuilderAt 179 5 B b p y w':=by have⟨W,v,u,o,D⟩:=h;refine⟨W,v,?_,?_,D⟩;exact(i.block b<|zm (za.1 u).1 f).trans u;refine⟨o.1,o.2.imp id ?_⟩;rintro⟨g,a,c,j,k,e,l⟩;exact⟨g,a,c,j,k,(i.block g<|zm (za.1 e).1 f).trans e,l⟩
def Ae.Y(h:Ae B b l w)(d:aP a w w')(c:V (Z' w)<=a):Ae B b l w':=
 h.imp (λh=>Ċ h d c) λh=>Ċ h d c
def Ď(a b):hZ (a++b)=hZ a++hZ b:=by simp[hZ]
def ċ(B b l s w)(h:Ae B b l w)(c:T l+T s<=140737488355328)(a:B<=V (Z' w)):
  aK prog 101 #[K b,E s] w λe w'=>e=ai (cE #[J (T s),.nilIface])/\Ae B b (l++s) w'/\aP B w w':=
 (Any.Builder_WriteString vH jP B b _ (st s) w h (by grind [hZ,zn]) a).mono λe w'⟨d,f,g⟩=>⟨d.trans<|by rw[zn],Y<|by rw[Ď];exact f,g⟩
def xif(B b l w)(h:Ae B b l w)(a:B<=V (Z' w)):
  aK prog 102 #[K b] w λe w'=>e=ai (E l)/\aP B w w':=
 Any.Builder_String_any vG jP B b l w h a
def qX:Vk->Prop
 | .put k v=>k≠[]/\T k<=16/\T v<=32| .del k=>k≠[]/\T k<=16
def Z5(D:bA Vk):Zl:=D.flatMap vI
def QD{c}(h:qX c):T (vI c)<=51:=by
 cases c with
 |put k v=>simp[vI,sQ,Z2];have:=h.2.1;have:=h.2.2;omega
 |del k=>simp[vI,Z2];have:=h.2;omega
theorem Iw:∀{D:bA Vk},(∀c∈D,qX c)->T (Z5 D)<=51*T D
 |[],_=>by simp[Z5]|c::D,h=>by have b:=QD (h c Â);have d:=Iw λx a=>h x<|jw _ a;grind [Z5]
def ď(D c):Z5 (D++[c])=Z5 D++vI c:=by simp[Z5]
def AD{a}(h:N w a=ac v):a.block<V (Z' w):=rv
def xys(x w):(method 513 86 x "coffer/coffer.plainText").run prog w=dG (324,x) w:=Ä
def xyt(x w):(method 513 88 x "coffer/coffer.plainText").run prog w=dG (325,x) w:=Ä
def zxa(g cap D)(hx:T D<=1000000)(F:∀c∈D,qX c)(w)(d:yA w g D):
  aK prog 66 #[aB (ac ⟨g,0,aw⟩) (T D) cap] w λe w'=>e=ai (ak<|st<|Z5 D)/\aP (V<|Z' w) w w':=by
 have I:yA w g D/\(D≠[]->g<V (Z' w)):=⟨d,λh=>by have:=d 0<|Z0.2 h;exact AD this⟩;have u:=F;have P:=Ae.ex w;have W0:aP (V<|Z' w) w<|aF w<|au #[aU aw,aB aw 0 0] 179:=(zt _ _).alloc (zd _) _;go_enter func66.1,Tryz.ntmps66;go_wp2;generalize aF w (au #[aU aw,aB aw 0 0] 179)=W at*;go_loopw [8] (λi wr=>∃k:aD,k<=T D/\i=Q bB k/\Ae (V<|Z' w) (V<|Z' w) (Z5<|D.take k) wr/\aP (V<|Z' w) w wr) (λi _=>bL (T D-bZ i));exact⟨0,À,O,P,W0⟩;obtain⟨k,hk,rfl,G,B⟩:=hrel;by_cases l:k<T D
 ·have ho:(k:U)<(T D:aD):=by omega
  have A:=I.2 Á;have o:=(B.cell A).trans<|I.1 k l;have b:=u D[k]<|Xk l;have s:H<|Z5 (D.take<|k+1)=Z5 (D.take k)++vI D[k]:=by show _=_;rw[zp l,ď]
  have S:T (Z5<|D.take k)<=51*k:=by have:=Iw (D:=D.take k) λx hd=>u x<|Fq hd;rw[xf,DL hk]at this;exact this
  have n:=B;have X:=G;obtain⟨c,h1⟩:∃c,D[k]=c:=⟨_,O⟩;rw[h1]at o s b;generalize Z5 (D.take k)=l1 at*;cases c with
  |put ky v=>
   have r:ky≠[]/\T ky<=16/\T v<=32:=b;have C:N wr ⟨g,k,aw⟩=(iW 86<|bY #[ak<|st ky,ak<|st v]):=o;have z:=xys (bY #[ak<|st ky,ak<|st v]) wr;have q:=QD (c:= .put ky v) b;clear o b;go_wp2;refine(xd5 ky v À À _).mono ?_;rintro e w1⟨rfl,a⟩;have m:=Xs n a;have t:=X.Y a<|zd _;go_wp2;refine(ċ (V<|Z' w) (V<|Z' w) l1 (vI<|.put ky v) _ t À m.size).mono ?_;rintro e h2⟨rfl,y,j⟩;have f:=y;have p:=m.trans j;go_wp2;go_roundw;exact⟨k+1,À,Å,by rw[s.o];exact f,p⟩;exact Ì
  |del ky=>have r:ky≠[]/\T ky<=16:=b;have C:N wr ⟨g,k,aw⟩=(iW 88<|bY #[ak<|st ky]):=o;have z:=xyt (bY #[ak<|st ky]) wr;have q:=QD (c:= .del ky) b;clear o b;go_wp2;refine(xcy ky À _).mono ?_;rintro e w1⟨rfl,a⟩;have m:=Xs n a;have t:=X.Y a<|zd _;go_wp2;refine(ċ (V<|Z' w) (V<|Z' w) l1 (vI<|.del ky) _ t À m.size).mono ?_;rintro e h2⟨rfl,y,j⟩;have f:=y;have p:=m.trans j;go_wp2;go_roundw;exact⟨k+1,À,Å,by rw[s.o];exact f,p⟩;exact Ì
 obtain rfl:k=T D:=À
 rw[jz]at G;have L:=G;have n:=B;go_wp2;refine(xif (V<|Z' w) (V<|Z' w) (Z5 D) _ L n.size).mono ?_;rintro e w1⟨rfl,a⟩;have cs:=n.trans a;go_wp2;go_ret;simp_all
end
section
open Go.RowKit
section
variable{c:UInt8}{y:bA UInt8}
end
section
variable{m o:bA UInt8}{c:UInt8}{p y:bA UInt8}
end
end
section
open Go.RowKit
attribute [local go_sem] zn zg
section
variable{P:cI}{w:dN}{t y o:oW}
def yI(g:P.underlying t=ac (.map y o))(hk:P.underlying y=ac oC)(i:∀w,(zeroValue o).run P w=dG (rB []) w)(h:Je w m L)(k):
  (fC t (fu<|some m) (E k) ao).run P w=dG (rB<|(Xg L k).getD []) w:=by
 have⟨W,D,X,F,u⟩:=h;have f:=Yg (P:=P) X;have d:=LH hk (st k) 9999;obtain⟨a,b,_,_⟩|⟨j,v,e,a,b,_,_,_,_⟩:=Ic k L (eV W) 0 F;have c:(cB y (E k) (eV W)).run P w=dG aw w:=ô
 simp[fC,xo g,bN,f,d,c,i,a];have c:(cB y (E k) (eV W)).run P w=dG (ac (0+j,rB v)) w:=ô
 simp[fC,xo g,bN,f,d,c,a]
end
def oT(L:KV)(k:Zl):Zl:=sQ k<|(Xg L k).getD []
def iF(L:KV):Zl:=(Vv L).flatMap<|oT L
def rY(L:KV):Prop:=∀p∈L,p.1≠[]/\T p.1<=16/\T p.2<=32
theorem LX(L):T (Vv L)=T L:=by rw[Vv,(Xo _ _).length_eq,jl]
theorem Ē:k∈Vv L↔k∈L.map (·.1):=(Xo _ _).mem_iff
def Ė:∀{L:KV} {k v:Zl},Xg L k=ac v->(k,v)∈L
 |[],k,v,h=>È
 |p::L,k,v,h=>by unfold Xg at h;split at h;grind;exact jw _<|Ė h
def rY.Er(h:rY L)(k):T ((Xg L k).getD [])<=32:=by cases y:Xg L k with|none=>simp|some v=>exact(h _<|Ė y).2.2
def rY.Qg(h:rY L)(hk:k∈Vv L):k≠[]/\T k<=16:=by rw[Ē,Xe]at hk;obtain⟨p,a,rfl⟩:=hk;exact⟨(h p a).1,(h p a).2.1⟩
def ud(h:rY L)(hk:T k<=16):T (oT L k)<=50:=by have:=h.Er k;grind [oT,sQ,Z2]
def qW{L}(h:rY L):∀{ks:bA Zl},(∀k∈ks,T k<=16)->T (ks.flatMap<|oT L)<=50*T ks
 |[],_=>by simp|k::ks,hk=>by have b:=ud h<|hk k xu;have c:=qW h λx a=>hk x<|jw _ a;grind
def It(s w):(Instr.field 94 (bY #[ak s]) 0).run prog w=dG (ak s) w:=Ä
def yE(B b:aD)(l:Zl)(w:Zy):Prop:=Lib.IsBuilderF 179 5 B b (hZ l) w
theorem yE.ex(w:Zy):yE (V<|Z' w) (V<|Z' w) []<|aF w<|au #[aU aw,aB aw 0 0] 179:=Lib.IsBuilderF.of<|Lib.fresh_isBuilder _ _ _
def ĉ{d p y}(h:Lib.BuilderAtF 179 5 B b p y w)(i:aP d w w')(f:V (Z' w)<=d):Lib.BuilderAtF 179 5 B b p y w':=by have⟨W,v,u,o,D⟩:=h;refine⟨W,v,?_,?_,D⟩;exact(i.block b<|zm (za.1 u).1 f).trans u;refine⟨o.1,o.2.imp id ?_⟩;rintro⟨g,a,c,m,j,k,e,l⟩;exact⟨g,a,c,m,j,k,(i.block g<|zm (za.1 e).1 f).trans e,l⟩
def yE.Y(h:yE B b l w)(d:aP a w w')(c:V (Z' w)<=a):yE B b l w':=
 h.imp (λh=>ĉ h d c) λh=>ĉ h d c
def pY(B b l s w)(h:yE B b l w)(c:T l+T s<=140737488355328)(a:B<=V (Z' w)):
  aK prog 101 #[K b,E s] w λe w'=>e=ai (cE #[J (T s),.nilIface])/\yE B b (l++s) w'/\aP B w w'/\Lib.OthersKept 5 (ac b) w w':=
 (Any.Builder_WriteString_k vH jP B b _ (st s) w h (by grind [hZ,zn]) a).mono λe w'⟨d,f,g,i⟩=>⟨d.trans<|by rw[zn],Y<|by rw[Ď];exact f,g,i⟩
def uW(B b l w)(h:yE B b l w)(a:B<=V (Z' w)):
  aK prog 102 #[K b] w λe w'=>e=ai (E l)/\aP B w w':=
 (Any.Builder_String_any_k vG jP B b l w h a).mono λe w' h=>⟨h.1,h.2.2.1⟩
def yN(w:Zy)(g:aD)(xs:bA Zl):Prop:=∃c,w.heap[g]?=ac (au c 9 (0,0))/\∀i (h:i<T xs),c[i]?=(ak<|st xs[i])
def yN.i(h:yN w g xs)(i)(a:i<T xs):N w (zq g i)=(ak<|st xs[i]):=by have⟨c,y,u⟩:=h;grind [N]
def yN.iQ(h:yN w g xs)(hk:Lib.OthersKept 5 (ac b) w w')(a:g≠b):yN w' g xs:=by have⟨y,u,o⟩:=h;exact⟨y,hk g _ u (λe=>a<|ql e) (λc d e=>Æ),o⟩
def yN.Y(h:yN w g xs)(b:aP B w w')(a:V (Z' w)<=B):yN w' g xs:=by have⟨c,y,u⟩:=h;exact⟨c,(b.block g<|zm (za.1 y).1 a).trans y,u⟩
def QC{f}(c:∀x,f x=E x)(h:w.ownsRow B 9 1 v (T xs)<|xs.map f):(v=aB aw 0 0/\xs=[])\/∃g cap,v=aB (ac ⟨g,0,aw⟩) (T xs) cap/\T xs<=cap/\B<=g/\yN w g xs:=by
 obtain⟨b,n⟩|⟨g,cap,a,m,d,e,k,o,p,l⟩:=h.2;grind;refine Y ⟨g,cap,m,k,d,a,e,λi j=>?_⟩;have b:(a.toList.take<|T xs*1)[i]?=(ak<|st xs[i]):=by rw[l];simp[j,c]
 grind
def rE(m L)(hL:T L<=5000000)(G:rY L)(w)(hm:Je w m L):
  aK prog 111 #[fu<|some m] w λe w'=>e=ai (ak<|st<|iF L)/\aP (V<|Z' w) w w':=by
 have A:=hm;have q:=G;have hd:=yE.ex w;have W0:aP (V<|Z' w) w<|aF w<|au #[aU aw,aB aw 0 0] 179:=(zt _ _).alloc (zd _) _;have be:V (Z' w)<V (aF w<|au #[aU aw,aB aw 0 0] 179).heap:=Â
 go_enter func111.1,Tryz.ntmps111;go_wp2;generalize aF w (au #[aU aw,aB aw 0 0] 179)=W at*;apply(YC m _).mono;rintro e w1⟨rfl,d⟩;have f:aP (V<|Z' W) W w1:=by show aP _ _ _;rw[d];exact(zt _ _).alloc (zd _) _
 have y:H<|N w1 ⟨V<|Z' W,0,aw⟩=(fu<|some m):=by show _=_;rw[d];exact(xh.ex W _ 91).i 0 O
 have cs:V (Z' W)<V (Z' w1):=by rw[d];simp
 have h1:=Xs W0 f;have g':=hd.Y f<|zd _;clear d f hd W0;go_wp2;apply(YB m _ L _ (A.y (S:=λ_=>False) (zj.J h1) id) y.o cs (λp u=>by have:=(q p u).2.1;omega) À).mono;rintro e w2⟨v,rfl,c,r⟩;have W2:=Xs h1 r;have S2:=g'.Y r<|zd _;obtain⟨ks,j⟩:∃ks,Vv L=ks:=⟨_,O⟩;have bc:T ks<=5000000:=by rw[<-j,LX];exact hL
 rw[j]at c;obtain⟨a,ba,rfl,es⟩:=Wo c;have HP:ks≠[]->∃g,a=ac ⟨g,0,aw⟩/\yN w2 g ks/\V (Z' w)<g:=λbd=>by rcases QC (λ_=>O) c with⟨_,h⟩|⟨g,cap',hv,_,h2,hr⟩;grind;grind
 go_wp2;go_loopw [10] (λi wr=>∃k:aD,k<=T ks/\i=Q bB k/\yE (V<|Z' w) (V<|Z' w) ((ks.take k).flatMap<|oT L) wr/\aP (V<|Z' w) w wr/\(ks≠[]->∃g,a=ac ⟨g,0,aw⟩/\yN wr g ks/\V (Z' w)<g)) (λi _=>bL (T ks-bZ i));grind;obtain⟨k,hk,rfl,I,C,u⟩:=hrel;by_cases l:k<T ks
 ·have i1:(k:U)<(T ks:aD):=by omega
  obtain⟨g,rfl,s,h2⟩:=u Á;have hc:=s.i k l;have hx:H<|(ks.take<|k+1).flatMap (oT L)=(ks.take k).flatMap (oT L)++oT L ks[k]:=by show _=_;rw[zp l,Wz,Wi,List.flatMap_nil,Xz]
  have o:∀k∈ks,k≠[]/\T k<=16:=λk hk=>q.Qg Á;have HL:T ((ks.take k).flatMap<|oT L)<=50*k:=by have:=qW q (ks:=ks.take k) λx P=>(o x<|Fq P).2;rw[xf,DL hk]at this;exact this
  have n:=(o _<|Xk l).2;have t:=C;obtain⟨x,P⟩:∃x,ks[k]=x:=⟨_,O⟩;rw[P]at hc hx n;have F:=yI CJ dK PI (A.y (S:=λ_=>False) (zj.J C) id) x;unfold rB at F;have h3:=q.Er x;have z:H<|oT L x=sQ x ((Xg L x).getD []):=O;have X:=ud q n;generalize(Xg L x).getD []=v at*;have bb:=It (st v) wr;generalize oT L x=en at*;generalize(ks.take k).flatMap (oT L)=l1 at*;go_wp2;apply(ÿ x v À À _).mono;rintro e w3⟨rfl,b⟩;have ho:=Xs t b;have B:=I.Y b<|zd _;have R3:=s.Y b<|zd _;rw[<-z.o];go_wp2;apply(pY _ _ l1 en _ B À ho.size).mono;rintro e w4⟨rfl,S4,D,v'⟩;go_wp2;go_roundw;exact⟨k+1,À,Å,by rw[hx.o];exact S4,ho.trans D,λ_=>⟨g,O,R3.iQ v' À,h2⟩⟩;exact Ì
 obtain rfl:k=T ks:=À
 rw[jz]at I;have B:yE (V<|Z' w) (V<|Z' w) (iF L) wr:=by unfold iF;rw[j];exact I
 have t:=C;go_wp2;apply(uW _ _ _ _ B t.size).mono;rintro e w3⟨rfl,b⟩;have H1:=t.trans b;go_wp2;go_ret;simp_all
def kE.pi(s:kE):kE:={s with L:=gh s.L s.P,pv:=aB aw 0 0,P:=[]}
def Sr.fm(r:Sr)(s:kE):dD U×Sr:=
 if s.P=[]then(ac 0,r)
 else if(r.fc s [82] s.ep<|Z5 s.P).1=ac 0 then(ac 0,{(r.fc s [82] s.ep<|Z5 s.P).2 with sn:=ac ({s with aQ:=(r.cD s).1}:kE).pi})
 else r.fc s [82] s.ep (Z5 s.P)
def Ć(a:r.sn=ac s)(h:r.fc s q S p=(ac 0,r')):r'.sn=ac {s with aQ:=(r.cD s).1}:=by unfold Sr.fc at h;split at h;cases h;split at h;cases h;split at h;cases h;split at h;cases h;cases h;rfl
def zxz{a}(b:r.sn=ac s)(h:r.fc s q S p=(a,r')):∃l,r'.sn=ac {s with aQ:=l}:=by unfold Sr.fc at h;split at h;cases h;exact⟨s.aQ,b⟩;split at h;cases h;exact⟨s.aQ,b⟩;split at h;cases h;exact⟨s.aQ,b⟩;split at h;cases h;exact⟨s.aQ,b⟩;cases h;exact⟨_,O⟩
def Zd.Eo{w1}(h:Vq w B r)(d:r.sn=ac s)(j:zj (·=s.mp) w w1)(p:Je w1 s.mp<|gh s.L s.P):
  Zd B r w {r with sn:=ac s.pi} (M w1 (zq s.S 1)<|aB aw 0 0):=by
 have⟨k,u⟩:=h.fP s d;have⟨W,c,y⟩:=k.jS.bT;have f:=k.bT.gV y;have m:=h.bT.gV y;have o:s.S≠B:=λe=>k.bT.ne h.bT Ã e;have g:zj (λx=>x=s.mp\/x=s.S) w<|M w1 (zq s.S 1)<|aB aw 0 0:=(j.U λx b=>aJ b).aE<|(zj.H w1 _ _).U λx b=>Y b;refine⟨g.U λx b=>?_,⟨?_,?_,λt i=>?_⟩,λx b=>?_⟩;obtain e|e:=b;exact Y<|Y ⟨s,d,Y<|aJ e⟩;exact Y<|Y ⟨s,d,aJ e⟩;have:=h.bT.y g À
 grind [Sr.G,Sr.my,kE.pi];refine h.fA.y g λx b e=>?_;refine h.fh d ?_ b;obtain e|e:=e;exact Y<|aJ e;exact aJ e;cases i;refine⟨⟨?_,?_,?_⟩,u⟩;have l:=k.bT.y j f;exact l.H 1 _;exact p.y (zj.H w1 _ _) λe=>f e.symm;exact jk _ _ _ _;obtain e|e|⟨t,e,b⟩:=b;exact aJ<|aJ e;exact aJ<|Y<|aJ e;cases e;obtain e|e|⟨a,n,c,q,e⟩:=b;exact aJ<|Y<|Y ⟨s,d,aJ e⟩;exact aJ<|Y<|Y ⟨s,d,Y<|aJ e⟩;cases q
def Iu{f u A}{y:Sr->Zy->Prop}(h:aK prog f u w λe w'=>∃a r',A=(a,r')/\e=FZ cv a/\y r' w'):
  aK prog f u w λe w'=>(∃v r',A=(ac v,r')/\e=ai (J v)/\y r' w')\/(∃r',A=(aw,r')/\e=kn cv/\y r' w'):=
 h.mono λe w'⟨a,r',b,c,d⟩=>by cases a with|none=>exact Y ⟨r',b,c,d⟩|some v=>exact aJ ⟨v,r',b,c,d⟩
def Zd.nw(h:Vq w B r)(a:Nw w w'):Zd B r w r w':=⟨a.U λ_ x=>x.elim,h.y a λ_ _=>id,λx b=>aJ b⟩
def Qq(B r s w)(h:Vq w B r)(u:r.sn=ac s)(z:pH B r)(hG:nD cv tv w)(hP:∀c∈s.P,qX c):
  aK prog 35 #[K B] w λe w'=>∃a r',r.fm s=(a,r')/\e=FZ cv a/\Zd B r w r' w':=by
 have D:=h;have h2:=z;have y:=u;have HP:=hP;have k:=(h.fP s u).1;have c7:N w (zq B 7)=K s.S:=(h.bT.i 7 O).trans (by simp[Sr.G,Sr.my,u]);have P:N w (zq s.S 1)=ac s.pv:=k.bT.i 1 O;have bc:=(z.fP s u).2.2;obtain⟨j,b⟩|⟨g,f,j,C,hg⟩:=PM k.iR
 ·rw[j]at P;have A:H<|r.fm s=(ac 0,r):=by show _=_;unfold Sr.fm;rw[aT b]
  go_enter func35.1,Tryz.ntmps35;go_wp2;go_ret;exact⟨_,_,A.o,O,Zd.refl D⟩
 rw[j]at P;by_cases b:s.P=[]
 ·have A:H<|r.fm s=(ac 0,r):=by show _=_;unfold Sr.fm;rw[aT b]
  rw[b]at P;go_enter func35.1,Tryz.ntmps35;go_wp2;go_ret;exact⟨_,_,A.o,O,Zd.refl D⟩
 have x:=b;have bb:¬T s.P=0:=λe=>b<|jv e;have ho:yA w.drew g s.P:=C;have m:=j;go_enter func35.1,Tryz.ntmps35;go_wp2;have d:∀w1 X l,Zd B r w X w1->X.sn=ac {s with aQ:=l}->N w1 (zq s.S 1)=aB (ac ⟨g,0,aw⟩) (T s.P) f/\N w1 (zq s.S 2)=J s.ep:=λw1 X l hd he=>by have p:=(hd.dI.fP _ he).1;exact⟨(p.bT.i 1 O).trans<|congrArg ac m,p.bT.i 2 O⟩
 have T0:=Zd.nw D (zj.refl _ _).W;have S0:=d w r _ (Zd.refl D) y;have wr:T (Z5 s.P)<=4000:=by have:=Iw HP;show _<=_;omega
 go_region_held2 (λw'=>N w' (zq s.S 1)=aB (ac ⟨g,0,aw⟩) (T s.P) f/\N w' (zq s.S 2)=J s.ep) (first|exact S0|exact S1)
  (first
   |(go_at_call 66;refine(zxa g f s.P À HP _ ho).mono ?_;rintro e w1⟨rfl,hb⟩;have T1:=T0.aE<|Zd.nw T0.dI<|zj.J hb;have G1:=hG.y T1.y h2.cN;have S1:=d _ _ _ T1 y)
   |(go_at_call 65;refine(Iu<|ZF B r s [82] s.ep _ _ T1.dI y h2 G1 O wr).mono ?_;rintro e G (⟨v,F,W,rfl,o⟩|⟨F,W,rfl,o⟩);rotate_left;(exact⟨O,aw,F,by grind [Sr.fm],O,T1.aE o⟩);have h1:=W;have T2:=T1.aE o;have⟨l2,hl2⟩:=zxz y W;have ba:=hl2;have S1:=d _ _ _ T2 hl2))
 have q:=T2.dI;try clear hHeld
 by_cases hv:v=0
 ·subst hv;have n:H<|r.fm s=(ac 0,{F with sn:=ac ({s with aQ:=(r.cD s).1}:kE).pi}):=by show _=_;unfold Sr.fm;rw[aL x,h1,aT O]
  have t:=Ć y h1;have i:=(q.fP _ t).1;have d:∀w1,zj (·=s.mp) G w1->N w1 (zq s.S 0)=(fu<|some s.mp)/\N w1 (zq s.S 1)=aB (ac ⟨g,0,aw⟩) (T s.P) f/\aX w1 (zq s.S 1)=ao:=λw1 hd=>by have⟨es,c,hmp⟩:=i.jS.bT;have p:=i.bT.y hd<|i.bT.gV hmp;exact⟨p.i 0 O,(p.i 1 O).trans<|congrArg ac m,p.dS 1⟩
  have cs:Je G.drew s.mp s.L:=i.jS;have I:G.drew.ownsRow 0 126 1 (aB (ac ⟨g,0,aw⟩) (T s.P) f) (T s.P)<|s.P.map oP:=by have:=i.iR;rw[<-m];exact this
  go_wp2;go_region_held3 (λw'=>N w' (zq s.S 0)=(fu<|some s.mp)/\N w' (zq s.S 1)=aB (ac ⟨g,0,aw⟩) (T s.P) f/\aX w' (zq s.S 1)=ao) (first|exact(d G<|zj.refl _ _)|exact S2)
   ((go_at_call 44;refine(YU s.mp s.L _ s.P À _ cs I).mono ?_;rintro e w4⟨rfl,g',v'⟩;have hx:=(zj.refl _ _).W.aE g';have S2:=d _ hx))
  have h3:=T2.aE<|Zd.Eo q t hx v';have⟨e0,e1,e2⟩:=S2;try clear hHeld
  go_wp2;go_ret;exact⟨_,_,n.o,O,h3⟩
 have n:H<|r.fm s=(ac v,F):=by show _=_;unfold Sr.fm;rw[aL x,h1,aL Á]
 go_wp2;go_ret;exact⟨_,_,n.o,O,T2⟩
def Sr.ik(r:Sr)(s:kE):kE:=if s.P=[]then s else({s with aQ:=(r.cD s).1}:kE).pi
theorem lN{a:Sr}(b:r.sn=ac s)(h:r.fm s=(ac 0,a)):a.sn=ac (r.ik s):=by grind [Sr.fm,Sr.ik]
def Zd.sM{s'}(h:Vq w B r)(d:r.sn=ac s)(z:s'.G=aA s.G j v)(m:s'.S=s.S)(n:s'.mp=s.mp)(o:s'.L=s.L)(p:s'.pv=s.pv)(y:s'.P=s.P):
  Zd B r w {r with sn:=ac s'} (M w (zq s.S j) v):=by
 have⟨k,F⟩:=h.fP s d;have⟨G,c,W⟩:=k.jS.bT;have b:zj (λx=>x=s.S) w<|M w (zq s.S j) v:=zj.H w (zq s.S j) _;have X:∀x,s'.cN x↔s.cN x:=λx=>by grind [kE.cN]
 refine⟨b.U λx a=>Y (Y ⟨s,d,aJ a⟩),⟨?_,?_,λt D=>?_⟩,λx a=>?_⟩;have e:({r with sn:=ac s'}:Sr).G=r.G:=by simp[Sr.G,Sr.my,d,m]
 rw[e];exact h.bT.y b λe=>(λe=>k.bT.ne h.bT Ã e) e.symm;exact h.fA.y b λx a e=>h.fh d (aJ e) a;cases D;refine⟨⟨?_,?_,?_⟩,Á⟩;rw[m,z];exact k.bT.H j v;rw[n,o];exact k.jS.y b λe=>(k.bT.gV W) e.symm;rw[p,y];refine⟨k.iR.1,?_⟩;obtain e|⟨g,f,i,u,C,l,q⟩:=k.iR.2;grind;refine Y ⟨g,f,i,u,C,(b.dP g (za.1 l).1 λe=>?_).trans l,q⟩;exact k.bT.ne l Ã e.symm;obtain e|e|⟨t,e,a⟩:=a;exact aJ<|aJ e;exact aJ<|Y<|aJ e;cases e;exact aJ<|Y<|Y ⟨s,d,(X x).1 a⟩
def Sr.gz(r:Sr)(s:kE):dD U×Sr:=
 if(r.fm s).1=ac 0 then
  if(r.ik s).ep=5 then(ac 10,(r.fm s).2)
  else if((r.fm s).2.fc (r.ik s) [75] ((r.ik s).ep+1) []).1=ac 0 then(ac 0,{((r.fm s).2.fc (r.ik s) [75] ((r.ik s).ep+1) []).2 with sn:=ac {r.ik s with aQ:=((r.fm s).2.cD<|r.ik s).1,ep:=(r.ik s).ep+1}})
  else(r.fm s).2.fc (r.ik s) [75] ((r.ik s).ep+1) []
 else r.fm s
def wM(B r s w)(h:Vq w B r)(h1:r.sn=ac s)(D:pH B r)(q:∀r1,r.fm s=(ac 0,r1)->pH B r1)(h2:nD cv tv w)(hx:∀c∈s.P,qX c)(C:s.ep<=1000000):
  aK prog 69 #[K B] w λe w'=>∃a r',r.gz s=(a,r')/\e=FZ cv a/\Zd B r w r' w':=by
 have I:=D;have P:=h2;have A:=h1;have p:(r.ik s).ep<=1000000:=by unfold Sr.ik;split<;>exact C
 go_enter func69.1,Tryz.ntmps69;go_wp2;refine(Iu<|Qq B r s _ h A I P hx).mono ?_;rintro e w1 (⟨v,r1,u,rfl,l⟩|⟨r1,u,rfl,l⟩)
 ·have j:=u;have T1:=l;by_cases ho:v=0
  ·subst ho;have f:=lN A j;obtain⟨b,t⟩:∃b,r.ik s=b:=⟨_,O⟩;have i:=t;rw[t]at f p;have W:N w1 (zq B 7)=K b.S:=(T1.dI.bT.i 7 O).trans (by simp[Sr.G,Sr.my,f]);have wr:N w1 (zq b.S 2)=J b.ep:=(T1.dI.fP b f).1.bT.i 2 O;by_cases z:b.ep=5
   ·have d:H<|r.gz s=(ac 10,r1):=by show _=_;unfold Sr.gz;rw[j,aT O,i,aT z]
    rw[z]at wr;go_wp2;go_ret;exact⟨_,_,d.o,O,T1⟩
   have cs:bR ((b.ep:U)=5)=ao:=Ç
   have y:=z;go_wp2;refine(Iu<|ZF B r1 b [75] (b.ep+1) [] _ T1.dI f (q _ j) (P.y T1.y I.cN) O Ã).mono ?_;rintro e G (⟨F,n,m,rfl,g⟩|⟨n,m,rfl,g⟩)
   ·have k:=m;have T2:=g;by_cases x:F=0
    ·subst x;have o:=Ć f k;have hd:=(T2.dI.fP _ o).1;have X:N G (zq b.S 2)=J b.ep:=hd.bT.i 2 O;have g':aX G (zq b.S 2)=ao:=hd.bT.dS 2;have d:H<|r.gz s=(ac 0,{n with sn:=ac {b with aQ:=(r1.cD b).1,ep:=b.ep+1}}):=by show _=_;unfold Sr.gz;rw[j,aT O,i,aL y,k,aT O]
     have L:Zd B r w {n with sn:=ac {b with aQ:=(r1.cD b).1,ep:=b.ep+1}}<|M G (zq b.S 2)<|J<|(b.ep:U)+1:=
      (T1.aE T2).aE (Zd.sM (s:={b with aQ:=(r1.cD b).1}) T2.dI o O O O O O O)
     go_wp2;go_ret;exact⟨_,_,d.o,O,L⟩
    have d:H<|r.gz s=(ac F,n):=by show _=_;unfold Sr.gz;rw[j,aT O,i,aL y,k,aL Á]
    have v':bR (F=0)=ao:=by simpa using x
    go_wp2;go_ret;exact⟨_,_,d.o,O,T1.aE T2⟩
   have d:H<|r.gz s=(aw,n):=by show _=_;unfold Sr.gz;rw[j,aT O,i,aL y,m,aL Â]
   exact⟨O,aw,n,d.o,O,T1.aE g⟩
  have d:H<|r.gz s=(ac v,r1):=by show _=_;unfold Sr.gz;rw[j,aL Á]
  go_wp2;go_ret;exact⟨_,_,d.o,O,T1⟩
 have d:H<|r.gz s=(aw,r1):=by show _=_;unfold Sr.gz;rw[u,aL Â]
 exact⟨O,aw,r1,d.o,O,l⟩
end
def Bn(a b:Zl):Zl:=oY (1::(a++b))
def sP(p:Zl):Zl:=oY (0::p)
def eN:bA Zl->bA Zl
 |a::b::r=>Bn a b::eN r|l=>l
def up:aD->bA Zl->bA Zl
 |0,l=>l|k+1,l=>up k<|eN l
def J9(P:bA Zl):Zl:=if P=[]then oY []else(up 8<|P.map sP).headD []
def Ga:∀l:bA Zl,T (eN l)=(T l+1)/2
 |[]=>rfl|[_]=>by simp[eN]
 |_::_::r=>by simp only[eN,xg,Ga r];omega
theorem LZ:∀a b:bA Zl,T a%2=0->eN (a++b)=eN a++eN b
 |[],b,_=>rfl|[_],_,h=>by simp at h
 |x::y::r,b,h=>by
  have c:T r%2=0:=by simp[xg]at h;omega
  simp[qg,eN,LZ r b c]
theorem Qj(x):∀k,up k [x]=[x]
 |0=>rfl|k+1=>Qj x k
theorem Qi:∀(j k:aD) (l:bA Zl),up (j+k) l=up k (up j l)
 |0,k,l=>by rw[j7];rfl|j+1,k,l=>by rw[Nat.add_right_comm];exact Qi j k _
def Ix:∀(k:aD) (l:bA Zl),0<T l->T l<=2^k->∃x,up k l=[x]
 |0,l,u,y=>by
  match l,u,y with
  |[x],_,_=>exact⟨x,O⟩|_::_::_,_,h=>simp at h
 |k+1,l,u,y=>by have a:=Ga l;rw[Cb]at y;exact Ix k _ À À
def Ĕ:∀(k:aD) (a b:bA Zl),T a=2^k->up k (a++b)=up k a++up k b
 |0,_,_,_=>O
 |k+1,a,b,h=>by
  have c:T a%2=0:=by rw[h,Cb];omega
  have d:=Ga a;rw[h,Cb]at d;show up k (eN<|a++b)=up k (eN a)++up k (eN b);rw[LZ a b c];exact Ĕ k _ _ À
theorem ă{k l}(h:up k l=[x])(hk:k<=j):up j l=[x]:=by grind [Nat.exists_eq_add_of_le,Qi,Qj]
def xkq(p):J9 [p]=sP p:=by rw[J9,aL Â];simp[Qj]
def xkp:J9 []=oY []:=O
theorem Iz{a k}(h:up k (a.map sP)=[x])(hk:k<=8)(b:a≠[]):J9 a=x:=by grind [J9,ă]
def xa8(a b k)(hk:k<8)(e:T a=2^k)(c:0<T b)(j:T b<=2^k):J9 (a++b)=Bn (J9 a) (J9 b):=by
 have⟨x,u⟩:=Ix k (a.map sP) Á Á;have⟨y,o⟩:=Ix k (b.map sP) Á Á;have i:up k ((a++b).map sP)=[x,y]:=by rw[qz,Ĕ k _ _ Á,u,o];rfl
 have g:up (k+1) ((a++b).map sP)=[Bn x y]:=by rw[Qi,i];rfl
 have d:a≠[]:=by intro h;rw[h]at e;simp at e;omega
 have f:b≠[]:=by intro h;rw[h]at c;simp at c
 rw[Iz g À<|by simp[d],Iz u À d,Iz o À f]
def QA{l}(h:∀x∈l,T x=32):∀x∈eN l,T x=32:=by
 match l,h with
 |[],h=>exact h|[_],h=>exact h
 |a::b::r,h=>intro x c;simp only[eN,jc]at c;obtain rfl|c:=c;exact yw _;exact QA (λy d=>h y<|by simp[d]) x c
def ā:∀(k:aD) (l:bA Zl),(∀x∈l,T x=32)->∀x∈up k l,T x=32
 |0,_,h=>h|k+1,_,h=>ā k _<|QA h
def xti(b:bA Zl):∀x∈b.map sP,T x=32:=λy a=>by simp only[Xe]at a;obtain⟨p,_,rfl⟩:=a;exact yw _
def Ą:∀(k:aD) (l:bA Zl),up (k+1) l=eN (up k l)
 |0,_=>rfl|k+1,l=>Ą k<|eN l
def xko{a}(h:up j (a.map sP)=[x])(c:T a<=256)(b:a≠[]):J9 a=x:=by
 have⟨y,u⟩:=Ix 8 (a.map sP) Á Á
 grind [Iz,ă]
def IB(a)(h:T a<=256):T (J9 a)=32:=by
 by_cases e:a=[];rw[e,xkp,yw];have c:0<T a:=by cases a<;>simp_all
 have⟨x,y⟩:=Ix 8 (a.map sP) Á Á;rw[Iz y À e];have b:∀(k:aD) (l:bA _),(∀x∈l,T x=32)->∀x∈up k l,T x=32:=by intro k;induction k with|zero=>intro l h;exact h|succ k I=>intro l h;exact I _<|QA h
 grind [sP,yw]
section
open Go.RowKit
def xua(x):({data:=#[1]}:eM)++st x=st (1::x):=zg [1] x
def xre(x):({data:=#[0]}:eM)++st x=st (0::x):=zg [0] x
attribute [local go_sem] zn zg xua xre
def sv(L:bA Zl):Ze:=L.map λl=>ak (st l)
def xzz(L):T (sv L)=T L:=by simp[sv]
def Qv(a b):sv (a++b)=sv a++sv b:=by simp[sv]
theorem jdj(L j)(h:j<T L):(sv L)[j]?=(ak<|st L[j]):=by simp[sv,h]
def LW:∃i,prog.info? 9=ac i/\i.zero=ak ⟨#[]⟩/\i.size=1/\i.bytes=16:=by
 have h:(prog.info? 9).map (λi=>(i.zero,i.size,i.bytes))=ac (ac<|ak ⟨#[]⟩,1,16):=Ä
 simp_all
def wN(w:Zy)(g o:aD)(L:bA Zl):Prop:=∀j (h:j<T L),N w (zq g<|o+j)=(ak<|st L[j])
def wN.Y{o L}(h:wN w g o L)(b:g<B)(a:aP B w w'):wN w' g o L:=λj c=>(a.cell b).trans<|h j c
def č{cap L}(h:w.ownsRow z 9 1 (aB (ac ⟨g,0,aw⟩) n cap) n<|sv L):n=T L/\z<=g/\g<V (Z' w)/\wN w g 0 L:=by
 have f:n=T L:=by have:=h.1;simpa[xzz]using this.symm
 obtain⟨d,_⟩|⟨l,b,a,k,e,c,m,_,p,i⟩:=h.2;cases d;cases k;refine⟨f,e,(za.1 c).1,λj o=>?_⟩;rw[j7,xb _ _ j _ _ _ c];have:(a.toList.take<|n*1)[j]?=(sv L)[j]?:=by rw[i]
 grind [jdj]
def Qh{i a b}(c:aP B w w')(d:g<B)(e:N w (zq g i)=ac a)(f:N w (zq g j)=ac b):N w' (zq g i)=ac a/\N w' (zq g j)=ac b:=
 ⟨(c.cell d).trans e,(c.cell d).trans f⟩
def Qp(w:Zy)(l):∀j u,[E l][j]?=ac u->N (aF w<|au #[E l] 9) (((zq (V<|Z' w) 0):Addr).add j)=ac u:=
 gX (xn _ _)
def Qr(l):∀u∈[E l],u.oneCell'=ay:=by intro u a;simp only[ju]at a;subst a;rfl
def xb4:∀(L:bA Zl) (k:aD) (h:2*k+1<T L),eN (L.take<|2*(k+1))=eN (L.take<|2*k)++[Bn L[2*k] L[2*k+1]]:=by
 intro L k h;have e:L.take (2*(k+1))=L.take (2*k)++[L[2*k],L[2*k+1]]:=by rw[show 2*(k+1)=2*k+1+1 by omega,zp h,zp À,jq];rfl
 rw[e,LZ _ _ Á];rfl
def xii(L k)(h:T L=2*k+1):eN L=eN (L.take<|2*k)++[L[2*k]]:=by
 have e:L=L.take (2*k)++[L[2*k]]:=by rw[<-zp À,qp À]
 grind [eN,LZ]
def zxf(L)(hx:0<T L)(hL:T L<=256)(ho:∀x∈L,T x=32)(g cap w)(hT:iN w)(hl:wN w g 0 L):
  aK prog 235 #[aB (ac ⟨g,0,aw⟩) (T L) cap] w λen w'=>∃g' cap',en=ai (aB (ac ⟨g',0,aw⟩) (T (eN L)) cap')/\w'.ownsRow (V<|Z' w) 9 1 (aB (ac ⟨g',0,aw⟩) (T (eN L)) cap') (T (eN L)) (sv<|eN L)/\aP (V<|Z' w) w w':=by
 have HT:=hT;have cs:=hT.iE;have u:g<V (Z' w):=js<|hl 0 hx;have A:=hl;have B:=ho;obtain⟨i9,X,s,t,hd⟩:=LW;go_enter func235.1,Tryz.ntmps235;go_wp2_with (refine wpList_make_own _ O _ _ 49 O w.heap.size 9 i9 _ 1 gq X s t bB bB _ ((T L+1)/2) O O ?l1 ?b1 ?b2 ?b3 ?_)
 case l1=>omega
 case b1=>grind
 case b2=>unfold pu;omega
 case b3=>simp
 intro w1 a W;have v':=(zt _ _).grown W (zd _) λ_ h=>È
 go_wp2;go_loopw [3,4] (λv i wr=>∃(k g' cap':aD),2*k<=T L/\i=J (2*(k:U))/\v=aB (ac ⟨g',0,aw⟩) k cap'/\wr.ownsRow (V<|Z' w) 9 1 (aB (ac ⟨g',0,aw⟩) k cap') k (sv<|eN<|L.take<|2*k)/\aP (V<|Z' w) w wr) (λ_ i _=>bL (T L-bZ i));exact⟨0,_,_,À,Å,O,a,v'⟩;obtain⟨k,g',cap',hk,rfl,rfl,a,l⟩:=hrel;obtain⟨q,ba,bb,_⟩:=č a;by_cases es:2*k+1<T L
 ·obtain⟨x,r⟩:∃x,L[2*k]=x:=⟨_,O⟩;obtain⟨y,hy⟩:∃y,L[2*k+1]=y:=⟨_,O⟩;have lx:=B x Á;have ly:=B y Á;have C:N w (zq g<|2*k)=E x:=by have:=A (2*k) À;rwa[j7,r]at this
  have P:N w (zq g<|2*k+1)=E y:=by have:=A _ À;rwa[j7,hy]at this
  have cr:∀o,N wr (zq g o)=N w (zq g o):=λo=>l.cell u;have i0:(0:U)<=2*(k:U):=À
  have i1:2*(k:U)+1<(T L:aD):=À
  have i2:2*(k:U)<(T L:aD):=À
  have i3:(0:U)<=2*(k:U)+1:=À
  have t0:bL (2*(k:U))=2*k:=À
  have t1:bL (2*(k:U)+1)=2*k+1:=À
  have e1:IntKind.i64.wrap (2*(k:U)+1)=2*(k:U)+1:=Ï
  have z:H<|eN (L.take<|2*(k+1))=eN (L.take<|2*k)++[Bn x y]:=by show _=_;rw[xb4 L k es,r,hy]
  have HO:=a;have S:=HT.Y cs l.drew;have h3:=l.size;clear a q r hy;go_wp2;have S0:N wr (zq g<|2*k)=E x/\N wr (zq g<|2*k+1)=E y:=⟨(cr _).trans C,(cr _).trans P⟩;go_region_held3 (λw'=>N w' (zq g<|2*k)=E x/\N w' (zq g<|2*k+1)=E y) (first|exact S0|exact S2|exact S3|exact S4)
   (first
    |(go_at_call 234;refine(CF _ ?_ _ S).mono ?_;(simp;omega);rintro en w2⟨rfl,F⟩;have f:=l.drew.trans<|F.mono h3;have S2:=Qh f u C P;have m:=f.alloc f.size<|au #[ak<|st<|oY (1::(x++y))] 9;have S3:=Qh m u C P;have j:=(Pi HO.drew F).alloc<|au #[ak<|st<|oY (1::(x++y))] 9)
    |(refine step_append_lies _ Ò _ _ 49 Ò _ 9 i9 _ 1 16 gq X s t hd Ò Ã _ k _ Ò j _ 1 1 _ Ò Ò (Qp _ _) (Qr _) Ã è À m.size (V (Z' w2)+1) Â ?_;intro D c w4 b d e I;have n:=m.grown d m.size<|Cv j;have S4:=Qh n u C P))
  have p:w4.ownsRow (V<|Z' w) 9 1 (aB (ac ⟨D,0,aw⟩) (k+1) c) (k+1)<|sv<|eN<|L.take<|2*(k+1):=by rw[z.o,Qv];exact b
  clear b j d e S0 S2 S3 S4;go_wp2;go_roundw;exact⟨k+1,D,c,À,Å,O,p,n⟩;exact Ì
 have i1:¬2*(k:U)+1<(T L:aD):=À
 by_cases G:T L=2*k
 ·have ih:((T L:U)%2==1)=ao:=by simp;omega
  have h1:T (eN L)=k:=by rw[Ga];omega
  rw[qp À]at a;have z:=xe h1;clear h1 G q;go_wp2;go_ret;exact⟨g',cap',by rw[z.o];rfl,by rw[z.o];omega,l⟩
 have h2:T L=2*k+1:=À
 have ih:((T L:U)%2==1)=ay:=Ç
 obtain⟨x,r⟩:∃x,L[2*k]=x:=⟨_,O⟩;have C:N wr (zq g<|T L-1)=E x:=by have:=A (2*k) À;rw[j7,r]at this;rw[show T L-1=2*k by omega];exact(l.cell u).trans this
 have i2:(0:U)<=(T L:U)-1:=À
 have i3:(T L:U)-1<(T L:aD):=À
 have i4:(1:U)<=(T L:aD):=À
 have z:H<|eN L=eN (L.take<|2*k)++[x]:=by show _=_;rw[xii L k h2,r]
 have HN:H<|T (eN L)=k+1:=by show _=_;rw[Ga];omega
 clear h2 G r q;go_wp2_with (refine wpList_append_lies _ O _ _ 49 O w.heap.size 9 i9 _ 1 16 gq X s t hd O Ã (aB _ k cap') k (sv<|eN<|L.take<|2*k) O ?own _ 1 1 _ O O (Qp _ _) (Qr _) Ã ?m1 ?m2 ?m3 (V (Z' wr)+1) ?m4 ?_)
 case own=>exact a.alloc _
 case m1=>unfold pu;omega
 case m2=>omega
 case m3=>omega
 intro D c w4 b d e I;have n:=(l.alloc l.size _).grown d (by have:=l.size;simp;omega)<|Cv a;have p:w4.ownsRow (V<|Z' w) 9 1 (aB (ac ⟨D,0,aw⟩) (k+1) c) (k+1)<|sv<|eN L:=by rw[z.o,Qv];exact b
 clear b d e a;go_wp2;go_ret;exact⟨D,c,by rw[HN.o];rfl,by rw[HN.o];omega,n⟩
def Z4:Zv->aD
 | aB _ n _=>n|_=>0
def xkg{f e xs}(i:b<=f)(h:w.ownsRow f e a v n xs):w.ownsRow b e a v n xs:=by refine⟨h.1,?_⟩;obtain l|⟨g,c,d,k,j,r⟩:=h.2;grind;exact Y ⟨g,c,d,k,xa i j,r⟩
def xp3(a cap w)(c:iN w):aK prog 176 #[aB a 0 cap] w λe w'=>e=ai (E<|J9 [])/\aP (V<|Z' w) w w':=by have b:=c;go_enter func176.1,Tryz.ntmps176;go_wp2;apply(CF [] Ã _ b).mono;rintro e w1⟨rfl,d⟩;go_wp2;go_ret;exact⟨O,d⟩
def xp2(L)(z:0<T L)(W:T L<=256)(hp:∀x∈L,T x<=4095)(g off cap w)(X:iN w)(hl:wN w g off L):
  aK prog 176 #[aB (ac ⟨g,off,aw⟩) (T L) cap] w λen w'=>en=ai (ak<|st<|J9 L)/\aP (V<|Z' w) w w':=by
 have A:=X;have D:=X.iE;have hg:g<V (Z' w):=js<|hl 0 z;have HL:=hl;have HP:=hp;obtain⟨i9,hd,h1,F,h2⟩:=LW;go_enter func176.1,Tryz.ntmps176;go_wp2_with (refine wpList_make_own _ O _ _ 49 O w.heap.size 9 i9 _ 1 gq hd h1 F bB bB _ (T L) O O ?l1 ?b1 ?b2 ?b3 ?_)
 case l1=>rfl
 case b1=>grind
 case b2=>unfold pu;omega
 case b3=>simp
 intro w1 a hx;have ho:=(zt _ _).grown hx (zd _) λ_ h=>È
 go_wp2;go_loopw [3,15] (λv i wr=>∃(k o b:aD),k<=T L/\i=Q bB (k:U)/\v=aB (ac ⟨o,0,aw⟩) k b/\wr.ownsRow (V<|Z' w) 9 1 (aB (ac ⟨o,0,aw⟩) k b) k (sv<|(L.map sP).take k)/\aP (V<|Z' w) w wr) (λ_ i _=>bL (T L-bZ i));exact⟨0,_,_,À,O,O,a,ho⟩;obtain⟨k,o,b,hk,rfl,rfl,a,m⟩:=hrel;by_cases C:k<T L
 ·obtain⟨x,t⟩:∃x,L[k]=x:=⟨_,O⟩;have lx:=HP x Á;have c0:N wr ⟨g,off+k,aw⟩=(ak<|st x):=by have:=HL k C;rw[t]at this;exact(m.cell hg).trans this
  have HA:H<|(L.map sP).take (k+1)=(L.map sP).take k++[sP x]:=by show _=_;rw[zp Á,Fl,t]
  have HO:=a;have r:=A.Y D m;go_wp2;refine(CF _ Ç _ r).mono ?_;rintro en w2⟨rfl,p⟩;have c:=m.trans<|p.mono m.size;have f:=Pi HO p;go_wp2_with (refine wpList_append_lies _ O _ _ 49 O w.heap.size 9 i9 _ 1 16 gq hd h1 F h2 O Ã (aB _ k b) k (sv<|(L.map sP).take k) O ?own _ 1 1 _ O O (Qp _ _) (Qr _) Ã ?m1 ?m2 ?m3 (V (Z' w2)+1) ?m4 ?_)
  case own=>exact f.alloc _
  case m1=>unfold pu;omega
  case m2=>omega
  case m3=>have:=c.size;exact Ç
  case m4=>simp
  intro y e w4 s B h3 ba;have S:=(c.alloc c.size _).grown B (by have:=c.size;simp;omega)<|Cv f;have cs:w4.ownsRow (V<|Z' w) 9 1 (aB (ac ⟨y,0,aw⟩) (k+1) e) (k+1)<|sv<|(L.map sP).take<|k+1:=by rw[HA.o,Qv];exact s
  go_wp2;go_roundw;exact⟨k+1,y,e,À,Å,O,cs,S⟩;exact Ì
 obtain rfl:k=T L:=À
 rw[qp Â]at a;obtain⟨u,P⟩:∃u,L.map sP=u:=⟨_,O⟩;have g':∀x∈u,T x=32:=by rw[<-P];exact xti L
 rw[P]at a;have HR:=P;go_wp2;go_loopw [3] (λv w2=>∃(j n o b:aD),0<n/\n<=256/\v=aB (ac ⟨o,0,aw⟩) n b/\w2.ownsRow (V<|Z' w) 9 1 (aB (ac ⟨o,0,aw⟩) n b) n (sv<|up j u)/\aP (V<|Z' w) w w2) (λv _=>Z4 v);exact⟨0,_,_,_,z,W,O,a,m⟩;obtain⟨j,n,o,b,bd,hn,rfl,a,m⟩:=hrel;obtain⟨q,bb,bc,d⟩:=č a;by_cases C:1<n
 ·have i2:(1:U)<(n:aD):=by omega
  have I:=xe q;have v':=d;have r:=A.Y D m;clear a q d;go_wp2;have l:=zxf _ (by have:=I.o;omega) (by have:=I.o;omega) (ā j u g') o b wr r v';rw[<-I.o]at l;refine l.mono ?_;rintro en w2⟨y,e,rfl,f,p⟩;have es:T (eN<|up j u)=(n+1)/2:=by rw[Ga,<-I.o]
  have c:=m.trans<|p.mono m.size;rw[es]at f⊢;have G:w2.ownsRow (V<|Z' w) 9 1 (aB (ac ⟨y,0,aw⟩) ((n+1)/2) e) ((n+1)/2)<|sv<|up (j+1) u:=by rw[Ą];exact xkg m.size f
  go_wp2;go_roundw;exact⟨j+1,(n+1)/2,y,e,À,À,O,G,c⟩;simp[Z4];omega
 obtain rfl:n=1:=À
 obtain⟨x,t⟩:=List.length_eq_one_iff.1 q.symm;have c0:N wr ⟨o,0,aw⟩=(ak<|st x):=by have:=d 0 À;rw[j7]at this;rw[this];simp[t]
 have HX:=xko (by rw[HR];exact t) W (by intro h;simp_all);clear a q d t;go_wp2;go_ret;simp_all
end
section
open Go.RowKit
attribute [local go_sem] zn zg
theorem ĕ(a cap w)(b:iN w):aK prog 117 #[aB a 0 cap] w λe w'=>e=ai (cE #[E<|J9 [],J 0])/\aP (V<|Z' w) w w':=by go_enter func117.1,Tryz.ntmps117;go_wp2;go_loopw [11] (λi wr=>i=J 0/\wr=w) (λ_ _=>0);grind;obtain⟨rfl,rfl⟩:=hrel;go_wp2;apply(xp3 a cap _ b).mono;rintro e w1⟨rfl,c⟩;go_wp2;go_ret2;simp_all
def xrt(L)(a:0<T L)(e:T L<=256)(j:∀x∈L,T x<=4095)(g y cap w)(f:iN w)(h:wN w g y L):
  aK prog 117 #[aB (ac ⟨g,y,aw⟩) (T L) cap] w λu w'=>u=ai (cE #[E<|J9 L,J 0])/\aP (V<|Z' w) w w':=by
 have c:wN w g y L:=h;have d:∀x∈L,T x<=4095:=j;go_enter func117.1,Tryz.ntmps117;go_wp2;go_loopw [11] (λi wr=>∃k:aD,k<=T L/\i=J k/\wr=w) (λi _=>bL (T L-bZ i));grind;obtain⟨k,hk,rfl,rfl⟩:=hrel;by_cases b:k<T L
 ·obtain⟨x,l⟩:∃x,L[k]=x:=⟨_,O⟩;have p:T x<=4095:=d x Á;have m:N wr (zq g<|y+k)=E x:=by have:=c k b;rw[l]at this;exact this
  have o:(k:U)<(T L:aD):=À
  go_wp2;go_roundw;exact⟨k+1,À,Å,bD⟩;exact Ì
 obtain rfl:k=T L:=À
 go_wp2;apply(xp2 L a e d g y cap _ f c).mono;rintro u w1⟨rfl,n⟩;go_wp2;go_ret2;simp_all
def Bo:aD->Zl->bA Zl
 |0,_=>[]|n+1,l=>if l=[]then []else l.take 64::Bo n (l.drop 64)
def Ys(l:Zl):bA Zl:=Bo (T l) l
theorem đ:∀(n m:aD) (l:Zl),T l<=n->T l<=m->Bo n l=Bo m l
 |0,0,_,_,_=>rfl|0,m+1,l,h,_=>by grind [Bo]
 |n+1,0,l,_,h=>by grind [Bo]
 |n+1,m+1,l,y,u=>by
  by_cases a:l=[];simp[Bo,a];have:0<T l:=by cases l;exact dC O a;simp
  simp only[Bo,a,kB];rw[đ n m _ Á Á]
def Qx:Ys []=[]:=O
def Qu{l}(h:l≠[]):Ys l=l.take 64::Ys (l.drop 64):=by
 obtain⟨a,b,rfl⟩:∃a b,l=a::b:=by cases l;exact dC O h;grind
 grind [Ys,Bo,đ]
def qY(x:Zl):Zv:=ak (st x)
def QE(x)(hx:T x<=1000000)(w):aK prog 115 #[E x] w λe w'=>∃v,e=ai v/\w'.ownsRow (V<|Z' w) 9 1 v (T (Ys x)) ((Ys x).map qY)/\Nw w w':=by
 have⟨i9,hi,hz0,hz1,hz2⟩:=LW;go_enter func115.1,Tryz.ntmps115;go_wp2;go_loopw [0,3] (λt v wr=>∃(D:bA _) (r:Zl),t=E r/\Ys x=D++Ys r/\T D+T r<=T x/\wr.ownsRow (V<|Z' w) 9 1 v (T D) (D.map qY)/\Nw w wr) (λt _ _=>match t with| ak s=>s.size|_=>0);exact⟨[],x,O,O,Â,jk _ _ _ _,zj.refl _ _⟩;obtain⟨D,r,rfl,d,y,a,l⟩:=hrel;have m:=d;obtain⟨h1,o,rfl,q⟩:=Wo a;have n:=a;have k:=l;by_cases i:r=[]
 ·subst i;have W:=xl [];have G:H<|Ys x=D:=by show _=_;rw[m,Qx,Xz]
  go_wp2;go_ret;rw[G.o];simp_all
 have W:¬(st r).toList=[]:=by rw[xl];exact i
 have h2:(st r).toList.isEmpty=ao:=by rw[xl];cases r;exact dC O i;rfl
 have X:H<|Ys x=(D++[r.take 64])++Ys (r.drop 64):=by show _=_;rw[m,Qu i];simp
 have C:min (64:U) (T r:aD)=((min 64 (T r):aD):U):=À
 have I:H<|Value.string ((st r).extract 0<|min 64 (T r))=qY (r.take 64):=by rw[vD];congr 2;obtain h|h:=Nat.le_total 64 (T r);grind;grind
 have P:H<|(st r).extract (min 64 (T r)) (T r)=st (r.drop 64):=by rw[Pq];congr 1;obtain h|h:=Nat.le_total 64 (T r);grind;simp
 go_wp2_with (apply wpList_append_lies _ O _ _ 49 O w.heap.size 9 i9 _ 1 16 gq hi hz0 hz1 hz2 O Ã _ (T D) (D.map qY) O ?own _ 1 1 [ak<|(st r).extract 0<|min 64 (T r)] O O ?nw ?o1 Ã ?m1 ?m2 ?m3 (V (Z' wr)+1) ?m4)
 case own=>exact n.alloc _
 case m1=>unfold pu;omega
 case m2=>omega
 case m3=>have:=k.Q;exact Ç
 case m4=>simp
 case o1=>intro z g;simp at g;rw[g];rfl
 case nw=>intro j z g;cases j with|zero=>simp at g;subst g;simp[go_sem,Addr.add]|succ j=>grind
 intro A c u b f p B;have F:Nw w u:=by have L:=(zt _<|aF wr<|au _ 9).grown f (by have:=k.Q;simp;omega)<|Cv n;exact(k.aE<|zj.E _).mV L
 have hd:u.ownsRow (V<|Z' w) 9 1 (aB (ac ⟨A,0,aw⟩) (T D+1) c) (T (D++[r.take 64]))<|(D++[r.take 64]).map qY:=by rw[qz,zx];simp only[Js,Fr,<-I.o];exact b
 go_wp2;rw[P.o];refine⟨⟨D++[r.take 64],r.drop 64,O,X.o,Á,hd,F⟩,?_⟩;grind [zn]
def LY(w:Zy)(g:aD)(xs:bA Zl):Prop:=∀i (h:i<T xs),N w (zq g i)=ac (qY xs[i])
def LY.y{S}(h:LY w g xs)(a:zj S w w')(c:¬S g):LY w' g xs:=λi b=>a.i c<|h i b
def ZZ(w:Zy)(v:Zv)(xs:bA Zl):Prop:=∃p g c,v=aB p (T xs) c/\(xs≠[]->p=ac ⟨g,0,aw⟩)/\LY w g xs
def ć(h:w.ownsRow z 9 1 v (T xs)<|xs.map qY):ZZ w v xs:=by
 obtain⟨b,e⟩|⟨g,d,a,j,l,m,n,k,o,f⟩:=h.2;have:=jv e;subst this;exact⟨aw,0,0,b,λx=>dC O x,λi c=>dC c Â⟩;refine⟨_,g,d,j,λ_=>O,λi c=>?_⟩;have:a.toList[i]?=ac (qY xs[i]):=by
  have b:(a.toList.take<|T xs*1)[i]?=ac (qY xs[i]):=by rw[f];simp[c]
  rw[Kx]at b;simpa[c]using b
 grind [N]
def Y9(m:Mf)(c:Zl)(xs:bA Zl):bA Zl:=xs.mapIdx λi x=>nT c (m.lM i) x
theorem Ah(m a xs):T (Y9 m a xs)=T xs:=by simp[Y9]
def Đ(m a xs k)(h:k<T xs):(Y9 m a xs).take (k+1)=(Y9 m a xs).take k++[nT a (m.lM k) xs[k]]:=by grind [Y9,zp]
def ē(m:Mf)(i):T (m.lM i)=8:=by simp[Mf.lM,Z2]
def xh.sO{r c}(h:xh w r c t)(a:aP B w w')(b:r<B):xh w' r c t:=(a.block r b).trans h
def Ă(m xs v a d)(ho:T a=16)(hx:∀x∈xs,T x<=4096)(hl:T xs<=1000)(w)(P:ZZ w v xs):
  aK prog 114 #[m.V,v,bY #[ak<|st a,ak<|st d]] w λe w'=>∃v,e=ai v/\w'.ownsRow (V<|Z' w) 9 1 v (T xs) ((Y9 m a xs).map qY)/\Nw w w':=by
 have⟨i9,hi,hz0,hz1,hz2⟩:=LW;obtain⟨p,g,bi,rfl,hp,I⟩:=P;have cs:=ho;have⟨wm,hmk,hown0,hgr0⟩:=run_make_own (aF (aF w<|au m.G 185)<|au #[ak<|st a,ak<|st d] 120) (V<|Z' w) 49 9 i9 _ 1 gq hi hz0 hz1 bB bB (T xs) Á è Ç;have BM:xh wm (V<|Z' w) m.G 185:=by have c:=(xh.ex w m.G 185).E<|au #[ak<|st a,ak<|st d] 120;exact(hgr0.block _ c.lt Â).trans c
 have BK:xh wm (V (Z' w)+1) #[ak<|st a,ak<|st d] 120:=by have c:=xh.ex (aF w<|au m.G 185) #[ak<|st a,ak<|st d] 120;simp only[xp]at c;exact(hgr0.block _ c.lt Â).trans c
 have NM:Nw w wm:=((zj.E _).aE<|zj.E _).aE ⟨hgr0.os,hgr0.output,hgr0.size,λk hk _=>hgr0.block k hk Â⟩;have bh:wm.ownsRow (V (Z' w)+2) 9 1 (aB (ac ⟨V (Z' w)+1+1,0,aw⟩) 0 (T xs)) 0 []:=by refine⟨O,Y ?_⟩;obtain⟨c,_⟩|⟨g',bc,S,P,hg,r⟩:=hown0.2;cases c;simp only[xp]at P;cases P;exact⟨_,_,S,O,Â,r⟩
 simp only[xp]at hmk;unfold Mf.V;unfold Mf.G at hmk;go_enter func114.1,Tryz.ntmps114;unfold Mf.G;go_wp2;go_loopw [7,15] (λv i wr=>∃k:aD,k<=T xs/\i=Q bB k/\wr.ownsRow (V (Z' w)+2) 9 1 v k (((Y9 m a xs).take k).map qY)/\Nw w wr/\xh wr (V<|Z' w) m.G 185/\xh wr (V (Z' w)+1) #[ak<|st a,ak<|st d] 120) (λ_ i _=>bL (T xs-bZ i));grind;obtain⟨k,hk,rfl,n,ba,X,v'⟩:=hrel;obtain⟨a4,l,rfl,be⟩:=Wo n;have HO:=n;have HN:=ba;have h1:=X;have s:=v';by_cases B:k<T xs
 ·have i1:(k:U)<(T xs:aD):=by omega
  have bb:=hp (λe=>Á);subst bb;have hc:=(I.y HN id) k B;unfold qY at hc;have HT:=Đ m a xs k B;have es:=hx _<|Xk B;generalize xs[k]=x at*;have b:∀w1,zj (λy=>V (Z' w)+2<=y) wr w1->MC (V<|Z' w) m m.ga w1/\N w1 ⟨V (Z' w)+1,0,aw⟩=(ak<|st a)/\N w1 ⟨V (Z' w)+1,1,aw⟩=(ak<|st d):=λw1 h=>by have c:=h1.y h À;have h2:=s.y h À;exact⟨c.mc,h2.i 0 O,h2.i 1 O⟩
  have S0:=b wr<|zj.refl _ _;have F:Nw wr wr.drew:=(zj.refl _ _).W;have bg:V (Z' w)+2<=V (Z' wr):=s.lt;have t:∀W:Zy,N (aF W<|au #[ak<|st<|nT a (m.lM k) x] 9) ⟨V<|Z' W,0,aw⟩=(ak<|st<|nT a (m.lM k) x):=λW=>(xh.ex W _ 9).i 0 O;go_wp2;go_region_held3 (λw'=>MC (V<|Z' w) m m.ga w'/\N w' ⟨V (Z' w)+1,0,aw⟩=(ak<|st a)/\N w' ⟨V (Z' w)+1,1,aw⟩=(ak<|st d)) (first|exact S0|exact A|exact SA)
   (first
    |(go_at_call 175;apply(xo9 m k _).mono;rintro e w3⟨rfl,hd⟩;have N3:Nw wr w3:=F.aE<|zj.J hd;have A:=b _<|N3.U λ_ x=>x.elim)
    |(go_at_call 156;apply(PA a d _ x cs (ē m k) es _).mono;rintro e u⟨rfl,hd⟩;have f:Nw wr u:=N3.aE<|zj.J hd;have A:=b _<|f.U λ_ x=>x.elim;have O4:=Ie HO f λ_ _ x=>x;have bj:=f.Q;have SA:=b (aF u<|au #[ak<|st<|nT a (m.lM k) x] 9)<|(f.aE<|zj.E _).U λ_ x=>x.elim)
    |(apply step_append_lies _ O _ _ 49 O _ 9 i9 _ 1 16 gq hi hz0 hz1 hz2 O Ã (aB a4 k l) k _ O (O4.alloc _) _ 1 1 [ak _] O O (by intro j z D;cases j with|zero=>simp at D;subst D;exact t u|succ j=>simp at D) (by intro z D;simp at D;rw[D];rfl) Ã è À Ç (V (Z' u)+1) Â;intro g2 G w5 C h3 bd bf;have o:=(zt _<|aF u<|au _ 9).grown h3 Ç<|Cv O4;have A:=b _<|((f.aE<|zj.E _).U λ_ x=>x.elim).aE ⟨o.os,o.output,o.size,λq hq hs=>o.block q À⟩))
  have W5:=((HN.aE f).aE<|zj.E _).mV (o.mono À);have w2:=((h1.y f id).E _).sO o À;have L:=((s.y f id).E _).sO o À;have O5:w5.ownsRow (V (Z' w)+2) 9 1 (aB (ac ⟨g2,0,aw⟩) (k+1) G) (k+1)<|((Y9 m a xs).take<|k+1).map qY:=by rw[HT,qz];exact C
  try clear hHeld
  go_wp2;go_roundw;exact⟨k+1,À,Å,O5,W5,w2,L⟩;exact Ì
 have ih:k=T xs:=À
 subst ih;have HF:wr.ownsRow (V<|Z' w) 9 1 (aB a4 (T xs) l) (T xs)<|(Y9 m a xs).map qY:=by have:=FQ (base':=V (Z' w)) HO À;rw[qp<|by grind [Ah]]at this;exact this
 go_wp2;go_ret;simp_all
def Ag:aD->Zl->Zl->KV->dD KV
 |_,[],_,L=>ac L|0,_::_,_,_=>aw
 |n+1,a::l,A,L=>match Wy (a::l)with
  |some ((k,v),r)=>if A<k then Ag n r k (gS L k v)else aw
  |none=>aw
def Yo(l:Zl):dD KV:=Ag (T l) l [] []
theorem Ā:∀(n m:aD) (l A:Zl) (L:KV),T l<=n->T l<=m->Ag n l A L=Ag m l A L
 |0,0,_,_,_,_,_=>rfl|0,m+1,l,A,L,h,_=>ze6
 |n+1,0,l,A,L,_,h=>ze6
 |n+1,m+1,[],A,L,_,_=>O|n+1,m+1,a::l,A,L,u,o=>by simp only[Ag];cases y:Wy _ with|none=>rfl|some q=>have⟨⟨k,v⟩,r⟩:=q;have:=WY y;simp only;rw[Ā n m r k _ À À]
def yM(r A:Zl)(L:KV):dD KV:=Ag (T r) r A L
def xqe(a L):yM [] a L=ac L:=O
def L8{r}(c:r≠[])(b L):yM r b L=match Wy r with
  |some ((k,v),r')=>if b<k then yM r' k (gS L k v)else aw
  |none=>aw:=by
 obtain⟨a,l,rfl⟩:∃a l,r=a::l:=by cases r;exact dC O c;grind
 grind [yM,Ag,Wy,Ā]
def xs9(k a):(!Op.bytesLess (st k).toList (st a).toList&& !(st k).toList==(st a).toList)=bR (a<k):=by grind [xl,bytesLess_eq]
def QB(tv:Zv)(l:Zl)(w:Zy)(e:kH)(w':Zy):Prop:=
 Nw w w'/\(match Yo l with|some L=>∃m,e=ai (fu<|some m)/\V (Z' w)<=m/\Je w' m L|none=>e=kn tv)
def Č(h:Yo l=aw)(a:Nw w w'):QB tv l w (kn tv) w':=by grind [QB]
def xep(l w)(bc:1<V (Z' w))(hG:ip tv w):aK prog 212 #[ak<|st l] w<|QB tv l w:=by
 have D:=hG;have s:=run_makeMap (P:=prog) 91<|aF w<|au #[ak<|st l] 234;have hd:=(xh.ex w #[ak<|st l] 234).E<|.map #[] 0;have h1:Je (aF (aF w<|au #[ak<|st l] 234)<|.map #[] 0) (V (Z' w)+1) []:=by refine⟨#[],0,?_,O,MapKept.stamped_empty 0⟩;have:=xn (aF w<|au #[ak<|st l] 234)<|.map #[] 0;simp only[xp]at this;exact this
 have h2:Nw w<|aF (aF w<|au #[ak<|st l] 234)<|.map #[] 0:=(zj.E _).aE<|zj.E _;simp only[xp]at s;go_enter func212.1,Tryz.ntmps212;go_wp2;generalize(aF w<|au #[ak<|st l] 234).alloc (.map #[] 0)=w0 at*;go_loopw [5] (λa wr=>∃(r f:Zl) (L:KV),a=ak (st f)/\Yo l=yM r f L/\xh wr (V<|Z' w) #[ak<|st r] 234/\Je wr (V (Z' w)+1) L/\Nw w wr) (λ_ wr=>qP (V<|Z' w) wr);exact⟨l,[],[],O,O,hd,h1,h2⟩;obtain⟨r,f,L,rfl,y,b,t,i⟩:=hrel;have h:=y;have u:=t;have o:=i;have c0:=b.i 0 O;by_cases n:r=[]
 ·subst n;have hn:=xl [];have hx:H<|Yo l=ac L:=by show _=_;rw[h,xqe]
  go_wp2;go_ret;refine⟨o,?_⟩;rw[hx.o];exact⟨_,O,À,u⟩
 have hn:¬(st r).toList=[]:=by rw[xl];exact n
 have ba:(st r).toList.isEmpty=ao:=by rw[xl];cases r;exact dC O n;rfl
 have F:H (Yo l=match Wy r with
   |some ((k,v),r')=>if f<k then yM r' k (gS L k v)else aw
   |none=>aw):=by show _=_;rw[h,L8 n]
 go_wp2;apply(XY r À b<|D.y i id).mono;intro e m j;unfold Ee at j;cases hq:Wy r with
 |none=>
  rw[hq]at j;obtain⟨c,rfl⟩:=j;exact⟨O,Č (by rw[F.o,hq])<|o.cZ (zd _) c⟩
 |some q=>
  have⟨⟨k,v⟩,r'⟩:=q;rw[hq]at j;obtain⟨c,rfl,p⟩:=j;have g:H<|Yo l=if f<k then yM r' k (gS L k v)else aw:=by show _=_;rw[F.o,hq]
  have A:Nw w m:=o.cZ (zd _) c;have G:=u.y c À;have bb:=G.lt;go_wp2;rw[xs9];have ho:=D.y (A.aE<|zj.E<|au #[ak<|st k,ak<|st v] 86) id;have cs:=p.E<|au #[ak<|st k,ak<|st v] 86;have C:xh (aF m<|au #[ak<|st k,ak<|st v] 86) (V<|Z' m) #[ak<|st k,ak<|st v] 86:=xh.ex _ _ _;have g':=G.y (S:=λ_=>False) (zj.E<|au #[ak<|st k,ak<|st v] 86) id;have I:Nw w<|aF m<|au #[ak<|st k,ak<|st v] 86:=A.aE<|zj.E _;generalize aF m (au #[ak<|st k,ak<|st v] 86)=wA at*;by_cases d:f<k
  ·apply(Yt _ Á _).mono;rintro e w3⟨rfl,z⟩;obtain rfl:=z.symm;have h3:=C.i 0 O;have w2:=C.i 1 O;have⟨w4,hrun,hb4,hs4⟩:=XE CJ dK g' k v;have x:(im 91 (fu<|some<|V (Z' w)+1) (ak<|st k)<|bY #[ak<|st v]).run prog wA=dG () w4:=hrun;have v':H<|Yo l=yM r' k (gS L k v):=by show _=_;rw[g.o,aT d]
   have B:=cs.y hb4 À;have es:=hs4;have W:Nw w w4:=I.cZ À hb4;have X:=FN B;go_wp2;go_roundw;exact⟨r',k,gS L k v,O,v'.o,B,es,W⟩;rw[(FN b),X];exact WY hq
  apply(Jw _ Á _ ho).mono;rintro e w3⟨rfl,rfl⟩;exact⟨O,Č (by rw[g.o,aL d]) I⟩
def xQ(l:Zl):Zl:=l.drop 1
def Ai(l:Zl):Zl:=(xQ l).drop 1
def yJ(l:Zl):Zl:=(Ai l).drop 2
def Aj(l:Zl):Zl:=(yJ l).drop 4
def yK(l:Zl):Zl:=(Aj l).drop 2
def Ak(l:Zl):Zl:=(yK l).drop 4
def yL(l:Zl):Zl:=(Ak l).drop 2
def Al(l:Zl):Zl:=(yL l).drop 4
def xR(l:Zl):Zl:=(Al l).drop 32
def Am(l:Zl):Zl:=(xR l).drop 32
def Ym(l:Zl):Mf:={ep:=qi<|(xQ l).take 1,op:=qi<|(Ai l).take 2,bF:=qi<|(yJ l).take 4,bC:=qi<|(Aj l).take 2,bM:=qi<|(yK l).take 4,cW:=qi<|(Ak l).take 2,gT:=qi<|(yL l).take 4,ga:=(Al l).take 32,aQ:=(xR l).take 32}
structure vL(m:Zl)(y:U)(l:Zl):Prop where
 gT:T l=116
 Iy:l.take 1=[77]
 S:(Ym l).ep<=5
 dX:Am l=Wu (Y7 m (Ym l).ep) (l.take 84)
 bF:((Ym l).bF:U)<=y
def xts(tv:Zv)(m:Zl)(y:U)(l:Zl)(w:Zy)(e:kH)(w':Zy):Prop:=
 Nw w w'/\((e=ai (Ym l).V/\vL m y l)\/(e=kn tv/\¬vL m y l))
def Qy(h:T l=116):T (xQ l)=115/\T (Ai l)=114/\T (yJ l)=112/\T (Aj l)=108/\T (yK l)=106/\T (Ak l)=102/\T (yL l)=100/\T (Al l)=96/\T (xR l)=64/\T (Am l)=32:=by grind [xQ,Ai,yJ,Aj,yK,Ak,yL,Al,xR,Am]
def xh.Qm{x r}{A a b c d e f g i y b1 b2 b3 u o W D X}(h:xh x r #[A,a,b,c,d,e,f,g,i] t):xh (M (M (M (M (M (M (M (M (M x (zq r 0) y) (zq r 1) b1) (zq r 2) b2) (zq r 3) b3) (zq r 4) u) (zq r 5) o) (zq r 6) W) (zq r 7) D) (zq r 8) X) r #[y,b1,b2,b3,u,o,W,D,X] t:=by have k:=((((((((h.H 0 y).H 1 b1).H 2 b2).H 3 b3).H 4 u).H 5 o).H 6 W).H 7 D).H 8 X;simp_all
def yG(l:Zl)(k:aD):Za:=#[if 0<k then Q bB ((qi ((xQ l).take 1):aD):U)else Q bB 0,if 1<k then Q bB ((qi ((Ai l).take 2):aD):U)else Q bB 0,if 2<k then Q bB ((qi ((yJ l).take 4):aD):U)else Q bB 0,if 3<k then Q bB ((qi ((Aj l).take 2):aD):U)else Q bB 0,if 4<k then Q bB ((qi ((yK l).take 4):aD):U)else Q bB 0,if 5<k then Q bB ((qi ((Ak l).take 2):aD):U)else Q bB 0,if 6<k then Q bB ((qi ((yL l).take 4):aD):U)else Q bB 0,if 7<k then ak (st<|(Al l).take 32)else ak ⟨#[]⟩,if 8<k then ak (st<|(xR l).take 32)else ak ⟨#[]⟩]
structure MS(w v:Zy)(y:aD)(m u:Zl)(o op:U)(l:Zl)(c:Za):Prop where
 T:xh v (V<|Z' w) #[E m,J o,E u,J op] 78
 Z:xh v (V (Z' w)+1) #[J 0,J 0,J 0,J 0,J 0,J 0,J 0,ak ⟨#[]⟩,ak ⟨#[]⟩] 185
 K:xh v (V (Z' w)+1+1) #[E l] 234
 C:xh v y c 185
 N:Nw w v
section
variable{w v y:dN}{R i:aD}{m o l l':bA UInt8}{d f:U}{c:bE eJ}{u:eJ}
def MS.rL(s:MS w v R m o d f l c)(a:R≠V (Z' w)+1+1)(k:zj (·=V (Z' w)+1+1) v y)(b:xh y (V (Z' w)+1+1) #[E l'] 234):MS w y R m o d f l' c:=⟨s.T.y k À,s.Z.y k À,b,s.C.y k a,s.N.cZ À k⟩
theorem MS.H(s:MS w v R m o d f l c)(a:V (Z' w)+1+1<R)(e:M v (zq R i) u=y):MS w y R m o d f l<|aA c i u:=⟨s.T.ot e À,s.Z.ot e À,s.K.ot e À,s.C.st e,s.N.st e À⟩
end
def zti(m k tc op l)(hm:T m=32)(hl:T l<=1000000)(w)(bm:1<V (Z' w))(hT:iN w)(hG:ip tv w):
  aK prog 105 #[bY #[E m,J tc,E k,J op],E l] w (xts tv m tc l w):=by
 have A:=hG;have HT:=hT;go_enter func105.1,Tryz.ntmps105;go_wp2;refine rC λw0 a=>?_;have BT:=(xh.ex w _ 78).al a;have BR:=xp w _▸xh.nu a;have N0:Nw w w0:=(zj.E _).al a;have bh:V (Z' w0)=V (Z' w)+1+1:=by rw[xu6 a,xp]
 have G0:=A.y N0 id;by_cases o:T l=116;rotate_left;refine(Jw _ Á _ G0).mono ?_;rintro e w1⟨rfl,rfl⟩;exact⟨O,N0,Y ⟨O,λh=>o h.gT⟩⟩;refine(Yt _ Á _).mono ?_;rintro e w1⟨rfl,wr⟩;obtain rfl:w0=w1:=wr.symm;have v':=Qy o;have cs:=o;go_wp2;refine rC λw1 a=>?_;have S:MS w w1 (V (Z' w)+1) m k tc op l<|yG l 0:=⟨BT.al a,BR.al a,bh▸xh.nu a,BR.al a,N0.al a⟩;refine(wH S.K _ 1 O À).mono ?_;rintro e w2⟨rfl,b,hk⟩;replace S:=S.rL (l':=xQ l) À b hk;have G2:=A.y S.N id;have g:=S.K.lt;go_wp2;by_cases F:l.take 1=[77];rotate_left;refine(Jw _ (by grind [xl]) _ G2).mono ?_;rintro e B⟨rfl,rfl⟩;exact⟨O,S.N,Y ⟨O,λh=>F h.Iy⟩⟩;refine(Yt _ (by rw[xl,F];rfl) _).mono ?_;rintro e B⟨rfl,p⟩;obtain rfl:w2=B:=p.symm;have ba:=F;go_wp2;refine rC λv a=>?_;generalize hR:V (Z' w2)=u at g⊢;replace S:MS w v u m k tc op (xQ l)<|yG l 0:=⟨S.T.al a,S.Z.al a,S.K.al a,hR▸xh.nu a,S.N.al a⟩;refine(wG S.K _ 1 O Ã À).mono ?_;rintro e x⟨rfl,b,hk⟩;replace S:=S.rL (l':=Ai l) À b hk;have c:=S.C.i 0 O;have f:=S.C.dS 0;go_wp2;refine rC λv0 a=>?_;replace S:MS w v0 u m k tc op (Ai l)<|yG l 1:=S.H g a;refine(wG S.K _ 2 O Ã À).mono ?_;rintro e x⟨rfl,b,hk⟩;replace S:=S.rL (l':=yJ l) À b hk;have c:=S.C.i 1 O;have f:=S.C.dS 1;go_wp2;refine rC λv1 a=>?_;replace S:MS w v1 u m k tc op (yJ l)<|yG l 2:=S.H g a;refine(wG S.K _ 4 O Ã À).mono ?_;rintro e x⟨rfl,b,hk⟩;replace S:=S.rL (l':=Aj l) À b hk;have c:=S.C.i 2 O;have f:=S.C.dS 2;go_wp2;refine rC λv2 a=>?_;replace S:MS w v2 u m k tc op (Aj l)<|yG l 3:=S.H g a;refine(wG S.K _ 2 O Ã À).mono ?_;rintro e x⟨rfl,b,hk⟩;replace S:=S.rL (l':=yK l) À b hk;have c:=S.C.i 3 O;have f:=S.C.dS 3;go_wp2;refine rC λv3 a=>?_;replace S:MS w v3 u m k tc op (yK l)<|yG l 4:=S.H g a;refine(wG S.K _ 4 O Ã À).mono ?_;rintro e x⟨rfl,b,hk⟩;replace S:=S.rL (l':=Ak l) À b hk;have c:=S.C.i 4 O;have f:=S.C.dS 4;go_wp2;refine rC λv4 a=>?_;replace S:MS w v4 u m k tc op (Ak l)<|yG l 5:=S.H g a;refine(wG S.K _ 2 O Ã À).mono ?_;rintro e x⟨rfl,b,hk⟩;replace S:=S.rL (l':=yL l) À b hk;have c:=S.C.i 5 O;have f:=S.C.dS 5;go_wp2;refine rC λv5 a=>?_;replace S:MS w v5 u m k tc op (yL l)<|yG l 6:=S.H g a;refine(wG S.K _ 4 O Ã À).mono ?_;rintro e x⟨rfl,b,hk⟩;replace S:=S.rL (l':=Al l) À b hk;have c:=S.C.i 6 O;have f:=S.C.dS 6;go_wp2;refine rC λv6 a=>?_;replace S:MS w v6 u m k tc op (Al l)<|yG l 7:=S.H g a;refine(wH S.K _ 32 O À).mono ?_;rintro e x⟨rfl,b,hk⟩;replace S:=S.rL (l':=xR l) À b hk;have c:=S.C.i 7 O;have f:=S.C.dS 7;go_wp2;refine rC λv7 a=>?_;replace S:MS w v7 u m k tc op (xR l)<|yG l 8:=S.H g a;refine(wH S.K _ 32 O À).mono ?_;rintro e x⟨rfl,b,hk⟩;replace S:=S.rL (l':=Am l) À b hk;have c:=S.C.i 8 O;have f:=S.C.dS 8;have d:=S.C.i (v:=J _) 0 O;go_wp2;refine rC λq a=>?_;replace S:MS w q u m k tc op (Am l)<|yG l 9:=S.H g a;have n:H<|(Ym l).ep=qi ((xQ l).take 1):=O;have G9:=A.y S.N id;have hd:=HT.y S.N id;by_cases hx:qi ((xQ l).take 1)<=5;rotate_left;refine(Jw _ Á _ G9).mono ?_;rintro e B⟨rfl,rfl⟩;exact⟨O,S.N,Y ⟨O,λh=>hx<|by have:=h.S;rw[n.o]at this;omega⟩⟩;refine(Yt _ Á _).mono ?_;rintro e B⟨rfl,p⟩;obtain rfl:q=B:=p.symm;have I:=hx;obtain⟨z,bd⟩:∃z,qi ((xQ l).take 1)=z:=⟨_,O⟩;have C:xh q u #[J<|(qi ((xQ l).take 1):aD),J<|(qi ((Ai l).take 2):aD),J<|(qi ((yJ l).take 4):aD),J<|(qi ((Aj l).take 2):aD),J<|(qi ((yK l).take 4):aD),J<|(qi ((Ak l).take 2):aD),J<|(qi ((yL l).take 4):aD),E<|(Al l).take 32,E<|(xR l).take 32] 185:=S.C;rw[bd]at C n I⊢;obtain⟨X,bl⟩:∃X,Ji m z=X:=⟨_,O⟩;obtain⟨G,bf⟩:∃G,Y7 m z=G:=⟨_,O⟩;have L:H<|Y7 m (Ym l).ep=G:=by show _=_;rw[n.o];exact bf
 have KY:∀i,iN i->aK prog 103 #[bY #[E m,J tc,E k,J op],J z] i λe r=>e=ai (bY #[E X,E G])/\aP (V<|Z' i) i r:=λi h=>by grind [FV]
 have g':∀i s,s=st (l.take 84)->iN i->aK prog 157 #[bY #[E X,E G],ak s] i λe r=>e=ai (E<|Wu G<|l.take 84)/\aP (V<|Z' i) i r:=λi s hs hT=>by grind [LJ,Ek]
 have D:∀i,aP (V<|Z' q) q i->N i (zq (V<|Z' w) 0)=E m/\N i (zq (V<|Z' w) 1)=J tc/\N i (zq (V<|Z' w) 2)=E k/\N i (zq (V<|Z' w) 3)=J op/\N i (zq (V (Z' w)+1+1) 0)=(E<|Am l)/\N i (zq u 0)=J z:=λi h=>⟨(S.T.Y h).i 0 O,(S.T.Y h).i 1 O,(S.T.Y h).i 2 O,(S.T.Y h).i 3 O,(S.K.Y h).i 0 O,(C.Y h).i 0 O⟩;have S0:=D q<|zt _ _;have bj:(84:U)<=(T l:aD):=À
 go_wp2;go_region_held2 (λr=>N r (zq (V<|Z' w) 0)=E m/\N r (zq (V<|Z' w) 1)=J tc/\N r (zq (V<|Z' w) 2)=E k/\N r (zq (V<|Z' w) 3)=J op/\N r (zq (V (Z' w)+1+1) 0)=(E<|Am l)/\N r (zq u 0)=J z) (first|exact S0|exact S1)
  (first
   |(go_at_call 103;refine(KY _ hd.W).mono ?_;rintro e y1⟨rfl,b⟩;have Y1:aP (V<|Z' q) q y1:=(zt _ _).drew.trans b;have S1:=D _ Y1;have TY:iN y1:=hd.Y hd.iE Y1)
   |(go_at_call 157;refine(g' _ _ (vD l 84) TY).mono ?_;rintro e W⟨rfl,b⟩;have P:aP (V<|Z' q) q W:=Xs Y1 b;have S1:=D _ P;have GY:ip tv W:=G9.J P)
   |(go_at_call 164;refine(Eh _ _ GY).mono ?_;rintro e y3⟨bg,be⟩;obtain rfl:W=y3:=bg.symm;obtain⟨rfl,HQ⟩|⟨rfl,HQ⟩:=be;rotate_left;(exact⟨O,(S.N.aE<|zj.J P),Y ⟨O,λh=>by have h1:=h.dX;rw[L.o]at h1;have h2:=HQ.o;grind⟩⟩)))
 have bc:H<|Am l=Wu G (l.take 84):=by have:=HQ.o;rw[zQ,xl,xl]at this;exact this
 have t:=C.Y P;have j:=S.Z.Y P;have NF:=S.N.aE<|zj.J P;have a0:=t.i (v:=J _) 0 O;have r0:=j.i 0 O;have z0:=j.dS 0;have a1:=t.i (v:=J _) 1 O;have r1:=j.i 1 O;have z1:=j.dS 1;have a2:=t.i (v:=J _) 2 O;have r2:=j.i 2 O;have z2:=j.dS 2;have a3:=t.i (v:=J _) 3 O;have r3:=j.i 3 O;have z3:=j.dS 3;have a4:=t.i (v:=J _) 4 O;have r4:=j.i 4 O;have z4:=j.dS 4;have a5:=t.i (v:=J _) 5 O;have r5:=j.i 5 O;have z5:=j.dS 5;have a6:=t.i (v:=J _) 6 O;have r6:=j.i 6 O;have z6:=j.dS 6;have a7:=t.i (v:=ak _) 7 O;have r7:=j.i 7 O;have z7:=j.dS 7;have a8:=t.i (v:=ak _) 8 O;have r8:=j.i 8 O;have z8:=j.dS 8;have bk:¬u=V (Z' w)+1:=À
 have bi:¬V (Z' w)+1=u:=À
 try clear S1
 try clear hHeld
 go_wp2;by_cases ho:((qi ((yJ l).take 4):aD):U)<=tc;rotate_left;refine(Jw _ Á _ GY).mono ?_;rintro e B⟨rfl,rfl⟩;exact⟨O,NF,Y ⟨O,λh=>ho h.bF⟩⟩;refine(Yt _ Á _).mono ?_;rintro e B⟨rfl,p⟩;obtain rfl:W=B:=p.symm;have bb:vL m tc l:=⟨cs,ba,by rw[n.o];omega,by rw[L.o];exact bc.o,ho⟩;go_wp2;refine WT λv a=>?_;have y:=a▸xh.Qm j;have NV:zj (·=V (Z' w)+1) W v:=by
  subst a;iterate 9 refine zj.aE ?_<|zj.H _ (zq (V (Z' w)+1) _) _
  exact zj.refl _ _
 have s0:=y.i (v:=J _) 0 O;have s1:=y.i (v:=J _) 1 O;have s2:=y.i (v:=J _) 2 O;have s3:=y.i (v:=J _) 3 O;have s4:=y.i (v:=J _) 4 O;have s5:=y.i (v:=J _) 5 O;have s6:=y.i (v:=J _) 6 O;have s7:=y.i (v:=ak _) 7 O;have s8:=y.i (v:=ak _) 8 O;refine ji (v:=bY #[J z,J<|(qi ((Ai l).take 2):aD),J<|(qi ((yJ l).take 4):aD),J<|(qi ((Aj l).take 2):aD),J<|(qi ((yK l).take 4):aD),J<|(qi ((Ak l).take 2):aD),J<|(qi ((yL l).take 4):aD),E<|(Al l).take 32,E<|(xR l).take 32]) (by simp[eR,Tryz.results105,go_sem,s0,s1,s2,s3,s4,s5,s6,s7,s8]) O ⟨NF.cZ À NV,aJ ⟨?_,bb⟩⟩;unfold Mf.V Mf.G;rw[n.o];rfl
def Sr.kG(r:Sr)(n:aD):aD:=if jp r.d.L 0=[]then n+116 else n
def uZ(B r x)(hx:T x<=1000000)(w)(h:Vq w B r):aK prog 112 #[K B,E x] w λe w'=>e=ai (J<|r.kG (T x))/\w'=w:=by
 have j:=xe h;have m:N w (zq B 2)=K r.D:=h.bT.i 2 O;clear h;go_enter func112.1,Tryz.ntmps112;go_wp2;refine(Ei r.D r.d 0 _ j.o.fA).mono ?_;rintro e w1⟨rfl,g⟩;obtain rfl:=g.symm;obtain⟨c,b⟩:∃c,jp r.d.L 0=c:=⟨_,O⟩;have i:H<|r.kG (T x)=if c=[]then T x+116 else T x:=by show _=_;unfold Sr.kG;rw[b]
 rw[b];clear b;cases c with
 |nil=>have k:=xl [];go_wp2;go_ret;exact⟨by rw[i.o];simp,O⟩
 |cons a f=>
  have k:¬(st (a::f)).toList=[]:=by rw[xl];simp
  have l:(st (a::f)).toList.isEmpty=ao:=zab
  go_wp2;go_ret;exact⟨by rw[i.o];rfl,O⟩
def nr(m:Mf):bA U->Dk->ez×Dk
 |[],d=>(ay,d)|n::y,d=>if n=0\/n=(m.cW:U)then nr m y d else if d.cS=ay then(ao,d.eS)else nr m y (d.qR n)
def kQ(m:Mf)(y:Zl)(d:Dk):ez×Dk:=if d.cS=ay then(ao,d.eS)else nr m (Zk (d.nC 0 y).L) (d.nC 0 y)
def Sr.mM(r:Sr)(m:Mf)(P y:Zl):ez×Dk:=
 if P=[]then kQ m y r.d
 else if r.d.cS=ay then(ao,r.d.eS)
 else if(r.d.gt m.cW P).cS=ay then(ao,(r.d.gt m.cW P).eS)
 else kQ m y ((r.d.gt m.cW P).uC m.cW)
def sN(cv:Zv)(B:aD)(r:Sr)(x:ez×Dk)(w:Zy)(e:kH)(w':Zy):Prop:=
 e=(if x.1=ay then ai (cE #[])else kn cv)/\Zd B r w {r with d:=x.2} w'
structure DJ(cv:Zv)(B:aD)(r:Sr)(m:Mf)(W:Zy)(d:Dk)(w:Zy):Prop where
 t:zj (r.d.cN r.D) W w
 a:Jt w r.D d
 k:jW r.D d
 o:∀y,d.cN r.D y->r.d.cN r.D y
 M:d.M=r.d.M
 b:xh w B r.G 81
 x:xh w (V<|Z' W) m.G 185
 g:xP cv w
 nB:¬r.d.cN r.D B
 n0:¬r.d.cN r.D 0
 lt:∀y,r.d.cN r.D y->y<V (Z' W)
section
variable{i:eJ}{m:Mf}{h w w':dN}{d D:Dk}{o:Xv}{e:kH}
def DJ.y(j:DJ i B r m h d w)(a:zj (r.d.cN r.D) w w')(c:Jt w' r.D D)(k:jW r.D D)(o:∀y,D.cN r.D y->r.d.cN r.D y)(u:D.M=r.d.M):DJ i B r m h D w':=⟨j.t.aE a,c,k,o,u,j.b.y a j.nB,j.x.y a λx=>DN _<|j.lt _ x,j.g.y a j.n0,j.nB,j.n0,j.lt⟩
def DJ.nw(j:DJ i B r m h d w)(b:Nw w w'):DJ i B r m h d w':=j.y (b.U λ_=>eT) (j.a.y b λ_ _=>id) j.k j.o j.M
def DJ.step(j:DJ i B r m h d w)(f:rU o)(p:vF i r.D d o w e w'):(e=ai (cE #[])/\d.cS=ao/\DJ i B r m h {d.dZ with L:=o} w')\/(e=kn i/\d.cS=ay/\zj (r.d.cN r.D) h w'/\Jt w' r.D d.eS/\d.eS.M=r.d.M/\∀y,d.eS.cN r.D y->r.d.cN r.D y):=by obtain⟨c,⟨rfl,u,a⟩|⟨rfl,u,a⟩⟩:=p;exact aJ ⟨O,a.o,j.y (c.U j.o) u (j.k.step a.o f) (λy b=>j.o y<|(Dk.kO d r.D y).1 b)<|(Dk.nU d).trans j.M⟩;exact Y ⟨O,a.o,j.t.aE<|c.U j.o,u,(Dk.uU _).trans j.M,λy b=>j.o y<|Dk.mL _ _ _ b⟩
def ue(L n f):T (Vm L n f)<=T L+1:=by unfold Vm;split;grind [PT];exact(YJ _ _ _).1
end
def uX(B r m pt sl w)(h:Vq w B r)(hx:pH B r)(hG:nD cv tv w)(bv:T r.d.L+2<1000000)(b0:T sl<=1000000)(bz:T (jp r.d.L m.cW)+T pt<=1000000)(bx:m.cW<=1000000):
  aK prog 118 #[K B,m.V,E pt,E sl] w (sN cv B r (r.mM m pt sl) w):=by
 have d:H<|DJ cv B r m w r.d<|aF w<|au m.G 185:=⟨zj.E _,h.fA.y (zj.E _) λ_ _=>id,hx.F0,λ_=>id,O,h.bT.E _,xh.ex _ _ _,hG.Il.y (S:=r.d.cN r.D) (zj.E _) hx.F0.sI,h.kP,hx.F0.sI,λ_=>Dk.fg h.fA⟩;have HT:H<|∀u f,r.mM m pt sl=(ay,f)->DJ cv B r m w f u->sN cv B r (r.mM m pt sl) w (ai<|cE #[]) u:=λu f h1 j=>by rw[h1];exact⟨O,Zd.fA h j.t j.a j.M j.o⟩
 have HF:H<|∀u f,r.mM m pt sl=(ao,f)->zj (r.d.cN r.D) w u->Jt u r.D f->f.M=r.d.M->(∀y,f.cN r.D y->r.d.cN r.D y)->sN cv B r (r.mM m pt sl) w (kn cv) u:=λu f h1 h2 h3 h4 h5=>by rw[h1];exact⟨O,Zd.fA h h2 h3 h4 h5⟩
 have s:H<|∀{w1 f},DJ cv B r m w f w1->N w1 (zq B 2)=K r.D/\N w1 (zq (V<|Z' w) 5)=J m.cW:=λj=>⟨j.b.i 2 O,j.x.i 5 O⟩;clear h hx hG;unfold Mf.V;unfold Mf.G at d⊢;go_enter func118.1,Tryz.ntmps118;by_cases D:pt=[];focus
  subst D;have hn:(st ([]:Zl)).toList=[]:=xl [];have HS:H<|r.mM m [] sl=kQ m sl r.d:=by show _=_;unfold Sr.mM;rw[aT O]
  have XF:H<|T r.d.L<1000000:=by show _<_;omega
  go_upto_region 4 with fail
  generalize aF w (au _ 185)=wX at*;obtain⟨l,bb⟩:∃l,r.d=l:=⟨_,O⟩;have o:H<|DJ cv B r m w l wX:=bb▸d.o;rw[bb]at HS XF;clear bb d
 rotate_left;focus
  have hn:¬(st pt).toList=[]:=by rw[xl];exact D
  have bo:(st pt).toList.isEmpty=ao:=by rw[xl];cases pt;exact dC O D;rfl
  have cs:H<|r.mM m pt sl=if r.d.cS=ay then(ao,r.d.eS)else if(r.d.gt m.cW pt).cS=ay then(ao,(r.d.gt m.cW pt).eS)else kQ m sl ((r.d.gt m.cW pt).uC m.cW):=by show _=_;unfold Sr.mM;rw[aL D]
  clear D;go_upto_region 2 with fail
  generalize aF w (au _ 185)=wA at*;have I:=xe<|d.o.nw (zj.refl _ wA).W;have S0:=s.o d.o;have G:H<|rU<|Vm r.d.L m.cW (jp r.d.L m.cW++pt,(Zm r.d.L m.cW).2):=d.o.k.fW.np ï (by have h1:=d.o.k.fW.fU.mJ m.cW;have h5:T (Zm r.d.L m.cW).1=T (jp r.d.L m.cW):=O;simp only[zx];omega) À
  have F1:=ue r.d.L m.cW (jp r.d.L m.cW++pt,(Zm r.d.L m.cW).2);go_region_held2 (λu=>N u (zq B 2)=K r.D/\N u (zq (V<|Z' w) 5)=J m.cW) (first|exact S0|exact S1)
   ((go_at_call 99;refine(YF r.D r.d m.cW pt À _ I.o.a I.o.k I.o.g).mono ?_;intro e y1 F;obtain⟨rfl,c,C⟩|⟨rfl,c,x1,x2,x3,x4⟩:=I.o.step G.o F;rotate_left;(exact⟨O,HF.o _ _ (by rw[cs.o,aT c]) x1 x2 x3 x4⟩);have v:=xe C;have S1:=s.o C;have A:=xe c;clear F c C))
  have g':H<|r.mM m pt sl=if(r.d.gt m.cW pt).cS=ay then(ao,(r.d.gt m.cW pt).eS)else kQ m sl ((r.d.gt m.cW pt).uC m.cW):=by show _=_;rw[cs.o,aL<|by rw[A.o];decide]
  replace v:H<|DJ cv B r m w (r.d.gt m.cW pt) _:=v.o;replace F1:T (r.d.gt m.cW pt).L<=_:=F1;clear S0 S1 G cs A I d hn bo;try clear hHeld
  generalize r.d.gt m.cW pt=f at*;go_wp2;have I:=xe<|v.o.nw (zj.refl _ y1).W;have S0:=s.o v.o;have G:H<|rU<|Vm f.L m.cW (jp f.L m.cW,T (jp f.L m.cW)):=v.o.k.fW.np ï (by have:T (jp f.L m.cW)<=1000000:=(v.o.k.fW.fU.mJ m.cW).2.2;grind) À;have F2:=ue f.L m.cW (jp f.L m.cW,T (jp f.L m.cW));go_region_held2 (λu=>N u (zq B 2)=K r.D/\N u (zq (V<|Z' w) 5)=J m.cW) (first|exact S0|exact S1)
   ((go_at_call 100;refine(YH r.D f m.cW _ I.o.a I.o.k I.o.g).mono ?_;intro e wX F;obtain⟨rfl,c,C⟩|⟨rfl,c,x1,x2,x3,x4⟩:=I.o.step G.o F;rotate_left;(exact⟨O,HF.o _ _ (by rw[g'.o,aT c]) x1 x2 x3 x4⟩);have o:=xe C;have S1:=s.o C;have A:=xe c;clear F c C))
  have HS:H<|r.mM m pt sl=kQ m sl (f.uC m.cW):=by show _=_;rw[g'.o,aL<|by rw[A.o];decide]
  replace o:H<|DJ cv B r m w (f.uC m.cW) wX:=o.o;have XF:H<|T (f.uC m.cW).L<1000000:=by show(Vm _ _ _).length<_;omega
  clear S0 S1 G g' A I v F1 F2;try clear hHeld
  generalize f.uC m.cW=l at*;go_upto_region 4 with fail
 all_goals
  obtain⟨e2,-⟩:=s.o o.o;go_wp2;refine(uS r.D l 0 sl _ o.o.a o.o.k o.o.g).mono ?_;intro e y0 F;rcases o.o.step (o.o.k.fW.np ï Á XF.o) F with⟨rfl,c,C⟩|⟨rfl,c,x1,x2,x3,x4⟩;rotate_left;exact⟨O,HF.o _ _ (by rw[HS.o];unfold kQ;rw[aT c]) x1 x2 x3 x4⟩;have v:H<|DJ cv B r m w (l.nC 0 sl) y0:=C;have ba:=xe<|HS.o.trans (show kQ m sl l=nr m (Zk (l.nC 0 sl).L) (l.nC 0 sl) by unfold kQ;rw[aL<|by rw[c];decide]);obtain⟨g2,-⟩:=s.o C;clear F c C e2 HS XF o;generalize l.nC 0 sl=l at*;go_wp2;refine(LN r.D l y0 v.o.a v.o.k.fW).mono ?_;rintro e w1⟨p,g,bu,rfl,D,hg,W,bf⟩;have HP:H<|Zk l.L≠[]->p=ac ⟨g,0,aw⟩:=D;have HR:H<|If w1 g<|Zk l.L:=W;have bl:H<|¬r.d.cN r.D g:=λx=>by have:=v.o.lt _ x;have:=v.o.t.Q;omega
  have be:H<|T (Zk l.L)<=1000000:=by show _<=_;rw[LP];exact v.o.k.fW.bF
  have J3:=xe<|v.o.nw<|zj.J bf;clear D W bf g2 v;obtain⟨q,bk⟩:∃q,Zk l.L=q:=⟨_,O⟩;rw[bk]at HP HR be ba⊢;clear bk;go_wp2;go_loopw [39] (λi wr=>∃(j:aD) (f:Dk),j<=T q/\i=J j/\zj (r.d.cN r.D) w1 wr/\DJ cv B r m w f wr/\nr m (q.drop j) f=nr m q l) (λi _=>bL (T q-bZ i));exact⟨0,l,À,O,zj.refl _ _,J3.o,O⟩;obtain⟨j,f,hj,rfl,bg,j4,bi⟩:=hrel;have bw:=be.o;have X:=xe bg;have P:=xe j4;have ho:=xe bi;obtain⟨c2,c5⟩:=s.o j4;clear bg bi j4;by_cases bh:j<T q
  ·have i1:(j:U)<(T q:aD):=by omega
   have i0:(0:U)<=(j:U):=À
   have bp:=HP.o (λe=>Á);subst bp;have hc:=(HR.o.y X.o bl.o) j bh;have bd:H (q.drop j=q[j]::q.drop (j+1)):=Zx bh;generalize q[j]=n at*;by_cases z:n=0\/n=(m.cW:U)
   ·have HN:H<|nr m (q.drop<|j+1) f=nr m q l:=by show _=_;rw[<-ho.o,bd.o];simp only[nr,aT z]
    by_cases hd:n=0
    case' pos=>subst hd
    case' neg=>obtain rfl:=z.resolve_left hd
    all_goals
     clear z;go_wp2;go_roundw;exact⟨j+1,f,À,Å,X.o,P.o,HN.o⟩;exact Ì
   have HN:H<|nr m (q.drop j) f=if f.cS=ay then(ao,f.eS)else nr m (q.drop<|j+1) (f.qR n):=by show _=_;rw[bd.o];simp only[nr,aL z]
   have hd:¬n=0:=λe=>z<|aJ e;have bj:¬n=(m.cW:U):=λe=>z<|Y e;have br:bR (n=0)=ao:=by simpa using hd
   have bt:bR (n=(m.cW:U))=ao:=by simpa using bj
   have bs:(n != (m.cW:U))=ay:=by simpa using bj
   have bq:(n != 0)=ay:=by simpa using hd
   clear z;go_wp2;refine(PR r.D f n _ P.o.a P.o.k P.o.g).mono ?_;intro e w3 F;obtain⟨rfl,c,C⟩|⟨rfl,c,x1,x2,x3,x4⟩:=P.o.step (P.o.k.fW.del n) F;rotate_left;exact⟨O,HF.o _ _ (by rw[ba.o,<-ho.o,HN.o,aT c]) x1 x2 x3 x4⟩;have bc:=xe<|X.o.aE<|F.1.U P.o.o;have J5:=xe C;have bm:H<|nr m (q.drop<|j+1) (f.qR n)=nr m q l:=by show _=_;rw[<-ho.o,HN.o,aL<|by rw[c];decide]
   clear F c C;go_wp2;go_roundw;exact⟨j+1,f.qR n,À,Å,bc.o,J5.o,bm.o⟩;exact Ì
  have bn:j=T q:=À
  subst bn;go_wp2;go_end0;exact HT.o _ _ (ba.o.trans<|ho.o.symm.trans<|by rw[Vl];rfl) P.o
def Mf.lc(m:Mf):Zl:=77::(nb m.ep 1++(nb m.op 2++(nb m.bF 4++(nb m.bC 2++(nb m.bM 4++(nb m.cW 2++(nb m.gT 4++(m.ga++m.aQ))))))))
def Mf.dW(m:Mf)(y:Zl):Zl:=m.lc++Wu y m.lc
def uY(m:Mf)(f c)(q:T c<=4096)(D:T m.ga=32)(B:T m.aQ=32)(w)(z:iN w):
  aK prog 120 #[m.V,bY #[E f,E c]] w λe w'=>e=ai (E<|m.dW c)/\aP (V<|Z' w) w w':=by
 have r:=z;have l1:=Z2 m.ep 1;have u:=Z2 m.op 2;have F:=Z2 m.bF 4;have G:=Z2 m.bC 2;have l5:=Z2 m.bM 4;have X:=Z2 m.cW 2;have I:=Z2 m.gT 4;have v:H<|(⟨#[77]⟩:eM)++st (nb m.ep 1)++st (nb m.op 2)++st (nb m.bF 4)++st (nb m.bC 2)++st (nb m.bM 4)++st (nb m.cW 2)++st (nb m.gT 4)++st m.ga++st m.aQ=st m.lc:=by show _=_;rw[show(⟨#[77]⟩:eM)=st [77]from O];simp only[zg];simp[Mf.lc]
 have W0:aP (V<|Z' w) w<|aF (aF w<|au m.G 185)<|au #[E f,E c] 120:=((zt _ _).alloc (zd _) _).alloc Â _;have t:xh (aF (aF w<|au m.G 185)<|au #[E f,E c] 120) (V<|Z' w) m.G 185:=(xh.ex _ _ _).E _;have BK:xh (aF (aF w<|au m.G 185)<|au #[E f,E c] 120) (V (Z' w)+1) #[E f,E c] 120:=by have:=xh.ex (aF w<|au m.G 185) #[E f,E c] 120;simp only[xp]at this;exact this
 unfold Mf.V;unfold Mf.G at*;go_enter func120.1,Tryz.ntmps120;go_wp2;generalize(aF w<|au _ 185).alloc (au #[E f,E c] 120)=W at*;have d:∀w1,aP (V<|Z' W) W w1->MC (V<|Z' w) m m.ga w1:=λw1 h=>by have b:=t.Y h;exact b.mc
 have x:=d W<|zt _ _;have a:aP (V<|Z' W) W W.drew:=(zt _ _).drew;go_region_held3 (λw'=>MC (V<|Z' w) m m.ga w') (first|exact x|exact l)
  (first
   |(go_at_call 153;refine(Hz _ _).mono ?_;rintro e w1⟨rfl,i⟩;replace a:=Xs a i;have l:=d _ a)
   |(go_at_call 154;refine(Lx _ _).mono ?_;rintro e w1⟨rfl,i⟩;replace a:=Xs a i;have l:=d _ a)
   |(go_at_call 155;refine(WI _ _).mono ?_;rintro e w1⟨rfl,i⟩;replace a:=Xs a i;have l:=d _ a))
 have p:T m.lc=84:=by simp[Mf.lc,l1,u,F,G,l5,X,I,D,B]
 rw[v.o];have g:=BK.Y a;have s:=W0.trans<|a.mono W0.size;have T1:=r.Y r.iE s;have e0:=g.i 0 O;have P:=g.i 1 O;obtain⟨n,k⟩:∃n,m.lc=n:=⟨_,O⟩;have o:=k;rw[k]at p⊢;clear l;try clear hHeld
 go_wp2;refine(LJ f c n q À _ T1).mono ?_;rintro e A⟨rfl,j⟩;have C:=uP c n;have y:=Xs s j;clear j;go_wp2;go_ret;exact⟨by unfold Mf.dW;rw[o];rfl,y⟩
end
end P
namespace A
variable{a:mh}{z:eX}{Q:Exit->mh->Zy->Prop}{Ϸ:aD}{w:Zy}{l:bA eX}
open Go
section
variable{P:cI}{ops:bE eX}{md:kJ}{C:dN->Prop}
def qT(P:Zp)(md:kJ)(ops:bE eX)(C:Zy->Prop)(z:aD)(Q:mh->Prop):aD->bE ez->mh->Prop
 |0,listed,a=>aY md ops listed=[z]/\aY md ops (aA listed z ay)=[]/\Q a|F+1,listed,a=>aY md ops listed≠[]/\z∉aY md ops listed/\∀i∈aY md ops listed,qOp P ops C i (qT P md ops C z Q F<|aA listed i ay) a
def nF{z Q d}(g:∀a w,C w->Q a->wpOp P ops d z (λA W=>d eE A W) a w):∀(F:aD) (L:bE ez) (a:mh) (w:Zy),C w->
  qT P md ops C z Q F L a->wpAny P md ops d (F+1) L a w
 |0,L,a,w,y,h=>by
  refine⟨λc=>(by rw[h.1]at c;cases c),λi b=>?_⟩;rw[h.1]at b;simp only[ju]at b;subst b;exact wpOp_mono (λA W e=>⟨h.2.1,e⟩)<|g a w y h.2.2
 |F+1,L,a,w,y,h=>⟨λc=>dC c h.1,λi b=>wpOp_of_qOp y (λA W f e=>nF g F _ A W f e)<|h.2.2 i b⟩
def Bj(md:kJ)(ops:bE eX)(L:bE ez):Prop:=∀(j:aD) (o:eX),ops[j]?=ac o->L.getD j ao=ay->∀e∈o.after,fY md e=ay->L.getD e.on ao=ay
theorem Bj.H{a}(h:Bj md ops a){i}(l:i∈aY md ops a):Bj md ops<|aA a i ay:=λj k f g e d c=>by by_cases b:j=i;grind [mem_ready,getD_set_true];refine getD_set_true<|h j k f ?_ e d c;rwa[getD_set_ne ao<|Ne.symm b]at g
theorem Bj.lz(n):Bj md ops<|Array.replicate n ao:=λj c b a=>by simp only[Jj,Array.getElem?_replicate]at a;grind
def CW(md:kJ)(ops:bE eX)(x:eX)(i:aD):Prop:=∃e∈x.after,fY md e=ay/\(e.on=i\/∃o,ops[e.on]?=ac o/\∃y∈o.after,fY md y=ay/\y.on=i)
def sK{z w' Q i q v}(X:ops[z]?=ac w')(I:CW md ops w' i)(A:ops[i]?=ac q)(m:∀(j:aD) (o:eX) cs b,ops[j]?=ac o->o.op≠ .select cs b):
  ∀(fuel:aD) (listed:bE ez) (a:mh),Bj md ops listed->
   (∀j oj,ops[j]?=ac oj->j≠i->listed.getD j ay=ao->(∀e∈oj.after,fY md e=ay->e.on≠i)->q.apart ops oj=ay)->
   i∈aY md ops listed->YieldsIn P ops C q v a->
   qT P md ops C z Q fuel (aA listed i ay) (a.put q.dst v)->qT P md ops C z Q (fuel+1) listed a:=by
 intro fuel;have wr:∀(listed:bE ez),i∈aY md ops listed->¬listed.getD i ao=ay:=λlisted p x=>by grind [mem_ready]
 have g:∀(listed:bE ez),Bj md ops listed->i∈aY md ops listed->z∉aY md ops listed:=λlisted n p h2=>by have⟨e,hd,L,t⟩:=I;have⟨_,oz',hoz',hall⟩:=mem_ready.1 h2;rw[X]at hoz';cases hoz';have x:=hall e hd L;obtain t|⟨oj,f,S,D,B,g'⟩:=t;grind;have h1:=n _ oj f x S D B;grind
 induction fuel with
 |zero=>intro listed a n _ p y u;refine⟨λh=>Á,g listed n p,λj r=>?_⟩;by_cases c:j=i;subst c;exact y.qOp A u;have:=ready_mono r c;rw[u.1]at this;grind
 |succ fuel ih=>
  intro listed a n d p y u;refine⟨λh=>Á,g listed n p,λj r=>?_⟩;by_cases c:j=i;subst c;exact y.qOp A u;have x:=u.2.2 j<|ready_mono r c;have⟨hjun,oj,f,hall⟩:=mem_ready.1 r;have s:∀e∈oj.after,fY md e=ay->e.on≠i:=λe hd L v'=>Á
  have h1:=qOp_put f (d j oj f c hjun s) (λcs b=>m i q cs b A) (λcs b=>m j oj cs b f) y x;have l:∀k w,ops[k]?=ac w->k≠i->(aA listed j ay).getD k ay=ao->
    (∀e∈w.after,fY md e=ay->e.on≠i)->q.apart ops w=ay:=λk w hk F W G=>by
   refine d k w hk F ?_ G;by_cases es:j=k;grind;simp_all
  refine qOp_mono (λhx ho=>ih _ hx (n.H r) l (ready_mono p<|Ne.symm c) ho.1 ?_) h1;grind [Array.setIfInBounds_comm]
def uc(md:kJ)(ops:bE eX)(z:aD)(o:eX):aD->aD->bE ez->ez
 |0,_,listed=>(aY md ops listed==[z])&&(aY md ops<|aA listed z ay).isEmpty
 |F+1,k,listed=>(aY md ops listed).contains k&&Region.free md ops listed k&&(o.after.any λe=>fY md e&&(e.on==k||(match ops[e.on]?with|some x=>x.after.any (λy=>fY md y&&y.on==k)|none=>ao)))&&uc md ops z o F (k+1) (aA listed k ay)
def oS:bA eX->bA eX
 |[]=>[]|[_]=>[]
 |x::y::l=>x::oS (y::l)
def qS:∀(l:bA eX) (o:eX),oS (l++[o])=l
 |[],o=>rfl|[x],o=>O
 |x::y::l,o=>by show x::oS (y::l++[o])=_;rw[qS (y::l) o]
def Em(ops:bE eX):ez:=match ops.back? with
 |none=>ao|some o=>Region.noSelect ops&&uc gH ops (V ops-1) o (V ops-1) 0 (cL (V ops) ao)
theorem qU{z f}(i:ops[z]?=ac f){Q}(g:Region.noSelect ops=ay):∀(l:bA eX) (k:aD) (L:bE ez) (a:mh),Bj md ops L->(∀j,j<T l->l[j]?=ops[k+j]?)->
  uc md ops z f (T l) k L=ay->wpQuiet P ops C Q l a->qT P md ops C z Q (T l) L a
 |[],_,_,_,_,_,y,h=>by simp only[qy,uc,jy,zQ,List.isEmpty_iff]at y;exact⟨y.1,y.2,h⟩
 |o::l,k,L,a,t,p,y,h=>by
  have b:ops[k]?=ac o:=by simpa using(p 0 Â).symm
  simp only[xg,uc,jy]at y;have⟨⟨⟨D,s⟩,u⟩,x⟩:=y;have c:qOp P ops C k (wpQuiet P ops C Q l) a:=by unfold qOp;simp[b];exact h
  have⟨v,r,W⟩:=yieldsIn_of_qOp b c;have d:CW md ops f k:=by rw[Array.any_eq_true']at u;have⟨e,S,q⟩:=u;simp only[jy,Bool.or_eq_true,zQ]at q;refine⟨e,S,q.1,q.2.imp id λm=>?_⟩;cases B:ops[e.on]?with|none=>grind|some X=>grind
  exact sK i d b (Region.noSelect_spec g) _ _ a t (Region.free_spec b s) Á r
   (qU i g l _ _ _ (t.H Á) (λj n=>by have:=p (j+1) Á;grind) x W)
def qV(g:P.follows nf=ay)(d:ops=bH (l++[z]))(c:Em ops=ay)(e:C {w with drawn:=w.drawn+1})(j:z.guard=aw)
  (h:wpQuiet P ops C (λA=>∀W,C W->z.wp P A W (λa w=>Q eE a w) Q) l a):(fG Ϸ ops ay).wp P Q a w:=by
 have f:ops.back?=ac z:=by rw[d];simp
 have b:V ops=T l+1:=by rw[d];simp
 unfold Em at c;rw[f]at c;apply wp_region_any g;rw[b];refine nF (z:=T l) (Q:=λA=>∀W,C W->z.wp P A W (λa w=>Q eE a w) Q) (C:=C) (λA W k i=>?_) (T l) _ a _ e ?_;grind [wpOp,bP];grind [qU,Bj.lz]
def nW(d:P.follows nf=ay)(e:l.getLast?=ac z)(b:Em (bH l)=ay)(c:z.guard=aw)
  (h:wpQuiet P (bH l) (λW=>∃n,W=w.drewN n) (λA=>∀W,(∃n,W=w.drewN n)->z.wp P A W (λa w=>Q eE a w) Q) (oS l) a):(fG Ϸ (bH l) ay).wp P Q a w:=by
 obtain⟨k,rfl⟩:∃k,l=k++[z]:=by grind [List.getLast?_eq_some_iff]
 rw[qS]at h;exact qV d O b ⟨1,O⟩ c h
end
end A
namespace P
variable{z B:aD}{r:Sr}{w w':Zy}{s:kE}
open A.Tryq Go.RowKit
section
attribute [local go_sem] zn zg
def vJ(r:Sr)(s:kE)(n:aD):Za:=#[Q bB (s.ep:U),Q bB (r.op:U),Q bB (r.bF:U),Q bB s.bC,Q bB s.aQ,Q bB (fE s.dB:U),Q bB (n:U),ak ⟨#[]⟩,ak<|st r.bQ]
def Bm(B r s)(n:aD)(w)(h:Vq w B r)(q:r.sn=ac s):aK prog 113 #[K B,J n] w λe w'=>e=ai (bY<|vJ r s n)/\aP (V<|Z' w) w w':=by
 have k:=(h.fP s q).1;have I:N w (zq B 7)=K s.S:=(h.bT.i 7 O).trans (by simp[Sr.G,Sr.my,q]);have g:N w (zq B 4)=J r.bF:=h.bT.i 4 O;have i:N w (zq B 5)=E r.bQ:=h.bT.i 5 O;have j:N w (zq B 6)=J r.op:=h.bT.i 6 O;have l:N w (zq s.S 2)=J s.ep:=k.bT.i 2 O;have m:N w (zq s.S 4)=J s.aQ:=k.bT.i 4 O;have o:N w (zq s.S 5)=J s.dB:=k.bT.i 5 O;have p:N w (zq s.S 6)=J s.bC:=k.bT.i 6 O;have d:=h.bT.lt;have b:=k.bT.lt;go_enter func113.1,Tryz.ntmps113;go_wp2;have WB:aP (V<|Z' w) w<|aF w<|au #[J 0,J 0,J 0,J 0,J 0,J 0,J 0,ak ⟨#[]⟩,ak ⟨#[]⟩] 185:=(zt _ _).alloc (zd _) _;have a:xh (aF w<|au #[J 0,J 0,J 0,J 0,J 0,J 0,J 0,ak ⟨#[]⟩,ak ⟨#[]⟩] 185) (V<|Z' w) #[J 0,J 0,J 0,J 0,J 0,J 0,J 0,ak ⟨#[]⟩,ak ⟨#[]⟩] 185:=xh.ex _ _ _;generalize aF w (au #[J 0,J 0,J 0,J 0,J 0,J 0,J 0,ak ⟨#[]⟩,ak ⟨#[]⟩] 185)=W at*;replace g:=(WB.cell d).trans g;replace i:=(WB.cell d).trans i;replace j:=(WB.cell d).trans j;replace l:=(WB.cell b).trans l;replace m:=(WB.cell b).trans m;replace o:=(WB.cell b).trans o;replace p:=(WB.cell b).trans p;refine A.nW Ä O Ä O ?_;simp only[A.oS];repeat (go_big_quiet_step ((go_at_call 174;refine qE<|yH _ _)))
 refine wpQuiet_nil ?_;intro w1 f;obtain⟨t,rfl⟩:=f;have v:N W (zq (V<|Z' w) 0)=ac ((J 0)):=a.i 0 O;have X:=a.dS 0;have x:N W (zq (V<|Z' w) 1)=ac ((J 0)):=a.i 1 O;have P:=a.dS 1;have y:N W (zq (V<|Z' w) 2)=ac ((J 0)):=a.i 2 O;have L:=a.dS 2;have z:N W (zq (V<|Z' w) 3)=ac ((J 0)):=a.i 3 O;have hd:=a.dS 3;have C:N W (zq (V<|Z' w) 4)=ac ((J 0)):=a.i 4 O;have h1:=a.dS 4;have D:N W (zq (V<|Z' w) 5)=ac ((J 0)):=a.i 5 O;have h2:=a.dS 5;have u:N W (zq (V<|Z' w) 6)=ac ((J 0)):=a.i 6 O;have hx:=a.dS 6;have F:N W (zq (V<|Z' w) 7)=ac ((ak ⟨#[]⟩)):=a.i 7 O;have ho:=a.dS 7;have G:N W (zq (V<|Z' w) 8)=ac ((ak ⟨#[]⟩)):=a.i 8 O;have wr:=a.dS 8;go_wp2;have c:aP (V<|Z' w) w<|M (M (M (M (M (M (M (M (M (W.drewN t) (zq (V<|Z' w) 0)<|J s.ep) (zq (V<|Z' w) 1)<|J r.op) (zq (V<|Z' w) 2)<|J r.bF) (zq (V<|Z' w) 3)<|J s.bC) (zq (V<|Z' w) 4)<|J s.aQ) (zq (V<|Z' w) 5)<|J<|fE s.dB) (zq (V<|Z' w) 6)<|J n) (zq (V<|Z' w) 7)<|ak ⟨#[]⟩) (zq (V<|Z' w) 8)<|E r.bQ:=by have S:aP (V<|Z' w) w<|W.drewN t:=⟨WB.os,WB.tape,WB.output,WB.size,WB.block⟩;exact((((((((S.setCell (zd _) _).setCell (zd _) _).setCell (zd _) _).setCell (zd _) _).setCell (zd _) _).setCell (zd _) _).setCell (zd _) _).setCell (zd _) _).setCell (zd _) _
 refine ji (by simp[eR,Tryz.results113,go_sem,vJ,v,x,y,z,C,D,u,F,G]) O ⟨O,c⟩
theorem Qs:∀(X:bA Zl),Lib.join X []=X.flatten
 |[]=>rfl|[x]=>by simp[Lib.join]
 |x::y::X=>by have:=Qs (y::X);simp only[Lib.join,List.flatten_cons,qj]at*;simp[this]
def Ĉ(X:bA Zl)(v)(m:T X<=1000000)(f:T X.flatten<=140737488355328)(w)(h:w.ownsRow z 9 1 v (T X)<|X.map qY):
  aK prog 119 #[v,ak ⟨#[]⟩] w λe w'=>e=ai (E X.flatten)/\aP (V<|Z' w) w w':=by
 have b:(X.map st).map (·.data.toList)=X:=by simp[Wj,zc1,st]
 rcases QC (λ_=>O) h with⟨rfl,rfl⟩|⟨g,C,rfl,q,u,t⟩;exact(Any.strings_Join_none ub jP aw 0 _ w).mono λe w'⟨a,c⟩=>⟨a,c▸zt _ _⟩;have d:g<V (Z' w):=by have⟨p,a,_⟩:=t;exact(za.1 a).1
 have:=Any.strings_Join ub jP g 0 C _ ⟨#[]⟩ w (λj x i=>by rw[List.getElem?_map,zv]at i;obtain⟨y,l,rfl⟩:=i;obtain⟨k,rfl⟩:=Wb.1 l;rw[j7];exact t.i j k) d Á Á<|by grind [Qs]
 rw[b,jl]at this;refine this.mono λe w'⟨a,c⟩=>⟨a.trans ?_,c⟩;rw[Qs];rfl
def ą(X v)(b:T X<=256)(hx:∀x∈X,T x<=4095)(w)(c:iN w)(h:w.ownsRow z 9 1 v (T X)<|X.map qY):
  aK prog 117 #[v] w λe w'=>e=ai (cE #[E<|J9 X,J 0])/\aP (V<|Z' w) w w':=by
 rcases QC (λ_=>O) h with⟨rfl,rfl⟩|⟨g,C,rfl,y,t,q⟩;grind [ĕ];by_cases a:X=[];grind [ĕ];exact xrt X (Z0.2 a) b hx g 0 C w c λj d=>by rw[j7];exact q.i j d
def CY(l):(∀y∈Ys l,T y<=64)/\T (Ys l)*64<=T l+63/\(Ys l).flatten=l:=by generalize x:T l=n;induction n using Nat.strongRecOn generalizing l with|_ n I=>by_cases h:l=[];subst h;simp[Qx];have a:=Z0.2 h;rw[Qu h];have⟨q,t,p⟩:=I (T (l.drop 64)) Á _ O;refine⟨λy b=>?_,?_,?_⟩;grind;grind;simp_all
def Qo{m a X k}(h:∀y∈X,T y<=k):∀y∈Y9 m a X,T y<=k:=by grind [Y9,A']
def Iv{k}:∀{X:bA Zl},(∀y∈X,T y<=k)->T X.flatten<=k*T X
 |[],_=>by simp|x::X,h=>by have b:=h x xu;have c:=Iv λy a=>h y<|jw _ a;grind [Nat.mul_add]
def Zd.cZ{b a W}(h:Zd B a W r w)(c:V (Z' W)<=b)(ho:¬r.cN B b)(k:zj (·=b) w w'):Zd B a W r w':=
 ⟨zj.cZ h.y c k,h.dI.y k λx d e=>ho Á,h.cN⟩
def pH.bC(h:pH B r)(b:r.sn=ac s)(k:U):pH B {r with sn:=ac {s with bC:=k}} where
 m:=h.m
 bQ:=h.bQ
 bF:=h.bF
 op:=h.op
 bU:=h.bU
 fW:=h.fW
 Ip:=h.Ip
 nx:=h.nx
 cN:=λx a=>h.cN x (by obtain e|e|⟨t,e,a⟩:=a;exact aJ e;exact Y<|aJ e;cases e;exact Y<|Y ⟨s,b,a⟩)
 fP:=λt c=>by cases c;exact h.fP s b
def Ep{C f A x}(h:aK prog f A w<|sN C B r x w):
  aK prog f A w λe w'=>(e=ai (cE #[])/\x.1=ay/\Zd B r w {r with d:=x.2} w')\/(e=kn C/\x.1=ao/\Zd B r w {r with d:=x.2} w'):=
 h.mono λe w'⟨a,b⟩=>Á
def uf(m:Mf)(c)(b:T m.ga=32)(a:T m.aQ=32):T (m.dW c)=116:=by simp[Mf.dW,Mf.lc,Z2,b,a,uP]
def wL{k}(b:r.sn=ac s){x}:({r with sn:=ac {s with bC:=k}}:Sr).cN B x↔r.cN B x:=by constructor;rintro(e|e|⟨t,e,a⟩);exact aJ e;exact Y<|aJ e;cases e;exact Y<|Y ⟨s,b,a⟩;rintro(e|e|⟨t,e,a⟩);exact aJ e;exact Y<|aJ e;rw[b]at e;cases e;exact Y<|Y ⟨_,O,a⟩
def uE(m:Mf)(L:Xv):dD Zl:=if 0<m.gT then(if m.gT<=16384 then(if m.cW=10001\/m.cW=10002 then ac (jp L m.cW)else aw)else aw)else ac []
def vK(m:Mf)(C b:Zl):dD KV:=if T b=m.gT then(if m.ga=J9 (Ys b)then Yo (Y9 m C<|Ys b).flatten else aw)else aw
def Y6(m:Mf)(L:Xv)(C:Zl):dD KV:=(uE m L).bind<|vK m C
def IA(t:Zv)(x:dD KV)(w:Zy)(e:kH)(w':Zy):Prop:=
 Nw w w'/\(match x with|some L=>∃m,e=ai (fu<|some m)/\V (Z' w)<=m/\Je w' m L|none=>e=kn t)
def F8{t x}(h:x=aw)(a:Nw w w'):IA t x w (kn t) w':=by subst h;exact⟨a,O⟩
def xbh{tv}(m D d a r)(bt:T a=16)(b1:m.gT<=100000000000)(w)(h:Jt w D d)(hG:ip tv w)(hT:iN w):
  aK prog 163 #[m.V,K D,bY #[E a,E r]] w (IA tv (Y6 m d.L a) w):=by
 have HD:Jt w D d:=h;have HG:ip tv w:=hG;have HT:iN w:=hT;have bo:=xe bt;have bj:=hT.iE;have F:Nw w<|aF (aF w<|au m.G 185)<|au #[E a,E r] 120:=(zj.E _).aE<|zj.E _;have BM:xh (aF (aF w<|au m.G 185)<|au #[E a,E r] 120) (V<|Z' w) m.G 185:=(xh.ex w _ 185).E _;have BK:xh (aF (aF w<|au m.G 185)<|au #[E a,E r] 120) (V (Z' w)+1) #[E a,E r] 120:=by have:=xh.ex (aF w<|au m.G 185) #[E a,E r] 120;rw[xp]at this;exact this
 have s:H<|Y6 m d.L a=(uE m d.L).bind (vK m a):=O;unfold Mf.V;unfold Mf.G at*;go_enter func163.1,Tryz.ntmps163;have P:ip tv<|aF (aF w<|au #[J m.ep,J m.op,J m.bF,J m.bC,J m.bM,J m.cW,J m.gT,E m.ga,E m.aQ] 185)<|au #[E a,E r] 120:=HG.y F id;by_cases A:0<m.gT;rotate_left;focus
  have i0:¬(0:U)<(m.gT:U):=À
  have v:m.gT<=16384:=zbk
  have l:H<|uE m d.L=ac []:=by show _=_;unfold uE;rw[aL A]
  go_wp2;generalize(aF w<|au #[J m.ep,J m.op,J m.bF,J m.bC,J m.bM,J m.cW,J m.gT,E m.ga,E m.aQ] 185).alloc (au #[E a,E r] 120)=w1 at*;refine(Eh _ _ P).mono ?_;rintro e G⟨k,p⟩;obtain rfl:w1=G:=k.symm;obtain⟨rfl,o⟩|⟨rfl,o⟩:=p;rotate_left;exact⟨O,F8 zds F⟩;have C:T (([]:Zl))=m.gT:=zcn
  have t:=xe C;have hd:H<|Y6 m d.L a=if m.ga=J9 (Ys<|([]:Zl))then Yo (Y9 m a<|Ys<|([]:Zl)).flatten else aw:=zc0
  have B:T (([]:Zl))<=16384:=by have:=v;omega
  go_wp2;refine(QE _ À _).mono ?_;rintro e f⟨X,rfl,g,c⟩;have N4:Nw w f:=F.aE c;have h1:xh f (V<|Z' w) #[J m.ep,J m.op,J m.bF,J m.bC,J m.bM,J m.cW,J m.gT,E m.ga,E m.aQ] 185:=BM.y c id;have ba:xh f (V (Z' w)+1) #[E a,E r] 120:=BK.y c id;have O4:f.ownsRow (V<|Z' w1) 9 1 X (T (Ys<|([]:Zl)))<|(Ys<|([]:Zl)).map qY:=g;have G4:ip tv f:=P.y c id;have T4:iN f:=HT.y N4 id;have bk:=c.Q;obtain⟨z,hx,ho⟩:=CY<|([]:Zl);have n:(∀y∈Ys (([]:Zl)),T y<=64)/\T (Ys<|([]:Zl))<=256:=⟨z,À⟩;generalize Ys (([]:Zl))=ps at*;clear z hx ho g c t C B
 rotate_left;focus
  have i0:(0:U)<(m.gT:U):=À
  go_wp2;generalize(aF w<|au #[J m.ep,J m.op,J m.bF,J m.bC,J m.bM,J m.cW,J m.gT,E m.ga,E m.aQ] 185).alloc (au #[E a,E r] 120)=w1 at*;refine(Eh _ _ P).mono ?_;rintro e w2⟨bw,p⟩;obtain rfl:w1=w2:=bw.symm;obtain⟨rfl,o⟩|⟨rfl,o⟩:=p;rotate_left;exact⟨O,F8 (by rw[s.o];unfold uE;rw[aT A,aL zbb];rfl) F⟩;have u:m.gT<=16384:=by have:=o.o;simp at this;omega
  have v:m.gT<=16384:=u;have e6:=BM.i 6 O;have e5:=BM.i 5 O;have bc:Jt w1 D d:=HD.y F λ_ _=>id;by_cases h2:m.cW=10001;rotate_left;focus
   by_cases h3:m.cW=10002;rotate_left
   ·have j1:((m.cW:U)==10001)=ao:=by simp;omega
    have j2:((m.cW:U)==10002)=ao:=Ç
    have bn:H<|Y6 m d.L a=aw:=by show _=_;rw[s.o];unfold uE;rw[aT A,aT u,aL À];rfl
    go_wp2;refine(WM _ P).mono ?_;rintro e G⟨rfl,k⟩;obtain rfl:=k;exact⟨O,F8 bn.o F⟩
   have l:H<|uE m d.L=ac (jp d.L m.cW):=by show _=_;unfold uE;rw[aT A,aT u,aT<|Y h3]
   have j1:(m.cW:U)=10002:=À
   rw[j1]at e5 l;go_wp2;refine(Pg _).mono ?_;rintro e G⟨rfl,k⟩;obtain rfl:w1=G:=k.symm;go_wp2;refine(Ei D d 10002 _ bc).mono ?_;rintro e f⟨rfl,W⟩;obtain rfl:w1=f:=W.symm;have bh:=e6;generalize jp d.L 10002=b at*
  rotate_left;focus
   have l:H<|uE m d.L=ac (jp d.L m.cW):=by show _=_;unfold uE;rw[aT A,aT u,aT<|aJ h2]
   have j1:(m.cW:U)=10001:=À
   rw[j1]at e5 l;go_wp2;refine(Pg _).mono ?_;rintro e G⟨rfl,k⟩;obtain rfl:w1=G:=k.symm;go_wp2;refine(Ei D d 10001 _ bc).mono ?_;rintro e f⟨rfl,W⟩;obtain rfl:w1=f:=W.symm;have bh:=e6;generalize jp d.L 10001=b at*
  all_goals
   go_wp2;refine(Eh _ _ P).mono ?_;rintro e G⟨k,p⟩;obtain rfl:w1=G:=k.symm;obtain⟨rfl,o⟩|⟨rfl,o⟩:=p;rotate_left;exact⟨O,F8 zds F⟩;have C:T (b)=m.gT:=zcn
   have t:H<|T (b)=m.gT:=C;have hd:H<|Y6 m d.L a=if m.ga=J9 (Ys<|b)then Yo (Y9 m a<|Ys<|b).flatten else aw:=zc0
   have B:T (b)<=16384:=by have:=v;omega
   go_wp2;refine(QE (b) À _).mono ?_;rintro e f⟨X,rfl,g,c⟩;have N4:Nw w f:=F.aE c;have h1:xh f (V<|Z' w) #[J m.ep,J m.op,J m.bF,J m.bC,J m.bM,J m.cW,J m.gT,E m.ga,E m.aQ] 185:=BM.y c id;have ba:xh f (V (Z' w)+1) #[E a,E r] 120:=BK.y c id;have O4:f.ownsRow (V<|Z' w1) 9 1 X (T (Ys<|b))<|(Ys<|b).map qY:=g;have G4:ip tv f:=P.y c id;have T4:iN f:=HT.y N4 id;have bk:V (Z' w1)<=V (Z' f):=c.Q;obtain⟨z,hx,ho⟩:=CY<|b;have n:(∀y∈Ys (b),T y<=64)/\T (Ys<|b)<=256:=⟨z,À⟩;generalize Ys (b)=ps at*;clear z hx ho g c t C B
 all_goals
  have be:∀w1,Nw f w1->N w1 (zq (V<|Z' w) 7)=E m.ga:=λw1 hh=>(h1.y hh id).i 7 O;have S0:=be f<|zj.refl _ _;have bq:f.drew.ownsRow (V<|Z' w1) 9 1 X (T ps)<|ps.map qY:=O4;have br:iN f.drew:=T4;have NN:Nw f f.drew:=(zj.refl _ _).W;go_wp2;go_region_held2 (λw'=>N w' (zq (V<|Z' w) 7)=E m.ga) (first|exact S0|exact S1)
   (first
    |(go_at_call 117;refine(ą ps X n.2 (λy hy=>by have:=n.1 y hy;omega) _ br bq).mono ?_;rintro e i⟨rfl,bs⟩;have L:Nw f i:=NN.aE<|zj.J bs;have S1:=be _ L;have G5:ip tv i:=G4.y L id)
    |(go_at_call 116;refine(Id _ _).mono ?_;rintro e w6⟨rfl,bx⟩;obtain rfl:i=w6:=bx.symm)
    |(go_at_call 164;refine(Eh _ _ G5).mono ?_;rintro e w7⟨bz,p⟩;obtain rfl:i=w7:=bz.symm;obtain⟨rfl,o⟩|⟨rfl,o⟩:=p;rotate_left;(exact⟨O,F8 (by rw[hd.o,aL<|by have u:=o.o;grind])<|N4.aE L⟩);have bp:H<|m.ga=J9 ps:=by have u:=o.o;rw[zQ,xl,xl]at u;exact u))
  have bg:Nw w i:=N4.aE L;have j:xh i (V<|Z' w) #[J m.ep,J m.op,J m.bF,J m.bC,J m.bM,J m.cW,J m.gT,E m.ga,E m.aQ] 185:=h1.y L id;have bb:xh i (V (Z' w)+1) #[E a,E r] 120:=ba.y L id;have O5:i.ownsRow (V<|Z' w1) 9 1 X (T ps)<|ps.map qY:=Ie O4 L λ_ _ x=>x;have z0:N i (zq (V<|Z' w) 0)=J m.ep:=j.i 0 O;have z1:N i (zq (V<|Z' w) 1)=J m.op:=j.i 1 O;have z2:N i (zq (V<|Z' w) 2)=J m.bF:=j.i 2 O;have z3:N i (zq (V<|Z' w) 3)=J m.bC:=j.i 3 O;have z4:N i (zq (V<|Z' w) 4)=J m.bM:=j.i 4 O;have z5:N i (zq (V<|Z' w) 5)=J m.cW:=j.i 5 O;have z6:N i (zq (V<|Z' w) 6)=J m.gT:=j.i 6 O;have z7:N i (zq (V<|Z' w) 7)=E m.ga:=j.i 7 O;have z8:N i (zq (V<|Z' w) 8)=E m.aQ:=j.i 8 O;have y0:N i (zq (V (Z' w)+1) 0)=E a:=bb.i 0 O;have y1:N i (zq (V (Z' w)+1) 1)=E r:=bb.i 1 O;have bd:H<|Y6 m d.L a=Yo (Y9 m a ps).flatten:=by show _=_;rw[hd.o,aT bp.o]
  have bl:4<V (Z' i):=zm bj bg.Q;try clear j1
  try clear h3
  try clear h2
  try clear u
  try clear i0
  try clear A
  try clear e5
  try clear e6
  try clear bh
  try clear hHeld
  go_wp2;refine(Ă m ps X a r bo.o (λy hy=>by have:=n.1 y hy;omega) (by have:=n.2;omega) _<|ć O5).mono ?_;rintro e w8⟨v8,rfl,g',wr⟩;have O8:w8.ownsRow (V<|Z' i) 9 1 v8 (T (Y9 m a ps))<|(Y9 m a ps).map qY:=by show World.ownsRow _ _ _ _ _ _ _;rw[Ah];exact g'
  have N8:Nw w w8:=bg.aE wr;have G8:ip tv w8:=G5.y wr id;have I:(∀y∈Y9 m a ps,T y<=64)/\T (Y9 m a ps)<=256:=⟨Qo n.1,by rw[Ah];exact n.2⟩;have b0:4<V (Z' w8):=zm bl wr.Q;generalize Y9 m a ps=qs at*;go_wp2;refine(Ĉ qs v8 (by have:=I.2;omega) (by have:=Iv I.1;have:=I.2;omega) _ O8).mono ?_;rintro e w9⟨rfl,cs⟩;have N9:Nw w w9:=N8.aE<|zj.J cs;have G9:ip tv w9:=G8.y (S:=λ_=>False) (zj.J cs) id;have b2:4<V (Z' w9):=zm b0 cs.size;go_wp2;refine(xep _ _ À G9).mono ?_;rintro e bm⟨bi,q⟩;have bf:Nw w bm:=N9.aE bi;cases hq:Yo qs.flatten with
  |none=>rw[hq]at q;subst q;exact⟨O,F8 (by rw[bd.o,hq]) bf⟩
  |some v'=>
   rw[hq]at q;obtain⟨mm,rfl,bu,bv⟩:=q;have HF:IA tv (Y6 m d.L a) w (ai<|fu<|some mm) bm:=by show IA _ _ _ _ _;rw[bd.o,hq];exact⟨bf,mm,O,xa N9.Q bu,bv⟩
   go_wp2;go_ret;exact HF
end
end P
end Go.Proofs.YtjnbhiamaabbgaaGreatDoor
