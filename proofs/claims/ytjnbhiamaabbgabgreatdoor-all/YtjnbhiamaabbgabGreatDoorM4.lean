import Derived.Test.YtjnbhiamaabbgabGreatDoorM3
import Derived.Shelf.Strings.Repeat
import Derived.Shelf.Strings.OnBuilder
import Derived.Shelf.Strings.BuilderK
set_option linter.all false
set_option maxRecDepth 100000
set_option maxHeartbeats 8000000
section
variable{P:Prop}
def ï(h:P:=by unfold kh;omega):=h
def zbb(h:P:=by have:=o.o;grind):=h
def zbk(h:P:=by show _<=_;omega):=h
def zc0(h:P:=by show _=_;rw[s.o,l.o];show vK m a _=_;unfold vK;rw[aT t.o]):=h
def zc4(h:P:=by rw[this];exact⟨O,W.U λy f=>ac f,xh.y HL W v,h2,λy f=>Dk.mL d D y f⟩):=h
def zcn(h:P:=by have:=o.o;simp at this;(try simp);omega):=h
def zds(h:P:=by rw[s.o,l.o];show vK m a _=R;unfold vK;rw[aL zbb]):=h
def ze6(h:P:=by have:l=[]:=jv À;subst this;rfl):=h
def tk(h:P:=by show(aR _ _).run prog _=_;simp[aR,go_sem,ge]):=h
def zbh(h:P:=by have:=o.o;omega):=h
end
namespace Go.Proofs.YtjnbhiamaabbgabGreatDoor
open _root_ renaming Array->bE,Bool->ez,ByteArray->eM,Int->U,List->bA,Nat->Q,Option->dD,absurd->dC,rfl->O,Array.replicate->cL,Array.setIfInBounds->aA,Array.size->V,Array.toList->eV,BitVec.ofInt->dM,Bool.false->ao,Bool.true->M,Decidable.decide->bR,Exists.intro->ng,False.elim->eT,Function.comp_def->zc1,Int.toNat->bL,Int.toNat_of_nonneg->p8,Option.none->R,Option.some->Y,Or.inl->aJ,Or.inr->ac,Prod.fst->o7,UInt8.ofNat->mZ,UInt8.toNat->aN
open Go renaming Act->mh,Calls->aK,Ending->kH,Oper->eX,Program->cI,TypeId->oW,Value->eJ,World->dN,bits->lr,heap_alloc_new->xn,heap_setCell_other->jj,maxLen->pu,results->eR,setRow_heap->Jr,Calls.quiet_of_same->qE,Code.region->fG,Departure.mixedOrders->nf,Ending.returned->ai,Exit.normal->eE,Instr.findKey->cB,Instr.lookup->fC,Instr.mapUpdate->im,IntKind.i64->bB,IntKind.wrap_i64->zh,Lib.byteCells->hZ,Obj.cells->au,Proofs.intOf->bZ,Region.Mode.any->gH,Result.andThen->bN,Result.ok->dG,RowKit.Below->aP,RowKit.Hid->H,RowKit.Below.refl->zt,TypeDesc.string->oC
open Region renaming Mode->kJ,binds->fY,ready->aY,wanted->bP
open Value renaming agg->bY,bool->bG,iface->iW,int->aD,map->fu,pointer->aU,slice->aB,string->ak,tuple->cE
open World renaming alloc->aF,cell?->N,frozen?->aX,heap->Z,news_of_block->gX,setCell->ay,size_alloc->xp
open List renaming drop_eq_getElem_cons->Zx,length->T,length_append->zx,length_pos_iff->Z0,length_take->xf,map_congr_left->W6,pairwise_cons->Xw,range->iC,replicate->bS,take_of_length_le->qp,take_succ_eq_append_getElem->zp,toArray->bH
namespace P
open A.Tryq Go.RowKit
section
attribute[local go_sem] zn zg
def tH(k:Lk):bA U->Dk->ez×Dk
 |[],d=>(M,d)|n::y,d=>if Ej k n=M then tH k y d else if d.cS=M then(ao,d.eS)else tH k y (d.qR n)
def rU.del{L}(h:rU L)(n):rU<|nS L n:=⟨λp a=>h.fU p<|LO a,xa (PT ..) h.bF⟩
def Dk.sL(d:Dk)(n D x):(d.qR n).cN D x↔d.cN D x:=Dk.kO d D x
def Wd(k:Lk)(d:Dk):ez×Lk×Dk:=((tH k (Zk d.L) d).1,k,(tH k (Zk d.L) d).2)
def Zb(k:Lk)(d:Dk):ez×Lk×Dk:=
 if k.cQ=M/\0<k.cY then(if d.cS=M then(ao,k,d.eS)else Wd k (d.rL k.aQ (bL k.cY)))
 else if k.cQ=M then(if d.cS=M then(ao,k,d.eS)else Wd {k with aQ:=k.aQ-1} (d.qR k.aQ))
 else Wd k d
def Qz(C:Zv)(b:Q)(D:Q)(d:Dk)(w:Zy)(x:ez×Lk×Dk)(e:kH)(W:Zy):Prop:=
 e=(if x.1=M then ai (cE #[])else kn C)/\zj (λy=>y=b\/d.cN D y) w W/\Jh W b x.2.1/\Jt W D x.2.2/\(∀y,x.2.2.cN D y->d.cN D y)
structure MJ(w:Zy)(b D:Q)(d:Dk)(k x:Lk)(z:Dk)(W:Zy):Prop where
 ay:Zb k d=Wd x z
 A:Jt W D z
 L:Jh W b x
 zq:jW D z
 O:∀y,z.cN D y->d.cN D y
 B:zj (λy=>y=b\/d.cN D y) w W
def xtv{cv}(b k D d w)(hl:Jh w b k)(hd:Jt w D d)(hk:jW D d)(b1:T d.L<1000000)(hG:xP cv w)(v:¬d.cN D b)(b2:b≠0)
  (hw:k.cQ=M->0<=k.cY/\k.cY<=(T (jp d.L k.aQ):Q))(cf:-1000000000000<=k.aQ/\k.aQ<=1000000000000):
  aK prog 82 #[aU<|some ⟨b,0,R⟩,aU<|some ⟨D,0,R⟩] w (Qz cv b D d w<|Zb k d):=by
 let HL:=hl;let HD:=hd;let G:=hk;let HG:=hG;let HW:=hw;let be:N w ⟨b,15,R⟩=bG k.cQ:=hl.i 15 O;let h1:N w ⟨b,16,R⟩=aD bB k.cY:=hl.i 16 O;let b0:=hl.i 12 O;go_enter func82.1,Tryz.ntmps82;cases htn:k.cQ;focus
  rw[htn]at be;let HM:H<|Zb k d=Wd k d:=by show _=_;unfold Zb;rw[aL Á,aL Á]
  let DA:=HD;let LA:=HL;let KA:=G;let OA:∀y,d.cN D y->d.cN D y:=λ_ h=>h;let B:zj (λy=>y=b\/d.cN D y) w w:=zj.refl ..;go_wp2;refine rC λX hw=>?_;obtain⟨o,t,u⟩:∃o t,MJ w b D d k o t X:=⟨_,_,HM.o,hw▸DA,hw▸LA,KA,OA,hw▸B⟩
 rotate_left;focus
  rw[htn]at be;obtain⟨cg,ch⟩:=HW htn;by_cases bl:0<k.cY;focus
   obtain⟨z,bk⟩:∃z:Q,k.cY=(z:U):=⟨bL k.cY,À⟩;rw[bk]at h1;let ho:H<|d.cS=ao->Zb k d=Wd k (d.rL k.aQ z):=λa=>by grind [Zb]
   let F:∀c,zj (d.cN D) w c->Jt c D d.eS->d.cS=M->Qz cv b D d w (Zb k d) (kn cv) c:=λc W h2 h3=>by
    let:Zb k d=(ao,k,d.eS):=by unfold Zb;rw[aT ⟨htn,bl⟩,aT h3]
    exact zc4
   let CU:∀w1,Nw w w1->aK prog 138 #[aU<|some ⟨D,0,R⟩,aD bB k.aQ,aD bB (z:U)] w1 (vF cv D d (Vm d.L k.aQ ((jp d.L k.aQ).take z,T ((jp d.L k.aQ).take z))) w1):=λw1 h=>xwt D d _ z w1 (HD.y h λ_ _=>id) G (HG.y h id) À;let S0:N w ⟨b,12,R⟩=aD bB k.aQ/\N w ⟨b,16,R⟩=aD bB (z:U):=⟨b0,h1⟩;let bv:=HL;let bx:∀c,Jh c b k->N c ⟨b,12,R⟩=aD bB k.aQ/\N c ⟨b,16,R⟩=aD bB (z:U):=λc L=>⟨L.i 12 O,by rw[<-bk];exact L.i 16 O⟩;go_wp2;go_region_held2 (λw'=>N w' ⟨b,12,R⟩=aD bB k.aQ/\N w' ⟨b,16,R⟩=aD bB (z:U)) (first|exact S0|exact S1)
    ((go_at_call 138;refine(CU _ (zj.refl ..).W).mono ?_;rintro e c⟨l,⟨rfl,m,a⟩|⟨rfl,m,a⟩⟩;rotate_left;(exact⟨O,F _ ((zj.refl ..).W.aE l) m a.o⟩);let v':zj (d.cN D) w c:=(zj.refl ..).W.aE l;let bn:Jt c D<|d.rL k.aQ z:=m;let bd:H<|d.cS=ao:=a.o;let L:Jh c b k:=xh.y bv v' v;let S1:=bx c L))
   let HM:=xe<|ho.o bd.o;let DA:=bn;let LA:=L;let KA:jW D<|d.rL k.aQ z:=G.step bd.o<|G.fW.np ï (by let W:=G.fW.fU.mJ k.aQ;grind [Zm,jp]) b1;let OA:∀y,(d.rL k.aQ z).cN D y->d.cN D y:=λy f=>(Dk.kO d D y).1 f;let B:zj (λy=>y=b\/d.cN D y) w c:=v'.U λy f=>ac f;try clear hHeld
   go_wp2;refine rC λX hw=>?_;obtain⟨o,t,u⟩:∃o t,MJ w b D d k o t X:=⟨_,_,HM.o,hw▸DA,hw▸LA,KA,OA,hw▸B⟩
  rotate_left;focus
   let bj:k.cY=0:=À
   rw[bj]at h1;let ho:H<|d.cS=ao->Zb k d=Wd {k with aQ:=k.aQ-1} (d.qR k.aQ):=λa=>by grind [Zb]
   let F:∀c,zj (d.cN D) w c->Jt c D d.eS->d.cS=M->Qz cv b D d w (Zb k d) (kn cv) c:=λc W h2 h3=>by
    let:Zb k d=(ao,k,d.eS):=by unfold Zb;rw[aL λx=>bl x.2,aT htn,aT h3]
    exact zc4
   go_wp2;refine(PR D d _ _ HD G HG).mono ?_;rintro e c⟨l,⟨rfl,m,a⟩|⟨rfl,m,a⟩⟩;rotate_left;exact⟨O,F _ l m a.o⟩;let L:=xh.y HL l v;let HM:=xe<|ho.o a.o;let cd:N c ⟨b,12,R⟩=aD bB k.aQ:=L.i 12 O;let ce:=L.dS 12;let DA:Jt (ay c ⟨b,12,R⟩<|aD bB<|k.aQ-1) D<|d.qR k.aQ:=m.y (zj.H c ..) λx hx e=>v (by let e:x=b:=e;rw[<-e];exact(Dk.sL d _ D x).1 hx);let LA:Jh (ay c ⟨b,12,R⟩<|aD bB<|k.aQ-1) b {k with aQ:=k.aQ-1}:=xh.H L 12 _;let KA:jW D<|d.qR k.aQ:=G.step a.o<|G.fW.del _;let OA:∀y,(d.qR k.aQ).cN D y->d.cN D y:=λy f=>(Dk.sL d _ D y).1 f;let B:zj (λy=>y=b\/d.cN D y) w<|ay c ⟨b,12,R⟩<|aD bB<|k.aQ-1:=(l.U λy f=>ac f).aE<|(zj.H c ..).U λy f=>aJ f;let i1:-9223372036854775808<=k.aQ-1:=À
   go_wp2;refine rC λX hw=>?_;obtain⟨o,t,u⟩:∃o t,MJ w b D d k o t X:=⟨_,_,HM.o,hw▸DA,hw▸LA,KA,OA,hw▸B⟩
 all_goals
  replace u:=u;refine(LN D t X u.A u.zq.fW).mono ?_;rintro e w1⟨p,g,cc,rfl,hp,hg,bi,cs⟩;let HP:=hp;let HR:=bi;let bo:=u.B.aE<|zj.J cs;let bm:=u.A.y (zj.J cs) λ_ _=>id;let bz:=xh.ac u.L cs;let bu:T (Zk t.L)<=1000000:=by show _<=_;rw[LP];exact u.zq.fW.bF
  let b5:¬d.cN D g:=λx=>by let:=Dk.fg HD x;let:=u.B.aD;omega
  let br:=b5;let⟨s,bg⟩:=JP<|Zk t.L;let bc:=bg;rw[bg]at HP HR bu⊢;go_wp2;go_loopw [47] (λi wr=>∃(j:Q) (r:Dk),j<=T s/\i=aD bB j/\zj (λy=>y=b\/d.cN D y) w wr/\zj (λy=>d.cN D y) w1 wr/\Jh wr b o/\Jt wr D r/\jW D r/\(∀y,r.cN D y->d.cN D y)/\tH o (s.drop j) r=tH o s t) (λi _=>bL (T s-bZ i));exact⟨0,t,À,O,bo,zj.refl ..,bz,bm,u.zq,u.O,O⟩;obtain⟨j,r,hj,rfl,hb,b3,b7,b4,b9,bh,b8⟩:=hrel;let C:=hb;let g':=b3;let P:=b7;let S:=b4;have I:=b9;have q:=bh;have A:=b8;by_cases bf:j<T s
  ·have i1:(j:U)<(T s:Q):=À;have ca:=HP (λe=>Á);subst ca;have hc:=(HR.y g' br) j bf;have bb:=Zx bf;generalize s[j]=n at*;go_wp2;refine(xcl b o n _ P).mono ?_;rintro e w2⟨rfl,cb⟩;obtain rfl:wr=w2:=cb.symm;cases hbl:Ej o n with
   |true=>
    have HN:H<|tH o (s.drop<|j+1) r=tH o s t:=by show _=_;rw[<-A,bb];simp only[tH,hbl,dY]
    go_wp2;go_roundw;exact⟨j+1,r,À,Å,C,g',P,S,I,q,HN.o⟩;exact Î
   |false=>
    have HN:H<|tH o (s.drop j) r=if r.cS=M then(ao,r.eS)else tH o (s.drop<|j+1) (r.qR n):=by show _=_;rw[bb];simp only[tH,hbl,ja,kB]
    have GR:=HG.y C λx=>by obtain x|x:=x;exact b2 x.symm;exact G.sI x
    go_wp2;refine(PR D r n _ S I GR).mono ?_;rintro e c⟨l,⟨rfl,m,a⟩|⟨rfl,m,a⟩⟩;rotate_left;refine⟨O,?_⟩;rw[u.ay];have hm:tH o s t=(ao,r.eS):=by rw[<-A,HN.o,aT a.o]
    unfold Wd;rw[bc,hm];exact⟨O,C.aE<|l.U λy f=>ac (q y f),xh.y P l λx=>v<|q _ x,m,λy f=>q y<|Dk.mL r D y f⟩;have bp:=C.aE<|l.U λy f=>ac (q y f);have ba:=g'.aE<|l.U λy f=>q y f;have bt:=xh.y P l λx=>v<|q _ x;have bq:=m;have bs:=I.step a.o<|I.fW.del n;have bw:H<|tH o (s.drop<|j+1) (r.qR n)=tH o s t:=by show _=_;rw[<-A,HN.o,aL<|by rw[a.o];decide]
    go_wp2;go_roundw;exact⟨j+1,r.qR n,À,Å,bp,ba,bt,bq,bs,λy f=>q y<|(Dk.sL r n D y).1 f,bw.o⟩;exact Î
  have b6:j=T s:=À
  subst b6;have HF:H<|tH o s t=(M,r):=by show _=_;rw[<-A,Vl];rfl
  go_wp2;go_end0;rw[u.ay];unfold Wd;rw[bc,HF.o];exact⟨O,C,P,S,q⟩
def sQ(k v:Zl):Zl:=nb (T k) 1++(nb (T v) 1++(k++v))
def vI:Vk->Zl
 | .put k v=>80::sQ k v| .del k=>68::(nb (T k) 1++k)
def ÿ(k v)(hk:T k<=1000000)(q:T v<=1000000)(w):aq 146 #[bY #[E k,E v]] w (E<|sQ k v):=by
 let l1:=Z2 (T k) 1;let r:=Z2 (T v) 1;have W0:aP (V<|Z w) w<|aF w<|au #[E k,E v] 104:=(zt ..).alloc (zd _) _;have c:xh (aF w<|au #[E k,E v] 104) (V<|Z w) #[E k,E v] 104:=xh.ex ..;have d:¬9223372036854775807<2+T k:=À
 have f:¬9223372036854775807<1+(1+T k):=À
 have g:¬9223372036854775807<1+1+T k+T v:=À
 have i:¬9223372036854775807<2+T k+T v:=À
 have j:¬9223372036854775807<1+(1+T k)+T v:=À
 have l:¬9223372036854775807<1+(1+(T k+T v)):=À
 have m:¬9223372036854775807<2+(T k+T v):=À
 have n:¬9223372036854775807<1+1+(T k+T v):=À
 go_enter func146.1,Tryz.ntmps146;go_wp2;generalize aF w (au #[E k,E v] 104)=W at*;have a:∀w1,aP (V<|Z W) W w1->N w1 (K (V<|Z w) 0)=E k/\N w1 (K (V<|Z w) 1)=E v:=λw1 h=>⟨(c.ac h).i 0 O,(c.ac h).i 1 O⟩;have b:aP (V<|Z W) W W.drew:=(zt ..).drew;go_region_held3 (λy=>N y (K (V<|Z w) 0)=E k/\N y (K (V<|Z w) 1)=E v) (first|exact(a W<|zt ..)|exact o)
  ((go_at_call 148;refine(Hz _ _).mono ?_;rintro e w1⟨rfl,p⟩;replace b:=Xs b p;have o:=a _ b))
 try clear hHeld
 go_wp2;go_ret;exact⟨by simp only[sQ,jq];rfl,W0.trans<|b.mono W0.size⟩
def xd5(k v)(hk:T k<=1000000)(c:T v<=1000000)(w):aq 334 #[bY #[ak<|st k,ak<|st v]] w (ak<|st (80::sQ k v)):=by
 let b:H<|(⟨#[80]⟩:eM)++st (sQ k v)=st (80::sQ k v):=by show _=_;rw[show(⟨#[80]⟩:eM)=st [80]from O,zg];rfl
 let d:T (sQ k v)<=2000002:=by simp[sQ,Z2];omega
 go_enter func334.1,Tryz.ntmps334;go_wp2;apply(ÿ k v hk c _).mono;rintro e w1⟨rfl,a⟩;go_wp2;go_ret;exact⟨by rw[<-b.o];rfl,((zt ..).alloc (zd _) _).trans<|a.mono Â⟩
def xcy(k)(hk:T k<=1000000)(w):aq 335 #[bY #[ak<|st k]] w (ak<|st (68::(nb (T k) 1++k))):=by
 let l1:=Z2 (T k) 1;let f:H<|((⟨#[68]⟩:eM)++st (nb (T k) 1))++st k=st (68::(nb (T k) 1++k)):=by show _=_;rw[show(⟨#[68]⟩:eM)=st [68]from O,zg,zg];rfl
 have W0:aP (V<|Z w) w<|aF w<|au #[ak<|st k] 106:=(zt ..).alloc (zd _) _;have d:xh _ (V<|Z w) #[ak<|st k] 106:=xh.ex ..;let c:¬9223372036854775807<2+T k:=À
 go_enter func335.1,Tryz.ntmps335;go_wp2;generalize aF w _=W at*;let a:∀w1,aP (V<|Z W) W w1->N w1 ⟨V<|Z w,0,R⟩=Y _:=λw1 h=>(d.ac h).i 0 O;let b:aP (V<|Z W) W W.drew:=(zt ..).drew;go_region_held3 (λy=>N y ⟨V<|Z w,0,R⟩=(ak<|st k)) (first|exact(a W<|zt ..)|exact g)
  ((go_at_call 148;apply(Hz _ _).mono;rintro e w1⟨rfl,i⟩;replace b:=Xs b i;let g:=a _ b))
 try clear hHeld
 go_wp2;go_ret;exact⟨by rw[<-f.o];rfl,W0.trans<|b.mono W0.size⟩
structure Mf where
 ep:Q
 op:Q
 bF:Q
 bC:Q
 bM:Q
 cW:Q
 gT:Q
 ga:Zl
 aQ:Zl
def Mf.G(m:Mf):Za:=#[aD bB (m.ep:U),aD bB (m.op:U),aD bB (m.bF:U),aD bB (m.bC:U),aD bB (m.bM:U),aD bB (m.cW:U),aD bB (m.gT:U),ak<|st m.ga,ak<|st m.aQ]
def Mf.V(m:Mf):Zv:=bY m.G
def Mf.lM(m:Mf)(i:Q):Zl:=67::(nb m.ep 1++(nb m.op 2++(nb m.bC 2++nb i 2)))
abbrev MC(b:Q)(m:Mf)(r:Zl)(w:Zy):Prop:=N w (K b 0)=J m.ep/\N w (K b 1)=J m.op/\N w (K b 2)=J m.bF/\N w (K b 3)=J m.bC/\N w (K b 4)=J m.bM/\N w (K b 5)=J m.cW/\N w (K b 6)=J m.gT/\N w (K b 7)=E r/\N w (K b 8)=E m.aQ
def xh.mc{w b m a}(h:xh w b #[J m.ep,J m.op,J m.bF,J m.bC,J m.bM,J m.cW,J m.gT,ak<|P.st a,ak<|P.st m.aQ] 164):MC b m a w:=⟨h.i 0 O,h.i 1 O,h.i 2 O,h.i 3 O,h.i 4 O,h.i 5 O,h.i 6 O,h.i 7 O,h.i 8 O⟩
def xo9(m:Mf)(i:Q)(w):aq 151 #[m.V,aD bB (i:U)] w (ak<|st<|m.lM i):=by
 let l1:=Z2 m.ep 1;let j:=Z2 m.op 2;let k:=Z2 m.bC 2;let l:=Z2 i 2;let g:H<|(⟨#[67]⟩:eM)++st (nb m.ep 1)++st (nb m.op 2)++st (nb m.bC 2)++st (nb i 2)=st (m.lM i):=by show _=_;rw[show(⟨#[67]⟩:eM)=st [67]from O];simp only[zg];simp[Mf.lM]
 have W0:aP (V<|Z w) w<|aF w<|au m.G 164:=(zt ..).alloc (zd _) _;have c:xh (aF w<|au m.G 164) (V<|Z w) m.G 164:=xh.ex ..;unfold Mf.V;unfold Mf.G at*;go_enter func151.1,Tryz.ntmps151;go_wp2;generalize aF w (au _ 164)=W at*;let b:∀w1,aP (V<|Z W) W w1->N w1 ⟨V<|Z w,0,R⟩=aD bB (m.ep:U)/\N w1 ⟨V<|Z w,1,R⟩=aD bB (m.op:U)/\N w1 ⟨V<|Z w,3,R⟩=aD bB (m.bC:U):=λw1 h=>⟨(c.ac h).i 0 O,(c.ac h).i 1 O,(c.ac h).i 3 O⟩;have a:aP (V<|Z W) W W.drew:=(zt ..).drew;go_region_held3 (λy=>N y ⟨V<|Z w,0,R⟩=aD bB (m.ep:U)/\N y ⟨V<|Z w,1,R⟩=aD bB (m.op:U)/\N y ⟨V<|Z w,3,R⟩=aD bB (m.bC:U)) (first|exact(b W<|zt ..)|exact f)
  (first
   |(go_at_call 148;refine(Hz _ _).mono ?_;rintro e w1⟨rfl,d⟩;replace a:=Xs a d;have f:=b _ a)
   |(go_at_call 157;refine(Lx _ _).mono ?_;rintro e w1⟨rfl,d⟩;replace a:=Xs a d;have f:=b _ a))
 try clear hHeld
 go_wp2;go_ret;exact⟨by rw[<-g.o];rfl,W0.trans<|a.mono W0.size⟩
def fE(n:U):Q:=if n=10001 then 10002 else 10001
def yH(n w):aG 149 #[J n] w (J<|fE n):=by
 let a:H<|fE n=if n=10001 then 10002 else 10001:=O;go_enter func149.1,Tryz.ntmps149;by_cases h:n=10001
 ·subst h;go_wp2;go_ret;exact⟨by rw[a.o];rfl,O⟩
 go_wp2;go_ret;exact⟨by rw[a.o,aL h];rfl,O⟩
end
end P
namespace A
open Tryq Go Go.RowKit Go.Shelf
def pI{P:Zp}{i:Q}{f g}(h:P.funcs[i]?=Y f)(e:f=g):P.funcs[i]?=Y g:=e▸h
def Tryq.func220:prog.funcs[220]?=Y Tryz.f220:=Hi Ã Tryz.func220
def Tryq.func275:prog.funcs[275]?=Y Tryz.f275:=Hi Ã Tryz.func275
def Tryq.kF:Ren:={f:=λx=>match x with|105=>129|212=>196|99=>197|165=>156|166=>145|170=>198|169=>147|263=>236|264=>237|206=>238|240=>220|241=>221|276=>275|277=>276|156=>96|n=>n,t:=λx=>match x with|9=>9|3=>3|4=>4|20=>20|0=>0|46=>108|109=>266|5=>5|72=>223|76=>224|51=>232|146=>305|53=>255|148=>307|70=>221|37=>100|75=>212|127=>295|164=>327|80=>129|31=>51|n=>n,g:=λx=>x}
def Tryq.Bi:Lays.n105 prog kF:=by
 constructor
 case mixed=>kernel_rfl
 case f99=>exact pI func197.1 Ä
 case f105=>exact pI func129.1 Ä
 case f165=>exact pI func156.1 Ä
 case f166=>exact pI func145.1 Ä
 case f169=>exact pI func147.1 Ä
 case f170=>exact pI func198.1 Ä
 case f206=>exact pI func238.1 Ä
 case f212=>exact pI func196.1 Ä
 case f240=>exact pI func220 Ä
 case f241=>exact pI func221.1 Ä
 case f263=>exact pI func236.1 Ä
 case f264=>exact pI func237.1 Ä
 case f276=>exact pI func275 Ä
 case f277=>exact pI func276 Ä
 all_goals (intros;simp[kF])
def Tryq.ub:Lays.n156 prog kF:=by
 constructor
 case mixed=>kernel_rfl
 case f156=>exact pI func96.1 Ä
 case f165=>exact pI func156.1 Ä
 case f166=>exact pI func145.1 Ä
 case f169=>exact pI func147.1 Ä
 case f240=>exact pI func220 Ä
 case f241=>exact pI func221.1 Ä
 case f276=>exact pI func275 Ä
 case f277=>exact pI func276 Ä
 all_goals (intros;simp[kF])
def Tryq.vH:Lays.n166 prog kF:=by
 constructor
 case mixed=>kernel_rfl
 case f166=>exact pI func145.1 Ä
 case f240=>exact pI func220 Ä
 case f276=>exact pI func275 Ä
 all_goals (intros;simp[kF])
def Tryq.vG:Lays.n169 prog kF:=by
 constructor
 case mixed=>kernel_rfl
 case f169=>exact pI func147.1 Ä
 all_goals (intros;simp[kF])
def Tryq.jP:Builder.Extra prog kF where
 sizeBuilder:=Ä
 liesBuilder:=Ä
 t5:=(eZ 5).trans Tryz.underlying5
 a5:=λw=>(AN 5 w).trans<|Tryz.isAgg5 w
 z5:=λw=>(yn 5 w).trans<|Tryz.sizeOf5 w
 v5:=λw=>(D3 5 w).trans<|Tryz.zeroValue5 w
 infoByte:=Ä
 cellsByte:=Ä
 sizeByte:=Ä
 neB5:=Ã
end A
namespace P
variable{B b a S op C n m g j z:Q}{w w':Zy}{l k q p x:Zl}{v cv tv:Zv}{L:KV}{xs:bA Zl}{r r':Sr}{s:kE}{t:Zt}
open A.Tryq
section
open Go.RowKit
attribute[local go_sem] zn zg
def Yn:Zl:=bS 32 0
def xib(w):aq 129 #[ak ⟨#[0]⟩,J 32] w (E Yn):=
 (Any.strings_Repeat Bi jP ⟨#[0]⟩ 32 w Ã Ã).mono λe w'⟨a,b⟩=>⟨a.trans<|by rw[show Lib.repeatL (eV (⟨#[0]⟩:eM).data) 32=Yn from Ã];rfl,b⟩
def þ(w):aq 73 #[] w (E Yn):=by go_enter func73.1,Tryz.ntmps73;go_wp2;apply(xib _).mono;rintro e w1⟨rfl,a⟩;go_wp2;go_ret;simp_all
def Ae(B b:Q)(l:Zl)(w:Zy):Prop:=Lib.IsBuilder 223 5 B b (hZ l) w
theorem Ae.ex(w:Zy):Ae (V<|Z w) (V<|Z w) []<|aF w<|au #[aU R,aB R 0 0] 223:=Lib.fresh_isBuilder ..
def Ċ{d p y}(h:Lib.BuilderAt 223 5 B b p y w)(i:aP d w w')(f:V (Z w)<=d):Lib.BuilderAt 223 5 B b p y w':=by let⟨W,v,u,o,D⟩:=h;refine⟨W,v,?_,?_,D⟩;exact(i.block b<|zm (za.1 u).1 f).trans u;refine⟨o.1,o.2.imp id ?_⟩;rintro⟨g,a,c,j,k,e,l⟩;exact⟨g,a,c,j,k,(i.block g<|zm (za.1 e).1 f).trans e,l⟩
def Ae.ac(h:Ae B b l w)(d:aP a w w')(c:V (Z w)<=a):Ae B b l w':=
 h.imp (λh=>Ċ h d c) λh=>Ċ h d c
def Ď(a b):hZ (a++b)=hZ a++hZ b:=by simp[hZ]
def ċ(B b l s w)(h:Ae B b l w)(c:T l+T s<=140737488355328)(a:B<=V (Z w)):
  aK prog 145 #[zq b,E s] w λe w'=>e=ai (cE #[J (T s),.nilIface])/\Ae B b (l++s) w'/\aP B w w':=
 (Any.Builder_WriteString vH jP B b _ (st s) w h (by grind [hZ,zn]) a).mono λe w'⟨d,f,g⟩=>⟨d.trans<|by rw[zn],ac<|by rw[Ď];exact f,g⟩
def xif(B b l w)(h:Ae B b l w)(a:B<=V (Z w)):
  aK prog 147 #[zq b] w λe w'=>e=ai (E l)/\aP B w w':=
 Any.Builder_String_any vG jP B b l w h a
def qX:Vk->Prop
 | .put k v=>k≠[]/\T k<=16/\T v<=32| .del k=>k≠[]/\T k<=16
def Z5(D:bA Vk):Zl:=D.flatMap vI
def QD{c}(h:qX c):T (vI c)<=51:=by
 cases c with
 |put k v=>simp[vI,sQ,Z2];let:=h.2.1;let:=h.2.2;omega
 |del k=>simp[vI,Z2];let:=h.2;omega
theorem Iw:∀{D:bA Vk},(∀c∈D,qX c)->T (Z5 D)<=51*T D
 |[],_=>by simp[Z5]|c::D,h=>by have b:=QD (h c Â);let d:=Iw λx a=>h x<|jw _ a;grind [Z5]
def ď(D c):Z5 (D++[c])=Z5 D++vI c:=by simp[Z5]
def AD{a}(h:N w a=Y v):a.block<V (Z w):=rv
def xys(x w):(method 513 104 x "coffer/coffer.plainText").run prog w=dG (334,x) w:=Ä
def xyt(x w):(method 513 106 x "coffer/coffer.plainText").run prog w=dG (335,x) w:=Ä
def zxa(g cap D)(hx:T D<=1000000)(F:∀c∈D,qX c)(w)(d:yA w g D):
  aq 101 #[aB (Y ⟨g,0,R⟩) (T D) cap] w (ak<|st<|Z5 D):=by
 have I:yA w g D/\(D≠[]->g<V (Z w)):=⟨d,λh=>by have:=d 0<|Z0.2 h;exact AD this⟩;have u:=F;have P:=Ae.ex w;have W0:aP (V<|Z w) w<|aF w<|au #[aU R,aB R 0 0] 223:=(zt _ _).alloc (zd _) _;go_enter func101.1,Tryz.ntmps101;go_wp2;generalize aF w (au #[aU R,aB R 0 0] 223)=W at*;go_loopw [8] (λi wr=>∃k:Q,k<=T D/\i=aD bB k/\Ae (V<|Z w) (V<|Z w) (Z5<|D.take k) wr/\aP (V<|Z w) w wr) (λi _=>bL (T D-bZ i));exact⟨0,À,O,P,W0⟩;obtain⟨k,hk,rfl,G,B⟩:=hrel;by_cases l:k<T D
 ·have ho:(k:U)<(T D:Q):=À;have A:=I.2 Á;have o:=(B.cell A).trans<|I.1 k l;have b:=u D[k]<|Xk l;have s:H<|Z5 (D.take<|k+1)=Z5 (D.take k)++vI D[k]:=by show _=_;rw[zp l,ď]
  have S:T (Z5<|D.take k)<=51*k:=by have:=Iw (D:=D.take k) λx hd=>u x<|Fq hd;rw[xf,DL hk]at this;exact this
  have n:=B;have X:=G;let⟨c,h1⟩:=JP<|D[k];rw[h1]at o s b;generalize Z5 (D.take k)=l1 at*;cases c with
  |put ky v=>
   have r:ky≠[]/\T ky<=16/\T v<=32:=b;have C:N wr ⟨g,k,R⟩=(iW 104<|bY #[ak<|st ky,ak<|st v]):=o;have z:=xys (bY #[ak<|st ky,ak<|st v]) wr;have q:=QD (c:= .put ky v) b;clear o b;go_wp2;refine(xd5 ky v À À _).mono ?_;rintro e w1⟨rfl,a⟩;have m:=Xs n a;have t:=X.ac a<|zd _;go_wp2;refine(ċ (V<|Z w) (V<|Z w) l1 (vI<|.put ky v) _ t À m.size).mono ?_;rintro e h2⟨rfl,y,j⟩;have f:=y;have p:=m.trans j;go_wp2;go_roundw;exact⟨k+1,À,Å,by rw[s.o];exact f,p⟩;exact Ì
  |del ky=>have r:ky≠[]/\T ky<=16:=b;have C:N wr ⟨g,k,R⟩=(iW 106<|bY #[ak<|st ky]):=o;have z:=xyt (bY #[ak<|st ky]) wr;have q:=QD (c:= .del ky) b;clear o b;go_wp2;refine(xcy ky À _).mono ?_;rintro e w1⟨rfl,a⟩;have m:=Xs n a;have t:=X.ac a<|zd _;go_wp2;refine(ċ (V<|Z w) (V<|Z w) l1 (vI<|.del ky) _ t À m.size).mono ?_;rintro e h2⟨rfl,y,j⟩;have f:=y;have p:=m.trans j;go_wp2;go_roundw;exact⟨k+1,À,Å,by rw[s.o];exact f,p⟩;exact Ì
 obtain rfl:k=T D:=À
 rw[jz]at G;have L:=G;have n:=B;go_wp2;refine(xif (V<|Z w) (V<|Z w) (Z5 D) _ L n.size).mono ?_;rintro e w1⟨rfl,a⟩;have cs:=n.trans a;go_wp2;go_ret;simp_all
section
variable{P:cI}{w:dN}{t y o:oW}
def yI(g:P.underlying t=Y (.map y o))(hk:P.underlying y=Y oC)(i:∀w,(zeroValue o).run P w=dG (rB []) w)(h:Je w m L)(k):
  (fC t (fu<|some m) (E k) ao).run P w=dG (rB<|(Xg L k).getD []) w:=by
 let⟨W,D,X,F,u⟩:=h;have f:=Yg (P:=P) X;have d:=LH hk (st k) 9999;obtain⟨a,b,_,_⟩|⟨j,v,e,a,b,_,_,_,_⟩:=Ic k L (eV W) 0 F;have c:(cB y (E k) (eV W)).run P w=dG R w:=ô
 simp[fC,xo g,bN,f,d,c,i,a];have c:(cB y (E k) (eV W)).run P w=dG (Y (0+j,rB v)) w:=ô
 simp[fC,xo g,bN,f,d,c,a]
end
def oT(L:KV)(k:Zl):Zl:=sQ k<|(Xg L k).getD []
def iF(L:KV):Zl:=(Vv L).flatMap<|oT L
def rY(L:KV):Prop:=∀p∈L,p.1≠[]/\T p.1<=16/\T p.2<=32
theorem LX(L):T (Vv L)=T L:=by rw[Vv,(Xo _ _).length_eq,jl]
theorem Ē:k∈Vv L↔k∈L.map (·.1):=(Xo _ _).mem_iff
def Ė:∀{L:KV} {k v:Zl},Xg L k=Y v->(k,v)∈L
 |[],k,v,h=>È
 |p::L,k,v,h=>by unfold Xg at h;split at h;grind;exact jw _<|Ė h
def rY.Er(h:rY L)(k):T ((Xg L k).getD [])<=32:=by cases y:Xg L k with|none=>simp|some v=>exact(h _<|Ė y).2.2
def rY.Qg(h:rY L)(hk:k∈Vv L):k≠[]/\T k<=16:=by rw[Ē,Xe]at hk;obtain⟨p,a,rfl⟩:=hk;exact⟨(h p a).1,(h p a).2.1⟩
def ud(h:rY L)(hk:T k<=16):T (oT L k)<=50:=by have:=h.Er k;grind [oT,sQ,Z2]
def qW{L}(h:rY L):∀{ks:bA Zl},(∀k∈ks,T k<=16)->T (ks.flatMap<|oT L)<=50*T ks
 |[],_=>by simp|k::ks,hk=>by have b:=ud h<|hk k xu;have c:=qW h λx a=>hk x<|jw _ a;grind
def It(s w):(Instr.field 155 (bY #[ak s]) 0).run prog w=dG (ak s) w:=Ä
def yE(B b:Q)(l:Zl)(w:Zy):Prop:=Lib.IsBuilderF 223 5 B b (hZ l) w
theorem yE.ex(w:Zy):yE (V<|Z w) (V<|Z w) []<|aF w<|au #[aU R,aB R 0 0] 223:=Lib.IsBuilderF.of<|Lib.fresh_isBuilder _ _ _
def ĉ{d p y}(h:Lib.BuilderAtF 223 5 B b p y w)(i:aP d w w')(f:V (Z w)<=d):Lib.BuilderAtF 223 5 B b p y w':=by let⟨W,v,u,o,D⟩:=h;refine⟨W,v,?_,?_,D⟩;exact(i.block b<|zm (za.1 u).1 f).trans u;refine⟨o.1,o.2.imp id ?_⟩;rintro⟨g,a,c,m,j,k,e,l⟩;exact⟨g,a,c,m,j,k,(i.block g<|zm (za.1 e).1 f).trans e,l⟩
def yE.ac(h:yE B b l w)(d:aP a w w')(c:V (Z w)<=a):yE B b l w':=
 h.imp (λh=>ĉ h d c) λh=>ĉ h d c
def pY(B b l s w)(h:yE B b l w)(c:T l+T s<=140737488355328)(a:B<=V (Z w)):
  aK prog 145 #[zq b,E s] w λe w'=>e=ai (cE #[J (T s),.nilIface])/\yE B b (l++s) w'/\aP B w w'/\Lib.OthersKept 5 (Y b) w w':=
 (Any.Builder_WriteString_k vH jP B b _ (st s) w h (by grind [hZ,zn]) a).mono λe w'⟨d,f,g,i⟩=>⟨d.trans<|by rw[zn],ac<|by rw[Ď];exact f,g,i⟩
def uW(B b l w)(h:yE B b l w)(a:B<=V (Z w)):
  aK prog 147 #[zq b] w λe w'=>e=ai (E l)/\aP B w w':=
 (Any.Builder_String_any_k vG jP B b l w h a).mono λe w' h=>⟨h.1,h.2.2.1⟩
def yN(w:Zy)(g:Q)(xs:bA Zl):Prop:=∃c,w.heap[g]?=Y (au c 9 (0,0))/\∀i (h:i<T xs),c[i]?=(ak<|st xs[i])
def yN.i(h:yN w g xs)(i)(a:i<T xs):N w (K g i)=(ak<|st xs[i]):=by let⟨c,y,u⟩:=h;grind [N]
def yN.iQ(h:yN w g xs)(hk:Lib.OthersKept 5 (Y b) w w')(a:g≠b):yN w' g xs:=by let⟨y,u,o⟩:=h;exact⟨y,hk g _ u (λe=>a<|ql e) (λc d e=>Æ),o⟩
def yN.ac(h:yN w g xs)(b:aP B w w')(a:V (Z w)<=B):yN w' g xs:=by let⟨c,y,u⟩:=h;exact⟨c,(b.block g<|zm (za.1 y).1 a).trans y,u⟩
def QC{f}(c:∀x,f x=E x)(h:w.ownsRow B 9 1 v (T xs)<|xs.map f):(v=aB R 0 0/\xs=[])\/∃g cap,v=aB (Y ⟨g,0,R⟩) (T xs) cap/\T xs<=cap/\B<=g/\yN w g xs:=by
 obtain⟨b,n⟩|⟨g,cap,a,m,d,e,k,o,p,l⟩:=h.2;grind;refine ac ⟨g,cap,m,k,d,a,e,λi j=>?_⟩;have b:(a.toList.take<|T xs*1)[i]?=(ak<|st xs[i]):=by rw[l];simp[j,c]
 grind
def rE(m L)(hL:T L<=5000000)(G:rY L)(w)(hm:Je w m L):
  aq 87 #[fu<|some m] w (ak<|st<|iF L):=by
 have A:=hm;have q:=G;have hd:=yE.ex w;have W0:aP (V<|Z w) w<|aF w<|au #[aU R,aB R 0 0] 223:=(zt _ _).alloc (zd _) _;have be:V (Z w)<V (aF w<|au #[aU R,aB R 0 0] 223).heap:=Â
 go_enter func87.1,Tryz.ntmps87;go_wp2;generalize aF w (au #[aU R,aB R 0 0] 223)=W at*;apply(YC m _).mono;rintro e w1⟨rfl,d⟩;have f:aP (V<|Z W) W w1:=by show aP _ _ _;rw[d];exact(zt _ _).alloc (zd _) _
 have y:H<|N w1 ⟨V<|Z W,0,R⟩=(fu<|some m):=by show _=_;rw[d];exact(xh.ex W _ 143).i 0 O
 have cs:V (Z W)<V (Z w1):=by rw[d];simp
 have h1:=Xs W0 f;have g':=hd.ac f<|zd _;clear d f hd W0;go_wp2;apply(YB m _ L _ (A.y (S:=λ_=>False) (zj.J h1) id) y.o cs (λp u=>by have:=(q p u).2.1;omega) À).mono;rintro e w2⟨v,rfl,c,r⟩;have W2:=Xs h1 r;have S2:=g'.ac r<|zd _;let⟨ks,j⟩:=JP<|Vv L;have bc:T ks<=5000000:=by rw[<-j,LX];exact hL
 rw[j]at c;obtain⟨a,ba,rfl,es⟩:=Wo c;have HP:ks≠[]->∃g,a=Y ⟨g,0,R⟩/\yN w2 g ks/\V (Z w)<g:=λbd=>by rcases QC (λ_=>O) c with⟨_,h⟩|⟨g,cap',hv,_,h2,hr⟩;grind;grind
 go_wp2;go_loopw [10] (λi wr=>∃k:Q,k<=T ks/\i=aD bB k/\yE (V<|Z w) (V<|Z w) ((ks.take k).flatMap<|oT L) wr/\aP (V<|Z w) w wr/\(ks≠[]->∃g,a=Y ⟨g,0,R⟩/\yN wr g ks/\V (Z w)<g)) (λi _=>bL (T ks-bZ i));grind;obtain⟨k,hk,rfl,I,C,u⟩:=hrel;by_cases l:k<T ks
 ·have i1:(k:U)<(T ks:Q):=À;obtain⟨g,rfl,s,h2⟩:=u Á;have hc:=s.i k l;have hx:H<|(ks.take<|k+1).flatMap (oT L)=(ks.take k).flatMap (oT L)++oT L ks[k]:=by show _=_;rw[zp l,Wz,Wi,List.flatMap_nil,Xz]
  have o:∀k∈ks,k≠[]/\T k<=16:=λk hk=>q.Qg Á;have HL:T ((ks.take k).flatMap<|oT L)<=50*k:=by have:=qW q (ks:=ks.take k) λx P=>(o x<|Fq P).2;rw[xf,DL hk]at this;exact this
  have n:=(o _<|Xk l).2;have t:=C;let⟨x,P⟩:=JP<|ks[k];rw[P]at hc hx n;have F:=yI CJ dK PI (A.y (S:=λ_=>False) (zj.J C) id) x;unfold rB at F;have h3:=q.Er x;have z:H<|oT L x=sQ x ((Xg L x).getD []):=O;have X:=ud q n;generalize(Xg L x).getD []=v at*;have bb:=It (st v) wr;generalize oT L x=en at*;generalize(ks.take k).flatMap (oT L)=l1 at*;go_wp2;apply(ÿ x v À À _).mono;rintro e w3⟨rfl,b⟩;have ho:=Xs t b;have B:=I.ac b<|zd _;have R3:=s.ac b<|zd _;rw[<-z.o];go_wp2;apply(pY _ _ l1 en _ B À ho.size).mono;rintro e w4⟨rfl,S4,D,v'⟩;go_wp2;go_roundw;exact⟨k+1,À,Å,by rw[hx.o];exact S4,ho.trans D,λ_=>⟨g,O,R3.iQ v' À,h2⟩⟩;exact Ì
 obtain rfl:k=T ks:=À
 rw[jz]at I;have B:yE (V<|Z w) (V<|Z w) (iF L) wr:=by unfold iF;rw[j];exact I
 have t:=C;go_wp2;apply(uW _ _ _ _ B t.size).mono;rintro e w3⟨rfl,b⟩;have H1:=t.trans b;go_wp2;go_ret;simp_all
def kE.pi(s:kE):kE:={s with L:=gh s.L s.P,pv:=aB R 0 0,P:=[]}
def Sr.fm(r:Sr)(s:kE):dD U×Sr:=
 if s.P=[]then(Y 0,r)
 else if(r.fc s [82] s.ep<|Z5 s.P).1=Y 0 then(Y 0,{(r.fc s [82] s.ep<|Z5 s.P).2 with sn:=Y ({s with aQ:=(r.cD s).1}:kE).pi})
 else r.fc s [82] s.ep (Z5 s.P)
def Ć(a:r.sn=Y s)(h:r.fc s q S p=(Y 0,r')):r'.sn=Y {s with aQ:=(r.cD s).1}:=by unfold Sr.fc at h;split at h;cases h;split at h;cases h;split at h;cases h;split at h;cases h;cases h;rfl
def zxz{a}(b:r.sn=Y s)(h:r.fc s q S p=(a,r')):∃l,r'.sn=Y {s with aQ:=l}:=by unfold Sr.fc at h;split at h;cases h;exact⟨s.aQ,b⟩;split at h;cases h;exact⟨s.aQ,b⟩;split at h;cases h;exact⟨s.aQ,b⟩;split at h;cases h;exact⟨s.aQ,b⟩;cases h;exact⟨_,O⟩
def Zd.Eo{w1}(h:Vq w B r)(d:r.sn=Y s)(j:zj (·=s.mp) w w1)(p:Je w1 s.mp<|gh s.L s.P):
  Zd B r w {r with sn:=Y s.pi} (ay w1 (K s.S 1)<|aB R 0 0):=by
 let⟨k,u⟩:=h.fP s d;let⟨W,c,y⟩:=k.jS.bT;have f:=k.bT.gV y;have m:=h.bT.gV y;have o:s.S≠B:=λe=>k.bT.ne h.bT Ã e;have g:zj (λx=>x=s.mp\/x=s.S) w<|ay w1 (K s.S 1)<|aB R 0 0:=(j.U λx b=>aJ b).aE<|(zj.H w1 _ _).U λx b=>ac b;refine⟨g.U λx b=>?_,⟨?_,?_,λt i=>?_⟩,λx b=>?_⟩;obtain e|e:=b;exact ac<|ac ⟨s,d,ac<|aJ e⟩;exact ac<|ac ⟨s,d,aJ e⟩;have:=h.bT.y g À
 grind [Sr.G,Sr.my,kE.pi];refine h.fA.y g λx b e=>?_;refine h.fh d ?_ b;obtain e|e:=e;exact ac<|aJ e;exact aJ e;cases i;refine⟨⟨?_,?_,?_⟩,u⟩;have l:=k.bT.y j f;exact l.H 1 _;exact p.y (zj.H w1 _ _) λe=>f e.symm;exact jk _ _ _ _;obtain e|e|⟨t,e,b⟩:=b;exact aJ<|aJ e;exact aJ<|ac<|aJ e;cases e;obtain e|e|⟨a,n,c,q,e⟩:=b;exact aJ<|ac<|ac ⟨s,d,aJ e⟩;exact aJ<|ac<|ac ⟨s,d,ac<|aJ e⟩;cases q
def Iu{f u A}{y:Sr->Zy->Prop}(h:aK prog f u w λe w'=>∃a r',A=(a,r')/\e=FZ cv a/\y r' w'):
  aK prog f u w λe w'=>(∃v r',A=(Y v,r')/\e=ai (J v)/\y r' w')\/(∃r',A=(R,r')/\e=kn cv/\y r' w'):=
 h.mono λe w'⟨a,r',b,c,d⟩=>by cases a with|none=>exact ac ⟨r',b,c,d⟩|some v=>exact aJ ⟨v,r',b,c,d⟩
def Zd.nw(h:Vq w B r)(a:Nw w w'):Zd B r w r w':=⟨a.U λ_ x=>x.elim,h.y a λ_ _=>id,λx b=>aJ b⟩
def Qq(B r s w)(h:Vq w B r)(u:r.sn=Y s)(z:pH B r)(hG:nD cv tv w)(hP:∀c∈s.P,qX c):
  aK prog 50 #[zq B] w λe w'=>∃a r',r.fm s=(a,r')/\e=FZ cv a/\Zd B r w r' w':=by
 have D:=h;have h2:=z;have y:=u;have HP:=hP;have k:=(h.fP s u).1;have c7:N w (K B 7)=zq s.S:=(h.bT.i 7 O).trans (by simp[Sr.G,Sr.my,u]);have P:N w (K s.S 1)=Y s.pv:=k.bT.i 1 O;have bc:=(z.fP s u).2.2;obtain⟨j,b⟩|⟨g,f,j,C,hg⟩:=PM k.iR
 ·rw[j]at P;have A:H<|r.fm s=(Y 0,r):=by show _=_;unfold Sr.fm;rw[aT b]
  go_enter func50.1,Tryz.ntmps50;go_wp2;go_ret;exact⟨_,_,A.o,O,Zd.refl D⟩
 rw[j]at P;by_cases b:s.P=[]
 ·have A:H<|r.fm s=(Y 0,r):=by show _=_;unfold Sr.fm;rw[aT b]
  rw[b]at P;go_enter func50.1,Tryz.ntmps50;go_wp2;go_ret;exact⟨_,_,A.o,O,Zd.refl D⟩
 have x:=b;have bb:¬T s.P=0:=λe=>b<|jv e;have ho:yA w.drew g s.P:=C;have m:=j;go_enter func50.1,Tryz.ntmps50;go_wp2;have d:∀w1 X l,Zd B r w X w1->X.sn=Y {s with aQ:=l}->N w1 (K s.S 1)=aB (Y ⟨g,0,R⟩) (T s.P) f/\N w1 (K s.S 2)=J s.ep:=λw1 X l hd he=>by have p:=(hd.dI.fP _ he).1;exact⟨(p.bT.i 1 O).trans<|congrArg Y m,p.bT.i 2 O⟩
 have T0:=Zd.nw D (zj.refl _ _).W;have S0:=d w r _ (Zd.refl D) y;have wr:T (Z5 s.P)<=4000:=by have:=Iw HP;show _<=_;omega
 go_region_held2 (λw'=>N w' (K s.S 1)=aB (Y ⟨g,0,R⟩) (T s.P) f/\N w' (K s.S 2)=J s.ep) (first|exact S0|exact S1)
  (first
   |(go_at_call 101;refine(zxa g f s.P À HP _ ho).mono ?_;rintro e w1⟨rfl,hb⟩;have T1:=T0.aE<|Zd.nw T0.dI<|zj.J hb;have G1:=hG.y T1.y h2.cN;have S1:=d _ _ _ T1 y)
   |(go_at_call 100;refine(Iu<|ZF B r s [82] s.ep _ _ T1.dI y h2 G1 O wr).mono ?_;rintro e G (⟨v,F,W,rfl,o⟩|⟨F,W,rfl,o⟩);rotate_left;(exact⟨O,R,F,by grind [Sr.fm],O,T1.aE o⟩);have h1:=W;have T2:=T1.aE o;let⟨l2,hl2⟩:=zxz y W;have ba:=hl2;have S1:=d _ _ _ T2 hl2))
 have q:=T2.dI;try clear hHeld
 by_cases hv:v=0
 ·subst hv;have n:H<|r.fm s=(Y 0,{F with sn:=Y ({s with aQ:=(r.cD s).1}:kE).pi}):=by show _=_;unfold Sr.fm;rw[aL x,h1,aT O]
  have t:=Ć y h1;have i:=(q.fP _ t).1;have d:∀w1,zj (·=s.mp) G w1->N w1 (K s.S 0)=(fu<|some s.mp)/\N w1 (K s.S 1)=aB (Y ⟨g,0,R⟩) (T s.P) f/\aX w1 (K s.S 1)=ao:=λw1 hd=>by let⟨es,c,hmp⟩:=i.jS.bT;have p:=i.bT.y hd<|i.bT.gV hmp;exact⟨p.i 0 O,(p.i 1 O).trans<|congrArg Y m,p.dS 1⟩
  have cs:Je G.drew s.mp s.L:=i.jS;have I:G.drew.ownsRow 0 173 1 (aB (Y ⟨g,0,R⟩) (T s.P) f) (T s.P)<|s.P.map oP:=by have:=i.iR;rw[<-m];exact this
  go_wp2;go_region_held3 (λw'=>N w' (K s.S 0)=(fu<|some s.mp)/\N w' (K s.S 1)=aB (Y ⟨g,0,R⟩) (T s.P) f/\aX w' (K s.S 1)=ao) (first|exact(d G<|zj.refl _ _)|exact S2)
   ((go_at_call 84;refine(YU s.mp s.L _ s.P À _ cs I).mono ?_;rintro e w4⟨rfl,g',v'⟩;have hx:=(zj.refl _ _).W.aE g';have S2:=d _ hx))
  have h3:=T2.aE<|Zd.Eo q t hx v';let⟨e0,e1,e2⟩:=S2;try clear hHeld
  go_wp2;go_ret;exact⟨_,_,n.o,O,h3⟩
 have n:H<|r.fm s=(Y v,F):=by show _=_;unfold Sr.fm;rw[aL x,h1,aL Á]
 go_wp2;go_ret;exact⟨_,_,n.o,O,T2⟩
def Sr.ik(r:Sr)(s:kE):kE:=if s.P=[]then s else({s with aQ:=(r.cD s).1}:kE).pi
theorem lN{a:Sr}(b:r.sn=Y s)(h:r.fm s=(Y 0,a)):a.sn=Y (r.ik s):=by grind [Sr.fm,Sr.ik]
def Zd.sM{s'}(h:Vq w B r)(d:r.sn=Y s)(z:s'.G=aA s.G j v)(m:s'.S=s.S)(n:s'.mp=s.mp)(o:s'.L=s.L)(p:s'.pv=s.pv)(y:s'.P=s.P):
  Zd B r w {r with sn:=Y s'} (ay w (K s.S j) v):=by
 let⟨k,F⟩:=h.fP s d;let⟨G,c,W⟩:=k.jS.bT;have b:zj (λx=>x=s.S) w<|ay w (K s.S j) v:=zj.H w (K s.S j) _;have X:∀x,s'.cN x↔s.cN x:=λx=>by grind [kE.cN]
 refine⟨b.U λx a=>ac (ac ⟨s,d,aJ a⟩),⟨?_,?_,λt D=>?_⟩,λx a=>?_⟩;have e:({r with sn:=Y s'}:Sr).G=r.G:=by simp[Sr.G,Sr.my,d,m]
 rw[e];exact h.bT.y b λe=>(λe=>k.bT.ne h.bT Ã e) e.symm;exact h.fA.y b λx a e=>h.fh d (aJ e) a;cases D;refine⟨⟨?_,?_,?_⟩,Á⟩;rw[m,z];exact k.bT.H j v;rw[n,o];exact k.jS.y b λe=>(k.bT.gV W) e.symm;rw[p,y];refine⟨k.iR.1,?_⟩;obtain e|⟨g,f,i,u,C,l,q⟩:=k.iR.2;grind;refine ac ⟨g,f,i,u,C,(b.dP g (za.1 l).1 λe=>?_).trans l,q⟩;exact k.bT.ne l Ã e.symm;obtain e|e|⟨t,e,a⟩:=a;exact aJ<|aJ e;exact aJ<|ac<|aJ e;cases e;exact aJ<|ac<|ac ⟨s,d,(X x).1 a⟩
def Sr.gz(r:Sr)(s:kE):dD U×Sr:=
 if(r.fm s).1=Y 0 then
  if(r.ik s).ep=5 then(Y 10,(r.fm s).2)
  else if((r.fm s).2.fc (r.ik s) [75] ((r.ik s).ep+1) []).1=Y 0 then(Y 0,{((r.fm s).2.fc (r.ik s) [75] ((r.ik s).ep+1) []).2 with sn:=Y {r.ik s with aQ:=((r.fm s).2.cD<|r.ik s).1,ep:=(r.ik s).ep+1}})
  else(r.fm s).2.fc (r.ik s) [75] ((r.ik s).ep+1) []
 else r.fm s
def wM(B r s w)(h:Vq w B r)(h1:r.sn=Y s)(D:pH B r)(q:∀r1,r.fm s=(Y 0,r1)->pH B r1)(h2:nD cv tv w)(hx:∀c∈s.P,qX c)(C:s.ep<=1000000):
  aK prog 99 #[zq B] w λe w'=>∃a r',r.gz s=(a,r')/\e=FZ cv a/\Zd B r w r' w':=by
 have I:=D;have P:=h2;have A:=h1;have p:(r.ik s).ep<=1000000:=by unfold Sr.ik;split<;>exact C
 go_enter func99.1,Tryz.ntmps99;go_wp2;refine(Iu<|Qq B r s _ h A I P hx).mono ?_;rintro e w1 (⟨v,r1,u,rfl,l⟩|⟨r1,u,rfl,l⟩)
 ·have j:=u;have T1:=l;by_cases ho:v=0
  ·subst ho;have f:=lN A j;let⟨b,t⟩:=JP<|r.ik s;have i:=t;rw[t]at f p;have W:N w1 (K B 7)=zq b.S:=(T1.dI.bT.i 7 O).trans (by simp[Sr.G,Sr.my,f]);have wr:N w1 (K b.S 2)=J b.ep:=(T1.dI.fP b f).1.bT.i 2 O;by_cases z:b.ep=5
   ·have d:H<|r.gz s=(Y 10,r1):=by show _=_;unfold Sr.gz;rw[j,aT O,i,aT z]
    rw[z]at wr;go_wp2;go_ret;exact⟨_,_,d.o,O,T1⟩
   have cs:bR ((b.ep:U)=5)=ao:=Ç
   have y:=z;go_wp2;refine(Iu<|ZF B r1 b [75] (b.ep+1) [] _ T1.dI f (q _ j) (P.y T1.y I.cN) O Ã).mono ?_;rintro e G (⟨F,n,m,rfl,g⟩|⟨n,m,rfl,g⟩)
   ·have k:=m;have T2:=g;by_cases x:F=0
    ·subst x;have o:=Ć f k;have hd:=(T2.dI.fP _ o).1;have X:N G (K b.S 2)=J b.ep:=hd.bT.i 2 O;have g':aX G (K b.S 2)=ao:=hd.bT.dS 2;have d:H<|r.gz s=(Y 0,{n with sn:=Y {b with aQ:=(r1.cD b).1,ep:=b.ep+1}}):=by show _=_;unfold Sr.gz;rw[j,aT O,i,aL y,k,aT O]
     have L:Zd B r w {n with sn:=Y {b with aQ:=(r1.cD b).1,ep:=b.ep+1}}<|ay G (K b.S 2)<|J<|(b.ep:U)+1:=
      (T1.aE T2).aE (Zd.sM (s:={b with aQ:=(r1.cD b).1}) T2.dI o O O O O O O)
     go_wp2;go_ret;exact⟨_,_,d.o,O,L⟩
    have d:H<|r.gz s=(Y F,n):=by show _=_;unfold Sr.gz;rw[j,aT O,i,aL y,k,aL Á]
    have v':bR (F=0)=ao:=by simpa using x
    go_wp2;go_ret;exact⟨_,_,d.o,O,T1.aE T2⟩
   have d:H<|r.gz s=(R,n):=by show _=_;unfold Sr.gz;rw[j,aT O,i,aL y,m,aL Â]
   exact⟨O,R,n,d.o,O,T1.aE g⟩
  have d:H<|r.gz s=(Y v,r1):=by show _=_;unfold Sr.gz;rw[j,aL Á]
  go_wp2;go_ret;exact⟨_,_,d.o,O,T1⟩
 have d:H<|r.gz s=(R,r1):=by show _=_;unfold Sr.gz;rw[u,aL Â]
 exact⟨O,R,r1,d.o,O,l⟩
end
def Bn(a b:Zl):Zl:=oY (1::(a++b))
def sP(p:Zl):Zl:=oY (0::p)
def eN:bA Zl->bA Zl
 |a::b::r=>Bn a b::eN r|l=>l
def up:Q->bA Zl->bA Zl
 |0,l=>l|k+1,l=>up k<|eN l
def J9(P:bA Zl):Zl:=if P=[]then oY []else(up 8<|P.map sP).headD []
def Ga:∀l:bA Zl,T (eN l)=(T l+1)/2
 |[]=>rfl|[_]=>by simp[eN]
 |_::_::r=>by simp only[eN,xg,Ga r];omega
theorem LZ:∀a b:bA Zl,T a%2=0->eN (a++b)=eN a++eN b
 |[],b,_=>rfl|[_],_,h=>by simp at h
 |x::y::r,b,h=>by
  have c:T r%2=0:=by simp[xg]at h;omega
  simp[qg,eN,LZ r b c]
theorem Qj(x):∀k,up k [x]=[x]
 |0=>rfl|k+1=>Qj x k
theorem Qi:∀(j k:Q) (l:bA Zl),up (j+k) l=up k (up j l)
 |0,k,l=>by rw[j7];rfl|j+1,k,l=>by rw[Nat.add_right_comm];exact Qi j k _
def Ix:∀(k:Q) (l:bA Zl),0<T l->T l<=2^k->∃x,up k l=[x]
 |0,l,u,y=>by
  match l,u,y with
  |[x],_,_=>exact⟨x,O⟩|_::_::_,_,h=>simp at h
 |k+1,l,u,y=>by have a:=Ga l;rw[Cb]at y;exact Ix k _ À À
def Ĕ:∀(k:Q) (a b:bA Zl),T a=2^k->up k (a++b)=up k a++up k b
 |0,_,_,_=>O
 |k+1,a,b,h=>by
  have c:T a%2=0:=by rw[h,Cb];omega
  have d:=Ga a;rw[h,Cb]at d;show up k (eN<|a++b)=up k (eN a)++up k (eN b);rw[LZ a b c];exact Ĕ k _ _ À
theorem ă{k l}(h:up k l=[x])(hk:k<=j):up j l=[x]:=by grind [Nat.exists_eq_add_of_le,Qi,Qj]
def xkq(p):J9 [p]=sP p:=by rw[J9,aL Â];simp[Qj]
def xkp:J9 []=oY []:=O
theorem Iz{a k}(h:up k (a.map sP)=[x])(hk:k<=8)(b:a≠[]):J9 a=x:=by grind [J9,ă]
def xa8(a b k)(hk:k<8)(e:T a=2^k)(c:0<T b)(j:T b<=2^k):J9 (a++b)=Bn (J9 a) (J9 b):=by
 let⟨x,u⟩:=Ix k (a.map sP) Á Á;let⟨y,o⟩:=Ix k (b.map sP) Á Á;have i:up k ((a++b).map sP)=[x,y]:=by rw[qz,Ĕ k _ _ Á,u,o];rfl
 have g:up (k+1) ((a++b).map sP)=[Bn x y]:=by rw[Qi,i];rfl
 have d:a≠[]:=by intro h;rw[h]at e;simp at e;omega
 have f:b≠[]:=by intro h;rw[h]at c;simp at c
 rw[Iz g À<|by simp[d],Iz u À d,Iz o À f]
def QA{l}(h:∀x∈l,T x=32):∀x∈eN l,T x=32:=by
 match l,h with
 |[],h=>exact h|[_],h=>exact h
 |a::b::r,h=>intro x c;simp only[eN,jc]at c;obtain rfl|c:=c;exact yw _;exact QA (λy d=>h y<|by simp[d]) x c
def ā:∀(k:Q) (l:bA Zl),(∀x∈l,T x=32)->∀x∈up k l,T x=32
 |0,_,h=>h|k+1,_,h=>ā k _<|QA h
def xti(b:bA Zl):∀x∈b.map sP,T x=32:=λy a=>by simp only[Xe]at a;obtain⟨p,_,rfl⟩:=a;exact yw _
def Ą:∀(k:Q) (l:bA Zl),up (k+1) l=eN (up k l)
 |0,_=>rfl|k+1,l=>Ą k<|eN l
def xko{a}(h:up j (a.map sP)=[x])(c:T a<=256)(b:a≠[]):J9 a=x:=by
 let⟨y,u⟩:=Ix 8 (a.map sP) Á Á
 grind [Iz,ă]
def IB(a)(h:T a<=256):T (J9 a)=32:=by
 by_cases e:a=[];rw[e,xkp,yw];have c:0<T a:=by cases a<;>simp_all
 let⟨x,y⟩:=Ix 8 (a.map sP) Á Á;rw[Iz y À e];have b:∀(k:Q) (l:bA _),(∀x∈l,T x=32)->∀x∈up k l,T x=32:=by intro k;induction k with|zero=>intro l h;exact h|succ k I=>intro l h;exact I _<|QA h
 grind [sP,yw]
section
open Go.RowKit
def xua(x):({data:=#[1]}:eM)++st x=st (1::x):=zg [1] x
def xre(x):({data:=#[0]}:eM)++st x=st (0::x):=zg [0] x
attribute[local go_sem] zn zg xua xre
def sv(L:bA Zl):Ze:=L.map λl=>ak (st l)
def xzz(L):T (sv L)=T L:=by simp[sv]
def Qv(a b):sv (a++b)=sv a++sv b:=by simp[sv]
theorem jdj(L j)(h:j<T L):(sv L)[j]?=(ak<|st L[j]):=by simp[sv,h]
def LW:∃i,prog.info? 9=Y i/\i.zero=ak ⟨#[]⟩/\i.size=1/\i.bytes=16:=by
 have h:(prog.info? 9).map (λi=>(i.zero,i.size,i.bytes))=Y (Y<|ak ⟨#[]⟩,1,16):=Ä
 simp_all
def wN(w:Zy)(g o:Q)(L:bA Zl):Prop:=∀j (h:j<T L),N w (K g<|o+j)=(ak<|st L[j])
def wN.ac{o L}(h:wN w g o L)(b:g<B)(a:aP B w w'):wN w' g o L:=λj c=>(a.cell b).trans<|h j c
def č{cap L}(h:w.ownsRow z 9 1 (aB (Y ⟨g,0,R⟩) n cap) n<|sv L):n=T L/\z<=g/\g<V (Z w)/\wN w g 0 L:=by
 have f:n=T L:=by have:=h.1;simpa[xzz]using this.symm
 obtain⟨d,_⟩|⟨l,b,a,k,e,c,m,_,p,i⟩:=h.2;cases d;cases k;refine⟨f,e,(za.1 c).1,λj o=>?_⟩;rw[j7,xb _ _ j _ _ _ c];have:(a.toList.take<|n*1)[j]?=(sv L)[j]?:=by rw[i]
 grind [jdj]
def Qh{i a b}(c:aP B w w')(d:g<B)(e:N w (K g i)=Y a)(f:N w (K g j)=Y b):N w' (K g i)=Y a/\N w' (K g j)=Y b:=
 ⟨(c.cell d).trans e,(c.cell d).trans f⟩
def Qp(w:Zy)(l):∀j u,[E l][j]?=Y u->N (aF w<|au #[E l] 9) (((K (V<|Z w) 0):Addr).add j)=Y u:=
 gX (xn _ _)
def Qr(l):∀u∈[E l],u.oneCell'=M:=by intro u a;simp only[ju]at a;subst a;rfl
def xb4:∀(L:bA Zl) (k:Q) (h:2*k+1<T L),eN (L.take<|2*(k+1))=eN (L.take<|2*k)++[Bn L[2*k] L[2*k+1]]:=by
 intro L k h;have e:L.take (2*(k+1))=L.take (2*k)++[L[2*k],L[2*k+1]]:=by rw[show 2*(k+1)=2*k+1+1 by omega,zp h,zp À,jq];rfl
 rw[e,LZ _ _ Á];rfl
def xii(L k)(h:T L=2*k+1):eN L=eN (L.take<|2*k)++[L[2*k]]:=by
 have e:L=L.take (2*k)++[L[2*k]]:=by rw[<-zp À,qp À]
 grind [eN,LZ]
def zxf(L)(hx:0<T L)(hL:T L<=256)(ho:∀x∈L,T x=32)(g cap w)(hT:iN w)(hl:wN w g 0 L):
  aK prog 171 #[aB (Y ⟨g,0,R⟩) (T L) cap] w λen w'=>∃g' cap',en=ai (aB (Y ⟨g',0,R⟩) (T (eN L)) cap')/\w'.ownsRow (V<|Z w) 9 1 (aB (Y ⟨g',0,R⟩) (T (eN L)) cap') (T (eN L)) (sv<|eN L)/\aP (V<|Z w) w w':=by
 have HT:=hT;have cs:=hT.iE;have u:g<V (Z w):=js<|hl 0 hx;have A:=hl;have B:=ho;obtain⟨i9,X,s,t,hd⟩:=LW;go_enter func171.1,Tryz.ntmps171;go_wp2_with (refine wpList_make_own _ O _ _ 51 O w.heap.size 9 i9 _ 1 gq X s t bB bB _ ((T L+1)/2) O O ?l1 ?b1 ?b2 ?b3 ?_)
 case l1=>omega
 case b1=>grind
 case b2=>unfold pu;omega
 case b3=>simp
 intro w1 a W;have v':=(zt _ _).grown W (zd _) λ_ h=>È
 go_wp2;go_loopw [3,4] (λv i wr=>∃(k g' cap':Q),2*k<=T L/\i=J (2*(k:U))/\v=aB (Y ⟨g',0,R⟩) k cap'/\wr.ownsRow (V<|Z w) 9 1 (aB (Y ⟨g',0,R⟩) k cap') k (sv<|eN<|L.take<|2*k)/\aP (V<|Z w) w wr) (λ_ i _=>bL (T L-bZ i));exact⟨0,_,_,À,Å,O,a,v'⟩;obtain⟨k,g',cap',hk,rfl,rfl,a,l⟩:=hrel;obtain⟨q,ba,bb,_⟩:=č a;by_cases es:2*k+1<T L
 ·let⟨x,r⟩:=JP<|L[2*k];let⟨y,hy⟩:=JP<|L[2*k+1];have lx:=B x Á;have ly:=B y Á;have C:N w (K g<|2*k)=E x:=by have:=A (2*k) À;rwa[j7,r]at this
  have P:N w (K g<|2*k+1)=E y:=by have:=A _ À;rwa[j7,hy]at this
  have cr:∀o,N wr (K g o)=N w (K g o):=λo=>l.cell u;have i0:(0:U)<=2*(k:U):=À
  have i1:2*(k:U)+1<(T L:Q):=À
  have i2:2*(k:U)<(T L:Q):=À
  have i3:(0:U)<=2*(k:U)+1:=À
  have t0:bL (2*(k:U))=2*k:=À
  have t1:bL (2*(k:U)+1)=2*k+1:=À
  have e1:IntKind.i64.wrap (2*(k:U)+1)=2*(k:U)+1:=Ï
  have z:H<|eN (L.take<|2*(k+1))=eN (L.take<|2*k)++[Bn x y]:=by show _=_;rw[xb4 L k es,r,hy]
  have HO:=a;have S:=HT.ac cs l.drew;have h3:=l.size;clear a q r hy;go_wp2;have S0:N wr (K g<|2*k)=E x/\N wr (K g<|2*k+1)=E y:=⟨(cr _).trans C,(cr _).trans P⟩;go_region_held3 (λw'=>N w' (K g<|2*k)=E x/\N w' (K g<|2*k+1)=E y) (first|exact S0|exact S2|exact S3|exact S4)
   (first
    |(go_at_call 102;refine(CF _ ?_ _ S).mono ?_;(simp;omega);rintro en w2⟨rfl,F⟩;have f:=l.drew.trans<|F.mono h3;have S2:=Qh f u C P;have m:=f.alloc f.size<|au #[ak<|st<|oY (1::(x++y))] 9;have S3:=Qh m u C P;have j:=(Pi HO.drew F).alloc<|au #[ak<|st<|oY (1::(x++y))] 9)
    |(refine step_append_lies _ Ò _ _ 51 Ò _ 9 i9 _ 1 16 gq X s t hd Ò Ã _ k _ Ò j _ 1 1 _ Ò Ò (Qp _ _) (Qr _) Ã è À m.size (V (Z w2)+1) Â ?_;intro D c w4 b d e I;have n:=m.grown d m.size<|Cv j;have S4:=Qh n u C P))
  have p:w4.ownsRow (V<|Z w) 9 1 (aB (Y ⟨D,0,R⟩) (k+1) c) (k+1)<|sv<|eN<|L.take<|2*(k+1):=by rw[z.o,Qv];exact b
  clear b j d e S0 S2 S3 S4;go_wp2;go_roundw;exact⟨k+1,D,c,À,Å,O,p,n⟩;exact Ì
 have i1:¬2*(k:U)+1<(T L:Q):=À
 by_cases G:T L=2*k
 ·have ih:((T L:U)%2==1)=ao:=by simp;omega
  have h1:T (eN L)=k:=by rw[Ga];omega
  rw[qp À]at a;have z:=xe h1;clear h1 G q;go_wp2;go_ret;exact⟨g',cap',by rw[z.o];rfl,by rw[z.o];omega,l⟩
 have h2:T L=2*k+1:=À
 have ih:((T L:U)%2==1)=M:=Ç
 let⟨x,r⟩:=JP<|L[2*k];have C:N wr (K g<|T L-1)=E x:=by have:=A (2*k) À;rw[j7,r]at this;rw[show T L-1=2*k by omega];exact(l.cell u).trans this
 have i2:(0:U)<=(T L:U)-1:=À
 have i3:(T L:U)-1<(T L:Q):=À
 have i4:(1:U)<=(T L:Q):=À
 have z:H<|eN L=eN (L.take<|2*k)++[x]:=by show _=_;rw[xii L k h2,r]
 have HN:H<|T (eN L)=k+1:=by show _=_;rw[Ga];omega
 clear h2 G r q;go_wp2_with (refine wpList_append_lies _ O _ _ 51 O w.heap.size 9 i9 _ 1 16 gq X s t hd O Ã (aB _ k cap') k (sv<|eN<|L.take<|2*k) O ?own _ 1 1 _ O O (Qp _ _) (Qr _) Ã ?m1 ?m2 ?m3 (V (Z wr)+1) ?m4 ?_)
 case own=>exact a.alloc _
 case m1=>unfold pu;omega
 case m2=>omega
 case m3=>omega
 intro D c w4 b d e I;have n:=(l.alloc l.size _).grown d (by have:=l.size;simp;omega)<|Cv a;have p:w4.ownsRow (V<|Z w) 9 1 (aB (Y ⟨D,0,R⟩) (k+1) c) (k+1)<|sv<|eN L:=by rw[z.o,Qv];exact b
 clear b d e a;go_wp2;go_ret;exact⟨D,c,by rw[HN.o];rfl,by rw[HN.o];omega,n⟩
def Z4:Zv->Q
 | aB _ n _=>n|_=>0
def xkg{f e xs}(i:b<=f)(h:w.ownsRow f e a v n xs):w.ownsRow b e a v n xs:=by refine⟨h.1,?_⟩;obtain l|⟨g,c,d,k,j,r⟩:=h.2;grind;exact ac ⟨g,c,d,k,xa i j,r⟩
def xp3(a cap w)(c:iN w):aq 108 #[aB a 0 cap] w (E<|J9 []):=by have b:=c;go_enter func108.1,Tryz.ntmps108;go_wp2;apply(CF [] Ã _ b).mono;rintro e w1⟨rfl,d⟩;go_wp2;go_ret;exact⟨O,d⟩
def xp2(L)(z:0<T L)(W:T L<=256)(hp:∀x∈L,T x<=4095)(g off cap w)(X:iN w)(hl:wN w g off L):
  aq 108 #[aB (Y ⟨g,off,R⟩) (T L) cap] w (ak<|st<|J9 L):=by
 have A:=X;have D:=X.iE;have hg:g<V (Z w):=js<|hl 0 z;have HL:=hl;have HP:=hp;obtain⟨i9,hd,h1,F,h2⟩:=LW;go_enter func108.1,Tryz.ntmps108;go_wp2_with (refine wpList_make_own _ O _ _ 51 O w.heap.size 9 i9 _ 1 gq hd h1 F bB bB _ (T L) O O ?l1 ?b1 ?b2 ?b3 ?_)
 case l1=>rfl
 case b1=>grind
 case b2=>unfold pu;omega
 case b3=>simp
 intro w1 a hx;have ho:=(zt _ _).grown hx (zd _) λ_ h=>È
 go_wp2;go_loopw [3,15] (λv i wr=>∃(k o b:Q),k<=T L/\i=aD bB (k:U)/\v=aB (Y ⟨o,0,R⟩) k b/\wr.ownsRow (V<|Z w) 9 1 (aB (Y ⟨o,0,R⟩) k b) k (sv<|(L.map sP).take k)/\aP (V<|Z w) w wr) (λ_ i _=>bL (T L-bZ i));exact⟨0,_,_,À,O,O,a,ho⟩;obtain⟨k,o,b,hk,rfl,rfl,a,m⟩:=hrel;by_cases C:k<T L
 ·let⟨x,t⟩:=JP<|L[k];have lx:=HP x Á;have c0:N wr ⟨g,off+k,R⟩=(ak<|st x):=by have:=HL k C;rw[t]at this;exact(m.cell hg).trans this
  have HA:H<|(L.map sP).take (k+1)=(L.map sP).take k++[sP x]:=by show _=_;rw[zp Á,Fl,t]
  have HO:=a;have r:=A.ac D m;go_wp2;refine(CF _ Ç _ r).mono ?_;rintro en w2⟨rfl,p⟩;have c:=m.trans<|p.mono m.size;have f:=Pi HO p;go_wp2_with (refine wpList_append_lies _ O _ _ 51 O w.heap.size 9 i9 _ 1 16 gq hd h1 F h2 O Ã (aB _ k b) k (sv<|(L.map sP).take k) O ?own _ 1 1 _ O O (Qp _ _) (Qr _) Ã ?m1 ?m2 ?m3 (V (Z w2)+1) ?m4 ?_)
  case own=>exact f.alloc _
  case m1=>unfold pu;omega
  case m2=>omega
  case m3=>have:=c.size;exact Ç
  case m4=>simp
  intro y e w4 s B h3 ba;have S:=(c.alloc c.size _).grown B (by have:=c.size;simp;omega)<|Cv f;have cs:w4.ownsRow (V<|Z w) 9 1 (aB (Y ⟨y,0,R⟩) (k+1) e) (k+1)<|sv<|(L.map sP).take<|k+1:=by rw[HA.o,Qv];exact s
  go_wp2;go_roundw;exact⟨k+1,y,e,À,Å,O,cs,S⟩;exact Ì
 obtain rfl:k=T L:=À
 rw[qp Â]at a;let⟨u,P⟩:=JP<|L.map sP;have g':∀x∈u,T x=32:=by rw[<-P];exact xti L
 rw[P]at a;have HR:=P;go_wp2;go_loopw [3] (λv w2=>∃(j n o b:Q),0<n/\n<=256/\v=aB (Y ⟨o,0,R⟩) n b/\w2.ownsRow (V<|Z w) 9 1 (aB (Y ⟨o,0,R⟩) n b) n (sv<|up j u)/\aP (V<|Z w) w w2) (λv _=>Z4 v);exact⟨0,_,_,_,z,W,O,a,m⟩;obtain⟨j,n,o,b,bd,hn,rfl,a,m⟩:=hrel;obtain⟨q,bb,bc,d⟩:=č a;by_cases C:1<n
 ·have i2:(1:U)<(n:Q):=À;have I:=xe q;have v':=d;have r:=A.ac D m;clear a q d;go_wp2;have l:=zxf _ (by have:=I.o;omega) (by have:=I.o;omega) (ā j u g') o b wr r v';rw[<-I.o]at l;refine l.mono ?_;rintro en w2⟨y,e,rfl,f,p⟩;have es:T (eN<|up j u)=(n+1)/2:=by rw[Ga,<-I.o]
  have c:=m.trans<|p.mono m.size;rw[es]at f⊢;have G:w2.ownsRow (V<|Z w) 9 1 (aB (Y ⟨y,0,R⟩) ((n+1)/2) e) ((n+1)/2)<|sv<|up (j+1) u:=by rw[Ą];exact xkg m.size f
  go_wp2;go_roundw;exact⟨j+1,(n+1)/2,y,e,À,À,O,G,c⟩;simp[Z4];omega
 obtain rfl:n=1:=À
 obtain⟨x,t⟩:=List.length_eq_one_iff.1 q.symm;have c0:N wr ⟨o,0,R⟩=(ak<|st x):=by have:=d 0 À;rw[j7]at this;rw[this];simp[t]
 have HX:=xko (by rw[HR];exact t) W (by intro h;simp_all);clear a q d t;go_wp2;go_ret;simp_all
end
section
open Go.RowKit
attribute[local go_sem] zn zg
theorem ĕ(a cap w)(b:iN w):aq 57 #[aB a 0 cap] w (cE #[E<|J9 [],J 0]):=by go_enter func57.1,Tryz.ntmps57;go_wp2;go_loopw [11] (λi wr=>i=J 0/\wr=w) (λ_ _=>0);grind;obtain⟨rfl,rfl⟩:=hrel;go_wp2;apply(xp3 a cap _ b).mono;rintro e w1⟨rfl,c⟩;go_wp2;go_ret2;simp_all
def xrt(L)(a:0<T L)(e:T L<=256)(j:∀x∈L,T x<=4095)(g y cap w)(f:iN w)(h:wN w g y L):
  aq 57 #[aB (Y ⟨g,y,R⟩) (T L) cap] w (cE #[E<|J9 L,J 0]):=by
 have c:wN w g y L:=h;have d:∀x∈L,T x<=4095:=j;go_enter func57.1,Tryz.ntmps57;go_wp2;go_loopw [11] (λi wr=>∃k:Q,k<=T L/\i=J k/\wr=w) (λi _=>bL (T L-bZ i));grind;obtain⟨k,hk,rfl,rfl⟩:=hrel;by_cases b:k<T L
 ·let⟨x,l⟩:=JP<|L[k];have p:T x<=4095:=d x Á;have m:N wr (K g<|y+k)=E x:=by have:=c k b;rw[l]at this;exact this
  have o:(k:U)<(T L:Q):=À
  go_wp2;go_roundw;exact⟨k+1,À,Å,bD⟩;exact Ì
 obtain rfl:k=T L:=À
 go_wp2;apply(xp2 L a e d g y cap _ f c).mono;rintro u w1⟨rfl,n⟩;go_wp2;go_ret2;simp_all
def Bo:Q->Zl->bA Zl
 |0,_=>[]|n+1,l=>if l=[]then []else l.take 64::Bo n (l.drop 64)
def Ys(l:Zl):bA Zl:=Bo (T l) l
theorem đ:∀(n m:Q) (l:Zl),T l<=n->T l<=m->Bo n l=Bo m l
 |0,0,_,_,_=>rfl|0,m+1,l,h,_=>by grind [Bo]
 |n+1,0,l,_,h=>by grind [Bo]
 |n+1,m+1,l,y,u=>by
  by_cases a:l=[];simp[Bo,a];have:0<T l:=by cases l;exact dC O a;simp
  simp only[Bo,a,kB];rw[đ n m _ Á Á]
def Qx:Ys []=[]:=O
def Qu{l}(h:l≠[]):Ys l=l.take 64::Ys (l.drop 64):=by
 obtain⟨a,b,rfl⟩:∃a b,l=a::b:=by cases l;exact dC O h;grind
 grind [Ys,Bo,đ]
def qY(x:Zl):Zv:=ak (st x)
def QE(x)(hx:T x<=1000000)(w):aK prog 93 #[E x] w λe w'=>∃v,e=ai v/\w'.ownsRow (V<|Z w) 9 1 v (T (Ys x)) ((Ys x).map qY)/\Nw w w':=by
 let⟨i9,hi,hz0,hz1,hz2⟩:=LW;go_enter func93.1,Tryz.ntmps93;go_wp2;go_loopw [0,3] (λt v wr=>∃(D:bA _) (r:Zl),t=E r/\Ys x=D++Ys r/\T D+T r<=T x/\wr.ownsRow (V<|Z w) 9 1 v (T D) (D.map qY)/\Nw w wr) (λt _ _=>match t with| ak s=>s.size|_=>0);exact⟨[],x,O,O,Â,jk _ _ _ _,zj.refl _ _⟩;obtain⟨D,r,rfl,d,y,a,l⟩:=hrel;have m:=d;obtain⟨h1,o,rfl,q⟩:=Wo a;have n:=a;have k:=l;by_cases i:r=[]
 ·subst i;have W:=xl [];have G:H<|Ys x=D:=by show _=_;rw[m,Qx,Xz]
  go_wp2;go_ret;rw[G.o];simp_all
 have W:¬(st r).toList=[]:=by rw[xl];exact i
 have h2:(st r).toList.isEmpty=ao:=by rw[xl];cases r;exact dC O i;rfl
 have X:H<|Ys x=(D++[r.take 64])++Ys (r.drop 64):=by show _=_;rw[m,Qu i];simp
 have C:min (64:U) (T r:Q)=((min 64 (T r):Q):U):=À
 have I:H<|Value.string ((st r).extract 0<|min 64 (T r))=qY (r.take 64):=by rw[vD];congr 2;obtain h|h:=Nat.le_total 64 (T r);grind;grind
 have P:H<|(st r).extract (min 64 (T r)) (T r)=st (r.drop 64):=by rw[Pq];congr 1;obtain h|h:=Nat.le_total 64 (T r);grind;simp
 go_wp2_with (apply wpList_append_lies _ O _ _ 51 O w.heap.size 9 i9 _ 1 16 gq hi hz0 hz1 hz2 O Ã _ (T D) (D.map qY) O ?own _ 1 1 [ak<|(st r).extract 0<|min 64 (T r)] O O ?nw ?o1 Ã ?m1 ?m2 ?m3 (V (Z wr)+1) ?m4)
 case own=>exact n.alloc _
 case m1=>unfold pu;omega
 case m2=>omega
 case m3=>have:=k.aD;exact Ç
 case m4=>simp
 case o1=>intro z g;simp at g;rw[g];rfl
 case nw=>intro j z g;cases j with|zero=>simp at g;subst g;simp[go_sem,Addr.add]|succ j=>grind
 intro A c u b f p B;have F:Nw w u:=by have L:=(zt _<|aF wr<|au _ 9).grown f (by have:=k.aD;simp;omega)<|Cv n;exact(k.aE<|zj.E _).mV L
 have hd:u.ownsRow (V<|Z w) 9 1 (aB (Y ⟨A,0,R⟩) (T D+1) c) (T (D++[r.take 64]))<|(D++[r.take 64]).map qY:=by rw[qz,zx];simp only[Js,Fr,<-I.o];exact b
 go_wp2;rw[P.o];refine⟨⟨D++[r.take 64],r.drop 64,O,X.o,Á,hd,F⟩,?_⟩;grind [zn]
def LY(w:Zy)(g:Q)(xs:bA Zl):Prop:=∀i (h:i<T xs),N w (K g i)=Y (qY xs[i])
def LY.y{S}(h:LY w g xs)(a:zj S w w')(c:¬S g):LY w' g xs:=λi b=>a.i c<|h i b
def ZZ(w:Zy)(v:Zv)(xs:bA Zl):Prop:=∃p g c,v=aB p (T xs) c/\(xs≠[]->p=Y ⟨g,0,R⟩)/\LY w g xs
def ć(h:w.ownsRow z 9 1 v (T xs)<|xs.map qY):ZZ w v xs:=by
 obtain⟨b,e⟩|⟨g,d,a,j,l,m,n,k,o,f⟩:=h.2;have:=jv e;subst this;exact⟨R,0,0,b,λx=>dC O x,λi c=>dC c Â⟩;refine⟨_,g,d,j,λ_=>O,λi c=>?_⟩;have:a.toList[i]?=Y (qY xs[i]):=by
  have b:(a.toList.take<|T xs*1)[i]?=Y (qY xs[i]):=by rw[f];simp[c]
  rw[Kx]at b;simpa[c]using b
 grind [N]
def Y9(m:Mf)(c:Zl)(xs:bA Zl):bA Zl:=xs.mapIdx λi x=>nT c (m.lM i) x
theorem Ah(m a xs):T (Y9 m a xs)=T xs:=by simp[Y9]
def Đ(m a xs k)(h:k<T xs):(Y9 m a xs).take (k+1)=(Y9 m a xs).take k++[nT a (m.lM k) xs[k]]:=by grind [Y9,zp]
def ē(m:Mf)(i):T (m.lM i)=8:=by simp[Mf.lM,Z2]
def xh.sO{r c}(h:xh w r c t)(a:aP B w w')(b:r<B):xh w' r c t:=(a.block r b).trans h
def Ă(m xs v a d)(ho:T a=16)(hx:∀x∈xs,T x<=4096)(hl:T xs<=1000)(w)(P:ZZ w v xs):
  aK prog 92 #[m.V,v,bY #[ak<|st a,ak<|st d]] w λe w'=>∃v,e=ai v/\w'.ownsRow (V<|Z w) 9 1 v (T xs) ((Y9 m a xs).map qY)/\Nw w w':=by
 let⟨i9,hi,hz0,hz1,hz2⟩:=LW;obtain⟨p,g,bi,rfl,hp,I⟩:=P;have cs:=ho;let⟨wm,hmk,hown0,hgr0⟩:=run_make_own (aF (aF w<|au m.G 164)<|au #[ak<|st a,ak<|st d] 145) (V<|Z w) 51 9 i9 _ 1 gq hi hz0 hz1 bB bB (T xs) Á è Ç;have BM:xh wm (V<|Z w) m.G 164:=by have c:=(xh.ex w m.G 164).E<|au #[ak<|st a,ak<|st d] 145;exact(hgr0.block _ c.lt Â).trans c
 have BK:xh wm (V (Z w)+1) #[ak<|st a,ak<|st d] 145:=by have c:=xh.ex (aF w<|au m.G 164) #[ak<|st a,ak<|st d] 145;simp only[xp]at c;exact(hgr0.block _ c.lt Â).trans c
 have NM:Nw w wm:=((zj.E _).aE<|zj.E _).aE ⟨hgr0.os,hgr0.output,hgr0.size,λk hk _=>hgr0.block k hk Â⟩;have bh:wm.ownsRow (V (Z w)+2) 9 1 (aB (Y ⟨V (Z w)+1+1,0,R⟩) 0 (T xs)) 0 []:=by refine⟨O,ac ?_⟩;obtain⟨c,_⟩|⟨g',bc,S,P,hg,r⟩:=hown0.2;cases c;simp only[xp]at P;cases P;exact⟨_,_,S,O,Â,r⟩
 simp only[xp]at hmk;unfold Mf.V;unfold Mf.G at hmk;go_enter func92.1,Tryz.ntmps92;unfold Mf.G;go_wp2;go_loopw [7,15] (λv i wr=>∃k:Q,k<=T xs/\i=aD bB k/\wr.ownsRow (V (Z w)+2) 9 1 v k (((Y9 m a xs).take k).map qY)/\Nw w wr/\xh wr (V<|Z w) m.G 164/\xh wr (V (Z w)+1) #[ak<|st a,ak<|st d] 145) (λ_ i _=>bL (T xs-bZ i));grind;obtain⟨k,hk,rfl,n,ba,X,v'⟩:=hrel;obtain⟨a4,l,rfl,be⟩:=Wo n;have HO:=n;have HN:=ba;have h1:=X;have s:=v';by_cases B:k<T xs
 ·have i1:(k:U)<(T xs:Q):=À;have bb:=hp (λe=>Á);subst bb;have hc:=(I.y HN id) k B;unfold qY at hc;have HT:=Đ m a xs k B;have es:=hx _<|Xk B;generalize xs[k]=x at*;have b:∀w1,zj (λy=>V (Z w)+2<=y) wr w1->MC (V<|Z w) m m.ga w1/\N w1 ⟨V (Z w)+1,0,R⟩=(ak<|st a)/\N w1 ⟨V (Z w)+1,1,R⟩=(ak<|st d):=λw1 h=>by have c:=h1.y h À;have h2:=s.y h À;exact⟨c.mc,h2.i 0 O,h2.i 1 O⟩
  have S0:=b wr<|zj.refl _ _;have F:Nw wr wr.drew:=(zj.refl _ _).W;have bg:V (Z w)+2<=V (Z wr):=s.lt;have t:∀W:Zy,N (aF W<|au #[ak<|st<|nT a (m.lM k) x] 9) ⟨V<|Z W,0,R⟩=(ak<|st<|nT a (m.lM k) x):=λW=>(xh.ex W _ 9).i 0 O;go_wp2;go_region_held3 (λw'=>MC (V<|Z w) m m.ga w'/\N w' ⟨V (Z w)+1,0,R⟩=(ak<|st a)/\N w' ⟨V (Z w)+1,1,R⟩=(ak<|st d)) (first|exact S0|exact A|exact SA)
   (first
    |(go_at_call 151;apply(xo9 m k _).mono;rintro e w3⟨rfl,hd⟩;have N3:Nw wr w3:=F.aE<|zj.J hd;have A:=b _<|N3.U λ_ x=>x.elim)
    |(go_at_call 150;apply(PA a d _ x cs (ē m k) es _).mono;rintro e u⟨rfl,hd⟩;have f:Nw wr u:=N3.aE<|zj.J hd;have A:=b _<|f.U λ_ x=>x.elim;have O4:=Ie HO f λ_ _ x=>x;have bj:=f.aD;have SA:=b (aF u<|au #[ak<|st<|nT a (m.lM k) x] 9)<|(f.aE<|zj.E _).U λ_ x=>x.elim)
    |(apply step_append_lies _ O _ _ 51 O _ 9 i9 _ 1 16 gq hi hz0 hz1 hz2 O Ã (aB a4 k l) k _ O (O4.alloc _) _ 1 1 [ak _] O O (by intro j z D;cases j with|zero=>simp at D;subst D;exact t u|succ j=>simp at D) (by intro z D;simp at D;rw[D];rfl) Ã è À Ç (V (Z u)+1) Â;intro g2 G w5 C h3 bd bf;have o:=(zt _<|aF u<|au _ 9).grown h3 Ç<|Cv O4;have A:=b _<|((f.aE<|zj.E _).U λ_ x=>x.elim).aE ⟨o.os,o.output,o.size,λq hq hs=>o.block q À⟩))
  have W5:=((HN.aE f).aE<|zj.E _).mV (o.mono À);have w2:=((h1.y f id).E _).sO o À;have L:=((s.y f id).E _).sO o À;have O5:w5.ownsRow (V (Z w)+2) 9 1 (aB (Y ⟨g2,0,R⟩) (k+1) G) (k+1)<|((Y9 m a xs).take<|k+1).map qY:=by rw[HT,qz];exact C
  try clear hHeld
  go_wp2;go_roundw;exact⟨k+1,À,Å,O5,W5,w2,L⟩;exact Ì
 have ih:k=T xs:=À
 subst ih;have HF:wr.ownsRow (V<|Z w) 9 1 (aB a4 (T xs) l) (T xs)<|(Y9 m a xs).map qY:=by have:=FQ (base':=V (Z w)) HO À;rw[qp<|by grind [Ah]]at this;exact this
 go_wp2;go_ret;simp_all
def Ag:Q->Zl->Zl->KV->dD KV
 |_,[],_,L=>Y L|0,_::_,_,_=>R
 |n+1,a::l,A,L=>match Wy (a::l)with
  |some ((k,v),r)=>if A<k then Ag n r k (gS L k v)else R
  |none=>R
def Yo(l:Zl):dD KV:=Ag (T l) l [] []
theorem Ā:∀(n m:Q) (l A:Zl) (L:KV),T l<=n->T l<=m->Ag n l A L=Ag m l A L
 |0,0,_,_,_,_,_=>rfl|0,m+1,l,A,L,h,_=>ze6
 |n+1,0,l,A,L,_,h=>ze6
 |n+1,m+1,[],A,L,_,_=>O|n+1,m+1,a::l,A,L,u,o=>by simp only[Ag];cases y:Wy _ with|none=>rfl|some q=>let⟨⟨k,v⟩,r⟩:=q;have:=WY y;simp only;rw[Ā n m r k _ À À]
def yM(r A:Zl)(L:KV):dD KV:=Ag (T r) r A L
def xqe(a L):yM [] a L=Y L:=O
def L8{r}(c:r≠[])(b L):yM r b L=match Wy r with
  |some ((k,v),r')=>if b<k then yM r' k (gS L k v)else R
  |none=>R:=by
 obtain⟨a,l,rfl⟩:∃a l,r=a::l:=by cases r;exact dC O c;grind
 grind [yM,Ag,Wy,Ā]
def xs9(k a):(!Op.bytesLess (st k).toList (st a).toList&& !(st k).toList==(st a).toList)=bR (a<k):=by grind [xl,bytesLess_eq]
def QB(tv:Zv)(l:Zl)(w:Zy)(e:kH)(w':Zy):Prop:=
 Nw w w'/\(match Yo l with|some L=>∃m,e=ai (fu<|some m)/\V (Z w)<=m/\Je w' m L|none=>e=kn tv)
def Č(h:Yo l=R)(a:Nw w w'):QB tv l w (kn tv) w':=by grind [QB]
def xep(l w)(bc:1<V (Z w))(hG:ip tv w):aK prog 241 #[ak<|st l] w<|QB tv l w:=by
 have D:=hG;have s:=run_makeMap (P:=prog) 143<|aF w<|au #[ak<|st l] 277;have hd:=(xh.ex w #[ak<|st l] 277).E<|.map #[] 0;have h1:Je (aF (aF w<|au #[ak<|st l] 277)<|.map #[] 0) (V (Z w)+1) []:=by refine⟨#[],0,?_,O,MapKept.stamped_empty 0⟩;have:=xn (aF w<|au #[ak<|st l] 277)<|.map #[] 0;simp only[xp]at this;exact this
 have h2:Nw w<|aF (aF w<|au #[ak<|st l] 277)<|.map #[] 0:=(zj.E _).aE<|zj.E _;simp only[xp]at s;go_enter func241.1,Tryz.ntmps241;go_wp2;generalize(aF w<|au #[ak<|st l] 277).alloc (.map #[] 0)=w0 at*;go_loopw [5] (λa wr=>∃(r f:Zl) (L:KV),a=ak (st f)/\Yo l=yM r f L/\xh wr (V<|Z w) #[ak<|st r] 277/\Je wr (V (Z w)+1) L/\Nw w wr) (λ_ wr=>qP (V<|Z w) wr);exact⟨l,[],[],O,O,hd,h1,h2⟩;obtain⟨r,f,L,rfl,y,b,t,i⟩:=hrel;have h:=y;have u:=t;have o:=i;have c0:=b.i 0 O;by_cases n:r=[]
 ·subst n;have hn:=xl [];have hx:H<|Yo l=Y L:=by show _=_;rw[h,xqe]
  go_wp2;go_ret;refine⟨o,?_⟩;rw[hx.o];exact⟨_,O,À,u⟩
 have hn:¬(st r).toList=[]:=by rw[xl];exact n
 have ba:(st r).toList.isEmpty=ao:=by rw[xl];cases r;exact dC O n;rfl
 have F:H (Yo l=match Wy r with
   |some ((k,v),r')=>if f<k then yM r' k (gS L k v)else R
   |none=>R):=by show _=_;rw[h,L8 n]
 go_wp2;apply(XY r À b<|D.y i id).mono;intro e m j;unfold Ee at j;cases hq:Wy r with
 |none=>
  rw[hq]at j;obtain⟨c,rfl⟩:=j;exact⟨O,Č (by rw[F.o,hq])<|o.cZ (zd _) c⟩
 |some q=>
  let⟨⟨k,v⟩,r'⟩:=q;rw[hq]at j;obtain⟨c,rfl,p⟩:=j;have g:H<|Yo l=if f<k then yM r' k (gS L k v)else R:=by show _=_;rw[F.o,hq]
  have A:Nw w m:=o.cZ (zd _) c;have G:=u.y c À;have bb:=G.lt;go_wp2;rw[xs9];have ho:=D.y (A.aE<|zj.E<|au #[ak<|st k,ak<|st v] 104) id;have cs:=p.E<|au #[ak<|st k,ak<|st v] 104;have C:xh (aF m<|au #[ak<|st k,ak<|st v] 104) (V<|Z m) #[ak<|st k,ak<|st v] 104:=xh.ex _ _ _;have g':=G.y (S:=λ_=>False) (zj.E<|au #[ak<|st k,ak<|st v] 104) id;have I:Nw w<|aF m<|au #[ak<|st k,ak<|st v] 104:=A.aE<|zj.E _;generalize aF m (au #[ak<|st k,ak<|st v] 104)=wA at*;by_cases d:f<k
  ·apply(Yt _ Á _).mono;rintro e w3⟨rfl,z⟩;obtain rfl:=z.symm;have h3:=C.i 0 O;have w2:=C.i 1 O;let⟨w4,hrun,hb4,hs4⟩:=XE CJ dK g' k v;have x:(im 143 (fu<|some<|V (Z w)+1) (ak<|st k)<|bY #[ak<|st v]).run prog wA=dG () w4:=hrun;have v':H<|Yo l=yM r' k (gS L k v):=by show _=_;rw[g.o,aT d]
   have B:=cs.y hb4 À;have es:=hs4;have W:Nw w w4:=I.cZ À hb4;have X:=FN B;go_wp2;go_roundw;exact⟨r',k,gS L k v,O,v'.o,B,es,W⟩;rw[(FN b),X];exact WY hq
  apply(Jw _ Á _ ho).mono;rintro e w3⟨rfl,rfl⟩;exact⟨O,Č (by rw[g.o,aL d]) I⟩
def xQ(l:Zl):Zl:=l.drop 1
def Ai(l:Zl):Zl:=(xQ l).drop 1
def yJ(l:Zl):Zl:=(Ai l).drop 2
def Aj(l:Zl):Zl:=(yJ l).drop 4
def yK(l:Zl):Zl:=(Aj l).drop 2
def Ak(l:Zl):Zl:=(yK l).drop 4
def yL(l:Zl):Zl:=(Ak l).drop 2
def Al(l:Zl):Zl:=(yL l).drop 4
def xR(l:Zl):Zl:=(Al l).drop 32
def Am(l:Zl):Zl:=(xR l).drop 32
def Ym(l:Zl):Mf:={ep:=qi<|(xQ l).take 1,op:=qi<|(Ai l).take 2,bF:=qi<|(yJ l).take 4,bC:=qi<|(Aj l).take 2,bM:=qi<|(yK l).take 4,cW:=qi<|(Ak l).take 2,gT:=qi<|(yL l).take 4,ga:=(Al l).take 32,aQ:=(xR l).take 32}
structure vL(m:Zl)(y:U)(l:Zl):Prop where
 gT:T l=116
 Iy:l.take 1=[77]
 S:(Ym l).ep<=5
 dX:Am l=Wu (Y7 m (Ym l).ep) (l.take 84)
 bF:((Ym l).bF:U)<=y
def xts(tv:Zv)(m:Zl)(y:U)(l:Zl)(w:Zy)(e:kH)(w':Zy):Prop:=
 Nw w w'/\((e=ai (Ym l).V/\vL m y l)\/(e=kn tv/\¬vL m y l))
def Qy(h:T l=116):T (xQ l)=115/\T (Ai l)=114/\T (yJ l)=112/\T (Aj l)=108/\T (yK l)=106/\T (Ak l)=102/\T (yL l)=100/\T (Al l)=96/\T (xR l)=64/\T (Am l)=32:=by grind [xQ,Ai,yJ,Aj,yK,Ak,yL,Al,xR,Am]
def xh.Qm{x r}{A a b c d e f g i y b1 b2 b3 u o W D X}(h:xh x r #[A,a,b,c,d,e,f,g,i] t):xh (ay (ay (ay (ay (ay (ay (ay (ay (ay x (K r 0) y) (K r 1) b1) (K r 2) b2) (K r 3) b3) (K r 4) u) (K r 5) o) (K r 6) W) (K r 7) D) (K r 8) X) r #[y,b1,b2,b3,u,o,W,D,X] t:=by have k:=((((((((h.H 0 y).H 1 b1).H 2 b2).H 3 b3).H 4 u).H 5 o).H 6 W).H 7 D).H 8 X;simp_all
def yG(l:Zl)(k:Q):Za:=#[if 0<k then aD bB ((qi ((xQ l).take 1):Q):U)else aD bB 0,if 1<k then aD bB ((qi ((Ai l).take 2):Q):U)else aD bB 0,if 2<k then aD bB ((qi ((yJ l).take 4):Q):U)else aD bB 0,if 3<k then aD bB ((qi ((Aj l).take 2):Q):U)else aD bB 0,if 4<k then aD bB ((qi ((yK l).take 4):Q):U)else aD bB 0,if 5<k then aD bB ((qi ((Ak l).take 2):Q):U)else aD bB 0,if 6<k then aD bB ((qi ((yL l).take 4):Q):U)else aD bB 0,if 7<k then ak (st<|(Al l).take 32)else ak ⟨#[]⟩,if 8<k then ak (st<|(xR l).take 32)else ak ⟨#[]⟩]
structure MS(w v:Zy)(y:Q)(m u:Zl)(o op:U)(l:Zl)(c:Za):Prop where
 T:xh v (V<|Z w) #[E m,J o,E u,J op] 91
 Z':xh v (V (Z w)+1) #[J 0,J 0,J 0,J 0,J 0,J 0,J 0,ak ⟨#[]⟩,ak ⟨#[]⟩] 164
 zq:xh v (V (Z w)+1+1) #[E l] 277
 C:xh v y c 164
 N:Nw w v
section
variable{w v y:dN}{aw i:Q}{m o l l':bA UInt8}{d f:U}{c:bE eJ}{u:eJ}
def MS.rL(s:MS w v aw m o d f l c)(a:aw≠V (Z w)+1+1)(k:zj (·=V (Z w)+1+1) v y)(b:xh y (V (Z w)+1+1) #[E l'] 277):MS w y aw m o d f l' c:=⟨s.T.y k À,s.Z'.y k À,b,s.C.y k a,s.N.cZ À k⟩
theorem MS.H(s:MS w v aw m o d f l c)(a:V (Z w)+1+1<aw)(e:ay v (K aw i) u=y):MS w y aw m o d f l<|aA c i u:=⟨s.T.ot e À,s.Z'.ot e À,s.zq.ot e À,s.C.st e,s.N.st e À⟩
end
def zti(m k tc op l)(hm:T m=32)(hl:T l<=1000000)(w)(bm:1<V (Z w))(hT:iN w)(hG:ip tv w):
  aK prog 135 #[bY #[E m,J tc,E k,J op],E l] w (xts tv m tc l w):=by
 have A:=hG;have HT:=hT;go_enter func135.1,Tryz.ntmps135;go_wp2;refine rC λw0 a=>?_;have BT:=(xh.ex w _ 91).al a;have BR:=xp w _▸xh.nu a;have N0:Nw w w0:=(zj.E _).al a;have bh:V (Z w0)=V (Z w)+1+1:=by rw[xu6 a,xp]
 have G0:=A.y N0 id;by_cases o:T l=116;rotate_left;refine(Jw _ Á _ G0).mono ?_;rintro e w1⟨rfl,rfl⟩;exact⟨O,N0,ac ⟨O,λh=>o h.gT⟩⟩;refine(Yt _ Á _).mono ?_;rintro e w1⟨rfl,wr⟩;obtain rfl:w0=w1:=wr.symm;have v':=Qy o;have cs:=o;go_wp2;refine rC λw1 a=>?_;have S:MS w w1 (V (Z w)+1) m k tc op l<|yG l 0:=⟨BT.al a,BR.al a,bh▸xh.nu a,BR.al a,N0.al a⟩;refine(wH S.zq _ 1 O À).mono ?_;rintro e w2⟨rfl,b,hk⟩;replace S:=S.rL (l':=xQ l) À b hk;have G2:=A.y S.N id;have g:=S.zq.lt;go_wp2;by_cases F:l.take 1=[77];rotate_left;refine(Jw _ (by grind [xl]) _ G2).mono ?_;rintro e B⟨rfl,rfl⟩;exact⟨O,S.N,ac ⟨O,λh=>F h.Iy⟩⟩;refine(Yt _ (by rw[xl,F];rfl) _).mono ?_;rintro e B⟨rfl,p⟩;obtain rfl:w2=B:=p.symm;have ba:=F;go_wp2;refine rC λv a=>?_;generalize hR:V (Z w2)=u at g⊢;replace S:MS w v u m k tc op (xQ l)<|yG l 0:=⟨S.T.al a,S.Z'.al a,S.zq.al a,hR▸xh.nu a,S.N.al a⟩;refine(wG S.zq _ 1 O Ã À).mono ?_;rintro e x⟨rfl,b,hk⟩;replace S:=S.rL (l':=Ai l) À b hk;have c:=S.C.i 0 O;have f:=S.C.dS 0;go_wp2;refine rC λv0 a=>?_;replace S:MS w v0 u m k tc op (Ai l)<|yG l 1:=S.H g a;refine(wG S.zq _ 2 O Ã À).mono ?_;rintro e x⟨rfl,b,hk⟩;replace S:=S.rL (l':=yJ l) À b hk;have c:=S.C.i 1 O;have f:=S.C.dS 1;go_wp2;refine rC λv1 a=>?_;replace S:MS w v1 u m k tc op (yJ l)<|yG l 2:=S.H g a;refine(wG S.zq _ 4 O Ã À).mono ?_;rintro e x⟨rfl,b,hk⟩;replace S:=S.rL (l':=Aj l) À b hk;have c:=S.C.i 2 O;have f:=S.C.dS 2;go_wp2;refine rC λv2 a=>?_;replace S:MS w v2 u m k tc op (Aj l)<|yG l 3:=S.H g a;refine(wG S.zq _ 2 O Ã À).mono ?_;rintro e x⟨rfl,b,hk⟩;replace S:=S.rL (l':=yK l) À b hk;have c:=S.C.i 3 O;have f:=S.C.dS 3;go_wp2;refine rC λv3 a=>?_;replace S:MS w v3 u m k tc op (yK l)<|yG l 4:=S.H g a;refine(wG S.zq _ 4 O Ã À).mono ?_;rintro e x⟨rfl,b,hk⟩;replace S:=S.rL (l':=Ak l) À b hk;have c:=S.C.i 4 O;have f:=S.C.dS 4;go_wp2;refine rC λv4 a=>?_;replace S:MS w v4 u m k tc op (Ak l)<|yG l 5:=S.H g a;refine(wG S.zq _ 2 O Ã À).mono ?_;rintro e x⟨rfl,b,hk⟩;replace S:=S.rL (l':=yL l) À b hk;have c:=S.C.i 5 O;have f:=S.C.dS 5;go_wp2;refine rC λv5 a=>?_;replace S:MS w v5 u m k tc op (yL l)<|yG l 6:=S.H g a;refine(wG S.zq _ 4 O Ã À).mono ?_;rintro e x⟨rfl,b,hk⟩;replace S:=S.rL (l':=Al l) À b hk;have c:=S.C.i 6 O;have f:=S.C.dS 6;go_wp2;refine rC λv6 a=>?_;replace S:MS w v6 u m k tc op (Al l)<|yG l 7:=S.H g a;refine(wH S.zq _ 32 O À).mono ?_;rintro e x⟨rfl,b,hk⟩;replace S:=S.rL (l':=xR l) À b hk;have c:=S.C.i 7 O;have f:=S.C.dS 7;go_wp2;refine rC λv7 a=>?_;replace S:MS w v7 u m k tc op (xR l)<|yG l 8:=S.H g a;refine(wH S.zq _ 32 O À).mono ?_;rintro e x⟨rfl,b,hk⟩;replace S:=S.rL (l':=Am l) À b hk;have c:=S.C.i 8 O;have f:=S.C.dS 8;have d:=S.C.i (v:=J _) 0 O;go_wp2;refine rC λq a=>?_;replace S:MS w q u m k tc op (Am l)<|yG l 9:=S.H g a;have n:H<|(Ym l).ep=qi ((xQ l).take 1):=O;have G9:=A.y S.N id;have hd:=HT.y S.N id;by_cases hx:qi ((xQ l).take 1)<=5;rotate_left;refine(Jw _ Á _ G9).mono ?_;rintro e B⟨rfl,rfl⟩;exact⟨O,S.N,ac ⟨O,λh=>hx<|by have:=h.S;rw[n.o]at this;omega⟩⟩;refine(Yt _ Á _).mono ?_;rintro e B⟨rfl,p⟩;obtain rfl:q=B:=p.symm;have I:=hx;let⟨z,bd⟩:=JP<|qi ((xQ l).take 1);have C:xh q u #[J<|(qi ((xQ l).take 1):Q),J<|(qi ((Ai l).take 2):Q),J<|(qi ((yJ l).take 4):Q),J<|(qi ((Aj l).take 2):Q),J<|(qi ((yK l).take 4):Q),J<|(qi ((Ak l).take 2):Q),J<|(qi ((yL l).take 4):Q),E<|(Al l).take 32,E<|(xR l).take 32] 164:=S.C;rw[bd]at C n I⊢;let⟨X,bl⟩:=JP<|Ji m z;let⟨G,bf⟩:=JP<|Y7 m z;have L:H<|Y7 m (Ym l).ep=G:=by show _=_;rw[n.o];exact bf
 have KY:∀i,iN i->aq 90 #[bY #[E m,J tc,E k,J op],J z] i (bY #[E X,E G]):=λi h=>by grind [FV]
 have g':∀i s,s=st (l.take 84)->iN i->aq 159 #[bY #[E X,E G],ak s] i (E<|Wu G<|l.take 84):=λi s hs hT=>by grind [LJ,Ek]
 have D:∀i,aP (V<|Z q) q i->N i (K (V<|Z w) 0)=E m/\N i (K (V<|Z w) 1)=J tc/\N i (K (V<|Z w) 2)=E k/\N i (K (V<|Z w) 3)=J op/\N i (K (V (Z w)+1+1) 0)=(E<|Am l)/\N i (K u 0)=J z:=λi h=>⟨(S.T.ac h).i 0 O,(S.T.ac h).i 1 O,(S.T.ac h).i 2 O,(S.T.ac h).i 3 O,(S.zq.ac h).i 0 O,(C.ac h).i 0 O⟩;have S0:=D q<|zt _ _;have bj:(84:U)<=(T l:Q):=À
 go_wp2;go_region_held2 (λr=>N r (K (V<|Z w) 0)=E m/\N r (K (V<|Z w) 1)=J tc/\N r (K (V<|Z w) 2)=E k/\N r (K (V<|Z w) 3)=J op/\N r (K (V (Z w)+1+1) 0)=(E<|Am l)/\N r (K u 0)=J z) (first|exact S0|exact S1)
  (first
   |(go_at_call 90;refine(KY _ hd.W).mono ?_;rintro e y1⟨rfl,b⟩;have Y1:aP (V<|Z q) q y1:=(zt _ _).drew.trans b;have S1:=D _ Y1;have TY:iN y1:=hd.ac hd.iE Y1)
   |(go_at_call 159;refine(g' _ _ (vD l 84) TY).mono ?_;rintro e W⟨rfl,b⟩;have P:aP (V<|Z q) q W:=Xs Y1 b;have S1:=D _ P;have GY:ip tv W:=G9.J P)
   |(go_at_call 152;refine(Eh _ _ GY).mono ?_;rintro e y3⟨bg,be⟩;obtain rfl:W=y3:=bg.symm;obtain⟨rfl,HQ⟩|⟨rfl,HQ⟩:=be;rotate_left;(exact⟨O,(S.N.aE<|zj.J P),ac ⟨O,λh=>by have h1:=h.dX;rw[L.o]at h1;have h2:=HQ.o;grind⟩⟩)))
 have bc:H<|Am l=Wu G (l.take 84):=by have:=HQ.o;rw[zQ,xl,xl]at this;exact this
 have t:=C.ac P;have j:=S.Z'.ac P;have NF:=S.N.aE<|zj.J P;have a0:=t.i (v:=J _) 0 O;have r0:=j.i 0 O;have z0:=j.dS 0;have a1:=t.i (v:=J _) 1 O;have r1:=j.i 1 O;have z1:=j.dS 1;have a2:=t.i (v:=J _) 2 O;have r2:=j.i 2 O;have z2:=j.dS 2;have a3:=t.i (v:=J _) 3 O;have r3:=j.i 3 O;have z3:=j.dS 3;have a4:=t.i (v:=J _) 4 O;have r4:=j.i 4 O;have z4:=j.dS 4;have a5:=t.i (v:=J _) 5 O;have r5:=j.i 5 O;have z5:=j.dS 5;have a6:=t.i (v:=J _) 6 O;have r6:=j.i 6 O;have z6:=j.dS 6;have a7:=t.i (v:=ak _) 7 O;have r7:=j.i 7 O;have z7:=j.dS 7;have a8:=t.i (v:=ak _) 8 O;have r8:=j.i 8 O;have z8:=j.dS 8;have bk:¬u=V (Z w)+1:=À
 have bi:¬V (Z w)+1=u:=À
 try clear S1
 try clear hHeld
 go_wp2;by_cases ho:((qi ((yJ l).take 4):Q):U)<=tc;rotate_left;refine(Jw _ Á _ GY).mono ?_;rintro e B⟨rfl,rfl⟩;exact⟨O,NF,ac ⟨O,λh=>ho h.bF⟩⟩;refine(Yt _ Á _).mono ?_;rintro e B⟨rfl,p⟩;obtain rfl:W=B:=p.symm;have bb:vL m tc l:=⟨cs,ba,by rw[n.o];omega,by rw[L.o];exact bc.o,ho⟩;go_wp2;refine WT λv a=>?_;have y:=a▸xh.Qm j;have NV:zj (·=V (Z w)+1) W v:=by
  subst a;iterate 9 refine zj.aE ?_<|zj.H _ (K (V (Z w)+1) _) _
  exact zj.refl _ _
 have s0:=y.i (v:=J _) 0 O;have s1:=y.i (v:=J _) 1 O;have s2:=y.i (v:=J _) 2 O;have s3:=y.i (v:=J _) 3 O;have s4:=y.i (v:=J _) 4 O;have s5:=y.i (v:=J _) 5 O;have s6:=y.i (v:=J _) 6 O;have s7:=y.i (v:=ak _) 7 O;have s8:=y.i (v:=ak _) 8 O;refine ji (v:=bY #[J z,J<|(qi ((Ai l).take 2):Q),J<|(qi ((yJ l).take 4):Q),J<|(qi ((Aj l).take 2):Q),J<|(qi ((yK l).take 4):Q),J<|(qi ((Ak l).take 2):Q),J<|(qi ((yL l).take 4):Q),E<|(Al l).take 32,E<|(xR l).take 32]) (by simp[eR,Tryz.results135,go_sem,s0,s1,s2,s3,s4,s5,s6,s7,s8]) O ⟨NF.cZ À NV,aJ ⟨?_,bb⟩⟩;unfold Mf.V Mf.G;rw[n.o];rfl
def Sr.kG(r:Sr)(n:Q):Q:=if jp r.d.L 0=[]then n+116 else n
def uZ(B r x)(hx:T x<=1000000)(w)(h:Vq w B r):aG 88 #[zq B,E x] w (J<|r.kG (T x)):=by
 have j:=xe h;have m:N w (K B 2)=zq r.D:=h.bT.i 2 O;clear h;go_enter func88.1,Tryz.ntmps88;go_wp2;refine(Ei r.D r.d 0 _ j.o.fA).mono ?_;rintro e w1⟨rfl,g⟩;obtain rfl:=g.symm;let⟨c,b⟩:=JP<|jp r.d.L 0;have i:H<|r.kG (T x)=if c=[]then T x+116 else T x:=by show _=_;unfold Sr.kG;rw[b]
 rw[b];clear b;cases c with
 |nil=>have k:=xl [];go_wp2;go_ret;exact⟨by rw[i.o];simp,O⟩
 |cons a f=>
  have k:¬(st (a::f)).toList=[]:=by rw[xl];simp
  have l:(st (a::f)).toList.isEmpty=ao:=zab
  go_wp2;go_ret;exact⟨by rw[i.o];rfl,O⟩
def nr(m:Mf):bA U->Dk->ez×Dk
 |[],d=>(M,d)|n::y,d=>if n=0\/n=(m.cW:U)then nr m y d else if d.cS=M then(ao,d.eS)else nr m y (d.qR n)
def kQ(m:Mf)(y:Zl)(d:Dk):ez×Dk:=if d.cS=M then(ao,d.eS)else nr m (Zk (d.nC 0 y).L) (d.nC 0 y)
def Sr.mM(r:Sr)(m:Mf)(P y:Zl):ez×Dk:=
 if P=[]then kQ m y r.d
 else if r.d.cS=M then(ao,r.d.eS)
 else if(r.d.gt m.cW P).cS=M then(ao,(r.d.gt m.cW P).eS)
 else kQ m y ((r.d.gt m.cW P).uC m.cW)
def sN(cv:Zv)(B:Q)(r:Sr)(x:ez×Dk)(w:Zy)(e:kH)(w':Zy):Prop:=
 e=(if x.1=M then ai (cE #[])else kn cv)/\Zd B r w {r with d:=x.2} w'
structure DJ(cv:Zv)(B:Q)(r:Sr)(m:Mf)(W:Zy)(d:Dk)(w:Zy):Prop where
 t:zj (r.d.cN r.D) W w
 a:Jt w r.D d
 k:jW r.D d
 o:∀y,d.cN r.D y->r.d.cN r.D y
 ay:d.ay=r.d.ay
 b:xh w B r.G 94
 x:xh w (V<|Z W) m.G 164
 g:xP cv w
 nB:¬r.d.cN r.D B
 n0:¬r.d.cN r.D 0
 lt:∀y,r.d.cN r.D y->y<V (Z W)
section
variable{i:eJ}{m:Mf}{h w w':dN}{d D:Dk}{o:Xv}{e:kH}
def DJ.y(j:DJ i B r m h d w)(a:zj (r.d.cN r.D) w w')(c:Jt w' r.D D)(k:jW r.D D)(o:∀y,D.cN r.D y->r.d.cN r.D y)(u:D.ay=r.d.ay):DJ i B r m h D w':=⟨j.t.aE a,c,k,o,u,j.b.y a j.nB,j.x.y a λx=>DN _<|j.lt _ x,j.g.y a j.n0,j.nB,j.n0,j.lt⟩
def DJ.nw(j:DJ i B r m h d w)(b:Nw w w'):DJ i B r m h d w':=j.y (b.U λ_=>eT) (j.a.y b λ_ _=>id) j.k j.o j.ay
def DJ.step(j:DJ i B r m h d w)(f:rU o)(p:vF i r.D d o w e w'):(e=ai (cE #[])/\d.cS=ao/\DJ i B r m h {d.dZ with L:=o} w')\/(e=kn i/\d.cS=M/\zj (r.d.cN r.D) h w'/\Jt w' r.D d.eS/\d.eS.ay=r.d.ay/\∀y,d.eS.cN r.D y->r.d.cN r.D y):=by obtain⟨c,⟨rfl,u,a⟩|⟨rfl,u,a⟩⟩:=p;exact aJ ⟨O,a.o,j.y (c.U j.o) u (j.k.step a.o f) (λy b=>j.o y<|(Dk.kO d r.D y).1 b)<|(Dk.nU d).trans j.ay⟩;exact ac ⟨O,a.o,j.t.aE<|c.U j.o,u,(Dk.uU _).trans j.ay,λy b=>j.o y<|Dk.mL _ _ _ b⟩
def ue(L n f):T (Vm L n f)<=T L+1:=by unfold Vm;split;grind [PT];exact(YJ _ _ _).1
end
def uX(B r m pt sl w)(h:Vq w B r)(hx:pH B r)(hG:nD cv tv w)(bv:T r.d.L+2<1000000)(b0:T sl<=1000000)(bz:T (jp r.d.L m.cW)+T pt<=1000000)(bx:m.cW<=1000000):
  aK prog 95 #[zq B,m.V,E pt,E sl] w (sN cv B r (r.mM m pt sl) w):=by
 have d:H<|DJ cv B r m w r.d<|aF w<|au m.G 164:=⟨zj.E _,h.fA.y (zj.E _) λ_ _=>id,hx.F0,λ_=>id,O,h.bT.E _,xh.ex _ _ _,hG.Il.y (S:=r.d.cN r.D) (zj.E _) hx.F0.sI,h.kP,hx.F0.sI,λ_=>Dk.fg h.fA⟩;have HT:H<|∀u f,r.mM m pt sl=(M,f)->DJ cv B r m w f u->sN cv B r (r.mM m pt sl) w (ai<|cE #[]) u:=λu f h1 j=>by rw[h1];exact⟨O,Zd.fA h j.t j.a j.ay j.o⟩
 have HF:H<|∀u f,r.mM m pt sl=(ao,f)->zj (r.d.cN r.D) w u->Jt u r.D f->f.ay=r.d.ay->(∀y,f.cN r.D y->r.d.cN r.D y)->sN cv B r (r.mM m pt sl) w (kn cv) u:=λu f h1 h2 h3 h4 h5=>by rw[h1];exact⟨O,Zd.fA h h2 h3 h4 h5⟩
 have s:H<|∀{w1 f},DJ cv B r m w f w1->N w1 (K B 2)=zq r.D/\N w1 (K (V<|Z w) 5)=J m.cW:=λj=>⟨j.b.i 2 O,j.x.i 5 O⟩;clear h hx hG;unfold Mf.V;unfold Mf.G at d⊢;go_enter func95.1,Tryz.ntmps95;by_cases D:pt=[];focus
  subst D;have hn:(st ([]:Zl)).toList=[]:=xl [];have HS:H<|r.mM m [] sl=kQ m sl r.d:=by show _=_;unfold Sr.mM;rw[aT O]
  have XF:H<|T r.d.L<1000000:=by show _<_;omega
  go_upto_region 4 with fail
  generalize aF w (au _ 164)=wX at*;let⟨l,bb⟩:=JP r.d;have o:H<|DJ cv B r m w l wX:=bb▸d.o;rw[bb]at HS XF;clear bb d
 rotate_left;focus
  have hn:¬(st pt).toList=[]:=by rw[xl];exact D
  have bo:(st pt).toList.isEmpty=ao:=by rw[xl];cases pt;exact dC O D;rfl
  have cs:H<|r.mM m pt sl=if r.d.cS=M then(ao,r.d.eS)else if(r.d.gt m.cW pt).cS=M then(ao,(r.d.gt m.cW pt).eS)else kQ m sl ((r.d.gt m.cW pt).uC m.cW):=by show _=_;unfold Sr.mM;rw[aL D]
  clear D;go_upto_region 2 with fail
  generalize aF w (au _ 164)=wA at*;have I:=xe<|d.o.nw (zj.refl _ wA).W;have S0:=s.o d.o;have G:H<|rU<|Vm r.d.L m.cW (jp r.d.L m.cW++pt,(Zm r.d.L m.cW).2):=d.o.k.fW.np ï (by have h1:=d.o.k.fW.fU.mJ m.cW;have h5:T (Zm r.d.L m.cW).1=T (jp r.d.L m.cW):=O;simp only[zx];omega) À
  have F1:=ue r.d.L m.cW (jp r.d.L m.cW++pt,(Zm r.d.L m.cW).2);go_region_held2 (λu=>N u (K B 2)=zq r.D/\N u (K (V<|Z w) 5)=J m.cW) (first|exact S0|exact S1)
   ((go_at_call 153;refine(YF r.D r.d m.cW pt À _ I.o.a I.o.k I.o.g).mono ?_;intro e y1 F;obtain⟨rfl,c,C⟩|⟨rfl,c,x1,x2,x3,x4⟩:=I.o.step G.o F;rotate_left;(exact⟨O,HF.o _ _ (by rw[cs.o,aT c]) x1 x2 x3 x4⟩);have v:=xe C;have S1:=s.o C;have A:=xe c;clear F c C))
  have g':H<|r.mM m pt sl=if(r.d.gt m.cW pt).cS=M then(ao,(r.d.gt m.cW pt).eS)else kQ m sl ((r.d.gt m.cW pt).uC m.cW):=by show _=_;rw[cs.o,aL<|by rw[A.o];decide]
  replace v:H<|DJ cv B r m w (r.d.gt m.cW pt) _:=v.o;replace F1:T (r.d.gt m.cW pt).L<=_:=F1;clear S0 S1 G cs A I d hn bo;try clear hHeld
  generalize r.d.gt m.cW pt=f at*;go_wp2;have I:=xe<|v.o.nw (zj.refl _ y1).W;have S0:=s.o v.o;have G:H<|rU<|Vm f.L m.cW (jp f.L m.cW,T (jp f.L m.cW)):=v.o.k.fW.np ï (by have:T (jp f.L m.cW)<=1000000:=(v.o.k.fW.fU.mJ m.cW).2.2;grind) À;have F2:=ue f.L m.cW (jp f.L m.cW,T (jp f.L m.cW));go_region_held2 (λu=>N u (K B 2)=zq r.D/\N u (K (V<|Z w) 5)=J m.cW) (first|exact S0|exact S1)
   ((go_at_call 154;refine(YH r.D f m.cW _ I.o.a I.o.k I.o.g).mono ?_;intro e wX F;obtain⟨rfl,c,C⟩|⟨rfl,c,x1,x2,x3,x4⟩:=I.o.step G.o F;rotate_left;(exact⟨O,HF.o _ _ (by rw[g'.o,aT c]) x1 x2 x3 x4⟩);have o:=xe C;have S1:=s.o C;have A:=xe c;clear F c C))
  have HS:H<|r.mM m pt sl=kQ m sl (f.uC m.cW):=by show _=_;rw[g'.o,aL<|by rw[A.o];decide]
  replace o:H<|DJ cv B r m w (f.uC m.cW) wX:=o.o;have XF:H<|T (f.uC m.cW).L<1000000:=by show(Vm _ _ _).length<_;omega
  clear S0 S1 G g' A I v F1 F2;try clear hHeld
  generalize f.uC m.cW=l at*;go_upto_region 4 with fail
 all_goals
  obtain⟨e2,-⟩:=s.o o.o;go_wp2;refine(uS r.D l 0 sl _ o.o.a o.o.k o.o.g).mono ?_;intro e y0 F;rcases o.o.step (o.o.k.fW.np ï Á XF.o) F with⟨rfl,c,C⟩|⟨rfl,c,x1,x2,x3,x4⟩;rotate_left;exact⟨O,HF.o _ _ (by rw[HS.o];unfold kQ;rw[aT c]) x1 x2 x3 x4⟩;have v:H<|DJ cv B r m w (l.nC 0 sl) y0:=C;have ba:=xe<|HS.o.trans (show kQ m sl l=nr m (Zk (l.nC 0 sl).L) (l.nC 0 sl) by unfold kQ;rw[aL<|by rw[c];decide]);obtain⟨g2,-⟩:=s.o C;clear F c C e2 HS XF o;generalize l.nC 0 sl=l at*;go_wp2;refine(LN r.D l y0 v.o.a v.o.k.fW).mono ?_;rintro e w1⟨p,g,bu,rfl,D,hg,W,bf⟩;have HP:H<|Zk l.L≠[]->p=Y ⟨g,0,R⟩:=D;have HR:H<|If w1 g<|Zk l.L:=W;have bl:H<|¬r.d.cN r.D g:=λx=>by have:=v.o.lt _ x;have:=v.o.t.aD;omega
  have be:H<|T (Zk l.L)<=1000000:=by show _<=_;rw[LP];exact v.o.k.fW.bF
  have J3:=xe<|v.o.nw<|zj.J bf;clear D W bf g2 v;let⟨q,bk⟩:=JP<|Zk l.L;rw[bk]at HP HR be ba⊢;clear bk;go_wp2;go_loopw [39] (λi wr=>∃(j:Q) (f:Dk),j<=T q/\i=J j/\zj (r.d.cN r.D) w1 wr/\DJ cv B r m w f wr/\nr m (q.drop j) f=nr m q l) (λi _=>bL (T q-bZ i));exact⟨0,l,À,O,zj.refl _ _,J3.o,O⟩;obtain⟨j,f,hj,rfl,bg,j4,bi⟩:=hrel;have bw:=be.o;have X:=xe bg;have P:=xe j4;have ho:=xe bi;obtain⟨c2,c5⟩:=s.o j4;clear bg bi j4;by_cases bh:j<T q
  ·have i1:(j:U)<(T q:Q):=À;have i0:(0:U)<=(j:U):=À
   have bp:=HP.o (λe=>Á);subst bp;have hc:=(HR.o.y X.o bl.o) j bh;have bd:H (q.drop j=q[j]::q.drop (j+1)):=Zx bh;generalize q[j]=n at*;by_cases z:n=0\/n=(m.cW:U)
   ·have HN:H<|nr m (q.drop<|j+1) f=nr m q l:=by show _=_;rw[<-ho.o,bd.o];simp only[nr,aT z]
    by_cases hd:n=0
    case' pos=>subst hd
    case' neg=>obtain rfl:=z.resolve_left hd
    all_goals
     clear z;go_wp2;go_roundw;exact⟨j+1,f,À,Å,X.o,P.o,HN.o⟩;exact Ì
   have HN:H<|nr m (q.drop j) f=if f.cS=M then(ao,f.eS)else nr m (q.drop<|j+1) (f.qR n):=by show _=_;rw[bd.o];simp only[nr,aL z]
   have hd:¬n=0:=λe=>z<|aJ e;have bj:¬n=(m.cW:U):=λe=>z<|ac e;have br:bR (n=0)=ao:=by simpa using hd
   have bt:bR (n=(m.cW:U))=ao:=by simpa using bj
   have bs:(n != (m.cW:U))=M:=by simpa using bj
   have bq:(n != 0)=M:=by simpa using hd
   clear z;go_wp2;refine(PR r.D f n _ P.o.a P.o.k P.o.g).mono ?_;intro e w3 F;obtain⟨rfl,c,C⟩|⟨rfl,c,x1,x2,x3,x4⟩:=P.o.step (P.o.k.fW.del n) F;rotate_left;exact⟨O,HF.o _ _ (by rw[ba.o,<-ho.o,HN.o,aT c]) x1 x2 x3 x4⟩;have bc:=xe<|X.o.aE<|F.1.U P.o.o;have J5:=xe C;have bm:H<|nr m (q.drop<|j+1) (f.qR n)=nr m q l:=by show _=_;rw[<-ho.o,HN.o,aL<|by rw[c];decide]
   clear F c C;go_wp2;go_roundw;exact⟨j+1,f.qR n,À,Å,bc.o,J5.o,bm.o⟩;exact Ì
  have bn:j=T q:=À
  subst bn;go_wp2;go_end0;exact HT.o _ _ (ba.o.trans<|ho.o.symm.trans<|by rw[Vl];rfl) P.o
def Mf.lc(m:Mf):Zl:=77::(nb m.ep 1++(nb m.op 2++(nb m.bF 4++(nb m.bC 2++(nb m.bM 4++(nb m.cW 2++(nb m.gT 4++(m.ga++m.aQ))))))))
def Mf.dW(m:Mf)(y:Zl):Zl:=m.lc++Wu y m.lc
def uY(m:Mf)(f c)(q:T c<=4096)(D:T m.ga=32)(B:T m.aQ=32)(w)(z:iN w):
  aq 97 #[m.V,bY #[E f,E c]] w (E<|m.dW c):=by
 have r:=z;have l1:=Z2 m.ep 1;have u:=Z2 m.op 2;have F:=Z2 m.bF 4;have G:=Z2 m.bC 2;have l5:=Z2 m.bM 4;have X:=Z2 m.cW 2;have I:=Z2 m.gT 4;have v:H<|(⟨#[77]⟩:eM)++st (nb m.ep 1)++st (nb m.op 2)++st (nb m.bF 4)++st (nb m.bC 2)++st (nb m.bM 4)++st (nb m.cW 2)++st (nb m.gT 4)++st m.ga++st m.aQ=st m.lc:=by show _=_;rw[show(⟨#[77]⟩:eM)=st [77]from O];simp only[zg];simp[Mf.lc]
 have W0:aP (V<|Z w) w<|aF (aF w<|au m.G 164)<|au #[E f,E c] 145:=((zt _ _).alloc (zd _) _).alloc Â _;have t:xh (aF (aF w<|au m.G 164)<|au #[E f,E c] 145) (V<|Z w) m.G 164:=(xh.ex _ _ _).E _;have BK:xh (aF (aF w<|au m.G 164)<|au #[E f,E c] 145) (V (Z w)+1) #[E f,E c] 145:=by have:=xh.ex (aF w<|au m.G 164) #[E f,E c] 145;simp only[xp]at this;exact this
 unfold Mf.V;unfold Mf.G at*;go_enter func97.1,Tryz.ntmps97;go_wp2;generalize(aF w<|au _ 164).alloc (au #[E f,E c] 145)=W at*;have d:∀w1,aP (V<|Z W) W w1->MC (V<|Z w) m m.ga w1:=λw1 h=>by have b:=t.ac h;exact b.mc
 have x:=d W<|zt _ _;have a:aP (V<|Z W) W W.drew:=(zt _ _).drew;go_region_held3 (λw'=>MC (V<|Z w) m m.ga w') (first|exact x|exact l)
  (first
   |(go_at_call 148;refine(Hz _ _).mono ?_;rintro e w1⟨rfl,i⟩;replace a:=Xs a i;have l:=d _ a)
   |(go_at_call 157;refine(Lx _ _).mono ?_;rintro e w1⟨rfl,i⟩;replace a:=Xs a i;have l:=d _ a)
   |(go_at_call 158;refine(WI _ _).mono ?_;rintro e w1⟨rfl,i⟩;replace a:=Xs a i;have l:=d _ a))
 have p:T m.lc=84:=by simp[Mf.lc,l1,u,F,G,l5,X,I,D,B]
 rw[v.o];have g:=BK.ac a;have s:=W0.trans<|a.mono W0.size;have T1:=r.ac r.iE s;have e0:=g.i 0 O;have P:=g.i 1 O;let⟨n,k⟩:=JP m.lc;have o:=k;rw[k]at p⊢;clear l;try clear hHeld
 go_wp2;refine(LJ f c n q À _ T1).mono ?_;rintro e A⟨rfl,j⟩;have C:=uP c n;have y:=Xs s j;clear j;go_wp2;go_ret;exact⟨by unfold Mf.dW;rw[o];rfl,y⟩
end
end P
namespace A
variable{a:mh}{z:eX}{aD:Exit->mh->Zy->Prop}{Ϸ:Q}{w:Zy}{l:bA eX}
open Go
section
variable{P:cI}{ops:bE eX}{md:kJ}{C:dN->Prop}
def qT(P:Zp)(md:kJ)(ops:bE eX)(C:Zy->Prop)(z:Q)(aD:mh->Prop):Q->bE ez->mh->Prop
 |0,listed,a=>aY md ops listed=[z]/\aY md ops (aA listed z M)=[]/\aD a|F+1,listed,a=>aY md ops listed≠[]/\z∉aY md ops listed/\∀i∈aY md ops listed,qOp P ops C i (qT P md ops C z aD F<|aA listed i M) a
def nF{z aD d}(g:∀a w,C w->aD a->wpOp P ops d z (λA W=>d eE A W) a w):∀(F:Q) (L:bE ez) (a:mh) (w:Zy),C w->
  qT P md ops C z aD F L a->wpAny P md ops d (F+1) L a w
 |0,L,a,w,y,h=>by
  refine⟨λc=>(by rw[h.1]at c;cases c),λi b=>?_⟩;rw[h.1]at b;simp only[ju]at b;subst b;exact wpOp_mono (λA W e=>⟨h.2.1,e⟩)<|g a w y h.2.2
 |F+1,L,a,w,y,h=>⟨λc=>dC c h.1,λi b=>wpOp_of_qOp y (λA W f e=>nF g F _ A W f e)<|h.2.2 i b⟩
def Bj(md:kJ)(ops:bE eX)(L:bE ez):Prop:=∀(j:Q) (o:eX),ops[j]?=Y o->L.getD j ao=M->∀e∈o.after,fY md e=M->L.getD e.on ao=M
theorem Bj.H{a}(h:Bj md ops a){i}(l:i∈aY md ops a):Bj md ops<|aA a i M:=λj k f g e d c=>by by_cases b:j=i;grind [mem_ready,getD_set_true];refine getD_set_true<|h j k f ?_ e d c;rwa[getD_set_ne ao<|Ne.symm b]at g
theorem Bj.lz(n):Bj md ops<|Array.replicate n ao:=λj c b a=>by simp only[Jj,Array.getElem?_replicate]at a;grind
def CW(md:kJ)(ops:bE eX)(x:eX)(i:Q):Prop:=∃e∈x.after,fY md e=M/\(e.on=i\/∃o,ops[e.on]?=Y o/\∃y∈o.after,fY md y=M/\y.on=i)
def sK{z w' aD i q v}(X:ops[z]?=Y w')(I:CW md ops w' i)(A:ops[i]?=Y q)(m:∀(j:Q) (o:eX) cs b,ops[j]?=Y o->o.op≠ .select cs b):
  ∀(fuel:Q) (listed:bE ez) (a:mh),Bj md ops listed->
   (∀j oj,ops[j]?=Y oj->j≠i->listed.getD j M=ao->(∀e∈oj.after,fY md e=M->e.on≠i)->q.apart ops oj=M)->
   i∈aY md ops listed->YieldsIn P ops C q v a->
   qT P md ops C z aD fuel (aA listed i M) (a.put q.dst v)->qT P md ops C z aD (fuel+1) listed a:=by
 intro fuel;have wr:∀(listed:bE ez),i∈aY md ops listed->¬listed.getD i ao=M:=λlisted p x=>by grind [mem_ready]
 have g:∀(listed:bE ez),Bj md ops listed->i∈aY md ops listed->z∉aY md ops listed:=λlisted n p h2=>by let⟨e,hd,L,t⟩:=I;let⟨_,oz',hoz',hall⟩:=mem_ready.1 h2;rw[X]at hoz';cases hoz';have x:=hall e hd L;obtain t|⟨oj,f,S,D,B,g'⟩:=t;grind;have h1:=n _ oj f x S D B;grind
 induction fuel with
 |zero=>intro listed a n _ p y u;refine⟨λh=>Á,g listed n p,λj r=>?_⟩;by_cases c:j=i;subst c;exact y.qOp A u;have:=ready_mono r c;rw[u.1]at this;grind
 |succ fuel ih=>
  intro listed a n d p y u;refine⟨λh=>Á,g listed n p,λj r=>?_⟩;by_cases c:j=i;subst c;exact y.qOp A u;have x:=u.2.2 j<|ready_mono r c;let⟨hjun,oj,f,hall⟩:=mem_ready.1 r;have s:∀e∈oj.after,fY md e=M->e.on≠i:=λe hd L v'=>Á
  have h1:=qOp_put f (d j oj f c hjun s) (λcs b=>m i q cs b A) (λcs b=>m j oj cs b f) y x;have l:∀k w,ops[k]?=Y w->k≠i->(aA listed j M).getD k M=ao->
    (∀e∈w.after,fY md e=M->e.on≠i)->q.apart ops w=M:=λk w hk F W G=>by
   refine d k w hk F ?_ G;by_cases es:j=k;grind;simp_all
  refine qOp_mono (λhx ho=>ih _ hx (n.H r) l (ready_mono p<|Ne.symm c) ho.1 ?_) h1;grind [Array.setIfInBounds_comm]
def uc(md:kJ)(ops:bE eX)(z:Q)(o:eX):Q->Q->bE ez->ez
 |0,_,listed=>(aY md ops listed==[z])&&(aY md ops<|aA listed z M).isEmpty
 |F+1,k,listed=>(aY md ops listed).contains k&&Region.free md ops listed k&&(o.after.any λe=>fY md e&&(e.on==k||(match ops[e.on]?with|some x=>x.after.any (λy=>fY md y&&y.on==k)|none=>ao)))&&uc md ops z o F (k+1) (aA listed k M)
def oS:bA eX->bA eX
 |[]=>[]|[_]=>[]
 |x::y::l=>x::oS (y::l)
def qS:∀(l:bA eX) (o:eX),oS (l++[o])=l
 |[],o=>rfl|[x],o=>O
 |x::y::l,o=>by show x::oS (y::l++[o])=_;rw[qS (y::l) o]
def Em(ops:bE eX):ez:=match ops.back? with
 |none=>ao|some o=>Region.noSelect ops&&uc gH ops (V ops-1) o (V ops-1) 0 (cL (V ops) ao)
theorem qU{z f}(i:ops[z]?=Y f){aD}(g:Region.noSelect ops=M):∀(l:bA eX) (k:Q) (L:bE ez) (a:mh),Bj md ops L->(∀j,j<T l->l[j]?=ops[k+j]?)->
  uc md ops z f (T l) k L=M->wpQuiet P ops C aD l a->qT P md ops C z aD (T l) L a
 |[],_,_,_,_,_,y,h=>by simp only[qy,uc,jy,zQ,List.isEmpty_iff]at y;exact⟨y.1,y.2,h⟩
 |o::l,k,L,a,t,p,y,h=>by
  have b:ops[k]?=Y o:=by simpa using(p 0 Â).symm
  simp only[xg,uc,jy]at y;let⟨⟨⟨D,s⟩,u⟩,x⟩:=y;have c:qOp P ops C k (wpQuiet P ops C aD l) a:=by unfold qOp;simp[b];exact h
  let⟨v,r,W⟩:=yieldsIn_of_qOp b c;have d:CW md ops f k:=by rw[Array.any_eq_true']at u;let⟨e,S,q⟩:=u;simp only[jy,Bool.or_eq_true,zQ]at q;refine⟨e,S,q.1,q.2.imp id λm=>?_⟩;cases B:ops[e.on]?with|none=>grind|some X=>grind
  exact sK i d b (Region.noSelect_spec g) _ _ a t (Region.free_spec b s) Á r
   (qU i g l _ _ _ (t.H Á) (λj n=>by have:=p (j+1) Á;grind) x W)
def qV(g:P.follows nf=M)(d:ops=bH (l++[z]))(c:Em ops=M)(e:C {w with drawn:=w.drawn+1})(j:z.guard=R)
  (h:wpQuiet P ops C (λA=>∀W,C W->z.wp P A W (λa w=>aD eE a w) aD) l a):(fG Ϸ ops M).wp P aD a w:=by
 have f:ops.back?=Y z:=by rw[d];simp
 have b:V ops=T l+1:=by rw[d];simp
 unfold Em at c;rw[f]at c;apply wp_region_any g;rw[b];refine nF (z:=T l) (aD:=λA=>∀W,C W->z.wp P A W (λa w=>aD eE a w) aD) (C:=C) (λA W k i=>?_) (T l) _ a _ e ?_;grind [wpOp,bP];grind [qU,Bj.lz]
def nW(d:P.follows nf=M)(e:l.getLast?=Y z)(b:Em (bH l)=M)(c:z.guard=R)
  (h:wpQuiet P (bH l) (λW=>∃n,W=w.drewN n) (λA=>∀W,(∃n,W=w.drewN n)->z.wp P A W (λa w=>aD eE a w) aD) (oS l) a):(fG Ϸ (bH l) M).wp P aD a w:=by
 obtain⟨k,rfl⟩:∃k,l=k++[z]:=by grind [List.getLast?_eq_some_iff]
 rw[qS]at h;exact qV d O b ⟨1,O⟩ c h
end
end A
namespace P
variable{z B:Q}{r:Sr}{w w':Zy}{s:kE}
open A.Tryq Go.RowKit
section
attribute[local go_sem] zn zg
def vJ(r:Sr)(s:kE)(n:Q):Za:=#[aD bB (s.ep:U),aD bB (r.op:U),aD bB (r.bF:U),aD bB s.bC,aD bB s.aQ,aD bB (fE s.dB:U),aD bB (n:U),ak ⟨#[]⟩,ak<|st r.bQ]
def Bm(B r s)(n:Q)(w)(h:Vq w B r)(q:r.sn=Y s):aq 91 #[zq B,J n] w (bY<|vJ r s n):=by
 have k:=(h.fP s q).1;have I:N w (K B 7)=zq s.S:=(h.bT.i 7 O).trans (by simp[Sr.G,Sr.my,q]);have g:N w (K B 4)=J r.bF:=h.bT.i 4 O;have i:N w (K B 5)=E r.bQ:=h.bT.i 5 O;have j:N w (K B 6)=J r.op:=h.bT.i 6 O;have l:N w (K s.S 2)=J s.ep:=k.bT.i 2 O;have m:N w (K s.S 4)=J s.aQ:=k.bT.i 4 O;have o:N w (K s.S 5)=J s.dB:=k.bT.i 5 O;have p:N w (K s.S 6)=J s.bC:=k.bT.i 6 O;have d:=h.bT.lt;have b:=k.bT.lt;go_enter func91.1,Tryz.ntmps91;go_wp2;have WB:aP (V<|Z w) w<|aF w<|au #[J 0,J 0,J 0,J 0,J 0,J 0,J 0,ak ⟨#[]⟩,ak ⟨#[]⟩] 164:=(zt _ _).alloc (zd _) _;have a:xh (aF w<|au #[J 0,J 0,J 0,J 0,J 0,J 0,J 0,ak ⟨#[]⟩,ak ⟨#[]⟩] 164) (V<|Z w) #[J 0,J 0,J 0,J 0,J 0,J 0,J 0,ak ⟨#[]⟩,ak ⟨#[]⟩] 164:=xh.ex _ _ _;generalize aF w (au #[J 0,J 0,J 0,J 0,J 0,J 0,J 0,ak ⟨#[]⟩,ak ⟨#[]⟩] 164)=W at*;replace g:=(WB.cell d).trans g;replace i:=(WB.cell d).trans i;replace j:=(WB.cell d).trans j;replace l:=(WB.cell b).trans l;replace m:=(WB.cell b).trans m;replace o:=(WB.cell b).trans o;replace p:=(WB.cell b).trans p;refine A.nW Ä O Ä O ?_;simp only[A.oS];repeat (go_big_quiet_step ((go_at_call 149;refine qE<|yH _ _)))
 refine wpQuiet_nil ?_;intro w1 f;obtain⟨t,rfl⟩:=f;have v:N W (K (V<|Z w) 0)=Y ((J 0)):=a.i 0 O;have X:=a.dS 0;have x:N W (K (V<|Z w) 1)=Y ((J 0)):=a.i 1 O;have P:=a.dS 1;have y:N W (K (V<|Z w) 2)=Y ((J 0)):=a.i 2 O;have L:=a.dS 2;have z:N W (K (V<|Z w) 3)=Y ((J 0)):=a.i 3 O;have hd:=a.dS 3;have C:N W (K (V<|Z w) 4)=Y ((J 0)):=a.i 4 O;have h1:=a.dS 4;have D:N W (K (V<|Z w) 5)=Y ((J 0)):=a.i 5 O;have h2:=a.dS 5;have u:N W (K (V<|Z w) 6)=Y ((J 0)):=a.i 6 O;have hx:=a.dS 6;have F:N W (K (V<|Z w) 7)=Y ((ak ⟨#[]⟩)):=a.i 7 O;have ho:=a.dS 7;have G:N W (K (V<|Z w) 8)=Y ((ak ⟨#[]⟩)):=a.i 8 O;have wr:=a.dS 8;go_wp2;have c:aP (V<|Z w) w<|ay (ay (ay (ay (ay (ay (ay (ay (ay (W.drewN t) (K (V<|Z w) 0)<|J s.ep) (K (V<|Z w) 1)<|J r.op) (K (V<|Z w) 2)<|J r.bF) (K (V<|Z w) 3)<|J s.bC) (K (V<|Z w) 4)<|J s.aQ) (K (V<|Z w) 5)<|J<|fE s.dB) (K (V<|Z w) 6)<|J n) (K (V<|Z w) 7)<|ak ⟨#[]⟩) (K (V<|Z w) 8)<|E r.bQ:=by have S:aP (V<|Z w) w<|W.drewN t:=⟨WB.os,WB.tape,WB.output,WB.size,WB.block⟩;exact((((((((S.setCell (zd _) _).setCell (zd _) _).setCell (zd _) _).setCell (zd _) _).setCell (zd _) _).setCell (zd _) _).setCell (zd _) _).setCell (zd _) _).setCell (zd _) _
 refine ji (by simp[eR,Tryz.results91,go_sem,vJ,v,x,y,z,C,D,u,F,G]) O ⟨O,c⟩
theorem Qs:∀(X:bA Zl),Lib.join X []=X.flatten
 |[]=>rfl|[x]=>by simp[Lib.join]
 |x::y::X=>by have:=Qs (y::X);simp only[Lib.join,List.flatten_cons,qj]at*;simp[this]
def Ĉ(X:bA Zl)(v)(m:T X<=1000000)(f:T X.flatten<=140737488355328)(w)(h:w.ownsRow z 9 1 v (T X)<|X.map qY):
  aq 96 #[v,ak ⟨#[]⟩] w (E X.flatten):=by
 have b:(X.map st).map (·.data.toList)=X:=by simp[Wj,zc1,st]
 rcases QC (λ_=>O) h with⟨rfl,rfl⟩|⟨g,C,rfl,q,u,t⟩;exact(Any.strings_Join_none ub jP R 0 _ w).mono λe w'⟨a,c⟩=>⟨a,c▸zt _ _⟩;have d:g<V (Z w):=by let⟨p,a,_⟩:=t;exact(za.1 a).1
 have:=Any.strings_Join ub jP g 0 C _ ⟨#[]⟩ w (λj x i=>by rw[List.getElem?_map,zv]at i;obtain⟨y,l,rfl⟩:=i;obtain⟨k,rfl⟩:=Wb.1 l;rw[j7];exact t.i j k) d Á Á<|by grind [Qs]
 rw[b,jl]at this;refine this.mono λe w'⟨a,c⟩=>⟨a.trans ?_,c⟩;rw[Qs];rfl
def ą(X v)(b:T X<=256)(hx:∀x∈X,T x<=4095)(w)(c:iN w)(h:w.ownsRow z 9 1 v (T X)<|X.map qY):
  aq 57 #[v] w (cE #[E<|J9 X,J 0]):=by
 rcases QC (λ_=>O) h with⟨rfl,rfl⟩|⟨g,C,rfl,y,t,q⟩;grind [ĕ];by_cases a:X=[];grind [ĕ];exact xrt X (Z0.2 a) b hx g 0 C w c λj d=>by rw[j7];exact q.i j d
def CY(l):(∀y∈Ys l,T y<=64)/\T (Ys l)*64<=T l+63/\(Ys l).flatten=l:=by generalize x:T l=n;induction n using Nat.strongRecOn generalizing l with|_ n I=>by_cases h:l=[];subst h;simp[Qx];have a:=Z0.2 h;rw[Qu h];let⟨q,t,p⟩:=I (T (l.drop 64)) Á _ O;refine⟨λy b=>?_,?_,?_⟩;grind;grind;simp_all
def Qo{m a X k}(h:∀y∈X,T y<=k):∀y∈Y9 m a X,T y<=k:=by grind [Y9,A']
def Iv{k}:∀{X:bA Zl},(∀y∈X,T y<=k)->T X.flatten<=k*T X
 |[],_=>by simp|x::X,h=>by have b:=h x xu;have c:=Iv λy a=>h y<|jw _ a;grind [Nat.mul_add]
def Zd.cZ{b a W}(h:Zd B a W r w)(c:V (Z W)<=b)(ho:¬r.cN B b)(k:zj (·=b) w w'):Zd B a W r w':=
 ⟨zj.cZ h.y c k,h.dI.y k λx d e=>ho Á,h.cN⟩
def pH.bC(h:pH B r)(b:r.sn=Y s)(k:U):pH B {r with sn:=Y {s with bC:=k}} where
 m:=h.m
 bQ:=h.bQ
 bF:=h.bF
 op:=h.op
 bU:=h.bU
 fW:=h.fW
 Ip:=h.Ip
 nx:=h.nx
 cN:=λx a=>h.cN x (by obtain e|e|⟨t,e,a⟩:=a;exact aJ e;exact ac<|aJ e;cases e;exact ac<|ac ⟨s,b,a⟩)
 fP:=λt c=>by cases c;exact h.fP s b
def Ep{C f A x}(h:aK prog f A w<|sN C B r x w):
  aK prog f A w λe w'=>(e=ai (cE #[])/\x.1=M/\Zd B r w {r with d:=x.2} w')\/(e=kn C/\x.1=ao/\Zd B r w {r with d:=x.2} w'):=
 h.mono λe w'⟨a,b⟩=>Á
def uf(m:Mf)(c)(b:T m.ga=32)(a:T m.aQ=32):T (m.dW c)=116:=by simp[Mf.dW,Mf.lc,Z2,b,a,uP]
def wL{k}(b:r.sn=Y s){x}:({r with sn:=Y {s with bC:=k}}:Sr).cN B x↔r.cN B x:=by constructor;rintro(e|e|⟨t,e,a⟩);exact aJ e;exact ac<|aJ e;cases e;exact ac<|ac ⟨s,b,a⟩;rintro(e|e|⟨t,e,a⟩);exact aJ e;exact ac<|aJ e;rw[b]at e;cases e;exact ac<|ac ⟨_,O,a⟩
def uE(m:Mf)(L:Xv):dD Zl:=if 0<m.gT then(if m.gT<=16384 then(if m.cW=10001\/m.cW=10002 then Y (jp L m.cW)else R)else R)else Y []
def vK(m:Mf)(C b:Zl):dD KV:=if T b=m.gT then(if m.ga=J9 (Ys b)then Yo (Y9 m C<|Ys b).flatten else R)else R
def Y6(m:Mf)(L:Xv)(C:Zl):dD KV:=(uE m L).bind<|vK m C
def IA(t:Zv)(x:dD KV)(w:Zy)(e:kH)(w':Zy):Prop:=
 Nw w w'/\(match x with|some L=>∃m,e=ai (fu<|some m)/\V (Z w)<=m/\Je w' m L|none=>e=kn t)
def F8{t x}(h:x=R)(a:Nw w w'):IA t x w (kn t) w':=by subst h;exact⟨a,O⟩
def xbh{tv}(m D d a r)(bt:T a=16)(b1:m.gT<=100000000000)(w)(h:Jt w D d)(hG:ip tv w)(hT:iN w):
  aK prog 206 #[m.V,zq D,bY #[E a,E r]] w (IA tv (Y6 m d.L a) w):=by
 have HD:Jt w D d:=h;have HG:ip tv w:=hG;have HT:iN w:=hT;have bo:=xe bt;have bj:=hT.iE;have F:Nw w<|aF (aF w<|au m.G 164)<|au #[E a,E r] 145:=(zj.E _).aE<|zj.E _;have BM:xh (aF (aF w<|au m.G 164)<|au #[E a,E r] 145) (V<|Z w) m.G 164:=(xh.ex w _ 164).E _;have BK:xh (aF (aF w<|au m.G 164)<|au #[E a,E r] 145) (V (Z w)+1) #[E a,E r] 145:=by have:=xh.ex (aF w<|au m.G 164) #[E a,E r] 145;rw[xp]at this;exact this
 have s:H<|Y6 m d.L a=(uE m d.L).bind (vK m a):=O;unfold Mf.V;unfold Mf.G at*;go_enter func206.1,Tryz.ntmps206;have P:ip tv<|aF (aF w<|au #[J m.ep,J m.op,J m.bF,J m.bC,J m.bM,J m.cW,J m.gT,E m.ga,E m.aQ] 164)<|au #[E a,E r] 145:=HG.y F id;by_cases A:0<m.gT;rotate_left;focus
  have i0:¬(0:U)<(m.gT:U):=À
  have v:m.gT<=16384:=zbk
  have l:H<|uE m d.L=Y []:=by show _=_;unfold uE;rw[aL A]
  go_wp2;generalize(aF w<|au #[J m.ep,J m.op,J m.bF,J m.bC,J m.bM,J m.cW,J m.gT,E m.ga,E m.aQ] 164).alloc (au #[E a,E r] 145)=w1 at*;refine(Eh _ _ P).mono ?_;rintro e G⟨k,p⟩;obtain rfl:w1=G:=k.symm;obtain⟨rfl,o⟩|⟨rfl,o⟩:=p;rotate_left;exact⟨O,F8 zds F⟩;have C:T (([]:Zl))=m.gT:=zcn
  have t:=xe C;have hd:H<|Y6 m d.L a=if m.ga=J9 (Ys<|([]:Zl))then Yo (Y9 m a<|Ys<|([]:Zl)).flatten else R:=zc0
  have B:T (([]:Zl))<=16384:=by have:=v;omega
  go_wp2;refine(QE _ À _).mono ?_;rintro e f⟨X,rfl,g,c⟩;have N4:Nw w f:=F.aE c;have h1:xh f (V<|Z w) #[J m.ep,J m.op,J m.bF,J m.bC,J m.bM,J m.cW,J m.gT,E m.ga,E m.aQ] 164:=BM.y c id;have ba:xh f (V (Z w)+1) #[E a,E r] 145:=BK.y c id;have O4:f.ownsRow (V<|Z w1) 9 1 X (T (Ys<|([]:Zl)))<|(Ys<|([]:Zl)).map qY:=g;have G4:ip tv f:=P.y c id;have T4:iN f:=HT.y N4 id;have bk:=c.aD;obtain⟨z,hx,ho⟩:=CY<|([]:Zl);have n:(∀y∈Ys (([]:Zl)),T y<=64)/\T (Ys<|([]:Zl))<=256:=⟨z,À⟩;generalize Ys (([]:Zl))=ps at*;clear z hx ho g c t C B
 rotate_left;focus
  have i0:(0:U)<(m.gT:U):=À
  go_wp2;generalize(aF w<|au #[J m.ep,J m.op,J m.bF,J m.bC,J m.bM,J m.cW,J m.gT,E m.ga,E m.aQ] 164).alloc (au #[E a,E r] 145)=w1 at*;refine(Eh _ _ P).mono ?_;rintro e w2⟨bw,p⟩;obtain rfl:w1=w2:=bw.symm;obtain⟨rfl,o⟩|⟨rfl,o⟩:=p;rotate_left;exact⟨O,F8 (by rw[s.o];unfold uE;rw[aT A,aL zbb];rfl) F⟩;have u:m.gT<=16384:=by have:=o.o;simp at this;omega
  have v:m.gT<=16384:=u;have e6:=BM.i 6 O;have e5:=BM.i 5 O;have bc:Jt w1 D d:=HD.y F λ_ _=>id;by_cases h2:m.cW=10001;rotate_left;focus
   by_cases h3:m.cW=10002;rotate_left
   ·have j1:((m.cW:U)==10001)=ao:=by simp;omega
    have j2:((m.cW:U)==10002)=ao:=Ç
    have bn:H<|Y6 m d.L a=R:=by show _=_;rw[s.o];unfold uE;rw[aT A,aT u,aL À];rfl
    go_wp2;refine(WM _ P).mono ?_;rintro e G⟨rfl,k⟩;obtain rfl:=k;exact⟨O,F8 bn.o F⟩
   have l:H<|uE m d.L=Y (jp d.L m.cW):=by show _=_;unfold uE;rw[aT A,aT u,aT<|ac h3]
   have j1:(m.cW:U)=10002:=À
   rw[j1]at e5 l;go_wp2;refine(Pg _).mono ?_;rintro e G⟨rfl,k⟩;obtain rfl:w1=G:=k.symm;go_wp2;refine(Ei D d 10002 _ bc).mono ?_;rintro e f⟨rfl,W⟩;obtain rfl:w1=f:=W.symm;have bh:=e6;generalize jp d.L 10002=b at*
  rotate_left;focus
   have l:H<|uE m d.L=Y (jp d.L m.cW):=by show _=_;unfold uE;rw[aT A,aT u,aT<|aJ h2]
   have j1:(m.cW:U)=10001:=À
   rw[j1]at e5 l;go_wp2;refine(Pg _).mono ?_;rintro e G⟨rfl,k⟩;obtain rfl:w1=G:=k.symm;go_wp2;refine(Ei D d 10001 _ bc).mono ?_;rintro e f⟨rfl,W⟩;obtain rfl:w1=f:=W.symm;have bh:=e6;generalize jp d.L 10001=b at*
  all_goals
   go_wp2;refine(Eh _ _ P).mono ?_;rintro e G⟨k,p⟩;obtain rfl:w1=G:=k.symm;obtain⟨rfl,o⟩|⟨rfl,o⟩:=p;rotate_left;exact⟨O,F8 zds F⟩;have C:T (b)=m.gT:=zcn
   have t:H<|T (b)=m.gT:=C;have hd:H<|Y6 m d.L a=if m.ga=J9 (Ys<|b)then Yo (Y9 m a<|Ys<|b).flatten else R:=zc0
   have B:T (b)<=16384:=by have:=v;omega
   go_wp2;refine(QE (b) À _).mono ?_;rintro e f⟨X,rfl,g,c⟩;have N4:Nw w f:=F.aE c;have h1:xh f (V<|Z w) #[J m.ep,J m.op,J m.bF,J m.bC,J m.bM,J m.cW,J m.gT,E m.ga,E m.aQ] 164:=BM.y c id;have ba:xh f (V (Z w)+1) #[E a,E r] 145:=BK.y c id;have O4:f.ownsRow (V<|Z w1) 9 1 X (T (Ys<|b))<|(Ys<|b).map qY:=g;have G4:ip tv f:=P.y c id;have T4:iN f:=HT.y N4 id;have bk:V (Z w1)<=V (Z f):=c.aD;obtain⟨z,hx,ho⟩:=CY<|b;have n:(∀y∈Ys (b),T y<=64)/\T (Ys<|b)<=256:=⟨z,À⟩;generalize Ys (b)=ps at*;clear z hx ho g c t C B
 all_goals
  have be:∀w1,Nw f w1->N w1 (K (V<|Z w) 7)=E m.ga:=λw1 hh=>(h1.y hh id).i 7 O;have S0:=be f<|zj.refl _ _;have bq:f.drew.ownsRow (V<|Z w1) 9 1 X (T ps)<|ps.map qY:=O4;have br:iN f.drew:=T4;have NN:Nw f f.drew:=(zj.refl _ _).W;go_wp2;go_region_held2 (λw'=>N w' (K (V<|Z w) 7)=E m.ga) (first|exact S0|exact S1)
   (first
    |(go_at_call 57;refine(ą ps X n.2 (λy hy=>by have:=n.1 y hy;omega) _ br bq).mono ?_;rintro e i⟨rfl,bs⟩;have L:Nw f i:=NN.aE<|zj.J bs;have S1:=be _ L;have G5:ip tv i:=G4.y L id)
    |(go_at_call 94;refine(Id _ _).mono ?_;rintro e w6⟨rfl,bx⟩;obtain rfl:i=w6:=bx.symm)
    |(go_at_call 152;refine(Eh _ _ G5).mono ?_;rintro e w7⟨bz,p⟩;obtain rfl:i=w7:=bz.symm;obtain⟨rfl,o⟩|⟨rfl,o⟩:=p;rotate_left;(exact⟨O,F8 (by rw[hd.o,aL<|by have u:=o.o;grind])<|N4.aE L⟩);have bp:H<|m.ga=J9 ps:=by have u:=o.o;rw[zQ,xl,xl]at u;exact u))
  have bg:Nw w i:=N4.aE L;have j:xh i (V<|Z w) #[J m.ep,J m.op,J m.bF,J m.bC,J m.bM,J m.cW,J m.gT,E m.ga,E m.aQ] 164:=h1.y L id;have bb:xh i (V (Z w)+1) #[E a,E r] 145:=ba.y L id;have O5:i.ownsRow (V<|Z w1) 9 1 X (T ps)<|ps.map qY:=Ie O4 L λ_ _ x=>x;have z0:N i (K (V<|Z w) 0)=J m.ep:=j.i 0 O;have z1:N i (K (V<|Z w) 1)=J m.op:=j.i 1 O;have z2:N i (K (V<|Z w) 2)=J m.bF:=j.i 2 O;have z3:N i (K (V<|Z w) 3)=J m.bC:=j.i 3 O;have z4:N i (K (V<|Z w) 4)=J m.bM:=j.i 4 O;have z5:N i (K (V<|Z w) 5)=J m.cW:=j.i 5 O;have z6:N i (K (V<|Z w) 6)=J m.gT:=j.i 6 O;have z7:N i (K (V<|Z w) 7)=E m.ga:=j.i 7 O;have z8:N i (K (V<|Z w) 8)=E m.aQ:=j.i 8 O;have y0:N i (K (V (Z w)+1) 0)=E a:=bb.i 0 O;have y1:N i (K (V (Z w)+1) 1)=E r:=bb.i 1 O;have bd:H<|Y6 m d.L a=Yo (Y9 m a ps).flatten:=by show _=_;rw[hd.o,aT bp.o]
  have bl:2<V (Z i):=zm bj bg.aD;try clear j1
  try clear h3
  try clear h2
  try clear u
  try clear i0
  try clear A
  try clear e5
  try clear e6
  try clear bh
  try clear hHeld
  go_wp2;refine(Ă m ps X a r bo.o (λy hy=>by have:=n.1 y hy;omega) (by have:=n.2;omega) _<|ć O5).mono ?_;rintro e w8⟨v8,rfl,g',wr⟩;have O8:w8.ownsRow (V<|Z i) 9 1 v8 (T (Y9 m a ps))<|(Y9 m a ps).map qY:=by show World.ownsRow _ _ _ _ _ _ _;rw[Ah];exact g'
  have N8:Nw w w8:=bg.aE wr;have G8:ip tv w8:=G5.y wr id;have I:(∀y∈Y9 m a ps,T y<=64)/\T (Y9 m a ps)<=256:=⟨Qo n.1,by rw[Ah];exact n.2⟩;have b0:2<V (Z w8):=zm bl wr.aD;generalize Y9 m a ps=qs at*;go_wp2;refine(Ĉ qs v8 (by have:=I.2;omega) (by have:=Iv I.1;have:=I.2;omega) _ O8).mono ?_;rintro e w9⟨rfl,cs⟩;have N9:Nw w w9:=N8.aE<|zj.J cs;have G9:ip tv w9:=G8.y (S:=λ_=>False) (zj.J cs) id;have b2:2<V (Z w9):=zm b0 cs.size;go_wp2;refine(xep _ _ À G9).mono ?_;rintro e bm⟨bi,q⟩;have bf:Nw w bm:=N9.aE bi;cases hq:Yo qs.flatten with
  |none=>rw[hq]at q;subst q;exact⟨O,F8 (by rw[bd.o,hq]) bf⟩
  |some v'=>
   rw[hq]at q;obtain⟨mm,rfl,bu,bv⟩:=q;have HF:IA tv (Y6 m d.L a) w (ai<|fu<|some mm) bm:=by show IA _ _ _ _ _;rw[bd.o,hq];exact⟨bf,mm,O,xa N9.aD bu,bv⟩
   go_wp2;go_ret;exact HF
end
end P
namespace P
variable{tv v:Zv}{F y ſ B:Xv}{n p b C g:Q}{k:U}{x:Zl}{L:KV}{a w w' w1:Zy}{t:Zt}{d:Dk}{f:Rf}
open A.Tryq Go.RowKit
section
attribute[local go_sem] zn zg
def Lk.gZ(k:Lk)(m:Mf)(z:Q):Lk:={k with ep:=m.ep,mp:=z,bF:=m.bF,dX:=m.aQ,bM:=(m.bM:U),dB:=(m.cW:U),gR:=if 0<m.gT then(m.cW:U)else k.gR}
def Ao(tv:Zv)(b:Q)(k:Lk)(m:Mf)(x:dD KV)(w:Zy)(e:kH)(w':Zy):Prop:=
 zj (·=b) w w'/\(match x with|some L=>e=ai (cE #[])/\∃z,V (Z w)<=z/\Je w' z L/\Jh w' b (k.gZ m z)|none=>e=kn tv)
def xmz(b k m D d)(hm:T k.m=32)(ba:m.gT<=100000000000)(w)(hb:Jh w b k)(h:Jt w D d)(wr:¬d.cN D b)(br:2<b)(hG:ip tv w)(hT:iN w):
  aK prog 134 #[zq b,m.V,zq D] w (Ao tv b k m (Y6 m d.L<|Ji k.m m.ep) w):=by
 have HB:=hb;have HD:=h;have bb:=wr;have HG:=hG;have HT:=hT;have HM:=hm;have bf:=hT.iE;have bs:=xh.lt hb;have N0:H<|Nw w<|aF w<|au m.G 164:=zj.E _;have BM:=xh.ex w m.G 164;clear hb h wr hG hT hm;unfold Mf.V;unfold Mf.G at*;go_enter func134.1,Tryz.ntmps134;go_wp2;generalize aF w (au #[J m.ep,J m.op,J m.bF,J m.bC,J m.bM,J m.cW,J m.gT,E m.ga,E m.aQ] 164)=w1 at*;have B1:H<|Jh w1 b k:=xh.y HB N0.o id;have T1:=HT.y N0.o id;refine(GX b k HM m.ep _ B1.o T1).mono ?_;rintro e g⟨rfl,hd,cs⟩;have G:=(N0.o.U λ_ x=>x.elim).aE hd;have L2:=xe cs;have h1:=xe (BM.y hd À);have D2:=xe (HD.y G λx hx e=>bb Á);have G2:=xe (HG.y G À);have T2:=xe (HT.y G À);clear hd cs B1 T1 BM N0 HB;let⟨c,z⟩:=JP<|Ji k.m m.ep;let⟨f,h2⟩:=JP<|Y7 k.m m.ep;have o:=xe z;have W:=xe h2;have bc:H<|T c=16:=by show _=_;rw[<-z];exact F7 _ _
 have s:H<|xh g b (Lk.G {k with ep:=m.ep} c f) 147:=by have:=L2.o;unfold Jh at this;rw[show Ji ({k with ep:=m.ep}:Lk).m ({k with ep:=m.ep}:Lk).ep=c from z,show Y7 ({k with ep:=m.ep}:Lk).m ({k with ep:=m.ep}:Lk).ep=f from h2]at this;exact this
 clear z h2 L2;have I:H<|∀w1,Nw g w1->MC (V<|Z w) m m.ga w1/\N w1 (K b 6)=E c/\N w1 (K b 7)=E f:=λw1 v=>by have B:=h1.o.y v id;have k2:=s.o.y v id;exact⟨B.mc,k2.i 6 O,k2.i 7 O⟩
 have ho:H<|∀w1,Nw g w1->N w1 (K b 4)=(fu<|some k.mp)/\aX w1 (K b 4)=ao:=λw1 v=>⟨(s.o.y v id).i 4 O,(s.o.y v id).dS 4⟩;have g':H<|∀w1 mp,Nw g w1->MC (V<|Z w) m m.ga (ay w1 (K b 4)<|fu<|some mp)/\N (ay w1 (K b 4)<|fu<|some mp) (K b 6)=E c/\N (ay w1 (K b 4)<|fu<|some mp) (K b 7)=E f:=λw1 mp v=>by have B:=(h1.o.y v id).dR (p:=K b 4) Á<|fu<|some mp;have k2:=(s.o.y v id).H 4<|fu<|some mp;exact⟨B.mc,k2.i 6 O,k2.i 7 O⟩
 have S0:=I.o g<|zj.refl _ _;have P:H<|Nw g g.drew:=(zj.refl _ _).W;have v':H<|Calls prog 206 #[bY #[J m.ep,J m.op,J m.bF,J m.bC,J m.bM,J m.cW,J m.gT,E m.ga,E m.aQ],zq D,bY #[E c,E f]] g.drew<|IA tv (Y6 m d.L c) g.drew:=xbh m D d c f bc.o ba g.drew (D2.o.y P.o λ_ _=>id) (G2.o.y P.o id)<|T2.o.y P.o id;have es:H<|Calls prog 206 #[bY #[J m.ep,J m.op,J m.bF,J m.bC,J m.bM,J m.cW,J m.gT,E m.ga,E m.aQ],zq D,bY #[E c,E f]] g.drew λe a=>(∃X mp,H (Y6 m d.L c=Y X)/\e=ai (fu<|some mp)/\H (Nw g.drew a/\V g.drew.heap<=mp/\Je a mp X))\/(H (Y6 m d.L c=R)/\e=kn tv/\H (Nw g.drew a)):=v'.o.mono λe a⟨u,F⟩=>by cases hq:Y6 m d.L c with|none=>rw[hq]at F;exact ac ⟨O,F,u⟩|some X=>rw[hq]at F;obtain⟨mp,h3,h4,h5⟩:=F;exact aJ ⟨X,mp,O,h3,u,h4,h5⟩
 have w2:H<|∀a,Y6 m d.L c=R->Nw g.drew a->Ao tv b k m (Y6 m d.L<|Ji k.m m.ep) w (kn tv) a:=λa u F=>by unfold Ao;rw[o.o,u];exact⟨G.aE<|(P.o.aE F).U λ_ x=>x.elim,O⟩
 go_wp2;go_region_held2 (λa=>MC (V<|Z w) m m.ga a/\N a (K b 6)=E c/\N a (K b 7)=E f) (first|exact S0|exact S1|exact S2)
  ((go_at_call 206;refine es.o.mono ?_;rintro e w4 (⟨X,mp,HQ,rfl,q⟩|⟨HQ,rfl,q⟩);rotate_left;(exact⟨O,w2.o _ HQ.o q.o⟩);have C:H<|Nw g w4:=P.o.aE q.o.1;have S1:=I.o _ C.o;have x4:=(ho.o _ C.o).1;have y4:=(ho.o _ C.o).2;have S2:=g'.o w4 mp C.o))
 have i:=q.o;have A5:=xe<|(G.aE<|C.o.U λ_ x=>x.elim).aE<|zj.H _ (K b 4)<|fu<|some mp;have t:=xe<|(s.o.y C.o id).H 4<|fu<|some mp;have l:=xe<|(h1.o.y C.o id).dR (p:=K b 4) (by show V (Z w)≠b;omega)<|fu<|some mp;have j:mp≠b:=by have u:=i.2.1;have F:=G.aD;simp at u;omega
 have M5:=xe<|i.2.2.y (zj.H w4 (K b 4)<|fu<|some mp) j;have S:H<|V (Z w)<=mp:=by show _<=_;have u:=i.2.1;have F:=G.aD;simp at u;omega
 clear i q S0 S1 S2 x4 y4 I g' ho v' es w2 P C;try clear hHeld
 generalize ay w4 (K b 4) (fu<|some mp)=w5 at*;have z2:N w5 (K (V<|Z w) 2)=J m.bF:=l.o.i 2 O;have z4:N w5 (K (V<|Z w) 4)=J m.bM:=l.o.i 4 O;have z5:N w5 (K (V<|Z w) 5)=J m.cW:=l.o.i 5 O;have z6:N w5 (K (V<|Z w) 6)=J m.gT:=l.o.i 6 O;have z8:N w5 (K (V<|Z w) 8)=E m.aQ:=l.o.i 8 O;have b8:N w5 (K b 8)=J k.bF:=t.o.i 8 O;have b9:N w5 (K b 9)=E k.dX:=t.o.i 9 O;have bl:N w5 (K b 11)=J k.bM:=t.o.i 11 O;have bm:N w5 (K b 13)=J k.dB:=t.o.i 13 O;have bn:N w5 (K b 14)=J k.gR:=t.o.i 14 O;have f8:=t.o.dS 8;have f9:=t.o.dS 9;have bo:=t.o.dS 11;have bp:=t.o.dS 13;have bq:=t.o.dS 14;have be:¬V (Z w)=b:=À
 have bt:¬b=V (Z w):=À
 have bd:¬mp=b:=j;have LE:=(((t.o.H 8<|J m.bF).H 9<|E m.aQ).H 11<|J m.bM).H 13<|J m.cW;have BE:zj (·=b) w5<|ay (ay (ay (ay w5 (K b 8)<|J m.bF) (K b 9)<|E m.aQ) (K b 11)<|J m.bM) (K b 13)<|J m.cW:=(((zj.H w5 (K b 8) _).aE<|zj.H _ (K b 9) _).aE<|zj.H _ (K b 11) _).aE<|zj.H _ (K b 13) _;have r:H (∀w1,zj (·=b) w5 w1->N w1 (K (V<|Z w) 2)=J m.bF/\N w1 (K (V<|Z w) 4)=J m.bM/\N w1 (K (V<|Z w) 5)=J m.cW/\N w1 (K (V<|Z w) 6)=J m.gT/\N w1 (K (V<|Z w) 8)=E m.aQ):=λw1 v=>by have B:=l.o.y v be;exact⟨B.i 2 O,B.i 4 O,B.i 5 O,B.i 6 O,B.i 8 O⟩
 have bg:=r.o w5.drew (zj.refl _ _).W;have bh:=r.o (ay w5 (K b 8)<|J m.bF).drew ((zj.refl _ _).aE<|zj.H _ (K b 8) _).W;have bi:=r.o (ay (ay w5 (K b 8)<|J m.bF) (K b 9)<|E m.aQ).drew (((zj.refl _ _).aE<|zj.H _ (K b 8) _).aE<|zj.H _ (K b 9) _).W;have bj:=r.o (ay (ay (ay w5 (K b 8)<|J m.bF) (K b 9)<|E m.aQ) (K b 11)<|J m.bM).drew ((((zj.refl _ _).aE<|zj.H _ (K b 8) _).aE<|zj.H _ (K b 9) _).aE<|zj.H _ (K b 11) _).W;have bk:=r.o (ay (ay (ay (ay w5 (K b 8)<|J m.bF) (K b 9)<|E m.aQ) (K b 11)<|J m.bM) (K b 13)<|J m.cW).drew (((((zj.refl _ _).aE<|zj.H _ (K b 8) _).aE<|zj.H _ (K b 9) _).aE<|zj.H _ (K b 11) _).aE<|zj.H _ (K b 13) _).W;have y:=xe LE;have n:=xe BE;clear LE BE;by_cases h0:0<m.gT
 ·have i0:(0:U)<(m.gT:U):=À;have HF:H<|Ao tv b k m (Y6 m d.L<|Ji k.m m.ep) w (ai<|cE #[])<|(ay (ay (ay (ay (ay w5 (K b 8)<|J m.bF) (K b 9)<|E m.aQ) (K b 11)<|J m.bM) (K b 13)<|J m.cW) (K b 14)<|J m.cW).drew:=by
   show Ao _ _ _ _ _ _ _ _;unfold Ao;rw[o.o,HQ.o];refine⟨((A5.o.aE n.o).aE<|zj.H _ (K b 14) _).W,O,mp,S.o,M5.o.y ((n.o.aE<|zj.H _ (K b 14) _).W) j,?_⟩;unfold Jh;rw[show Ji (k.gZ m mp).m (k.gZ m mp).ep=c from o.o,show Y7 (k.gZ m mp).m (k.gZ m mp).ep=f from W.o];have e:(k.gZ m mp).G c f=#[E k.m,J k.tc,E k.bQ,J k.op,fu<|some mp,J m.ep,E c,E f,J m.bF,E m.aQ,E k.fD,J m.bM,J k.aQ,J m.cW,J m.cW,bG k.cQ,J k.cY]:=by simp[Lk.G,Lk.gZ,h0]
   rw[e];exact xh.H y.o 14<|J m.cW
  clear h0 y n;go_wp2;go_region_held3 (λa=>N a (K (V<|Z w) 2)=J m.bF/\N a (K (V<|Z w) 4)=J m.bM/\N a (K (V<|Z w) 5)=J m.cW/\N a (K (V<|Z w) 6)=J m.gT/\N a (K (V<|Z w) 8)=E m.aQ) (first|omega|omega|omega|omega|omega) (fail);all_goals (
   go_wp2;go_end0;exact HF.o)
 ·have i0:¬(0:U)<(m.gT:U):=À;have HF:H<|Ao tv b k m (Y6 m d.L<|Ji k.m m.ep) w (ai<|cE #[])<|(ay (ay (ay (ay w5 (K b 8)<|J m.bF) (K b 9)<|E m.aQ) (K b 11)<|J m.bM) (K b 13)<|J m.cW).drew:=by
   show Ao _ _ _ _ _ _ _ _;unfold Ao;rw[o.o,HQ.o];refine⟨(A5.o.aE n.o).W,O,mp,S.o,M5.o.y n.o.W j,?_⟩;unfold Jh;rw[show Ji (k.gZ m mp).m (k.gZ m mp).ep=c from o.o,show Y7 (k.gZ m mp).m (k.gZ m mp).ep=f from W.o];have e:(k.gZ m mp).G c f=#[E k.m,J k.tc,E k.bQ,J k.op,fu<|some mp,J m.ep,E c,E f,J m.bF,E m.aQ,E k.fD,J m.bM,J k.aQ,J m.cW,J k.gR,bG k.cQ,J k.cY]:=by simp[Lk.G,Lk.gZ,h0]
   rw[e];exact y.o
  clear h0 y n;go_wp2;go_region_held3 (λa=>N a (K (V<|Z w) 2)=J m.bF/\N a (K (V<|Z w) 4)=J m.bM/\N a (K (V<|Z w) 5)=J m.cW/\N a (K (V<|Z w) 6)=J m.gT/\N a (K (V<|Z w) 8)=E m.aQ) (first|omega|omega|omega|omega|omega) (fail);all_goals (
   go_wp2;go_end0;exact HF.o)
end
def ld(m z:Zl)(q o:U)(j:Q):Lk:=⟨m,q,z,o,j,0,0,Yn,[],0,0,0,0,ao,0⟩
def yQ(F:Xv):Q->Q->Q
 |0,n=>n|f+1,n=>if n<9999/\jp F ((n+1:Q):U)≠[]then yQ F f (n+1)else n
def Z7(F:Xv)(n:Q):Q:=yQ F (9999-n) n
def IG(h:n<9999)(a:jp F ((n+1:Q):U)≠[]):Z7 F n=Z7 F (n+1):=by unfold Z7;obtain⟨f,b⟩:∃f,9999-n=f+1:=⟨9999-n-1,À⟩;grind [yQ]
theorem Mm(h:¬(n<9999/\jp F ((n+1:Q):U)≠[])):Z7 F n=n:=by unfold Z7;cases z:9999-n with|zero=>rfl|succ f=>rw[yQ,aL h]
theorem ı(F):∀(f n:Q),n<=yQ F f n/\yQ F f n<=n+f
 |0,n=>⟨zd _,zd _⟩|f+1,n=>by have:=ı F f<|n+1;grind [yQ]
theorem IF(F n):n<=Z7 F n/\(Z7 F n<=n\/Z7 F n<=9999):=by grind [ı,Z7]
open Classical in
noncomputable def Xc(k:Lk)(F:Xv):dD<|Lk×KV:=
 if jp F 0=[]then Y (k,[])
 else if vL k.m k.tc (jp F 0)then(Y6 (Ym<|jp F 0) F<|Ji k.m (Ym<|jp F 0).ep).map λL=>(k.gZ (Ym<|jp F 0) k.mp,L)
 else R
open Classical in
noncomputable def Xr(k:Lk)(F:Xv):dD<|Lk×KV:=
 match Xc k F with
 |none=>R
 |some (z,L1)=>match ow (λi=>jp F (i:U)) (bL z.bM+1) {z with aQ:=(Z7 F (bL z.bM):U)} L1 (Z7 F (bL z.bM)-bL z.bM)with
  |some (q,l)=>if rp q then Y (q,l)else R
  |none=>R
def IH(tv:Zv)(X:Q->dD (Lk×KV))(w:Zy)(e:kH)(w':Zy):Prop:=
 Nw w w'/\∃m,V (Z w)<=m/\(match X m with
  |some (k,L)=>e=ai (bY<|k.G (Ji k.m k.ep)<|Y7 k.m k.ep)/\k.mp=m/\Je w' m L
  |none=>e=kn tv)
structure jB(F:Xv):Prop where
 nd:(F.map (·.1)).Nodup
 ne:∀p∈F,p.2.1≠[]
theorem jB.nil:jB []:=⟨List.nodup_nil,Â⟩
theorem ztk{v x}:x∈(ol F k v).map (·.1)↔x=k\/x∈F.map (·.1):=by induction F<;>grind [ol]
theorem ztj{x}(h:x∈(nS F k).map (·.1)):x∈F.map (·.1):=by obtain⟨p,a,rfl⟩:=Xe.1 h;grind [LO]
def xt1(h:(F.map (·.1)).Nodup)(k v):((ol F k v).map (·.1)).Nodup:=by induction F<;>grind [ol,ztk]
def xt0(h:(F.map (·.1)).Nodup)(k):((nS F k).map (·.1)).Nodup:=by induction F<;>grind [nS,ztj]
theorem Ĩ(h:k∉F.map (·.1)):Xm F k=R:=by induction F<;>grind [Xm]
theorem Į(k v):Xm (ol F k v) k=Y v:=by induction F<;>grind [ol,Xm]
def QH(h:(F.map (·.1)).Nodup)(k):Xm (nS F k) k=R:=by induction F<;>grind [nS,Ĩ,Xm]
theorem Eu(h:jB F)(n f k):jp (Vm F n f) k=if k=n then f.1 else jp F k:=by by_cases e:k=n;subst e;rw[aT O];unfold Vm;by_cases a:f.1=[];rw[aT a];unfold jp;rw[QH h.nd];grind;grind [jp,Į];grind [jp,YO]
def Ģ(h:jB F)(n k):jp (nS F n) k=if k=n then []else jp F k:=by by_cases e:k=n;subst e;rw[aT O];unfold jp;rw[QH h.nd];rfl;grind [jp,YL]
def jB.del(h:jB F)(n):jB<|nS F n:=⟨xt0 h.nd n,λp a=>h.ne p<|LO a⟩
def jB.np(h:jB F)(n f):jB<|Vm F n f:=by unfold Vm;by_cases a:f.1=[];rw[aT a];exact h.del n;rw[aL a];refine⟨xt1 h.nd n f,λp b=>?_⟩;obtain rfl|b:=YA b;exact a;exact h.ne p b
def jB.L9(h:jB F):k∈F.map (·.1)↔jp F k≠[]:=by constructor;intro a;let⟨v,z⟩:=Wr.1<|zn0 a;have:=h.ne _<|Ve z;grind [jp];intro b;cases z:Xm F k with|none=>grind [jp]|some v=>exact Xe.2 ⟨_,Ve z,O⟩
def jB.Bp(h:jB F):k∈Zk F↔jp F k≠[]:=PN.trans h.L9
theorem xc9(k v):bO (ol F k v)+(T (jp F k):U)=bO F+(T v.1:U):=by induction F<;>grind [ol,bO,jp,Xm]
theorem Ī(k):bO (nS F k)+(T (jp F k):U)=bO F:=by induction F<;>grind [nS,jp,Xm,bO]
theorem yP(k f):bO (Vm F k f)+(T (jp F k):U)=bO F+(T f.1:U):=by grind [Vm,Ī,xc9]
section
attribute[local go_sem] zn zg vD
def Sr.ex(r S l:U)(m:Zl)(D z:Q):Sr:=⟨S,l,D,⟨r,z,[],R⟩,m,0,Yn,0,R⟩
def Ġ(d b a m)(F:0<=d)(G:d<=100000)(hd:1<=b)(I:b<=100000)(h1:0<=a)(h2:a<=999)(hx:T m=32)(w):
  aK prog 35 #[J d,J b,J a,E m] w λe w'=>∃B D u,e=ai (cE #[zq B,J 0])/\V (Z w)<=B/\V (Z w)<=D/\V (Z w)<=u/\aP (V<|Z w) w w'/\Vq w' B (Sr.ex d b a m D u):=by
 go_enter func35.1,Tryz.ntmps35;go_wp2;refine(xsj d _).mono ?_;rintro e w1⟨rfl,l,j,k⟩;have p:=j;have r:=k;have o:=xe l;clear j k l;go_wp2;have y:xh (aF w1<|au #[J b,J a,zq<|V (Z w)+1,ak ⟨#[]⟩,J 0,ak ⟨#[]⟩,J 0,aU R] 94) (V<|Z w1) #[J b,J a,zq<|V (Z w)+1,ak ⟨#[]⟩,J 0,ak ⟨#[]⟩,J 0,aU R] 94:=xh.ex _ _ _;have t:=r.y (zj.E<|au #[J b,J a,zq<|V (Z w)+1,ak ⟨#[]⟩,J 0,ak ⟨#[]⟩,J 0,aU R] 94) λ_ _=>id;have q:=p.alloc zbh<|au #[J b,J a,zq<|V (Z w)+1,ak ⟨#[]⟩,J 0,ak ⟨#[]⟩,J 0,aU R] 94;generalize aF w1 (au #[J b,J a,zq<|V (Z w)+1,ak ⟨#[]⟩,J 0,ak ⟨#[]⟩,J 0,aU R] 94)=w2 at*;refine(þ _).mono ?_;rintro e n⟨rfl,i⟩;have g:=y.ac i;have ho:=g.i 3 O;have wr:=g.i 4 O;have S:=g.i 5 O;have cs:=g.i 6 O;have g':=g.dS 3;have v':=g.dS 4;have W:=g.dS 5;have X:=g.dS 6;have f:V (Z w)<=V (Z w1):=zbh
 have C:V (Z w1)≠V (Z w)+1/\V (Z w1)≠V (Z w):=zbh
 have v:∃B D u,ai (cE #[zq (V<|Z w1),J 0])=ai (cE #[zq B,J 0])/\V (Z w)<=B/\V (Z w)<=D/\V (Z w)<=u/\aP (V<|Z w) w (ay (ay (ay (ay n (K (V<|Z w1) 3)<|E m) (K (V<|Z w1) 4)<|J 0) (K (V<|Z w1) 5)<|E Yn) (K (V<|Z w1) 6)<|J 0)/\Vq (ay (ay (ay (ay n (K (V<|Z w1) 3)<|E m) (K (V<|Z w1) 4)<|J 0) (K (V<|Z w1) 5)<|E Yn) (K (V<|Z w1) 6)<|J 0) B (Sr.ex d b a m D u):=by refine⟨V<|Z w1,V (Z w)+1,V<|Z w,O,f,À,zd _,?_,(((g.H 3<|E m).H 4<|J 0).H 5<|E Yn).H 6<|J 0,?_,λs e=>Æ⟩;exact((((Xs q i).setCell f _).setCell f _).setCell f _).setCell f _;have z:zj (·=V (Z w1)) n<|ay (ay (ay (ay n (K (V<|Z w1) 3)<|E m) (K (V<|Z w1) 4)<|J 0) (K (V<|Z w1) 5)<|E Yn) (K (V<|Z w1) 6)<|J 0:=(((zj.H n (K (V<|Z w1) 3) _).aE<|zj.H _ (K (V<|Z w1) 4) _).aE<|zj.H _ (K (V<|Z w1) 5) _).aE<|zj.H _ (K (V<|Z w1) 6) _;refine(t.y (zj.J i) λ_ _=>id).y z λx P e=>?_;have e:=e;obtain h|h|⟨c,L,_⟩:=P;omega;grind;grind
 go_wp2;go_ret2;exact v
end
section
attribute[local go_sem] zn zg
def wR(k v:Zl)(s:ez×KV)(q:Zl×Zl):ez×KV:=
 if s.1=ao/\k<=q.1 then(M,if q.1=k then s.2++[(k,v)]else s.2++[(k,v)]++[q])else(s.1,if q.1=k then s.2 else s.2++[q])
def Ev(l:KV)(k v:Zl)(G:ez):ez×KV:=l.foldl (wR k v) (G,[])
def C0(l:KV)(k v:Zl)(G:ez):KV:=if(Ev l k v G).1=ao then(Ev l k v G).2++[(k,v)]else(Ev l k v G).2
def Sr.uF(r:Sr)(s:kE)(n:Q):Mf:=⟨s.ep,r.op,r.bF,bL s.bC,bL s.aQ,fE s.dB,n,[],r.bQ⟩
def Sr.fF(r:Sr)(s:kE):bA Zl:=Y9 (r.uF s (T (iF s.L))) (Ji r.m s.ep)<|Ys<|iF s.L
def Sr.mf(r:Sr)(s:kE):Mf:={r.uF s (T (iF s.L)) with ga:=J9<|r.fF s}
def Sr.kq(r:Sr)(s:kE):dD U×Sr:=
 if s.bC=999 then(Y 10,r)
 else if 16384<T (iF s.L)\/r.d.bU-bO r.d.L<(r.kG (T (iF s.L)):U)then(Y 9,r)
 else if(({r with sn:=Y {s with bC:=s.bC+1}}:Sr).mM (r.mf s) (r.fF s).flatten<|(r.mf s).dW<|Y7 r.m s.ep).1=M then
  (Y 0,{r with d:=(({r with sn:=Y {s with bC:=s.bC+1}}:Sr).mM (r.mf s) (r.fF s).flatten<|(r.mf s).dW<|Y7 r.m s.ep).2,sn:=Y {s with bC:=s.bC+1,bM:=s.aQ,dB:=(fE s.dB:U)}})
 else(R,{r with d:=(({r with sn:=Y {s with bC:=s.bC+1}}:Sr).mM (r.mf s) (r.fF s).flatten<|(r.mf s).dW<|Y7 r.m s.ep).2,sn:=Y {s with bC:=s.bC+1}})
def Sr.iG(r:Sr)(s:kE):dD U×Sr:=
 if(r.fm s).1=Y 0 then(r.fm s).2.kq (r.ik s)else r.fm s
def yO{cv}(B r s w)(h:Vq w B r)(hs:r.sn=Y s)(d2:pH B r)(cw:∀r1,r.fm s=(Y 0,r1)->pH B r1/\T r1.d.L+2<1000000/\rY (r.ik s).L/\T (r.ik s).L<=5000000/\0<=(r.ik s).bC/\(r.ik s).bC<=999/\T (jp r1.d.L<|fE (r.ik s).dB)<=900000)(hG:nD cv tv w)(hP:∀c∈s.P,qX c)(dx:s.ep<=1000000):
  aK prog 42 #[zq B] w λe w'=>∃a r',r.iG s=(a,r')/\e=FZ cv a/\Zd B r w r' w':=by
 have HH:=h;have HK:=d2;have HG:=hG;have HS:=hs;have HP:=hP;have dg:=cw;go_enter func42.1,Tryz.ntmps42;go_wp2;refine(Iu<|Qq B r s _ HH HS HK HG HP).mono ?_;rintro e w1 (⟨v,r1,hw,rfl,bx⟩|⟨r1,hw,rfl,bx⟩);rotate_left;have HR:H<|r.iG s=(R,r1):=by show _=_;unfold Sr.iG;rw[hw,aL Â]
 exact⟨O,R,r1,HR.o,O,bx⟩;have HW:=hw;have T1:=bx;by_cases hv:¬v=0
 ·have HR:H<|r.iG s=(Y v,r1):=by show _=_;unfold Sr.iG;rw[HW,aL É]
  have en:bR (v=0)=ao:=by simpa using hv
  go_wp2;go_ret;exact⟨_,_,HR.o,O,T1⟩
 obtain rfl:v=0:=À
 have i:=lN HS HW;have G1:=HG.y T1.y HK.cN;obtain⟨du,cs,bh,ci,bj,c0,cr⟩:=dg _ HW;have hd:H<|r.iG s=r1.kq (r.ik s):=by show _=_;unfold Sr.iG;rw[HW,aT O]
 have cq:(r.ik s).ep<=1000000:=by unfold Sr.ik;split<;>exact dx
 let⟨b,d3⟩:=JP<|r.ik s;rw[d3]at i bh ci bj c0 cr hd cq;have n:=du;have bn:=bh;have b4:T r1.d.L+2<1000000/\T (jp r1.d.L<|fE b.dB)<=900000:=⟨cs,cr⟩;have c7:N w1 (K B 7)=zq b.S:=(T1.dI.bT.i 7 O).trans (by simp[Sr.G,Sr.my,i]);have m:=(T1.dI.fP b i).1;have d6:N w1 (K b.S 6)=J b.bC:=m.bT.i 6 O;have d0:N w1 (K b.S 0)=(fu<|some b.mp):=m.bT.i 0 O;have dc:=HG;by_cases h9:b.bC=999
 ·have HR:H<|r.iG s=(Y 10,r1):=by show _=_;rw[hd.o];unfold Sr.kq;rw[aT h9]
  rw[h9]at d6;go_wp2;go_ret;exact⟨_,_,HR.o,O,T1⟩
 have H9:=h9;have ek:bR (b.bC=999)=ao:=by simpa using h9
 go_wp2;refine(rE b.mp b.L ci bn _ (T1.dI.fP b i).1.jS).mono ?_;rintro e w2⟨rfl,co⟩;have T2:=T1.aE<|Zd.nw T1.dI<|zj.J co;have G2:=G1.y (S:=λ_=>False) (zj.J co) λ_ x=>x.elim;let⟨x,hx⟩:=JP<|iF b.L;have HX:=hx;have eo:T x<=250000000:=by have:=qW bn (ks:=Vv b.L) λk hk=>(bn.Qg hk).2;rw[LX]at this;rw[<-hx];show(List.flatMap (oT b.L)<|Vv b.L).length<=_;omega
 rw[hx];by_cases cp:16384<T x
 ·have HR:H<|r.iG s=(Y 9,r1):=by show _=_;rw[hd.o];unfold Sr.kq;rw[aL H9,aT<|aJ<|by rw[HX];omega]
  have cl:(16384:U)<(T x:U):=À
  go_wp2;go_quiet (fail);have T3:Zd B r w r1<|w2.drewN nq:=T2.aE<|Zd.nw T2.dI (zj.refl _ _).eL;go_wp2;go_ret;exact⟨_,_,HR.o,O,T3⟩
 have eg:=cp;have cl:¬(16384:U)<(T x:U):=À
 have ec:bR ((16384:U)<(T x:U))=ao:=by simpa using cl
 have A2:=T2.dI.y (S:=λ_=>False) (zj.refl _ _).W λ_ _=>id;have g:∀w1,Nw w2 w1->N w1 (K B 2)=zq r1.D:=λw1 X=>(T2.dI.bT.y X id).i 2 O;have S0:=g w2<|zj.refl _ _;have cy:r1.kG (T x)<=1000000:=by unfold Sr.kG;split<;>omega
 have cc:=uZ B r1 x À w2.drew A2;have b5:=YK r1.D r1.d w2.drew A2.fA n.fW (by have:=n.bU;omega) (by have:=n.bU;omega);let⟨rf,cx⟩:=JP<|r1.kG (T x);let⟨fr,ct⟩:=JP<|r1.d.bU-bO r1.d.L;have es:=cx;have h3:=ct;rw[cx]at cc cy;rw[ct]at b5;go_wp2;go_region_held3 (λw'=>N w' (K B 2)=zq r1.D) (first|exact S0|exact I)
  (first
   |(go_at_call 88;refine cc.mono ?_;rintro e w3⟨rfl,d4⟩;obtain rfl:=d4)
   |(go_at_call 89;refine b5.mono ?_;rintro e l⟨rfl,dw⟩;have N4:Nw w2 l:=(zj.refl _ _).W.aE<|zj.J dw;have I:=g _ N4))
 have T4:=T2.aE<|Zd.nw T2.dI N4;have G4:=G2.y N4 λ_ x=>x.elim;try clear hHeld
 by_cases cz:fr<(rf:U)
 ·have HR:H<|r.iG s=(Y 9,r1):=by show _=_;rw[hd.o];unfold Sr.kq;rw[aL H9,aT<|ac<|by rw[HX,h3,es];exact cz]
  go_wp2;go_ret;exact⟨_,_,HR.o,O,T4⟩
 have eh:=cz;have ee:(rf:U)<=fr:=À
 have g:∀w1,Nw l w1->N w1 (K B 3)=E r1.m/\N w1 (K B 4)=J r1.bF/\N w1 (K B 5)=E r1.bQ/\N w1 (K B 6)=J r1.op/\N w1 (K b.S 2)=J b.ep:=λw1 X=>by have m:=T4.dI.bT.y X id;have k2:=(T4.dI.fP b i).1.bT.y X id;exact⟨m.i 3 O,m.i 4 O,m.i 5 O,m.i 6 O,k2.i 2 O⟩
 have N0:Nw l l.drew:=(zj.refl _ _).W;have NA:Nw l<|aF l.drew<|au #[ak ⟨#[]⟩,ak ⟨#[]⟩] 145:=N0.aE<|zj.E _;have S0:=g l<|zj.refl _ _;have SA:=g _ NA;have TA:=(G4.y N0 λ_ x=>x.elim).uV;have TB:=(G4.y NA λ_ x=>x.elim).uV;have XA:xh (aF l.drew<|au #[ak ⟨#[]⟩,ak ⟨#[]⟩] 145) (V<|Z l) #[ak ⟨#[]⟩,ak ⟨#[]⟩] 145:=xh.ex l.drew _ _;go_wp2;go_region_held3 (λw'=>N w' (K B 3)=E r1.m/\N w' (K B 4)=J r1.bF/\N w' (K B 5)=E r1.bQ/\N w' (K B 6)=J r1.op/\N w' (K b.S 2)=J b.ep) (first|exact S0|exact SA|exact I|exact SB|exact SC)
  (first
   |(go_at_call 90;refine(FV r1.m r1.bQ (r1.bF:U) (r1.op:U) b.ep n.m _ TA).mono ?_;rintro e F⟨rfl,bb⟩;have N5:Nw l F:=N0.aE<|zj.J bb;have I:=g _ N5;have NB:Nw l<|aF F<|au #[ak ⟨#[]⟩,ak ⟨#[]⟩] 145:=N5.aE<|zj.E _;have SB:=g _ NB;have NC:Nw l<|aF F<|au #[E<|Ji r1.m b.ep,E<|Y7 r1.m b.ep] 145:=N5.aE<|zj.E _;have SC:=g _ NC;have X6:xh (aF F<|au #[E<|Ji r1.m b.ep,E<|Y7 r1.m b.ep] 145) (V<|Z F) #[E<|Ji r1.m b.ep,E<|Y7 r1.m b.ep] 145:=xh.ex F _ _;have c1:=N5.aD)
   |(go_at_call 90;refine(FV r1.m r1.bQ (r1.bF:U) (r1.op:U) b.ep n.m _ TB).mono ?_;rintro e F⟨rfl,bb⟩;have N5:Nw l F:=NA.aE<|zj.J bb;have I:=g _ N5;have X5:=XA.ac bb;have d8:=X5.i 0 O;have d9:=X5.i 1 O;have ea:=X5.dS 0;have eb:=X5.dS 1;have NC:Nw l<|ay (ay F (K (V<|Z l) 0)<|E<|Ji r1.m b.ep) (K (V<|Z l) 1)<|E<|Y7 r1.m b.ep:=zj.cZ (zj.cZ N5 (zd _)<|zj.H _ (K (V<|Z l) 0) _) (zd _)<|zj.H _ (K (V<|Z l) 1) _;have SC:=g _ NC;have X6:xh (ay (ay F (K (V<|Z l) 0)<|E<|Ji r1.m b.ep) (K (V<|Z l) 1)<|E<|Y7 r1.m b.ep) (V<|Z l) #[E<|Ji r1.m b.ep,E<|Y7 r1.m b.ep] 145:=(X5.H 0 _).H 1 _;have c1:=zd (V<|Z l)))
 all_goals (
  have T6:=T4.aE<|Zd.nw T4.dI NC;have G6:=G4.y NC λ_ x=>x.elim;have K6:=X6;have b6:∀x,r1.cN B x->x<V (Z l):=λx hx=>Sr.fg T4.dI hx;have bp:=T6;have dd:=G6;have df:=K6;try clear NB
  try clear SB
  try clear X5
  try clear d8
  try clear d9
  try clear ea
  try clear eb
  try clear hHeld)
 have bl:¬r1.cN B (V<|Z F):=λx=>by have:=b6 _ x;omega
 generalize aF F (au #[E<|Ji r1.m b.ep,E<|Y7 r1.m b.ep] 145)=w6 at*;generalize V (Z F)=kb at*;rotate_left;have bl:¬r1.cN B (V<|Z l):=λx=>by have:=b6 _ x;omega
 generalize(ay F (K (V<|Z l) 0)<|E<|Ji r1.m b.ep).setCell (K (V<|Z l) 1) (E<|Y7 r1.m b.ep)=w6 at*;generalize V (Z l)=kb at*;all_goals (
  go_wp2;refine(Bm B r1 b (T x) _ bp.dI i).mono ?_;rintro e w7⟨rfl,bt⟩;have NV:vJ r1 b (T x)=(r1.uF b (T x)).G:=by have:=(n.fP b i).1;simp only[vJ,Mf.G,Sr.uF];rw[p8 bj,p8 this];rfl
  rw[NV];have T7:=bp.aE<|Zd.nw bp.dI<|zj.J bt;have G7:=dd.y (S:=λ_=>False) (zj.J bt) λ_ x=>x.elim;have K7:=xh.ac df bt;let⟨f,cu⟩:=JP<|r1.uF b (T x);have ho:=cu;rw[cu];unfold Mf.G;go_wp2)
 all_goals (
  have N8:Nw w7<|aF w7<|au f.G 164:=zj.E _;have g':xh (aF w7<|au f.G 164) (V<|Z w7) f.G 164:=xh.ex _ _ _;have T8:=T7.aE<|Zd.nw T7.dI N8;have G8:=G7.y N8 λ_ x=>x.elim;have K8:=K7.E<|au f.G 164;have dz:kb≠V (Z w7):=by have:=K7.lt;omega
  have bm:¬r1.cN B (V<|Z w7):=λx=>by have:=Sr.fg T7.dI x;omega
  have b9:=T7.y.aD;clear N8 T7 G7 K7;unfold Mf.G at g' T8 G8 K8;generalize aF w7 (au _ 164)=w8 at*;generalize V (Z w7)=mb at*;let⟨C,bu⟩:=JP<|Ji r1.m b.ep;let⟨u,bz⟩:=JP<|Y7 r1.m b.ep;have da:=bu;have cd:=bz;have db:H<|T C=16:=by show _=_;rw[<-bu];exact F7 _ _
  have dk:H<|T u=32:=by show _=_;rw[<-bz];exact Ek _ _
  rw[bu,bz]at K8⊢;have g:∀w1,Nw w8 w1->MC mb f f.ga w1/\N w1 (K kb 0)=E C/\N w1 (K kb 1)=E u:=λw1 X=>by have m:=g'.y X id;have k2:=K8.y X id;exact⟨m.mc,k2.i 0 O,k2.i 1 O⟩
  have S0:=g w8<|zj.refl _ _;have N0:Nw w8 w8.drew:=(zj.refl _ _).W;obtain⟨dt,ei,ej⟩:=CY x;have v':(∀y∈Ys x,T y<=64)/\T (Ys x)<=256:=⟨dt,À⟩;go_region_held3 (λw'=>MC mb f f.ga w'/\N w' (K kb 0)=E C/\N w' (K kb 1)=E u) (first|exact S0|exact I)
   (first
    |(go_at_call 93;refine(QE x À _).mono ?_;rintro e w9⟨v9,rfl,bw,d1⟩;have N9:Nw w8 w9:=N0.aE d1;have I:=g _ N9;have ds:=xe<|ć bw)
    |(go_at_call 92;refine(Ă f (Ys x) v9 C u db.o (λy D=>by have:=v'.1 y D;omega) (by have:=v'.2;omega) _ ds.o).mono ?_;rintro e c4⟨be,rfl,bc,bg⟩;have wr:Nw w8 c4:=N9.aE bg;have I:=g _ wr;have dp:=xe bc)))
 all_goals (
  have em:=N9.aD;have ef:=bg.aD;have cf:=T8.aE<|Zd.nw T8.dI wr;have b2:=G8.y wr λ_ x=>x.elim;have b0:=g'.y wr id;have dl:=K8.y wr id;have ed:=g'.lt;have el:=Sr.fg T8.dI<|ac<|ac ⟨b,i,aJ O⟩;have G:(∀y∈Y9 f C (Ys x),T y<=64)/\T (Y9 f C<|Ys x)<=256:=⟨Qo v'.1,by rw[Ah];exact v'.2⟩;have bo:H<|r1.fF b=Y9 f C (Ys x):=by show _=_;unfold Sr.fF;rw[HX,ho,da]
  have bf:c4.ownsRow (V<|Z w9) 9 1 be (T (Y9 f C<|Ys x))<|(Y9 f C<|Ys x).map qY:=by show World.ownsRow _ _ _ _ _ _ _;rw[Ah];exact dp.o
  generalize Y9 f C (Ys x)=ps at*;try clear hHeld
  go_wp2;refine(ą ps be G.2 (λy D=>by have:=G.1 y D;omega) _ b2.uV bf).mono ?_;rintro e er⟨rfl,t⟩;have cg:=cf.aE<|Zd.nw cf.dI<|zj.J t;have c5:=b2.y (S:=λ_=>False) (zj.J t) λ_ x=>x.elim;have ih:=b0.ac t;have dm:=dl.ac t;have dq:=Ie bf (zj.J (S:=λ_=>False) t) λ_ _ x=>x;have bi:=IB ps G.2;go_wp2;refine(Id (st<|J9 ps) _).mono ?_;rintro e z⟨rfl,c2⟩;obtain rfl:=c2;have q7:=ih.i 7 O;have p7:=ih.dS 7;have c3:=(cg.dI.fP b i).1;have q6:N z (K b.S 6)=J b.bC:=c3.bT.i 6 O;have p6:=c3.bT.dS 6;have dv:b.S≠mb:=λe=>bm<|ac<|ac ⟨b,i,aJ e.symm⟩;have cj:¬mb=b.S:=λe=>dv e.symm;go_wp2)
 all_goals (
  have TA:=cg.cZ b9 bm<|zj.H _ (K mb 7)<|E<|J9 ps;have ch:Zd B r w {r1 with sn:=Y {b with bC:=b.bC+1}}<|ay (ay z (K mb 7)<|E<|J9 ps) (K b.S 6)<|J<|b.bC+1:=
   TA.aE (Zd.sM (s:=b) (s':={b with bC:=b.bC+1}) TA.dI i O O O O O O)
  have BB:zj (λy=>y=mb\/y=b.S) z<|ay (ay z (K mb 7)<|E<|J9 ps) (K b.S 6)<|J<|b.bC+1:=
   ((zj.H z (K mb 7) _).U λy D=>aJ D).aE ((zj.H _ (K b.S 6) _).U λy D=>ac D)
  have b3:=c5.y BB (λy D=>by obtain rfl|rfl:=D;have:=dc.iE;have:=b9;omega;exact n.cN _<|ac<|ac ⟨b,i,aJ O⟩);have b1:xh (ay (ay z (K mb 7)<|E<|J9 ps) (K b.S 6)<|J<|b.bC+1) mb _ 164:=(ih.H 7 _).dR (p:=K b.S 6) cj _;have dy:kb≠b.S:=λe=>bl<|ac<|ac ⟨b,i,aJ e⟩;have dn:xh (ay (ay z (K mb 7)<|E<|J9 ps) (K b.S 6)<|J<|b.bC+1) kb _ 145:=(dm.dR (p:=K mb 7) dz _).dR (p:=K b.S 6) dy _;have dr:=Ie dq BB (λq hq hx=>À);generalize(ay z (K mb 7)<|E<|J9 ps).setCell (K b.S 6) (J<|b.bC+1)=w13 at*;have b8:H<|r1.mf b={f with ga:=J9 ps}:=by show _=_;unfold Sr.mf;rw[bo.o,HX,ho]
  have b7:H<|T f.aQ=32:=by show _=_;rw[<-ho];exact n.bQ
  have bk:H<|(f.cW:U)=(fE b.dB:U):=by show _=_;rw[<-ho];rfl
  have c9:H<|(f.bM:U)=b.aQ:=by show _=_;rw[<-ho];show((bL b.aQ:Q):U)=_;exact p8 (n.fP b i).1
  have de:pH B {r1 with sn:=Y {b with bC:=b.bC+1}}:=n.bC i _;have ca:∀y,Sr.cN B {r1 with sn:=Y {b with bC:=b.bC+1}} y->r1.cN B y:=λy D=>(wL i).1 D;obtain⟨P,bv⟩:∃P,Sr.mM {r1 with sn:=Y {b with bC:=b.bC+1}} {f with ga:=J9 ps} ps.flatten (Mf.dW {f with ga:=J9 ps} u)=P:=⟨_,O⟩;have di:H<|P.1=M->r.iG s=(Y 0,{r1 with d:=P.2,sn:=Y {b with bC:=b.bC+1,bM:=b.aQ,dB:=(fE b.dB:U)}}):=λhx=>by rw[hd.o];unfold Sr.kq;rw[HX,aL H9,aL<|by rw[h3,es];omega,b8.o,bo.o,cd,bv,aT hx]
  have dh:H<|P.1=ao->r.iG s=(R,{r1 with d:=P.2,sn:=Y {b with bC:=b.bC+1}}):=λhx=>by rw[hd.o];unfold Sr.kq;rw[HX,aL H9,aL<|by rw[h3,es];omega,b8.o,bo.o,cd,bv,aL Á]
  have cb:T ps.flatten<=16384:=by have h1:=Iv G.1;have h2:=G.2;show _<=_;omega
  have CL:∀W,Vq W B {r1 with sn:=Y {b with bC:=b.bC+1}}->nD cv tv W->aK prog 95 #[zq B,bY #[J f.ep,J f.op,J f.bF,J f.bC,J f.bM,J f.cW,J f.gT,E<|J9 ps,E f.aQ],E ps.flatten,E<|Mf.dW {f with ga:=J9 ps} u] W λe w'=>(e=ai (cE #[])/\P.1=M/\Zd B {r1 with sn:=Y {b with bC:=b.bC+1}} W {r1 with d:=P.2,sn:=Y {b with bC:=b.bC+1}} w')\/(e=kn cv/\P.1=ao/\Zd B {r1 with sn:=Y {b with bC:=b.bC+1}} W {r1 with d:=P.2,sn:=Y {b with bC:=b.bC+1}} w'):=λW hA hG=>by
   have:=Ep (uX B {r1 with sn:=Y {b with bC:=b.bC+1}} {f with ga:=J9 ps} ps.flatten (Mf.dW {f with ga:=J9 ps} u) W hA de hG b4.1 (by have:=uf {f with ga:=J9 ps} u bi b7.o;omega) (by
    show(jp r1.d.L ((f.cW:Q):U)).length+_<=_;rw[bk.o];have:=b4.2;have:=cb;omega) (by
    show f.cW<=_;have:fE b.dB<=10002:=by unfold fE;split<;>omega
    have:=bk.o;omega))
   rw[bv]at this;exact this
  have CS:∀W,iN W->aq 97 #[bY #[J f.ep,J f.op,J f.bF,J f.bC,J f.bM,J f.cW,J f.gT,E<|J9 ps,E f.aQ],bY #[E C,E u]] W (E<|Mf.dW {f with ga:=J9 ps} u):=λW hT=>
   uY {f with ga:=J9 ps} C u (by have:=dk.o;omega) bi b7.o W hT
  have g:∀w1,zj (λy=>Sr.cN B {r1 with sn:=Y {b with bC:=b.bC+1}} y) w13 w1->MC mb f (J9 ps) w1/\N w1 (K kb 0)=E C/\N w1 (K kb 1)=E u:=λw1 X=>by have m:=b1.y X λx=>bm<|ca _ x;have k2:=dn.y X λx=>bl<|ca _ x;exact⟨m.mc,k2.i 0 O,k2.i 1 O⟩
  have N0:Nw w13 w13.drew:=(zj.refl _ _).W;have O0:w13.drew.ownsRow (V<|Z w9) 9 1 be (T ps)<|ps.map qY:=dr;have S0:=g w13<|zj.refl _ _;generalize Mf.dW {f with ga:=J9 ps} u=sld at*;go_region_held2 (λw'=>MC mb f (J9 ps) w'/\N w' (K kb 0)=E C/\N w' (K kb 1)=E u) (first|exact S0|exact I)
   (first
    |(go_at_call 96;refine(Ĉ ps be (by have:=G.2;omega) (by have:=cb;omega) _ O0).mono ?_;rintro e d5⟨rfl,cm⟩;have bq:Nw w13 d5:=N0.aE<|zj.J cm;have I:=g _<|bq.U λ_ x=>x.elim;have c6:=xe<|b3.y bq λ_ x=>x.elim)
    |(go_at_call 97;refine(CS _ c6.o.uV).mono ?_;rintro e d7⟨rfl,cn⟩;have ba:Nw w13 d7:=bq.aE<|zj.J cn;have I:=g _<|ba.U λ_ x=>x.elim;have c8:=b3.y ba λ_ x=>x.elim;have br:=xe<|ch.aE<|Zd.nw ch.dI ba)
    |(go_at_call 95;refine(CL _ br.o.dI c8).mono ?_;rintro e w16 (⟨rfl,hr,o⟩|⟨rfl,hr,o⟩);rotate_left;(exact⟨O,R,_,dh.o hr,O,br.o.aE o⟩);have ce:=hr;have bs:=br.o.aE o;have I:=g _<|(ba.U λ_ x=>x.elim).aE o.y)))
 all_goals (
  obtain⟨⟨-,-,-,-,q4,q5,-⟩,-⟩:=I;have bd:=(bs.dI.fP {b with bC:=b.bC+1} O).1;have q3:N w16 (K b.S 3)=J b.bM:=bd.bT.i 3 O;have q6:N w16 (K b.S 5)=J b.dB:=bd.bT.i 5 O;have p3:aX w16 (K b.S 3)=ao:=bd.bT.dS 3;have p5:aX w16 (K b.S 5)=ao:=bd.bT.dS 5;have TU:=Zd.sM (j:=3) (v:=J f.bM) (s:={b with bC:=b.bC+1}) (s':={b with bC:=b.bC+1,bM:=b.aQ}) bs.dI O (by rw[c9.o];rfl) O O O O O;have e1:=Zd.sM (j:=5) (v:=J f.cW) (s:={b with bC:=b.bC+1,bM:=b.aQ}) (s':={b with bC:=b.bC+1,bM:=b.aQ,dB:=(fE b.dB:U)}) TU.dI O (by rw[bk.o];rfl) O O O O O;have TW:=(bs.aE TU).aE e1;have TX:Zd B r w {r1 with d:=P.2,sn:=Y {b with bC:=b.bC+1,bM:=b.aQ,dB:=(fE b.dB:U)}} (ay (ay w16 (K b.S 3)<|J f.bM) (K b.S 5)<|J f.cW).drew:=TW.aE<|Zd.nw TW.dI (zj.refl _ _).W;have dj:=di.o ce;try clear hHeld
  go_wp2;go_region_with (fail);all_goals (
   go_wp2;go_ret;exact⟨_,_,dj,O,TX⟩))
end
def tI(l:KV):Prop:=l.Pairwise λp q=>p.1<q.1
def gG(L:KV):KV:=(Vv L).map λk=>(k,(Xg L k).getD [])
def zwz{a b:Zl}(h:¬b<=a):a<b:=Á
def xac{a b:Zl}(h:a<=b)(c:a≠b):a<b:=zwz λd=>c<|List.le_antisymm h d
def QI(L):(Vv L).Perm (L.map (·.1)):=Xo _ _
theorem xp7(h:Nd L):(Vv L).Pairwise (·<·):=by have d:(Vv L).Pairwise λa b=>Bb a b=M:=Oo (λa b c d e=>Á) (λa b=>Á) _;exact(d.and<|(QI L).nodup_iff.2 h).imp λ⟨a,b⟩=>xac Á b
theorem QN(L):(gG L).map (·.1)=Vv L:=by unfold gG;rw[Wj];simp[zc1]
def IJ(h:Nd L):tI<|gG L:=by grind [tI,gG,xp7]
def İ(f:Zl->Zl)(x):∀z:bA Zl,Xg (z.map λk=>(k,f k)) x=if x∈z then Y (f x)else R
 |[]=>by simp[Xg]|k::z=>by simp only[Js,Xg,jc];by_cases h:x=k;grind;rw[aL h,İ f x z];simp[h]
theorem zye(h:x∈L.map (·.1)):∃v,Xg L x=Y v:=by
 induction L with
 |nil=>cases h
 |cons p L I=>let⟨k,v⟩:=p;unfold Xg;by_cases e:x=k;simp_all;grind
theorem II(L x):Xg (gG L) x=Xg L x:=by unfold gG;rw[İ];grind [zye,Ē,PJ]
def tI.nd{l}(h:tI l):Nd l:=by grind [Nd,tI]
def tI.sR{p l}(h:tI (p::l))(hx:x<=p.1):Xg l x=R:=by refine PJ λa=>?_;obtain⟨q,b,rfl⟩:=Xe.1 a;have c:p.1<q.1:=(Xw.1 h).1 q b;grind
def Mo:∀{l z:KV},tI l->tI z->(∀x,Xg l x=Xg z x)->l=z
 |[],[],_,_,_=>rfl|[],p::z,_,_,h=>by have:=h p.1;simp[Xg]at this
 |p::l,[],_,_,h=>by have:=h p.1;simp[Xg]at this
 |p::l,P::z,q,j,h=>by
  have hk:p.1=P.1:=by obtain e|e:=List.le_total p.1 P.1;refine jg λb=>?_;have a:=h p.1;simp only[Xg,dY]at a;rw[aL b,j.sR e]at a;cases a;refine jg λb=>?_;have a:=h P.1;simp only[Xg,dY]at a;rw[aL λe=>b e.symm,q.sR e]at a;cases a
  have d:p.2=P.2:=by have a:=h p.1;simp only[Xg,dY]at a;rw[aT hk]at a;exact ql a
  have c:=Prod.ext hk d;subst c;congr 1;refine Mo (Xw.1 q).2 (Xw.1 j).2 λx=>?_;by_cases e:x=p.1;subst e;rw[q.sR<|List.le_refl _,j.sR<|List.le_refl _];have a:=h x;grind [Xg]
def vQ(k v:Zl):KV->KV
 |[]=>[(k,v)]|q::l=>if k<=q.1 then(k,v)::(q::l).filter (λp=>bR (p.1≠k))else q::vQ k v l
theorem QK(k v):∀(l z:KV),l.foldl (wR k v) (M,z)=(M,z++l.filter (λp=>bR (p.1≠k)))
 |[],z=>Â
 |q::l,z=>by
  rw[GQ];have:wR k v (M,z) q=(M,if q.1=k then z else z++[q]):=by simp[wR]
  rw[this,QK];grind
theorem ī(k v):∀(l z:KV),(if(l.foldl (wR k v) (ao,z)).1=ao then(l.foldl (wR k v) (ao,z)).2++[(k,v)]else(l.foldl (wR k v) (ao,z)).2)=z++vQ k v l
 |[],z=>by simp[vQ]
 |q::l,z=>by
  rw[GQ];unfold vQ;by_cases h:k<=q.1;grind [wR,QK];have a:q.1≠k:=λe=>h Á;have:wR k v (ao,z) q=(ao,z++[q]):=by simp[wR,h,a]
  rw[this,ī k v l,aL h];simp
def xjx(l k v):C0 l k v ao=vQ k v l:=by grind [C0,Ev,ī]
def xdj(l k v):C0 l k v M=l.filter (λp=>bR (p.1≠k)):=by grind [C0,Ev,QK]
def Mk(k x):∀l:KV,Xg (l.filter λp=>bR (p.1≠k)) x=if x=k then R else Xg l x
 |[]=>by simp[Xg]|q::l=>by obtain⟨a,b⟩:=q;by_cases h:a=k;subst h;rw[List.filter_cons_of_neg Â,Mk a x l];grind [Xg];rw[List.filter_cons_of_pos Á];simp only[Xg];rw[Mk k x l];grind
theorem Ĭ(k v x):∀l:KV,Xg (vQ k v l) x=if x=k then Y v else Xg l x
 |[]=>by simp[vQ,Xg]|q::l=>by obtain⟨a,b⟩:=q;unfold vQ;by_cases h:k<=a;rw[aT h];show(if x=k then Y v else Xg (List.filter (λp=>bR (p.1≠k)) ((a,b)::l)) x)=_;rw[Mk];grind;rw[aL h];simp only[Xg];rw[Ĭ k v x l];grind
def ė{k v p}:∀{l:KV},p∈vQ k v l->p=(k,v)\/p∈l
 |[],h=>by simpa[vQ]using h|q::l,h=>by unfold vQ at h;by_cases e:k<=q.1;grind;rw[aL e]at h;obtain h|h:=jc.1 h;grind;obtain h|h:=ė h<;>grind
def ę{k v}:∀{l:KV},tI l->tI (vQ k v l)
 |[],_=>by simp[vQ,tI]|q::l,h=>by have b:=Xw.1 h;unfold vQ;by_cases e:k<=q.1;rw[aT e];refine Xw.2 ⟨λp a=>?_,h.filter _⟩;grind;rw[aL e];refine Xw.2 ⟨λp a=>?_,ę b.2⟩;obtain rfl|c:=ė a<;>grind
def xvc(h:Nd L)(k v):gG (gS L k v)=C0 (gG L) k v ao:=by rw[xjx];refine Mo (IJ<|h.gS k v) (ę<|IJ h) λx=>?_;grind [II,YT,Ĭ]
def xvb(h:Nd L)(k v):gG (jN L k)=C0 (gG L) k v M:=by rw[xdj];refine Mo (IJ<|h.jN k) ((IJ h).filter _) λx=>?_;rw[II,YS h,Mk,II]
def xer(m a X):(Y9 m a X).map T=X.map T:=by apply Ye;grind [Y9,A']
def xjo:∀{X z:bA Zl},X.map T=z.map T->T X.flatten=T z.flatten:=Á
theorem Mb(m a x):T (Y9 m a<|Ys x).flatten=T x:=by rw[xjo<|xer m a<|Ys x,(CY x).2.2]
structure Mf.ok(m:Mf):Prop where
 ep:m.ep<=5
 op:m.op<65536
 bF:m.bF<4294967296
 bC:m.bC<65536
 bM:m.bM<4294967296
 cW:m.cW<65536
 gT:m.gT<4294967296
 ga:T m.ga=32
 aQ:T m.aQ=32
structure FGs(F:Xv):Prop where
 gd:jB F
 fU:oQ F
 fl:∀n,(Zm F n).2=(T (jp F n):U)
def Mi{n f}(h:k≠n):Zm (Vm F n f) k=Zm F k:=by grind [Zm,YO]
theorem Mj(g:jB F){n f}(a:f.1=[]->f.2=0):Zm (Vm F n f) n=f:=by unfold Zm Vm;split;rename_i h;rw[QH g.nd];grind;rw[Į];rfl
def Ğ{t}(a:0<=t):∀(z:bA U) (F:Xv),z.Nodup->(∀n∈z,kh n)->jB F->oQ F->jB (z.foldl (gK t) F)/\oQ (z.foldl (gK t) F)/\
  ∀k,(k∉z->Zm (z.foldl (gK t) F) k=Zm F k)/\(k∈z->jp (z.foldl (gK t) F) k=(jp F k).take (bL (Wx t<|Zm F k))/\(Zm (z.foldl (gK t) F) k).2=(T (jp (z.foldl (gK t) F) k):U))
 |[],F,_,_,g,e=>⟨g,e,λk=>⟨λ_=>O,λh=>È⟩⟩
 |n::z,F,j,q,g,e=>by
  have d:=On.1 j;have c:jB<|gK t F n:=g.np _ _;let⟨u,o,s⟩:=Ğ a z _ d.2 (λx i=>q x<|by simp[i]) c (e.gK a<|q n Â);refine⟨u,o,λk=>?_⟩;have b:∀{k},k≠n->Zm (gK t F n) k=Zm F k:=λh=>Mi h;let⟨W,m⟩:=s k;refine⟨λh=>?_,λh=>?_⟩;grind;by_cases hk:k=n;subst hk;have S:Zm (gK t F k) k=((jp F k).take (bL (Wx t<|Zm F k)),(T ((jp F k).take (bL (Wx t<|Zm F k))):U)):=Mj g Á
  grind [jp,Zm];have f:k∈z:=by obtain h|h:=jc.1 h;exact dC h hk;exact h
  let⟨r,l⟩:=m f;refine⟨?_,l⟩;show jp (z.foldl (gK t)<|gK t F n) k=_;rw[r,b hk,show jp (gK t F n) k=jp F k from gv o7<|b hk]
def zzi(g:jB F):(Zk F).Nodup:=((Xo _ _).nodup_iff).2 g.nd
def zwy{t}(f:0<=t)(g:jB F)(e:oQ F):FGs (uT t F)/\∀k,jp (uT t F) k=(jp F k).take (bL (Wx t<|Zm F k)):=by
 have b:∀n∈Zk F,kh n:=λn c=>by have:n∈F.map (·.1):=((Xo _ _).mem_iff).1 c;obtain⟨p,d,rfl⟩:=Xe.1 this;exact(e p d).1
 let⟨q,u,z⟩:=Ğ f _ F (zzi g) b g e;have a:∀k,jp (uT t F) k=(jp F k).take (bL (Wx t _))/\(Zm (uT t F) k).2=(T (jp (uT t F) k):U):=λk=>by by_cases h:k∈Zk F;exact(z k).2 h;have i:=(z k).1 h;have j:k∉F.map (·.1):=λx=>g.L9.1 x<|jg λx=>h<|g.Bp.2 x;grind [Zm,Ĩ,uT,jp]
 exact⟨⟨q,u,λk=>(a k).2⟩,λk=>(a k).1⟩
def xqk{a b:bA U}(h:a.Perm b):a.sum=b.sum:=by
 induction h with
 |nil=>rfl|cons x _ I=>grind
 |swap x y l=>grind|trans _ _ z q=>omega
def į(g:jB F):bO F=((F.map (·.1)).map λn=>(T (jp F n):U)).sum:=by
 unfold bO;rw[Wj];congr 1;refine W6 λp a=>?_;have:Xm F p.1=Y p.2:=by
  have h:=g.nd;clear g;induction F with
  |nil=>cases a
  |cons q F I=>grind [Xm]
 grind [jp]
def xdb{G}(f:jB F)(g:jB G)(e:∀n,jp G n=jp F n):bO G=bO F:=by rw[į f,į g,show(λn=>(T (jp G n):U))=λn=>(T (jp F n):U)from funext λn=>å];exact xqk<|((List.perm_ext_iff_of_nodup g.nd f.nd).2 λn=>by rw[f.L9,g.L9,e]).map _
theorem Vs(h:(F.map (·.1)).Nodup)(p):p∈F↔Xm F p.1=Y p.2:=by refine⟨λa=>?_,λa=>Ve a⟩;induction F<;>grind [Xm]
def QM(h:ſ.Perm B)(a:(ſ.map (·.1)).Nodup)(n):Xm ſ n=Xm B n:=by
 have b:=(h.map _).nodup_iff.1 a;cases e:Xm ſ n with
 |some v=>exact(((Vs b (n,v)).1<|h.mem_iff.1<|(Vs a (n,v)).2 e)).symm
 |none=>cases z:Xm B n with|none=>rfl|some v=>rw[(Vs a (n,v)).1<|h.mem_iff.2<|(Vs b (n,v)).2 z]at e;cases e
def Ĳ(g:jB F)(k):Xm F k=if(Zm F k).1=[]then R else Y (Zm F k):=by unfold Zm;cases e:Xm F k with|none=>simp|some v=>simp;exact g.ne _<|Ve e
def Ę(a:jB ſ)(b:jB B)(h:∀k,Zm ſ k=Zm B k):ſ.Perm B:=by refine(List.perm_ext_iff_of_nodup ((Wk.1 a.nd).imp λh e=>h<|congrArg _ e)<|(Wk.1 b.nd).imp λh e=>h<|congrArg _ e).2 λp=>?_;rw[Vs a.nd,Vs b.nd,Ĳ a,Ĳ b,h]
def ħ(h:(F.map (·.1)).Nodup)(q k):Xm (F.filter q) k=(Xm F k).filter λv=>q (k,v):=by
 cases e:Xm F k with
 |none=>
  cases z:Xm _ k with|none=>rfl|some v=>rw[(Vs h (k,v)).1 (Ja.1<|Ve z).1]at e;cases e
 |some v=>
  cases j:q (k,v)with
  |true=>rw[(Vs (h.sublist<|List.filter_sublist.map _) (k,v)).1<|Ja.2 ⟨Ve e,j⟩];grind
  |false=>cases z:Xm _ k with|none=>grind|some u=>have a:=Ja.1<|Ve z;grind [Vs]
structure Tw(d:Dk)(f:Rf):Prop where
 bU:f.bU=d.bU
 gF:jB f.F
 gL:jB d.L
 mJ:∀k,Zm f.F k=Zm d.L k
 mt:wJ f.F
 fU:oQ d.L
 nx:match d.nx with
  |none=>f.nE=ao|some c=>f.nE=M/\f.ko=c.2.1/\f.cQ=c.2.2
 cQ:0<=f.cQ
 ko:f.ko<=9223372036854775807
theorem Tw.cS(h:Tw d f):f.cS=d.cS:=by have:=h.nx;grind [Rf.cS,Dk.cS]
def Tw.ID(h:Tw d f):f.F.Perm d.L:=Ę h.gF h.gL h.mJ
def Tw.wO(h:Tw d f)(n):jp f.F n=jp d.L n:=gv o7<|h.mJ n
def Tw.wP(h:Tw d f):bO f.F=bO d.L:=xdb h.gL h.gF h.wO
def ĩ{o}(h:Xm F k=o):Zm F k=o.getD ([],0):=by unfold Zm;rw[h]
def wQ:∀{F:Xv},(∀p∈F,p.2.1≠[])->(T F:U)<=bO F
 |[],_=>by simp[bO]|p::F,h=>by have b:=wQ λq a=>h q<|jw _ a;grind [Z0,P.bO]
def Tw.rZ(h:Tw d f):oQ f.F:=λp a=>h.fU p<|h.ID.mem_iff.1 a
def Tw.ok(h:Tw d f)(b:P.bO d.L<=400000):ZB f:=⟨h.rZ,h.gF.nd,by have a:=wQ h.gF.ne;rw[h.wP]at a;omega,h.cQ,h.ko⟩
def xuh{n}(g:jB F)(h:y.Perm<|(F.filter (λp=>p.1 != n)++[(n,x,(T x:U))]).filter o4):jB y/\∀k,Zm y k=if k=n then(x,(T x:Int))else Zm F k:=by
 have d:((F.filter (λp=>p.1 != n)++[(n,x,(T x:U))]).map (·.1)).Nodup:=by rw[qz,GK];refine⟨g.nd.sublist<|List.filter_sublist.map _,Â,λa m b i=>?_⟩;obtain⟨p,j,rfl⟩:=Xe.1 m;simp at i;rw[i];simpa using(Ja.1 j).2
 have c:(((F.filter (λp=>p.1 != n)++[(n,x,(T x:U))]).filter o4).map (·.1)).Nodup:=d.sublist<|List.filter_sublist.map _;refine⟨⟨(h.map _).nodup_iff.2 c,λp j=>by grind [o4]⟩,λk=>?_⟩;have l:Xm (F.filter (λp=>p.1 != n)++[(n,x,(T x:U))]) k=if k=n then Y (x,(T x:U))else Xm F k:=by
  by_cases hk:k=n;subst hk;rw[aT O];exact(Vs d (k,x,(T x:U))).1 Â;rw[aL hk];cases e:Xm F k with
  |some v=>exact(Vs d (k,v)).1<|by simp[hk,Ve e]
  |none=>cases z:Xm (F.filter (λp=>p.1 != n)++[(n,x,(T x:U))]) k with|none=>rfl|some v=>obtain f|f:=je.1 (Ve z);rw[(Vs g.nd (k,v)).1 (Ja.1 f).1]at e;cases e;grind
 rw[ĩ<|(QM h ((h.map _).nodup_iff.2 c) k).trans<|ħ d o4 k,l];by_cases hk:k=n;rw[aT hk,aT hk];cases x<;>simp[Option.filter,o4]
 rw[aL hk,aL hk];unfold Zm;cases e:Xm F k with|none=>rfl|some v=>have:=g.ne _<|Ve e;grind [o4]
def xoy{t}(g:jB F)(h:y.Perm<|(F.map<|sJ t).filter o4):jB y/\∀k,Zm y k=(if(jp F k).take (bL (Wx t<|Zm F k))=[]then([],0)else((jp F k).take (bL (Wx t<|Zm F k)),Wx t<|Zm F k)):=by
 have b:((F.map<|sJ t).map (·.1)).Nodup:=by rw[Wj];exact g.nd
 have a:(((F.map<|sJ t).filter o4).map (·.1)).Nodup:=b.sublist<|List.filter_sublist.map _;refine⟨⟨(h.map _).nodup_iff.2 a,λp c=>by grind [o4]⟩,λk=>?_⟩;have d:Xm (F.map<|sJ t) k=(Xm F k).map λv=>(sJ t (k,v)).2:=by
  cases e:Xm F k with
  |some v=>exact(Vs b _).1<|Xe.2 ⟨_,Ve e,O⟩
  |none=>cases q:Xm _ k with|none=>rfl|some v=>let⟨p,c,z⟩:=Xe.1<|Ve q;have f:p.1=k:=gv o7 z;have i:=(Vs g.nd p).1 c;grind
 rw[ĩ<|(QM h ((h.map _).nodup_iff.2 a) k).trans<|ħ b o4 k,d];unfold jp Zm;cases e:Xm F k<;>grind [o4,sJ]
section
attribute[local go_sem] zn zg
def Rf.dk(f:Rf)(v:Zv)(F:Xv)(a:ez)(n:U)(o:ez):Rf:={f with fv:=v,F:=F,nE:=a,ko:=n,gw:=o}
def Rf.vN(f:Rf)(v F):∃n,{f.dZ with fv:=v,F:=F}=f.dk v F f.nE n f.gw/\f.dZ=f.dk f.fv f.F f.nE n f.gw:=by unfold Rf.dZ;split;exact⟨_,O,O⟩;exact⟨_,O,O⟩
theorem Tw.dZ(h:Tw d f)(n:d.cS=ao){L}(j:jB F)(l:jB L)(i:∀k,Zm F k=Zm L k)(b:wJ F)(a:oQ L):Tw {d.dZ with L:=L} {f.dZ with fv:=v,F:=F}:=by
 let⟨r,z,u,q⟩:=d;have g:=h.nx;have m:=h.ko;cases q with
 |none=>
  simp only at g;have e:f.dZ=f:=by unfold Rf.dZ;rw[aL<|by simp[g]]
  rw[e];exact⟨h.bU,j,l,i,b,a,g,h.cQ,h.ko⟩
 |some c=>
  have e:f.dZ={f with ko:=f.ko-1}:=by unfold Rf.dZ;rw[aT g.1]
  rw[e];exact⟨h.bU,j,l,i,b,a,⟨g.1,Á,g.2.2⟩,h.cQ,Á⟩
theorem Tw.eS(h:Tw d f)(m:d.cS=M)(j:F.Perm<|(f.F.map<|sJ f.cQ).filter o4)(l:wJ F):Tw d.eS<|f.dk v F ao f.ko ao:=by let⟨r,z,L,q⟩:=d;have e:=h.nx;cases q with|none=>simp[Dk.cS]at m|some c=>let⟨g,u⟩:=xoy h.gF j;have n:=e.2.2▸h.cQ;let⟨a,b⟩:=zwy n h.gL h.fU;refine⟨h.bU,g,a.gd,λk=>?_,l,a.fU,O,h.cQ,h.ko⟩;show Zm F k=Zm (uT c.2.2 L) k;have i:Zm (uT c.2.2 L) k=(jp (uT c.2.2 L) k,(T (jp (uT c.2.2 L) k):U)):=Prod.ext O<|a.fl k;have o:(jp L k,(Zm L k).2)=Zm L k:=O;have p:=oQ.mJ (L:=L) h.fU k;rw[u k,i,b k,h.wO k,h.mJ k,e.2.2];grind [Wx]
def qZ(C:Q)(f:Rf)(x:ez×Dk)(w:Zy)(e:kH)(w':Zy):Prop:=e=ai (bG x.1)/\∃v F a n,Xf C f w (f.dk v F a n<|f.gw&&x.1) w'/\Tw x.2 (f.dk v F a n<|f.gw&&x.1)
theorem qZ.cr(h:Tw d f)(a:d.cS=M)(k:LR C f w w'):qZ C f (ao,d.eS) w (ai<|bG ao) w':=by let⟨v,F,z,q,j⟩:=k;refine⟨O,v,F,ao,f.ko,?_,?_⟩;rw[Vo];exact z;rw[Vo];exact h.eS a q j
def Dk.put(d:Dk)(n:U)(x:Zl):ez×Dk:=if d.cS=M then(ao,d.eS)else(M,{d.dZ with L:=Vm d.L n (x,(T x:U))})
def Md(C f d n x w)(h:Ju w C f)(a:Tw d f)(o:bO d.L<=400000)(l:kh n)(hx:T x<=1000000):aK prog 183 #[zq C,J n,E x] w<|qZ C f (d.put n x) w:=by refine(xui C f n x w h<|a.ok o).mono λe p k=>?_;unfold Dk.put;cases z:d.cS;obtain⟨rfl,v,F,c,i,j⟩:=k.go<|a.cS.trans z;let⟨g,q⟩:=xuh a.gF i;obtain⟨m,b,-⟩:=f.vN v F;rw[aL Â];refine⟨O,v,F,f.nE,m,?_,?_⟩;grind;rw[Cc,<-b];refine a.dZ z g (a.gL.np _ _) (λk=>?_) j<|a.fU.np l ⟨Â,Â,hx⟩;rw[q k];by_cases hk:k=n;subst hk;rw[aT O,Mj a.gL Á];rw[aL hk,Mi hk,a.mJ];obtain⟨rfl,c⟩:=k.cr<|a.cS.trans z;grind [qZ.cr]
def Tw.Bp(h:Tw d f):Zk d.L=f.F.map (·.1):=by have c:Zk d.L=(f.F.map (·.1)).mergeSort LL:=YZ (h.ID.map _).symm;rw[c];apply List.mergeSort_of_pairwise;refine Wk.2<|h.mt.imp λ{a b} q=>?_;grind
def Yc(z:U->ez):bA U->Dk->ez×Dk
 |[],d=>(M,d)|n::q,d=>if z n=M then Yc z q d else if d.cS=M then(ao,d.eS)else Yc z q (d.qR n)
def QG(z):∀(q:bA U) (d:Dk),Yc z q d=Yc (λ_=>ao) (q.filter λn=>!z n) d
 |[],d=>rfl|n::q,d=>by cases hk:z n;simp only[Yc,hk,KB];simp only[Bool.not_false,dY,Yc,ja,kB,QG z q];simp only[Yc,hk,KB];simp only[Bool.not_true,ja,kB,dY,QG z q]
def tJ(n:U):Ze:=[aD bB n]
def QP(n):∀u∈tJ n,u.oneCell'=M:=by intro u a;simp[tJ]at a;rw[a];rfl
def Mh:El 40 3 1:= .Be ((eZ 40).trans Tryz.underlying40) (z:=J 0) (b:=8) Ä Ã O Ã
def Dk.vM(d:Dk)(n):d.put n []=if d.cS=M then(ao,d.eS)else(M,d.qR n):=by grind [Dk.put,Dk.qR,Vm]
def QJ(L n):bO (nS L n)<=bO L:=by grind [Ī]
def oU(n l h k:U):ez:=(k==0)||((k==n)||(!bR (k<l)&& !bR (h<k)))
def Xf.Ma{z:Type}{q e k g}{l:bA z}(h:Ju w C f)(t:Xf C f w q w')(r:Rw w e k g v l)(b:e≠83/\e≠123/\e≠200/\e≠197):Rw w' e k g v l:=by refine r.y t.y λx c a=>?_;obtain a|a|a|a:=a;exact r.ir h.bT (Ne.symm b.1) x c a;exact r.fh h.fs b.2.1 c a;exact r.fh h.ss b.2.2.1 c a;exact r.fh h.ps b.c c a
structure vP(C:Q)(f:Rf)(d:Dk)(w:Zy)(z:Rf)(w1:Zy):Prop where
 rt:Xf C f w z w1
 tw:Tw d z
 dk:∃v F a n,z=f.dk v F a n f.gw
 q8:bO d.L<=400000
def vP.end{b}(h:vP C f d w b w1):qZ C f (M,d) w (ai<|bG M) w1:=by obtain⟨v,F,a,n,rfl⟩:=h.dk;refine⟨O,v,F,a,n,?_,?_⟩;rw[Cc];exact h.rt;rw[Cc];exact h.tw
theorem vP.eG{j x i e}(h:vP C f d w j w1)(k:qZ C j x w1 e i)(r:x.1=M->bO x.2.L<=400000):e=ai (bG x.1)/\(x.1=M->∃z,vP C f x.2 w z i/\Xf C j w1 z i)/\(x.1=ao->qZ C f x w (ai<|bG ao) i):=by obtain⟨v,F,a,n,rfl⟩:=h.dk;let⟨b,D⟩:=x;obtain⟨rfl,q,m,o,p,c,g⟩:=k;refine⟨O,λl=>?_,λl=>?_⟩;cases l;rw[Cc]at c g;exact⟨_,⟨h.rt.aE c,g,⟨q,m,o,p,O⟩,r O⟩,c⟩;cases l;rw[Vo]at c g;refine⟨O,q,m,o,p,?_,?_⟩;rw[Vo];exact h.rt.aE c;rw[Vo];exact g
def ġ(C f d n lo c w)(h:Ju w C f)(u:Tw d f)(hu:bO d.L<=400000):aK prog 185 #[aU<|some ⟨C,0,R⟩,aD bB n,aD bB lo,aD bB c] w<|qZ C f (Yc (oU n lo c) (Zk d.L) d) w:=by
 have hl:T f.F<=400000:=by have x:=wQ u.gF.ne;rw[u.wP]at x;omega
 have hx:=h;have X:=u;have HU:=hu;have HC:H (Yc (oU n lo c) (Zk d.L) d=Yc (λ_=>ao) ((f.F.map (·.1)).filter λk=>!oU n lo c k) d):=by show _=_;rw[QG,u.Bp]
 let⟨a,cap,hv⟩:=h.fs.dL;have cs:=hv;clear h u hu hv;rw[HC.o];go_enter func185.1,Tryz.ntmps185;go_wp2;go_loopw [9,10] (λv i wr=>∃j:Q,j<=T f.F/\i=aD bB j/\ff w wr 3 1 tJ v (((f.F.map (·.1)).take j).filter λk=>!oU n lo c k)) (λ_ i _=>bL (T f.F-bZ i));grind [ff.nil];obtain⟨j,hj,rfl,ho⟩:=hrel;have t:=ho;have ſ:=xe<|hx.y ho.nw;have c3:N wr ⟨C,3,R⟩=aB a (T f.F) cap:=cs▸ſ.o.bT.i 3 O;have I:=J0 (λk=>!oU n lo c k) ((f.F.map (·.1)).take j);rw[xf,jl]at I;clear ho;by_cases o:j<T f.F;have i1:(j:U)<(T f.F:Q):=À
 obtain⟨g,rfl,P⟩:=ſ.o.fs.lp (λ_=>O) o cs;have e0:N wr ⟨g,j*3,R⟩=aD bB f.F[j].1:=P 0 À;have r:H ((((f.F.map (·.1)).take<|j+1).filter λk=>!oU n lo c k)=(((f.F.map (·.1)).take j).filter λk=>!oU n lo c k)++if oU n lo c f.F[j].1 then []else [f.F[j].1]):=by show _=_;rw[zp Á,Yu,Fl];congr 1;cases hk:oU n lo c f.F[j].1<;>simp[hk]
 clear P;generalize f.F[j].1=k at*;generalize(((f.F.map (·.1)).take j).filter λk=>!oU n lo c k)=hw at*;cases hk:oU n lo c k
 ·have s:¬k=0/\¬k=n/\(k<lo\/(¬k<lo/\c<k)):=by unfold oU at hk;simp at hk;simp;omega
  rw[hk]at r;let⟨h2,q1,s⟩:=s;have bb:(k != 0)=M:=by simpa using h2
  have bc:(k != n)=M:=by simpa using q1
  clear hk;obtain q2|⟨q2,q3⟩:=s;all_goals
   go_wp2_with (refine ff.jK Mh k t À O O (QP _) O O O O ?_);intro g3 ba w3 v';have w2:=xe v';clear v';go_wp2;go_roundw;exact⟨j+1,À,Å,by rw[r.o];exact w2.o⟩;exact Ì
 ·have s:k=0\/(¬k=0/\k=n)\/(¬k=0/\¬k=n/\¬k<lo/\¬c<k):=by unfold oU at hk;simp at hk;simp;omega
  rw[hk]at r;clear hk;obtain h2|⟨h2,q1⟩|⟨h2,q1,q2,q3⟩:=s;all_goals
   go_wp2;go_roundw;exact⟨j+1,À,Å,by rw[r.o];simpa using t⟩;exact Î
 obtain rfl:j=T f.F:=À
 have i1:¬(T f.F:U)<(T f.F:Q):=À
 rw[qp Â]at t I;have HI:H (∀k∈((f.F.map (·.1)).filter λk=>!oU n lo c k),kh k):=λk hk=>by obtain⟨p,h1,rfl⟩:=Xe.1 (Ja.1 hk).1;exact(X.rZ p h1).1
 have HD:H<|vP C f d w f wr:=⟨.nw hx t.nw,X,⟨f.fv,f.F,f.nE,f.ko,O⟩,HU⟩;obtain⟨a9,ih,rfl⟩:=t.dL;have HR:=xe t.rw;generalize hns:((f.F.map (·.1)).filter λk=>!oU n lo c k)=ns at*;have B:=xe hns;clear hns;go_wp2;clear c3 ſ t hx X HU cs HC;go_loopw [12] (λi wq=>∃(j:Q) (b:Dk) (g':Rf),j<=T ns/\i=aD bB j/\vP C f b w g' wq/\Rw wq 3 1 tJ (aB a9 (T ns) ih) ns/\Yc (λ_=>ao) ns d=Yc (λ_=>ao) (ns.drop j) b) (λi _=>bL (T ns-bZ i));exact⟨0,d,f,À,O,HD.o,HR.o,O⟩;obtain⟨j,b,g',hj,rfl,hd,hr,s⟩:=hrel;have l:=xe hd;have D:=xe hr;have y:=xe s;clear hd hr s HD HR;by_cases o:j<T ns
 ·have i2:(j:U)<(T ns:Q):=À;obtain⟨g,rfl,P⟩:=D.o.lp (λ_=>O) o O;have e0:N wr ⟨g,j*1,R⟩=aD bB ns[j]:=P 0 À;rw[Cd]at e0;have h1:=b.vM ns[j];have e1:=xe<|HI.o _<|Xk o;have m:H<|Yc (λ_=>ao) ns d=if b.cS=M then(ao,b.eS)else Yc (λ_=>ao) (ns.drop<|j+1) (b.qR ns[j]):=by show _=_;rw[y.o,Zx o];simp only[Yc,ja,kB]
  clear P;generalize ns[j]=k at*;go_wp2;refine(Md C g' b k [] _ l.o.rt.dI l.o.tw l.o.q8 e1.o Â).mono ?_;rintro e w3 hk;rw[h1]at hk;have es:(if b.cS=M then(ao,b.eS)else(M,b.qR k)).1=M->bO (if b.cS=M then(ao,b.eS)else(M,b.qR k)).2.L<=400000:=λ_=>by cases hs:b.cS;simp;exact Yx (QJ _ _) l.o.q8;rename_i q;rw[hs]at q;simp at q
  obtain⟨rfl,x,G⟩:=l.o.eG hk es;clear hk es;cases hs:b.cS
  ·rw[hs,aL Â]at m;rw[hs,aL Â]at x G;let⟨f2,h3,h4⟩:=x O;have W:=xe (h4.Ma l.o.rt.dI D.o Ã);have S:=xe h3;clear x G h3 h4 h1;go_wp2;go_roundw;exact⟨j+1,_,f2,À,Å,S.o,W.o,m.o⟩;simp[bZ];omega
  rw[hs,aT O]at m;rw[hs,aT O]at x G;have z:=xe<|G O;rw[<-m.o,<-B.o]at z;clear x G h1;go_wp2;go_ret;exact z.o
 obtain rfl:j=T ns:=À
 have i2:¬(T ns:U)<(T ns:Q):=À
 have m:H<|Yc (λ_=>ao) ns d=(M,b):=by show _=_;rw[y.o,Vl];rfl
 have z:=xe l.o.end;rw[<-m.o,<-B.o]at z;go_wp2;go_ret;exact z.o
end
section
attribute[local go_sem] zn zg VV
def xa1(d e a)(F:T d<=4096)(G:T e<=4096)(S:T a<=4063)(n:Q)(I:n<=255)(w)(y:Yq w):
  aq 107 #[E d,E e,E a,J n] w (E<|yu (Wu e d) a n):=by
 have r:Yq w:=y;have o:=uP e d;go_enter func107.1,Tryz.ntmps107;go_wp2;go_fit (FJ e d À À _ r);rintro en w1⟨rfl,l⟩;let⟨c,f⟩:=JP<|Wu e d;have g:=xe f;rw[f]at o;rw[f];clear f;go_wp2;go_loopw [10,11,12] (λv b q wr=>∃k:Q,k<=8/\q=J ((k:U)+1)/\b=E (bk c a k)/\v=E (sG c a k)/\aP (V<|Z w) w wr) (λ_ _ q _=>bL (9-bZ q));exact⟨0,À,O,O,O,l⟩;obtain⟨k,hk,rfl,rfl,rfl,j⟩:=hrel;have D:=Lp c a k;by_cases C:32*k<n
 ·have u:(32*(k:U))<(n:Q):=À;have z:=WD c a k;have p:H<|bk c a (k+1)=Wu c (bk c a k++(a++[bq<|k+1])):=O;have x:H<|sG c a (k+1)=sG c a k++bk c a (k+1):=O;have t:H<|nb (k+1) 1=[bq<|k+1]:=by show _=_;simp[nb]
  generalize bk c a k=B at*;generalize sG c a k=W at*;have i:=uP c<|B++(a++[bq<|k+1]);go_wp2;go_fit (wD _ 1 (k+1) 1 À O Ã _);rintro en X⟨rfl,h⟩;rw[t.o];go_wp2;go_fit (FJ c _ À Ç _<|r.gN<|Xs j h);rintro en P⟨rfl,m⟩;rw[<-p.o];rw[<-p.o]at i;go_wp2;go_roundw;exact⟨k+1,À,Å,O,by rw[x.o],Xs j<|Xs h m⟩;exact Ì
 have u:¬(32*(k:U))<(n:Q):=À
 have s:=xe (WE c a n k hk À);generalize sG c a k=W at*;go_wp2;go_ret;exact⟨by rw[g.o,<-s.o];rfl,j⟩
theorem xks(a cap w)(b:Yq w):aq 109 #[aB a 0 cap] w (E<|J9 []):=by go_enter func109.1,Tryz.ntmps109;go_wp2;go_fit (Cw [] Ã _ b);rintro e w1⟨rfl,c⟩;go_wp2;go_ret;exact⟨O,c⟩
def xt3(a b):oY (nb 1 1++(a++b))=Bn a b:=O
def xkt(p)(n:T p<=4095)(g q cap w)(k:Yq w)(i:N w (K g q)=E p):
  aq 109 #[aB (Y ⟨g,q,R⟩) 1 cap] w (E<|J9 [p]):=by
 have h:Yq w:=k;have m:=Z2 0 1;have j:H<|oY (nb 0 1++p)=J9 [p]:=by show _=_;rw[xkq];rfl
 have b:∀c:Zy,aq 167 #[J 0,J 1] c _:=λc=>wD 0 1 0 1 O O Ã c;generalize nb 0 1=z at*;go_enter func109.1,Tryz.ntmps109;go_wp2;go_region_with (first
  |(go_at_call 167;go_fit (b _);rintro u w1⟨rfl,a⟩;have l:N w1 (K g q)=E p:=(a.cell<|js i).trans i;have d:Yq w1:=Yq.gN (Yq.ac h (Yq.iE h) (zt _ _).drew) a)
  |(go_at_call 103;go_fit (Cw (z++p) Á _ d);rintro u o⟨rfl,f⟩))
 all_goals go_wp2
 all_goals go_ret
 all_goals exact⟨by rw[<-j.o];rfl,VS<|Xs a f⟩
def xkr:∀(m:Q) (L:bA Zl),T L=m->0<m->m<=256->(∀x∈L,T x<=4095)->∀(g off cap:Q),m<=cap->∀w:Zy,Yq w->wN w g off L->
  aq 109 #[aB (Y ⟨g,off,R⟩) m cap] w (E<|J9 L):=by
 intro m;induction m using Nat.strongRecOn with|_ m ih=>
 intro L h1 h0 hs h2 g off cap S w hx c;by_cases t:m=1;subst t;obtain⟨p,rfl⟩:∃p,L=[p]:=List.length_eq_one_iff.1 h1;exact xkt p (h2 p Â) g off cap w hx (c 0 Â);have f:∀j,j<m->∀(L:bA Zl),T L=j->0<j->j<=256->(∀x∈L,T x<=4095)->∀(g off cap:Q),j<=cap->∀w:Zy,Yq w->wN w g off L->
  aq 109 #[aB (Y ⟨g,off,R⟩) j cap] w (E<|J9 L):=ih
 have y:Yq w:=hx;have I:wN w g off L:=c;have ho:∀x∈L,T x<=4095:=h2;have l:=xe h1;have n:∀v:Zy,aq 167 #[J 1,J 1] v (E<|nb 1 1):=λv=>wD 1 1 1 1 O O Ã v;go_enter func109.1,Tryz.ntmps109;go_wp2;go_loopw [3] (λi wr=>∃k:Q,k<8/\2^k<m/\i=J (2^k:Q)/\wr=w) (λi _=>bL (m-bZ i));exact⟨0,À,À,O,O⟩;obtain⟨k,hk,bb,rfl,rfl⟩:=hrel;have o:H<|2^(k+1)=2*2^k:=by show _=_;rw[Cb];omega
 have hr:0<2^k:=Nat.two_pow_pos k;have ba:k<7\/128<=2^k:=by by_cases h:k<7;omega;grind
 have q:∀a b:bA Zl,T a=2^k->0<T b->T b<=2^k->J9 (a++b)=Bn (J9 a) (J9 b):=λa b ha B hb=>xa8 a b k hk ha B hb;by_cases bc:2*2^k<m
 ·generalize 2^k=u at*;have i1:(2*(u:U))<(m:Q):=À;go_wp2;go_roundw;exact⟨k+1,À,by rw[o.o];omega,by rw[o.o];go_num,bD⟩;exact Ì
 generalize 2^k=u at*;have z:T (L.take u)=u:=by rw[xf,l.o];omega
 have cs:T (L.drop u)=m-u:=by rw[Zn,l.o]
 have HR:H<|J9 L=Bn (J9<|L.take u) (J9<|L.drop u):=by show _=_;rw[<-q _ _ z À À,Km]
 have v':∀x∈L.take u,T x<=4095:=λx G=>ho x<|Fq G;have F:∀x∈L.drop u,T x<=4095:=λx G=>ho x<|List.mem_of_mem_drop G;have LA:wN wr g off<|L.take u:=by intro j D;rw[z]at D;have:=I j Á;rw[this,List.getElem_take]
 have LB:wN wr g (off+u)<|L.drop u:=by intro j D;rw[cs]at D;have:=I (u+j) Á;rw[GU,this,List.getElem_drop]
 have ra:=IB (L.take u) À;have rb:=IB (L.drop u) À;have es:H<|T (L.take u)=u:=z;have W:H<|T (L.drop u)=m-u:=cs;generalize L.take u=X at*;generalize L.drop u=g' at*;have i4:(m:U)<=(cap:Q):=À
 go_wp2;go_fit (f u À X es.o À À v' g off cap À _ y LA);rintro en w1⟨rfl,d⟩;go_wp2;go_fit (f (m-u) À g' W.o À À F g (off+u) (cap-u) À _ (y.gN d)<|LB.ac (js<|c 0 À) d);rintro en w2⟨rfl,r⟩;generalize J9 X=P at*;generalize J9 g'=hd at*;have bd:=Z2 1 1;have HN:H<|oY (nb 1 1++(P++hd))=Bn P hd:=xt3 P hd;generalize nb 1 1=h3 at*;go_wp2;go_fit (n _);rintro en w3⟨rfl,s⟩;go_wp2;go_fit (Cw (h3++(P++hd)) É _<|y.gN<|Xs d<|Xs r s);rintro en w4⟨rfl,C⟩;go_wp2;go_ret;exact⟨by rw[HR.o,<-HN.o];rfl,Xs d<|Xs r<|Xs s C⟩
end
section
def QL(a):IntKind.i64.wrap (e8 a)=e8 a:=by have b:=uz a;have c:=uQ a;grind [zh]
def Gb(a b):lr .xor bB (e8 a) (e8 b)=e8 (a^^^b):=by
 show IntKind.i64.wrap ((dM 64 (aN a:U)^^^dM 64 (aN b:U)).toNat:U)=_;have c:dM 64 (aN a:U)=BitVec.ofNat 64 (aN a):=Â
 have d:dM 64 (aN b:U)=BitVec.ofNat 64 (aN b):=Â
 have f:=a.toNat_lt;have g:=b.toNat_lt;have e:(BitVec.ofNat 64 (aN a)^^^BitVec.ofNat 64 (aN b)).toNat=aN (a^^^b):=by rw[BitVec.toNat_xor,GL,GL,Jd À,Jd À];simp
 rw[c,d,e];exact QL<|a^^^b
def ĭ(a):lr .xor bB (e8 a) 99=e8 (a^^^99):=Gb a 99
def ki(f:Zu)(n:Q):Ze:=(iC n).map λi=>aD bB (e8<|f i)
theorem Mp(f n):T (ki f n)=n:=by simp[ki]
def xV(f n):V (ki f n).toArray=n:=by simp[ki]
def ĥ(f n i)(h:i<n):(ki f n)[i]?=(J<|e8<|f i):=by simp[ki,h]
def xyl(f n i)(h:i<n):(ki f n).toArray[i]?=(J<|e8<|f i):=by simp[ki,h]
def Mq(f n):(ki f n).toArray.all (·.oneCell')=M:=by rw[jn];intro v a;simp only[ki,KC,Xe]at a;obtain⟨i,_,rfl⟩:=a;rfl
theorem xob{f g}(h:∀i,i<n->f i=g i):ki f n=ki g n:=by grind [ki,W6]
theorem xym(f n k v):(ki f n).set k (J<|e8 v)=ki (λi=>if i=k then v else f i) n:=by apply Ye;grind [ki]
def xtg(f n k v):aA (ki f n).toArray k (J<|e8 v)=bH (ki (λi=>if i=k then v else f i) n):=by grind [xym]
def Jp(w:Zy)(b:Q)(f:Zu)(n:Q)(t:Zt):Prop:=w.heap[b]?=Y (au (bH (ki f n)) t (0,0))
def Jp.i{k f}(h:Jp w b f n t)(hk:k<n):N w (K b k)=(J<|e8<|f k):=by rw[xb _ _ _ _ _ _ h,xyl _ _ _ hk]
def Jp.eQ{k f}(h:Jp w b f n t):aX w (K b k)=ao:=xt _ _ _ _ _ h
theorem Jp.cH{f g}(h:Jp w b f n t)(e:∀i,i<n->f i=g i):Jp w b g n t:=by grind [Jp,xob]
theorem Jp.H{f}(h:Jp w b f n t)(k v):Jp (ay w (K b k)<|J<|e8 v) b (λi=>if i=k then v else f i) n t:=by unfold Jp at*;rw[jx _ _ _ _ _ _ h,xtg]
def Jp.dR{a k f}(h:Jp w b f n t)(c:b≠a):Jp (ay w (K a k) v) b f n t:=by grind [Jp,jj]
def Jp.ac{B f}(h:Jp w b f n t)(c:aP B w w')(a:b<B):Jp w' b f n t:=(c.block _ a).trans h
attribute[local go_sem] Gb ĭ
def jc6:∀x:Z8,128<=aN x->lr .xor bB (2*e8 x) 283=e8 (oO x):=AX Ê
def jc7:∀x:Z8,¬128<=aN x->2*e8 x=e8 (oO x):=AX Ê
def Ml(x w):aG 178 #[J<|e8 x] w (J<|e8<|oO x):=by
 have l:=uz x;have u:=uQ x;by_cases h:128<=aN x
 ·have a:(255:U)<2*e8 x:=by simp[e8];omega
  have b:=jc6 x h;go_enter func178.1,Tryz.ntmps178;go_wp2;go_ret;simp
 have a:¬(255:U)<2*e8 x:=by simp[e8];omega
 go_enter func178.1,Tryz.ntmps178;go_wp2;go_ret;exact⟨by rw[<-(xe<|jc7 x h).o];rfl,O⟩
def rF(a b c d:Z8):Z8:=oO a^^^oO b^^^b^^^c^^^d
def Mn(a b c d w):aG 179 #[J<|e8 a,J<|e8 b,J<|e8 c,J<|e8 d] w (J<|e8<|rF a b c d):=by go_enter func179.1,Tryz.ntmps179;go_wp2;apply(Ml a _).mono;rintro e w1⟨rfl,rfl⟩;go_wp2;apply(Ml b _).mono;rintro e w1⟨rfl,rfl⟩;go_wp2;go_ret;exact⟨O,O⟩
def An(k j:Q):Z8:=if j<k then Pw j else 0
def xS:Q->Q->Z8
 |0,_=>0|k+1,j=>if j=aN (Pw k) then mZ k else xS k j
def Lt:Zl:=(iC 256).map λi=>mZ (Pt.idxOf (mZ i))
def CZ:Q->Zl
 |0=>bS 256 0|k+1=>(CZ k).set (aN (Pw k))<|UInt8.ofNat k
theorem ĝ:∀k,T (CZ k)=256
 |0=>by grind [CZ]|k+1=>by rw[CZ,List.length_set,ĝ k]
theorem xtk:CZ 255=Lt:=Ê
theorem Ħ:∀k j,j<256->xS k j=(CZ k).getD j 0
 |0,j,h=>by grind [xS,CZ]|k+1,j,h=>by rw[xS,CZ];by_cases e:j=aN (Pw k);grind [ĝ];rw[aL e,Ħ k j h];grind
def xyn(j)(h:j<256):xS 255 j=Lt.getD j 0:=by grind [Ħ,xtk]
def QF(a:Q):Z8:=if a=0 then 0 else Pw ((255-aN (Lt.getD a 0))%255)
def xyh(a)(h:a<256):Lc (QF a)=Sn a:=(by decide+kernel:∀a:Fin 256,Lc (QF a.val)=Sn a.val) ⟨a,h⟩
def jbs(a)(h:a<256):aN (Lt.getD a 0)<255:=(by decide+kernel:∀a:Fin 256,(Lt.getD a.val 0).toNat<255) ⟨a,h⟩
def vO(b:Z8):Q->Z8
 |0=>b|1=>b^^^pD b 1
 |2=>b^^^pD b 1^^^pD b 2|3=>b^^^pD b 1^^^pD b 2^^^pD b 3
 |_=>b^^^pD b 1^^^pD b 2^^^pD b 3^^^pD b 4
def xzh:∀b:Z8,lr .and bB (lr .or bB (e8 b*2)<|e8 b/128) 255=e8 (pD b 1):=AX Ê
def xzi:∀b:Z8,lr .and bB (lr .or bB (e8 b*4)<|e8 b/64) 255=e8 (pD b 2):=AX Ê
def xzj:∀b:Z8,lr .and bB (lr .or bB (e8 b*8)<|e8 b/32) 255=e8 (pD b 3):=AX Ê
def xzk:∀b:Z8,lr .and bB (lr .or bB (e8 b*16)<|e8 b/16) 255=e8 (pD b 4):=AX Ê
def Ap:Za:=cL 256<|aD bB 0
def Me:Za:=cL 255<|aD bB 0
def Ĝ:((prog.info? 188).map λi=>(i.zero,i.size))=Y (Y<|bY Ap,256):=Ä
def xtc:((prog.info? 250).map λi=>(i.zero,i.size))=Y (Y<|bY Me,255):=Ä
def QS:(prog.info? 188).map (·.size)=Y 256:=Ä
def QQ(n):cL n (J 0)=bH (ki zF n):=by apply Vn;intro i;rw[Array.getElem?_replicate,Jz];by_cases h:i<n;rw[aT h,ĥ _ _ _ h];rfl;grind [Mp]
def QO:Ap=bH (ki zF 256):=QQ 256
def xrf:Me=bH (ki zF 255):=QQ 255
end
section
attribute[local go_sem] Gb ĭ
structure BI(w:Zy)(p l:Zu)(W:Zy):Prop where
 fH:aP (V<|Z w) w W
 sz:V (Z W)=V (Z w)+1+1+1
 b0:Jp W (V<|Z w) zF 256 188
 b1:Jp W (V (Z w)+1) p 255 250
 b2:Jp W (V (Z w)+1+1) l 256 188
def BI.gC(w):BI w zF zF<|aF (aF (aF w<|au Ap 188)<|au Me 250)<|au Ap 188:=by
 rw[QO,xrf];refine⟨(((zt _ _).alloc (zd _) _).alloc Â _).alloc Ç _,Â,?_,?_,?_⟩;all_goals (show(((w.heap.push _).push _).push _)[_]?=_)
 all_goals (simp only[jb,Xi])
 grind;grind;grind
def BI.IC{b p a}(h:BI w p a b)(k v):BI w (λi=>if i=k then v else p i) a<|ay b (K (V (Z w)+1) k)<|J<|e8 v:=
 ⟨h.fH.setCell Á _,Ö,h.b0.dR À,h.b1.H k v,h.b2.dR À⟩
def BI.yt{b p a}(h:BI w p a b)(k v):BI w p (λi=>if i=k then v else a i)<|ay b (K (V (Z w)+1+1) k)<|J<|e8 v:=
 ⟨h.fH.setCell Á _,Ö,h.b0.dR À,h.b1.dR À,h.b2.H k v⟩
theorem BI.cH{d p b c a}(h:BI w p b d)(e:∀i,i<255->p i=c i)(f:∀i,i<256->b i=a i):BI w c a d:=⟨h.fH,h.sz,h.b0,h.b1.cH e,h.b2.cH f⟩
def Et(k j:Q):Z8:=if j<k then Sn j else 0
structure ug(w:Zy)(g k:Q)(W:Zy):Prop where
 fH:aP (V<|Z w) w W
 gg:g=V (Z w)+1+1+1
 b0:Jp W (V<|Z w) zF 256 188
 b1:Jp W (V (Z w)+1) (An 255) 255 250
 b2:Jp W (V (Z w)+1+1) (xS 255) 256 188
 b3:Jp W g (Et k) 256 188
def ug.fV{k}(h:ug w g k a)(n):ug w g k<|a.drewN n:=⟨below_drewN h.fH _,h.gg,h.b0,h.b1,h.b2,h.b3⟩
theorem ug.H{k}(h:ug w g k a)(hk:k<256):ug w g (k+1)<|ay a (K g k)<|J<|e8<|Sn k:=by have b:=h.gg;refine⟨h.fH.setCell Á _,h.gg,h.b0.dR À,h.b1.dR À,h.b2.dR À,(h.b3.H k<|Sn k).cH λi _=>?_⟩;grind [Et]
def BI.Es(h:BI w (An 255) (xS 255) a):ug w (V<|Z a) 0<|aF a<|au Ap 188:=by have c:=h.sz;have b:aP (V<|Z a) a<|aF a<|au Ap 188:=(zt _ _).alloc (zd _) _;refine⟨h.fH.alloc h.fH.size _,c,h.b0.ac b À,h.b1.ac b À,h.b2.ac b À,?_⟩;rw[QO];exact xn a _
def xi8(w):aq 112 #[] w (bY (bH (ki Sn 256))):=by
 have bb:=(zero_of_info Ĝ).1;have ba:=(zero_of_info xtc).1;have F:=BI.gC w;have y:∀wr,BI w (An 255) (xS 255) wr->ug w (V<|Z wr) 0 (aF wr<|au Ap 188):=λwr h=>h.Es;generalize Ap=zz6 at*;generalize Me=zz5 at*;go_enter func112.1,Tryz.ntmps112;go_wp2;go_loopw [3,4] (λx i wr=>∃k:Q,k<=255/\i=J k/\x=J (e8<|Pw k)/\BI w (An k) (xS k) wr) (λ_ i _=>bL (255-bZ i));exact⟨0,À,O,O,F⟩;obtain⟨k,hk,rfl,rfl,inv⟩:=hrel;have g':=inv.sz;by_cases a:k<255
 ·have h2:(k:U)<255:=À;have HP:H<|Pw (k+1)=Pw k^^^oO (Pw k):=VX k a;have n:BI w (An<|k+1) (xS<|k+1)<|ay (ay wr (K (V (Z w)+1) k)<|J<|e8<|Pw k) (K (V (Z w)+1+1)<|bL (e8<|Pw k))<|J k:=by
   have v':(k:U)=e8 (mZ k):=by simp[e8];omega
   rw[v',FK];refine((inv.IC k<|Pw k).yt _<|UInt8.ofNat k).cH (λi _=>?_) λi _=>O;unfold An;by_cases e:i=k;grind;grind
  have G:N wr (K (V (Z w)+1) k)=(J<|e8<|An k k):=inv.b1.i a;have hx:aX wr (K (V (Z w)+1) k)=ao:=inv.b1.eQ;have j:=inv.IC k<|Pw k;have es:bL (e8<|Pw k)<256:=by rw[FK];exact(Pw k).toNat_lt
  have ho:N (ay wr (K (V (Z w)+1) k)<|J<|e8<|Pw k) (K (V (Z w)+1+1)<|bL (e8<|Pw k))=(J<|e8<|xS k (bL (e8<|Pw k))):=j.b2.i es;have f2:aX (ay wr (K (V (Z w)+1) k)<|J<|e8<|Pw k) (K (V (Z w)+1+1)<|bL (e8<|Pw k))=ao:=j.b2.eQ;have p0:=uz<|Pw k;have p1:=uQ<|Pw k;generalize An k k=z1 at*;generalize xS k (bL (e8<|Pw k))=z2 at*;generalize Pw k=x at*;go_upto_region 8 with fail
  generalize ay wr (K (V (Z w)+1) k) (J<|e8 x)=wa at*;go_wp2;refine(Ml x _).mono ?_;rintro en w2⟨rfl,rfl⟩;go_wp2;go_roundw;exact⟨k+1,À,Å,by rw[HP.o],n⟩;exact Ì
 obtain rfl:k=255:=À
 have d:=y wr inv;clear inv y hk a g';go_wp2;generalize hw3:aF wr (au zz6 188)=w3 at*;let⟨g,hg⟩:=JP<|V (Z wr);rw[hg]at d⊢;go_loopw [6] (λi wr=>∃k:Q,k<=256/\i=J k/\ug w g k wr) (λi _=>bL (256-bZ i));exact⟨0,À,O,d⟩;clear d;obtain⟨k,hk,rfl,inv⟩:=hrel;by_cases a:k<256
 ·have h2:(k:U)<256:=À;have hd:bR ((k:U)<256)=M:=jm h2;by_cases f:k=0
  ·have i2:¬(0:U)<(k:U):=À;have h3:H<|k=0:=f;clear f;have c:ug w g k wr:=inv;have z1:lr .or bB 0 0=0:=Ê
   have z2:lr .and bB 0 255=0:=Ê
   have z3:lr .xor bB 0 0=0:=Ê
   have z4:lr .xor bB 0 99=99:=Ê
   clear inv;go_wp2;try rw[hd]
   go_loopw [8,9] (λs i wq=>∃m:Q,1<=m/\m<=5/\i=J m/\s=J 0/\ug w g k wq) (λ_ i _=>bL (5-bZ i));exact⟨1,À,À,O,O,c⟩;clear c;obtain⟨m,m1,m5,rfl,rfl,inv⟩:=hrel;have c:ug w g k wr:=inv;by_cases hm:m<5
   ·obtain rfl|rfl|rfl|rfl:m=1\/m=2\/m=3\/m=4:=À
    ·clear inv;go_wp2;go_quiet (fail);go_wp2;go_roundw;exact⟨2,À,À,Å,O,c.fV _⟩;simp[bZ]
    ·clear inv;go_wp2;go_quiet (fail);go_wp2;go_roundw;exact⟨3,À,À,Å,O,c.fV _⟩;simp[bZ]
    ·clear inv;go_wp2;go_quiet (fail);go_wp2;go_roundw;exact⟨4,À,À,Å,O,c.fV _⟩;simp[bZ]
    clear inv;go_wp2;go_quiet (fail);go_wp2;go_roundw;exact⟨5,À,À,Å,O,c.fV _⟩;simp[bZ]
   obtain rfl:m=5:=À
   have G:N wr (K g k)=(J<|e8<|Et k k):=inv.b3.i À;have hx:aX wr (K g k)=ao:=inv.b3.eQ;have n:=inv.H À;have o:ug w g (k+1)<|ay wr (K g k)<|J<|e8<|Sn k:=n;have L:e8 (Sn k)=99:=by rw[h3.o];rfl
   rw[L]at o;clear n inv c;generalize Et k k=z at*;go_wp2;go_roundw
   ·first|exact⟨k+1,À,Å,o⟩|((repeat apply ng);exact⟨⟨k+1,À,Å,o⟩,O⟩)
   exact Î
  have i2:(0:U)<(k:U):=À
  let⟨l,I⟩:=JP<|Lt.getD k 0;let⟨q,X⟩:=JP<|(255-aN l)%255;let⟨b,W⟩:=JP<|QF k;have l5:aN l<255:=by rw[<-I];exact jbs k a
  have el:e8 l<255:=by simp only[e8];omega
  have l0:=uz l;have B:IntKind.i64.wrap (255-e8 l)=255-e8 l:=Í
  have et:(255-e8 l).tmod 255=(q:Q):=by rw[qo À];simp only[e8];omega
  have P:q<255:=À
  have q6:(q:U)<255:=À
  have G:N wr (K (V (Z w)+1+1) k)=(J<|e8 l):=by rw[inv.b2.i a,xyn k a,I]
  have ho:N wr (K (V (Z w)+1) q)=(J<|e8 b):=by
   rw[inv.b1.i P];have e:An 255 q=b:=by rw[<-W];unfold An QF;rw[aT P,aL f,I,X]
   rw[e]
  have b0:=uz b;have b1:=uQ b;have c:ug w g k wr:=inv;clear inv I X f;go_wp2;try rw[hd]
  clear G ho B et P q6 el l0 l5;go_loopw [8,9] (λs i wq=>∃m:Q,1<=m/\m<=5/\i=J m/\s=J (e8<|vO b<|m-1)/\ug w g k wq) (λ_ i _=>bL (5-bZ i));exact⟨1,À,À,O,O,c⟩;clear c;obtain⟨m,m1,m5,rfl,rfl,inv⟩:=hrel;have c:ug w g k wr:=inv;by_cases hm:m<5
  ·obtain rfl|rfl|rfl|rfl:m=1\/m=2\/m=3\/m=4:=À
   ·have r:=xzh b;have B:IntKind.i64.wrap (e8 b*2)=e8 b*2:=by rw[zh]<;>omega
    have p:H<|vO b (1-1)^^^pD b 1=vO b (2-1):=O;clear inv;generalize vO b (1-1)=x at*;go_wp2;go_quiet (fail);go_wp2;go_roundw;exact⟨2,À,À,Å,oD,c.fV _⟩;simp[bZ]
   ·have r:=xzi b;have B:IntKind.i64.wrap (e8 b*4)=e8 b*4:=by rw[zh]<;>omega
    have p:H<|vO b (2-1)^^^pD b 2=vO b (3-1):=O;clear inv;generalize vO b (2-1)=x at*;go_wp2;go_quiet (fail);go_wp2;go_roundw;exact⟨3,À,À,Å,oD,c.fV _⟩;simp[bZ]
   ·have r:=xzj b;have B:IntKind.i64.wrap (e8 b*8)=e8 b*8:=by rw[zh]<;>omega
    have p:H<|vO b (3-1)^^^pD b 3=vO b (4-1):=O;clear inv;generalize vO b (3-1)=x at*;go_wp2;go_quiet (fail);go_wp2;go_roundw;exact⟨4,À,À,Å,oD,c.fV _⟩;simp[bZ]
   have r:=xzk b;have B:IntKind.i64.wrap (e8 b*16)=e8 b*16:=Í
   have p:H<|vO b (4-1)^^^pD b 4=vO b (5-1):=O;clear inv;generalize vO b (4-1)=x at*;go_wp2;go_quiet (fail);go_wp2;go_roundw;exact⟨5,À,À,Å,oD,c.fV _⟩;simp[bZ]
  obtain rfl:m=5:=À
  have G:N wr (K g k)=(J<|e8<|Et k k):=inv.b3.i À;have hx:aX wr (K g k)=ao:=inv.b3.eQ;have n:=inv.H À;have o:ug w g (k+1)<|ay wr (K g k)<|J<|e8<|Sn k:=n;have L:Sn k=vO b 4^^^99:=by rw[<-xyh k a,W];rfl
  rw[L]at o;clear n inv c;generalize Et k k=z at*;go_wp2;go_roundw
  ·first|exact⟨k+1,À,Å,o⟩|((repeat apply Exists.intro);exact⟨⟨k+1,À,Å,o⟩,rfl⟩)
  exact Î
 obtain rfl:k=256:=À
 have D:=(inv.b3.cH (g:=Sn) λi u=>by unfold Et;simp_all);have t:=inv.b0;have C:=inv.fH;unfold Jp at D t;have u:(prog.info? 188).map (·.size)=Y (V (ki Sn 256).toArray):=by rw[xV];exact QS
 have h1:=Mq Sn 256;have S:V (ki zF 256).toArray=V (ki Sn 256).toArray:=by rw[xV,xV]
 have ih:(wr.setRow (V<|Z w) (bH (ki Sn 256))).heap[V (Z w)]?=Y (au (bH (ki Sn 256)) 188 (0,0)):=Jr _ _ _ _ _ _ t;have hs:=Ea (b:=V (Z w)) (bH (ki Sn 256)) C À;clear inv hk a;generalize hKK:bH (ki Sn 256)=cs at*;have bc:H<|bH (ki Sn 256)=cs:=hKK;clear hKK;go_wp2_with (first|refine J6 O 188 _ O g O 188 _ (0,0) _ D lA O u ?_|refine Zo O 188 _ _ O w.heap.size _ O O 188 _ t u S h1 ?_);exact ji (v:=bY cs) (Jf O _ _ (V<|Z w) 188 _ (0,0) _ O ih lA O u) O ⟨by rw[<-bc.o],hs⟩
end
section
attribute[local go_sem] Gb zn
theorem Ĥ(f c i)(h:i<4):lC f c i=yv f c i^^^f i:=by grind [Pc]
theorem ģ(f c i):lC f c (i+4)=lC f c i^^^f (i+4):=by grind [Pc]
def iO(z:Zu)(j:Q):Z8:=kY z (j/16)<|j%16
def xU(z:Zu)(n k:Q):Z8:=if n%16=0 then yv (kY z<|n/16-1) (tC<|n/16-1) k else iO z (n-4+k)
def xp1(z n k)(c:n%4=0)(a:16<=n)(hk:k<4):iO z (n-16+k)^^^xU z n k=iO z (n+k):=by let⟨r,b⟩:=JP<|n/16-1;unfold xU iO;rw[b,show(n+k)/16=r+1 by omega,show(n+k)%16=n%16+k by omega,show(n-16+k)/16=r by omega,show(n-16+k)%16=n%16+k by omega];show _=lC (kY z r) (tC r) (n%16+k);by_cases h:n%16=0;grind [Ĥ];rw[aL h,show n%16+k=(n%16-4+k)+4 by omega,ģ,show(n-4+k)/16=r+1 by omega,show(n-4+k)%16=n%16-4+k by omega,UInt8.xor_comm];rfl
def wK(z:Zu)(n j:Q):Z8:=if j<n then iO z j else 0
structure SI(w:Zy)(z:Zu)(W:Zy):Prop where
 fH:aP (V<|Z w) w W
 sz:V (Z w)+1+1<V (Z W)
 b0:Jp W (V<|Z w) Sn 256 188
 b1:Jp W (V (Z w)+1) zF 176 191
 b2:Jp W (V (Z w)+1+1) z 176 191
def SI.gC(w):SI w zF<|aF (aF (aF w<|au (bH (ki Sn 256)) 188)<|au (bH (ki zF 176)) 191)<|au (bH (ki zF 176)) 191:=by
 refine⟨(((zt _ _).alloc (zd _) _).alloc Â _).alloc Ç _,Â,?_,?_,?_⟩;all_goals (show(((w.heap.push _).push _).push _)[_]?=_)
 all_goals (simp[jb,Xi])
 grind;grind;grind
def SI.W{z}(h:SI w z a):SI w z a.drew:=⟨h.fH.drew,h.sz,h.b0,h.b1,h.b2⟩
def SI.gN{b z}(h:SI w z b)(a:aP (V<|Z b) b w'):SI w z w':=
 have c:=h.sz
 ⟨h.fH.trans<|a.mono h.fH.size,zm h.sz a.size,h.b0.ac a À,h.b1.ac a À,h.b2.ac a À⟩
theorem SI.H{z}(h:SI w z a)(k v):SI w (λi=>if i=k then v else z i)<|ay a (K (V (Z w)+1+1) k)<|J<|e8 v:=
 ⟨h.fH.setCell Á _,Ö,h.b0.dR À,h.b1.dR À,h.b2.H k v⟩
theorem SI.put{z}(h:SI w z a)(g)(b:V (Z w)+1+1<g)(k v):SI w z<|ay a (K g k) v:=
 ⟨h.fH.setCell Á _,Ö,h.b0.dR À,h.b1.dR À,h.b2.dR À⟩
theorem SI.cH{f2 f3}(h:SI w f2 a)(e:∀i,i<176->f2 i=f3 i):SI w f3 a:=⟨h.fH,h.sz,h.b0,h.b1,h.b2.cH e⟩
def ğ(z n i):(if i=n then iO z n else wK z n i)=wK z (n+1) i:=by grind [wK]
def IE:Za:=cL 176<|aD bB 0
def ě:((prog.info? 191).map λi=>(i.zero,i.size))=Y (Y<|bY IE,176):=Ä
def QR:(prog.info? 191).map (·.size)=Y 176:=Ä
def Ě:IE=bH (ki zF 176):=QQ 176
def Jp.drw{f}(h:Jp w b f n t):Jp w.drew b f n t:=h
def Jp.qN(h:Jp w g Sn 256 t)(x):N w (K g<|bL (e8 x))=(J<|e8<|Sx x):=by rw[FK,h.i x.toNat_lt,VY]
theorem zxi(l)(hl:T l=16)(w):aq 114 #[E l,bY (bH (ki Sn 256))] w (bY (bH (ki (iO λi=>l.getD i 0) 176))):=by
 have hz:=(zero_of_info ě).1;have D:=SI.gC w;rw[<-Ě]at D;generalize IE=zz at*;go_enter func114.1,Tryz.ntmps114;go_wp2;go_loopw [6] (λi wr=>∃k:Q,k<=16/\i=J k/\SI w (wK (λi=>l.getD i 0) k) wr) (λi _=>bL (16-bZ i));exact⟨0,À,O,D⟩;obtain⟨k,hk,rfl,inv⟩:=hrel;have s:=inv.sz;by_cases v':k<16
 ·have i1:(k:U)<16:=À;have i2:(k:U)<(T l:Q):=À
  have i3:(k:U)<176:=À
  have L:k<T l:=À
  let⟨a,ha⟩:=JP<|(st l)[k]'(by rw[zn];exact L);have ew:IntKind.i64.wrap (aN a:U)=(aN a:U):=QL a;have c1:N wr (K (V (Z w)+1+1) k)=Y (J<|e8<|wK (λi=>l.getD i 0) k k):=inv.b2.i À;have f1:aX wr (K (V (Z w)+1+1) k)=ao:=inv.b2.eQ;have u:SI w (wK (λi=>l.getD i 0)<|k+1)<|ay wr (K (V (Z w)+1+1) k)<|J (aN a):=by
   refine(inv.H k a).cH λi _=>?_;have e:iO (λi=>l.getD i 0) k=a:=by unfold iO;rw[show k/16=0 by omega,show k%16=k by omega,<-ha];show l.getD k 0=l[k];simp[List.getD,L]
   rw[<-e];exact ğ _ k i
  generalize wK (λi=>l.getD i 0) k k=z at*;go_wp2;go_roundw
  ·first|exact⟨k+1,À,Å,u⟩|((repeat apply Exists.intro);exact⟨⟨k+1,À,Å,u⟩,rfl⟩)
  exact Î
 obtain rfl:k=16:=À
 generalize hkey:(λi=>l.getD i 0)=key at*;have W:(λi=>l.getD i 0)=key:=hkey;go_wp2;go_loopw [7,8] (λco i wr=>∃n:Q,16<=n/\n<=176/\n%4=0/\i=J n/\co=J (e8<|tC<|(n-1)/16)/\SI w (wK key n) wr) (λ_ i _=>bL (176-bZ i));exact⟨16,À,À,À,O,O,inv⟩;obtain⟨n,es,hn,h3,rfl,rfl,inv⟩:=hrel;have s:=inv.sz;by_cases v':n<176
 ·let⟨m,hm⟩:=JP<|n-4;have i1:(n:U)<176:=À;have hd:bR ((n:U)<176)=M:=jm i1;have e4:IntKind.i64.wrap ((n:U)-4)=(m:U):=Í
  have e3:IntKind.i64.wrap ((n:U)-3)=(m:U)+1:=Í
  have e2:IntKind.i64.wrap ((n:U)-2)=(m:U)+2:=Í
  have e1:IntKind.i64.wrap ((n:U)-1)=(m:U)+3:=Í
  have m0:(m:U)<176:=À
  have m1:(m:U)+1<176:=À
  have m2:(m:U)+2<176:=À
  have m3:(m:U)+3<176:=À
  have n1:(0:U)<=(m:U)+1:=À
  have n2:(0:U)<=(m:U)+2:=À
  have n3:(0:U)<=(m:U)+3:=À
  have t1:bL ((m:U)+1)=m+1:=À
  have t2:bL ((m:U)+2)=m+2:=À
  have t3:bL ((m:U)+3)=m+3:=À
  let⟨j,be⟩:=JP<|iO key m;let⟨o,bf⟩:=JP<|iO key (m+1);let⟨q,bg⟩:=JP<|iO key (m+2);let⟨r,bh⟩:=JP<|iO key (m+3);have HS:∀w',SI w (wK key n) w'->N w' (K (V (Z w)+1+1) m)=(J<|e8 j)/\N w' (K (V (Z w)+1+1)<|m+1)=(J<|e8 o)/\N w' (K (V (Z w)+1+1)<|m+2)=(J<|e8 q)/\N w' (K (V (Z w)+1+1)<|m+3)=(J<|e8 r):=λw' h=>⟨by rw[h.b2.i À];unfold wK;rw[aT À,be],by rw[h.b2.i À];unfold wK;rw[aT À,bf],by rw[h.b2.i À];unfold wK;rw[aT À,bg],by rw[h.b2.i À];unfold wK;rw[aT À,bh]⟩;have S:SI w (wK key n) wr:=inv;have S0:=HS wr inv;have F:∀k,k<4->(λk=>if k=0 then j else if k=1 then o else if k=2 then q else r) k=iO key (n-4+k):=λk hk=>by
   obtain rfl|rfl|rfl|rfl:k=0\/k=1\/k=2\/k=3:=À
   simp_all;simp_all;simp_all;simp_all
  have HA:∀P,SI w (wK key n) (aF wr P).drew:=λP=>(S.gN<|(zt _ _).alloc (zd _) P).W;have S1:=λP=>HS _<|HA P;go_wp2;go_region_held3 (λw'=>N w' (K (V (Z w)+1+1) m)=(J<|e8 j)/\N w' (K (V (Z w)+1+1)<|m+1)=(J<|e8 o)/\N w' (K (V (Z w)+1+1)<|m+2)=(J<|e8 q)/\N w' (K (V (Z w)+1+1)<|m+3)=(J<|e8 r)) (first|exact S0|exact S1 _) (fail);have f:=HA<|au #[J<|e8 j,J<|e8 o,J<|e8 q,J<|e8 r] 252;have d:Jp (aF wr<|au #[J<|e8 j,J<|e8 o,J<|e8 q,J<|e8 r] 252).drew (V<|Z wr) (λk=>if k=0 then j else if k=1 then o else if k=2 then q else r) 4 252:=xn wr<|au #[J<|e8 j,J<|e8 o,J<|e8 q,J<|e8 r] 252;generalize(aF wr<|au #[J<|e8 j,J<|e8 o,J<|e8 q,J<|e8 r] 252).drew=w3 at*;generalize V (Z wr)=g at*;by_cases hr:n%16=0;focus
   have er:((n:U)%16==0)=M:=Ç
   let⟨c,h2⟩:=JP<|tC ((n-1)/16);rw[h2];have cs:H<|tC ((n+4-1)/16)=oO c:=by show _=_;rw[<-h2,show(n+4-1)/16=(n-1)/16+1 by omega];rfl
   have HH:∀k,k<4->(if k=3 then Sx j else if k=2 then Sx r else if k=1 then Sx q else if k=0 then Sx o^^^c else(0:Z8))=xU key n k:=λk hk=>by
    have q0:=F 0 À;have q1:=F 1 À;have q2:=F 2 À;have q3:=F 3 À;simp only[dY,aL (show¬(1:Q)=0 by decide),aL (show¬(2:Q)=0 by decide),aL (show¬(2:Q)=1 by decide),aL (show¬(3:Q)=0 by decide),aL (show¬(3:Q)=1 by decide),aL (show¬(3:Q)=2 by decide)]at q0 q1 q2 q3;have X:kY key (n/16-1) 12=j:=by rw[q0];unfold iO;rw[show(n-4+0)/16=n/16-1 by omega,show(n-4+0)%16=12 by omega]
    have hs:kY key (n/16-1) 13=o:=by rw[q1];unfold iO;rw[show(n-4+1)/16=n/16-1 by omega,show(n-4+1)%16=13 by omega]
    have ba:kY key (n/16-1) 14=q:=by rw[q2];unfold iO;rw[show(n-4+2)/16=n/16-1 by omega,show(n-4+2)%16=14 by omega]
    have bb:kY key (n/16-1) 15=r:=by rw[q3];unfold iO;rw[show(n-4+3)/16=n/16-1 by omega,show(n-4+3)%16=15 by omega]
    unfold xU yv;rw[aT hr,X,hs,ba,bb,show n/16-1=(n-1)/16 by omega,h2];obtain rfl|rfl|rfl|rfl:k=0\/k=1\/k=2\/k=3:=À
    all_goals rfl
   have c0:N w3 (K g 0)=(J<|e8 j):=d.i (k:=0) Ã;have c1:N w3 (K g 1)=(J<|e8 o):=d.i (k:=1) Ã;have c2:N w3 (K g 2)=(J<|e8 q):=d.i (k:=2) Ã;have c3:N w3 (K g 3)=(J<|e8 r):=d.i (k:=3) Ã;have f0:aX w3 (K g 0)=ao:=d.eQ;have f1:aX w3 (K g 1)=ao:=d.eQ;have f2:aX w3 (K g 2)=ao:=d.eQ;have f3:aX w3 (K g 3)=ao:=d.eQ;have y0:=f.b0.qN j;have y1:=f.b0.qN o;have y2:=f.b0.qN q;have y3:=f.b0.qN r;have l0:=uz j;have l1:=uz o;have l2:=uz q;have l3:=uz r;have u0:=uQ j;have u1:=uQ o;have u2:=uQ q;have u3:=uQ r;have H4:=((((f.put g s 0<|J<|e8<|Sx o^^^c).put g s 1<|J<|e8<|Sx q).put g s 2<|J<|e8<|Sx r).put g s 3<|J<|e8<|Sx j).W;have R4:=Jp.cH (g:=xU key n) ((((d.H 0<|Sx o^^^c).H 1<|Sx q).H 2<|Sx r).H 3<|Sx j).drw λk hk=>by
    rw[<-HH k hk];obtain rfl|rfl|rfl|rfl:k=0\/k=1\/k=2\/k=3:=À
    all_goals rfl
   clear f d HH F h2;go_wp2;go_still_tail 19,Ä;go_upto_region 13 with fail
   generalize World.drew _=w4 at*;clear c0 c1 c2 c3 f0 f1 f2 f3 y0 y1 y2 y3 l0 l1 l2 l3 u0 u1 u2 u3;go_wp2;refine(Ml c _).mono ?_;rintro en w5⟨rfl,rfl⟩;go_wp2;have t:SI w (wK key<|n+0) w5:=H4;have B:=R4;have g':H<|tC ((n+4-1)/16)=oO c:=cs.o
  rotate_left;focus
   have er:((n:U)%16==0)=ao:=Ç
   have cs:H<|tC ((n+4-1)/16)=tC ((n-1)/16):=by show _=_;rw[show(n+4-1)/16=(n-1)/16 by omega]
   have B:Jp w3 g (xU key n) 4 252:=d.cH λk hk=>by rw[F k hk];unfold xU;simp_all
   clear d F;generalize tC ((n-1)/16)=c at*;go_wp2;have t:SI w (wK key<|n+0) w3:=f;have g':H<|tC ((n+4-1)/16)=c:=cs.o
  all_goals
   go_loopw [10] (λi wq=>∃k:Q,k<=4/\i=J k/\SI w (wK key<|n+k) wq/\Jp wq g (xU key n) 4 252) (λi _=>bL (4-bZ i));exact⟨0,À,O,t,B⟩;clear t B;obtain⟨k,hk,rfl,inv,C⟩:=hrel;by_cases bd:k<4
   ·let⟨p,hp⟩:=JP<|n-16;have k1:(k:U)<4:=À;have a1:IntKind.i64.wrap ((n:U)+(k:U))=(n:U)+(k:U):=Í
    have a2:IntKind.i64.wrap ((n:U)-16)=(p:U):=Í
    have a3:IntKind.i64.wrap ((p:U)+(k:U))=(p:U)+(k:U):=Í
    have a4:(n:U)+(k:U)<176:=À
    have a5:(p:U)+(k:U)<176:=À
    have a6:(0:U)<=(n:U)+(k:U):=À
    have a7:(0:U)<=(p:U)+(k:U):=À
    have a8:bL ((n:U)+(k:U))=n+k:=À
    have a9:bL ((p:U)+(k:U))=p+k:=À
    have d1:N wr (K (V (Z w)+1+1)<|p+k)=(J<|e8<|iO key<|p+k):=by rw[inv.b2.i À];unfold wK;rw[aT À]
    have d2:N wr (K g k)=(J<|e8<|xU key n k):=C.i À;have d3:N wr (K (V (Z w)+1+1)<|n+k)=(J<|e8<|wK key (n+k)<|n+k):=inv.b2.i À;have d4:aX wr (K (V (Z w)+1+1)<|n+k)=ao:=inv.b2.eQ;have hx:iO key (p+k)^^^xU key n k=iO key (n+k):=by rw[<-hp];exact xp1 key n k h3 es bd
    have u:SI w (wK key<|n+(k+1))<|ay wr.drew (K (V (Z w)+1+1)<|n+k)<|J<|e8<|iO key<|n+k:=(inv.W.H (n+k) _).cH λi _=>ğ key (n+k) i;have HR:Jp (ay wr.drew (K (V (Z w)+1+1)<|n+k)<|J<|e8<|iO key<|n+k) g (xU key n) 4 252:=Jp.dR (w:=wr.drew) C À;clear inv C hp;generalize wK key (n+k) (n+k)=z at*;generalize iO key (n+k)=v at*;generalize iO key (p+k)=y at*;generalize xU key n k=x at*;go_wp2;go_still_tail 14,Ä;go_wp2;go_roundw
    ·first|exact⟨k+1,À,Å,u,HR⟩|((repeat apply Exists.intro);exact⟨⟨k+1,À,Å,u,HR⟩,rfl⟩)
    exact Î
   have ke:k=4:=À
   have k1:¬(k:U)<4:=À
   have S:SI w (wK key<|n+4) wr:=by rw[ke]at inv;exact inv
   clear inv C ke;go_wp2;go_roundw
   ·first|exact⟨n+4,À,À,À,Å,by rw[g'.o],S⟩|((repeat apply Exists.intro);exact⟨⟨n+4,À,À,À,Å,by rw[g'.o],S⟩,rfl⟩)
   exact Î
 obtain rfl:n=176:=À
 have inv:=inv.cH (f3:=iO key) (λi ho=>by unfold wK;simp_all);have w2:=inv.b2;have G:=inv.b1;have I:=inv.fH;unfold Jp at w2 G;have ho:(prog.info? 191).map (·.size)=Y (V (ki (iO key) 176).toArray):=by rw[xV];exact QR
 have h1:=Mq (iO key) 176;have bi:V (ki zF 176).toArray=V (ki (iO key) 176).toArray:=by rw[xV,xV]
 have hw:(wr.setRow (V (Z w)+1) (bH (ki (iO key) 176))).heap[V (Z w)+1]?=Y (au (bH (ki (iO key) 176)) 191 (0,0)):=Jr _ _ _ _ _ _ G;have bc:=Ea (b:=V (Z w)+1) (bH (ki (iO key) 176)) I À;clear inv hn es h3 v' s;generalize hKK:bH (ki (iO key) 176)=ih at*;have HK:H<|bH (ki (iO key) 176)=ih:=hKK;clear hKK;go_wp2_with (first|refine J6 O 191 _ O (V (Z w)+1+1) O 191 _ (0,0) _ w2 lB O ho ?_|refine Zo O 191 _ _ O (V (Z w)+1) _ O O 191 _ G ho bi h1 ?_);exact ji (v:=bY ih) (Jf O _ _ (V (Z w)+1) 191 _ (0,0) _ O hw lB O ho) O ⟨by rw[W,<-HK.o],bc⟩
end
end P
end Go.Proofs.YtjnbhiamaabbgabGreatDoor
