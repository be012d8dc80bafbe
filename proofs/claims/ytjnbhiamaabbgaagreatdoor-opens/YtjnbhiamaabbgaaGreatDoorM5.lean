import Derived.Test.YtjnbhiamaabbgaaGreatDoorM4
import Derived.Shelf.Strings.Repeat
import Derived.Shelf.Strings.OnBuilder
import Derived.Shelf.Strings.BuilderK
set_option linter.all false
set_option maxRecDepth 100000
set_option maxHeartbeats 8000000
section
variable{P:Prop}
def ĉ(h:P:=by show _=_;rw[s.o,n.o];show tr m a _=_;unfold tr;rw[if_pos t.o]):P:=h
def ĳ(h:P:=by have:=k.o;simp at this;(try simp);omega):P:=h
def ń(h:P:=by have:=k.o;grind):P:=h
def ň(h:P:=by have:=o.o;omega):P:=h
end
namespace Go.Proofs.YtjnbhiamaabbgaaGreatDoor
open Go renaming Calls->aG,Ending->kU,Oper->fj,Program->bT,TypeId->nt,Value->dL,World->cY,bits->kf,heap_alloc_new->xn,heap_setCell_other->jj,maxLen->nT,results->dX,setRow_heap->Jr
open Go.Ending renaming returned->ah
open Go.Instr renaming mapUpdate->gC
open Go.IntKind renaming i64->aU,wrap_i64->zh
open Go.Lib renaming byteCells->hZ
open Go.Obj renaming cells->aq
open Go.Proofs renaming intOf->bP
open Go.Result renaming ok->cT
open Go.RowKit renaming Below->aN,Hid->aK
open Go.RowKit.Below renaming refl->zt
open Go.Value renaming agg->bM,bool->aX,iface->gB,int->aH,map->eK,pointer->aR,slice->az,string->aj,tuple->bU
open Go.World renaming alloc->aB,cell?->ae,frozen?->aQ,news_of_block->fY,setCell->ai,size_alloc->xp
open _root_.Array renaming replicate->bV,setIfInBounds->ay,size->ak,toList->ej
open _root_.BitVec renaming ofInt->cX
open _root_.Bool renaming false->ao,true->aw
open _root_.Decidable renaming decide->bI
open _root_.Exists renaming intro->lU
open _root_.Function renaming comp_def->zc1
open _root_.Int renaming toNat->bB
open _root_.List renaming drop_eq_getElem_cons->Zx,length->aa,length_pos_iff->Z0,length_take->xf,map_congr_left->W6,pairwise_cons->Xw,range->gO,replicate->bD,take_of_length_le->qp,take_succ_eq_append_getElem->zp,toArray->aV
open _root_.Option renaming none->ar,some->ac
open _root_.Or renaming inl->aF,inr->aE
open _root_.Prod renaming fst->nC
open _root_.UInt8 renaming ofNat->ku,toNat->aI
namespace P
open A.Tryq Go.RowKit
section
attribute [local go_sem] zn zg
def ri(k:Lk):List Int->Dk->Bool×Dk
 |[],d=>(aw,d)|n::ns,d=>if Bp k n=aw then ri k ns d else if d.cQ=aw then(ao,d.eN)else ri k ns (d.rH n)
def rY.del{L}(h:rY L)(n):rY<|mH L n:=⟨λp a=>h.fV p<|Ik a,xa (TZ _ _) h.bA⟩
def Dk.qF(d:Dk)(n D x):(d.rH n).cO D x↔d.cO D x:=Dk.ng d D x
def Wd(k:Lk)(d:Dk):Bool×Lk×Dk:=((ri k (Zk d.L) d).1,k,(ri k (Zk d.L) d).2)
def Zb(k:Lk)(d:Dk):Bool×Lk×Dk:=
 if k.cE=aw/\0<k.cN then(if d.cQ=aw then(ao,k,d.eN)else Wd k (d.pL k.aP (bB k.cN)))
 else if k.cE=aw then(if d.cQ=aw then(ao,k,d.eN)else Wd {k with aP:=k.aP-1} (d.rH k.aP))
 else Wd k d
def Ni(cv:Zv)(b:Nat)(D:Nat)(d0:Dk)(w:Zy)(x:Bool×Lk×Dk)(e:kU)(w':Zy):Prop:=
 e=(if x.1=aw then ah (bU #[])else jM cv)/\zj (λy=>y=b\/d0.cO D y) w w'/\Jh w' b x.2.1/\Jt w' D x.2.2/\(∀y,x.2.2.cO D y->d0.cO D y)
structure MJ(w:Zy)(b D:Nat)(d:Dk)(k kk:Lk)(dd:Dk)(ww:Zy):Prop where
 M:Zb k d=Wd kk dd
 A:Jt ww D dd
 L:Jh ww b kk
 K:iR D dd
 O:∀y,dd.cO D y->d.cO D y
 B:zj (λy=>y=b\/d.cO D y) w ww
def xtv{cv}(b k D d w)(hl:Jh w b k)(hd:Jt w D d)(hk:iR D d)(b1:aa d.L<1000000)(hG:wE cv w)(v:¬d.cO D b)(b2:b≠0)
  (hw:k.cE=aw->0<=k.cN/\k.cN<=(aa (jp d.L k.aP):Nat))(ch:-1000000000000<=k.aP/\k.aP<=1000000000000):
  aG prog 68 #[aR<|some ⟨b,0,ar⟩,aR<|some ⟨D,0,ar⟩] w (Ni cv b D d w<|Zb k d):=by
 have HL:=hl;have HD:=hd;have G:=hk;have HG:=hG;have HW:=xe hw;have be:ae w ⟨b,15,ar⟩=ac (aX k.cE):=hl.i 15 rfl;have U:ae w ⟨b,16,ar⟩=ac (aH aU k.cN):=hl.i 16 rfl;have b0:=hl.i 12 rfl;go_enter func68.1,Tryz.ntmps68;cases htn:k.cE;focus
  rw[htn]at be;have HM:aK<|Zb k d=Wd k d:=by show _=_;unfold Zb;rw[if_neg Â,if_neg Â]
  have DA:=HD;have LA:=HL;have KA:=G;have OA:∀y,d.cO D y->d.cO D y:=λ_ h=>h;have Y:zj (λy=>y=b\/d.cO D y) w w:=zj.refl _ _;go_wp2;refine pA λX hw=>?_;obtain⟨o,t,H⟩:∃o t,MJ w b D d k o t X:=⟨_,_,HM.o,hw▸DA,hw▸LA,KA,OA,hw▸Y⟩
 rotate_left;focus
  rw[htn]at be;obtain⟨ci,cj⟩:=HW.o htn;by_cases bl:0<k.cN;focus
   obtain⟨z,bk⟩:∃z:Nat,k.cN=(z:Int):=⟨bB k.cN,À⟩;have cd:aK<|bB k.cN=z:=by show _=_;omega
   rw[bk]at U;have T:aK<|d.cQ=ao->Zb k d=Wd k (d.pL k.aP z):=λa=>by grind [Zb]
   have F:∀c,zj (d.cO D) w c->Jt c D d.eN->d.cQ=aw->Ni cv b D d w (Zb k d) (jM cv) c:=λc W h2 h3=>by
    have:Zb k d=(ao,k,d.eN):=by unfold Zb;rw[if_pos ⟨htn,bl⟩,if_pos h3]
    rw[this];exact⟨rfl,W.W λy f=>aE f,xh.y HL W v,h2,λy f=>Dk.ni d D y f⟩
   have CU:∀w1,Nw w w1->aG prog 108 #[aR<|some ⟨D,0,ar⟩,aH aU k.aP,aH aU (z:Int)] w1 (vk cv D d (Vm d.L k.aP ((jp d.L k.aP).take z,aa ((jp d.L k.aP).take z))) w1):=λw1 h=>xwt D d _ z w1 (HD.y h λ_ _=>id) G (HG.y h id) À;have S0:ae w ⟨b,12,ar⟩=ac (aH aU k.aP)/\ae w ⟨b,16,ar⟩=ac (aH aU (z:Int)):=⟨b0,U⟩;have cc:(0:Int)<(z:Int):=À
   have bv:=HL;have bx:∀c,Jh c b k->ae c ⟨b,12,ar⟩=ac (aH aU k.aP)/\ae c ⟨b,16,ar⟩=ac (aH aU (z:Int)):=λc Q=>⟨Q.i 12 rfl,by rw[<-bk];exact Q.i 16 rfl⟩;go_wp2;go_region_held2 (λw'=>ae w' ⟨b,12,ar⟩=ac (aH aU k.aP)/\ae w' ⟨b,16,ar⟩=ac (aH aU (z:Int))) (first|exact S0|exact S1)
    ((go_at_call 108;refine(CU _ (zj.refl _ _).U).mono ?_;rintro e c⟨l,⟨rfl,m,a⟩|⟨rfl,m,a⟩⟩;rotate_left;(exact⟨rfl,F _ ((zj.refl _ _).U.aA l) m a.o⟩);have Z:zj (d.cO D) w c:=(zj.refl _ _).U.aA l;have bn:Jt c D<|d.pL k.aP z:=m;have bd:aK<|d.cQ=ao:=a.o;have Q:Jh c b k:=xh.y bv Z v;have S1:=bx c Q))
   have HM:=xe<|T.o bd.o;have DA:=bn;have LA:=Q;have KA:iR D<|d.pL k.aP z:=G.step bd.o<|G.gY.pV (by unfold jS;omega) (by have W:=G.gY.fV.nA k.aP;grind [Zm,jp]) b1;have OA:∀y,(d.pL k.aP z).cO D y->d.cO D y:=λy f=>(Dk.ng d D y).1 f;have Y:zj (λy=>y=b\/d.cO D y) w c:=Z.W λy f=>aE f;try clear hHeld
   go_wp2;refine pA λX hw=>?_;obtain⟨o,t,H⟩:∃o t,MJ w b D d k o t X:=⟨_,_,HM.o,hw▸DA,hw▸LA,KA,OA,hw▸Y⟩
  rotate_left;focus
   have bj:k.cN=0:=À
   rw[bj]at U;have T:aK<|d.cQ=ao->Zb k d=Wd {k with aP:=k.aP-1} (d.rH k.aP):=λa=>by grind [Zb]
   have F:∀c,zj (d.cO D) w c->Jt c D d.eN->d.cQ=aw->Ni cv b D d w (Zb k d) (jM cv) c:=λc W h2 h3=>by
    have:Zb k d=(ao,k,d.eN):=by unfold Zb;rw[if_neg λx=>bl x.2,if_pos htn,if_pos h3]
    rw[this];exact⟨rfl,W.W λy f=>aE f,xh.y HL W v,h2,λy f=>Dk.ni d D y f⟩
   go_wp2;refine(TQ D d _ _ HD G HG).mono ?_;rintro e c⟨l,⟨rfl,m,a⟩|⟨rfl,m,a⟩⟩;rotate_left;exact⟨rfl,F _ l m a.o⟩;have Q:=xh.y HL l v;have HM:=xe<|T.o a.o;have cf:ae c ⟨b,12,ar⟩=ac (aH aU k.aP):=Q.i 12 rfl;have cg:=Q.dG 12;have DA:Jt (ai c ⟨b,12,ar⟩<|aH aU<|k.aP-1) D<|d.rH k.aP:=m.y (zj.H c _ _) λx hx e=>v (by have e:x=b:=e;rw[<-e];exact(Dk.qF d _ D x).1 hx);have LA:Jh (ai c ⟨b,12,ar⟩<|aH aU<|k.aP-1) b {k with aP:=k.aP-1}:=xh.H Q 12 _;have KA:iR D<|d.rH k.aP:=G.step a.o<|G.gY.del _;have OA:∀y,(d.rH k.aP).cO D y->d.cO D y:=λy f=>(Dk.qF d _ D y).1 f;have Y:zj (λy=>y=b\/d.cO D y) w<|ai c ⟨b,12,ar⟩<|aH aU<|k.aP-1:=(l.W λy f=>aE f).aA<|(zj.H c _ _).W λy f=>aF f;have i1:-9223372036854775808<=k.aP-1:=À
   go_wp2;refine pA λX hw=>?_;obtain⟨o,t,H⟩:∃o t,MJ w b D d k o t X:=⟨_,_,HM.o,hw▸DA,hw▸LA,KA,OA,hw▸Y⟩
 all_goals
  replace H:=H;refine(Mv D t X H.A H.K.gY).mono ?_;rintro e w1⟨p,g,ce,rfl,hp,hg,bi,V⟩;have HP:=xe hp;have HR:=bi;have bo:=H.B.aA<|zj.Q V;have bm:=H.A.y (zj.Q V) λ_ _=>id;have bz:=xh.Y H.L V;have bu:aa (Zk t.L)<=1000000:=by show _<=_;rw[MD];exact H.K.gY.bA
  have b5:¬d.cO D g:=λx=>by have:=Dk.eY HD x;have:=H.B.J;omega
  have br:=b5;obtain⟨s,bg⟩:∃s,Zk t.L=s:=⟨_,rfl⟩;have bc:=xe bg;rw[bg]at HP HR bu⊢;go_wp2;go_loopw [47] (λi wr=>∃(j:Nat) (r:Dk),j<=aa s/\i=aH aU j/\zj (λy=>y=b\/d.cO D y) w wr/\zj (λy=>d.cO D y) w1 wr/\Jh wr b o/\Jt wr D r/\iR D r/\(∀y,r.cO D y->d.cO D y)/\ri o (s.drop j) r=ri o s t) (λi _=>bB (aa s-bP i))
  case atStart=>exact⟨0,t,À,rfl,bo,zj.refl _ _,bz,bm,H.K,H.O,rfl⟩
  case round=>
   obtain⟨j,r,hj,rfl,hb,b3,b7,b4,b9,bh,b8⟩:=hrel;have C:=hb;have R:=b3;have E:=b7;have S:=b4;have I:=b9;have q:=bh;have J:=xe b8;by_cases bf:j<aa s
   ·have i1:(j:Int)<(aa s:Nat):=by omega
    have ca:=HP.o (λe=>Â);subst ca;have hc:=(HR.y R br) j bf;have bb:=xe<|Zx bf;generalize s[j]=n at*;go_wp2;refine(xcl b o n _ E).mono ?_;rintro e w2⟨rfl,cb⟩;obtain rfl:wr=w2:=cb.symm;cases hbl:Bp o n with
    |true=>
     have HN:aK<|ri o (s.drop<|j+1) r=ri o s t:=by show _=_;rw[<-J.o,bb.o];simp only[ri,hbl,if_true]
     go_wp2;go_roundw
     case rel=>exact⟨j+1,r,À,Å,C,R,E,S,I,q,HN.o⟩
     case measure=>simp[bP];omega
    |false=>
     have HN:aK<|ri o (s.drop j) r=if r.cQ=aw then(ao,r.eN)else ri o (s.drop<|j+1) (r.rH n):=by show _=_;rw[bb.o];simp only[ri,hbl,ja,if_false]
     have GR:=HG.y C λx=>by obtain x|x:=x;exact b2 x.symm;exact G.sD x
     go_wp2;refine(TQ D r n _ S I GR).mono ?_;rintro e c⟨l,⟨rfl,m,a⟩|⟨rfl,m,a⟩⟩;rotate_left;refine⟨rfl, ?_⟩;rw[H.M];have hm:ri o s t=(ao,r.eN):=by rw[<-J.o,HN.o,if_pos a.o]
     unfold Wd;rw[bc.o,hm];exact⟨rfl,C.aA<|l.W λy f=>aE (q y f),xh.y E l λx=>v<|q _ x,m,λy f=>q y<|Dk.ni r D y f⟩;have bp:=C.aA<|l.W λy f=>aE (q y f);have ba:=R.aA<|l.W λy f=>q y f;have bt:=xh.y E l λx=>v<|q _ x;have bq:=m;have bs:=I.step a.o<|I.gY.del n;have bw:aK<|ri o (s.drop<|j+1) (r.rH n)=ri o s t:=by show _=_;rw[<-J.o,HN.o,if_neg<|by rw[a.o];decide]
     go_wp2;go_roundw
     case rel=>exact⟨j+1,r.rH n,À,Å,bp,ba,bt,bq,bs,λy f=>q y<|(Dk.qF r n D y).1 f,bw.o⟩
     case measure=>simp[bP];omega
   have b6:j=aa s:=À
   subst b6;have HF:aK<|ri o s t=(aw,r):=by show _=_;rw[<-J.o,Vl];rfl
   go_wp2;go_end0;rw[H.M];unfold Wd;rw[bc.o,HF.o];exact⟨rfl,C,E,S,q⟩
def vx(k v:Zl):Zl:=nb (aa k) 1++(nb (aa v) 1++(k++v))
def tq:Vk->Zl
 | .put k v=>80::vx k v| .del k=>68::(nb (aa k) 1++k)
def xat(k v)(hk:aa k<=1000000)(t:aa v<=1000000)(w):aG prog 173 #[bM #[zs k,zs v]] w λe w'=>e=ah (zs<|vx k v)/\aN (ak w.heap) w w':=by
 have l1:=Z2 (aa k) 1;have x:=Z2 (aa v) 1;have W0:aK<|Below (ak w.heap) w<|aB w<|aq #[zs k,zs v] 86:=(zt _ _).alloc (zd _) _;have c:aK<|xh (aB w<|aq #[zs k,zs v] 86) (ak w.heap) #[zs k,zs v] 86:=xh.dT _ _ _;have g:¬9223372036854775807<1+1+aa k:=À
 have i:¬9223372036854775807<2+aa k:=À
 have j:¬9223372036854775807<1+(1+aa k):=À
 have l:¬9223372036854775807<1+1+aa k+aa v:=À
 have m:¬9223372036854775807<2+aa k+aa v:=À
 have n:¬9223372036854775807<1+(1+aa k)+aa v:=À
 have o:¬9223372036854775807<1+(1+(aa k+aa v)):=À
 have p:¬9223372036854775807<2+(aa k+aa v):=À
 have q:¬9223372036854775807<1+1+(aa k+aa v):=À
 go_enter func173.1,Tryz.ntmps173;go_wp2;generalize aB w (aq #[zs k,zs v] 86)=W at*;have a:aK<|∀w1,aN (ak W.heap) W w1->ae w1 (zq (ak w.heap) 0)=ac (zs k)/\ae w1 (zq (ak w.heap) 1)=ac (zs v):=λw1 h=>⟨(c.o.Y h).i 0 rfl,(c.o.Y h).i 1 rfl⟩;have d:=a.o W<|zt _ _;have b:aK<|Below (ak W.heap) W W.drew:=(zt _ _).drew;go_region_held3 (λw'=>ae w' (zq (ak w.heap) 0)=ac (zs k)/\ae w' (zq (ak w.heap) 1)=ac (zs v)) (first|exact d|exact f)
  ((go_at_call 153;refine(Hx _ _).mono ?_;rintro e w1⟨rfl,s⟩;replace b:=xe<|Xs b.o s;have f:=a.o _ b.o))
 have r:=xe<|W0.o.trans<|b.o.mono W0.o.size;clear d a b c W0;clear f;try clear hHeld
 go_wp2;go_ret;exact⟨by simp only[vx,jq];rfl,r.o⟩
def xd5(k v)(hk:aa k<=1000000)(c:aa v<=1000000)(w):aG prog 324 #[bM #[aj<|st k,aj<|st v]] w λe w'=>e=ah (aj<|st (80::vx k v))/\aN (ak w.heap) w w':=by
 have b:aK<|(⟨#[80]⟩:ByteArray)++st (vx k v)=st (80::vx k v):=by show _=_;rw[show(⟨#[80]⟩:ByteArray)=st [80]from rfl,zg];rfl
 have d:aa (vx k v)<=2000002:=by simp[vx,Z2];omega
 go_enter func324.1,Tryz.ntmps324;go_wp2;refine(xat k v hk c _).mono ?_;rintro e w1⟨rfl,a⟩;go_wp2;go_ret;exact⟨by rw[<-b.o];rfl,((zt _ _).alloc (zd _) _).trans<|a.mono Ä⟩
def xcy(k)(hk:aa k<=1000000)(w):aG prog 325 #[bM #[aj<|st k]] w λe w'=>e=ah (aj<|st (68::(nb (aa k) 1++k)))/\aN (ak w.heap) w w':=by
 have l1:=Z2 (aa k) 1;have l:aK<|((⟨#[68]⟩:ByteArray)++st (nb (aa k) 1))++st k=st (68::(nb (aa k) 1++k)):=by show _=_;rw[show(⟨#[68]⟩:ByteArray)=st [68]from rfl,zg,zg];rfl
 have W0:aK<|Below (ak w.heap) w<|aB w<|aq #[aj<|st k] 88:=(zt _ _).alloc (zd _) _;have c:aK<|xh (aB w<|aq #[aj<|st k] 88) (ak w.heap) #[aj<|st k] 88:=xh.dT _ _ _;have g:¬9223372036854775807<1+1+aa k:=À
 have i:¬9223372036854775807<2+aa k:=À
 have j:¬9223372036854775807<1+(1+aa k):=À
 go_enter func325.1,Tryz.ntmps325;go_wp2;generalize aB w (aq #[aj<|st k] 88)=W at*;have a:aK<|∀w1,aN (ak W.heap) W w1->ae w1 ⟨ak w.heap,0,ar⟩=ac (aj<|st k):=λw1 h=>(c.o.Y h).i 0 rfl;have d:=a.o W<|zt _ _;have b:aK<|Below (ak W.heap) W W.drew:=(zt _ _).drew;go_region_held3 (λw'=>ae w' ⟨ak w.heap,0,ar⟩=ac (aj<|st k)) (first|exact d|exact f)
  ((go_at_call 153;refine(Hx _ _).mono ?_;rintro e w1⟨rfl,n⟩;replace b:=xe<|Xs b.o n;have f:=a.o _ b.o))
 have m:=xe<|W0.o.trans<|b.o.mono W0.o.size;clear d a b c W0;clear f;try clear hHeld
 go_wp2;go_ret;exact⟨by rw[<-l.o];rfl,m.o⟩
structure Mf where
 ep:Nat
 op:Nat
 bA:Nat
 fo:Nat
 bE:Nat
 fi:Nat
 gp:Nat
 iI:Zl
 aP:Zl
def Mf.G(m:Mf):Za:=#[aH aU (m.ep:Int),aH aU (m.op:Int),aH aU (m.bA:Int),aH aU (m.fo:Int),aH aU (m.bE:Int),aH aU (m.fi:Int),aH aU (m.gp:Int),aj<|st m.iI,aj<|st m.aP]
def Mf.V(m:Mf):Zv:=bM m.G
def Mf.kJ(m:Mf)(i:Nat):Zl:=67::(nb m.ep 1++(nb m.op 2++(nb m.fo 2++nb i 2)))
abbrev MC(b:Nat)(m:Mf)(rt:Zl)(w:Zy):Prop:=ae w (zq b 0)=ac (zi m.ep)/\ae w (zq b 1)=ac (zi m.op)/\ae w (zq b 2)=ac (zi m.bA)/\ae w (zq b 3)=ac (zi m.fo)/\ae w (zq b 4)=ac (zi m.bE)/\ae w (zq b 5)=ac (zi m.fi)/\ae w (zq b 6)=ac (zi m.gp)/\ae w (zq b 7)=ac (zs rt)/\ae w (zq b 8)=ac (zs m.aP)
def xh.mc{w b m a}(h:xh w b #[zi m.ep,zi m.op,zi m.bA,zi m.fo,zi m.bE,zi m.fi,zi m.gp,aj<|P.st a,aj<|P.st m.aP] 185):MC b m a w:=⟨h.i 0 rfl,h.i 1 rfl,h.i 2 rfl,h.i 3 rfl,h.i 4 rfl,h.i 5 rfl,h.i 6 rfl,h.i 7 rfl,h.i 8 rfl⟩
def xo9(m:Mf)(i:Nat)(w):aG prog 175 #[m.V,aH aU (i:Int)] w λe w'=>e=ah (aj<|st<|m.kJ i)/\aN (ak w.heap) w w':=by
 have l1:=Z2 m.ep 1;have l:=Z2 m.op 2;have n:=Z2 m.fo 2;have o:=Z2 i 2;have j:aK<|(⟨#[67]⟩:ByteArray)++st (nb m.ep 1)++st (nb m.op 2)++st (nb m.fo 2)++st (nb i 2)=st (m.kJ i):=by show _=_;rw[show(⟨#[67]⟩:ByteArray)=st [67]from rfl];simp only[zg];simp[Mf.kJ]
 have W0:aK<|Below (ak w.heap) w<|aB w<|aq m.G 185:=(zt _ _).alloc (zd _) _;have c:aK<|xh (aB w<|aq m.G 185) (ak w.heap) m.G 185:=xh.dT _ _ _;unfold Mf.V;unfold Mf.G at*;go_enter func175.1,Tryz.ntmps175;go_wp2;generalize aB w (aq _ 185)=W at*;have a:aK<|∀w1,aN (ak W.heap) W w1->ae w1 ⟨ak w.heap,0,ar⟩=ac (aH aU (m.ep:Int))/\ae w1 ⟨ak w.heap,1,ar⟩=ac (aH aU (m.op:Int))/\ae w1 ⟨ak w.heap,3,ar⟩=ac (aH aU (m.fo:Int)):=λw1 h=>⟨(c.o.Y h).i 0 rfl,(c.o.Y h).i 1 rfl,(c.o.Y h).i 3 rfl⟩;have g:=a.o W<|zt _ _;have b:aK<|Below (ak W.heap) W W.drew:=(zt _ _).drew;go_region_held3 (λw'=>ae w' ⟨ak w.heap,0,ar⟩=ac (aH aU (m.ep:Int))/\ae w' ⟨ak w.heap,1,ar⟩=ac (aH aU (m.op:Int))/\ae w' ⟨ak w.heap,3,ar⟩=ac (aH aU (m.fo:Int))) (first|exact g|exact d)
  (first
   |(go_at_call 153;refine(Hx _ _).mono ?_;rintro e w1⟨rfl,f⟩;replace b:=xe<|Xs b.o f;have d:=a.o _ b.o)
   |(go_at_call 154;refine(Mb _ _).mono ?_;rintro e w1⟨rfl,f⟩;replace b:=xe<|Xs b.o f;have d:=a.o _ b.o))
 have k:=xe<|W0.o.trans<|b.o.mono W0.o.size;clear g a b c W0;clear d;try clear hHeld
 go_wp2;go_ret;exact⟨by rw[<-j.o];rfl,k.o⟩
end
end P
namespace A
open Tryq Go Go.RowKit Go.Shelf
def og{P:Zp}{i:Nat}{f g}(h:P.funcs[i]?=ac f)(e:f=g):P.funcs[i]?=ac g:=e▸h
def Tryq.func160:prog.funcs[160]?=ac Tryz.f160:=Eo Ã Tryz.func160
def Tryq.func209:prog.funcs[209]?=ac Tryz.f209:=Eo Ã Tryz.func209
def Tryq.iY:Ren:={f:=λx=>match x with|105=>93|212=>145|99=>146|165=>147|166=>101|170=>148|169=>102|263=>202|264=>203|206=>204|240=>160|241=>205|276=>209|277=>251|156=>119|n=>n,t:=λx=>match x with|9=>9|3=>3|4=>4|20=>20|0=>0|46=>162|109=>219|5=>5|72=>179|76=>180|51=>243|146=>266|53=>240|148=>268|70=>177|37=>163|75=>169|127=>229|164=>283|80=>113|31=>49|n=>n,g:=λx=>x}
def Tryq.yl:Lays.n105 prog iY:=by
 constructor
 case mixed=>kernel_rfl
 case f99=>exact og func146.1 Á
 case f105=>exact og func93.1 Á
 case f165=>exact og func147.1 Á
 case f166=>exact og func101.1 Á
 case f169=>exact og func102.1 Á
 case f170=>exact og func148.1 Á
 case f206=>exact og func204.1 Á
 case f212=>exact og func145.1 Á
 case f240=>exact og func160 Á
 case f241=>exact og func205.1 Á
 case f263=>exact og func202.1 Á
 case f264=>exact og func203.1 Á
 case f276=>exact og func209 Á
 case f277=>exact og func251 Á
 all_goals (intros;simp[iY])
def Tryq.rJ:Lays.n156 prog iY:=by
 constructor
 case mixed=>kernel_rfl
 case f156=>exact og func119.1 Á
 case f165=>exact og func147.1 Á
 case f166=>exact og func101.1 Á
 case f169=>exact og func102.1 Á
 case f240=>exact og func160 Á
 case f241=>exact og func205.1 Á
 case f276=>exact og func209 Á
 case f277=>exact og func251 Á
 all_goals (intros;simp[iY])
def Tryq.yn:Lays.n166 prog iY:=by
 constructor
 case mixed=>kernel_rfl
 case f166=>exact og func101.1 Á
 case f240=>exact og func160 Á
 case f276=>exact og func209 Á
 all_goals (intros;simp[iY])
def Tryq.ym:Lays.n169 prog iY:=by
 constructor
 case mixed=>kernel_rfl
 case f169=>exact og func102.1 Á
 all_goals (intros;simp[iY])
def Tryq.kI:Builder.Extra prog iY where
 sizeBuilder:=Á
 liesBuilder:=Á
 t5:=(ex 5).trans Tryz.underlying5
 a5:=λw=>(xP 5 w).trans<|Tryz.isAgg5 w
 z5:=λw=>(uY 5 w).trans<|Tryz.sizeOf5 w
 v5:=λw=>(AX 5 w).trans<|Tryz.zeroValue5 w
 infoByte:=Á
 cellsByte:=Á
 sizeByte:=Á
 neB5:=Ã
end A
namespace P
open A.Tryq
section
open Go.RowKit
attribute [local go_sem] zn zg
def Yn:Zl:=bD 32 0
def xib(w):aG prog 93 #[aj ⟨#[0]⟩,zi 32] w λe w'=>e=ah (zs Yn)/\aN (ak w.heap) w w':=
 (Any.strings_Repeat yl kI ⟨#[0]⟩ 32 w Ã Ã).mono λe w'⟨a,b⟩=>⟨a.trans<|by rw[show Lib.repeatL (ej (⟨#[0]⟩:ByteArray).data) 32=Yn from Ã];rfl,b⟩
def Uw(w):aG prog 58 #[] w λe w'=>e=ah (zs Yn)/\aN (ak w.heap) w w':=by go_enter func58.1,Tryz.ntmps58;go_wp2;refine(xib _).mono ?_;rintro e w1⟨rfl,a⟩;go_wp2;go_ret;simp_all
def wH(B b:Nat)(l:Zl)(w:Zy):Prop:=Lib.IsBuilder 179 5 B b (hZ l) w
theorem wH.dT(w:Zy):wH (ak w.heap) (ak w.heap) []<|aB w<|aq #[aR ar,az ar 0 0] 179:=Lib.fresh_isBuilder _ _ _
def UD{B b d p bs w w'}(h:Lib.BuilderAt 179 5 B b p bs w)(k:aN d w w')(j:ak w.heap<=d):Lib.BuilderAt 179 5 B b p bs w':=by obtain⟨o,v,f,i,q⟩:=h;refine⟨o,v, ?_, ?_,q⟩;exact(k.block b<|zm (za.1 f).1 j).trans f;refine⟨i.1,i.2.imp id ?_⟩;rintro⟨g,a,c,l,m,e,n⟩;exact⟨g,a,c,l,m,(k.block g<|zm (za.1 e).1 j).trans e,n⟩
def wH.Y{B b a l w w'}(h:wH B b l w)(d:aN a w w')(c:ak w.heap<=a):wH B b l w':=
 h.imp (λh=>UD h d c) λh=>UD h d c
def znq(a b):hZ (a++b)=hZ a++hZ b:=by simp[hZ]
def UE(B b l s w)(h:wH B b l w)(c:aa l+aa s<=140737488355328)(a:B<=ak w.heap):
  aG prog 101 #[zo b,zs s] w λe w'=>e=ah (bU #[zi (aa s),.nilIface])/\wH B b (l++s) w'/\aN B w w':=
 (Any.Builder_WriteString yn kI B b (hZ l) (st s) w h (by grind [hZ,zn]) a).mono λe w'⟨d,f,g⟩=>⟨d.trans<|by rw[zn],aE<|by rw[znq];exact f,g⟩
def xif(B b l w)(h:wH B b l w)(a:B<=ak w.heap):
  aG prog 102 #[zo b] w λe w'=>e=ah (zs l)/\aN B w w':=
 Any.Builder_String_any ym kI B b l w h a
def uD:Vk->Prop
 | .put k v=>k≠[]/\aa k<=16/\aa v<=32| .del k=>k≠[]/\aa k<=16
def Z5(D:List Vk):Zl:=D.flatMap tq
def Nl{c}(h:uD c):aa (tq c)<=51:=by
 cases c with
 |put k v=>simp[tq,vx,Z2];have:=h.2.1;have:=h.2.2;omega
 |del k=>simp[tq,Z2];have:=h.2;omega
theorem EY:∀{D:List Vk},(∀c∈D,uD c)->aa (Z5 D)<=51*aa D
 |[],_=>by simp[Z5]|c::D,h=>by have b:=Nl (h c Ä);have d:=EY λx a=>h x<|jw _ a;grind [Z5]
def UH(D c):Z5 (D++[c])=Z5 D++tq c:=by simp[Z5]
def xF{w:Zy}{a v}(h:ae w a=ac v):a.block<ak w.heap:=ģ
def xys(x w):(method 513 86 x "coffer/coffer.plainText").run prog w=cT (324,x) w:=Á
def xyt(x w):(method 513 88 x "coffer/coffer.plainText").run prog w=cT (325,x) w:=Á
def zxa(g cap D)(T:aa D<=1000000)(F:∀c∈D,uD c)(w)(d:vj w g D):
  aG prog 66 #[az (ac ⟨g,0,ar⟩) (aa D) cap] w λe w'=>e=ah (aj<|st<|Z5 D)/\aN (ak w.heap) w w':=by
 have I:vj w g D/\(D≠[]->g<ak w.heap):=⟨d,λh=>by have:=d 0<|Z0.2 h;exact xF this⟩;have H:=F;have K:=wH.dT w;have W0:aN (ak w.heap) w<|aB w<|aq #[aR ar,az ar 0 0] 179:=(zt _ _).alloc (zd _) _;go_enter func66.1,Tryz.ntmps66;go_wp2;generalize aB w (aq #[aR ar,az ar 0 0] 179)=W at*;go_loopw [8] (λi wr=>∃k:Nat,k<=aa D/\i=aH aU k/\wH (ak w.heap) (ak w.heap) (Z5<|D.take k) wr/\aN (ak w.heap) w wr) (λi _=>bB (aa D-bP i))
 case atStart=>exact⟨0,À,rfl,K,W0⟩
 case round=>
  obtain⟨k,hk,rfl,G,B⟩:=hrel;by_cases l:k<aa D
  ·have U:(k:Int)<(aa D:Nat):=by omega
   have M:=I.2 Â;have o:=(B.cell M).trans<|I.1 k l;have b:=H D[k]<|Xk l;have s:aK<|Z5 (D.take<|k+1)=Z5 (D.take k)++tq D[k]:=by show _=_;rw[zp l,UH]
   have S:aa (Z5<|D.take k)<=51*k:=by have:=EY (D:=D.take k) λx O=>H x<|Gv O;rw[xf,CE hk]at this;exact this
   have n:=B;have J:=G;obtain⟨c,E⟩:∃c,D[k]=c:=⟨_,rfl⟩;rw[E]at o s b;generalize Z5 (D.take k)=l1 at*;cases c with
   |put ky v=>
    have r:ky≠[]/\aa ky<=16/\aa v<=32:=b;have C:ae wr ⟨g,k,ar⟩=ac (gB 86<|bM #[aj<|st ky,aj<|st v]):=o;have z:=xys (bM #[aj<|st ky,aj<|st v]) wr;have q:=Nl (c:= .put ky v) b;clear o b;go_wp2;refine(xd5 ky v À À _).mono ?_;rintro e w1⟨rfl,a⟩;have m:=Xs n a;have t:=J.Y a<|zd _;go_wp2;refine(UE (ak w.heap) (ak w.heap) l1 (tq<|.put ky v) _ t À m.size).mono ?_;rintro e Q⟨rfl,y,j⟩;have f:=y;have p:=m.trans j;go_wp2;go_roundw
    case rel=>exact⟨k+1,À,Å,by rw[s.o];exact f,p⟩
    grind [bP]
   |del ky=>
    have r:ky≠[]/\aa ky<=16:=b;have C:ae wr ⟨g,k,ar⟩=ac (gB 88<|bM #[aj<|st ky]):=o;have z:=xyt (bM #[aj<|st ky]) wr;have q:=Nl (c:= .del ky) b;clear o b;go_wp2;refine(xcy ky À _).mono ?_;rintro e w1⟨rfl,a⟩;have m:=Xs n a;have t:=J.Y a<|zd _;go_wp2;refine(UE (ak w.heap) (ak w.heap) l1 (tq<|.del ky) _ t À m.size).mono ?_;rintro e Q⟨rfl,y,j⟩;have f:=y;have p:=m.trans j;go_wp2;go_roundw
    case rel=>exact⟨k+1,À,Å,by rw[s.o];exact f,p⟩
    grind [bP]
  obtain rfl:k=aa D:=À
  rw[jz]at G;have L:=G;have n:=B;go_wp2;refine(xif (ak w.heap) (ak w.heap) (Z5 D) _ L n.size).mono ?_;rintro e w1⟨rfl,a⟩;have R:=n.trans a;go_wp2;go_ret;simp_all
end
section
open Go.RowKit
section
variable {c:UInt8} {ep op cnt n:Nat} {y:List UInt8}
end
section
variable {m mark:List UInt8} {c:UInt8} {ep op cnt:Nat} {plain y:List UInt8}
def xk5:aa (sH m mark [c] ep op cnt plain)=32:=wu _ _
end
end
section
open Go.RowKit
attribute [local go_sem] zn zg
section
variable {P:bT} {w:cY} {t kt et:nt} {m:Nat} {L:KV}
end
def xkz(L):aa (Vv L)=aa L:=by rw[Vv,(Xo _ _).length_eq,jl]
theorem zup{L k}:k∈Vv L↔k∈L.map (·.1):=(Xo _ _).mem_iff
def Nm(w:Zy)(g:Nat)(xs:List Zl):Prop:=∃cur,w.heap[g]?=ac (aq cur 9 (0,0))/\∀i (h:i<aa xs),cur[i]?=ac (aj<|st xs[i])
def Nm.i{w g xs}(h:Nm w g xs)(i)(d:i<aa xs):ae w (zq g i)=ac (aj<|st xs[i]):=by obtain⟨a,b,c⟩:=h;grind [ae]
def UM{w B v xs f}(c:∀x,f x=zs x)(h:w.ownsRow B 9 1 v (aa xs)<|xs.map f):(v=az ar 0 0/\xs=[])\/∃g cap,v=az (ac ⟨g,0,ar⟩) (aa xs) cap/\aa xs<=cap/\B<=g/\Nm w g xs:=by
 obtain⟨b,n⟩|⟨g,cap,a,m,d,e,k,o,p,l⟩:=h.2;grind;refine aE ⟨g,cap,m,k,d,a,e,λi j=>?_⟩;have b:(a.toList.take<|aa xs*1)[i]?=ac (aj<|st xs[i]):=by rw[l];simp[j,c]
 grind
end
section
open Go.RowKit
attribute [local go_sem] zn zg
def kV.nQ(s:kV):kV:={s with L:=fE s.L s.P,pv:=az ar 0 0,P:=[]}
def Sr.gZ(r:Sr)(s:kV):Option Int×Sr:=
 if s.P=[]then(ac 0,r)
 else if(r.eG s [82] s.ep<|Z5 s.P).1=ac 0 then(ac 0,{(r.eG s [82] s.ep<|Z5 s.P).2 with sn:=ac ({s with aP:=(r.cH s).1}:kV).nQ})
 else r.eG s [82] s.ep (Z5 s.P)
def xlf{r a:Sr}{s kind plain ep}(b:r.sn=ac s)(h:r.eG s kind ep plain=(ac 0,a)):a.sn=ac {s with aP:=(r.cH s).1}:=by unfold Sr.eG at h;split at h;cases h;split at h;cases h;split at h;cases h;split at h;cases h;cases h;rfl
def zxz{r c:Sr}{s kind plain ep a}(b:r.sn=ac s)(h:r.eG s kind ep plain=(a,c)):∃l,c.sn=ac {s with aP:=l}:=by unfold Sr.eG at h;split at h;cases h;exact⟨s.aP,b⟩;split at h;cases h;exact⟨s.aP,b⟩;split at h;cases h;exact⟨s.aP,b⟩;split at h;cases h;exact⟨s.aP,b⟩;cases h;exact⟨_,rfl⟩
def Zd.Bq{B r s w w1}(h:Vq w B r)(d:r.sn=ac s)(m:zj (·=s.mp) w w1)(t:Je w1 s.mp<|fE s.L s.P):
  Zd B r w {r with sn:=ac s.nQ} (ai w1 (zq s.S 1)<|az ar 0 0):=by
 obtain⟨k,j⟩:=h.fW s d;obtain⟨z,c,g⟩:=k.iQ.bO;have f:=k.bO.gu g;have p:=h.bO.gu g;have q:s.S≠B:=λe=>k.bO.ne h.bO Ã e;have i:zj (λx=>x=s.mp\/x=s.S) w<|ai w1 (zq s.S 1)<|az ar 0 0:=(m.W λx b=>aF b).aA<|(zj.H w1 _ _).W λx b=>aE b;refine⟨i.W λx b=>?_,⟨?_, ?_,λy l=>?_⟩,λx b=>?_⟩;obtain e|e:=b;exact aE<|aE ⟨s,d,aE<|aF e⟩;exact aE<|aE ⟨s,d,aF e⟩;have:=h.bO.y i À
 grind [Sr.G,Sr.nz,kV.nQ];refine h.fh.y i λx b e=>?_;refine h.eF d ?_ b;obtain e|e:=e;exact aE<|aF e;exact aF e;cases l;refine⟨⟨?_, ?_, ?_⟩,j⟩;have o:=k.bO.y m f;exact o.H 1 _;exact t.y (zj.H w1 _ _) λe=>f e.symm;exact jk _ _ _ _;obtain e|e|⟨y,e,b⟩:=b;exact aF<|aF e;exact aF<|aE<|aF e;cases e;obtain e|e|⟨a,n,c,v,e⟩:=b;exact aF<|aE<|aE ⟨s,d,aF e⟩;exact aF<|aE<|aE ⟨s,d,aE<|aF e⟩;cases v
def Uy{f args cv w A}{T:Sr->Zy->Prop}(h:aG prog f args w λe w'=>∃a r',A=(a,r')/\e=Ip cv a/\T r' w'):
  aG prog f args w λe w'=>(∃v r',A=(ac v,r')/\e=ah (zi v)/\T r' w')\/(∃r',A=(ar,r')/\e=jM cv/\T r' w'):=
 h.mono λe w'⟨a,r',b,c,d⟩=>by cases a with|none=>exact aE ⟨r',b,c,d⟩|some v=>exact aF ⟨v,r',b,c,d⟩
def Zd.nw{B r w w'}(h:Vq w B r)(a:Nw w w'):Zd B r w r w':=⟨a.W λ_ x=>x.elim,h.y a λ_ _=>id,λx b=>aF b⟩
def xvh{cv tv}(B r s w)(h:Vq w B r)(F:r.sn=ac s)(C:vq B r)(hG:oe cv tv w)(hP:∀c∈s.P,uD c):
  aG prog 35 #[zo B] w λe w'=>∃a r',r.gZ s=(a,r')/\e=Ip cv a/\Zd B r w r' w':=by
 have E:=h;have HK:=C;have HG:=hG;have y:=F;have HP:=hP;have k:=(h.fW s F).1;have c7:ae w (zq B 7)=ac (zo s.S):=(h.bO.i 7 rfl).trans (by simp[Sr.G,Sr.nz,F]);have U:ae w (zq s.S 1)=ac s.pv:=k.bO.i 1 rfl;have bc:=(C.fW s F).2.2;obtain⟨j,b⟩|⟨g,f,j,D,hg⟩:=MB k.iy
 ·rw[j]at U;have M:aK<|r.gZ s=(ac 0,r):=by show _=_;unfold Sr.gZ;rw[if_pos b]
  go_enter func35.1,Tryz.ntmps35;go_wp2;go_ret;exact⟨_,_,M.o,rfl,Zd.refl E⟩
 rw[j]at U;by_cases b:s.P=[]
 ·have M:aK<|r.gZ s=(ac 0,r):=by show _=_;unfold Sr.gZ;rw[if_pos b]
  rw[b]at U;go_enter func35.1,Tryz.ntmps35;go_wp2;go_ret;exact⟨_,_,M.o,rfl,Zd.refl E⟩
 have x:=b;have bb:¬aa s.P=0:=λe=>b<|jv e;have d2:=k.bO.i 2 rfl;have O:vj w.drew g s.P:=D;have m:=j;go_enter func35.1,Tryz.ntmps35;go_wp2;have d:∀w1 r1 l,Zd B r w r1 w1->r1.sn=ac {s with aP:=l}->ae w1 (zq s.S 1)=ac (az (ac ⟨g,0,ar⟩) (aa s.P) f)/\ae w1 (zq s.S 2)=ac (zi s.ep):=λw1 r1 l W he=>by have p:=(W.dS.fW _ he).1;exact⟨(p.bO.i 1 rfl).trans<|congrArg ac m,p.bO.i 2 rfl⟩
 have T0:=Zd.nw E (zj.refl _ _).U;have T:=d w r _ (Zd.refl E) y;have K:aa (Z5 s.P)<=4000:=by have:=EY HP;show _<=_;omega
 go_region_held2 (λw'=>ae w' (zq s.S 1)=ac (az (ac ⟨g,0,ar⟩) (aa s.P) f)/\ae w' (zq s.S 2)=ac (zi s.ep)) (first|exact T|exact S1)
  (first
   |(go_at_call 66;refine(zxa g f s.P À HP _ O).mono ?_;rintro e w1⟨rfl,hb⟩;have T1:=T0.aA<|Zd.nw T0.dS<|zj.Q hb;have G1:=HG.y T1.y HK.cO;have S1:=d _ _ _ T1 y)
   |(go_at_call 65;refine(Uy<|xq5 B r s [82] s.ep _ _ T1.dS y HK G1 rfl K).mono ?_;rintro e H (⟨v,G,Z,rfl,o⟩|⟨G,Z,rfl,o⟩);rotate_left;(exact⟨rfl,ar,G,by grind [Sr.gZ],rfl,T1.aA o⟩);have R:=Z;have T2:=T1.aA o;obtain⟨l2,z⟩:=zxz y Z;have ba:=z;have S1:=d _ _ _ T2 z))
 have q:=T2.dS;try clear hHeld
 by_cases hv:v=0
 ·subst hv;have n:aK<|r.gZ s=(ac 0,{G with sn:=ac ({s with aP:=(r.cH s).1}:kV).nQ}):=by show _=_;unfold Sr.gZ;rw[if_neg x,R,if_pos rfl]
  have t:=xlf y R;have i:=(q.fW _ t).1;have d:∀w1,zj (·=s.mp) H w1->ae w1 (zq s.S 0)=ac (eK<|some s.mp)/\ae w1 (zq s.S 1)=ac (az (ac ⟨g,0,ar⟩) (aa s.P) f)/\aQ w1 (zq s.S 1)=ao:=λw1 W=>by obtain⟨es,c,Y⟩:=i.iQ.bO;have p:=i.bO.y W<|i.bO.gu Y;exact⟨p.i 0 rfl,(p.i 1 rfl).trans<|congrArg ac m,p.dG 1⟩
  have T:=d H<|zj.refl _ _;have I:Je H.drew s.mp s.L:=i.iQ;have J:H.drew.ownsRow 0 126 1 (az (ac ⟨g,0,ar⟩) (aa s.P) f) (aa s.P)<|s.P.map mG:=by have:=i.iy;show World.ownsRow _ _ _ _ _ _ _;rw[<-m];exact this
  go_wp2;go_region_held3 (λw'=>ae w' (zq s.S 0)=ac (eK<|some s.mp)/\ae w' (zq s.S 1)=ac (az (ac ⟨g,0,ar⟩) (aa s.P) f)/\aQ w' (zq s.S 1)=ao) (first|exact T|exact S2)
   ((go_at_call 44;refine(TO s.mp s.L _ s.P À _ I J).mono ?_;rintro e w4⟨rfl,V,X⟩;have B4:=(zj.refl _ _).U.aA V;have M4:=X;have S2:=d _ B4))
  have Q:=T2.aA<|Zd.Bq q t B4 M4;obtain⟨e0,e1,e2⟩:=S2;try clear hHeld
  go_wp2;go_ret;exact⟨_,_,n.o,rfl,Q⟩
 have n:aK<|r.gZ s=(ac v,G):=by show _=_;unfold Sr.gZ;rw[if_neg x,R,if_neg Â]
 go_wp2;go_ret;exact⟨_,_,n.o,rfl,T2⟩
end
section
open Go.RowKit
attribute [local go_sem] zn zg
end
def yo(a b:Zl):Zl:=lM (1::(a++b))
def qH(p:Zl):Zl:=lM (0::p)
def d8:List Zl->List Zl
 |a::b::r=>yo a b::d8 r|l=>l
def up:Nat->List Zl->List Zl
 |0,l=>l|k+1,l=>up k<|d8 l
def J9(ps:List Zl):Zl:=if ps=[]then lM []else(up 8<|ps.map qH).headD []
def Dj:∀l:List Zl,aa (d8 l)=(aa l+1)/2
 |[]=>rfl|[_]=>by simp[d8]
 |_::_::r=>by simp only[d8,xg,Dj r];omega
theorem Iw:∀a b:List Zl,aa a%2=0->d8 (a++b)=d8 a++d8 b
 |[],b,_=>rfl|[_],_,h=>by simp at h
 |x::y::r,b,h=>by
  have c:aa r%2=0:=by simp only[xg]at h;omega
  simp only[qg,d8,Iw r b c]
theorem MZ(x):∀k,up k [x]=[x]
 |0=>rfl|k+1=>MZ x k
theorem MY:∀(j k:Nat) (l:List Zl),up (j+k) l=up k (up j l)
 |0,k,l=>by rw[j7];rfl|j+1,k,l=>by rw[Nat.add_right_comm];exact MY j k _
def EZ:∀(k:Nat) (l:List Zl),0<aa l->aa l<=2^k->∃x,up k l=[x]
 |0,l,h0,h1=>by
  match l,h0,h1 with
  |[x],_,_=>exact⟨x,rfl⟩|_::_::_,_,h=>simp at h
 |k+1,l,h0,h1=>by have a:=Dj l;rw[yQ]at h1;exact EZ k _ À À
def UN:∀(k:Nat) (a b:List Zl),aa a=2^k->up k (a++b)=up k a++up k b
 |0,_,_,_=>rfl
 |k+1,a,b,h=>by
  have c:aa a%2=0:=by rw[h,yQ];omega
  have d:=Dj a;rw[h,yQ]at d;show up k (d8<|a++b)=up k (d8 a)++up k (d8 b);rw[Iw a b c];exact UN k _ _ À
theorem UB{k j l x}(h:up k l=[x])(hk:k<=j):up j l=[x]:=by grind [Nat.exists_eq_add_of_le,MY,MZ]
def xkq(p):J9 [p]=qH p:=by rw[J9,if_neg Ä];simp[MZ]
def xkp:J9 []=lM []:=rfl
theorem E4{a k x}(h:up k (a.map qH)=[x])(hk:k<=8)(b:a≠[]):J9 a=x:=by grind [J9,UB]
def xa8(a b k)(hk:k<8)(e:aa a=2^k)(c:0<aa b)(m:aa b<=2^k):J9 (a++b)=yo (J9 a) (J9 b):=by
 have n:0<2^k:=Nat.two_pow_pos k;obtain⟨x,f⟩:=EZ k (a.map qH) Â Â;obtain⟨y,g⟩:=EZ k (b.map qH) Â Â;have l:up k ((a++b).map qH)=[x,y]:=by rw[qz,UN k _ _ Â,f,g];rfl
 have j:up (k+1) ((a++b).map qH)=[yo x y]:=by rw[MY,l];rfl
 have d:a≠[]:=by intro h;rw[h]at e;simp at e;omega
 have i:b≠[]:=by intro h;rw[h]at c;simp at c
 rw[E4 j À<|by simp[d],E4 f À d,E4 g À i]
def Nj{l}(h:∀x∈l,aa x=32):∀x∈d8 l,aa x=32:=by
 match l,h with
 |[],h=>exact h|[_],h=>exact h
 |a::b::r,h=>intro x c;simp only[d8,jc]at c;obtain rfl|c:=c;exact vf _;exact Nj (λy d=>h y<|by simp[d]) x c
def Uz:∀(k:Nat) (l:List Zl),(∀x∈l,aa x=32)->∀x∈up k l,aa x=32
 |0,_,h=>h|k+1,_,h=>Uz k _<|Nj h
def xti(b:List Zl):∀x∈b.map qH,aa x=32:=λy a=>by simp only[Xe]at a;obtain⟨p,_,rfl⟩:=a;exact vf _
def UC:∀(k:Nat) (l:List Zl),up (k+1) l=d8 (up k l)
 |0,_=>rfl|k+1,l=>UC k<|d8 l
def xko{a j x}(h:up j (a.map qH)=[x])(d:aa a<=256)(b:a≠[]):J9 a=x:=by
 have c:0<aa a:=by cases a<;>simp_all
 obtain⟨y,e⟩:=EZ 8 (a.map qH) Â Â
 grind [E4,UB]
def UK(a)(h:aa a<=256):aa (J9 a)=32:=by
 by_cases e:a=[];rw[e,xkp,vf];have d:0<aa a:=by cases a<;>simp_all
 obtain⟨x,c⟩:=EZ 8 (a.map qH) Â Â;rw[E4 c À e];have b:∀(k:Nat) (l:List Zl),(∀x∈l,aa x=32)->∀x∈up k l,aa x=32:=by intro k;induction k with|zero=>intro l h;exact h|succ k ih=>intro l h;exact ih _<|Nj h
 grind [qH,vf]
section
open Go.RowKit
def xua(x):({data:=#[1]}:ByteArray)++st x=st (1::x):=zg [1] x
def xre(x):({data:=#[0]}:ByteArray)++st x=st (0::x):=zg [0] x
attribute [local go_sem] zn zg xua xre
def sv(L:List Zl):Ze:=L.map λl=>aj (st l)
def xzz(L):aa (sv L)=aa L:=by simp[sv]
def Nf(a b):sv (a++b)=sv a++sv b:=by simp[sv]
theorem jdj(L j)(h:j<aa L):(sv L)[j]?=ac (aj<|st L[j]):=by simp[sv,h]
def Iu:∃i,prog.info? 9=ac i/\i.zero=ac (aj ⟨#[]⟩)/\i.size=1/\i.bytes=16:=by
 have h:(prog.info? 9).map (λi=>(i.zero,i.size,i.bytes))=ac (ac<|aj ⟨#[]⟩,1,16):=Á
 simp_all
def uh(w:Zy)(g off:Nat)(L:List Zl):Prop:=∀j (h:j<aa L),ae w (zq g<|off+j)=ac (aj<|st L[j])
def uh.Y{w w' g off B L}(h:uh w g off L)(b:g<B)(a:aN B w w'):uh w' g off L:=λj c=>(a.cell b).trans<|h j c
def UG{w base g n cap L}(h:w.ownsRow base 9 1 (az (ac ⟨g,0,ar⟩) n cap) n<|sv L):n=aa L/\base<=g/\g<ak w.heap/\uh w g 0 L:=by
 have f:n=aa L:=by have:=h.1;simpa[xzz]using this.symm
 obtain⟨d,_⟩|⟨l,b,a,k,e,c,m,_,p,i⟩:=h.2;cases d;cases k;refine⟨f,e,(za.1 c).1,λj o=>?_⟩;rw[j7,xb _ _ j _ _ _ c];have:(a.toList.take<|n*1)[j]?=(sv L)[j]?:=by rw[i]
 grind [jdj]
def MX{w w' B g i j a b}(c:aN B w w')(d:g<B)(e:ae w (zq g i)=ac a)(f:ae w (zq g j)=ac b):ae w' (zq g i)=ac a/\ae w' (zq g j)=ac b:=
 ⟨(c.cell d).trans e,(c.cell d).trans f⟩
def M'(w:Zy)(l):∀j u,[zs l][j]?=ac u->ae (aB w<|aq #[zs l] 9) (((zq (ak w.heap) 0):Addr).add j)=ac u:=
 fY (xn _ _)
def Na(l):∀u∈[zs l],u.oneCell'=aw:=by intro u a;simp only[ju]at a;subst a;rfl
def xb4:∀(L:List Zl) (k:Nat) (h:2*k+1<aa L),d8 (L.take<|2*(k+1))=d8 (L.take<|2*k)++[yo L[2*k] L[2*k+1]]:=by
 intro L k h;have e:L.take (2*(k+1))=L.take (2*k)++[L[2*k],L[2*k+1]]:=by rw[show 2*(k+1)=2*k+1+1 by omega,zp h,zp À,jq];rfl
 rw[e,Iw _ _ Â];rfl
def xii(L k)(h:aa L=2*k+1):d8 L=d8 (L.take<|2*k)++[L[2*k]]:=by
 have e:L=L.take (2*k)++[L[2*k]]:=by rw[<-zp À,qp À]
 grind [d8,Iw]
def zxf(L)(W:0<aa L)(hL:aa L<=256)(E:∀x∈L,aa x=32)(g cap w)(X:gG w)(Z:uh w g 0 L):
  aG prog 235 #[az (ac ⟨g,0,ar⟩) (aa L) cap] w λen w'=>∃g' cap',en=ah (az (ac ⟨g',0,ar⟩) (aa (d8 L)) cap')/\w'.ownsRow (ak w.heap) 9 1 (az (ac ⟨g',0,ar⟩) (aa (d8 L)) cap') (aa (d8 L)) (sv<|d8 L)/\aN (ak w.heap) w w':=by
 have HT:=xe X;have bb:=X.gX;have J:g<ak w.heap:=js<|Z 0 W;have U:=xe Z;have B:=xe E;clear X Z E;obtain⟨i9,Y,s,t,S⟩:=Iu;go_enter func235.1,Tryz.ntmps235;go_wp2_with (refine wpList_make_own _ rfl _ _ 49 rfl w.heap.size 9 i9 _ 1 fC Y s t aU aU _ ((aa L+1)/2) rfl rfl ?l1 ?b1 ?b2 ?b3 ?_)
 case l1=>omega
 case b1=>grind
 case b2=>unfold nT;omega
 case b3=>simp
 intro w1 a K;have G:=(zt _ _).grown K (zd _) (λ_ h=>Ê);clear K;go_wp2;go_loopw [3,4] (λv i wr=>∃(k g' cap':Nat),2*k<=aa L/\i=zi (2*(k:Int))/\v=az (ac ⟨g',0,ar⟩) k cap'/\wr.ownsRow (ak w.heap) 9 1 (az (ac ⟨g',0,ar⟩) k cap') k (sv<|d8<|L.take<|2*k)/\aN (ak w.heap) w wr) (λ_ i _=>bB (aa L-bP i))
 case atStart=>exact⟨0,_,_,À,Å,rfl,a,G⟩
 case round=>
  clear a G;obtain⟨k,g',cap',hk,rfl,rfl,a,l⟩:=hrel;obtain⟨q,bc,bd,_⟩:=UG a;by_cases ba:2*k+1<aa L
  ·obtain⟨x,r⟩:∃x,L[2*k]=x:=⟨_,rfl⟩;obtain⟨y,hy⟩:∃y,L[2*k+1]=y:=⟨_,rfl⟩;have lx:=B.o x Â;have ly:=B.o y Â;have C:ae w (zq g<|2*k)=ac (zs x):=by have:=U.o (2*k) À;rwa[j7,r]at this
   have T:ae w (zq g<|2*k+1)=ac (zs y):=by have:=U.o _ À;rwa[j7,hy]at this
   have cr:∀o,ae wr (zq g o)=ae w (zq g o):=λo=>l.cell J;have i0:(0:Int)<=2*(k:Int):=À
   have i1:2*(k:Int)+1<(aa L:Nat):=À
   have i2:2*(k:Int)<(aa L:Nat):=À
   have i3:(0:Int)<=2*(k:Int)+1:=À
   have t0:bB (2*(k:Int))=2*k:=À
   have t1:bB (2*(k:Int)+1)=2*k+1:=À
   have e1:IntKind.i64.wrap (2*(k:Int)+1)=2*(k:Int)+1:=Ì
   have z:aK<|d8 (L.take<|2*(k+1))=d8 (L.take<|2*k)++[yo x y]:=by show _=_;rw[xb4 L k ba,r,hy]
   have HO:=xe a;have V:=xe<|HT.o.Y bb l.drew;have R:=l.size;clear a q r hy;go_wp2;have S0:ae wr (zq g<|2*k)=ac (zs x)/\ae wr (zq g<|2*k+1)=ac (zs y):=⟨(cr _).trans C,(cr _).trans T⟩;go_region_held3 (λw'=>ae w' (zq g<|2*k)=ac (zs x)/\ae w' (zq g<|2*k+1)=ac (zs y)) (first|exact S0|exact S2|exact S3|exact S4)
    (first
     |(go_at_call 234;refine(zM _ ?_ _ V.o).mono ?_;(simp;omega);rintro en w2⟨rfl,H⟩;have f:=l.drew.trans<|H.mono R;have S2:=MX f J C T;have m:=f.alloc f.size<|aq #[aj<|st<|lM (1::(x++y))] 9;have S3:=MX m J C T;have j:=(LX HO.o.drew H).alloc<|aq #[aj<|st<|lM (1::(x++y))] 9)
     |(refine step_append_lies _ à _ _ 49 à _ 9 i9 _ 1 16 fC Y s t S à Ã _ k _ à j _ 1 1 _ à à (M' _ _) (Na _) Ã Ø À m.size (ak w2.heap+1) Ä ?_;intro D c w4 b d e M;have n:=m.grown d m.size<|zE j;have S4:=MX n J C T))
   have p:w4.ownsRow (ak w.heap) 9 1 (az (ac ⟨D,0,ar⟩) (k+1) c) (k+1)<|sv<|d8<|L.take<|2*(k+1):=by rw[z.o,Nf];exact b
   clear b j d e S0 S2 S3 S4;go_wp2;go_roundw
   case rel=>exact⟨k+1,D,c,À,Å,rfl,p,n⟩
   grind [bP]
  have i1:¬2*(k:Int)+1<(aa L:Nat):=À
  by_cases I:aa L=2*k
  ·have O:((aa L:Int)%2==1)=ao:=by simp;omega
   have F:aa (d8 L)=k:=by rw[Dj];omega
   rw[qp À]at a;have z:=xe F;clear F I q;go_wp2;go_ret;exact⟨g',cap',by rw[z.o];rfl,by rw[z.o];omega,l⟩
  have Q:aa L=2*k+1:=À
  have O:((aa L:Int)%2==1)=aw:=Æ
  obtain⟨x,r⟩:∃x,L[2*k]=x:=⟨_,rfl⟩;have C:ae wr (zq g<|aa L-1)=ac (zs x):=by have:=U.o (2*k) À;rw[j7,r]at this;rw[show aa L-1=2*k by omega];exact(l.cell J).trans this
  have i2:(0:Int)<=(aa L:Int)-1:=À
  have i3:(aa L:Int)-1<(aa L:Nat):=À
  have i4:(1:Int)<=(aa L:Nat):=À
  have z:aK<|d8 L=d8 (L.take<|2*k)++[x]:=by show _=_;rw[xii L k Q,r]
  have HN:aK<|aa (d8 L)=k+1:=by show _=_;rw[Dj];omega
  clear Q I r q;go_wp2_with (refine wpList_append_lies _ rfl _ _ 49 rfl w.heap.size 9 i9 _ 1 16 fC Y s t S rfl Ã (az _ k cap') k (sv<|d8<|L.take<|2*k) rfl ?own _ 1 1 _ rfl rfl (M' _ _) (Na _) Ã ?m1 ?m2 ?m3 (ak wr.heap+1) ?m4 ?_)
  case own=>exact a.alloc _
  case m1=>unfold nT;omega
  case m2=>omega
  case m3=>omega
  intro D c w4 b d e M;have n:=(l.alloc l.size _).grown d (by have:=l.size;simp;omega)<|zE a;have p:w4.ownsRow (ak w.heap) 9 1 (az (ac ⟨D,0,ar⟩) (k+1) c) (k+1)<|sv<|d8 L:=by rw[z.o,Nf];exact b
  clear b d e a;go_wp2;go_ret;exact⟨D,c,by rw[HN.o];rfl,by rw[HN.o];omega,n⟩
def Uv:Zv->Nat
 | az _ n _=>n|_=>0
def xkg{w:Zy}{b f e a v n xs}(i:b<=f)(h:w.ownsRow f e a v n xs):w.ownsRow b e a v n xs:=by refine⟨h.1, ?_⟩;obtain l|⟨g,c,d,k,j,r⟩:=h.2;grind;exact aE ⟨g,c,d,k,xa i j,r⟩
def xp3(a cap w)(c:gG w):aG prog 176 #[az a 0 cap] w λen w'=>en=ah (zs<|J9 [])/\aN (ak w.heap) w w':=by have b:=c;go_enter func176.1,Tryz.ntmps176;go_wp2;refine(zM [] Ã _ b).mono ?_;rintro en w1⟨rfl,d⟩;go_wp2;go_ret;exact⟨rfl,d⟩
def xp2(L)(z:0<aa L)(W:aa L<=256)(hp:∀x∈L,aa x<=4095)(g off cap w)(X:gG w)(hl:uh w g off L):
  aG prog 176 #[az (ac ⟨g,off,ar⟩) (aa L) cap] w λen w'=>en=ah (aj<|st<|J9 L)/\aN (ak w.heap) w w':=by
 have V:=X;have D:=X.gX;have hg:g<ak w.heap:=js<|hl 0 z;have HL:=hl;have HP:=hp;obtain⟨i9,Z,E,F,U⟩:=Iu;go_enter func176.1,Tryz.ntmps176;go_wp2_with (refine wpList_make_own _ rfl _ _ 49 rfl w.heap.size 9 i9 _ 1 fC Z E F aU aU _ (aa L) rfl rfl ?l1 ?b1 ?b2 ?b3 ?_)
 case l1=>rfl
 case b1=>grind
 case b2=>unfold nT;omega
 case b3=>simp
 intro w1 a T;have Q:=(zt _ _).grown T (zd _) λ_ h=>Ê
 go_wp2;go_loopw [3,15] (λv i wr=>∃(k o b:Nat),k<=aa L/\i=aH aU (k:Int)/\v=az (ac ⟨o,0,ar⟩) k b/\wr.ownsRow (ak w.heap) 9 1 (az (ac ⟨o,0,ar⟩) k b) k (sv<|(L.map qH).take k)/\aN (ak w.heap) w wr) (λ_ i _=>bB (aa L-bP i))
 case atStart=>exact⟨0,_,_,À,rfl,rfl,a,Q⟩
 case round=>
  obtain⟨k,o,b,hk,rfl,rfl,a,m⟩:=hrel;by_cases C:k<aa L
  ·obtain⟨x,t⟩:∃x,L[k]=x:=⟨_,rfl⟩;have lx:=HP x Â;have c0:ae wr ⟨g,off+k,ar⟩=ac (aj<|st x):=by have:=HL k C;rw[t]at this;exact(m.cell hg).trans this
   have i1:(k:Int)<(aa L:Nat):=À
   have HA:aK<|(L.map qH).take (k+1)=(L.map qH).take k++[qH x]:=by show _=_;rw[zp Â,CD,t]
   have HO:=a;have r:=V.Y D m;go_wp2;refine(zM _ Æ _ r).mono ?_;rintro en w2⟨rfl,p⟩;have c:=m.trans<|p.mono m.size;have f:=LX HO p;go_wp2_with (refine wpList_append_lies _ rfl _ _ 49 rfl w.heap.size 9 i9 _ 1 16 fC Z E F U rfl Ã (az _ k b) k (sv<|(L.map qH).take k) rfl ?own _ 1 1 _ rfl rfl (M' _ _) (Na _) Ã ?m1 ?m2 ?m3 (ak w2.heap+1) ?m4 ?_)
   case own=>exact f.alloc _
   case m1=>unfold nT;omega
   case m2=>omega
   case m3=>have:=c.size;simp;omega
   case m4=>simp
   intro y e w4 s B Y ba;have S:=(c.alloc c.size _).grown B (by have:=c.size;simp;omega)<|zE f;have H:w4.ownsRow (ak w.heap) 9 1 (az (ac ⟨y,0,ar⟩) (k+1) e) (k+1)<|sv<|(L.map qH).take<|k+1:=by rw[HA.o,Nf];exact s
   go_wp2;go_roundw
   case rel=>exact⟨k+1,y,e,À,Å,rfl,H,S⟩
   grind [bP]
  obtain rfl:k=aa L:=À
  rw[qp Ä]at a;obtain⟨R,J⟩:∃R,L.map qH=R:=⟨_,rfl⟩;have bb:aa R=aa L:=by rw[<-J];simp
  have K:∀x∈R,aa x=32:=by rw[<-J];exact xti L
  rw[J]at a;have HR:=J;go_wp2;go_loopw [3] (λv w2=>∃(j n o b:Nat),0<n/\n<=256/\v=az (ac ⟨o,0,ar⟩) n b/\w2.ownsRow (ak w.heap) 9 1 (az (ac ⟨o,0,ar⟩) n b) n (sv<|up j R)/\aN (ak w.heap) w w2) (λv _=>Uv v)
  case atStart=>exact⟨0,_,_,_,z,W,rfl,a,m⟩
  case round=>
   obtain⟨j,n,o,b,be,hn,rfl,a,m⟩:=hrel;obtain⟨q,bc,bd,d⟩:=UG a;by_cases C:1<n
   ·have i2:(1:Int)<(n:Nat):=by omega
    have I:=xe q;have M:=d;have r:=V.Y D m;clear a q d;go_wp2;have l:=zxf _ (by have:=I.o;omega) (by have:=I.o;omega) (Uz j R K) o b wr r M;rw[<-I.o]at l;refine l.mono ?_;rintro en w2⟨y,e,rfl,f,p⟩;have O:aa (d8<|up j R)=(n+1)/2:=by rw[Dj,<-I.o]
    have c:=m.trans<|p.mono m.size;rw[O]at f⊢;have G:w2.ownsRow (ak w.heap) 9 1 (az (ac ⟨y,0,ar⟩) ((n+1)/2) e) ((n+1)/2)<|sv<|up (j+1) R:=by rw[UC];exact xkg m.size f
    go_wp2;go_roundw
    case rel=>exact⟨j+1,(n+1)/2,y,e,À,À,rfl,G,c⟩
    case measure=>simp[Uv];omega
   obtain rfl:n=1:=À
   obtain⟨x,t⟩:=List.length_eq_one_iff.1 q.symm;have c0:ae wr ⟨o,0,ar⟩=ac (aj<|st x):=by have:=d 0 À;rw[j7]at this;rw[this];simp[t]
   have HX:=xko (by rw[HR];exact t) W (by intro h;simp_all);clear a q d t;go_wp2;go_ret;simp_all
end
section
open Go.RowKit
attribute [local go_sem] zn zg
theorem UO(a cap w)(b:gG w):aG prog 117 #[az a 0 cap] w λen w'=>en=ah (bU #[zs<|J9 [],zi 0])/\aN (ak w.heap) w w':=by
 have c:aK<|gG w:=b;clear b;go_enter func117.1,Tryz.ntmps117;go_wp2;go_loopw [11] (λi wr=>i=zi 0/\wr=w) (λ_ _=>0)
 case atStart=>grind
 case round=>obtain⟨rfl,rfl⟩:=hrel;go_wp2;refine(xp3 a cap _ c.o).mono ?_;rintro en w1⟨rfl,d⟩;go_wp2;go_ret2;simp_all
def xrt(L)(a:0<aa L)(m:aa L<=256)(h:∀x∈L,aa x<=4095)(g off cap w)(e:gG w)(f:uh w g off L):
  aG prog 117 #[az (ac ⟨g,off,ar⟩) (aa L) cap] w λen w'=>en=ah (bU #[zs<|J9 L,zi 0])/\aN (ak w.heap) w w':=by
 have l:aK<|gG w:=e;have c:aK<|uh w g off L:=f;have d:aK<|∀x∈L,aa x<=4095:=h;clear e f h;have q:¬(256:Int)<(aa L:Nat):=À
 have o:bI ((256:Int)<(aa L:Nat))=ao:=Æ
 go_enter func117.1,Tryz.ntmps117;go_wp2;go_loopw [11] (λi wr=>∃k:Nat,k<=aa L/\i=zi k/\wr=w) (λi _=>bB (aa L-bP i))
 case atStart=>grind
 case round=>
  obtain⟨k,hk,rfl,rfl⟩:=hrel;by_cases b:k<aa L
  ·obtain⟨x,j⟩:∃x,L[k]=x:=⟨_,rfl⟩;have t:aa x<=4095:=d.o x Â;have p:ae wr (zq g<|off+k)=ac (zs x):=by have:=c.o k b;rw[j]at this;exact this
   have n:(k:Int)<(aa L:Nat):=À
   have s:¬(4095:Int)<(aa x:Nat):=À
   clear j;go_wp2;go_roundw
   case rel=>exact⟨k+1,À,Å,trivial⟩
   grind [bP]
  obtain rfl:k=aa L:=À
  have n:¬((aa L:Nat):Int)<(aa L:Nat):=À
  go_wp2;refine(xp2 L a m d.o g off cap _ l.o c.o).mono ?_;rintro en w1⟨rfl,r⟩;go_wp2;go_ret2;simp_all
def yp:Nat->Zl->List Zl
 |0,_=>[]|n+1,l=>if l=[]then []else l.take 64::yp n (l.drop 64)
def Ys(l:Zl):List Zl:=yp (aa l) l
theorem UJ:∀(n m:Nat) (l:Zl),aa l<=n->aa l<=m->yp n l=yp m l
 |0,0,_,_,_=>rfl|0,m+1,l,h,_=>by grind [yp]
 |n+1,0,l,_,h=>by grind [yp]
 |n+1,m+1,l,h1,h2=>by
  by_cases a:l=[];simp[yp,a];have:0<aa l:=by cases l;exact absurd rfl a;simp
  simp only[yp,a,if_false];rw[UJ n m (l.drop 64) Â Â]
def Ng:Ys []=[]:=rfl
def Nc{l}(h:l≠[]):Ys l=l.take 64::Ys (l.drop 64):=by
 obtain⟨a,b,rfl⟩:∃a b,l=a::b:=by cases l;exact absurd rfl h;grind
 grind [Ys,yp,UJ]
def oV(x:Zl):Zv:=aj (st x)
def UP(x)(hx:aa x<=1000000)(w):aG prog 115 #[zs x] w λe w'=>∃v,e=ah v/\w'.ownsRow (ak w.heap) 9 1 v (aa (Ys x)) ((Ys x).map oV)/\Nw w w':=by
 obtain⟨X,T,n,o,p⟩:=Iu;go_enter func115.1,Tryz.ntmps115;go_wp2;go_loopw [0,3] (λt v wr=>∃(D:List Zl) (r:Zl),t=zs r/\Ys x=D++Ys r/\aa D+aa r<=aa x/\wr.ownsRow (ak w.heap) 9 1 v (aa D) (D.map oV)/\Nw w wr) (λt _ _=>match t with| aj s=>s.size|_=>0)
 case atStart=>exact⟨[],x,rfl,rfl,Ä,jk _ _ _ _,zj.refl _ _⟩
 case round=>
  obtain⟨D,r,rfl,f,E,a,m⟩:=hrel;have q:=f;obtain⟨Q,d,rfl,C⟩:=Wo a;have y:=a;have l:=m;by_cases i:r=[]
  ·subst i;have U:=xl [];have J:aK<|Ys x=D:=by show _=_;rw[q,Ng,Xz]
   go_wp2;go_ret;rw[J.o];simp_all
  have U:¬(st r).toList=[]:=by rw[xl];exact i
  have V:(st r).toList.isEmpty=ao:=by rw[xl];cases r;exact absurd rfl i;rfl
  have W:0<aa r:=by cases r;exact absurd rfl i;simp
  have K:aK<|Ys x=(D++[r.take 64])++Ys (r.drop 64):=by show _=_;rw[q,Nc i];simp
  have G:min (64:Int) (aa r:Nat)=((min 64 (aa r):Nat):Int):=À
  have L:aK<|Value.string ((st r).extract 0<|min 64 (aa r))=oV (r.take 64):=by show _=_;rw[te];unfold oV;congr 2;obtain h|h:=Nat.le_total 64 (aa r);grind;grind
  have M:aK<|(st r).extract (min 64 (aa r)) (aa r)=st (r.drop 64):=by show _=_;rw[Ma];congr 1;obtain h|h:=Nat.le_total 64 (aa r);grind;simp
  go_wp2_with (refine wpList_append_lies _ rfl _ _ 49 rfl w.heap.size 9 X _ 1 16 fC T n o p rfl Ã (az Q _ d) (aa D) (D.map oV) rfl ?own _ 1 1 [aj<|(st r).extract 0<|min 64 (aa r)] rfl rfl ?nw ?o1 Ã ?m1 ?m2 ?m3 (ak wr.heap+1) ?m4 ?_)
  case own=>exact y.alloc _
  case m1=>unfold nT;omega
  case m2=>omega
  case m3=>have:=l.J;simp;omega
  case m4=>simp
  case o1=>intro z k;simp at k;rw[k];rfl
  case nw=>intro j z k;cases j with|zero=>simp at k;subst k;simp[go_sem,Addr.add]|succ j=>grind
  intro S c H b g B F;have I:Nw w H:=by have R:=(zt _<|aB wr<|aq _ 9).grown g (by have:=l.J;simp;omega)<|zE y;exact(l.aA<|zj.E _).lP R
  have O:H.ownsRow (ak w.heap) 9 1 (az (ac ⟨S,0,ar⟩) (aa D+1) c) (aa (D++[r.take 64]))<|(D++[r.take 64]).map oV:=by show World.ownsRow _ _ _ _ _ _ _;rw[qz,zx];simp only[Js,CK,<-L.o];exact b
  go_wp2;rw[M.o];refine⟨⟨D++[r.take 64],r.drop 64,rfl,K.o,Â,O,I⟩, ?_⟩;grind [zn]
def Iv(w:Zy)(g:Nat)(xs:List Zl):Prop:=∀i (h:i<aa xs),ae w (zq g i)=ac (oV xs[i])
def Iv.y{S w w' g xs}(h:Iv w g xs)(a:zj S w w')(c:¬S g):Iv w' g xs:=λi b=>a.i c<|h i b
def Uu(w:Zy)(v:Zv)(xs:List Zl):Prop:=∃p g cap,v=az p (aa xs) cap/\(xs≠[]->p=ac ⟨g,0,ar⟩)/\Iv w g xs
def xpk{w base v xs}(h:w.ownsRow base 9 1 v (aa xs)<|xs.map oV):Uu w v xs:=by
 obtain⟨b,e⟩|⟨g,d,a,j,l,m,n,k,o,f⟩:=h.2;have:=jv e;subst this;exact⟨ar,0,0,b,λx=>absurd rfl x,λi c=>absurd c Ä⟩;refine⟨_,g,d,j,λ_=>rfl,λi c=>?_⟩;have:a.toList[i]?=ac (oV xs[i]):=by
  have b:(a.toList.take<|aa xs*1)[i]?=ac (oV xs[i]):=by rw[f];simp[c]
  rw[Gz]at b;simpa[c]using b
 grind [ae]
def Y9(m:Mf)(ck:Zl)(xs:List Zl):List Zl:=xs.mapIdx λi x=>me ck (m.kJ i) x
theorem Dl(m a xs):aa (Y9 m a xs)=aa xs:=by simp[Y9]
def UI(m a xs k)(h:k<aa xs):(Y9 m a xs).take (k+1)=(Y9 m a xs).take k++[me a (m.kJ k) xs[k]]:=by grind [Y9,zp]
def UL(m:Mf)(i):aa (m.kJ i)=8:=by simp[Mf.kJ,Z2]
def xh.qG{B w w' r cs}{t:Zt}(h:xh w r cs t)(a:aN B w w')(b:r<B):xh w' r cs t:=(a.block r b).trans h
def xdr(m xs v b f)(bd:aa b=16)(hx:∀x∈xs,aa x<=4096)(hl:aa xs<=1000)(w)(R:Uu w v xs):
  aG prog 114 #[m.V,v,bM #[aj<|st b,aj<|st f]] w λe w'=>∃v,e=ah v/\w'.ownsRow (ak w.heap) 9 1 v (aa xs) ((Y9 m b xs).map oV)/\Nw w w':=by
 obtain⟨i9,hi,M,O,bh⟩:=Iu;obtain⟨p,g,bo,rfl,hp,L⟩:=R;have HP:=hp;have HR:=L;have HX:=hx;have X:=bd;obtain⟨S,K,D,a⟩:=run_make_own (aB (aB w<|aq m.G 185)<|aq #[aj<|st b,aj<|st f] 120) (ak w.heap) 49 9 i9 _ 1 fC hi M O aU aU (aa xs) Â Ø Æ;have BM:xh S (ak w.heap) m.G 185:=by have d:=(xh.dT w m.G 185).E<|aq #[aj<|st b,aj<|st f] 120;exact(a.block _ d.lt Ä).trans d
 have BK:xh S (ak w.heap+1) #[aj<|st b,aj<|st f] 120:=by have d:=xh.dT (aB w<|aq m.G 185) #[aj<|st b,aj<|st f] 120;simp only[xp]at d;exact(a.block _ d.lt Ä).trans d
 have NM:Nw w S:=((zj.E _).aA<|zj.E _).aA ⟨a.os,a.output,a.size,λk hk _=>a.block k hk Ä⟩;have bn:S.ownsRow (ak w.heap+2) 9 1 (az (ac ⟨ak w.heap+1+1,0,ar⟩) 0 (aa xs)) 0 []:=by refine⟨rfl,aE ?_⟩;obtain⟨d,_⟩|⟨g',bi,ba,R,hg,r⟩:=D.2;cases d;simp only[xp]at R;cases R;exact⟨_,_,ba,rfl,Ä,r⟩
 simp only[xp]at K;unfold Mf.V;unfold Mf.G at K;go_enter func114.1,Tryz.ntmps114;unfold Mf.G;go_wp2;go_loopw [7,15] (λv i wr=>∃k:Nat,k<=aa xs/\i=aH aU k/\wr.ownsRow (ak w.heap+2) 9 1 v k (((Y9 m b xs).take k).map oV)/\Nw w wr/\xh wr (ak w.heap) m.G 185/\xh wr (ak w.heap+1) #[aj<|st b,aj<|st f] 120) (λ_ i _=>bB (aa xs-bP i))
 case atStart=>grind
 case round=>
  obtain⟨k,hk,rfl,o,bf,bc,bb⟩:=hrel;obtain⟨a4,n,rfl,bk⟩:=Wo o;have HO:=o;have HN:=bf;have G:=bc;have t:=bb;by_cases C:k<aa xs
  ·have i1:(k:Int)<(aa xs:Nat):=by omega
   have bg:=HP (λe=>Â);subst bg;have hc:=(HR.y HN id) k C;unfold oV at hc;have HT:=UI m b xs k C;have Y:=HX _<|Xk C;generalize xs[k]=x at*;have c:∀w1,zj (λy=>ak w.heap+2<=y) wr w1->MC (ak w.heap) m m.iI w1/\ae w1 ⟨ak w.heap+1,0,ar⟩=ac (aj<|st b)/\ae w1 ⟨ak w.heap+1,1,ar⟩=ac (aj<|st f):=λw1 h=>by have d:=G.y h À;have h2:=t.y h À;exact⟨d.mc,h2.i 0 rfl,h2.i 1 rfl⟩
   have S0:=c wr<|zj.refl _ _;have H:Nw wr wr.drew:=(zj.refl _ _).U;have bm:ak w.heap+2<=ak wr.heap:=t.lt;have B:∀W:Zy,ae (aB W<|aq #[aj<|st<|me b (m.kJ k) x] 9) ⟨ak W.heap,0,ar⟩=ac (aj<|st<|me b (m.kJ k) x):=λW=>(xh.dT W _ 9).i 0 rfl;go_wp2;go_region_held3 (λw'=>MC (ak w.heap) m m.iI w'/\ae w' ⟨ak w.heap+1,0,ar⟩=ac (aj<|st b)/\ae w' ⟨ak w.heap+1,1,ar⟩=ac (aj<|st f)) (first|exact S0|exact Z|exact SA)
    (first
     |(go_at_call 175;refine(xo9 m k _).mono ?_;rintro e w3⟨rfl,hb⟩;have N3:Nw wr w3:=H.aA<|zj.Q hb;have Z:=c _<|N3.W λ_ x=>x.elim)
     |(go_at_call 156;refine(Ml b f _ x X (UL m k) Y _).mono ?_;rintro e Q⟨rfl,hb⟩;have l:Nw wr Q:=N3.aA<|zj.Q hb;have Z:=c _<|l.W λ_ x=>x.elim;have O4:=Ms HO l λ_ _ x=>x;have bp:=l.J;have SA:=c (aB Q<|aq #[aj<|st<|me b (m.kJ k) x] 9)<|(l.aA<|zj.E _).W λ_ x=>x.elim)
     |(refine step_append_lies _ rfl _ _ 49 rfl _ 9 i9 _ 1 16 fC hi M O bh rfl Ã (az a4 k n) k _ rfl (O4.alloc _) _ 1 1 [aj _] rfl rfl (by intro j z F;cases j with|zero=>simp at F;subst F;exact B Q|succ j=>simp at F) (by intro z F;simp at F;rw[F];rfl) Ã Ø À Æ (ak Q.heap+1) Ä ?_;intro g2 I w5 E J bj bl;have s:=(zt _<|aB Q<|aq _ 9).grown J Æ<|zE O4;have Z:=c _<|((l.aA<|zj.E _).W λ_ x=>x.elim).aA ⟨s.os,s.output,s.size,λq hq hs=>s.block q À⟩))
   have W5:=((HN.aA l).aA<|zj.E _).lP (s.mono À);have U:=((G.y l id).E _).qG s À;have T:=((t.y l id).E _).qG s À;have O5:w5.ownsRow (ak w.heap+2) 9 1 (az (ac ⟨g2,0,ar⟩) (k+1) I) (k+1)<|((Y9 m b xs).take<|k+1).map oV:=by show World.ownsRow _ _ _ _ _ _ _;rw[HT,qz];exact E
   try clear hHeld
   go_wp2;go_roundw
   case rel=>exact⟨k+1,À,Å,O5,W5,U,T⟩
   grind [bP]
  have be:k=aa xs:=À
  subst be;have HF:wr.ownsRow (ak w.heap) 9 1 (az a4 (aa xs) n) (aa xs)<|(Y9 m b xs).map oV:=by have:=Da (base':=ak w.heap) HO À;rw[qp<|by grind [Dl]]at this;exact this
  go_wp2;go_ret;simp_all
def wI:Nat->Zl->Zl->KV->Option KV
 |_,[],_,L=>ac L|0,_::_,_,_=>ar
 |n+1,a::l,ab,L=>match Wy (a::l)with
  |some ((k,v),r)=>if ab<k then wI n r k (gt L k v)else ar
  |none=>ar
def Yo(l:Zl):Option KV:=wI (aa l) l [] []
theorem Ux:∀(n m:Nat) (l ab:Zl) (L:KV),aa l<=n->aa l<=m->wI n l ab L=wI m l ab L
 |0,0,_,_,_,_,_=>rfl|0,m+1,l,ab,L,h,_=>by have:l=[]:=jv À;subst this;rfl
 |n+1,0,l,ab,L,_,h=>by have:l=[]:=jv À;subst this;rfl
 |n+1,m+1,[],ab,L,_,_=>rfl
 |n+1,m+1,a::l,ab,L,h1,h2=>by simp only[wI];cases hp:Wy (a::l)with|none=>rfl|some q=>obtain⟨⟨k,v⟩,r⟩:=q;have:=SW hp;simp only[xg]at h1 h2 this;simp only;rw[Ux n m r k _ À À]
def vy(r ab:Zl)(L:KV):Option KV:=wI (aa r) r ab L
def xqe(a L):vy [] a L=ac L:=rfl
def Iy{r}(c:r≠[])(b L):vy r b L=match Wy r with
  |some ((k,v),r')=>if b<k then vy r' k (gt L k v)else ar
  |none=>ar:=by
 obtain⟨a,l,rfl⟩:∃a l,r=a::l:=by cases r;exact absurd rfl c;grind
 grind [vy,wI,Wy,Ux]
def xs9(k a):(!Op.bytesLess (st k).toList (st a).toList&& !(st k).toList==(st a).toList)=bI (a<k):=by grind [xl,bytesLess_eq]
def Nk(tv:Zv)(l:Zl)(w:Zy)(e:kU)(w':Zy):Prop:=
 Nw w w'/\(match Yo l with|some L=>∃m,e=ah (eK<|some m)/\ak w.heap<=m/\Je w' m L|none=>e=jM tv)
def UF{tv l w w'}(h:Yo l=ar)(a:Nw w w'):Nk tv l w (jM tv) w':=by grind [Nk]
def xep{tv}(l w)(bf:1<ak w.heap)(T:fU tv w):aG prog 212 #[aj<|st l] w<|Nk tv l w:=by
 have M:=xe T;have F:=run_makeMap (P:=prog) 91<|aB w<|aq #[aj<|st l] 234;have V:=xe<|(xh.dT w #[aj<|st l] 234).E<|.map #[] 0;have M0:aK<|Je (aB (aB w<|aq #[aj<|st l] 234)<|.map #[] 0) (ak w.heap+1) []:=by refine⟨#[],0, ?_,rfl,MapKept.stamped_empty 0⟩;have:=xn (aB w<|aq #[aj<|st l] 234)<|.map #[] 0;simp only[xp]at this;exact this
 have N0:aK<|Nw w<|aB (aB w<|aq #[aj<|st l] 234)<|.map #[] 0:=(zj.E _).aA<|zj.E _;simp only[xp]at F;clear T;go_enter func212.1,Tryz.ntmps212;go_wp2;generalize(aB w<|aq #[aj<|st l] 234).alloc (.map #[] 0)=w0 at*;go_loopw [5] (λa wr=>∃(r j:Zl) (L:KV),a=aj (st j)/\Yo l=vy r j L/\xh wr (ak w.heap) #[aj<|st r] 234/\Je wr (ak w.heap+1) L/\Nw w wr) (λ_ wr=>o7 (ak w.heap) wr)
 case atStart=>exact⟨l,[],[],rfl,rfl,V.o,M0.o,N0.o⟩
 case round=>
  obtain⟨r,j,L,rfl,x,b,p,i⟩:=hrel;have g:=xe x;have K:=xe b;have C:=xe p;have z:=xe i;have c0:ae wr ⟨ak w.heap,0,ar⟩=ac (aj<|st r):=b.i 0 rfl;have HZ:=xe<|C9 b;have Y:=xe<|M.o.y i id;clear x b p i;by_cases B:r=[]
  ·subst B;have hn:=xl [];have HE:aK<|Yo l=ac L:=by show _=_;rw[g.o,xqe]
   go_wp2;go_ret;refine⟨z.o, ?_⟩;rw[HE.o];exact⟨_,rfl,À,C.o⟩
  have hn:¬(st r).toList=[]:=by rw[xl];exact B
  have bc:(st r).toList.isEmpty=ao:=by rw[xl];cases r;exact absurd rfl B;rfl
  have D:aK (Yo l=match Wy r with
    |some ((k,v),y)=>if j<k then vy y k (gt L k v)else ar
    |none=>ar):=by show _=_;rw[g.o,Iy B]
  clear g;go_wp2;refine(Tu r À K.o Y.o).mono ?_;intro e m s;unfold Bi at s;cases hq:Wy r with
  |none=>
   rw[hq]at s;obtain⟨c,rfl⟩:=s;exact⟨rfl,UF (by rw[D.o,hq])<|z.o.cR (zd _) c⟩
  |some q=>
   obtain⟨⟨k,v⟩,y⟩:=q;rw[hq]at s;obtain⟨c,rfl,o⟩:=s;have n:aK<|Yo l=if j<k then vy y k (gt L k v)else ar:=by show _=_;rw[D.o,hq]
   have E:=SW hq;have Q:aK<|Nw w m:=z.o.cR (zd _) c;have W:=xe o;have O:=xe (C.o.y c À);have be:=O.o.lt;clear c o hq D K C z c0;go_wp2;rw[xs9];have Z:=xe<|M.o.y (Q.o.aA<|zj.E<|aq #[aj<|st k,aj<|st v] 86) id;have X:=xe<|W.o.E<|aq #[aj<|st k,aj<|st v] 86;have J:aK<|xh (aB m<|aq #[aj<|st k,aj<|st v] 86) (ak m.heap) #[aj<|st k,aj<|st v] 86:=xh.dT _ _ _;have MA:=xe<|O.o.y (S:=λ_=>False) (zj.E<|aq #[aj<|st k,aj<|st v] 86) id;have R:aK<|Nw w<|aB m<|aq #[aj<|st k,aj<|st v] 86:=Q.o.aA<|zj.E _;have bd:ak m.heap≠ak w.heap+1:=À
   generalize aB m (aq #[aj<|st k,aj<|st v] 86)=wA at*;by_cases d:j<k
   ·refine(Yt _ Â _).mono ?_;rintro e w3⟨rfl,H⟩;obtain rfl:=H.symm;have ba:=J.o.i 0 rfl;have bb:=J.o.i 1 rfl;obtain⟨U,f,h,t⟩:=Ta (P:=prog) Bm dA MA.o k v;have G:(gC 91 (eK<|some<|ak w.heap+1) (aj<|st k)<|bM #[aj<|st v]).run prog wA=cT () U:=f;have HF:aK<|Yo l=vy y k (gt L k v):=by show _=_;rw[n.o,if_pos d]
    have I:=xe (X.o.y h À);have M4:=xe t;have N4:aK<|Nw w U:=R.o.cR À h;have Z4:=xe<|C9 I.o;clear f h t;go_wp2;go_roundw
    case rel=>exact⟨y,k,gt L k v,rfl,HF.o,I.o,M4.o,N4.o⟩
    case measure=>rw[HZ.o,Z4.o];exact E
   refine(Jw _ Â _ Z.o).mono ?_;rintro e w3⟨rfl,rfl⟩;exact⟨rfl,UF (by rw[n.o,if_neg d]) R.o⟩
def uE(l:Zl):Zl:=l.drop 1
def wJ(l:Zl):Zl:=(uE l).drop 1
def vu(l:Zl):Zl:=(wJ l).drop 2
def wL(l:Zl):Zl:=(vu l).drop 4
def vv(l:Zl):Zl:=(wL l).drop 2
def wM(l:Zl):Zl:=(vv l).drop 4
def vw(l:Zl):Zl:=(wM l).drop 2
def wN(l:Zl):Zl:=(vw l).drop 4
def uF(l:Zl):Zl:=(wN l).drop 32
def wO(l:Zl):Zl:=(uF l).drop 32
def Ym(l:Zl):Mf:={ep:=qi<|(uE l).take 1,op:=qi<|(wJ l).take 2,bA:=qi<|(vu l).take 4,fo:=qi<|(wL l).take 2,bE:=qi<|(vv l).take 4,fi:=qi<|(wM l).take 2,gp:=qi<|(vw l).take 4,iI:=(wN l).take 32,aP:=(uF l).take 32}
structure tu(m:Zl)(tc:Int)(l:Zl):Prop where
 gp:aa l=116
 E3:l.take 1=[77]
 ep:(Ym l).ep<=5
 dO:wO l=Wu (Y7 m (Ym l).ep) (l.take 84)
 bA:((Ym l).bA:Int)<=tc
def xts(tv:Zv)(m:Zl)(tc:Int)(l:Zl)(w:Zy)(e:kU)(w':Zy):Prop:=
 Nw w w'/\((e=ah (Ym l).V/\tu m tc l)\/(e=jM tv/\¬tu m tc l))
def Nh{l}(h:aa l=116):aa (uE l)=115/\aa (wJ l)=114/\aa (vu l)=112/\aa (wL l)=108/\aa (vv l)=106/\aa (wM l)=102/\aa (vw l)=100/\aa (wN l)=96/\aa (uF l)=64/\aa (wO l)=32:=by grind [uE,wJ,vu,wL,vv,wM,vw,wN,uF,wO]
def xh.M8{x r}{t:Zt}{a0 a b c d e f g i b0 b1 b2 b3 b4 b5 b6 b7 b8}(h:xh x r #[a0,a,b,c,d,e,f,g,i] t):xh (ai (ai (ai (ai (ai (ai (ai (ai (ai x (zq r 0) b0) (zq r 1) b1) (zq r 2) b2) (zq r 3) b3) (zq r 4) b4) (zq r 5) b5) (zq r 6) b6) (zq r 7) b7) (zq r 8) b8) r #[b0,b1,b2,b3,b4,b5,b6,b7,b8] t:=by have k:=((((((((h.H 0 b0).H 1 b1).H 2 b2).H 3 b3).H 4 b4).H 5 b5).H 6 b6).H 7 b7).H 8 b8;simp_all
def vt(l:Zl)(k:Nat):Za:=#[if 0<k then aH aU ((qi ((uE l).take 1):Nat):Int)else aH aU 0,if 1<k then aH aU ((qi ((wJ l).take 2):Nat):Int)else aH aU 0,if 2<k then aH aU ((qi ((vu l).take 4):Nat):Int)else aH aU 0,if 3<k then aH aU ((qi ((wL l).take 2):Nat):Int)else aH aU 0,if 4<k then aH aU ((qi ((vv l).take 4):Nat):Int)else aH aU 0,if 5<k then aH aU ((qi ((wM l).take 2):Nat):Int)else aH aU 0,if 6<k then aH aU ((qi ((vw l).take 4):Nat):Int)else aH aU 0,if 7<k then aj (st<|(wN l).take 32)else aj ⟨#[]⟩,if 8<k then aj (st<|(uF l).take 32)else aj ⟨#[]⟩]
structure MS(w v:Zy)(R:Nat)(m mk:Zl)(tc op:Int)(l:Zl)(c:Za):Prop where
 T:xh v (ak w.heap) #[zs m,zi tc,zs mk,zi op] 78
 Z:xh v (ak w.heap+1) #[zi 0,zi 0,zi 0,zi 0,zi 0,zi 0,zi 0,aj ⟨#[]⟩,aj ⟨#[]⟩] 185
 K:xh v (ak w.heap+1+1) #[zs l] 234
 C:xh v R c 185
 N:Nw w v
section
variable {w v v':cY} {R i:Nat} {m mk l l':List UInt8} {tc op:Int} {c:Array dL} {u:dL}
def MS.pL(s:MS w v R m mk tc op l c)(a:R≠ak w.heap+1+1)(k:zj (·=ak w.heap+1+1) v v')(b:xh v' (ak w.heap+1+1) #[zs l'] 234):MS w v' R m mk tc op l' c:=⟨s.T.y k À,s.Z.y k À,b,s.C.y k a,s.N.cR À k⟩
theorem MS.H(s:MS w v R m mk tc op l c)(a:ak w.heap+1+1<R)(e:ai v (zq R i) u=v'):MS w v' R m mk tc op l<|ay c i u:=⟨s.T.ot e À,s.Z.ot e À,s.K.ot e À,s.C.st e,s.N.st e À⟩
end
def zti{tv}(m k tc op l)(hm:aa m=32)(hl:aa l<=1000000)(w)(bm:1<ak w.heap)(hT:gG w)(hG:fU tv w):
  aG prog 105 #[bM #[zs m,zi tc,zs k,zi op],zs l] w (xts tv m tc l w):=by
 have HG:=hG;have HT:=hT;have HM:=hm;go_enter func105.1,Tryz.ntmps105;go_wp2;refine pA λw0 a=>?_;have BT:=(xh.dT w _ 78).al a;have BR:=xp w _▸xh.nu a;have N0:Nw w w0:=(zj.E _).al a;have bi:ak w0.heap=ak w.heap+1+1:=by rw[xu6 a,xp]
 have G0:=HG.y N0 id;by_cases o:aa l=116;rotate_left;refine(Jw _ Â _ G0).mono ?_;rintro e w1⟨rfl,rfl⟩;exact⟨rfl,N0,aE ⟨rfl,λh=>o h.gp⟩⟩;refine(Yt _ Â _).mono ?_;rintro e w1⟨rfl,U⟩;obtain rfl:w0=w1:=U.symm;have Q:=Nh o;have L:=o;go_wp2;refine pA λw1 a=>?_;have S:MS w w1 (ak w.heap+1) m k tc op l<|vt l 0:=⟨BT.al a,BR.al a,bi▸xh.nu a,BR.al a,N0.al a⟩;refine(ue S.K _ 1 rfl À).mono ?_;rintro e w2⟨rfl,b,hk⟩;replace S:=S.pL (l':=uE l) À b hk;have G2:=HG.y S.N id;have g:=S.K.lt;go_wp2;by_cases H:l.take 1=[77];rotate_left;refine(Jw _ (by grind [xl]) _ G2).mono ?_;rintro e E⟨rfl,rfl⟩;exact⟨rfl,S.N,aE ⟨rfl,λh=>H h.E3⟩⟩;refine(Yt _ (by rw[xl,H];rfl) _).mono ?_;rintro e E⟨rfl,p⟩;obtain rfl:w2=E:=p.symm;have ba:=H;go_wp2;refine pA λv a=>?_;generalize hR:ak w2.heap=R at g⊢;replace S:MS w v R m k tc op (uE l)<|vt l 0:=⟨S.T.al a,S.Z.al a,S.K.al a,hR▸xh.nu a,S.N.al a⟩;refine(ud S.K _ 1 rfl Ã À).mono ?_;rintro e x⟨rfl,b,hk⟩;replace S:=S.pL (l':=wJ l) À b hk;have c:=S.C.i 0 rfl;have f:=S.C.dG 0;go_wp2;refine pA λv0 a=>?_;replace S:MS w v0 R m k tc op (wJ l)<|vt l 1:=S.H g a;refine(ud S.K _ 2 rfl Ã À).mono ?_;rintro e x⟨rfl,b,hk⟩;replace S:=S.pL (l':=vu l) À b hk;have c:=S.C.i 1 rfl;have f:=S.C.dG 1;go_wp2;refine pA λv1 a=>?_;replace S:MS w v1 R m k tc op (vu l)<|vt l 2:=S.H g a;refine(ud S.K _ 4 rfl Ã À).mono ?_;rintro e x⟨rfl,b,hk⟩;replace S:=S.pL (l':=wL l) À b hk;have c:=S.C.i 2 rfl;have f:=S.C.dG 2;go_wp2;refine pA λv2 a=>?_;replace S:MS w v2 R m k tc op (wL l)<|vt l 3:=S.H g a;refine(ud S.K _ 2 rfl Ã À).mono ?_;rintro e x⟨rfl,b,hk⟩;replace S:=S.pL (l':=vv l) À b hk;have c:=S.C.i 3 rfl;have f:=S.C.dG 3;go_wp2;refine pA λv3 a=>?_;replace S:MS w v3 R m k tc op (vv l)<|vt l 4:=S.H g a;refine(ud S.K _ 4 rfl Ã À).mono ?_;rintro e x⟨rfl,b,hk⟩;replace S:=S.pL (l':=wM l) À b hk;have c:=S.C.i 4 rfl;have f:=S.C.dG 4;go_wp2;refine pA λv4 a=>?_;replace S:MS w v4 R m k tc op (wM l)<|vt l 5:=S.H g a;refine(ud S.K _ 2 rfl Ã À).mono ?_;rintro e x⟨rfl,b,hk⟩;replace S:=S.pL (l':=vw l) À b hk;have c:=S.C.i 5 rfl;have f:=S.C.dG 5;go_wp2;refine pA λv5 a=>?_;replace S:MS w v5 R m k tc op (vw l)<|vt l 6:=S.H g a;refine(ud S.K _ 4 rfl Ã À).mono ?_;rintro e x⟨rfl,b,hk⟩;replace S:=S.pL (l':=wN l) À b hk;have c:=S.C.i 6 rfl;have f:=S.C.dG 6;go_wp2;refine pA λv6 a=>?_;replace S:MS w v6 R m k tc op (wN l)<|vt l 7:=S.H g a;refine(ue S.K _ 32 rfl À).mono ?_;rintro e x⟨rfl,b,hk⟩;replace S:=S.pL (l':=uF l) À b hk;have c:=S.C.i 7 rfl;have f:=S.C.dG 7;go_wp2;refine pA λv7 a=>?_;replace S:MS w v7 R m k tc op (uF l)<|vt l 8:=S.H g a;refine(ue S.K _ 32 rfl À).mono ?_;rintro e x⟨rfl,b,hk⟩;replace S:=S.pL (l':=wO l) À b hk;have c:=S.C.i 8 rfl;have f:=S.C.dG 8;have d:=S.C.i (v:=zi _) 0 rfl;go_wp2;refine pA λr a=>?_;replace S:MS w r R m k tc op (wO l)<|vt l 9:=S.H g a;have n:aK<|(Ym l).ep=qi ((uE l).take 1):=rfl;have G9:=HG.y S.N id;have B:=HT.y S.N id;by_cases O:qi ((uE l).take 1)<=5;rotate_left;refine(Jw _ Â _ G9).mono ?_;rintro e E⟨rfl,rfl⟩;exact⟨rfl,S.N,aE ⟨rfl,λh=>O<|by have:=h.ep;rw[n.o]at this;omega⟩⟩;refine(Yt _ Â _).mono ?_;rintro e E⟨rfl,p⟩;obtain rfl:r=E:=p.symm;have J:=O;obtain⟨D,be⟩:∃D,qi ((uE l).take 1)=D:=⟨_,rfl⟩;have C:xh r R #[zi<|(qi ((uE l).take 1):Nat),zi<|(qi ((wJ l).take 2):Nat),zi<|(qi ((vu l).take 4):Nat),zi<|(qi ((wL l).take 2):Nat),zi<|(qi ((vv l).take 4):Nat),zi<|(qi ((wM l).take 2):Nat),zi<|(qi ((vw l).take 4):Nat),zs<|(wN l).take 32,zs<|(uF l).take 32] 185:=S.C;rw[be]at C n J⊢;obtain⟨ck,bl⟩:∃ck,Ji m D=ck:=⟨_,rfl⟩;obtain⟨I,bg⟩:∃I,Y7 m D=I:=⟨_,rfl⟩;have M:aK<|Y7 m (Ym l).ep=I:=by show _=_;rw[n.o];exact bg
 have KY:∀i,gG i->aG prog 103 #[bM #[zs m,zi tc,zs k,zi op],zi D] i λe t=>e=ah (bM #[zs ck,zs I])/\aN (ak i.heap) i t:=λi h=>by grind [Id]
 have KM:∀i s,s=st (l.take 84)->gG i->aG prog 157 #[bM #[zs ck,zs I],aj s] i λe t=>e=ah (zs<|Wu I<|l.take 84)/\aN (ak i.heap) i t:=λi s hs hT=>by grind [Mu,EV]
 have z:∀i,aN (ak r.heap) r i->ae i (zq (ak w.heap) 0)=ac (zs m)/\ae i (zq (ak w.heap) 1)=ac (zi tc)/\ae i (zq (ak w.heap) 2)=ac (zs k)/\ae i (zq (ak w.heap) 3)=ac (zi op)/\ae i (zq (ak w.heap+1+1) 0)=ac (zs<|wO l)/\ae i (zq R 0)=ac (zi D):=λi h=>⟨(S.T.Y h).i 0 rfl,(S.T.Y h).i 1 rfl,(S.T.Y h).i 2 rfl,(S.T.Y h).i 3 rfl,(S.K.Y h).i 0 rfl,(C.Y h).i 0 rfl⟩;have S0:=z r<|zt _ _;have bd:(84:Int)<=(aa l:Nat):=À
 go_wp2;go_region_held2 (λt=>ae t (zq (ak w.heap) 0)=ac (zs m)/\ae t (zq (ak w.heap) 1)=ac (zi tc)/\ae t (zq (ak w.heap) 2)=ac (zs k)/\ae t (zq (ak w.heap) 3)=ac (zi op)/\ae t (zq (ak w.heap+1+1) 0)=ac (zs<|wO l)/\ae t (zq R 0)=ac (zi D)) (first|exact S0|exact S1)
  (first
   |(go_at_call 103;refine(KY _ B.U).mono ?_;rintro e y1⟨rfl,b⟩;have Y:aN (ak r.heap) r y1:=(zt _ _).drew.trans b;have S1:=z _ Y;have TY:gG y1:=B.Y B.gX Y)
   |(go_at_call 157;refine(KM _ _ (te l 84) TY).mono ?_;rintro e W⟨rfl,b⟩;have F:aN (ak r.heap) r W:=Xs Y b;have S1:=z _ F;have GY:fU tv W:=G9.Q F)
   |(go_at_call 164;refine(Bo _ _ GY).mono ?_;rintro e y3⟨bh,bf⟩;obtain rfl:W=y3:=bh.symm;obtain⟨rfl,X⟩|⟨rfl,X⟩:=bf;rotate_left;(exact⟨rfl,(S.N.aA<|zj.Q F),aE ⟨rfl,λh=>by have h1:=h.dO;rw[M.o]at h1;have h2:=X.o;grind⟩⟩)))
 have bc:aK<|wO l=Wu I (l.take 84):=by have:=X.o;rw[yS,xl,xl]at this;exact this
 have q:=C.Y F;have j:=S.Z.Y F;have NF:=S.N.aA<|zj.Q F;have a0:=q.i (v:=zi _) 0 rfl;have r0:=j.i 0 rfl;have z0:=j.dG 0;have a1:=q.i (v:=zi _) 1 rfl;have r1:=j.i 1 rfl;have z1:=j.dG 1;have a2:=q.i (v:=zi _) 2 rfl;have r2:=j.i 2 rfl;have z2:=j.dG 2;have a3:=q.i (v:=zi _) 3 rfl;have r3:=j.i 3 rfl;have z3:=j.dG 3;have a4:=q.i (v:=zi _) 4 rfl;have r4:=j.i 4 rfl;have z4:=j.dG 4;have a5:=q.i (v:=zi _) 5 rfl;have r5:=j.i 5 rfl;have z5:=j.dG 5;have a6:=q.i (v:=zi _) 6 rfl;have r6:=j.i 6 rfl;have z6:=j.dG 6;have a7:=q.i (v:=aj _) 7 rfl;have r7:=j.i 7 rfl;have z7:=j.dG 7;have a8:=q.i (v:=aj _) 8 rfl;have r8:=j.i 8 rfl;have z8:=j.dG 8;have bk:¬R=ak w.heap+1:=À
 have bj:¬ak w.heap+1=R:=À
 clear q C S0 z KY KM S G9 B X Y F TY bd;try clear S1
 try clear hHeld
 go_wp2;by_cases G:((qi ((vu l).take 4):Nat):Int)<=tc;rotate_left;refine(Jw _ Â _ GY).mono ?_;rintro e E⟨rfl,rfl⟩;exact⟨rfl,NF,aE ⟨rfl,λh=>G h.bA⟩⟩;refine(Yt _ Â _).mono ?_;rintro e E⟨rfl,p⟩;obtain rfl:W=E:=p.symm;have bb:tu m tc l:=⟨L,ba,by rw[n.o];omega,by rw[M.o];exact bc.o,G⟩;clear G;go_wp2;refine SR λv a=>?_;have y:=a▸xh.M8 j;have NV:zj (·=ak w.heap+1) W v:=by
  subst a;iterate 9 refine zj.aA ?_<|zj.H _ (zq (ak w.heap+1) _) _
  exact zj.refl _ _
 clear a;have s0:=y.i (v:=zi _) 0 rfl;have s1:=y.i (v:=zi _) 1 rfl;have s2:=y.i (v:=zi _) 2 rfl;have s3:=y.i (v:=zi _) 3 rfl;have s4:=y.i (v:=zi _) 4 rfl;have s5:=y.i (v:=zi _) 5 rfl;have s6:=y.i (v:=zi _) 6 rfl;have s7:=y.i (v:=aj _) 7 rfl;have s8:=y.i (v:=aj _) 8 rfl;refine ji (v:=bM #[zi D,zi<|(qi ((wJ l).take 2):Nat),zi<|(qi ((vu l).take 4):Nat),zi<|(qi ((wL l).take 2):Nat),zi<|(qi ((vv l).take 4):Nat),zi<|(qi ((wM l).take 2):Nat),zi<|(qi ((vw l).take 4):Nat),zs<|(wN l).take 32,zs<|(uF l).take 32]) (by simp[dX,Tryz.results105,go_sem,s0,s1,s2,s3,s4,s5,s6,s7,s8]) rfl ⟨NF.cR À NV,aF ⟨?_,bb⟩⟩;unfold Mf.V Mf.G;rw[n.o];rfl
end
section
open Go.RowKit
attribute [local go_sem] zn zg
end
end P
namespace A
open Go
section
variable {P:bT} {ops:Array fj} {md:Region.Mode} {C:cY->Prop}
end
end A
namespace P
open A.Tryq Go.RowKit
section
attribute [local go_sem] zn zg
end
section
attribute [local go_sem] zn zg
theorem Nb:∀(xs:List Zl),Lib.join xs []=xs.flatten
 |[]=>rfl|[x]=>by simp[Lib.join]
 |x::y::xs=>by have:=Nb (y::xs);simp only[Lib.join,List.flatten_cons,qj]at*;simp[this]
def xro{base}(xs:List Zl)(v)(o:aa xs<=1000000)(i:aa xs.flatten<=140737488355328)(w)(h:w.ownsRow base 9 1 v (aa xs)<|xs.map oV):
  aG prog 119 #[v,aj ⟨#[]⟩] w λe w'=>e=ah (zs xs.flatten)/\aN (ak w.heap) w w':=by
 have b:(xs.map st).map (·.data.toList)=xs:=by simp[Wj,zc1,st]
 rcases UM (f:=oV) (λ_=>rfl) h with⟨rfl,rfl⟩|⟨g,cap,rfl,hcap,hg,hr⟩;exact(Any.strings_Join_none rJ kI ar 0 _ w).mono λe w'⟨a,c⟩=>⟨a,c▸zt _ _⟩;have d:g<ak w.heap:=by obtain⟨l,a,_⟩:=hr;exact(za.1 a).1
 have:=Any.strings_Join rJ kI g 0 cap _ ⟨#[]⟩ w (λj x k=>by rw[List.getElem?_map,zv]at k;obtain⟨y,n,rfl⟩:=k;obtain⟨m,rfl⟩:=Wb.1 n;rw[j7];exact hr.i j m) d Â Â<|by grind [Nb]
 rw[b,jl]at this;refine this.mono λe w'⟨a,c⟩=>⟨a.trans ?_,c⟩;show ah (aj ⟨aV (Lib.join xs [])⟩)=_;rw[Nb];rfl
def xl6{base}(xs v)(b:aa xs<=256)(hx:∀x∈xs,aa x<=4095)(w)(c:gG w)(h:w.ownsRow base 9 1 v (aa xs)<|xs.map oV):
  aG prog 117 #[v] w λe w'=>e=ah (bU #[zs<|J9 xs,zi 0])/\aN (ak w.heap) w w':=by
 rcases UM (f:=oV) (λ_=>rfl) h with⟨rfl,rfl⟩|⟨g,cap,rfl,hcap,hg,hr⟩;grind [UO];by_cases a:xs=[];grind [UO];exact xrt xs (Z0.2 a) b hx g 0 cap w c λj d=>by rw[j7];exact hr.i j d
def Ix(l):(∀y∈Ys l,aa y<=64)/\aa (Ys l)*64<=aa l+63/\(Ys l).flatten=l:=by generalize hn:aa l=n;induction n using Nat.strongRecOn generalizing l with|_ n ih=>by_cases h:l=[];subst h;simp[Ng];have d:=Z0.2 h;rw[Nc h];obtain⟨a,b,c⟩:=ih (aa (l.drop 64)) Â (l.drop 64) rfl;refine⟨λy e=>?_, ?_, ?_⟩;grind;grind;simp_all
def xk4{m a xs k}(h:∀y∈xs,aa y<=k):∀y∈Y9 m a xs,aa y<=k:=by grind [Y9,ye]
def UA{k}:∀{xs:List Zl},(∀y∈xs,aa y<=k)->aa xs.flatten<=k*aa xs
 |[],_=>by simp|x::xs,h=>by have b:=h x xu;have c:=UA λy a=>h y<|jw _ a;grind [Nat.mul_add]
def Zd.cR{B b a r w0 w w'}(h:Zd B a w0 r w)(c:ak w0.heap<=b)(ho:¬r.cO B b)(k:zj (·=b) w w'):Zd B a w0 r w':=
 ⟨zj.cR h.y c k,h.dS.y k λx d e=>ho Â,h.cO⟩
def sf(m:Mf)(L:Xv):Option Zl:=if 0<m.gp then(if m.gp<=16384 then(if m.fi=10001\/m.fi=10002 then ac (jp L m.fi)else ar)else ar)else ac []
def tr(m:Mf)(ck b:Zl):Option KV:=if aa b=m.gp then(if m.iI=J9 (Ys b)then Yo (Y9 m ck<|Ys b).flatten else ar)else ar
def Y6(m:Mf)(L:Xv)(ck:Zl):Option KV:=(sf m L).bind<|tr m ck
def E5(tv:Zv)(x:Option KV)(w:Zy)(e:kU)(w':Zy):Prop:=
 Nw w w'/\(match x with|some L=>∃m,e=ah (eK<|some m)/\ak w.heap<=m/\Je w' m L|none=>e=jM tv)
def Di{tv x w w'}(h:x=ar)(a:Nw w w'):E5 tv x w (jM tv) w':=by subst h;exact⟨a,rfl⟩
def xbh{tv}(m D d a r)(bk:aa a=16)(bx:m.gp<=100000000000)(w)(h:Jt w D d)(hG:fU tv w)(hT:gG w):
  aG prog 163 #[m.V,zo D,bM #[zs a,zs r]] w (E5 tv (Y6 m d.L a) w):=by
 have HD:aK<|Jt w D d:=h;have HG:aK<|fU tv w:=hG;have HT:aK<|gG w:=hT;have bs:aK<|aa a=16:=bk;have bm:=hT.gX;have M:aK<|Nw w<|aB (aB w<|aq m.G 185)<|aq #[zs a,zs r] 120:=(zj.E _).aA<|zj.E _;have BM:aK<|xh (aB (aB w<|aq m.G 185)<|aq #[zs a,zs r] 120) (ak w.heap) m.G 185:=(xh.dT w _ 185).E _;have BK:aK<|xh (aB (aB w<|aq m.G 185)<|aq #[zs a,zs r] 120) (ak w.heap+1) #[zs a,zs r] 120:=by have:=xh.dT (aB w<|aq m.G 185) #[zs a,zs r] 120;rw[xp]at this;exact this
 have s:aK<|Y6 m d.L a=(sf m d.L).bind (tr m a):=rfl;clear h hG hT bk;unfold Mf.V;unfold Mf.G at*;go_enter func163.1,Tryz.ntmps163;have G1:aK<|fU tv<|aB (aB w<|aq #[zi m.ep,zi m.op,zi m.bA,zi m.fo,zi m.bE,zi m.fi,zi m.gp,zs m.iI,zs m.aP] 185)<|aq #[zs a,zs r] 120:=HG.o.y M.o id;by_cases h0:0<m.gp;rotate_left;focus
  have i0:¬(0:Int)<(m.gp:Int):=À
  have v:aK<|m.gp<=16384:=by show _<=_;omega
  have n:aK<|sf m d.L=ac []:=by show _=_;unfold sf;rw[if_neg h0]
  go_wp2;generalize(aB w<|aq #[zi m.ep,zi m.op,zi m.bA,zi m.fo,zi m.bE,zi m.fi,zi m.gp,zs m.iI,zs m.aP] 185).alloc (aq #[zs a,zs r] 120)=w1 at*;refine(Bo _ _ G1.o).mono ?_;rintro e R⟨l,p⟩;obtain rfl:w1=R:=l.symm;obtain⟨rfl,k⟩|⟨rfl,k⟩:=p;rotate_left;exact⟨rfl,Di (by rw[s.o,n.o];show tr m a _=ar;unfold tr;rw[if_neg ń]) M.o⟩;have C:aa (([]:Zl))=m.gp:=ĳ
  have t:aK<|aa (([]:Zl))=m.gp:=C;have G:aK<|Y6 m d.L a=if m.iI=J9 (Ys<|([]:Zl))then Yo (Y9 m a<|Ys<|([]:Zl)).flatten else ar:=ĉ
  have B:aa (([]:Zl))<=16384:=by have:=v.o;omega
  clear k;go_wp2;refine(UP _ À _).mono ?_;rintro e f⟨v4,rfl,g,c⟩;have N4:aK<|Nw w f:=M.o.aA c;have F:aK<|xh f (ak w.heap) #[zi m.ep,zi m.op,zi m.bA,zi m.fo,zi m.bE,zi m.fi,zi m.gp,zs m.iI,zs m.aP] 185:=BM.o.y c id;have T:aK<|xh f (ak w.heap+1) #[zs a,zs r] 120:=BK.o.y c id;have O4:aK<|f.ownsRow (ak w1.heap) 9 1 v4 (aa (Ys<|([]:Zl)))<|(Ys<|([]:Zl)).map oV:=g;have G4:aK<|fU tv f:=G1.o.y c id;have T4:aK<|gG f:=HT.o.y N4.o id;have bo:ak w1.heap<=ak f.heap:=c.J;obtain⟨z,Z,ba⟩:=Ix<|([]:Zl);have o:aK<|(∀y∈Ys (([]:Zl)),aa y<=64)/\aa (Ys<|([]:Zl))<=256:=⟨z,À⟩;generalize Ys (([]:Zl))=ps at*;clear z Z ba g c t C B
 rotate_left;focus
  have i0:(0:Int)<(m.gp:Int):=À
  go_wp2;generalize(aB w<|aq #[zi m.ep,zi m.op,zi m.bA,zi m.fo,zi m.bE,zi m.fi,zi m.gp,zs m.iI,zs m.aP] 185).alloc (aq #[zs a,zs r] 120)=w1 at*;refine(Bo _ _ G1.o).mono ?_;rintro e w2⟨bt,p⟩;obtain rfl:w1=w2:=bt.symm;obtain⟨rfl,k⟩|⟨rfl,k⟩:=p;rotate_left;exact⟨rfl,Di (by rw[s.o];unfold sf;rw[if_pos h0,if_neg ń];rfl) M.o⟩;have H:m.gp<=16384:=by have:=k.o;simp at this;omega
  have v:aK<|m.gp<=16384:=H;have e6:ae w1 (zq (ak w.heap) 6)=ac (zi m.gp):=BM.o.i 6 rfl;have e5:ae w1 (zq (ak w.heap) 5)=ac (zi m.fi):=BM.o.i 5 rfl;have bc:aK<|Jt w1 D d:=HD.o.y M.o λ_ _=>id;clear k;by_cases h2:m.fi=10001;rotate_left;focus
   by_cases h3:m.fi=10002;rotate_left
   ·have j1:((m.fi:Int)==10001)=ao:=by simp;omega
    have j2:((m.fi:Int)==10002)=ao:=Æ
    have br:aK<|Y6 m d.L a=ar:=by show _=_;rw[s.o];unfold sf;rw[if_pos h0,if_pos H,if_neg À];rfl
    go_wp2;refine(SH _ G1.o).mono ?_;rintro e R⟨rfl,l⟩;obtain rfl:=l;exact⟨rfl,Di br.o M.o⟩
   clear i0;have n:aK<|sf m d.L=ac (jp d.L m.fi):=by show _=_;unfold sf;rw[if_pos h0,if_pos H,if_pos<|aE h3]
   have j1:(m.fi:Int)=10002:=À
   rw[j1]at e5 n;go_wp2;refine(LU _).mono ?_;rintro e R⟨rfl,l⟩;obtain rfl:w1=R:=l.symm;go_wp2;refine(Dg D d 10002 _ bc.o).mono ?_;rintro e f⟨rfl,bb⟩;obtain rfl:w1=f:=bb.symm;have bi:=e6;generalize jp d.L 10002=b at*
  rotate_left;focus
   clear i0;have n:aK<|sf m d.L=ac (jp d.L m.fi):=by show _=_;unfold sf;rw[if_pos h0,if_pos H,if_pos<|aF h2]
   have j1:(m.fi:Int)=10001:=À
   rw[j1]at e5 n;go_wp2;refine(LU _).mono ?_;rintro e R⟨rfl,l⟩;obtain rfl:w1=R:=l.symm;go_wp2;refine(Dg D d 10001 _ bc.o).mono ?_;rintro e f⟨rfl,bb⟩;obtain rfl:w1=f:=bb.symm;have bi:=e6;generalize jp d.L 10001=b at*
  all_goals
   go_wp2;refine(Bo _ _ G1.o).mono ?_;rintro e R⟨l,p⟩;obtain rfl:w1=R:=l.symm;obtain⟨rfl,k⟩|⟨rfl,k⟩:=p;rotate_left;exact⟨rfl,Di (by rw[s.o,n.o];show tr m a _=ar;unfold tr;rw[if_neg ń]) M.o⟩;have C:aa (b)=m.gp:=ĳ
   have t:aK<|aa (b)=m.gp:=C;have G:aK<|Y6 m d.L a=if m.iI=J9 (Ys<|b)then Yo (Y9 m a<|Ys<|b).flatten else ar:=ĉ
   have B:aa (b)<=16384:=by have:=v.o;omega
   clear k;go_wp2;refine(UP (b) À _).mono ?_;rintro e f⟨v4,rfl,g,c⟩;have N4:aK<|Nw w f:=M.o.aA c;have F:aK<|xh f (ak w.heap) #[zi m.ep,zi m.op,zi m.bA,zi m.fo,zi m.bE,zi m.fi,zi m.gp,zs m.iI,zs m.aP] 185:=BM.o.y c id;have T:aK<|xh f (ak w.heap+1) #[zs a,zs r] 120:=BK.o.y c id;have O4:aK<|f.ownsRow (ak w1.heap) 9 1 v4 (aa (Ys<|b))<|(Ys<|b).map oV:=g;have G4:aK<|fU tv f:=G1.o.y c id;have T4:aK<|gG f:=HT.o.y N4.o id;have bo:ak w1.heap<=ak f.heap:=c.J;obtain⟨z,Z,ba⟩:=Ix<|b;have o:aK<|(∀y∈Ys (b),aa y<=64)/\aa (Ys<|b)<=256:=⟨z,À⟩;generalize Ys (b)=ps at*;clear z Z ba g c t C B
 all_goals
  have X:aK<|∀w1,Nw f w1->ae w1 (zq (ak w.heap) 7)=ac (zs m.iI):=λw1 hh=>(F.o.y hh id).i 7 rfl;have S0:=X.o f<|zj.refl _ _;have bg:aK<|f.drew.ownsRow (ak w1.heap) 9 1 v4 (aa ps)<|ps.map oV:=O4.o;have bh:aK<|gG f.drew:=T4.o;have NN:aK<|Nw f f.drew:=(zj.refl _ _).U;go_wp2;go_region_held2 (λw'=>ae w' (zq (ak w.heap) 7)=ac (zs m.iI)) (first|exact S0|exact S1)
   (first
    |(go_at_call 117;refine(xl6 ps v4 o.o.2 (λy hy=>by have:=o.o.1 y hy;omega) _ bh.o bg.o).mono ?_;rintro e j⟨rfl,bj⟩;have O:aK<|Nw f j:=NN.o.aA<|zj.Q bj;have S1:=X.o _ O.o;have G5:aK<|fU tv j:=G4.o.y O.o id)
    |(go_at_call 116;refine(Ie _ _).mono ?_;rintro e w6⟨rfl,bu⟩;obtain rfl:j=w6:=bu.symm)
    |(go_at_call 164;refine(Bo _ _ G5.o).mono ?_;rintro e w7⟨bv,p⟩;obtain rfl:j=w7:=bv.symm;obtain⟨rfl,k⟩|⟨rfl,k⟩:=p;rotate_left;(exact⟨rfl,Di (by rw[G.o,if_neg<|by have H:=k.o;grind])<|N4.o.aA O.o⟩);have bd:aK<|m.iI=J9 ps:=by have H:=k.o;rw[yS,xl,xl]at H;exact H))
  have Y:aK<|Nw w j:=N4.o.aA O.o;have i:aK<|xh j (ak w.heap) #[zi m.ep,zi m.op,zi m.bA,zi m.fo,zi m.bE,zi m.fi,zi m.gp,zs m.iI,zs m.aP] 185:=F.o.y O.o id;have U:aK<|xh j (ak w.heap+1) #[zs a,zs r] 120:=T.o.y O.o id;have O5:aK<|j.ownsRow (ak w1.heap) 9 1 v4 (aa ps)<|ps.map oV:=Ms O4.o O.o λ_ _ x=>x;have z0:ae j (zq (ak w.heap) 0)=ac (zi m.ep):=i.o.i 0 rfl;have z1:ae j (zq (ak w.heap) 1)=ac (zi m.op):=i.o.i 1 rfl;have z2:ae j (zq (ak w.heap) 2)=ac (zi m.bA):=i.o.i 2 rfl;have z3:ae j (zq (ak w.heap) 3)=ac (zi m.fo):=i.o.i 3 rfl;have z4:ae j (zq (ak w.heap) 4)=ac (zi m.bE):=i.o.i 4 rfl;have z5:ae j (zq (ak w.heap) 5)=ac (zi m.fi):=i.o.i 5 rfl;have z6:ae j (zq (ak w.heap) 6)=ac (zi m.gp):=i.o.i 6 rfl;have z7:ae j (zq (ak w.heap) 7)=ac (zs m.iI):=i.o.i 7 rfl;have z8:ae j (zq (ak w.heap) 8)=ac (zs m.aP):=i.o.i 8 rfl;have y0:ae j (zq (ak w.heap+1) 0)=ac (zs a):=U.o.i 0 rfl;have y1:ae j (zq (ak w.heap+1) 1)=ac (zs r):=U.o.i 1 rfl;have be:aK<|Y6 m d.L a=Yo (Y9 m a ps).flatten:=by show _=_;rw[G.o,if_pos bd.o]
  have bp:4<ak j.heap:=zm bm Y.o.J;try clear j1
  try clear h3
  try clear h2
  try clear H
  try clear i0
  try clear h0
  try clear e5
  try clear e6
  try clear bi
  clear S0 S1 X NN N4 O F T O4 bg T4 bh G4 i U bj G bd k;try clear hHeld
  go_wp2;refine(xdr m ps v4 a r bs.o (λy hy=>by have:=o.o.1 y hy;omega) (by have:=o.o.2;omega) _<|xpk O5.o).mono ?_;rintro e w8⟨v8,rfl,E,J⟩;have O8:aK<|w8.ownsRow (ak j.heap) 9 1 v8 (aa (Y9 m a ps))<|(Y9 m a ps).map oV:=by show World.ownsRow _ _ _ _ _ _ _;rw[Dl];exact E
  have N8:aK<|Nw w w8:=Y.o.aA J;have G8:aK<|fU tv w8:=G5.o.y J id;have W:aK<|(∀y∈Y9 m a ps,aa y<=64)/\aa (Y9 m a ps)<=256:=⟨xk4 o.o.1,by rw[Dl];exact o.o.2⟩;have bw:4<ak w8.heap:=zm bp J.J;clear E J z0 z1 z2 z3 z4 z5 z6 z7 z8 y0 y1 Y O5 G5;generalize Y9 m a ps=qs at*;go_wp2;refine(xro qs v8 (by have:=W.o.2;omega) (by have:=UA W.o.1;have:=W.o.2;omega) _ O8.o).mono ?_;rintro e w9⟨rfl,I⟩;have N9:aK<|Nw w w9:=N8.o.aA<|zj.Q I;have G9:aK<|fU tv w9:=G8.o.y (S:=λ_=>False) (zj.Q I) id;have bz:4<ak w9.heap:=zm bw I.size;clear I O8 N8 G8;go_wp2;refine(xep _ _ À G9.o).mono ?_;rintro e bq⟨Q,q⟩;have bf:aK<|Nw w bq:=N9.o.aA Q;cases hq:Yo qs.flatten with
  |none=>rw[hq]at q;subst q;exact⟨rfl,Di (by rw[be.o,hq]) bf.o⟩
  |some K=>
   rw[hq]at q;obtain⟨mm,rfl,bl,bn⟩:=q;have HF:aK<|E5 tv (Y6 m d.L a) w (ah<|eK<|some mm) bq:=by show E5 _ _ _ _ _;rw[be.o,hq];exact⟨bf.o,mm,rfl,xa N9.o.J bl,bn⟩
   clear bl bn Q;go_wp2;go_ret;exact HF.o
end
end P
namespace P
open A.Tryq Go.RowKit
section
attribute [local go_sem] zn zg
def Lk.ga(k:Lk)(m:Mf)(mp:Nat):Lk:={k with ep:=m.ep,mp:=mp,bA:=m.bA,dO:=m.aP,bE:=(m.bE:Int),eJ:=(m.fi:Int),fQ:=if 0<m.gp then(m.fi:Int)else k.fQ}
def wQ(tv:Zv)(b:Nat)(k:Lk)(m:Mf)(x:Option KV)(w:Zy)(e:kU)(w':Zy):Prop:=
 zj (·=b) w w'/\(match x with|some L=>e=ah (bU #[])/\∃mp,ak w.heap<=mp/\Je w' mp L/\Jh w' b (k.ga m mp)|none=>e=jM tv)
def xmz{tv}(b k m D d)(hm:aa k.m=32)(ba:m.gp<=100000000000)(w)(hb:Jh w b k)(h:Jt w D d)(Y:¬d.cO D b)(br:4<b)(hG:fU tv w)(hT:gG w):
  aG prog 104 #[zo b,m.V,zo D] w (wQ tv b k m (Y6 m d.L<|Ji k.m m.ep) w):=by
 have HB:=xe hb;have HD:=xe h;have bb:=xe Y;have HG:=xe hG;have HT:=xe hT;have HM:=xe hm;have bf:=hT.gX;have bs:=xh.lt hb;have N0:aK<|Nw w<|aB w<|aq m.G 185:=zj.E _;have BM:=xe<|xh.dT w m.G 185;clear hb h Y hG hT hm;unfold Mf.V;unfold Mf.G at*;go_enter func104.1,Tryz.ntmps104;go_wp2;generalize aB w (aq #[zi m.ep,zi m.op,zi m.bA,zi m.fo,zi m.bE,zi m.fi,zi m.gp,zs m.iI,zs m.aP] 185)=w1 at*;have B1:aK<|Jh w1 b k:=xh.y HB.o N0.o id;have T1:=xe<|HT.o.y N0.o id;refine(Ec b k HM.o m.ep _ B1.o T1.o).mono ?_;rintro e g⟨rfl,K,Z⟩;have G:=xe<|(N0.o.W λ_ x=>x.elim).aA K;have L2:=xe Z;have H:=xe (BM.o.y K À);have D2:=xe (HD.o.y G.o λx hx e=>bb.o Â);have G2:=xe (HG.o.y G.o À);have T2:=xe (HT.o.y G.o À);clear K Z B1 T1 BM N0 HB;obtain⟨c,z⟩:∃c,Ji k.m m.ep=c:=⟨_,rfl⟩;obtain⟨f,M⟩:∃f,Y7 k.m m.ep=f:=⟨_,rfl⟩;have o:=xe z;have W:=xe M;have bc:aK<|aa c=16:=by show _=_;rw[<-z];exact EU _ _
 have s:aK<|xh g b (Lk.G {k with ep:=m.ep} c f) 122:=by have:=L2.o;unfold Jh at this;rw[show Ji ({k with ep:=m.ep}:Lk).m ({k with ep:=m.ep}:Lk).ep=c from z,show Y7 ({k with ep:=m.ep}:Lk).m ({k with ep:=m.ep}:Lk).ep=f from M]at this;exact this
 clear z M L2;have I:aK<|∀w1,Nw g w1->MC (ak w.heap) m m.iI w1/\ae w1 (zq b 6)=ac (zs c)/\ae w1 (zq b 7)=ac (zs f):=λw1 v=>by have B:=H.o.y v id;have k2:=s.o.y v id;exact⟨B.mc,k2.i 6 rfl,k2.i 7 rfl⟩
 have J:aK<|∀w1,Nw g w1->ae w1 (zq b 4)=ac (eK<|some k.mp)/\aQ w1 (zq b 4)=ao:=λw1 v=>⟨(s.o.y v id).i 4 rfl,(s.o.y v id).dG 4⟩;have U:aK<|∀w1 mp,Nw g w1->MC (ak w.heap) m m.iI (ai w1 (zq b 4)<|eK<|some mp)/\ae (ai w1 (zq b 4)<|eK<|some mp) (zq b 6)=ac (zs c)/\ae (ai w1 (zq b 4)<|eK<|some mp) (zq b 7)=ac (zs f):=λw1 mp v=>by have B:=(H.o.y v id).dE (p:=zq b 4) Â<|eK<|some mp;have k2:=(s.o.y v id).H 4<|eK<|some mp;exact⟨B.mc,k2.i 6 rfl,k2.i 7 rfl⟩
 have S0:=I.o g<|zj.refl _ _;have O:aK<|Nw g g.drew:=(zj.refl _ _).U;have R:aK<|Calls prog 163 #[bM #[zi m.ep,zi m.op,zi m.bA,zi m.fo,zi m.bE,zi m.fi,zi m.gp,zs m.iI,zs m.aP],zo D,bM #[zs c,zs f]] g.drew<|E5 tv (Y6 m d.L c) g.drew:=xbh m D d c f bc.o ba g.drew (D2.o.y O.o λ_ _=>id) (G2.o.y O.o id)<|T2.o.y O.o id;have Q:aK<|Calls prog 163 #[bM #[zi m.ep,zi m.op,zi m.bA,zi m.fo,zi m.bE,zi m.fi,zi m.gp,zs m.iI,zs m.aP],zo D,bM #[zs c,zs f]] g.drew λe a=>(∃X mp,aK (Y6 m d.L c=ac X)/\e=ah (eK<|some mp)/\aK (Nw g.drew a/\ak g.drew.heap<=mp/\Je a mp X))\/(aK (Y6 m d.L c=ar)/\e=jM tv/\aK (Nw g.drew a)):=R.o.mono λe a⟨E,F⟩=>by cases hq:Y6 m d.L c with|none=>rw[hq]at F;exact aE ⟨rfl,F,E⟩|some X=>rw[hq]at F;obtain⟨mp,h3,h4,h5⟩:=F;exact aF ⟨X,mp,rfl,h3,E,h4,h5⟩
 have T:aK<|∀a,Y6 m d.L c=ar->Nw g.drew a->wQ tv b k m (Y6 m d.L<|Ji k.m m.ep) w (jM tv) a:=λa E F=>by unfold wQ;rw[o.o,E];exact⟨G.o.aA<|(O.o.aA F).W λ_ x=>x.elim,rfl⟩
 go_wp2;go_region_held2 (λa=>MC (ak w.heap) m m.iI a/\ae a (zq b 6)=ac (zs c)/\ae a (zq b 7)=ac (zs f)) (first|exact S0|exact S1|exact S2)
  ((go_at_call 163;refine Q.o.mono ?_;rintro e w4 (⟨X,mp,HQ,rfl,q⟩|⟨HQ,rfl,q⟩);rotate_left;(exact⟨rfl,T.o _ HQ.o q.o⟩);have C:aK<|Nw g w4:=O.o.aA q.o.1;have S1:=I.o _ C.o;have x4:=(J.o _ C.o).1;have y4:=(J.o _ C.o).2;have S2:=U.o w4 mp C.o))
 have i:=q.o;have A5:=xe<|(G.o.aA<|C.o.W λ_ x=>x.elim).aA<|zj.H _ (zq b 4)<|eK<|some mp;have t:=xe<|(s.o.y C.o id).H 4<|eK<|some mp;have l:=xe<|(H.o.y C.o id).dE (p:=zq b 4) (by show ak w.heap≠b;omega)<|eK<|some mp;have j:mp≠b:=by have E:=i.2.1;have F:=G.o.J;simp at E;omega
 have M5:=xe<|i.2.2.y (zj.H w4 (zq b 4)<|eK<|some mp) j;have S:aK<|ak w.heap<=mp:=by show _<=_;have E:=i.2.1;have F:=G.o.J;simp at E;omega
 clear i q S0 S1 S2 x4 y4 I U J R Q T O C;try clear hHeld
 generalize ai w4 (zq b 4) (eK<|some mp)=w5 at*;have z2:ae w5 (zq (ak w.heap) 2)=ac (zi m.bA):=l.o.i 2 rfl;have z4:ae w5 (zq (ak w.heap) 4)=ac (zi m.bE):=l.o.i 4 rfl;have z5:ae w5 (zq (ak w.heap) 5)=ac (zi m.fi):=l.o.i 5 rfl;have z6:ae w5 (zq (ak w.heap) 6)=ac (zi m.gp):=l.o.i 6 rfl;have z8:ae w5 (zq (ak w.heap) 8)=ac (zs m.aP):=l.o.i 8 rfl;have b8:ae w5 (zq b 8)=ac (zi k.bA):=t.o.i 8 rfl;have b9:ae w5 (zq b 9)=ac (zs k.dO):=t.o.i 9 rfl;have bl:ae w5 (zq b 11)=ac (zi k.bE):=t.o.i 11 rfl;have bm:ae w5 (zq b 13)=ac (zi k.eJ):=t.o.i 13 rfl;have bn:ae w5 (zq b 14)=ac (zi k.fQ):=t.o.i 14 rfl;have f8:=t.o.dG 8;have f9:=t.o.dG 9;have bo:=t.o.dG 11;have bp:=t.o.dG 13;have bq:=t.o.dG 14;have be:¬ak w.heap=b:=À
 have bt:¬b=ak w.heap:=À
 have bd:¬mp=b:=j;have LE:=(((t.o.H 8<|zi m.bA).H 9<|zs m.aP).H 11<|zi m.bE).H 13<|zi m.fi;have BE:zj (·=b) w5<|ai (ai (ai (ai w5 (zq b 8)<|zi m.bA) (zq b 9)<|zs m.aP) (zq b 11)<|zi m.bE) (zq b 13)<|zi m.fi:=(((zj.H w5 (zq b 8) _).aA<|zj.H _ (zq b 9) _).aA<|zj.H _ (zq b 11) _).aA<|zj.H _ (zq b 13) _;have r:aK (∀w1,zj (·=b) w5 w1->ae w1 (zq (ak w.heap) 2)=ac (zi m.bA)/\ae w1 (zq (ak w.heap) 4)=ac (zi m.bE)/\ae w1 (zq (ak w.heap) 5)=ac (zi m.fi)/\ae w1 (zq (ak w.heap) 6)=ac (zi m.gp)/\ae w1 (zq (ak w.heap) 8)=ac (zs m.aP)):=λw1 v=>by have B:=l.o.y v be;exact⟨B.i 2 rfl,B.i 4 rfl,B.i 5 rfl,B.i 6 rfl,B.i 8 rfl⟩
 have bg:=r.o w5.drew (zj.refl _ _).U;have bh:=r.o (ai w5 (zq b 8)<|zi m.bA).drew ((zj.refl _ _).aA<|zj.H _ (zq b 8) _).U;have bi:=r.o (ai (ai w5 (zq b 8)<|zi m.bA) (zq b 9)<|zs m.aP).drew (((zj.refl _ _).aA<|zj.H _ (zq b 8) _).aA<|zj.H _ (zq b 9) _).U;have bj:=r.o (ai (ai (ai w5 (zq b 8)<|zi m.bA) (zq b 9)<|zs m.aP) (zq b 11)<|zi m.bE).drew ((((zj.refl _ _).aA<|zj.H _ (zq b 8) _).aA<|zj.H _ (zq b 9) _).aA<|zj.H _ (zq b 11) _).U;have bk:=r.o (ai (ai (ai (ai w5 (zq b 8)<|zi m.bA) (zq b 9)<|zs m.aP) (zq b 11)<|zi m.bE) (zq b 13)<|zi m.fi).drew (((((zj.refl _ _).aA<|zj.H _ (zq b 8) _).aA<|zj.H _ (zq b 9) _).aA<|zj.H _ (zq b 11) _).aA<|zj.H _ (zq b 13) _).U;have y:=xe LE;have n:=xe BE;clear LE BE;by_cases h0:0<m.gp
 ·have i0:(0:Int)<(m.gp:Int):=by omega
  have HF:aK<|wQ tv b k m (Y6 m d.L<|Ji k.m m.ep) w (ah<|bU #[])<|(ai (ai (ai (ai (ai w5 (zq b 8)<|zi m.bA) (zq b 9)<|zs m.aP) (zq b 11)<|zi m.bE) (zq b 13)<|zi m.fi) (zq b 14)<|zi m.fi).drew:=by
   show wQ _ _ _ _ _ _ _ _;unfold wQ;rw[o.o,HQ.o];refine⟨((A5.o.aA n.o).aA<|zj.H _ (zq b 14) _).U,rfl,mp,S.o,M5.o.y ((n.o.aA<|zj.H _ (zq b 14) _).U) j, ?_⟩;unfold Jh;rw[show Ji (k.ga m mp).m (k.ga m mp).ep=c from o.o,show Y7 (k.ga m mp).m (k.ga m mp).ep=f from W.o];have e:(k.ga m mp).G c f=#[zs k.m,zi k.tc,zs k.bJ,zi k.op,eK<|some mp,zi m.ep,zs c,zs f,zi m.bA,zs m.aP,zs k.eS,zi m.bE,zi k.aP,zi m.fi,zi m.fi,aX k.cE,zi k.cN]:=by simp[Lk.G,Lk.ga,h0]
   rw[e];exact xh.H y.o 14<|zi m.fi
  clear h0 y n;go_wp2;go_region_held3 (λa=>ae a (zq (ak w.heap) 2)=ac (zi m.bA)/\ae a (zq (ak w.heap) 4)=ac (zi m.bE)/\ae a (zq (ak w.heap) 5)=ac (zi m.fi)/\ae a (zq (ak w.heap) 6)=ac (zi m.gp)/\ae a (zq (ak w.heap) 8)=ac (zs m.aP)) (first|omega|omega|omega|omega|omega) (fail);all_goals (
   go_wp2;go_end0;exact HF.o)
 ·have i0:¬(0:Int)<(m.gp:Int):=by omega
  have HF:aK<|wQ tv b k m (Y6 m d.L<|Ji k.m m.ep) w (ah<|bU #[])<|(ai (ai (ai (ai w5 (zq b 8)<|zi m.bA) (zq b 9)<|zs m.aP) (zq b 11)<|zi m.bE) (zq b 13)<|zi m.fi).drew:=by
   show wQ _ _ _ _ _ _ _ _;unfold wQ;rw[o.o,HQ.o];refine⟨(A5.o.aA n.o).U,rfl,mp,S.o,M5.o.y n.o.U j, ?_⟩;unfold Jh;rw[show Ji (k.ga m mp).m (k.ga m mp).ep=c from o.o,show Y7 (k.ga m mp).m (k.ga m mp).ep=f from W.o];have e:(k.ga m mp).G c f=#[zs k.m,zi k.tc,zs k.bJ,zi k.op,eK<|some mp,zi m.ep,zs c,zs f,zi m.bA,zs m.aP,zs k.eS,zi m.bE,zi k.aP,zi m.fi,zi k.fQ,aX k.cE,zi k.cN]:=by simp[Lk.G,Lk.ga,h0]
   rw[e];exact y.o
  clear h0 y n;go_wp2;go_region_held3 (λa=>ae a (zq (ak w.heap) 2)=ac (zi m.bA)/\ae a (zq (ak w.heap) 4)=ac (zi m.bE)/\ae a (zq (ak w.heap) 5)=ac (zi m.fi)/\ae a (zq (ak w.heap) 6)=ac (zi m.gp)/\ae a (zq (ak w.heap) 8)=ac (zs m.aP)) (first|omega|omega|omega|omega|omega) (fail);all_goals (
   go_wp2;go_end0;exact HF.o)
end
def jB(m mark:Zl)(tc op:Int)(mp:Nat):Lk:=⟨m,tc,mark,op,mp,0,0,Yn,[],0,0,0,0,ao,0⟩
def vB(F:Xv):Nat->Nat->Nat
 |0,n=>n|f+1,n=>if n<9999/\jp F ((n+1:Nat):Int)≠[]then vB F f (n+1)else n
def Z7(F:Xv)(n:Nat):Nat:=vB F (9999-n) n
def Fd{F n}(h:n<9999)(a:jp F ((n+1:Nat):Int)≠[]):Z7 F n=Z7 F (n+1):=by unfold Z7;obtain⟨f,b⟩:∃f,9999-n=f+1:=⟨9999-n-1,À⟩;grind [vB]
theorem IH{F n}(h:¬(n<9999/\jp F ((n+1:Nat):Int)≠[])):Z7 F n=n:=by unfold Z7;cases hf:9999-n with|zero=>rfl|succ f=>rw[vB,if_neg h]
theorem VF(F):∀(f n:Nat),n<=vB F f n/\vB F f n<=n+f
 |0,n=>⟨zd _,zd _⟩|f+1,n=>by have:=VF F f<|n+1;grind [vB]
theorem Fc(F n):n<=Z7 F n/\(Z7 F n<=n\/Z7 F n<=9999):=by grind [VF,Z7]
open Classical in
noncomputable def Xc(k:Lk)(F:Xv):Option<|Lk×KV:=
 if jp F 0=[]then ac (k,[])
 else if tu k.m k.tc (jp F 0)then(Y6 (Ym<|jp F 0) F<|Ji k.m (Ym<|jp F 0).ep).map λL=>(k.ga (Ym<|jp F 0) k.mp,L)
 else ar
open Classical in
noncomputable def Xr(k:Lk)(F:Xv):Option<|Lk×KV:=
 match Xc k F with
 |none=>ar
 |some (k1,L1)=>match mJ (λi=>jp F (i:Int)) (bB k1.bE+1) {k1 with aP:=(Z7 F (bB k1.bE):Int)} L1 (Z7 F (bB k1.bE)-bB k1.bE)with
  |some (k2,L2)=>if pg k2 then ac (k2,L2)else ar
  |none=>ar
def Fe(tv:Zv)(X:Nat->Option (Lk×KV))(w:Zy)(e:kU)(w':Zy):Prop:=
 Nw w w'/\∃mp,ak w.heap<=mp/\(match X mp with
  |some (k,L)=>e=ah (bM<|k.G (Ji k.m k.ep)<|Y7 k.m k.ep)/\k.mp=mp/\Je w' mp L
  |none=>e=jM tv)
structure jO(F:Xv):Prop where
 nd:(F.map (·.1)).Nodup
 ne:∀p∈F,p.2.1≠[]
theorem jO.nil:jO []:=⟨List.nodup_nil,Ä⟩
theorem ztk{F k v x}:x∈(lO F k v).map (·.1)↔x=k\/x∈F.map (·.1):=by induction F with|nil=>simp[lO]|cons p F ih=>grind [lO]
theorem ztj{F k x}(h:x∈(mH F k).map (·.1)):x∈F.map (·.1):=by obtain⟨p,a,rfl⟩:=Xe.1 h;grind [Ik]
def xt1{F}(h:(F.map (·.1)).Nodup)(k v):((lO F k v).map (·.1)).Nodup:=by induction F with|nil=>simp[lO]|cons p F ih=>grind [lO,ztk]
def xt0{F}(h:(F.map (·.1)).Nodup)(k):((mH F k).map (·.1)).Nodup:=by induction F with|nil=>simp[mH]|cons p F ih=>obtain⟨a,b⟩:=p;rw[Js,D8]at h;grind [mH,ztj]
theorem U6{F k}(h:k∉F.map (·.1)):Xm F k=ar:=by induction F with|nil=>rfl|cons p F ih=>grind [Xm]
theorem zue{F}(k v):Xm (lO F k v) k=ac v:=by induction F with|nil=>simp[lO,Xm]|cons p F ih=>grind [lO,Xm]
def zj7{F}(h:(F.map (·.1)).Nodup)(k):Xm (mH F k) k=ar:=by induction F with|nil=>rfl|cons p F ih=>obtain⟨a,b⟩:=p;rw[Js,D8]at h;grind [mH,U6,Xm]
def jO.del{F}(h:jO F)(n):jO<|mH F n:=⟨xt0 h.nd n,λp a=>h.ne p<|Ik a⟩
def jO.pV{F}(h:jO F)(n f):jO<|Vm F n f:=by unfold Vm;by_cases a:f.1=[];rw[if_pos a];exact h.del n;rw[if_neg a];refine⟨xt1 h.nd n f,λp b=>?_⟩;obtain rfl|b:=TB b;exact a;exact h.ne p b
def jO.Iz{F}(h:jO F){k}:k∈F.map (·.1)↔jp F k≠[]:=by constructor;intro c;have b:=zn0 c;obtain⟨v,a⟩:=Wr.1 b;have:=h.ne _<|Ve a;grind [jp];intro d;cases a:Xm F k with|none=>grind [jp]|some v=>exact Xe.2 ⟨_,Ve a,rfl⟩
def jO.yq{F}(h:jO F){k}:k∈Zk F↔jp F k≠[]:=MF.trans h.Iz
theorem xc9{F}(k v):bK (lO F k v)+(aa (jp F k):Int)=bK F+(aa v.1:Int):=by induction F with|nil=>simp[lO,bK,jp,Xm]|cons p F ih=>grind [lO,bK,jp,Xm]
theorem U8{F}(k):bK (mH F k)+(aa (jp F k):Int)=bK F:=by induction F with|nil=>grind [mH,jp,Xm]|cons p F ih=>grind [mH,bK,jp,Xm]
theorem Bv{F}(k f):bK (Vm F k f)+(aa (jp F k):Int)=bK F+(aa f.1:Int):=by grind [Vm,U8,xc9]
section
variable {m:List UInt8} {F F':Xv} {L0 L L':KV} {xs:List<|List UInt8} {q q':Lk} {z first:List UInt8} {p:Nat}
end
section
attribute [local go_sem] zn zg te
def Sr.dT(room seg lim:Int)(m:Zl)(D M:Nat):Sr:=⟨seg,lim,D,⟨room,M,[],ar⟩,m,0,Yn,0,ar⟩
def U0(d b a m)(I:0<=d)(J:d<=100000)(K:1<=b)(L:b<=100000)(O:0<=a)(Q:a<=999)(S:aa m=32)(w):
  aG prog 31 #[zi d,zi b,zi a,zs m] w λe w'=>∃B D M,e=ah (bU #[zo B,zi 0])/\ak w.heap<=B/\ak w.heap<=D/\ak w.heap<=M/\aN (ak w.heap) w w'/\Vq w' B (Sr.dT d b a m D M):=by
 go_enter func31.1,Tryz.ntmps31;go_wp2;refine(xsj d _).mono ?_;rintro e w1⟨rfl,l,j,k⟩;have p:=j;have t:=k;have o:=xe l;clear j k l;go_wp2;have C:xh (aB w1<|aq #[zi b,zi a,zo<|ak w.heap+1,aj ⟨#[]⟩,zi 0,aj ⟨#[]⟩,zi 0,aR ar] 81) (ak w1.heap) #[zi b,zi a,zo<|ak w.heap+1,aj ⟨#[]⟩,zi 0,aj ⟨#[]⟩,zi 0,aR ar] 81:=xh.dT _ _ _;have v:=t.y (zj.E<|aq #[zi b,zi a,zo<|ak w.heap+1,aj ⟨#[]⟩,zi 0,aj ⟨#[]⟩,zi 0,aR ar] 81) λ_ _=>id;have q:=p.alloc ň<|aq #[zi b,zi a,zo<|ak w.heap+1,aj ⟨#[]⟩,zi 0,aj ⟨#[]⟩,zi 0,aR ar] 81;generalize aB w1 (aq #[zi b,zi a,zo<|ak w.heap+1,aj ⟨#[]⟩,zi 0,aj ⟨#[]⟩,zi 0,aR ar] 81)=w2 at*;refine(Uw _).mono ?_;rintro e n⟨rfl,i⟩;have g:=C.Y i;have y:=v.y (zj.Q i) λ_ _=>id;have r:=Xs q i;have T:=g.i 3 rfl;have U:=g.i 4 rfl;have V:=g.i 5 rfl;have W:=g.i 6 rfl;have X:=g.dG 3;have Y:=g.dG 4;have Z:=g.dG 5;have y6:=g.dG 6;have f:ak w.heap<=ak w1.heap:=ň
 have E:=(((g.H 3<|zs m).H 4<|zi 0).H 5<|zs Yn).H 6<|zi 0;have G:ak w1.heap≠ak w.heap+1/\ak w1.heap≠ak w.heap:=ň
 have z:∃B D M,ah (bU #[zo (ak w1.heap),zi 0])=ah (bU #[zo B,zi 0])/\ak w.heap<=B/\ak w.heap<=D/\ak w.heap<=M/\aN (ak w.heap) w (ai (ai (ai (ai n (zq (ak w1.heap) 3)<|zs m) (zq (ak w1.heap) 4)<|zi 0) (zq (ak w1.heap) 5)<|zs Yn) (zq (ak w1.heap) 6)<|zi 0)/\Vq (ai (ai (ai (ai n (zq (ak w1.heap) 3)<|zs m) (zq (ak w1.heap) 4)<|zi 0) (zq (ak w1.heap) 5)<|zs Yn) (zq (ak w1.heap) 6)<|zi 0) B (Sr.dT d b a m D M):=by refine⟨ak w1.heap,ak w.heap+1,ak w.heap,rfl,f,À,zd _, ?_,E, ?_,λs e=>Ç⟩;exact(((r.setCell f _).setCell f _).setCell f _).setCell f _;have F:zj (·=ak w1.heap) n<|ai (ai (ai (ai n (zq (ak w1.heap) 3)<|zs m) (zq (ak w1.heap) 4)<|zi 0) (zq (ak w1.heap) 5)<|zs Yn) (zq (ak w1.heap) 6)<|zi 0:=(((zj.H n (zq (ak w1.heap) 3) _).aA<|zj.H _ (zq (ak w1.heap) 4) _).aA<|zj.H _ (zq (ak w1.heap) 5) _).aA<|zj.H _ (zq (ak w1.heap) 6) _;refine y.y F λx H e=>?_;have e:=e;obtain h|h|⟨c,R,_⟩:=H;omega;grind;grind
 go_wp2;go_ret2;exact z
end
section
attribute [local go_sem] zn zg
def ui(k v:Zl)(s:Bool×KV)(q:Zl×Zl):Bool×KV:=
 if s.1=ao/\k<=q.1 then(aw,if q.1=k then s.2++[(k,v)]else s.2++[(k,v)]++[q])else(s.1,if q.1=k then s.2 else s.2++[q])
def Bw(l:KV)(k v:Zl)(gone:Bool):Bool×KV:=l.foldl (ui k v) (gone,[])
def zX(l:KV)(k v:Zl)(gone:Bool):KV:=if(Bw l k v gone).1=ao then(Bw l k v gone).2++[(k,v)]else(Bw l k v gone).2
end
def rj(l:KV):Prop:=l.Pairwise λp q=>p.1<q.1
def fR(L:KV):KV:=(Vv L).map λk=>(k,(Xg L k).getD [])
def zwz{a b:Zl}(h:¬b<=a):a<b:=Â
def xac{a b:Zl}(h:a<=b)(c:a≠b):a<b:=zwz λd=>c<|List.le_antisymm h d
def Nq(L):(Vv L).Perm (L.map (·.1)):=Xo _ _
theorem xp7{L}(h:Nd L):(Vv L).Pairwise (·<·):=by
 have g:∀a b c:Zl,tj a b=aw->tj b c=aw->tj a c=aw:=λa b c e f=>Â
 have d:∀a b:Zl,(tj a b||tj b a)=aw:=λa b=>Â
 have e:(Vv L).Pairwise λa b=>tj a b=aw:=KX g d _;have f:(Vv L).Pairwise λa b=>a≠b:=(Nq L).nodup_iff.2 h;exact(e.and f).imp λ⟨a,b⟩=>xac Â b
theorem Nv(L):(fR L).map (·.1)=Vv L:=by unfold fR;rw[Wj];simp[zc1]
def Fg{L}(h:Nd L):rj<|fR L:=by grind [rj,fR,xp7]
def VE(f:Zl->Zl)(x):∀ks:List Zl,Xg (ks.map λk=>(k,f k)) x=if x∈ks then ac (f x)else ar
 |[]=>by simp[Xg]|k::ks=>by simp only[Js,Xg,jc];by_cases h:x=k;grind;rw[if_neg h,VE f x ks];simp[h]
theorem zye{L x}(h:x∈L.map (·.1)):∃v,Xg L x=ac v:=by
 induction L with
 |nil=>cases h
 |cons p L ih=>obtain⟨k,v⟩:=p;unfold Xg;by_cases e:x=k;simp_all;grind
theorem Ff(L x):Xg (fR L) x=Xg L x:=by unfold fR;rw[VE];grind [zye,zup,Mw]
def rj.nd{l}(h:rj l):Nd l:=by grind [Nd,rj]
def rj.qI{p l}(h:rj (p::l)){x}(hx:x<=p.1):Xg l x=ar:=by refine Mw λa=>?_;obtain⟨q,b,rfl⟩:=Xe.1 a;have c:p.1<q.1:=(Xw.1 h).1 q b;grind
def IJ:∀{l l':KV},rj l->rj l'->(∀x,Xg l x=Xg l' x)->l=l'
 |[],[],_,_,_=>rfl|[],p::l',_,_,h=>by have:=h p.1;simp[Xg]at this
 |p::l,[],_,_,h=>by have:=h p.1;simp[Xg]at this
 |p::l,p'::l',h1,h2,h=>by
  have hk:p.1=p'.1:=by obtain e|e:=List.le_total p.1 p'.1;refine jg λb=>?_;have a:=h p.1;simp only[Xg,if_true]at a;rw[if_neg b,h2.qI e]at a;cases a;refine jg λb=>?_;have a:=h p'.1;simp only[Xg,if_true]at a;rw[if_neg λe=>b e.symm,h1.qI e]at a;cases a
  have d:p.2=p'.2:=by have a:=h p.1;simp only[Xg,if_true]at a;rw[if_pos hk]at a;exact ql a
  have c:p=p':=Prod.ext hk d;subst c;congr 1;refine IJ (Xw.1 h1).2 (Xw.1 h2).2 λx=>?_;by_cases e:x=p.1;subst e;rw[h1.qI<|List.le_refl _,h2.qI<|List.le_refl _];have a:=h x;grind [Xg]
def tE(k v:Zl):KV->KV
 |[]=>[(k,v)]|q::l=>if k<=q.1 then(k,v)::(q::l).filter (λp=>bI (p.1≠k))else q::tE k v l
theorem Ns(k v):∀(l acc:KV),l.foldl (ui k v) (aw,acc)=(aw,acc++l.filter (λp=>bI (p.1≠k)))
 |[],acc=>Ä
 |q::l,acc=>by
  rw[D7];have:ui k v (aw,acc) q=(aw,if q.1=k then acc else acc++[q]):=by simp[ui]
  rw[this,Ns];grind
theorem U9(k v):∀(l acc:KV),(if(l.foldl (ui k v) (ao,acc)).1=ao then(l.foldl (ui k v) (ao,acc)).2++[(k,v)]else(l.foldl (ui k v) (ao,acc)).2)=acc++tE k v l
 |[],acc=>by simp[tE]
 |q::l,acc=>by
  rw[D7];unfold tE;by_cases h:k<=q.1;grind [ui,Ns];have a:q.1≠k:=λe=>h Â;have:ui k v (ao,acc) q=(ao,acc++[q]):=by simp[ui,h,a]
  rw[this,U9 k v l,if_neg h];simp
def xjx(l k v):zX l k v ao=tE k v l:=by grind [zX,Bw,U9]
def xdj(l k v):zX l k v aw=l.filter (λp=>bI (p.1≠k)):=by grind [zX,Bw,Ns]
def IF(k x):∀l:KV,Xg (l.filter λp=>bI (p.1≠k)) x=if x=k then ar else Xg l x
 |[]=>by simp[Xg]|q::l=>by obtain⟨a,b⟩:=q;by_cases h:a=k;subst h;rw[List.filter_cons_of_neg Ä,IF a x l];grind [Xg];rw[List.filter_cons_of_pos Â];simp only[Xg];rw[IF k x l];grind
theorem U'(k v x):∀l:KV,Xg (tE k v l) x=if x=k then ac v else Xg l x
 |[]=>by simp[tE,Xg]|q::l=>by obtain⟨a,c⟩:=q;unfold tE;by_cases h:k<=a;rw[if_pos h];show(if x=k then ac v else Xg (List.filter (λp=>bI (p.1≠k)) ((a,c)::l)) x)=_;rw[IF];grind;rw[if_neg h];have b:a≠k:=λe=>h Â;simp only[Xg];rw[U' k v x l];grind
def UQ{k v p}:∀{l:KV},p∈tE k v l->p=(k,v)\/p∈l
 |[],h=>by simpa[tE]using h|q::l,h=>by unfold tE at h;by_cases e:k<=q.1;grind;rw[if_neg e]at h;obtain h|h:=jc.1 h;grind;obtain h|h:=UQ h;grind;grind
def US{k v}:∀{l:KV},rj l->rj (tE k v l)
 |[],_=>by simp[tE,rj]|q::l,h=>by have b:=Xw.1 h;unfold tE;by_cases e:k<=q.1;rw[if_pos e];refine Xw.2 ⟨λp a=>?_,h.filter _⟩;grind;rw[if_neg e];refine Xw.2 ⟨λp a=>?_,US b.2⟩;obtain rfl|c:=UQ a;grind;grind
def xvc{L}(h:Nd L)(k v):fR (gt L k v)=zX (fR L) k v ao:=by rw[xjx];refine IJ (Fg<|h.gt k v) (US<|Fg h) λx=>?_;grind [Ff,TN,U']
def xvb{L}(h:Nd L)(k v):fR (iP L k)=zX (fR L) k v aw:=by rw[xdj];refine IJ (Fg<|h.iP k) ((Fg h).filter _) λx=>?_;rw[Ff,TM h,IF,Ff]
def xer(m a xs):(Y9 m a xs).map aa=xs.map aa:=by apply Ye;grind [Y9,ye]
def xjo:∀{xs ys:List Zl},xs.map aa=ys.map aa->aa xs.flatten=aa ys.flatten:=Â
theorem UT(m a x):aa (Y9 m a<|Ys x).flatten=aa x:=by rw[xjo<|xer m a<|Ys x,(Ix x).2.2]
structure Mf.ok(m:Mf):Prop where
 ep:m.ep<=5
 op:m.op<65536
 bA:m.bA<4294967296
 fo:m.fo<65536
 bE:m.bE<4294967296
 fi:m.fi<65536
 gp:m.gp<4294967296
 iI:aa m.iI=32
 aP:aa m.aP=32
section
variable {m:Mf} (h:m.ok) (tk:List UInt8)
end
structure FGs(F:Xv):Prop where
 gd:jO F
 fV:pB F
 fl:∀n,(Zm F n).2=(aa (jp F n):Int)
def ID{F k n f}(h:k≠n):Zm (Vm F n f) k=Zm F k:=by grind [Zm,zmr]
theorem IE{F}(g:jO F){n f}(a:f.1=[]->f.2=0):Zm (Vm F n f) n=f:=by unfold Zm Vm;split;rename_i h;rw[zj7 g.nd];grind;rw[zue];rfl
def UY{t}(c:0<=t):∀(ns:List Int) (F:Xv),ns.Nodup->(∀n∈ns,jS n)->jO F->pB F->jO (ns.foldl (fJ t) F)/\pB (ns.foldl (fJ t) F)/\
  ∀k,(k∉ns->Zm (ns.foldl (fJ t) F) k=Zm F k)/\(k∈ns->jp (ns.foldl (fJ t) F) k=(jp F k).take (bB (Wx t<|Zm F k))/\(Zm (ns.foldl (fJ t) F) k).2=(aa (jp (ns.foldl (fJ t) F) k):Int))
 |[],F,_,_,g,e=>⟨g,e,λk=>⟨λ_=>rfl,λh=>Ê⟩⟩
 |n::ns,F,hn,hi,g,e=>by
  have b:=D8.1 hn;have p:jO<|fJ t F n:=g.pV _ _;obtain⟨f,i,j⟩:=UY c ns (fJ t F n) b.2 (λx r=>hi x<|by simp[r]) p (e.fJ c<|hi n Ä);refine⟨f,i,λk=>?_⟩;have d:∀{k},k≠n->Zm (fJ t F n) k=Zm F k:=λh=>ID h;obtain⟨a,l⟩:=j k;refine⟨λh=>?_,λh=>?_⟩;grind;by_cases hk:k=n;subst hk;have a:=a b.1;have hd:Zm (fJ t F k) k=((jp F k).take (bB (Wx t<|Zm F k)),(aa ((jp F k).take (bB (Wx t<|Zm F k))):Int)):=IE g Â
  grind [jp,Zm];have q:k∈ns:=by obtain h|h:=jc.1 h;exact absurd h hk;exact h
  obtain⟨m,o⟩:=l q;refine⟨?_,o⟩;show jp (ns.foldl (fJ t)<|fJ t F n) k=_;rw[m,d hk,show jp (fJ t F n) k=jp F k from congrArg nC<|d hk]
def zzi{F}(g:jO F):(Zk F).Nodup:=((Xo _ _).nodup_iff).2 g.nd
def zwy{t}(m:0<=t){F}(g:jO F)(e:pB F):FGs (sG t F)/\∀k,jp (sG t F) k=(jp F k).take (bB (Wx t<|Zm F k)):=by
 have i:∀n∈Zk F,jS n:=λn j=>by have:n∈F.map (·.1):=((Xo _ _).mem_iff).1 j;obtain⟨p,l,rfl⟩:=Xe.1 this;exact(e p l).1
 obtain⟨c,d,b⟩:=UY m (Zk F) F (zzi g) i g e;have a:∀k,jp (sG t F) k=(jp F k).take (bB (Wx t<|Zm F k))/\(Zm (sG t F) k).2=(aa (jp (sG t F) k):Int):=λk=>by by_cases h:k∈Zk F;exact(b k).2 h;have o:=(b k).1 h;have f:jp F k=[]:=jg λx=>h<|g.yq.2 x;have q:k∉F.map (·.1):=λx=>g.Iz.1 x f;grind [Zm,U6,sG,jp]
 exact⟨⟨c,d,λk=>(a k).2⟩,λk=>(a k).1⟩
def xqk{a b:List Int}(h:a.Perm b):a.sum=b.sum:=by
 induction h with
 |nil=>rfl|cons x _ ih=>grind
 |swap x y l=>grind|trans _ _ h1 h2=>omega
def VD{F}(g:jO F):bK F=((F.map (·.1)).map λn=>(aa (jp F n):Int)).sum:=by
 unfold bK;rw[Wj];congr 1;refine W6 λp a=>?_;have:Xm F p.1=ac p.2:=by
  have h:=g.nd;clear g;induction F with
  |nil=>cases a
  |cons q F ih=>grind [Xm]
 grind [jp]
def xdb{F G}(f:jO F)(g:jO G)(e:∀n,jp G n=jp F n):bK G=bK F:=by rw[VD f,VD g,show(λn=>(aa (jp G n):Int))=λn=>(aa (jp F n):Int)from funext λn=>Ě];exact xqk<|((List.perm_ext_iff_of_nodup g.nd f.nd).2 λn=>by rw[f.Iz,g.Iz,e]).map _
theorem Vs{F}(h:(F.map (·.1)).Nodup)(p):p∈F↔Xm F p.1=ac p.2:=by
 refine⟨λa=>?_,λa=>Ve a⟩;induction F with
 |nil=>cases a
 |cons q F ih=>grind [Xm]
def Nu{A B}(h:A.Perm B)(a:(A.map (·.1)).Nodup)(n):Xm A n=Xm B n:=by
 have b:=(h.map _).nodup_iff.1 a;cases e:Xm A n with
 |some v=>exact(((Vs b (n,v)).1<|h.mem_iff.1<|(Vs a (n,v)).2 e)).symm
 |none=>cases e2:Xm B n with|none=>rfl|some v=>rw[(Vs a (n,v)).1<|h.mem_iff.2<|(Vs b (n,v)).2 e2]at e;cases e
def VG{F}(g:jO F)(k):Xm F k=if(Zm F k).1=[]then ar else ac (Zm F k):=by unfold Zm;cases e:Xm F k with|none=>simp|some v=>simp;exact g.ne _<|Ve e
def UR{A B}(a:jO A)(b:jO B)(h:∀k,Zm A k=Zm B k):A.Perm B:=by refine(List.perm_ext_iff_of_nodup ((Wk.1 a.nd).imp λh e=>h<|congrArg _ e)<|(Wk.1 b.nd).imp λh e=>h<|congrArg _ e).2 λp=>?_;rw[Vs a.nd,Vs b.nd,VG a,VG b,h]
def U5{F}(h:(F.map (·.1)).Nodup)(q k):Xm (F.filter q) k=(Xm F k).filter λv=>q (k,v):=by
 have a:((F.filter q).map (·.1)).Nodup:=h.sublist<|List.filter_sublist.map _;cases e:Xm F k with
 |none=>
  cases e2:Xm _ k with|none=>rfl|some v=>rw[(Vs h (k,v)).1 (Ja.1<|Ve e2).1]at e;cases e
 |some v=>
  cases hq:q (k,v)with
  |true=>rw[(Vs a (k,v)).1<|Ja.2 ⟨Ve e,hq⟩];grind
  |false=>cases e2:Xm _ k with|none=>grind|some u=>have b:=Ja.1<|Ve e2;grind [Vs]
structure Tw(d:Dk)(f:Rf):Prop where
 bS:f.bS=d.bS
 gF:jO f.F
 gL:jO d.L
 nA:∀k,Zm f.F k=Zm d.L k
 nk:ug f.F
 fV:pB d.L
 nx:match d.nx with
  |none=>f.mz=ao|some c=>f.mz=aw/\f.jN=c.2.1/\f.cE=c.2.2
 cE:0<=f.cE
 jN:f.jN<=9223372036854775807
theorem Tw.cQ{d f}(h:Tw d f):f.cQ=d.cQ:=by have:=h.nx;grind [Rf.cQ,Dk.cQ]
def Tw.Fa{d f}(h:Tw d f):f.F.Perm d.L:=UR h.gF h.gL h.nA
def Tw.vz{d f}(h:Tw d f)(n):jp f.F n=jp d.L n:=congrArg nC<|h.nA n
def Tw.yr{d f}(h:Tw d f):bK f.F=bK d.L:=xdb h.gL h.gF h.vz
def U7{F k o}(h:Xm F k=o):Zm F k=o.getD ([],0):=by unfold Zm;rw[h]
def vA:∀{F:Xv},(∀p∈F,p.2.1≠[])->(aa F:Int)<=bK F
 |[],_=>by simp[bK]|p::F,h=>by have b:=vA λq a=>h q<|jw _ a;grind [Z0,P.bK]
def Tw.tB{d f}(h:Tw d f):pB f.F:=λp a=>h.fV p<|h.Fa.mem_iff.1 a
def Tw.ok{d f}(h:Tw d f)(b:P.bK d.L<=400000):Ua f:=⟨h.tB,h.gF.nd,by have a:=vA h.gF.ne;rw[h.yr]at a;omega,h.cE,h.jN⟩
def xuh{F F' n x}(g:jO F)(h:F'.Perm<|(F.filter (λp=>p.1 != n)++[(n,x,(aa x:Int))]).filter nB):jO F'/\∀k,Zm F' k=if k=n then(x,(aa x:Int))else Zm F k:=by
 have d:((F.filter (λp=>p.1 != n)++[(n,x,(aa x:Int))]).map (·.1)).Nodup:=by rw[qz,DY];refine⟨g.nd.sublist<|List.filter_sublist.map _,Ä,λa o b j=>?_⟩;obtain⟨p,f,rfl⟩:=Xe.1 o;simp at j;rw[j];simpa using(Ja.1 f).2
 have c:(((F.filter (λp=>p.1 != n)++[(n,x,(aa x:Int))]).filter nB).map (·.1)).Nodup:=d.sublist<|List.filter_sublist.map _;refine⟨⟨(h.map _).nodup_iff.2 c,λp f=>by have:=(Ja.1<|h.mem_iff.1 f).2;grind [nB]⟩,λk=>?_⟩;have l:=(Nu h ((h.map _).nodup_iff.2 c) k).trans<|U5 d nB k;have m:Xm (F.filter (λp=>p.1 != n)++[(n,x,(aa x:Int))]) k=if k=n then ac (x,(aa x:Int))else Xm F k:=by
  by_cases hk:k=n;subst hk;rw[if_pos rfl];exact(Vs d (k,x,(aa x:Int))).1 Ä;rw[if_neg hk];cases e:Xm F k with
  |some v=>exact(Vs d (k,v)).1<|by simp[hk,Ve e]
  |none=>cases e3:Xm (F.filter (λp=>p.1 != n)++[(n,x,(aa x:Int))]) k with|none=>rfl|some v=>obtain i|i:=je.1 (Ve e3);rw[(Vs g.nd (k,v)).1 (Ja.1 i).1]at e;cases e;grind
 rw[U7 l,m];by_cases hk:k=n;rw[if_pos hk,if_pos hk];cases x<;>simp[Option.filter,nB]
 rw[if_neg hk,if_neg hk];unfold Zm;cases e:Xm F k with|none=>rfl|some v=>have:=g.ne _<|Ve e;simp[Option.filter,nB,this]
def xoy{F F' t}(g:jO F)(h:F'.Perm<|(F.map<|qD t).filter nB):jO F'/\∀k,Zm F' k=(if(jp F k).take (bB (Wx t<|Zm F k))=[]then([],0)else((jp F k).take (bB (Wx t<|Zm F k)),Wx t<|Zm F k)):=by
 have b:((F.map<|qD t).map (·.1)).Nodup:=by rw[Wj];exact g.nd
 have a:(((F.map<|qD t).filter nB).map (·.1)).Nodup:=b.sublist<|List.filter_sublist.map _;refine⟨⟨(h.map _).nodup_iff.2 a,λp d=>by grind [nB]⟩,λk=>?_⟩;have f:=(Nu h ((h.map _).nodup_iff.2 a) k).trans<|U5 b nB k;have i:Xm (F.map<|qD t) k=(Xm F k).map λv=>(qD t (k,v)).2:=by
  cases e:Xm F k with
  |some v=>exact(Vs b _).1<|Xe.2 ⟨_,Ve e,rfl⟩
  |none=>cases e3:Xm _ k with|none=>rfl|some v=>obtain⟨p,d,c⟩:=Xe.1<|Ve e3;have j:p.1=k:=congrArg nC c;have l:=(Vs g.nd p).1 d;grind
 rw[U7 f,i];unfold jp Zm;cases e:Xm F k with|none=>simp|some v=>grind [nB,qD]
section
attribute [local go_sem] zn zg
def Rf.dk(f:Rf)(v:Zv)(F:Xv)(a:Bool)(n:Int)(o:Bool):Rf:={f with fv:=v,F:=F,mz:=a,jN:=n,gA:=o}
def Rf.tA(f:Rf)(v F):∃n,{f.dR with fv:=v,F:=F}=f.dk v F f.mz n f.gA/\f.dR=f.dk f.fv f.F f.mz n f.gA:=by unfold Rf.dR;split;exact⟨_,rfl,rfl⟩;exact⟨_,rfl,rfl⟩
theorem Tw.dR{d f}(h:Tw d f)(o:d.cQ=ao){v F L}(j:jO F)(l:jO L)(i:∀k,Zm F k=Zm L k)(b:ug F)(a:pB L):Tw {d.dR with L:=L} {f.dR with fv:=v,F:=F}:=by
 obtain⟨room,M,m,nx⟩:=d;have g:=h.nx;have n:=h.jN;cases nx with
 |none=>
  simp only at g;have e:f.dR=f:=by unfold Rf.dR;rw[if_neg<|by simp[g]]
  rw[e];exact⟨h.bS,j,l,i,b,a,g,h.cE,h.jN⟩
 |some c=>
  have e:f.dR={f with jN:=f.jN-1}:=by unfold Rf.dR;rw[if_pos g.1]
  rw[e];exact⟨h.bS,j,l,i,b,a,⟨g.1,Â,g.2.2⟩,h.cE,Â⟩
theorem Tw.eN{d f}(h:Tw d f)(m:d.cQ=aw){v F}(j:F.Perm<|(f.F.map<|qD f.cE).filter nB)(l:ug F):Tw d.eN<|f.dk v F ao f.jN ao:=by obtain⟨room,M,L,nx⟩:=d;have e:=h.nx;cases nx with|none=>simp[Dk.cQ]at m|some c=>obtain⟨g,hd⟩:=xoy h.gF j;have n:=e.2.2▸h.cE;obtain⟨a,b⟩:=zwy n h.gL h.fV;refine⟨h.bS,g,a.gd,λk=>?_,l,a.fV,rfl,h.cE,h.jN⟩;show Zm F k=Zm (sG c.2.2 L) k;have i:Zm (sG c.2.2 L) k=(jp (sG c.2.2 L) k,(aa (jp (sG c.2.2 L) k):Int)):=Prod.ext rfl<|a.fl k;have o:(jp L k,(Zm L k).2)=Zm L k:=rfl;have p:=pB.nA (L:=L) h.fV k;rw[hd k,i,b k,h.vz k,h.nA k,e.2.2];grind [Wx]
def pi(C:Nat)(f:Rf)(x:Bool×Dk)(w:Zy)(e:kU)(w':Zy):Prop:=e=ah (aX x.1)/\∃v F a n,Xf C f w (f.dk v F a n<|f.gA&&x.1) w'/\Tw x.2 (f.dk v F a n<|f.gA&&x.1)
theorem pi.cr{C d f w w'}(h:Tw d f)(e:d.cQ=aw)(k:Iq C f w w'):pi C f (ao,d.eN) w (ah<|aX ao) w':=by obtain⟨v,F,a,b,c⟩:=k;refine⟨rfl,v,F,ao,f.jN, ?_, ?_⟩;rw[Vo];exact a;rw[Vo];exact h.eN e b c
def Dk.put(d:Dk)(n:Int)(x:Zl):Bool×Dk:=if d.cQ=aw then(ao,d.eN)else(aw,{d.dR with L:=Vm d.L n (x,(aa x:Int))})
def No(C f d n x w)(h:Ju w C f)(a:Tw d f)(o:bK d.L<=400000)(l:jS n)(hx:aa x<=1000000):aG prog 129 #[zo C,zi n,zs x] w<|pi C f (d.put n x) w:=by refine(xui C f n x w h<|a.ok o).mono λe p k=>?_;unfold Dk.put;cases hs:d.cQ;obtain⟨rfl,v,F,c,i,j⟩:=k.go<|a.cQ.trans hs;obtain⟨g,hd⟩:=xuh a.gF i;obtain⟨m,b,-⟩:=f.tA v F;rw[if_neg Ä];refine⟨rfl,v,F,f.mz,m, ?_, ?_⟩;grind;rw[CF,<-b];refine a.dR hs g (a.gL.pV _ _) (λk=>?_) j<|a.fV.pV l ⟨Ä,Ä,hx⟩;rw[hd k];by_cases hk:k=n;subst hk;rw[if_pos rfl,IE a.gL Â];rw[if_neg hk,ID hk,a.nA];obtain⟨rfl,c⟩:=k.cr<|a.cQ.trans hs;grind [pi.cr]
def Tw.yq{d f}(h:Tw d f):Zk d.L=f.F.map (·.1):=by have c:Zk d.L=(f.F.map (·.1)).mergeSort Ig:=TV (h.Fa.map _).symm;rw[c];apply List.mergeSort_of_pairwise;refine Wk.2<|h.nk.imp λ{a b} q=>?_;grind
def Yc(K:Int->Bool):List Int->Dk->Bool×Dk
 |[],d=>(aw,d)|n::ns,d=>if K n=aw then Yc K ns d else if d.cQ=aw then(ao,d.eN)else Yc K ns (d.rH n)
def Np(K):∀(ns:List Int) (d:Dk),Yc K ns d=Yc (λ_=>ao) (ns.filter λn=>!K n) d
 |[],d=>rfl|n::ns,d=>by cases hk:K n;simp only[Yc,hk,GC];simp only[Bool.not_false,if_true,Yc,ja,if_false,Np K ns];simp only[Yc,hk,GC];simp only[Bool.not_true,ja,if_false,if_true,Np K ns]
def rk(n:Int):Ze:=[aH aU n]
def Nz(n):∀u∈rk n,u.oneCell'=aw:=by intro u a;simp[rk]at a;rw[a];rfl
def IC:El 63 3 1:= .yh ((ex 63).trans Tryz.underlying63) (z:=zi 0) (b:=8) Á Ã rfl Ã
def Dk.tz(d:Dk)(n):d.put n []=if d.cQ=aw then(ao,d.eN)else(aw,d.rH n):=by grind [Dk.put,Dk.rH,Vm]
def Nr(L n):bK (mH L n)<=bK L:=by grind [U8]
def pb(n lo hi k:Int):Bool:=(k==0)||((k==n)||(!bI (k<lo)&& !bI (hi<k)))
def Xf.IA{α:Type}{C f f' w w' e k g v}{l:List α}(h:Ju w C f)(t:Xf C f w f' w')(r:Rw w e k g v l)(b:e≠154/\e≠159/\e≠157/\e≠147):Rw w' e k g v l:=by refine r.y t.y λx c a=>?_;obtain a|a|a|a:=a;exact r.gH h.bO (Ne.symm b.1) x c a;exact r.eF h.fs b.2.1 c a;exact r.eF h.ss b.2.2.1 c a;exact r.eF h.ps b.c c a
structure tD(C:Nat)(f:Rf)(d:Dk)(w:Zy)(f1:Rf)(w1:Zy):Prop where
 rt:Xf C f w f1 w1
 tw:Tw d f1
 dk:∃v F a n,f1=f.dk v F a n f.gA
 pE:bK d.L<=400000
def tD.end{C f b d w w1}(h:tD C f d w b w1):pi C f (aw,d) w (ah<|aX aw) w1:=by obtain⟨v,F,a,n,rfl⟩:=h.dk;refine⟨rfl,v,F,a,n, ?_, ?_⟩;rw[CF];exact h.rt;rw[CF];exact h.tw
theorem tD.dQ{C f j d x w w1 i e}(h:tD C f d w j w1)(k:pi C j x w1 e i)(r:x.1=aw->bK x.2.L<=400000):e=ah (aX x.1)/\(x.1=aw->∃f2,tD C f x.2 w f2 i/\Xf C j w1 f2 i)/\(x.1=ao->pi C f x w (ah<|aX ao) i):=by obtain⟨v,F,a,n,rfl⟩:=h.dk;obtain⟨b,s⟩:=x;obtain⟨rfl,q,m,o,p,c,g⟩:=k;refine⟨rfl,λl=>?_,λl=>?_⟩;cases l;rw[CF]at c g;exact⟨_,⟨h.rt.aA c,g,⟨q,m,o,p,rfl⟩,r rfl⟩,c⟩;cases l;rw[Vo]at c g;refine⟨rfl,q,m,o,p, ?_, ?_⟩;rw[Vo];exact h.rt.aA c;rw[Vo];exact g
def xnh(C f d n lo c w)(h:Ju w C f)(M:Tw d f)(hu:bK d.L<=400000):aG prog 131 #[aR<|some ⟨C,0,ar⟩,aH aU n,aH aU lo,aH aU c] w<|pi C f (Yc (pb n lo c) (Zk d.L) d) w:=by
 have hl:aa f.F<=400000:=by have x:=vA M.gF.ne;rw[M.yr]at x;omega
 have T:=h;have X:=M;have HU:=hu;have HC:aK (Yc (pb n lo c) (Zk d.L) d=Yc (λ_=>ao) ((f.F.map (·.1)).filter λk=>!pb n lo c k) d):=by show _=_;rw[Np,M.yq]
 obtain⟨a,Z,hv⟩:=h.fs.dC;have Y:=hv;clear h M hu hv;rw[HC.o];go_enter func131.1,Tryz.ntmps131;go_wp2;go_loopw [9,10] (λv i wr=>∃j:Nat,j<=aa f.F/\i=aH aU j/\eD w wr 3 1 rk v (((f.F.map (·.1)).take j).filter λk=>!pb n lo c k)) (λ_ i _=>bB (aa f.F-bP i))
 case atStart=>grind [eD.nil]
 case round=>
  obtain⟨j,hj,rfl,ho⟩:=hrel;have t:=ho;have A:=xe<|T.y ho.nw;have c3:ae wr ⟨C,3,ar⟩=ac (az a (aa f.F) Z):=Y▸A.o.bO.i 3 rfl;have I:=J0 (λk=>!pb n lo c k) ((f.F.map (·.1)).take j);rw[xf,jl]at I;clear ho;by_cases o:j<aa f.F;have i1:(j:Int)<(aa f.F:Nat):=À
  obtain⟨g,rfl,K⟩:=A.o.fs.kq (λ_=>rfl) o Y;have e0:ae wr ⟨g,j*3,ar⟩=ac (aH aU f.F[j].1):=K 0 À;have r:aK ((((f.F.map (·.1)).take<|j+1).filter λk=>!pb n lo c k)=(((f.F.map (·.1)).take j).filter λk=>!pb n lo c k)++if pb n lo c f.F[j].1 then []else [f.F[j].1]):=by show _=_;rw[zp Â,Yu,CD];congr 1;cases hk:pb n lo c f.F[j].1<;>simp[hk]
  clear K;generalize f.F[j].1=k at*;generalize(((f.F.map (·.1)).take j).filter λk=>!pb n lo c k)=O at*;cases hk:pb n lo c k
  ·have s:¬k=0/\¬k=n/\(k<lo\/(¬k<lo/\c<k)):=by unfold pb at hk;simp at hk;simp;omega
   rw[hk]at r;obtain⟨R,q1,s⟩:=s;have bb:(k != 0)=aw:=by simpa using R
   have bc:(k != n)=aw:=by simpa using q1
   clear hk;obtain q2|⟨q2,q3⟩:=s;all_goals
    go_wp2_with (refine eD.iB IC k t À rfl rfl (Nz _) rfl rfl rfl rfl ?_);intro g3 ba w3 H;have V:=xe H;clear H;go_wp2;go_roundw
    case rel=>exact⟨j+1,À,Å,by rw[r.o];exact V.o⟩
    grind [bP]
  ·have s:k=0\/(¬k=0/\k=n)\/(¬k=0/\¬k=n/\¬k<lo/\¬c<k):=by unfold pb at hk;simp at hk;simp;omega
   rw[hk]at r;clear hk;obtain R|⟨R,q1⟩|⟨R,q1,q2,q3⟩:=s;all_goals
    go_wp2;go_roundw
    case rel=>exact⟨j+1,À,Å,by rw[r.o];simpa using t⟩
    case measure=>simp[bP];omega
  obtain rfl:j=aa f.F:=À
  have i1:¬(aa f.F:Int)<(aa f.F:Nat):=À
  rw[qp Ä]at t I;have HI:aK (∀k∈((f.F.map (·.1)).filter λk=>!pb n lo c k),jS k):=λk hk=>by obtain⟨p,J,rfl⟩:=Xe.1 (Ja.1 hk).1;exact(X.tB p J).1
  have HD:aK<|tD C f d w f wr:=⟨.nw T t.nw,X,⟨f.fv,f.F,f.mz,f.jN,rfl⟩,HU⟩;obtain⟨a9,E,rfl⟩:=t.dC;have HR:=xe t.rw;generalize hns:((f.F.map (·.1)).filter λk=>!pb n lo c k)=ns at*;have B:=xe hns;clear hns;go_wp2;clear c3 A t T X HU Y HC;go_loopw [12] (λi wq=>∃(j:Nat) (b:Dk) (f1:Rf),j<=aa ns/\i=aH aU j/\tD C f b w f1 wq/\Rw wq 3 1 rk (az a9 (aa ns) E) ns/\Yc (λ_=>ao) ns d=Yc (λ_=>ao) (ns.drop j) b) (λi _=>bB (aa ns-bP i))
  case atStart=>exact⟨0,d,f,À,rfl,HD.o,HR.o,rfl⟩
  case round=>
   obtain⟨j,b,f1,hj,rfl,hd,hr,s⟩:=hrel;have l:=xe hd;have D:=xe hr;have y:=xe s;clear hd hr s HD HR;by_cases o:j<aa ns
   ·have i2:(j:Int)<(aa ns:Nat):=by omega
    obtain⟨g,rfl,K⟩:=D.o.kq (λ_=>rfl) o rfl;have e0:ae wr ⟨g,j*1,ar⟩=ac (aH aU ns[j]):=K 0 À;rw[yR]at e0;have J:=b.tz ns[j];have U:=xe<|HI.o _<|Xk o;have m:aK<|Yc (λ_=>ao) ns d=if b.cQ=aw then(ao,b.eN)else Yc (λ_=>ao) (ns.drop<|j+1) (b.rH ns[j]):=by show _=_;rw[y.o,Zx o];simp only[Yc,ja,if_false]
    clear K;generalize ns[j]=k at*;go_wp2;refine(No C f1 b k [] _ l.o.rt.dS l.o.tw l.o.pE U.o Ä).mono ?_;rintro e w3 hk;rw[J]at hk;have Q:(if b.cQ=aw then(ao,b.eN)else(aw,b.rH k)).1=aw->bK (if b.cQ=aw then(ao,b.eN)else(aw,b.rH k)).2.L<=400000:=λ_=>by cases hs:b.cQ;simp;exact Yx (Nr _ _) l.o.pE;rename_i q;rw[hs]at q;simp at q
    obtain⟨rfl,x,G⟩:=l.o.dQ hk Q;clear hk Q;cases hs:b.cQ
    ·rw[hs,if_neg Ä]at m;rw[hs,if_neg Ä]at x G;obtain⟨f2,h3,h4⟩:=x rfl;have W:=xe (h4.IA l.o.rt.dS D.o Ã);have S:=xe h3;clear x G h3 h4 J;go_wp2;go_roundw
     case rel=>exact⟨j+1,_,f2,À,Å,S.o,W.o,m.o⟩
     case measure=>simp[bP];omega
    rw[hs,if_pos rfl]at m;rw[hs,if_pos rfl]at x G;have z:=xe<|G rfl;rw[<-m.o,<-B.o]at z;clear x G J;go_wp2;go_ret;exact z.o
   obtain rfl:j=aa ns:=À
   have i2:¬(aa ns:Int)<(aa ns:Nat):=À
   have m:aK<|Yc (λ_=>ao) ns d=(aw,b):=by show _=_;rw[y.o,Vl];rfl
   have z:=xe l.o.end;rw[<-m.o,<-B.o]at z;go_wp2;go_ret;exact z.o
end
section
attribute [local go_sem] zn zg Sk
def xa1(d e a)(F:aa d<=4096)(G:aa e<=4096)(H:aa a<=4063)(n:Nat)(I:n<=255)(w)(s:Yq w):
  aG prog 201 #[zs d,zs e,zs a,zi n] w λen w'=>en=ah (zs<|uA (Wu e d) a n)/\aN (ak w.heap) w w':=by
 have r:aK<|Yq w:=s;clear s;have o:=wu e d;go_enter func201.1,Tryz.ntmps201;go_wp2;go_fit (EG e d À À _ r.o);rintro en w1⟨rfl,h⟩;obtain⟨c,f⟩:∃c,Wu e d=c:=⟨_,rfl⟩;have g:aK<|Wu e d=c:=f;rw[f]at o;rw[f];clear f;go_wp2;go_loopw [10,11,12] (λv b q wr=>∃k:Nat,k<=8/\q=zi ((k:Int)+1)/\b=zs (bk c a k)/\v=zs (pK c a k)/\aN (ak w.heap) w wr) (λ_ _ q _=>bB (9-bP q))
 case atStart=>exact⟨0,À,rfl,rfl,rfl,h⟩
 case round=>
  clear h;obtain⟨k,hk,rfl,rfl,rfl,l⟩:=hrel;have D:=Ho c a k;by_cases C:32*k<n
  ·have E:(32*(k:Int))<(n:Nat):=by omega
   have z:=Sv c a k;have p:aK<|bk c a (k+1)=Wu c (bk c a k++(a++[bq<|k+1])):=rfl;have y:aK<|pK c a (k+1)=pK c a k++bk c a (k+1):=rfl;have x:aK<|nb (k+1) 1=[bq<|k+1]:=by show _=_;simp[nb]
   generalize bk c a k=B at*;generalize pK c a k=O at*;have j:=wu c<|B++(a++[bq<|k+1]);go_wp2;go_fit (ub ((k:Int)+1) 1 (k+1) 1 À rfl Ã _);rintro en K⟨rfl,i⟩;rw[x.o];go_wp2;go_fit (EG c (B++(a++[bq<|k+1])) À Æ _<|r.o.fP<|Xs l i);rintro en L⟨rfl,m⟩;rw[<-p.o];rw[<-p.o]at j;go_wp2;go_roundw
   case rel=>exact⟨k+1,À,Å,rfl,by rw[y.o],Xs l<|Xs i m⟩
   grind [bP]
  have E:¬(32*(k:Int))<(n:Nat):=À
  have t:aK<|(pK c a k).take n=uA c a n:=Sy c a n k hk À;generalize pK c a k=O at*;have J:(n:Int)<=(aa O:Nat):=À
  go_wp2;go_ret;exact⟨by rw[g.o,<-t.o];rfl,l⟩
theorem xks(a cap w)(b:Yq w):aG prog 141 #[az a 0 cap] w λen w'=>en=ah (zs<|J9 [])/\aN (ak w.heap) w w':=by have c:aK<|Yq w:=b;clear b;go_enter func141.1,Tryz.ntmps141;go_wp2;go_fit (zG [] Ã _ c.o);rintro en w1⟨rfl,d⟩;go_wp2;go_ret;exact⟨rfl,d⟩
def xt3(a b):lM (nb 1 1++(a++b))=yo a b:=rfl
def xkt(p)(o:aa p<=4095)(g off cap w)(i:Yq w)(j:ae w (zq g off)=ac (zs p)):
  aG prog 141 #[az (ac ⟨g,off,ar⟩) 1 cap] w λen w'=>en=ah (zs<|J9 [p])/\aN (ak w.heap) w w':=by
 have h:aK<|Yq w:=i;clear i;have m:g<ak w.heap:=js j;have n:=Z2 0 1;have k:aK<|lM (nb 0 1++p)=J9 [p]:=by show _=_;rw[xkq];rfl
 have b:aK<|∀c:Zy,aG prog 140 #[zi 0,zi 1] c λe w'=>e=ah (zs<|nb 0 1)/\aN (ak c.heap) c w':=λc=>ub 0 1 0 1 rfl rfl Ã c;generalize nb 0 1=Z at*;go_enter func141.1,Tryz.ntmps141;go_wp2;go_region_with (first
  |(go_at_call 140;go_fit (b.o _);rintro en w1⟨rfl,a⟩;have l:ae w1 (zq g off)=ac (zs p):=(a.cell (p:=zq g off) m).trans j;have d:aK<|Yq w1:=Yq.fP (Yq.Y h.o (Yq.gX h.o) (zt _ _).drew) a)
  |(go_at_call 199;go_fit (zG (Z++p) Â _ d.o);rintro en q⟨rfl,f⟩))
 all_goals go_wp2
 all_goals go_ret
 all_goals exact⟨by rw[<-k.o];rfl,Sh<|Xs a f⟩
def xkr:∀(m:Nat) (L:List Zl),aa L=m->0<m->m<=256->(∀x∈L,aa x<=4095)->∀(g off cap:Nat),m<=cap->∀w:Zy,Yq w->uh w g off L->
  aG prog 141 #[az (ac ⟨g,off,ar⟩) m cap] w λen w'=>en=ah (zs<|J9 L)/\aN (ak w.heap) w w':=by
 intro m;induction m using Nat.strongRecOn with|_ m ih=>
 intro L C h0 S K g off cap T w D c;by_cases t:m=1;subst t;obtain⟨p,rfl⟩:∃p,L=[p]:=List.length_eq_one_iff.1 C;exact xkt p (K p Ä) g off cap w D (c 0 Ä);have f:aK (∀j,j<m->∀(L:List Zl),aa L=j->0<j->j<=256->(∀x∈L,aa x<=4095)->∀(g off cap:Nat),j<=cap->∀w:Zy,Yq w->uh w g off L->
  aG prog 141 #[az (ac ⟨g,off,ar⟩) j cap] w λen w'=>en=ah (zs<|J9 L)/\aN (ak w.heap) w w'):=ih
 have z:aK<|Yq w:=D;have O:aK<|uh w g off L:=c;have R:aK<|∀x∈L,aa x<=4095:=K;have l:aK<|aa L=m:=C;have hg:g<ak w.heap:=js (c 0 À);clear ih D c K C;have n0:¬(m:Int)=0:=À
 have n1:¬(m:Int)=1:=À
 have b0:bI ((m:Int)=0)=ao:=Æ
 have b1:bI ((m:Int)=1)=ao:=Æ
 have n:aK<|∀v:Zy,aG prog 140 #[zi 1,zi 1] v λe w'=>e=ah (zs<|nb 1 1)/\aN (ak v.heap) v w':=λv=>ub 1 1 1 1 rfl rfl Ã v;go_enter func141.1,Tryz.ntmps141;go_wp2;go_loopw [3] (λi wr=>∃k:Nat,k<8/\2^k<m/\i=zi (2^k:Nat)/\wr=w) (λi _=>bB (m-bP i))
 case atStart=>exact⟨0,À,À,rfl,rfl⟩
 case round=>
  obtain⟨k,hk,bb,rfl,rfl⟩:=hrel;have o:aK<|2^(k+1)=2*2^k:=by show _=_;rw[yQ];omega
  have U:0<2^k:=Nat.two_pow_pos k;have ba:k<7\/128<=2^k:=by by_cases h:k<7;omega;grind
  have q:aK<|∀a b:List Zl,aa a=2^k->0<aa b->aa b<=2^k->J9 (a++b)=yo (J9 a) (J9 b):=λa b ha E hb=>xa8 a b k hk ha E hb;by_cases bc:2*2^k<m
  ·generalize 2^k=H at*;have i1:(2*(H:Int))<(m:Nat):=by omega
   go_wp2;go_roundw
   case rel=>exact⟨k+1,À,by rw[o.o];omega,by rw[o.o];go_num,trivial⟩
   grind [bP]
  generalize 2^k=H at*;have i1:¬(2*(H:Int))<(m:Nat):=À
  have i2:(H:Int)<=(cap:Nat):=À
  have i3:(H:Int)<=(m:Nat):=À
  have y:aa (L.take H)=H:=by rw[xf,l.o];omega
  have B:aa (L.drop H)=m-H:=by rw[Zn,l.o]
  have HR:aK<|J9 L=yo (J9<|L.take H) (J9<|L.drop H):=by show _=_;rw[<-q.o _ _ y À À,Gs]
  have I:aK<|∀x∈L.take H,aa x<=4095:=λx M=>R.o x<|Gv M;have J:aK<|∀x∈L.drop H,aa x<=4095:=λx M=>R.o x<|List.mem_of_mem_drop M;have LA:aK<|uh wr g off<|L.take H:=by intro j G;rw[y]at G;have:=O.o j Â;rw[this,List.getElem_take]
  have LB:aK<|uh wr g (off+H)<|L.drop H:=by intro j G;rw[B]at G;have:=O.o (H+j) Â;rw[D',this,List.getElem_drop]
  have ra:=UK (L.take H) À;have rb:=UK (L.drop H) À;have V:aK<|aa (L.take H)=H:=y;have W:aK<|aa (L.drop H)=m-H:=B;clear y B;generalize L.take H=X at*;generalize L.drop H=Y at*;have i4:(m:Int)<=(cap:Nat):=À
  go_wp2;go_fit (f.o H À X V.o À À I.o g off cap À _ z.o LA.o);rintro en w1⟨rfl,d⟩;go_wp2;go_fit (f.o (m-H) À Y W.o À À J.o g (off+H) (cap-H) À _ (z.o.fP d)<|LB.o.Y hg d);rintro en w2⟨rfl,r⟩;generalize J9 X=P at*;generalize J9 Y=Q at*;have bd:=Z2 1 1;have HN:aK<|lM (nb 1 1++(P++Q))=yo P Q:=xt3 P Q;generalize nb 1 1=Z at*;go_wp2;go_fit (n.o _);rintro en w3⟨rfl,s⟩;go_wp2;go_fit (zG (Z++(P++Q)) Ë _<|z.o.fP<|Xs d<|Xs r s);rintro en w4⟨rfl,F⟩;go_wp2;go_ret;exact⟨by rw[HR.o,<-HN.o];rfl,Xs d<|Xs r<|Xs s F⟩
end
section
section
variable {t:Zt}
def Nt(a):IntKind.i64.wrap (e8 a)=e8 a:=by have b:=rV a;have c:=sC a;grind [zh]
def Dm(a b):kf .xor aU (e8 a) (e8 b)=e8 (a^^^b):=by
 show IntKind.i64.wrap ((cX 64 (aI a:Int)^^^cX 64 (aI b:Int)).toNat:Int)=_;have c:cX 64 (aI a:Int)=BitVec.ofNat 64 (aI a):=Ä
 have d:cX 64 (aI b:Int)=BitVec.ofNat 64 (aI b):=Ä
 have f:=a.toNat_lt;have g:=b.toNat_lt;have e:(BitVec.ofNat 64 (aI a)^^^BitVec.ofNat 64 (aI b)).toNat=aI (a^^^b):=by rw[BitVec.toNat_xor,DZ,DZ,Jd À,Jd À];simp
 rw[c,d,e];exact Nt<|a^^^b
def VB(a):kf .xor aU (e8 a) 99=e8 (a^^^99):=Dm a 99
def ki(f:Zu)(n:Nat):Ze:=(gO n).map λi=>aH aU (e8<|f i)
theorem IK(f n):aa (ki f n)=n:=by simp[ki]
def uI(f n):ak (ki f n).toArray=n:=by simp[ki]
def U3(f n i)(h:i<n):(ki f n)[i]?=ac (zi<|e8<|f i):=by simp[ki,h]
def xyl(f n i)(h:i<n):(ki f n).toArray[i]?=ac (zi<|e8<|f i):=by simp[ki,h]
def IL(f n):(ki f n).toArray.all (·.oneCell')=aw:=by rw[jn];intro v a;simp only[ki,GD,Xe]at a;obtain⟨i,_,rfl⟩:=a;rfl
theorem xob{f g n}(h:∀i,i<n->f i=g i):ki f n=ki g n:=by grind [ki,W6]
theorem xym(f n k v):(ki f n).set k (zi<|e8 v)=ki (λi=>if i=k then v else f i) n:=by apply Ye;grind [ki]
def xtg(f n k v):ay (ki f n).toArray k (zi<|e8 v)=aV (ki (λi=>if i=k then v else f i) n):=by grind [xym]
def Jp(w:Zy)(b:Nat)(f:Zu)(n:Nat)(t:Zt):Prop:=w.heap[b]?=ac (aq (aV (ki f n)) t (0,0))
def Jp.i{w b n k f}(h:Jp w b f n t)(hk:k<n):ae w (zq b k)=ac (zi<|e8<|f k):=by rw[xb _ _ _ _ _ _ h,xyl _ _ _ hk]
def Jp.ee{w b n k f}(h:Jp w b f n t):aQ w (zq b k)=ao:=xt _ _ _ _ _ h
theorem Jp.bR{w b n f g}(h:Jp w b f n t)(e:∀i,i<n->f i=g i):Jp w b g n t:=by grind [Jp,xob]
theorem Jp.H{w b n f}(h:Jp w b f n t)(k v):Jp (ai w (zq b k)<|zi<|e8 v) b (λi=>if i=k then v else f i) n t:=by unfold Jp at*;rw[jx _ _ _ _ _ _ h,xtg]
def Jp.dE{w b a n k f v}(h:Jp w b f n t)(c:b≠a):Jp (ai w (zq a k) v) b f n t:=by grind [Jp,jj]
def Jp.Y{w w' B b n f}(h:Jp w b f n t)(c:aN B w w')(a:b<B):Jp w' b f n t:=(c.block _ a).trans h
attribute [local go_sem] Dm VB
def jc6:∀x:Z8,128<=aI x->kf .xor aU (2*e8 x) 283=e8 (mt x):=xZ È
def jc7:∀x:Z8,¬128<=aI x->2*e8 x=e8 (mt x):=xZ È
def IG(x w):aG prog 277 #[zi<|e8 x] w λen w'=>en=ah (zi<|e8<|mt x)/\w'=w:=by
 have l:=rV x;have u:=sC x;have c:IntKind.i64.wrap (2*e8 x)=2*e8 x:=É
 by_cases h:128<=aI x
 ·have b:(255:Int)<2*e8 x:=by simp only[e8];omega
  have a:=jc6 x h;go_enter func277.1,Tryz.ntmps277;go_wp2;go_ret;simp
 have b:¬(255:Int)<2*e8 x:=by simp only[e8];omega
 have a:aK<|2*e8 x=e8 (mt x):=jc7 x h;go_enter func277.1,Tryz.ntmps277;go_wp2;go_ret;exact⟨by rw[<-a.o];rfl,rfl⟩
def pD(a b c d:Z8):Z8:=mt a^^^mt b^^^b^^^c^^^d
def II(a b c d w):aG prog 278 #[zi<|e8 a,zi<|e8 b,zi<|e8 c,zi<|e8 d] w λen w'=>en=ah (zi<|e8<|pD a b c d)/\w'=w:=by go_enter func278.1,Tryz.ntmps278;go_wp2;refine(IG a _).mono ?_;rintro en w1⟨rfl,rfl⟩;go_wp2;refine(IG b _).mono ?_;rintro en w1⟨rfl,rfl⟩;go_wp2;go_ret;exact⟨rfl,rfl⟩
def wP(k j:Nat):Z8:=if j<k then Pw j else 0
def uG:Nat->Nat->Z8
 |0,_=>0|k+1,j=>if j=aI (Pw k) then ku k else uG k j
def Lt:Zl:=[0,0,25,1,50,2,26,198,75,199,27,104,51,238,223,3,100,4,224,14,52,141,129,239,76,113,8,200,248,105,28,193,125,194,29,181,249,185,39,106,77,228,166,114,154,201,9,120,101,47,138,5,33,15,225,36,18,240,130,69,53,147,218,142,150,143,219,189,54,208,206,148,19,92,210,241,64,70,131,56,102,221,253,48,191,6,139,98,179,37,226,152,34,136,145,16,126,110,72,195,163,182,30,66,58,107,40,84,250,133,61,186,43,121,10,21,155,159,94,202,78,212,172,229,243,115,167,87,175,88,168,80,244,234,214,116,79,174,233,213,231,230,173,232,44,215,117,122,235,22,11,245,89,203,95,176,156,169,81,160,127,12,246,111,23,196,73,236,216,67,31,45,164,118,123,183,204,187,62,90,251,96,177,134,59,82,161,108,170,85,41,157,151,178,135,144,97,190,220,252,188,149,207,205,55,63,91,209,83,57,132,60,65,162,109,71,20,42,158,93,86,242,211,171,68,17,146,217,35,32,46,137,180,124,184,38,119,153,227,165,103,74,237,222,197,49,254,24,13,99,140,128,192,247,112,7]
def zW:Nat->Zl
 |0=>bD 256 0|k+1=>(zW k).set (aI (Pw k))<|UInt8.ofNat k
theorem UX:∀k,aa (zW k)=256
 |0=>by grind [zW]|k+1=>by rw[zW,List.length_set,UX k]
theorem xtk:zW 255=Lt:=È
theorem U4:∀k j,j<256->uG k j=(zW k).getD j 0
 |0,j,h=>by grind [uG,zW]|k+1,j,h=>by rw[uG,zW];by_cases e:j=aI (Pw k);grind [UX];rw[if_neg e,U4 k j h];grind
def xyn(j)(h:j<256):uG 255 j=Lt.getD j 0:=by grind [U4,xtk]
def Nn(a:Nat):Z8:=if a=0 then 0 else Pw ((255-aI (Lt.getD a 0))%255)
def xyh(a)(h:a<256):He (Nn a)=Sn a:=(by decide+kernel:∀a:Fin 256,He (Nn a.val)=Sn a.val) ⟨a,h⟩
def jbs(a)(h:a<256):aI (Lt.getD a 0)<255:=(by decide+kernel:∀a:Fin 256,(Lt.getD a.val 0).toNat<255) ⟨a,h⟩
def tC(b:Z8):Nat->Z8
 |0=>b|1=>b^^^nZ b 1
 |2=>b^^^nZ b 1^^^nZ b 2|3=>b^^^nZ b 1^^^nZ b 2^^^nZ b 3
 |_=>b^^^nZ b 1^^^nZ b 2^^^nZ b 3^^^nZ b 4
def xzh:∀b:Z8,kf .and aU (kf .or aU (e8 b*2)<|e8 b/128) 255=e8 (nZ b 1):=xZ È
def xzi:∀b:Z8,kf .and aU (kf .or aU (e8 b*4)<|e8 b/64) 255=e8 (nZ b 2):=xZ È
def xzj:∀b:Z8,kf .and aU (kf .or aU (e8 b*8)<|e8 b/32) 255=e8 (nZ b 3):=xZ È
def xzk:∀b:Z8,kf .and aU (kf .or aU (e8 b*16)<|e8 b/16) 255=e8 (nZ b 4):=xZ È
def wR:Za:=bV 256<|aH aU 0
def IB:Za:=bV 255<|aH aU 0
def UW:((prog.info? 318).map λi=>(i.zero,i.size))=ac (ac<|bM wR,256):=Á
def xtc:((prog.info? 350).map λi=>(i.zero,i.size))=ac (ac<|bM IB,255):=Á
def NG:(prog.info? 318).map (·.size)=ac 256:=Á
def NC(n):bV n (zi 0)=aV (ki zF n):=by apply Vn;intro i;rw[Array.getElem?_replicate,Jz];by_cases h:i<n;rw[if_pos h,U3 _ _ _ h];rfl;grind [IK]
def Ny:wR=aV (ki zF 256):=NC 256
def xrf:IB=aV (ki zF 255):=NC 255
end
end
section
attribute [local go_sem] Dm VB
structure BI(w:Zy)(p lg:Zu)(wr:Zy):Prop where
 eR:aN (ak w.heap) w wr
 sz:ak wr.heap=ak w.heap+1+1+1
 b0:Jp wr (ak w.heap) zF 256 318
 b1:Jp wr (ak w.heap+1) p 255 350
 b2:Jp wr (ak w.heap+1+1) lg 256 318
def BI.fI(w):BI w zF zF<|aB (aB (aB w<|aq wR 318)<|aq IB 350)<|aq wR 318:=by
 rw[Ny,xrf];refine⟨(((zt _ _).alloc (zd _) _).alloc Ä _).alloc Æ _,Ä, ?_, ?_, ?_⟩;all_goals (show(((w.heap.push _).push _).push _)[_]?=_)
 all_goals (simp only[jb,Xi])
 grind;grind;grind
def BI.E7{w b p a}(h:BI w p a b)(k v):BI w (λi=>if i=k then v else p i) a<|ai b (zq (ak w.heap+1) k)<|zi<|e8 v:=
 ⟨h.eR.setCell Â _,Ï,h.b0.dE À,h.b1.H k v,h.b2.dE À⟩
def BI.vd{w b p a}(h:BI w p a b)(k v):BI w p (λi=>if i=k then v else a i)<|ai b (zq (ak w.heap+1+1) k)<|zi<|e8 v:=
 ⟨h.eR.setCell Â _,Ï,h.b0.dE À,h.b1.dE À,h.b2.H k v⟩
theorem BI.bR{w d p b c a}(h:BI w p b d)(e:∀i,i<255->p i=c i)(f:∀i,i<256->b i=a i):BI w c a d:=⟨h.eR,h.sz,h.b0,h.b1.bR e,h.b2.bR f⟩
def Bu(k j:Nat):Z8:=if j<k then Sn j else 0
structure rK(w:Zy)(g k:Nat)(wr:Zy):Prop where
 eR:aN (ak w.heap) w wr
 gg:g=ak w.heap+1+1+1
 b0:Jp wr (ak w.heap) zF 256 318
 b1:Jp wr (ak w.heap+1) (wP 255) 255 350
 b2:Jp wr (ak w.heap+1+1) (uG 255) 256 318
 b3:Jp wr g (Bu k) 256 318
def rK.fg{w a g k}(h:rK w g k a)(n):rK w g k<|a.drewN n:=⟨below_drewN h.eR _,h.gg,h.b0,h.b1,h.b2,h.b3⟩
theorem rK.H{w a g k}(h:rK w g k a)(hk:k<256):rK w g (k+1)<|ai a (zq g k)<|zi<|e8<|Sn k:=by have b:=h.gg;refine⟨h.eR.setCell Â _,h.gg,h.b0.dE À,h.b1.dE À,h.b2.dE À,(h.b3.H k<|Sn k).bR λi _=>?_⟩;grind [Bu]
def BI.Br{w a}(h:BI w (wP 255) (uG 255) a):rK w (ak a.heap) 0<|aB a<|aq wR 318:=by have c:=h.sz;have b:aN (ak a.heap) a<|aB a<|aq wR 318:=(zt _ _).alloc (zd _) _;refine⟨h.eR.alloc h.eR.size _,c,h.b0.Y b À,h.b1.Y b À,h.b2.Y b À, ?_⟩;rw[Ny];exact xn a _
def xi8(w):aG prog 247 #[] w λen w'=>en=ah (bM (aV (ki Sn 256)))/\aN (ak w.heap) w w':=by
 have U:=(zero_of_info UW).1;have T:=(zero_of_info xtc).1;have n:=BI.fI w;have B:aK<|∀wr,BI w (wP 255) (uG 255) wr->rK w (ak wr.heap) 0 (aB wr<|aq wR 318):=λwr h=>h.Br;generalize wR=zz6 at*;generalize IB=zz5 at*;go_enter func247.1,Tryz.ntmps247;go_wp2;go_loopw [3,4] (λx i wr=>∃k:Nat,k<=255/\i=zi k/\x=zi (e8<|Pw k)/\BI w (wP k) (uG k) wr) (λ_ i _=>bB (255-bP i))
 case atStart=>exact⟨0,À,rfl,rfl,n⟩
 case round=>
  clear n T;obtain⟨k,hk,rfl,rfl,inv⟩:=hrel;have S:=inv.sz;by_cases a:k<255
  ·have i1:(k:Int)<255:=by omega
   have HP:aK<|Pw (k+1)=Pw k^^^mt (Pw k):=So k a;have o:aK<|BI w (wP<|k+1) (uG<|k+1)<|ai (ai wr (zq (ak w.heap+1) k)<|zi<|e8<|Pw k) (zq (ak w.heap+1+1)<|bB (e8<|Pw k))<|zi k:=by
    have R:(k:Int)=e8 (ku k):=by simp[e8];omega
    rw[R,C0];refine((inv.E7 k<|Pw k).vd _<|UInt8.ofNat k).bR (λi _=>?_) λi _=>rfl;unfold wP;by_cases e:i=k;grind;grind
   have C:ae wr (zq (ak w.heap+1) k)=ac (zi<|e8<|wP k k):=inv.b1.i a;have M:aQ wr (zq (ak w.heap+1) k)=ao:=inv.b1.ee;have d:=inv.E7 k<|Pw k;have G:bB (e8<|Pw k)<256:=by rw[C0];exact(Pw k).toNat_lt
   have X:ae (ai wr (zq (ak w.heap+1) k)<|zi<|e8<|Pw k) (zq (ak w.heap+1+1)<|bB (e8<|Pw k))=ac (zi<|e8<|uG k (bB (e8<|Pw k))):=d.b2.i G;have f2:aQ (ai wr (zq (ak w.heap+1) k)<|zi<|e8<|Pw k) (zq (ak w.heap+1+1)<|bB (e8<|Pw k))=ao:=d.b2.ee;have p0:=rV<|Pw k;have p1:=sC<|Pw k;clear inv d G;generalize wP k k=z1 at*;generalize uG k (bB (e8<|Pw k))=z2 at*;generalize Pw k=x at*;go_upto_region 8 with fail
   clear C M;generalize ai wr (zq (ak w.heap+1) k) (zi<|e8 x)=wa at*;go_wp2;refine(IG x _).mono ?_;rintro en w2⟨rfl,rfl⟩;go_wp2;go_roundw
   case rel=>exact⟨k+1,À,Å,by rw[HP.o],o.o⟩
   grind [bP]
  obtain rfl:k=255:=À
  have f:=B.o wr inv;clear inv B hk a S;go_wp2;generalize hw3:aB wr (aq zz6 318)=w3 at*;clear hw3;obtain⟨g,Z⟩:∃g,ak wr.heap=g:=⟨_,rfl⟩;rw[Z]at f⊢;clear Z U;go_loopw [6] (λi wr=>∃k:Nat,k<=256/\i=zi k/\rK w g k wr) (λi _=>bB (256-bP i))
  case atStart=>exact⟨0,À,rfl,f⟩
  case round=>
   clear f;obtain⟨k,hk,rfl,inv⟩:=hrel;by_cases a:k<256
   ·have i1:(k:Int)<256:=by omega
    have hd:bI ((k:Int)<256)=aw:=jm i1;by_cases j:k=0
    ·have i2:¬(0:Int)<(k:Int):=by omega
     have L:aK<|k=0:=j;clear j;have c:aK<|rK w g k wr:=inv;have z1:kf .or aU 0 0=0:=È
     have z2:kf .and aU 0 255=0:=È
     have z3:kf .xor aU 0 0=0:=È
     have z4:kf .xor aU 0 99=99:=È
     clear inv;go_wp2;try rw[hd]
     go_loopw [8,9] (λs i wq=>∃m:Nat,1<=m/\m<=5/\i=zi m/\s=zi 0/\rK w g k wq) (λ_ i _=>bB (5-bP i))
     case atStart=>exact⟨1,À,À,rfl,rfl,c.o⟩
     case round=>
      clear c;obtain⟨m,m1,m5,rfl,rfl,inv⟩:=hrel;have c:aK<|rK w g k wr:=inv;by_cases hm:m<5
      ·obtain rfl|rfl|rfl|rfl:m=1\/m=2\/m=3\/m=4:=by omega
       ·clear inv;go_wp2;go_quiet (fail);go_wp2;go_roundw
        case rel=>exact⟨2,À,À,Å,rfl,c.o.fg _⟩
        case measure=>simp[bP]
       ·clear inv;go_wp2;go_quiet (fail);go_wp2;go_roundw
        case rel=>exact⟨3,À,À,Å,rfl,c.o.fg _⟩
        case measure=>simp[bP]
       ·clear inv;go_wp2;go_quiet (fail);go_wp2;go_roundw
        case rel=>exact⟨4,À,À,Å,rfl,c.o.fg _⟩
        case measure=>simp[bP]
       clear inv;go_wp2;go_quiet (fail);go_wp2;go_roundw
       case rel=>exact⟨5,À,À,Å,rfl,c.o.fg _⟩
       case measure=>simp[bP]
      obtain rfl:m=5:=À
      have C:ae wr (zq g k)=ac (zi<|e8<|Bu k k):=inv.b3.i À;have M:aQ wr (zq g k)=ao:=inv.b3.ee;have o:=inv.H À;have p:aK<|rK w g (k+1)<|ai wr (zq g k)<|zi<|e8<|Sn k:=o;have O:e8 (Sn k)=99:=by rw[L.o];rfl
      rw[O]at p;clear o inv c;generalize Bu k k=z at*;go_wp2;go_roundw
      case rel=>first|exact⟨k+1,À,Å,p.o⟩|((repeat apply lU);exact⟨⟨k+1,À,Å,p.o⟩,rfl⟩)
      case measure=>simp[bP];omega
    have i2:(0:Int)<(k:Int):=À
    obtain⟨l,J⟩:∃l,Lt.getD k 0=l:=⟨_,rfl⟩;obtain⟨q,hq⟩:∃q,(255-aI l)%255=q:=⟨_,rfl⟩;obtain⟨b,Y⟩:∃b,Nn k=b:=⟨_,rfl⟩;have l5:aI l<255:=by rw[<-J];exact jbs k a
    have el:e8 l<255:=by simp only[e8];omega
    have l0:=rV l;have D:IntKind.i64.wrap (255-e8 l)=255-e8 l:=É
    have et:(255-e8 l).tmod 255=(q:Nat):=by rw[qo À];simp only[e8];omega
    have W:q<255:=À
    have q6:(q:Int)<255:=À
    have C:ae wr (zq (ak w.heap+1+1) k)=ac (zi<|e8 l):=by rw[inv.b2.i a,xyn k a,J]
    have X:ae wr (zq (ak w.heap+1) q)=ac (zi<|e8 b):=by
     rw[inv.b1.i W];have e:wP 255 q=b:=by rw[<-Y];unfold wP Nn;rw[if_pos W,if_neg j,J,hq]
     rw[e]
    have b0:=rV b;have b1:=sC b;have c:aK<|rK w g k wr:=inv;clear inv J hq j;go_wp2;try rw[hd]
    clear C X D et W q6 el l0 l5;go_loopw [8,9] (λs i wq=>∃m:Nat,1<=m/\m<=5/\i=zi m/\s=zi (e8<|tC b<|m-1)/\rK w g k wq) (λ_ i _=>bB (5-bP i))
    case atStart=>exact⟨1,À,À,rfl,rfl,c.o⟩
    case round=>
     clear c;obtain⟨m,m1,m5,rfl,rfl,inv⟩:=hrel;have c:aK<|rK w g k wr:=inv;by_cases hm:m<5
     ·obtain rfl|rfl|rfl|rfl:m=1\/m=2\/m=3\/m=4:=by omega
      ·have r:=xzh b;have D:IntKind.i64.wrap (e8 b*2)=e8 b*2:=by rw[zh]<;>omega
       have t:aK<|tC b (1-1)^^^nZ b 1=tC b (2-1):=rfl;clear inv;generalize tC b (1-1)=x at*;go_wp2;go_quiet (fail);go_wp2;go_roundw
       case rel=>exact⟨2,À,À,Å,by rw[<-t.o],c.o.fg _⟩
       case measure=>simp[bP]
      ·have r:=xzi b;have D:IntKind.i64.wrap (e8 b*4)=e8 b*4:=by rw[zh]<;>omega
       have t:aK<|tC b (2-1)^^^nZ b 2=tC b (3-1):=rfl;clear inv;generalize tC b (2-1)=x at*;go_wp2;go_quiet (fail);go_wp2;go_roundw
       case rel=>exact⟨3,À,À,Å,by rw[<-t.o],c.o.fg _⟩
       case measure=>simp[bP]
      ·have r:=xzj b;have D:IntKind.i64.wrap (e8 b*8)=e8 b*8:=by rw[zh]<;>omega
       have t:aK<|tC b (3-1)^^^nZ b 3=tC b (4-1):=rfl;clear inv;generalize tC b (3-1)=x at*;go_wp2;go_quiet (fail);go_wp2;go_roundw
       case rel=>exact⟨4,À,À,Å,by rw[<-t.o],c.o.fg _⟩
       case measure=>simp[bP]
      have r:=xzk b;have D:IntKind.i64.wrap (e8 b*16)=e8 b*16:=É
      have t:aK<|tC b (4-1)^^^nZ b 4=tC b (5-1):=rfl;clear inv;generalize tC b (4-1)=x at*;go_wp2;go_quiet (fail);go_wp2;go_roundw
      case rel=>exact⟨5,À,À,Å,by rw[<-t.o],c.o.fg _⟩
      case measure=>simp[bP]
     obtain rfl:m=5:=À
     have C:ae wr (zq g k)=ac (zi<|e8<|Bu k k):=inv.b3.i À;have M:aQ wr (zq g k)=ao:=inv.b3.ee;have o:=inv.H À;have p:aK<|rK w g (k+1)<|ai wr (zq g k)<|zi<|e8<|Sn k:=o;have O:Sn k=tC b 4^^^99:=by rw[<-xyh k a,Y];rfl
     rw[O]at p;clear o inv c;generalize Bu k k=z at*;go_wp2;go_roundw
     case rel=>first|exact⟨k+1,À,Å,p.o⟩|((repeat apply Exists.intro);exact⟨⟨k+1,À,Å,p.o⟩,rfl⟩)
     case measure=>simp[bP];omega
   obtain rfl:k=256:=À
   have F:=(inv.b3.bR (g:=Sn) λi I=>by unfold Bu;simp_all);have y:=inv.b0;have E:=inv.eR;unfold Jp at F y;have I:(prog.info? 318).map (·.size)=ac (ak (ki Sn 256).toArray):=by rw[uI];exact NG
   have h1:=IL Sn 256;have V:ak (ki zF 256).toArray=ak (ki Sn 256).toArray:=by rw[uI,uI]
   have H:(wr.setRow (ak w.heap) (aV (ki Sn 256))).heap[ak w.heap]?=ac (aq (aV (ki Sn 256)) 318 (0,0)):=Jr _ _ _ _ _ _ y;have Q:=Be (b:=ak w.heap) (aV (ki Sn 256)) E À;clear inv hk a;generalize hKK:aV (ki Sn 256)=K at*;have HK:aK<|aV (ki Sn 256)=K:=hKK;clear hKK;go_wp2_with (first|refine J6 rfl 318 _ rfl g rfl 318 _ (0,0) _ F kj rfl I ?_|refine Zo rfl 318 _ _ rfl w.heap.size _ rfl rfl 318 _ y I V h1 ?_);exact ji (v:=bM K) (Jf rfl _ _ (ak w.heap) 318 _ (0,0) _ rfl H kj rfl I) rfl ⟨by rw[<-HK.o],Q⟩
end
section
attribute [local go_sem] Dm zn
theorem U2(f c i)(h:i<4):kn f c i=ve f c i^^^f i:=by grind [LP]
theorem U1(f c i):kn f c (i+4)=kn f c i^^^f (i+4):=by grind [LP]
def hU(key:Zu)(j:Nat):Z8:=jI key (j/16)<|j%16
def uH(key:Zu)(n k:Nat):Z8:=if n%16=0 then ve (jI key<|n/16-1) (qZ<|n/16-1) k else hU key (n-4+k)
def xp1(key n k)(c:n%4=0)(a:16<=n)(hk:k<4):hU key (n-16+k)^^^uH key n k=hU key (n+k):=by obtain⟨r,b⟩:∃r,n/16-1=r:=⟨_,rfl⟩;unfold uH hU;rw[b,show(n+k)/16=r+1 by omega,show(n+k)%16=n%16+k by omega,show(n-16+k)/16=r by omega,show(n-16+k)%16=n%16+k by omega];show _=kn (jI key r) (qZ r) (n%16+k);by_cases h:n%16=0;grind [U2];rw[if_neg h,show n%16+k=(n%16-4+k)+4 by omega,U1,show(n-4+k)/16=r+1 by omega,show(n-4+k)%16=n%16-4+k by omega,UInt8.xor_comm];rfl
def wK(key:Zu)(n j:Nat):Z8:=if j<n then hU key j else 0
structure SI(w:Zy)(f2:Zu)(wr:Zy):Prop where
 eR:aN (ak w.heap) w wr
 sz:ak w.heap+1+1<ak wr.heap
 b0:Jp wr (ak w.heap) Sn 256 318
 b1:Jp wr (ak w.heap+1) zF 176 320
 b2:Jp wr (ak w.heap+1+1) f2 176 320
def SI.fI(w):SI w zF<|aB (aB (aB w<|aq (aV (ki Sn 256)) 318)<|aq (aV (ki zF 176)) 320)<|aq (aV (ki zF 176)) 320:=by
 refine⟨(((zt _ _).alloc (zd _) _).alloc Ä _).alloc Æ _,Ä, ?_, ?_, ?_⟩;all_goals (show(((w.heap.push _).push _).push _)[_]?=_)
 all_goals (simp only[jb,Xi])
 grind;grind;grind
def SI.U{w a f2}(h:SI w f2 a):SI w f2 a.drew:=⟨h.eR.drew,h.sz,h.b0,h.b1,h.b2⟩
def SI.fP{w b w' f2}(h:SI w f2 b)(a:aN (ak b.heap) b w'):SI w f2 w':=
 have c:=h.sz
 ⟨h.eR.trans<|a.mono h.eR.size,zm h.sz a.size,h.b0.Y a À,h.b1.Y a À,h.b2.Y a À⟩
theorem SI.H{w a f2}(h:SI w f2 a)(k v):SI w (λi=>if i=k then v else f2 i)<|ai a (zq (ak w.heap+1+1) k)<|zi<|e8 v:=
 ⟨h.eR.setCell Â _,Ï,h.b0.dE À,h.b1.dE À,h.b2.H k v⟩
theorem SI.put{w a f2}(h:SI w f2 a)(g)(b:ak w.heap+1+1<g)(k v):SI w f2<|ai a (zq g k) v:=
 ⟨h.eR.setCell Â _,Ï,h.b0.dE À,h.b1.dE À,h.b2.dE À⟩
theorem SI.bR{w a f2 f3}(h:SI w f2 a)(e:∀i,i<176->f2 i=f3 i):SI w f3 a:=⟨h.eR,h.sz,h.b0,h.b1,h.b2.bR e⟩
def UZ(key n i):(if i=n then hU key n else wK key n i)=wK key (n+1) i:=by grind [wK]
def Fb:Za:=bV 176<|aH aU 0
def UV:((prog.info? 320).map λi=>(i.zero,i.size))=ac (ac<|bM Fb,176):=Á
def NE:(prog.info? 320).map (·.size)=ac 176:=Á
def UU:Fb=aV (ki zF 176):=NC 176
def Jp.drw{w b n f}{t:Zt}(h:Jp w b f n t):Jp w.drew b f n t:=h
def Jp.o5{w g}{t:Zt}(h:Jp w g Sn 256 t)(x):ae w (zq g<|bB (e8 x))=ac (zi<|e8<|Sx x):=by rw[C0,h.i x.toNat_lt,Sq]
theorem zxi(l)(hl:aa l=16)(w):aG prog 248 #[zs l,bM (aV (ki Sn 256))] w λen w'=>en=ah (bM (aV (ki (hU λi=>l.getD i 0) 176)))/\aN (ak w.heap) w w':=by
 have hz:=(zero_of_info UV).1;have t:=SI.fI w;rw[<-UU]at t;generalize Fb=zz at*;go_enter func248.1,Tryz.ntmps248;go_wp2;go_loopw [6] (λi wr=>∃k:Nat,k<=16/\i=zi k/\SI w (wK (λi=>l.getD i 0) k) wr) (λi _=>bB (16-bP i))
 case atStart=>exact⟨0,À,rfl,t⟩
 case round=>
  clear t hz;obtain⟨k,hk,rfl,inv⟩:=hrel;have s:=inv.sz;by_cases H:k<16
  ·have i1:(k:Int)<16:=by omega
   have i2:(k:Int)<(aa l:Nat):=À
   have i3:(k:Int)<176:=À
   have O:k<aa l:=À
   obtain⟨a,ha⟩:∃a,(st l)[k]'(by rw[zn];exact O)=a:=⟨_,rfl⟩;have ew:IntKind.i64.wrap (aI a:Int)=(aI a:Int):=Nt a;have c1:ae wr (zq (ak w.heap+1+1) k)=ac (zi<|e8<|wK (λi=>l.getD i 0) k k):=inv.b2.i À;have f1:aQ wr (zq (ak w.heap+1+1) k)=ao:=inv.b2.ee;have I:aK<|SI w (wK (λi=>l.getD i 0)<|k+1)<|ai wr (zq (ak w.heap+1+1) k)<|zi (aI a):=by
    refine(inv.H k a).bR λi _=>?_;have e:hU (λi=>l.getD i 0) k=a:=by unfold hU;rw[show k/16=0 by omega,show k%16=k by omega,<-ha];show l.getD k 0=l[k];simp[List.getD,O]
    rw[<-e];exact UZ _ k i
   clear inv;generalize wK (λi=>l.getD i 0) k k=z at*;go_wp2;go_roundw
   case rel=>first|exact⟨k+1,À,Å,I.o⟩|((repeat apply Exists.intro);exact⟨⟨k+1,À,Å,I.o⟩,rfl⟩)
   case measure=>simp[bP];omega
  obtain rfl:k=16:=À
  clear hk H s;generalize hkey:(λi=>l.getD i 0)=key at*;have ba:aK<|(λi=>l.getD i 0)=key:=hkey;clear hkey;go_wp2;go_loopw [7,8] (λco i wr=>∃n:Nat,16<=n/\n<=176/\n%4=0/\i=zi n/\co=zi (e8<|qZ<|(n-1)/16)/\SI w (wK key n) wr) (λ_ i _=>bB (176-bP i))
  case atStart=>exact⟨16,À,À,À,rfl,rfl,inv⟩
  case round=>
   clear inv;obtain⟨n,Q,hn,R,rfl,rfl,inv⟩:=hrel;have s:=inv.sz;by_cases H:n<176
   ·obtain⟨m,hm⟩:∃m,n-4=m:=⟨_,rfl⟩;have i1:(n:Int)<176:=by omega
    have hd:bI ((n:Int)<176)=aw:=jm i1;have e4:IntKind.i64.wrap ((n:Int)-4)=(m:Int):=É
    have e3:IntKind.i64.wrap ((n:Int)-3)=(m:Int)+1:=É
    have e2:IntKind.i64.wrap ((n:Int)-2)=(m:Int)+2:=É
    have e1:IntKind.i64.wrap ((n:Int)-1)=(m:Int)+3:=É
    have m0:(m:Int)<176:=À
    have m1:(m:Int)+1<176:=À
    have m2:(m:Int)+2<176:=À
    have m3:(m:Int)+3<176:=À
    have n1:(0:Int)<=(m:Int)+1:=À
    have n2:(0:Int)<=(m:Int)+2:=À
    have n3:(0:Int)<=(m:Int)+3:=À
    have t1:bB ((m:Int)+1)=m+1:=À
    have t2:bB ((m:Int)+2)=m+2:=À
    have t3:bB ((m:Int)+3)=m+3:=À
    obtain⟨j,T⟩:∃x,hU key m=x:=⟨_,rfl⟩;obtain⟨o,U⟩:∃x,hU key (m+1)=x:=⟨_,rfl⟩;obtain⟨q,V⟩:∃x,hU key (m+2)=x:=⟨_,rfl⟩;obtain⟨r,W⟩:∃x,hU key (m+3)=x:=⟨_,rfl⟩;have HS:aK<|∀w',SI w (wK key n) w'->ae w' (zq (ak w.heap+1+1) m)=ac (zi<|e8 j)/\ae w' (zq (ak w.heap+1+1)<|m+1)=ac (zi<|e8 o)/\ae w' (zq (ak w.heap+1+1)<|m+2)=ac (zi<|e8 q)/\ae w' (zq (ak w.heap+1+1)<|m+3)=ac (zi<|e8 r):=λw' h=>⟨by rw[h.b2.i À];unfold wK;rw[if_pos À,T],by rw[h.b2.i À];unfold wK;rw[if_pos À,U],by rw[h.b2.i À];unfold wK;rw[if_pos À,V],by rw[h.b2.i À];unfold wK;rw[if_pos À,W]⟩;have J:aK<|SI w (wK key n) wr:=inv;have S0:=HS.o wr inv;have F:aK<|∀k,k<4->(λk=>if k=0 then j else if k=1 then o else if k=2 then q else r) k=hU key (n-4+k):=λk hk=>by
     obtain rfl|rfl|rfl|rfl:k=0\/k=1\/k=2\/k=3:=À
     simp_all;simp_all;simp_all;simp_all
    have HA:aK<|∀Z,SI w (wK key n) (aB wr Z).drew:=λZ=>(J.o.fP<|(zt _ _).alloc (zd _) Z).U;have S1:=λZ=>HS.o _<|HA.o Z;clear inv T U V W hm;go_wp2;go_region_held3 (λw'=>ae w' (zq (ak w.heap+1+1) m)=ac (zi<|e8 j)/\ae w' (zq (ak w.heap+1+1)<|m+1)=ac (zi<|e8 o)/\ae w' (zq (ak w.heap+1+1)<|m+2)=ac (zi<|e8 q)/\ae w' (zq (ak w.heap+1+1)<|m+3)=ac (zi<|e8 r)) (first|exact S0|exact S1 _) (fail);have f:=HA.o<|aq #[zi<|e8 j,zi<|e8 o,zi<|e8 q,zi<|e8 r] 351;have d:Jp (aB wr<|aq #[zi<|e8 j,zi<|e8 o,zi<|e8 q,zi<|e8 r] 351).drew (ak wr.heap) (λk=>if k=0 then j else if k=1 then o else if k=2 then q else r) 4 351:=xn wr<|aq #[zi<|e8 j,zi<|e8 o,zi<|e8 q,zi<|e8 r] 351;clear S0 S1 HA HS J e1 e2 e3 e4 m0 m1 m2 m3 n1 n2 n3 t1 t2 t3;generalize(aB wr<|aq #[zi<|e8 j,zi<|e8 o,zi<|e8 q,zi<|e8 r] 351).drew=w3 at*;generalize ak wr.heap=g at*;by_cases hr:n%16=0;focus
     have er:((n:Int)%16==0)=aw:=Æ
     obtain⟨c,X⟩:∃c,qZ ((n-1)/16)=c:=⟨_,rfl⟩;rw[X];have HC:aK<|qZ ((n+4-1)/16)=mt c:=by show _=_;rw[<-X,show(n+4-1)/16=(n-1)/16+1 by omega];rfl
     have HH:aK<|∀k,k<4->(if k=3 then Sx j else if k=2 then Sx r else if k=1 then Sx q else if k=0 then Sx o^^^c else(0:Z8))=uH key n k:=λk hk=>by
      have q0:=F.o 0 À;have q1:=F.o 1 À;have q2:=F.o 2 À;have q3:=F.o 3 À;simp only[if_true,if_neg (show¬(1:Nat)=0 by decide),if_neg (show¬(2:Nat)=0 by decide),if_neg (show¬(2:Nat)=1 by decide),if_neg (show¬(3:Nat)=0 by decide),if_neg (show¬(3:Nat)=1 by decide),if_neg (show¬(3:Nat)=2 by decide)]at q0 q1 q2 q3;have bb:jI key (n/16-1) 12=j:=by rw[q0];unfold hU;rw[show(n-4+0)/16=n/16-1 by omega,show(n-4+0)%16=12 by omega]
      have bc:jI key (n/16-1) 13=o:=by rw[q1];unfold hU;rw[show(n-4+1)/16=n/16-1 by omega,show(n-4+1)%16=13 by omega]
      have bd:jI key (n/16-1) 14=q:=by rw[q2];unfold hU;rw[show(n-4+2)/16=n/16-1 by omega,show(n-4+2)%16=14 by omega]
      have be:jI key (n/16-1) 15=r:=by rw[q3];unfold hU;rw[show(n-4+3)/16=n/16-1 by omega,show(n-4+3)%16=15 by omega]
      unfold uH ve;rw[if_pos hr,bb,bc,bd,be,show n/16-1=(n-1)/16 by omega,X];obtain rfl|rfl|rfl|rfl:k=0\/k=1\/k=2\/k=3:=À
      all_goals rfl
     have c0:ae w3 (zq g 0)=ac (zi<|e8 j):=d.i (k:=0) Ã;have c1:ae w3 (zq g 1)=ac (zi<|e8 o):=d.i (k:=1) Ã;have c2:ae w3 (zq g 2)=ac (zi<|e8 q):=d.i (k:=2) Ã;have c3:ae w3 (zq g 3)=ac (zi<|e8 r):=d.i (k:=3) Ã;have f0:aQ w3 (zq g 0)=ao:=d.ee;have f1:aQ w3 (zq g 1)=ao:=d.ee;have f2:aQ w3 (zq g 2)=ao:=d.ee;have f3:aQ w3 (zq g 3)=ao:=d.ee;have y0:=f.b0.o5 j;have y1:=f.b0.o5 o;have y2:=f.b0.o5 q;have y3:=f.b0.o5 r;have l0:=rV j;have l1:=rV o;have l2:=rV q;have l3:=rV r;have u0:=sC j;have u1:=sC o;have u2:=sC q;have u3:=sC r;have H4:=xe<|((((f.put g s 0<|zi<|e8<|Sx o^^^c).put g s 1<|zi<|e8<|Sx q).put g s 2<|zi<|e8<|Sx r).put g s 3<|zi<|e8<|Sx j).U;have R4:=xe (Jp.bR (g:=uH key n) ((((d.H 0<|Sx o^^^c).H 1<|Sx q).H 2<|Sx r).H 3<|Sx j).drw λk hk=>by
      rw[<-HH.o k hk];obtain rfl|rfl|rfl|rfl:k=0\/k=1\/k=2\/k=3:=À
      all_goals rfl)
     clear f d HH F X;go_wp2;go_still_tail 19,Á;go_upto_region 13 with fail
     generalize World.drew _=w4 at*;clear c0 c1 c2 c3 f0 f1 f2 f3 y0 y1 y2 y3 l0 l1 l2 l3 u0 u1 u2 u3;go_wp2;refine(IG c _).mono ?_;rintro en w5⟨rfl,rfl⟩;go_wp2;have B:SI w (wK key<|n+0) w5:=H4.o;have C:=R4.o;have E:aK<|qZ ((n+4-1)/16)=mt c:=HC.o
    rotate_left;focus
     have er:((n:Int)%16==0)=ao:=Æ
     have HC:aK<|qZ ((n+4-1)/16)=qZ ((n-1)/16):=by show _=_;rw[show(n+4-1)/16=(n-1)/16 by omega]
     have C:Jp w3 g (uH key n) 4 351:=d.bR λk hk=>by rw[F.o k hk];unfold uH;simp_all
     clear d F;generalize qZ ((n-1)/16)=c at*;go_wp2;have B:SI w (wK key<|n+0) w3:=f;have E:aK<|qZ ((n+4-1)/16)=c:=HC.o
    all_goals
     go_loopw [10] (λi wq=>∃k:Nat,k<=4/\i=zi k/\SI w (wK key<|n+k) wq/\Jp wq g (uH key n) 4 351) (λi _=>bB (4-bP i))
     case atStart=>exact⟨0,À,rfl,B,C⟩
     case round=>
      clear B C;obtain⟨k,hk,rfl,inv,D⟩:=hrel;by_cases bg:k<4
      ·obtain⟨p,hp⟩:∃p,n-16=p:=⟨_,rfl⟩;have k1:(k:Int)<4:=by omega
       have a1:IntKind.i64.wrap ((n:Int)+(k:Int))=(n:Int)+(k:Int):=É
       have a2:IntKind.i64.wrap ((n:Int)-16)=(p:Int):=É
       have a3:IntKind.i64.wrap ((p:Int)+(k:Int))=(p:Int)+(k:Int):=É
       have a4:(n:Int)+(k:Int)<176:=À
       have a5:(p:Int)+(k:Int)<176:=À
       have a6:(0:Int)<=(n:Int)+(k:Int):=À
       have a7:(0:Int)<=(p:Int)+(k:Int):=À
       have a8:bB ((n:Int)+(k:Int))=n+k:=À
       have a9:bB ((p:Int)+(k:Int))=p+k:=À
       have d1:ae wr (zq (ak w.heap+1+1)<|p+k)=ac (zi<|e8<|hU key<|p+k):=by rw[inv.b2.i À];unfold wK;rw[if_pos À]
       have d2:ae wr (zq g k)=ac (zi<|e8<|uH key n k):=D.i À;have d3:ae wr (zq (ak w.heap+1+1)<|n+k)=ac (zi<|e8<|wK key (n+k)<|n+k):=inv.b2.i À;have d4:aQ wr (zq (ak w.heap+1+1)<|n+k)=ao:=inv.b2.ee;have hx:hU key (p+k)^^^uH key n k=hU key (n+k):=by rw[<-hp];exact xp1 key n k R Q bg
       have I:aK<|SI w (wK key<|n+(k+1))<|ai wr.drew (zq (ak w.heap+1+1)<|n+k)<|zi<|e8<|hU key<|n+k:=(inv.U.H (n+k) _).bR λi _=>UZ key (n+k) i;have HR:aK<|Jp (ai wr.drew (zq (ak w.heap+1+1)<|n+k)<|zi<|e8<|hU key<|n+k) g (uH key n) 4 351:=Jp.dE (w:=wr.drew) D À;clear inv D hp;generalize wK key (n+k) (n+k)=z at*;generalize hU key (n+k)=v at*;generalize hU key (p+k)=y at*;generalize uH key n k=x at*;go_wp2;go_still_tail 14,Á;go_wp2;go_roundw
       case rel=>first|exact⟨k+1,À,Å,I.o,HR.o⟩|((repeat apply Exists.intro);exact⟨⟨k+1,À,Å,I.o,HR.o⟩,rfl⟩)
       case measure=>simp[bP];omega
      have ke:k=4:=À
      have k1:¬(k:Int)<4:=À
      have J:aK<|SI w (wK key<|n+4) wr:=by rw[ke]at inv;exact inv
      clear inv D ke;go_wp2;go_roundw
      case rel=>first|exact⟨n+4,À,À,À,Å,by rw[E.o],J.o⟩|((repeat apply Exists.intro);exact⟨⟨n+4,À,À,À,Å,by rw[E.o],J.o⟩,rfl⟩)
      case measure=>simp[bP];omega
   obtain rfl:n=176:=À
   have inv:=inv.bR (f3:=hU key) (λi Y=>by unfold wK;simp_all);have M:=inv.b2;have G:=inv.b1;have L:=inv.eR;unfold Jp at M G;have Y:(prog.info? 320).map (·.size)=ac (ak (ki (hU key) 176).toArray):=by rw[uI];exact NE
   have h1:=IL (hU key) 176;have bh:ak (ki zF 176).toArray=ak (ki (hU key) 176).toArray:=by rw[uI,uI]
   have S:(wr.setRow (ak w.heap+1) (aV (ki (hU key) 176))).heap[ak w.heap+1]?=ac (aq (aV (ki (hU key) 176)) 320 (0,0)):=Jr _ _ _ _ _ _ G;have bf:=Be (b:=ak w.heap+1) (aV (ki (hU key) 176)) L À;clear inv hn Q R H s;generalize hKK:aV (ki (hU key) 176)=K at*;have HK:aK<|aV (ki (hU key) 176)=K:=hKK;clear hKK;go_wp2_with (first|refine J6 rfl 320 _ rfl (ak w.heap+1+1) rfl 320 _ (0,0) _ M km rfl Y ?_|refine Zo rfl 320 _ _ rfl (ak w.heap+1) _ rfl rfl 320 _ G Y bh h1 ?_);exact ji (v:=bM K) (Jf rfl _ _ (ak w.heap+1) 320 _ (0,0) _ rfl S km rfl Y) rfl ⟨by rw[ba.o,<-HK.o],bf⟩
end
end P
end Go.Proofs.YtjnbhiamaabbgaaGreatDoor
