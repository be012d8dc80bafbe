import Derived.Test.YtjnbhiamaabbgaaGreatDoorM21
import Derived.Laws.AppendOwnNone
set_option linter.all false
set_option maxRecDepth 100000
set_option maxHeartbeats 8000000
section
variable{P:Prop}
def Û(h:P:=by have:=HL.o;omega):P:=h
def ç(h:P:=by rw[<-K];exact λ_=>rfl):P:=h
def ö(h:P:=by obtain⟨-,h⟩|⟨_,_,_,h,-,-,h1,h2,-⟩:=HR.o.2;omega;unfold nT at h2;omega):P:=h
end
namespace Go.Proofs.YtjnbhiamaabbgaaGreatDoor
open Go renaming Act->jG,Calls->aG,Code->nW,Ending->kU,Oper->fj,World->cY,execOp->aL,invoke->ol,maxLen->nT,resolve->nD,results->dX
open Go.Act renaming put->fe
open Go.Code renaming seq->fO
open Go.Ending renaming returned->ah
open Go.Exit renaming normal->dM
open Go.IntKind renaming i64->aU,wrap_i64->zh
open Go.Obj renaming cells->aq
open Go.Operand renaming tmp->bZ
open Go.Proofs renaming intOf->bP
open Go.Proofs.Tryz renaming ntmps51->mj,ntmps54->hV,ntmps81->kX,prog->au
open Go.Result renaming andThen->bG,ok->cT
open Go.RowKit renaming Below->aN,Hid->aK
open Go.Value renaming agg->bM,bool->aX,int->aH,pointer->aR,slice->az,string->aj,tuple->bU
open Go.WideShapes renaming add_plain->zaa
open Go.World renaming alloc->aB,cell?->ae,news_of_block->fY,setCell->ai,size_alloc->xp
open _root_.Array renaming size->ak
open _root_.Bool renaming false->ao,true->aw
open _root_.Decidable renaming decide->bI
open _root_.False renaming elim->dI
open _root_.Int renaming toNat->bB
open _root_.List renaming drop->bH,drop_eq_getElem_cons->Zx,drop_take->Xb,length->aa,length_pos_iff->Z0,length_take->xf,replicate->bD,take->dU,take_of_length_le->qp,take_succ_eq_append_getElem->zp,toArray->aV
open _root_.List.Pairwise renaming nil->iN
open _root_.Nat renaming reduceAdd->iJ,reduceSub->jV
open _root_.Option renaming none->ar,some->ac
open _root_.Or renaming inl->aF,inr->aE
open _root_.UInt8 renaming toNat->aI
namespace P
open A.Tryq Go.RowKit
section
attribute [local go_sem] zn zg zO
def xt5(n:Nat)(a:Int)(h:0<=a/\a<=8)(w:Zy):aG prog 140 #[zi n,zi a] w λe w'=>e=ah (zs<|nb n (bB a))/\aN (ak w.heap) w w':=by obtain⟨k,rfl⟩:∃k:Nat,a=(k:Int):=⟨bB a,À⟩;grind [ED]
def xjb(C:Nat)(f:Rf)(m:Mf)(xs:List Zl)(v:Zv)(hl:aa xs<=1000)(hx:∀x∈xs,aa x<=64)(R:aa f.m=32)(w:Zy)(h:Ju w C f)(K:Yq w)(B:Rw w 9 1 oh v xs):aG prog 138 #[zo C,v,zi m.ep,zi m.op,zi m.fo] w λe w'=>∃v',e=ah v'/\eD w w' 9 1 oh v' (Y9 m (Ji f.m m.ep) xs):=by
 obtain⟨a,Q,rfl⟩:=B.dC;have M:=B;have O:=hx;have F:=h;have G:=K;have o:aK<|aa (Ji f.m m.ep)=16:=EU _ _;clear B hx h K;go_enter func138.1,Tryz.ntmps138;go_wp2;refine(NS C f m.ep _ F G R).mono ?_;rintro e w1⟨rfl,n⟩;have H:aK<|Nw w w1:=zj.Q n;clear n F G;obtain⟨c,k⟩:∃c,Ji f.m m.ep=c:=⟨_,rfl⟩;have r:=xe k;rw[k]at o⊢;clear k;go_wp2;go_loopw [11,13] (λu i wr=>∃j:Nat,j<=aa xs/\i=zi j/\eD w1 wr 9 1 oh u ((Y9 m c xs).take j)) (λ_ i _=>bB (aa xs-bP i))
 case atStart=>grind [eD.nil]
 case round=>
  obtain⟨j,hj,rfl,L⟩:=hrel;have d:=xe L;clear L;by_cases l:j<aa xs
  ·have W:(j:Int)<(aa xs:Nat):=by omega
   have i0:(0:Int)<=(j:Int):=À
   obtain⟨g,rfl,T⟩:=M.kq (λ_=>rfl) l rfl;have q:aK<|∀w',Nw w1 w'->ae w' (zq g j)=ac (aj<|st xs[j]):=λw' U=>(H.o.aA U).i id (by grind [oh]);have y:=xe<|UI m c xs j l;have V:=O _<|Xk l;generalize xs[j]=x at*;clear T;have I:=q.o _ d.o.nw;have b:aK<|Nw wr wr.drew:=(zj.refl _ _).U;have l1:=Z2 m.ep 1;have X:=Z2 m.op 2;have Y:=Z2 m.fo 2;have Z:=Z2 j 2;have m1:¬9223372036854775807<1+1:=Ã
   have E:aK<|(⟨#[67]⟩:ByteArray)++st (nb m.ep 1)++st (nb m.op 2)++st (nb m.fo 2)++st (nb j 2)=st (m.kJ j):=by show _=_;rw[show(⟨#[67]⟩:ByteArray)=st [67]from rfl,zg,zg,zg,zg];simp[Mf.kJ]
   go_wp2;go_region_held3 (λw'=>ae w' (zq g j)=ac (zs x)) (first|exact I|exact z)
    (first
     |(go_at_call 140;refine(xt5 _ _ Ã _).mono ?_;rintro e w3⟨rfl,n⟩;replace b:=xe<|b.o.aA<|zj.Q n;have z:=q.o _<|d.o.nw.aA b.o)
     |(go_at_call 197;rw[E.o];refine(NP c _ x o.o (UL m j) À _).mono ?_;rintro e w4⟨rfl,n⟩;replace b:=xe<|b.o.aA<|zj.Q n;have z:=q.o _<|d.o.nw.aA b.o))
   have t:=xe<|d.o.gl b.o;have S:aa ((Y9 m c xs).take j)<=1000:=by rw[xf,Dl];omega
   generalize(Y9 m c xs).take j=D at*;clear I q d b E l1 X Y Z;clear z;try clear hHeld
   go_wp2_with (refine eD.iB By (me c (m.kJ j) x) t.o À rfl rfl (N' _) rfl rfl rfl rfl ?_);intro g3 J w5 p;have s:=xe p;clear p;go_wp2;go_roundw
   case rel=>exact⟨j+1,À,Å,by rw[y.o];exact s.o⟩
   grind [bP]
  obtain rfl:j=aa xs:=À
  have W:¬(aa xs:Int)<(aa xs:Nat):=À
  rw[qp<|by grind [Dl]]at d;go_wp2;go_ret;refine⟨_,rfl, ?_⟩;rw[r.o];exact d.o.bE H.o
end
section
attribute [local go_sem] zn zg zO te
def xz5{P:Zp}{c:nW}{Q:Exit->jG->Zy->Prop}{a:jG}{w:Zy}(A:jG)(W:Zy)(h:c.wp P (λe a' w'=>e=dM/\a'=A/\w'=W) a w)(k:Q dM A W):c.wp P Q a w:=wp_mono h λ_ _ _⟨b,d,f⟩=>Â
def xp4(v:Zv)(xs:List Zl)(n:aa xs<=256)(hx:∀x∈xs,aa x<=4095)(w:Zy)(l:Yq w)(h:Rw w 9 1 oh v xs):aG prog 141 #[v] w λen w'=>en=ah (zs<|J9 xs)/\aN (ak w.heap) w w':=by obtain⟨a,b,rfl⟩:=h.dC;by_cases k:xs=[];grind [xks];have d:=Z0.2 k;obtain⟨g,rfl,p⟩:=h.kq (λ_=>rfl) d rfl;refine xkr (aa xs) xs rfl d n hx g 0 b ?_ w l λj m=>?_;obtain⟨e,_⟩|⟨i,c,f,q,_,_,r⟩:=h.2;cases e;grind;obtain⟨i,e,o⟩:=h.kq (λ_=>rfl) m rfl;grind [oh]
def us.pc{w w':Zy}{o:Option<|Lk×KV}(h:o=ar)(a:Nw w w'):us w o (ah<|bM<|mA aw) w':=û
structure jep(C:Nat)(f:Rf)(k:Lk)(w:Zy):Prop where
 dS:Ju w C f
 vo:Yq w
 gp:aa f.F<=1000000
 J:∀n,aa (jp f.F n)<=100000
 bA:f.bA<=1000000
 ml:aa f.m=32
 k0:k=jB f.m f.bJ (f.bA:Int) k.op k.mp
structure Mg(w v:Zy)(B:Nat):Prop where
 z:xh v (ak w.heap) (mA ao) 207
 b:xh v B (mA aw) 207
 n:Nw w v
 hb:ak w.heap<B
def Mg.gl{w v v':Zy}{B:Nat}(h:Mg w v B)(hb:Nw v v'):Mg w v' B:=⟨h.z.y hb id,h.b.y hb id,h.n.aA hb,h.hb⟩
open Classical in
theorem PI(k:Lk)(F:Xv):Xc k F=if jp F 0=[]then ac (k,[])else if tu k.m k.tc (jp F 0)then(Y6 (Ym<|jp F 0) F<|Ji k.m (Ym<|jp F 0).ep).map λL=>(k.ga (Ym<|jp F 0) k.mp,L)else ar:=rfl
def jbv(m:Zl):(Ym m).op=qi (bH 2<|List.take 4 m)/\(Ym m).bA=qi (bH 4<|List.take 8 m)/\(Ym m).fo=qi (bH 8<|List.take 10 m)/\(Ym m).bE=qi (bH 10<|List.take 14 m)/\(Ym m).fi=qi (bH 14<|List.take 16 m)/\(Ym m).gp=qi (bH 16<|List.take 20 m)/\(Ym m).iI=bH 20 (dU 52 m)/\(Ym m).aP=bH 52 (dU 84 m)/\wO m=bH 84 m:=by simp[Ym,wO,uF,wN,vw,wM,vv,wL,vu,wJ,uE,Xb]
def xkh(l:Zl)(f:aa l<=100000)(w:Zy):aG prog 245 #[zs l] w λe w'=>∃v bo,e=ah (bU #[v,aX bo])/\Nw w w'/\(∃a i j,v=az a i j)/\(∀D,Yo l=ac D->bo=aw/\eD w w' 157 2 jT v D)/\(Yo l=ar->bo=ao):=by refine(xki l f w).mono λe w' h=>?_;unfold uO at h;cases hs:Yo l with|none=>grind|some L=>rw[hs]at h;obtain⟨v,d,b⟩:=h;obtain⟨a,c,g⟩:=b.dC;exact⟨v,aw,d,b.nw,⟨_,_,_,g⟩,λ_ e=>Â,λe=>Ç⟩
def zw1(C:Nat)(f:Rf)(k:Lk)(w:Zy)(h:jep C f k w):aG prog 192 #[zo C] w<|us w<|Xc k f.F:=by
 have t:=xe h;clear h;have Z1:aK<|xh (aB w<|aq (mA ao) 207) (ak w.heap) (mA ao) 207:=xh.dT _ _ _;have n1:aK<|Nw w<|aB w<|aq (mA ao) 207:=zj.E _;unfold mA at Z1 n1;have HX:aK<|∀w,Ju w C f->aG prog 130 #[zo C,zi 0] w λe o=>o=w/\e=ah (zs<|jp f.F 0):=λw h=>Ir C f 0 w h t.o.gp;have bm:aK<|jp f.F 0=[]->Xc k f.F=ac (k,[]):=λe=>by rw[PI,if_pos e]
 have J:aK<|jp f.F 0≠[]->¬tu k.m k.tc (jp f.F 0)->Xc k f.F=ar:=λe e2=>by grind [PI]
 have X:aK<|jp f.F 0≠[]->tu k.m k.tc (jp f.F 0)->Xc k f.F=(Y6 (Ym<|jp f.F 0) f.F<|Ji k.m (Ym<|jp f.F 0).ep).map λL=>(k.ga (Ym<|jp f.F 0) k.mp,L):=λe e2=>by grind [PI]
 have cy:=t.o.J 0;generalize jp f.F 0=m at*;go_enter func192.1,Tryz.ntmps192;go_wp2;generalize aB w (aq _ 207)=w1 at*;refine(HX.o _<|t.o.dS.y n1.o).mono ?_;rintro e w2⟨rfl,rfl⟩;clear HX;by_cases Z:m=[]
 case pos=>
  subst Z;have M:=xl [];have HK:=xe<|bm.o rfl;clear bm J X;go_wp2;refine(LY 32 Ã _).mono ?_;rintro e w3⟨rfl,hb⟩;have Z3:=xe<|Z1.o.Y hb;have N3:=xe<|n1.o.aA<|zj.Q hb;have c2:=Z3.o.dJ;have c3:=Z3.o.fN;clear hb;go_wp2;refine rl Z3.o rfl rfl rfl λv O=>?_;have nw:=N3.o.cR (zd _) O;unfold us;rw[HK.o];have hs:fR []=[]:=by simp[fR,Vv]
  refine⟨nw,az ar 0 0, ?_,by rw[hs];exact⟨nw,jk _ _ _ _,λ_=>rfl⟩⟩;rw[t.o.k0];rfl
 case neg=>
  have M:¬(st m).toList=[]:=by rw[xl];exact Z
  have bh:(st m).toList.isEmpty=ao:=by rw[xl];cases m;exact absurd rfl Z;rfl
  have V:aK<|Mg w (aB w2<|aq (mA aw) 207) (ak w2.heap):=⟨Z1.o.E _,xh.dT _ _ _,n1.o.aA<|zj.E _,Z1.o.lt⟩;unfold mA at V;have c2:=V.o.z.dJ;have c3:=V.o.z.fN;have c1:=V.o.b.dJ;have cf:((aa m:Int)≠116)\/(aa m=116/\∃b0 d r,m=b0::d::r/\(b0≠77\/(b0=77/\5<aI d)\/(b0=77/\aI d<=5))):=by
   by_cases g:aa m=116;refine aE ⟨g, ?_⟩
   match m,g with
   |b0::d::r,g=>refine⟨b0,d,r,rfl, ?_⟩;by_cases l:b0=77;exact aE<|(AK 5 (aI d)).imp (λh=>⟨l,h⟩) λh=>⟨l,h⟩;exact aF l
   omega
  have I:=xe Z;clear Z;obtain g|⟨g,b0,d,r,rfl,l|⟨rfl,l⟩|⟨rfl,l⟩⟩:=cf;focus
   have R:=xe (J.o I.o λe=>g<|by rw[e.gp];rfl);have p1:((aa m:Int) != 116)=aw:=by simpa using g
  rotate_left;focus
   have R:=xe (J.o I.o λe=>l<|by have:=e.E3;simpa using this);have dc:=b0.toNat_lt;obtain⟨m,K⟩:∃m,b0::d::r=m:=⟨_,rfl⟩;have g0:∀h,(st m)[0]'h=b0:=ç
   rw[K]at g M bh⊢;have p1:((aa m:Int) != 116)=ao:=Æ
   have i0:(0:Int)<(aa m:Nat):=À
   have n2:¬(aI b0:Int)=77:=λe=>l (D9.1<|by show aI b0=77;omega);have p2:((aI b0:Int) != 77)=aw:=by simpa using n2
   clear K g
  rotate_left;focus
   have R:=xe (J.o I.o λe=>by have:=e.ep;rw[show(Ym (77::d::r)).ep=aI d from EP d]at this;omega);have cv:=d.toNat_lt;obtain⟨m,K⟩:∃m,77::d::r=m:=⟨_,rfl⟩;have g0:∀h,(st m)[0]'h=77:=ç
   have g1:∀h,(st m)[1]'h=d:=ç
   rw[K]at g M bh⊢;have p1:((aa m:Int) != 116)=ao:=Æ
   have i0:(0:Int)<(aa m:Nat):=À
   have i1:(1:Int)<(aa m:Nat):=À
   have n3:(5:Int)<(aI d:Nat):=À
   clear K g
  rotate_left;rotate_left;iterate 3
   focus
    go_wp2;exact rl V.o.z rfl rfl rfl λv O=>us.pc R.o<|V.o.n.cR (zd _) O
  have cv:=d.toNat_lt;have H:aK<|(Ym (77::d::r)).ep=aI d:=EP d;obtain⟨m,K⟩:∃m,77::d::r=m:=⟨_,rfl⟩;have g0:∀h,(st m)[0]'h=77:=ç
  have g1:∀h,(st m)[1]'h=d:=ç
  have bz:aK<|m.take 1=[77]:=by rw[<-K];rfl
  rw[K]at J X I H g M bh cy⊢;have p1:((aa m:Int) != 116)=ao:=Æ
  have i0:(0:Int)<(aa m:Nat):=À
  have i1:(1:Int)<(aa m:Nat):=À
  have n3:¬(5:Int)<(aI d:Nat):=À
  have HL:=xe g;clear K g bm;have j4:(4:Int)<=(aa m:Nat):=Û
  have j8:(8:Int)<=(aa m:Nat):=Û
  have j10:(10:Int)<=(aa m:Nat):=Û
  have de:(14:Int)<=(aa m:Nat):=Û
  have df:(16:Int)<=(aa m:Nat):=Û
  have dg:(20:Int)<=(aa m:Nat):=Û
  have dh:(52:Int)<=(aa m:Nat):=Û
  have di:(84:Int)<=(aa m:Nat):=Û
  have b2:=xe<|jbv m;go_wp2;clear c1 c2 c3 M bh p1 n3 g0 i0;clear Z1 n1;generalize ak w2.heap=B at*;generalize aB w2 (aq _ 207)=w3 at*;have HQ:aK<|∀o,Nw w3 o->ae o (zq (ak w.heap) 0)=ac (aX ao):=λo hw=>(V.o.gl hw).z.i 0 rfl;have S0:=HQ.o _<|zj.refl _ _;have j:aK<|Nw w3 w3.drew:=(zj.refl _ _).U;have b8:aK<|aa (Y7 f.m (aI d))=32:=EV _ _;have cz:wrap64 (aI d:Int)=(aI d:Int):=by unfold wrap64;omega
  have c0:IntKind.i64.wrap (aI d:Int)=(aI d:Int):=Ì
  go_region_held3 (λo=>ae o (zq (ak w.heap) 0)=ac (aX ao)) (first|exact S0|exact S1)
   (first
    |(go_at_call 143;refine(NT C f (aI d) _ (t.o.dS.y<|V.o.n.aA j.o) (t.o.vo.nw<|V.o.n.aA j.o) t.o.ml).mono ?_;rintro e w6⟨rfl,hb⟩;replace j:=xe<|j.o.aA<|zj.Q hb;have S1:=HQ.o _ j.o)
    |(go_at_call 142;refine(EG _ _ (by rw[b8.o];decide) Ă _<|t.o.vo.nw<|V.o.n.aA j.o).mono ?_;rintro e w6⟨rfl,hb⟩;replace j:=xe<|j.o.aA<|zj.Q hb;have S1:=HQ.o _ j.o))
  clear S0 S1;try clear hHeld
  have G6:=xe<|V.o.gl j.o
  rename Zy=>w6
  clear HQ j V b8;obtain⟨T,hT⟩:∃T,Wu (Y7 f.m (aI d)) (m.take 84)=T:=⟨_,rfl⟩;have HT:=xe hT;rw[hT];clear hT;have cj:∀(a b:Nat),b-a<=4->qi (bH a<|List.take b m)<4294967296:=λa b M=>by have g:=xV<|List.drop a<|List.take b m;have l:256^aa (bH a<|List.take b m)<=256^4:=J7 Ã (by rw[Zn,xf];omega);omega
  have bn:aK<|∀(a b:Nat),b-a<=4->∀w,aG prog 244 #[zs<|List.drop a<|List.take b m] w λe o=>e=ah (zi (qi (bH a<|List.take b m):Nat))/\o=w:=λa b M w=>EF _ (by rw[Zn,xf];omega) w;have be:=xe cj;clear cj;go_wp2;have X8:aK<|∀c,xh (aB w6<|aq c 207).drew (ak w6.heap) c 207:=λc=>xh.dT w6 _ _;have G8:aK<|∀c,Mg w (aB w6<|aq c 207).drew B/\B<ak w6.heap:=λc=>⟨G6.o.gl (zj.E _).U,G6.o.b.lt⟩;apply xz5
  case h=>
   go_region_held3 (λ_=>True) (trivial)
    (first
     |(go_at_call 244;refine(bn.o _ _ Ã _).mono ?_;rintro e w7⟨rfl,rfl⟩))
   all_goals exact⟨rfl,rfl,rfl⟩
  replace X8:=xe<|X8.o #[aX ao,az ar 0 0,zi (aI d),zi (qi (bH 4<|List.take 8 m):Nat),zs<|List.drop 52<|List.take 84 m,aj ⟨#[]⟩,zi (qi (bH 10<|List.take 14 m):Nat),zi (qi (bH 14<|List.take 16 m):Nat),zi 0,zi 0,aX ao,zi 0,zi 0];replace G8:=xe<|G8.o #[aX ao,az ar 0 0,zi (aI d),zi (qi (bH 4<|List.take 8 m):Nat),zs<|List.drop 52<|List.take 84 m,aj ⟨#[]⟩,zi (qi (bH 10<|List.take 14 m):Nat),zi (qi (bH 14<|List.take 16 m):Nat),zi 0,zi 0,aX ao,zi 0,zi 0];generalize ak w6.heap=Lb at*;generalize(aB w6<|aq _ 207).drew=w8 at*;clear G6;go_wp2;refine(bn.o 16 20 Ã _).mono ?_;rintro e wz⟨rfl,rfl⟩;obtain⟨w8,rfl⟩:∃w8,w8=wz:=⟨_,rfl⟩;have q4:=be.o 4 8 Ã;have c7:=be.o 10 14 Ã;have c8:=be.o 14 16 Ã;have c9:=be.o 16 20 Ã;have cx:ae w8 (zq C 8)=ac (zi f.bA):=(t.o.dS.y G8.o.1.n).bO.i 8 rfl;obtain⟨bj,c6⟩:k.m=f.m/\k.tc=(f.bA:Int):=by rw[t.o.k0];exact⟨rfl,rfl⟩
  obtain⟨m1,m2,m3,m4,m5,m6,m7,m8,m9⟩:=b2.o;have b5:aK<|T=bH 84 m->¬(f.bA:Int)<(qi (bH 4<|List.take 8 m):Nat)->tu k.m k.tc m:=λe1 e2=>⟨HL.o,bz.o,by rw[H.o];exact l,by rw[m9,bj,H.o,HT.o,e1],À⟩;have b3:aK<|Xc k f.F≠ar->T=bH 84 m/\¬(f.bA:Int)<(qi (bH 4<|List.take 8 m):Nat)/\qi (bH 16<|List.take 20 m)<=16384:=λe=>by by_cases ok:tu k.m k.tc m;refine⟨?_, ?_,jg λhs=>e ?_⟩;have:=ok.dO;rw[m9,bj,H.o,HT.o]at this;exact this.symm;have:=ok.bA;omega;rw[X.o I.o ok];unfold Y6 sf;rw[m6,if_pos À,if_neg hs];rfl;exact absurd (J.o I.o ok) e
  have bc:aK<|sf (Ym m) f.F=if 0<qi (bH 16<|List.take 20 m)then(if qi (bH 16<|List.take 20 m)<=16384 then(if qi (bH 14<|List.take 16 m)=10001\/qi (bH 14<|List.take 16 m)=10002 then ac (jp f.F (qi (bH 14<|List.take 16 m):Nat))else ar)else ar)else ac []:=by show _=_;unfold sf;rw[m6,m5]
  have bd:aK<|∀y:Zl,tr (Ym m) (Ji f.m (aI d)) y=if aa y=qi (bH 16<|List.take 20 m)then(if bH 20 (dU 52 m)=J9 (Ys y)then Yo (Y9 (Ym m) (Ji f.m (aI d))<|Ys y).flatten else ar)else ar:=λy=>by unfold tr;rw[m6,m7]
  have W:aK<|∀(s:Zv) (n:Int),n=(if 0<qi (bH 16<|List.take 20 m)then((qi (bH 14<|List.take 16 m):Nat):Int)else 0)->LV ao s (k.ga (Ym m) k.mp) 0 ao 0 0=#[aX ao,s,zi (aI d),zi (qi (bH 4<|List.take 8 m):Nat),zs<|List.drop 52<|List.take 84 m,aj ⟨#[]⟩,zi (qi (bH 10<|List.take 14 m):Nat),zi (qi (bH 14<|List.take 16 m):Nat),zi n,zi 0,aX ao,zi 0,zi 0]:=λs n M=>by
   subst M;have ka:k.eS=[]/\k.fQ=0:=by rw[t.o.k0];exact⟨rfl,rfl⟩
   unfold LV Lk.ga;simp only[H.o,m2,m4,m5,m6,m8,ka.1,ka.2];rfl
  have co:aK<|∀(w:Zy) (v:Zv) (xs:List Zl),aa xs<=1000->(∀x∈xs,aa x<=64)->Ju w C f->Yq w->Rw w 9 1 oh v xs->aG prog 138 #[zo C,v,zi (aI d),zi (qi (bH 2<|List.take 4 m):Nat),zi (qi (bH 8<|List.take 10 m):Nat)] w λe o=>∃v',e=ah v'/\eD w o 9 1 oh v' (Y9 (Ym m) (Ji f.m (aI d)) xs):=λw v xs g l h3 h4 h5=>by have:=xjb C f (Ym m) xs v g l t.o.ml w h3 h4 h5;rw[H.o,m1,m3]at this;omega
  have S:aK<|T=bH 84 m->¬(f.bA:Int)<(qi (bH 4<|List.take 8 m):Nat)->Xc k f.F=((sf (Ym m) f.F).bind<|tr (Ym m)<|Ji f.m (aI d)).map λL=>(k.ga (Ym m) k.mp,L):=λe1 e2=>by rw[X.o I.o<|b5.o e1 e2,bj,H.o];rfl
  have bi:((st T).toList==(st<|List.drop 84 m).toList)=bI (T=bH 84 m):=by rw[xl,xl];by_cases h:T=bH 84 m<;>simp[h]
  clear bj c6 m1 m2 m3 m4 m5 m6 m7 m8 m9 b2 J X b5 bz l g1 cz c0 c7;generalize qi (bH 16<|List.take 20 m)=sz at*;generalize qi (bH 4<|List.take 8 m)=cn at*;generalize qi (bH 14<|List.take 16 m)=nm at*;generalize qi (bH 10<|List.take 14 m)=bs at*;have hx:(T≠bH 84 m\/(T=bH 84 m/\(f.bA:Int)<(cn:Nat))\/(T=bH 84 m/\¬(f.bA:Int)<(cn:Nat)/\(16384:Int)<(sz:Nat)))\/(T=bH 84 m/\¬(f.bA:Int)<(cn:Nat)/\¬(16384:Int)<(sz:Nat)):=by by_cases g:T=bH 84 m;simp only[g,true_and,ne_eq,not_true,false_or];omega;exact aF<|aF g
  obtain hx|⟨g,l,h3⟩:=hx
  ·have R:aK<|Xc k f.F=ar:=jg λe=>by obtain⟨e1,e2,e3⟩:=b3.o e;obtain h|⟨-,h⟩|⟨-,-,h⟩:=hx;exact h e1;omega;omega
   have c1:=G8.o.1.b.dJ;have c2:=G8.o.1.z.dJ;have c3:=G8.o.1.z.fN;have c4:=X8.o.dJ;obtain g|⟨g,l⟩|⟨g,l,h3⟩:=hx;all_goals
    first|rw[jm g]at bi|rw[jo g]at bi
    try have ce:=jo l
    try have br:f.bA<cn:=À
    try have br:=jo (show¬f.bA<cn by omega)
    clear g;go_wp2;go_big_quiet (fail);have NQ:aK<|Nw w8<|w8.drewN nq:=(zj.refl _ _).eg;have q:=xe<|G8.o.1.gl NQ.o;have c1:=q.o.b.dJ;have c2:=q.o.z.dJ;have c3:=q.o.z.fN;generalize w8.drewN nq=Q at*;go_wp2;exact rl q.o.z rfl rfl rfl λv O=>us.pc R.o<|q.o.n.cR (zd _) O
  rw[jm g]at bi;replace S:=xe<|S.o g l;have ce:=jo l;have br:=jo (show¬f.bA<cn by omega);have ct:=jo h3;have cu:=jo (show¬16384<sz by omega);have c4:=X8.o.dJ;clear g b3;go_wp2;go_big_quiet (fail);have NQ:aK<|Nw w8<|w8.drewN nq:=(zj.refl _ _).eg;have q:=xe<|G8.o.1.gl NQ.o;have X9:=xe<|X8.o.y NQ.o id;have dd:B<Lb:=G8.o.2;generalize w8.drewN nq=Q at*;clear c4 bi ce br ct l cx X8 G8 NQ;by_cases hz:sz=0;focus
   subst hz;obtain⟨y,hy⟩:∃y:Zl,[]=y:=⟨_,rfl⟩;have HY:aK<|aa y<=16384/\Xc k f.F=(if bH 20 (dU 52 m)=J9 (Ys y)then Yo (Y9 (Ym m) (Ji f.m (aI d))<|Ys y).flatten else ar).map λL=>(k.ga (Ym m) k.mp,L):=by subst hy;refine⟨Ä, ?_⟩;rw[S.o,bc.o,if_neg Ã,D4,bd.o,if_pos (show([]:Zl).length=0 from rfl)]
   have Y:aK<|Rw Q 9 1 oh (az ar 0 0)<|Ys y:=by subst hy;exact jk _ _ _ _
   obtain⟨sn,ba⟩:∃sn:Int,0=sn:=⟨_,rfl⟩;replace W:aK<|∀s,_:=λs=>W.o s sn À;obtain⟨bk,hw⟩:∃bk,Q=bk:=⟨_,rfl⟩;have G:=xe q.o;have U:aK<|xh Q Lb #[aX ao,az ar 0 0,zi (aI d),zi (cn:Nat),zs<|List.drop 52<|List.take 84 m,aj ⟨#[]⟩,zi (bs:Nat),zi (nm:Nat),zi sn,zi 0,aX ao,zi 0,zi 0] 207:=by rw[<-ba];exact X9.o
   rw[hw]at G U Y⊢;go_upto_region 19 with fail
   clear hw q X9 ba hy
  rotate_left;focus
   have i0:(0:Int)<(sz:Nat):=À
   have CB:aK<|Calls prog 130 #[zo C,zi nm] Q λe o=>o=Q/\e=ah (zs<|jp f.F nm):=Ir C f nm Q (t.o.dS.y q.o.n) t.o.gp;have ck:=t.o.J nm;generalize jp f.F (nm:Int)=y at*;have c5:=X9.o.i (v:=zi nm) 7 rfl;go_wp2;refine CB.o.mono ?_;rintro e wz⟨rfl,rfl⟩;obtain⟨Q,rfl⟩:∃Q,Q=wz:=⟨_,rfl⟩;have hx:((nm≠10001/\nm≠10002)\/((nm=10001\/nm=10002)/\aa y≠sz))\/((nm=10001\/nm=10002)/\aa y=sz):=À
   have c1:=q.o.b.dJ;have c2:=q.o.z.dJ;have c3:=q.o.z.fN;clear CB;obtain hx|⟨M,rfl⟩:=hx
   ·have R:aK<|Xc k f.F=ar:=by show _=_;rw[S.o,bc.o,if_pos À,if_pos À];obtain h|⟨h,l⟩:=hx;rw[if_neg À];rfl;rw[if_pos h,D4,bd.o,if_neg l];rfl
    obtain⟨ha,hb⟩|⟨M,hl⟩:=hx
    case' inr=>obtain rfl|rfl:=M
    all_goals
     try have p1:((nm:Int) != 10001)=aw/\¬(nm:Int)=10001:=⟨Æ,À⟩
     try have p2:((nm:Int) != 10002)=aw/\¬(nm:Int)=10002:=⟨Æ,À⟩
     try have p3:((aa y:Int) != (sz:Int))=aw/\¬(aa y:Int)=(sz:Int):=⟨Æ,À⟩
     go_wp2;exact rl q.o.z rfl rfl rfl λv O=>us.pc R.o<|q.o.n.cR (zd _) O
   have HY:aK<|aa y<=16384/\Xc k f.F=(if bH 20 (dU 52 m)=J9 (Ys y)then Yo (Y9 (Ym m) (Ji f.m (aI d))<|Ys y).flatten else ar).map λL=>(k.ga (Ym m) k.mp,L):=by refine⟨À, ?_⟩;rw[S.o,bc.o,if_pos À,if_pos À,if_pos M,D4,bd.o,if_pos rfl]
   obtain⟨sn,ba⟩:∃sn:Int,(nm:Int)=sn:=⟨_,rfl⟩;replace W:aK<|∀s,_:=λs=>W.o s sn À;have e8:=X9.o.i (v:=zi 0) 8 rfl;have f8:=X9.o.dG 8;have U:aK<|xh (ai Q (zq Lb 8)<|zi nm) Lb #[aX ao,az ar 0 0,zi (aI d),zi (cn:Nat),zs<|List.drop 52<|List.take 84 m,aj ⟨#[]⟩,zi (bs:Nat),zi (nm:Nat),zi sn,zi 0,aX ao,zi 0,zi 0] 207:=by rw[<-ba];exact X9.o.H 8<|zi nm
   have G:aK<|Mg w (ai Q (zq Lb 8)<|zi nm) B:=by have hb:=q.o.hb;have bx:=zj.H Q (zq Lb 8)<|zi nm;exact⟨q.o.z.y bx (show¬ak w.heap=Lb by omega),q.o.b.y bx (show¬B=Lb by omega),q.o.n.cR (show ak w.heap<=Lb by omega) bx,hb⟩
   clear c1 c2 c3 h3 cu i0 ba q4 c8 c9 hz S bd bc;obtain rfl|rfl:=M;all_goals
    go_wp2;generalize ai Q (zq Lb 8) _=w7 at*;refine(xsi y ck _).mono ?_;rintro e bk⟨v,rfl,ho⟩;obtain⟨a1,c1,rfl⟩:=ho.dC;replace G:=xe<|G.o.gl ho.nw;replace U:=xe<|U.o.y ho.nw id;have Y:=xe ho.rw;clear ho;go_upto_region 19 with fail
  all_goals
   obtain⟨bt,cw,-⟩:=Ix y;have ck:=HY.o.1;go_wp2;refine(xp4 _ (Ys y) À (λx hx=>by have:=bt x hx;omega) _ (t.o.vo.nw G.o.n) Y.o).mono ?_;rintro e bl⟨rfl,hb⟩;have nb:Nw bk bl:=zj.Q hb;have i:=xe<|G.o.gl nb;have bp:=xe<|U.o.y nb id;have cc:=xe<|Y.o.y nb λ_ _=>id;have bb:((st<|J9<|Ys y).toList==(st<|List.drop 20<|List.take 52 m).toList)=bI (bH 20 (dU 52 m)=J9 (Ys y)):=by rw[xl,xl,Bool.beq_comm];by_cases h:bH 20 (dU 52 m)=J9 (Ys y)<;>simp[h]
   have c1:=i.o.b.dJ;have c2:=i.o.z.dJ;have c3:=i.o.z.fN;clear hb nb G U Y;by_cases hr:bH 20 (dU 52 m)=J9 (Ys y)
   case neg=>
    have R:aK<|Xc k f.F=ar:=by show _=_;rw[HY.o.2,if_neg hr];rfl
    rw[jo hr]at bb;clear hr;go_wp2;exact rl i.o.z rfl rfl rfl λv O=>us.pc R.o<|i.o.n.cR (zd _) O
   rw[jm hr]at bb;have b9:=xe<|HY.o.2.trans<|congrArg (Option.map _)<|if_pos hr;have cl:=xe bt;have cm:aK<|aa (Ys y)<=256:=by show _<=_;omega
   have b6:aK<|aa (Y9 (Ym m) (Ji f.m (aI d))<|Ys y).flatten<=100000:=by show _<=_;rw[UT];omega
   have b7:aK<|aa (Y9 (Ym m) (Ji f.m (aI d))<|Ys y)<=1000:=by show _<=_;rw[Dl];omega
   clear hr bt cw;generalize J9 (Ys y)=rt at*;go_wp2;have HQ:aK<|∀o,Nw bl o->ae o (zq Lb 2)=ac (zi (aI d)):=λo h=>(bp.o.y h id).i 2 rfl;have S0:=HQ.o _<|zj.refl _ _;have ND:aK<|Nw bl bl.drew:=(zj.refl _ _).U;have S1:=HQ.o _ ND.o;clear c1 c2 c3 bb;go_region_held3 (λo=>ae o (zq Lb 2)=ac (zi (aI d))) (first|exact S0|exact S1|exact S2|exact S3)
    (first
     |(go_at_call 244;refine(bn.o _ _ Ã _).mono ?_;rintro e w7⟨rfl,rfl⟩)
     |(go_at_call 138;refine(co.o _ _ (Ys y) (xa cm.o Ã) cl.o (t.o.dS.y<|i.o.n.aA ND.o) (t.o.vo.nw<|i.o.n.aA ND.o)<|cc.o.y ND.o λ_ _=>id).mono ?_;rintro e dj⟨v2,rfl,bv⟩;have cq:=xe bv;have bf:=xe<|ND.o.aA bv.nw;have S2:=HQ.o _ bf.o;clear bv)
     |(go_at_call 139;refine(xdh _ _ b7.o b6.o _ cq.o.rw).mono ?_;rintro e w7⟨rfl,rfl⟩)
     |(go_at_call 245;refine(xkh _ b6.o _).mono ?_;rintro e bw⟨v3,bo,rfl,bu,⟨a3,i3,j3,rfl⟩,ci,cg⟩;have bg:=xe<|bf.o.aA bu;have S3:=HQ.o _ bg.o;have cr:=xe ci;have cp:=xe cg;have db:=xe bu;clear ci cg bu))
   have E:=xe<|i.o.gl bg.o;have bq:=xe<|bp.o.y bg.o id;have NB:=xe<|i.o.n.aA bf.o;have ch:¬ak w.heap=Lb:=by have:=i.o.hb;omega
   have da:¬Lb=ak w.heap:=λe=>ch e.symm;clear S0 S1 S2 S3 HQ ND bf bg i bp cc;have c1:=E.o.b.dJ;have c2:=E.o.z.dJ;have c3:=E.o.z.fN;cases hs:Yo (Y9 (Ym m) (Ji f.m (aI d))<|Ys y).flatten with
   |none=>
    obtain rfl:=cp.o hs;have R:aK<|Xc k f.F=ar:=by show _=_;rw[b9.o,hs];rfl
    clear hs;go_wp2;exact rl E.o.z rfl rfl rfl λv O=>us.pc R.o<|E.o.n.cR (zd _) O
   |some D=>
    obtain⟨rfl,ho⟩:=cr.o D hs;have b4:=xe<|ho.bE NB.o;have R:aK<|Xc k f.F=ac (k.ga (Ym m) k.mp,D):=by show _=_;rw[b9.o,hs];rfl
    have cs:aK<|fR D=D:=rj.fR (PE _ hs iN λp hp=>by cases hp).1;have d1:=bq.o.dJ;have d2:=bq.o.dG 1;have bx:zj (·=Lb) bw<|ai bw (zq Lb 1)<|az a3 i3 j3:=zj.H bw (zq Lb 1) _;have cd:=xe<|E.o.z.y bx ch;have ca:=xe<|E.o.n.cR (by have:=E.o.hb;omega) bx;have cb:=xe<|b4.o.y bx (b4.o.rw.gH bq.o Ã) ca.o;clear hs ho bx;go_wp2;refine rl cd.o rfl rfl rfl λv O=>?_;have nw:=ca.o.cR (zd _) O;unfold us;rw[R.o];exact⟨nw,az a3 i3 j3,congrArg (λz=>ah<|bM z) (W.o<|az a3 i3 j3).symm,by rw[cs.o];exact cb.o.y O (cb.o.rw.gH cd.o Ã) nw⟩
end
section
attribute [local go_sem] zn zg
section
variable {f:Rf} {r:Sr} {w:Zy} {n q B C:Nat}
def Ju.gH{S:ZP}{w w':Zy}{C:Nat}(h:Ju w C f)(b:zj S w w')(c:∀x,f.cO C x->¬S x):Ju w' C f:=⟨h.bO.y b<|c _<|aF rfl,h.fs.y b λx a=>c x<|aE<|aF a,h.ss.y b λx a=>c x<|aE<|aE<|aF a,h.ps.y b λx a=>c x<|aE<|aE<|aE a,h.fn⟩
def qT(B C:Nat)(r:Sr)(f:Rf)(x:Nat):Prop:=r.cO B x\/f.cO C x
structure Pr(n:Nat)(w:Zy)(q B C:Nat)(r:Sr)(f:Rf):Prop where
 qb:xh w q #[zo B,zo C] 144
 sa:Vq w B r
 fa:Ju w C f
 tw:Ws r f
 ok:Ok n r
 ap:∀x,r.cO B x->¬f.cO C x
 qn:¬qT B C r f q
def pu(n:Nat)(q B C:Nat)(r:Sr)(f:Rf)(w w':Zy):Prop:=∃r' f',Pr n w' q B C r' f'/\zj (qT B C r f) w w'/\∀x,qT B C r' f' x->qT B C r f x\/ak w.heap<=x
section
variable {n k q B C:Nat} {r r':Sr} {f f':Rf} {w w1 w2:cY} {S:Nat->Prop}
def Pr.y(h:Pr n w q B C r f)(a:zj S w w1)(d:¬S q)(c:∀x,qT B C r f x->¬S x):Pr n w1 q B C r f:=⟨h.qb.y a d,h.sa.y a λx b=>c x<|aF b,h.fa.gH a λx b=>c x<|aE b,h.tw,h.ok,h.ap,h.qn⟩
def Pr.nw(h:Pr n w q B C r f)(a:Nw w w1):Pr n w1 q B C r f:=h.y a id λ_ _=>id
def Pr.lt(h:Pr n w q B C r f){x:Nat}(hx:qT B C r f x):x<ak w.heap:=hx.elim (λhx=>Sr.eY h.sa hx) λhx=>Rf.eY h.fa hx
def Pr.su(h:Pr n w q B C r f)(b:Zd B r w r' w1):Ju w1 C f:=h.fa.gH b.y λx c a=>h.ap x a c
def Pr.step(h:Pr n w q B C r f)(b:Zd B r w r' w1)(c:Xf C f w1 f' w2)(i:Ws r' f')(ho:Ok k r'):pu k q B C r f w w2:=by
 have z:=b.y.J;refine⟨r',f',⟨(h.qb.y b.y λx=>h.qn<|aF x).y c.y λx=>h.qn<|aE x,b.dS.y c.y λx a e=>?_,c.dS,i,ho,λx a e=>?_,λx=>?_⟩,(b.y.W λx a=>aF a).aA<|c.y.W λx a=>aE a,λx a=>?_⟩;obtain d|d:=b.cO x a;exact h.ap x d e;have:=Rf.eY h.fa e;omega;have l:=Sr.eY b.dS a;obtain g|g:=c.cO x e;obtain d|d:=b.cO x a;exact h.ap x d g;have:=Rf.eY h.fa g;omega;omega;have l:=h.qb.lt;obtain x|x:=x;exact(b.cO q x).elim (λx=>h.qn<|aF x) λx=>À
 exact(c.cO q x).elim (λx=>h.qn<|aE x) λx=>À
 obtain a|a:=a;exact(b.cO x a).imp aF id;exact(c.cO x a).imp aE λ_=>À
end
def Zd.F1{B:Nat}{r b:Sr}{w w1 c:Zy}(h:Zd B r w b w1)(a:Nw w1 c):Zd B r w b c:=⟨h.y.aA<|a.W λ_=>dI,h.dS.y a λ_ _=>id,h.cO⟩
def pu.lX{w w1 b:Zy}(a:Nw w w1)(h:pu n q B C r f w1 b):pu n q B C r f w b:=by obtain⟨j,c,d,e,g⟩:=h;exact⟨j,c,d,(a.W λ_=>dI).aA e,λx i=>(g x i).imp id λh=>xa a.J h⟩
def Ws.pl{n:Nat}(h:Ws r f)(o:Ok n r)(a:f.gA=aw):aa f.P<=20:=by rw[h.gA]at a;obtain⟨s,b⟩:=Wr.1 a;rw[(h.nr s b).2.1];exact(o.nr s b).2.1
def Ws.ll{n:Nat}(h:Ws r f)(o:Ok n r)(c:n<=1000000)(a:f.gA=aw):aa f.L<=200000000000:=by rw[h.gA]at a;obtain⟨s,b⟩:=Wr.1 a;rw[(h.nr s b).1,show(fR s.L).length=aa s.L by unfold fR;rw[jl,(Nq _).length_eq,jl]];have:=(o.nr s b).d.1;omega
def Ξ(C:Nat)(f:Rf)(c:Vk)(w:Zy)(h:Ju w C f)(i:f.gA=aw->aa f.P<=20):aG prog 81 #[zo C,bM (aV (rI c))] w<|T' C f c w:=by
 cases ho:f.gA
 ·have d:=h;have e:Nw w<|aB w<|aq #[aX<|cG c,zs<|cK c,zs<|cV c] 147:=zj.E _;have g:=h.bO.lt;have a:ae w (zq C 11)=ac (aX f.gA):=h.bO.i 11 rfl;have b:f.dH c 5 f:=by show Rf.dH _ _ _ _;unfold Rf.dH;rw[if_pos ho];exact⟨rfl,rfl⟩
  rw[ho]at a;go_enter func81.1,kX;go_wp2;go_ret;exact⟨5,f,rfl,.nw d e,b⟩
 grind [xbx]
def xrl(C:Nat)(f:Rf)(key:Zl)(w:Zy)(h:Ju w C f)(d:f.gA=aw->aa f.L<=200000000000)(c:f.gA=aw->aa f.P<=20):aG prog 82 #[zo C,zs key] w λe w'=>e=ah (bU #[aj<|st (f.ib key).1,aH aU (f.ib key).2])/\Nw w w':=by
 cases ho:f.gA
 ·have a:ae w (zq C 11)=ac (aX f.gA):=h.bO.i 11 rfl;rw[ho]at a;have b:aK<|f.ib key=([],5):=by show _=_;unfold Rf.ib;rw[if_pos ho]
  rw[b.o];go_enter func82.1,Tryz.ntmps82;go_wp2;go_ret2;exact⟨rfl,zj.refl _ _⟩
 grind [xrm]
def xcu(H q B C:Nat)(n:Nat)(r:Sr)(f:Rf)(o:Sp)(w:Zy)(h:Pr n w q B C r f)(hk:o.dW=4):aG prog 51 #[zo H,zo q,bM o.G] w λe w'=>e=ah (aX aw)/\pu n q B C r f w w':=by
 obtain⟨Z,a,G,m,k,s,t,E⟩:=o;obtain rfl:Z=4:=hk;have J:Nw w<|aB w<|aq (Sp.G ⟨4,a,G,m,k,s,t,E⟩) 69:=zj.E _;have X0:=xh.dT w (Sp.G ⟨4,a,G,m,k,s,t,E⟩) 69;have K:=h.nw J;have c0:=X0.i (v:=zi 4) 0 rfl;have z:=X0.i 5 rfl;have D:=X0.i 6 rfl;have V:=K.qb.i 0 rfl;have T:∀x,qT B C r f x->x<ak w.heap:=λx F=>h.lt F;have R:=xe<|h.tw.pl h.ok;go_enter func51.1,mj;go_wp2;generalize aB w (aq (Sp.G ⟨4,a,G,m,k,s,t,E⟩) 69)=w0 at*;have d:=K.nw (zj.refl _ w0).U;have Q:=J.aA (zj.refl _ w0).U;have p:=X0.y (S:=λ_=>False) (zj.refl _ w0).U id;have j:¬qT B C r f (ak w.heap):=λh=>CG _<|T _ h;go_region_held3 (λw'=>ae w' (zq q 0)=ac (zo B)/\ae w' (zq (ak w.heap) 5)=ac (zs s)/\ae w' (zq (ak w.heap) 6)=ac (zs t)) (first|exact⟨V,z,D⟩|exact⟨(d.qb.y b.y λx=>d.qn<|aF x).i 0 rfl,(p.y b.y λh=>j<|aF h).i 5 rfl,(p.y b.y λh=>j<|aF h).i 6 rfl⟩)
  (first|(go_at_call 16;refine(TE B r s t _ d.sa λx F=>(d.ok.nr x F).2.1).mono ?_;rintro e l⟨a2,r2,rfl,b,i⟩))
 have I:=b;have O:=i;have M:=(d.su b).y (zj.refl _ l).U;have y:=(p.y b.y λh=>j<|aF h);have z:=y.i 5 rfl;have D:=y.i 6 rfl;have W:=(d.qb.y b.y λx=>d.qn<|aF x).i 1 rfl;go_wp2;have U:=(d.qb.y I.y λx=>d.qn<|aF x).y (S:=λ_=>False) (zj.refl _ l).U id;have L:=y.y (S:=λ_=>False) (zj.refl _ l).U id;go_region_held3 (λw'=>ae w' (zq q 1)=ac (zo C)/\ae w' (zq (ak w.heap) 5)=ac (zs s)/\ae w' (zq (ak w.heap) 6)=ac (zs t)) (first|exact⟨W,z,D⟩|exact⟨(U.y g.y λx=>d.qn<|aE x).i 1 rfl,(L.y g.y λh=>j<|aE h).i 5 rfl,(L.y g.y λh=>j<|aE h).i 6 rfl⟩)
  (first|(go_at_call 81;refine(Ξ C f (.put s t) _ M R.o).mono ?_;rintro e w3⟨a3,f3,rfl,g,i⟩))
 go_wp2;refine(sk _ _).mono ?_;rintro e w4⟨rfl,rfl⟩;go_wp2;go_ret;obtain⟨e1,X,Y⟩:=d.tw.Aw (c:= .put s t) d.ok rfl O i;exact⟨Ë,.lX Q<|d.step (I.F1 (zj.refl _ l).U) g X Y⟩
def xcr(H q B C:Nat)(n:Nat)(r:Sr)(f:Rf)(o:Sp)(w:Zy)(h:Pr n w q B C r f)(hk:o.dW=5):aG prog 51 #[zo H,zo q,bM o.G] w λe w'=>e=ah (aX aw)/\pu n q B C r f w w':=by
 obtain⟨Y,a,D,m,k,s,t,y⟩:=o;obtain rfl:Y=5:=hk;have F:Nw w<|aB w<|aq (Sp.G ⟨5,a,D,m,k,s,t,y⟩) 69:=zj.E _;have X0:=xh.dT w (Sp.G ⟨5,a,D,m,k,s,t,y⟩) 69;have G:=h.nw F;have c0:=X0.i (v:=zi 5) 0 rfl;have p:=X0.i 5 rfl;have U:=G.qb.i 0 rfl;have Q:∀x,qT B C r f x->x<ak w.heap:=λx z=>h.lt z;have O:=xe<|h.tw.pl h.ok;go_enter func51.1,mj;go_wp2;generalize aB w (aq (Sp.G ⟨5,a,D,m,k,s,t,y⟩) 69)=w0 at*;have b:=G.nw (zj.refl _ w0).U;have M:=F.aA (zj.refl _ w0).U;have I:=X0.y (S:=λ_=>False) (zj.refl _ w0).U id;have l:¬qT B C r f (ak w.heap):=λh=>CG _<|Q _ h;go_region_held3 (λw'=>ae w' (zq q 0)=ac (zo B)/\ae w' (zq (ak w.heap) 5)=ac (zs s)) (first|exact⟨U,p⟩|exact⟨(b.qb.y d.y λx=>b.qn<|aF x).i 0 rfl,(I.y d.y λh=>l<|aF h).i 5 rfl⟩)
  (first|(go_at_call 18;refine(xh1 B r s _ b.sa λx z=>(b.ok.nr x z).2.1).mono ?_;rintro e j⟨Z,r2,rfl,d,g⟩))
 have E:=d;have L:=g;have K:=(b.su d).y (zj.refl _ j).U;have J:=(I.y d.y λh=>l<|aF h);have p:=J.i 5 rfl;have V:=(b.qb.y d.y λx=>b.qn<|aF x).i 1 rfl;go_wp2;have R:=(b.qb.y E.y λx=>b.qn<|aF x).y (S:=λ_=>False) (zj.refl _ j).U id;have T:=J.y (S:=λ_=>False) (zj.refl _ j).U id;go_region_held3 (λw'=>ae w' (zq q 1)=ac (zo C)/\ae w' (zq (ak w.heap) 5)=ac (zs s)) (first|exact⟨V,p⟩|exact⟨(R.y i.y λx=>b.qn<|aE x).i 1 rfl,(T.y i.y λh=>l<|aE h).i 5 rfl⟩)
  (first|(go_at_call 81;refine(Ξ C f (.del s) _ K O.o).mono ?_;rintro e w3⟨a3,f3,rfl,i,g⟩))
 go_wp2;refine(sk _ _).mono ?_;rintro e w4⟨rfl,rfl⟩;go_wp2;go_ret;obtain⟨e1,W,X⟩:=b.tw.Aw (c:= .del s) b.ok (by simp[cV,cK,q8]) L g;exact⟨Ë,.lX M<|b.step (E.F1 (zj.refl _ j).U) i W X⟩
def xcs(H q B C:Nat)(n:Nat)(r:Sr)(f:Rf)(o:Sp)(w:Zy)(h:Pr n w q B C r f)(O:n<=1000000)(hk:o.dW=6):aG prog 51 #[zo H,zo q,bM o.G] w λe w'=>e=ah (aX aw)/\Nw w w':=by
 obtain⟨R,a,l,m,k,s,t,j⟩:=o;obtain rfl:R=6:=hk;have y:Nw w<|aB w<|aq (Sp.G ⟨6,a,l,m,k,s,t,j⟩) 69:=zj.E _;have X0:=xh.dT w (Sp.G ⟨6,a,l,m,k,s,t,j⟩) 69;have z:=h.nw y;have T:=X0.i (v:=zi 6) 0 rfl;have i:=X0.i 5 rfl;have L:=z.qb.i 0 rfl;have J:=xe<|h.tw.pl h.ok;have K:=xe<|h.tw.ll h.ok O;have F:=xe<|h.tw.ib h.ok s;go_enter func51.1,mj;go_wp2;generalize aB w (aq (Sp.G ⟨6,a,l,m,k,s,t,j⟩) 69)=w0 at*;have d:=z.nw (zj.refl _ w0).U;have G:=y.aA (zj.refl _ w0).U;have D:=X0.y (S:=λ_=>False) (zj.refl _ w0).U id;go_region_held3 (λw'=>ae w' (zq q 0)=ac (zo B)/\ae w' (zq (ak w.heap) 5)=ac (zs s)) (first|exact⟨L,i⟩|exact⟨(d.nw b).qb.i 0 rfl,(D.y b id).i 5 rfl⟩)
  (first|(go_at_call 32;refine(TF B r s _ d.sa λx Q=>(d.ok.nr x Q).2.1).mono ?_;rintro e p⟨rfl,b⟩))
 have g:=(d.nw b).nw (zj.refl _ p).U;have I:=(G.aA b).aA (zj.refl _ p).U;have E:=(D.y b id).y (S:=λ_=>False) (zj.refl _ p).U id;have i:=E.i (v:=zs s) 5 rfl;have M:=g.qb.i (v:=zo C) 1 rfl;go_wp2;go_region_held3 (λw'=>ae w' (zq q 1)=ac (zo C)/\ae w' (zq (ak w.heap) 5)=ac (zs s)) (first|exact⟨M,i⟩|exact⟨(g.nw c).qb.i 1 rfl,(E.y c id).i 5 rfl⟩)
  (first|(go_at_call 82;refine(xrl C f s _ g.fa K.o J.o).mono ?_;rintro e U⟨rfl,c⟩))
 rw[F.o];go_wp2;refine(sk _ _).mono ?_;rintro e V⟨rfl,rfl⟩;go_wp2;go_ret;exact⟨Ä,I.aA c⟩
def Az(n:Int):Int×Zl:=(-n,lH n)
def ut(n:Int):Ze:=pp<|Az n
def xo4{w v a n}(h:Rw w 110 2 pp v a)(hy:a=bD (aa a) (Az n)):lr 110 2 (ut n) w v:=by
 apply lr.qJ (d:=0) (n:=aa a);have:a.flatMap pp=oI (ut n) (aa a):=by rw[hy];simp only[Zq];unfold oI ut;rw[KT]
 rw[<-this];exact h
def PK(n):∀x∈ut n,x.oneCell'=aw:=λx a=>by simp[ut,pp,Az]at a;obtain rfl|rfl:=a<;>rfl
def PF(w:Zy)(H:Nat)(ps tv:Zv)(n:Int)(fv mv l:Zv)(T:Ze)(M:List Int)(w':Zy):Prop:=∃fv' mv' X,WB w' H ps (n+1) tv fv' mv'/\Rw w' 52 1 sh fv' (T++X)/\Rw w' 3 1 rk mv' (M++[-(n+1)])/\aa X=4/\(∀x∈X,lr 110 2 (ut<|n+1) w' x)/\zj (yv H fv mv l) w w'/\(∀g,fv'.ownBlock=ac g->fv.ownBlock=ac g\/ak w.heap<=g)/\(∀g,mv'.ownBlock=ac g->mv.ownBlock=ac g\/ak w.heap<=g)/\∀x∈X,∀g,x.ownBlock=ac g->l.ownBlock=ac g\/ak w.heap<=g
def xnu(H L tv fv K l)(n:Nat)(T M a w)(J:WB w H L n tv fv K)(hT:Rw w 52 1 sh fv T)(hM:Rw w 3 1 rk K M)(hl:Rw w 110 2 pp l a)(hn:n<=1000000)(hy:aa a<=1000000000)(bp:aa T<=1000000000)(bo:aa M<=1000000000):
  aG prog 85 #[aR<|some ⟨H,1,ar⟩,l] w λe w'=>e=ah (bU #[])/\PF w H L tv n fv K l T M w':=by
 obtain⟨r,s,rfl⟩:=hl.dC;have HT:=hT;have HM:=hM;have HL:=hl;have c1:=J.i 1 rfl;have f1:=J.dG 1;have B1:WB (ai w ⟨H,1,ar⟩<|aH aU<|(n:Int)+1) H L ((n:Int)+1) tv fv K:=J.H 1 _;have E:zj (·=H) w<|ai w ⟨H,1,ar⟩<|aH aU<|(n:Int)+1:=zj.H w ⟨H,1,ar⟩ _;have L1:=hl.y E (hl.gH J Ã);have T1:=hT.y E (hT.gH J Ã);have M1:=hM.y E (hM.gH J Ã);have C1:=E;go_enter func85.1,Tryz.ntmps85;go_wp2;generalize ai w ⟨H,1,ar⟩ (aH aU<|(n:Int)+1)=w1 at*;go_loopw [4] (λi wr=>∃k:Nat,k<=aa a/\i=aH aU k/\zj (λy=>(az r (aa a) s).ownBlock=ac y) w1 wr/\Rw wr 110 2 pp (az r (aa a) s) (bD k (Az<|(n:Int)+1)++a.drop k)) (λi _=>bB (aa a-bP i))
 case atStart=>exact⟨0,À,rfl,zj.refl _ _,L1⟩
 case round=>
  obtain⟨k,hk,rfl,hb,hr⟩:=hrel;have HB:=hb;have W:=hr;have BW:=B1.y hb λe=>L1.gH B1 Ã _ e rfl;have c1:=BW.i (v:=aH aU ((n:Int)+1)) 1 rfl;by_cases bn:k<aa a
  ·have i1:(k:Int)<(aa a:Nat):=by omega
   have i0:(0:Int)<=(k:Int):=À
   rw[Zx bn]at W;obtain⟨g,rfl⟩:∃g,r=ac ⟨g,0,ar⟩:=by obtain⟨g,h,-⟩:=W.kq (λ_=>rfl) (i:=k) Æ rfl;simp_all
   go_wp2;refine(Dp _ À _).mono ?_;rintro e w2⟨rfl,F⟩;have Y:=W.y F λ_ _=>id;have d1:=Y.uf (λ_=>rfl) 0 À;have d2:=Y.uf (λ_=>rfl) 1 À;have d3:=Y.dG<|k*2;have d4:=Y.dG<|k*2+1;rw[Zq,Yy]at d1;rw[Zq]at d2;simp only[pp,qh,Jm]at d1 d2;have R3:=(Y.uj (q:=(-((n:Int)+1),a[k].2)) (λ_=>rfl) 0 (aH aU<|-((n:Int)+1)) À rfl).uj (q:=Az<|(n:Int)+1) (λ_=>rfl) 1 (aj<|st<|lH<|(n:Int)+1) À rfl;rw[Zq,Yy,List.append_cons,<-Gw]at R3;have bk:=R3;have bi:zj (λy=>(az (ac ⟨g,0,ar⟩) (aa a) s).ownBlock=ac y) w1<|ai (ai w2 ⟨g,k*2,ar⟩<|aH aU<|-((n:Int)+1)) ⟨g,k*2+1,ar⟩<|aj<|st<|lH<|(n:Int)+1:=((HB.aA<|F.W λ_=>dI).aA<|(zj.H w2 ⟨g,k*2,ar⟩ _).W λy hy=>hy▸rfl).aA<|(zj.H _ ⟨g,k*2+1,ar⟩ _).W λy hy=>hy▸rfl;go_wp2;go_roundw
   case rel=>exact⟨k+1,À,Å,bi,bk⟩
   case measure=>simp[bP];omega
  ·obtain rfl:k=aa a:=by omega
   have i1:¬(aa a:Int)<(aa a:Nat):=À
   rw[Vl,Xz]at W;have HK:lr 110 2 (ut<|(n:Int)+1) wr<|az r (aa a) s:=by have h:=W;have e:aa (bD (aa a)<|Az<|(n:Int)+1)=aa a:=Zq;exact xo4 h Ě
   have T2:=T1.y HB λg d e=>T1.eF L1 Ã d e;have M2:=M1.y HB λg d e=>M1.eF L1 Ã d e;have X0:Tx 110 2 52 fv (ut<|(n:Int)+1) w wr H L ((n:Int)+1) tv fv K (az r (aa a) s) T M [az r (aa a) s]:=⟨BW,T2,M2,λv o=>(by rw[ju.1 o];exact HK),(C1.W λy hy=>aF hy).aA<|HB.W λy hy=>aE (aE<|aE hy),λv o g d=>aF Ë⟩;go_wp2;refine(Dp _ À _).mono ?_;rintro e w2⟨rfl,F⟩;have X2:=(X0.nw F).nw<|zj.E<|aq #[aH aU<|-((n:Int)+1),aj<|st<|lH<|(n:Int)+1] 110;have N2:xh (aB w2<|aq #[aH aU<|-((n:Int)+1),aj<|st<|lH<|(n:Int)+1] 110) (ak w2.heap) #[aH aU<|-((n:Int)+1),aj<|st<|lH<|(n:Int)+1] 110:=xh.dT _ _ _;go_wp2_with (refine VP (m:=1) (n:=aa a) Ab rfl (PK _) (X2.x _ xu) rfl À Ã (λj x hj=>fY N2 j x hj) rfl rfl rfl rfl ?_);intro v3 w3 h3;obtain⟨O,c3,rfl⟩:=h3.d;have c:=X2.iB Ã xu h3;go_wp2;have S0:=c.b.i (v:=aH aU ((n:Int)+1)) 1 rfl;replace c:=c.nw (zj.refl _ _).U;go_region_held3 (λw'=>ae w' ⟨H,1,ar⟩=ac (aH aU<|(n:Int)+1)) (first|exact S0|exact c.b.i 1 rfl|exact(c.nw<|zj.E _).b.i 1 rfl)
    (first
     |(go_at_call 56;refine(Dp _ À _).mono ?_;rintro e w4⟨rfl,bc⟩;replace c:=c.nw bc;clear bc)
     |(refine IN (m:=2) (n:=aa a) Ab rfl (PK _) ((c.nw<|zj.E _).x _ xu) rfl À Ã (λj x hj=>fY (xh.dT _ _ _) j x hj) rfl rfl rfl rfl ?_;intro v5 w5 h5;obtain⟨Q,S,rfl⟩:=h5.d;replace c:=(c.nw<|zj.E _).iB Ã xu h5;clear h5))
   go_wp2;replace c:=c.nw (zj.refl _ _).U;have S0:=c.b.i (v:=aH aU ((n:Int)+1)) 1 rfl;go_region_held3 (λw'=>ae w' ⟨H,1,ar⟩=ac (aH aU<|(n:Int)+1)) (first|exact S0|exact c.b.i 1 rfl|exact(c.nw<|zj.E _).b.i 1 rfl)
    (first
     |(go_at_call 56;refine(Dp _ À _).mono ?_;rintro e w6⟨rfl,bd⟩;replace c:=c.nw bd;clear bd)
     |(refine IN (m:=3) (n:=aa a) Ab rfl (PK _) ((c.nw<|zj.E _).x _ xu) rfl À Ã (λj x hj=>fY (xh.dT _ _ _) j x hj) rfl rfl rfl rfl ?_;intro v7 w7 h7;obtain⟨R,U,rfl⟩:=h7.d;replace c:=(c.nw<|zj.E _).iB Ã xu h7;clear h7))
   have f:=(c.nw<|zj.E<|aq #[az r (aa a) s,az O (aa a+1) c3,az Q (aa a+2) S,az R (aa a+3) U] 52);have N7:xh (aB w7<|aq #[az r (aa a) s,az O (aa a+1) c3,az Q (aa a+2) S,az R (aa a+3) U] 52) (ak w7.heap) _ 52:=xh.dT _ _ _;obtain⟨at_,ct,rfl⟩:=f.t.dC;have d2:=c.b.i (v:=az at_ (aa T) ct) 3 rfl;go_wp2_with (refine Rw.pX jek [az r (aa a) s,az O (aa a+1) c3,az Q (aa a+2) S,az R (aa a+3) U] f.t À ⟨show 0<4 by decide,show 4<=10 by decide⟩ (λ_=>rfl) N7 rfl Č rfl rfl rfl rfl ?_);intro V c8 G r8 b8 n8;have X8:Rw G 52 1 sh _ _:=r8;have z:WB G H L ((n:Int)+1) tv (az at_ (aa T) ct) K:=f.b.y b8 λe=>f.t.gH f.b Ã _ e rfl;have B9:WB (ai G ⟨H,3,ar⟩<|az (ac ⟨V,0,ar⟩) (aa T+4) c8) H L ((n:Int)+1) tv (az (ac ⟨V,0,ar⟩) (aa T+4) c8) K:=z.H 3 _;have D:zj (·=H) G<|ai G ⟨H,3,ar⟩<|az (ac ⟨V,0,ar⟩) (aa T+4) c8:=zj.H G ⟨H,3,ar⟩ _;have T9:=r8.y D (r8.gH z Ã);have m8:=f.m.y b8 λg d=>f.m.eF f.t Ã d;have M9:=m8.y D (m8.gH z Ã);have be:∀v∈[az r (aa a) s,az O (aa a+1) c3,az Q (aa a+2) S,az R (aa a+3) U],lr 110 2 (ut<|(n:Int)+1) G v:=λv o=>(f.x v o).y b8 λg d e=>Do (f.x v o) f.t Ã e d;have K9:∀v∈[az r (aa a) s,az O (aa a+1) c3,az Q (aa a+2) S,az R (aa a+3) U],lr 110 2 (ut<|(n:Int)+1) (ai G ⟨H,3,ar⟩<|az (ac ⟨V,0,ar⟩) (aa T+4) c8) v:=λv o=>(be v o).y D λg d e=>Fi (be v o) z Ã g d e.symm;have F9:=(f.fr.kL b8 λy hy=>aF (aE<|aF hy)).kL D λy hy=>aF (aF hy);have G9:aK<|(az at_ (aa T) ct).ownBlock=ac V\/ak w.heap<=V:=n8.imp id λh=>Ŏ
   have bl:=f.nb;have e2:=z.i (v:=az at_ (aa T) ct) 3 rfl;have f2:=z.dG 3;go_wp2;generalize ai G ⟨H,3,ar⟩ _=w9 at*;obtain⟨Z,cm,rfl⟩:=M9.dC;have bq:IntKind.i64.wrap (-((n:Int)+1))= -((n:Int)+1):=Ì
   have I:Nw w9 (aB w9<|aq #[aH aU<|-((n:Int)+1)] 3).drew:=(zj.E _).U;have XA:xh (aB w9<|aq #[aH aU<|-((n:Int)+1)] 3).drew (ak w9.heap) #[aH aU<|-((n:Int)+1)] 3:=xh.dT w9 _ _;have BA:=B9.y I id;have MA:=M9.y I λ_ _=>id;have S0:=And.intro (B9.i (v:=az Z (aa M) cm) 4 rfl)<|B9.i (v:=aH aU ((n:Int)+1)) 1 rfl;have S1:=And.intro (BA.i (v:=az Z (aa M) cm) 4 rfl)<|BA.i (v:=aH aU ((n:Int)+1)) 1 rfl;have bj:∀y,(az Z (aa M) cm).ownBlock=ac y->¬y=H:=λy hy=>M9.gH B9 Ã y hy;go_region_law (first|(refine Rw.pW IC (-((n:Int)+1)) MA À XA rfl rfl (Nz _) rfl rfl rfl rfl ?_;intro bb ba B hR J bm;have X:=hR;have C:=J;have bh:=bm;have p:=BA.y C λe=>bj _ e rfl;have f4:=p.dG 4;have e4:=p.i (v:=az Z (aa M) cm) 4 rfl));all_goals
    have D:zj (·=H) B<|ai B ⟨H,4,ar⟩<|az (ac ⟨bb,0,ar⟩) (aa M+1) ba:=zj.H B ⟨H,4,ar⟩ _;have bf:=(T9.y I λ_ _=>id).y C λg d=>(T9.y I λ_ _=>id).eF MA Ã d;have bg:∀v∈[az r (aa a) s,az O (aa a+1) c3,az Q (aa a+2) S,az R (aa a+3) U],lr 110 2 (ut<|(n:Int)+1) B v:=λv o=>((K9 v o).y I λ_ _=>id).y C λg d e=>Do ((K9 v o).y I λ_ _=>id) MA Ã e d;have HF:PF w H L tv n (az at_ (aa T) ct) (az Z (aa M) cm) (az r (aa a) s) T M<|ai B ⟨H,4,ar⟩<|az (ac ⟨bb,0,ar⟩) (aa M+1) ba:=⟨_,_,_,p.H 4 _,bf.y D<|bf.gH p Ã,X.y D<|X.gH p Ã,rfl,λv o=>(bg v o).y D λg d e=>Fi (bg v o) p Ã g d e.symm,((F9.kL I λ_ x=>x.elim).kL C λy hy=>aF (aE<|aE<|aF hy)).kL D λy hy=>aF (aF hy),λg d=>by cases d;exact G9.o,λg d=>by cases d;exact bh.imp id λe=>by rw[e];exact xa F9.J I.J,bl⟩;go_wp2;go_end0;exact⟨rfl,HF⟩
def Ke(lo:Nat)(cv tv:Zv)(S:ZP)(w:Zy):Prop:=∀w',zj S w w'->oe cv tv w'/\pj lo cv tv w'/\Yq w'
def Bx.Κ{B:Nat}{s:kV}{w w':Zy}{e:kU}(h:Bx B r (r.gZ s) w e w'):∃x r',e=ah (zi x)/\Zd B r w r' w'/\FW r s x r':=by obtain⟨v,r',a,b,c⟩|⟨r',a,b,c⟩:=h;exact⟨v,r',b,c,aF a⟩;exact⟨12,r'.jJ,b,c,aE ⟨r',a,rfl,rfl⟩⟩
def Pr.Ε(h:Pr n w q B C r f):rY r.d.L:=by have l:=vA h.tw.tw.gL.ne;have u:=h.ok.pE;have a:=h.ok.bS;exact⟨h.tw.tw.fV,À⟩
def Pr.Cl{n q B C lo:Nat}(h:Pr n w q B C r f)(v:n<1000000)(a:∀x,r.cO B x->lo<=x)(b:4<lo):vq B r:=by have o:=h.ok;have l:=vA h.tw.tw.gL.ne;have u:=o.pE;have g:=o.bS;have c:=o.bA;have p:=o.op;refine⟨o.m,o.bJ,À,À,⟨g.1,À⟩,h.Ε,À,o.nx,λx e=>zm b<|a x e,λs d=>?_⟩;obtain⟨⟨i,j,k⟩,t,-⟩:=o.nr s d;omega
def Pr.FX{s:kV}(h:Pr n w q B C r f)(a:r.sn=ac s)(k:n<1000000):Px r.d f:=by have o:=h.ok;obtain⟨l,p,t,b,v,x⟩:=h.tw.nr s a;obtain⟨⟨e,g,i⟩,j,-⟩:=o.nr s a;have u:=o.pE;have y:=o.bS;have c:=o.bA;refine⟨h.tw.tw,by rw[h.tw.m];exact o.m,by rw[b];exact o.bJ,by rw[h.tw.bA];omega,À, ?_,À⟩;omega
def xjg{cv tv:Zv}{lo:Nat}(q B C:Nat)(n:Nat)(r:Sr)(f:Rf)(sn:kV)(o:Sp)(w:Zy)(h:Pr n w q B C r f)(hE:Ke lo cv tv (qT B C r f) w)(l:∀x,r.cO B x->lo<=x)(h4:4<lo)(p:n<1000000)(M:r.sn=ac sn)(hP:sn.P≠[])(hk:o.dW=8):aG prog 54 #[zo q,bM o.G] w λe w'=>e=ah (aX aw)/\pu (n+1) q B C r f w w':=by
 obtain⟨kd,a,O,m,k,s,t,J⟩:=o;obtain rfl:kd=8:=hk;have j:Nw w<|aB w<|aq (Sp.G ⟨8,a,O,m,k,s,t,J⟩) 69:=zj.E _;have X0:=xh.dT w (Sp.G ⟨8,a,O,m,k,s,t,J⟩) 69;have b:=h.nw j;have c0:=X0.i (v:=zi 8) 0 rfl;have d0:=b.qb.i (v:=aR _) 0 rfl;have V:=h.Cl p l h4;have Z:=h.FX M p;have G:=hE;have W:=l;have i:=M;have H:=hP;have X:=p;go_enter func54.1,hV;go_wp2;generalize aB w _=w0 at*;obtain⟨-,b1,b2,b3,b4,-⟩:=b.ok.nr sn i;have F:=G w0<|j.W λ_=>dI;apply(NW B r sn _ b.sa i V F.1 F.2.1 W b2).mono;intro e w2 z;obtain⟨Q,r2,rfl,g,hx⟩:=z.Κ;have U:=b.su g;have T:=G w2<|(j.W λ_=>dI).aA<|g.y.W λ_=>aF;have I:=g;have HX:=hx;have d1:=(b.qb.y g.y λx=>b.qn<|aF x).i (v:=aR _) 1 rfl;go_wp2;obtain⟨k1,k2,-⟩:=b.tw.nr sn i;apply(xl9 C f r.d _ U Z T.2.2 (b.tw.on i) (by rw[k2];exact H) Â Â (by grind [EY])<|b.tw.ll b.ok (by have:=X;omega)<|b.tw.on i).mono;rintro e w3⟨x3,f3,d3,rfl,D,K,L⟩;have E:Q=x3/\pu (n+1) q B C r f w w3:=by obtain⟨r',y1,R,S⟩:=b.tw.Pv b.ok i H D (λh=>(K h).2) (λv h=>by obtain⟨v0,-,t⟩:=L h;exact⟨t.bS,t.gF,t.gL,t.nA,t.nk,t.fV,t.nx,t.cE,t.jN⟩);obtain⟨z1,z2⟩:=HX.inj y1;subst z1 z2;refine⟨rfl, ?_⟩;by_cases c:Q=0;obtain⟨v,t,-⟩:=L c;exact .lX j<|b.step I t ((S c).1 v) (S c).2;exact .lX j<|b.step I (K c).1 (R c).1 (R c).2
 obtain⟨rfl,y⟩:=E;have Y:=y;go_wp2;apply(sk _ _).mono;rintro e w4⟨rfl,rfl⟩;go_wp2;go_ret;exact⟨Ä,Y⟩
def xzv{b:Nat}{v:Zv}{xs:List Zl}(h:w.ownsRow b 9 1 v (aa xs)<|xs.map encStr):Rw w 9 1 oh v xs:=by
 have e:∀xs:List _,xs.flatMap oh=xs.map encStr:=λxs=>by induction xs with|nil=>rfl|cons x xs ih=>exact congrArg _ ih
 grind [Rw,Da]
def Θ(w:Zy)(H:Nat)(ps fv:Zv)(m:Int)(tv mv:Zv)(T:Ze)(M:List Int)(w':Zy):Prop:=∃l w1,Nw w w1/\(∀g,l.ownBlock=ac g->ak w.heap<=g)/\NL w1 H ps fv m tv mv l T M w'
def xct(H q B C:Nat)(n:Nat)(r:Sr)(f:Rf)(o:Sp)(w:Zy)(h:Pr n w q B C r f)(i:r.sn=ar)(hk:o.dW=7):aG prog 51 #[zo H,zo q,bM o.G] w λe w'=>e=ah (aX aw)/\Nw w w':=by obtain⟨p,a,d,m,k,s,t,c⟩:=o;obtain rfl:p=7:=hk;have g:Nw w<|aB w<|aq (Sp.G ⟨7,a,d,m,k,s,t,c⟩) 69:=zj.E _;have X0:=xh.dT w (Sp.G ⟨7,a,d,m,k,s,t,c⟩) 69;have b:=h.nw g;have j:=i;have x:=X0.i (v:=zi 7) 0 rfl;have y:=b.qb.i (v:=aR _) 0 rfl;have z:=b.qb.i (v:=aR _) 1 rfl;have l:ae (aB w<|aq (Sp.G ⟨7,a,d,m,k,s,t,c⟩) 69) (zq C 11)=ac (aX f.gA):=b.fa.bO.i 11 rfl;rw[h.tw.y' i]at l;go_enter func51.1,mj;go_wp2;generalize aB w _=w0 at*;apply(xh4 B r _ b.sa j).mono;rintro e D⟨rfl,rfl⟩;go_wp2;apply(sk _ _).mono;rintro e E⟨rfl,rfl⟩;go_wp2;go_ret;exact⟨rfl,g⟩
def zy2(H q B C:Nat)(n:Nat)(r:Sr)(sn:kV)(f:Rf)(o:Sp)(w:Zy)(Y tv fv G:Zv)(m:Nat)(T:Ze)(M:List Int)(hB:WB w H Y m tv fv G)(hT:Rw w 49 1 sh tv T)(hM:Rw w 3 1 rk G M)(hm:m<=1000000)(R:aa T<=1000000000)(Q:aa M<=1000000000)(h:Pr n w q B C r f)(y:r.sn=ac sn)(hn:n<=120000)(hk:o.dW=7):aG prog 51 #[zo H,zo q,bM o.G] w λe w'=>e=ah (aX aw)/\Θ w H Y fv m tv G T M w':=by
 obtain⟨kd,a,X,W,k,s,t,O⟩:=o;obtain rfl:kd=7:=hk;have I:Nw w<|aB w<|aq (Sp.G ⟨7,a,X,W,k,s,t,O⟩) 69:=zj.E _;have X0:=xh.dT w (Sp.G ⟨7,a,X,W,k,s,t,O⟩) 69;have J:=h.nw I;have HS:=y;have c0:=X0.i (v:=zi 7) 0 rfl;have d0:=J.qb.i (v:=zo B) 0 rfl;have HW:=hB;have HT:=hT;have HM:=hM;have b:aa sn.j5<=3000000/\(∀p∈sn.j5,aa p.1<=1000000)/\aa sn.P<=20/\aa f.L<=200000000000/\aa f.P<=20/\f.gc=fR sn.j5/\f.gA=aw:=by obtain⟨-,h1,h2,h3,h4,h5⟩:=h.ok.nr sn y;have l:=JV sn.P sn.L;refine⟨by unfold kV.j5;omega,λp hp=>?_,h1,h.tw.ll h.ok À<|h.tw.on y,h.tw.pl h.ok<|h.tw.on y,h.tw.gc h3 y,h.tw.on y⟩;have:=JX sn.P h5 (λc hc=>by have:=h2 c hc;cases c<;>simp only[uD,cK]at* <;>omega) p.1<|List.mem_map_of_mem hp;omega
 go_enter func51.1,mj;go_wp2;generalize aB w (aq (Sp.G ⟨7,a,X,W,k,s,t,O⟩) 69)=w0 at*;refine(xrp B r sn _ J.sa HS b.2.2.1 b.2.1 b.1).mono ?_;rintro e w2⟨v,rfl,d,D⟩;have K:=J.nw D;have N2:=I.aA D;have R2:=xzv d;have G2:∀g,v.ownBlock=ac g->ak w.heap<=g:=λg U=>xa I.J (d.lt g U).1;have d1:=K.qb.i (v:=zo C) 1 rfl;have e1:ae w2 (zq C 11)=ac (aX f.gA):=K.fa.bO.i 11 rfl;rw[b.f]at e1;obtain⟨av,cv,rfl⟩:=R2.dC;go_wp2;refine(MV C f _ K.fa b.c.1 b.d.1).mono ?_;rintro e w3⟨v3,rfl,E,x,-⟩;rw[b.e.1]at x;obtain⟨a3,c3,rfl⟩:=x.dC;have R3:=R2.y E λ_ _=>id;have S3:=x;have N3:=N2.aA E;have ba:aa (fR sn.j5)=aa (Vv sn.j5):=by rw[<-Nv,jl]
 go_wp2;refine(sk _ _).mono ?_;rintro e w4⟨rfl,rfl⟩;go_wp2;have U:∀j (hj:j<aa (Vv sn.j5)),((fR sn.j5)[j]' À).1=(Vv sn.j5)[j]:=λj hj=>by grind [Nv]
 have HG:=xe U;have V:aa (Vv sn.j5)<=1000000000:=by have:=xkz sn.j5;have:=b.1;omega
 go_loopw [18] (λi wr=>∃j:Nat,j<=aa (Vv sn.j5)/\i=zi j/\Nw w4 wr) (λi _=>bB (aa (Vv sn.j5)-bP i))
 case atStart=>grind [zj.refl]
 case round=>
  obtain⟨j,hj,rfl,S⟩:=hrel;have Z:=S;have R5:=R3.y S λ_ _=>id;have S5:=S3.y S λ_ _=>id;by_cases z:j<aa (Vv sn.j5)
  ·have i1:(j:Int)<(aa (Vv sn.j5):Nat):=by omega
   obtain⟨g1,rfl,q1⟩:=R5.kq (λ_=>rfl) z rfl;obtain⟨g2,rfl,q2⟩:=S5.kq (λ_=>rfl) (i:=j) À rfl;have k1:=q1 0 À;have k2:=q2 0 À;simp only[oh,jT,qh,yR,Yy,HG.o j z]at k1 k2;go_wp2;go_big_quiet (fail);go_wp2;go_roundw
   case rel=>exact⟨j+1,À,Å,Z.fg⟩
   grind [bP]
  obtain rfl:j=aa (Vv sn.j5):=À
  have i1:¬(aa (Vv sn.j5):Int)<(aa (Vv sn.j5):Nat):=À
  have F:=N3.aA Z;go_wp2;refine(xvk H Y tv fv G _ m T M (Vv sn.j5) _ (HW.y F id) (HT.y F λ_ _=>id) (HM.y F λ_ _=>id) R5 hm V R Q).mono ?_;rintro e w6⟨rfl,ht⟩;go_wp2;go_ret;exact⟨rfl,_,_,F,G2,ht⟩
def Η(w:Zy)(H:Nat)(ps tv:Zv)(m:Int)(fv mv:Zv)(T:Ze)(M:List Int)(w':Zy):Prop:=∃l w1,Nw w w1/\(∀g,l.ownBlock=ac g->ak w.heap<=g)/\PF w1 H ps tv m fv mv l T M w'
def xyp(H q B C:Nat)(n:Nat)(r:Sr)(f:Rf)(w:Zy)(E tv fv p:Zv)(m:Nat)(T:Ze)(M:List Int)(hB:WB w H E m tv fv p)(hT:Rw w 52 1 sh fv T)(hM:Rw w 3 1 rk p M)(hm:m<=1000000)(y:aa T<=1000000000)(x:aa M<=1000000000)(h:Pr n w q B C r f)(hF:rY r.d.L)(V:aa (tS f)<=1000000000):aG prog 52 #[zo H,zo q] w λe w'=>e=ah (aX aw)/\Η w H E tv m fv p T M w':=by
 have R:=h;have d0:=h.qb.i (v:=zo B) 0 rfl;have HW:=hB;have HT:=hT;have HM:=hM;have O:=h.tw.img;have HF:=hF;go_enter func52.1,Tryz.ntmps52;go_wp2;apply(xic B r _ R.sa HF).mono;rintro e J⟨v,rfl,a,k⟩;have s:=R.nw k;have N2:=k;have Z:∀g,v.ownBlock=ac g->ak w.heap<=g:=λg D=>(a.lt g D).1;have S:Rw J 110 2 pp v<|tS f:=by have h:=Da a<|Zz _;rw[O.1,O.2]at h;exact h
 have t:=s.fa.fs;have d1:=s.qb.i (v:=zo C) 1 rfl;have e1:ae J (zq C 3)=ac f.fv:=s.fa.bO.i 3 rfl;have b:aa (tS f)=aa f.F:=by unfold tS;rw[jl]
 obtain⟨av,cv,W⟩:=S.dC;rw[b]at W;subst W;obtain⟨a3,c3,h3⟩:=t.dC;rw[h3]at e1 t;have D:∀j (o:j<aa f.F) (hi:j<aa (tS f)),(tS f)[j]=((f.F[j]'o).1,(f.F[j]'o).2.1):=λj o hi=>by simp only[tS,CD]
 have HG:=D;have Q:=b;rw[b]at V;go_wp2;go_loopw [7] (λi wr=>∃j:Nat,j<=aa f.F/\i=zi j/\Nw J wr) (λi _=>bB (aa f.F-bP i))
 case atStart=>grind [zj.refl]
 case round=>
  obtain⟨j,o,rfl,z⟩:=hrel;have K:=z;have U:=S.y z λ_ _=>id;have S5:=t.y z λ_ _=>id;by_cases c:j<aa f.F
  ·have i1:(j:Int)<(aa f.F:Nat):=by omega
   obtain⟨g1,rfl,G⟩:=U.kq (λ_=>rfl) (by rw[Q];exact c) rfl;obtain⟨g2,rfl,I⟩:=S5.kq (λ_=>rfl) À rfl;have X:=G 0 À;have Y:=G 1 À;have k3:=I 0 À;have k4:=I 1 À;rw[HG j c Â]at X Y;simp only[pp,lp,qh,Jm,Yy]at X Y k3 k4;clear G I;go_wp2;go_big_quiet (fail);go_wp2;go_roundw
   case rel=>exact⟨j+1,À,Å,K.fg⟩
   grind [bP]
  obtain rfl:j=aa f.F:=À
  have l:=N2.aA K;go_wp2;apply(xnu H E tv fv p _ m T M (tS f) _ (HW.y l id) (HT.y l λ_ _=>id) (HM.y l λ_ _=>id) U hm (by rw[Q];exact V) y x).mono;rintro e w6⟨rfl,ht⟩;go_wp2;go_ret;exact⟨rfl,_,_,l,Z,ht⟩
def vT(M:List Int):Nat:=aa (M.filter λm=>bI (0<m))
def vR(M:List Int):Nat:=aa (M.filter λm=>!bI (0<m))
structure Ζ(w:Zy)(T F:Ze)(M:List Int):Prop where
 tl:aa T=4*vT M
 fl:aa F=4*vR M
 tx:∀i (h:i<aa M),0<M[i]->∀k,k<4->∃v,T[4*vT (M.take i)+k]?=ac v/\lr 9 1 (uJ M[i]) w v
 fx:∀i (h:i<aa M),¬0<M[i]->∀k,k<4->∃v,F[4*vR (M.take i)+k]?=ac v/\lr 110 2 (ut<|-M[i]) w v
 bd:∀m∈M,-1000000000<=m/\m<=1000000000
def xkl{M:List Int}{i:Nat}(h:i<aa M):vT (M.take<|i+1)=vT (M.take i)+(if 0<M[i]then 1 else 0)/\vR (M.take<|i+1)=vR (M.take i)+(if 0<M[i]then 0 else 1):=by unfold vT vR;rw[zp h,Yu,Yu,zx,zx];grind
def Μ(M:List Int)(i:Nat):vT (M.take i)<=vT M/\vR (M.take i)<=vR M:=by constructor;exact(List.Sublist.filter _<|List.take_sublist i M).length_le;exact(List.Sublist.filter _<|List.take_sublist i M).length_le
def Ι{e k n:Nat}{u:Ze}{v:Zv}(h:w.ownsRow 0 e k v n<|oI u n)(b:aa u=k){x:Nat}(hx:x<n){a:Option Addr}{cap:Nat}(c:v=az a n cap):∃g,a=ac ⟨g,0,ar⟩/\∀i,i<k->ae w (zq g<|x*k+i)=u[i]?:=by
 have r:Rw w e k (λ_:Unit=>u) v<|List.replicate n ():=by unfold Rw;rw[Zq,KT];exact h
 obtain⟨g,d,f⟩:=r.kq (λ_=>b) (i:=x) Â c;grind
def xqi(H:Nat)(ps tv fv mv:Zv)(n:Int)(T F:Ze)(M:List Int)(w:Zy)(hB:WB w H ps n tv fv mv)(hT:Rw w 49 1 sh tv T)(hF:Rw w 52 1 sh fv F)(hM:Rw w 3 1 rk mv M)(hO:Ζ w T F M)(hl:aa M<=1000000000):aG prog 30 #[aR<|some ⟨H,1,ar⟩] w λe w'=>e=ah (aX aw)/\Nw w w':=by
 obtain⟨at_,ct,rfl⟩:=hT.dC;obtain⟨af,cf,rfl⟩:=hF.dC;obtain⟨am,cm,rfl⟩:=hM.dC;have HB:=hB;have HT:=hT;have HF:=hF;have HM:=hM;have HO:=hO;have br:vT M<=aa M:=J0 _ _;have bp:vR M<=aa M:=J0 _ _;have HC:aK<|∀w',Nw w w'->ae w' ⟨H,2,ar⟩=ac (az at_ (aa T) ct)/\ae w' ⟨H,3,ar⟩=ac (az af (aa F) cf)/\ae w' ⟨H,4,ar⟩=ac (az am (aa M) cm):=λw' h=>⟨(HB.y h id).i 2 rfl,(HB.y h id).i 3 rfl,(HB.y h id).i 4 rfl⟩;clear hB hT hF hM hO;go_enter func30.1,Tryz.ntmps30;go_wp2;go_loopw [3,4,5] (λt f i wr=>∃q p4 r4:Nat,q<=aa M/\i=aH aU q/\t=aH aU (p4:Int)/\f=aH aU (r4:Int)/\(4*vT (M.take q)=p4/\4*vR (M.take q)=r4)/\Nw w wr) (λ_ _ i _=>bB (aa M-bP i))
 case atStart=>exact⟨0,0,0,À,rfl,rfl,rfl,⟨rfl,rfl⟩,zj.refl _ _⟩
 case round=>
  obtain⟨q,p4,r4,hq,rfl,rfl,rfl,⟨V,W⟩,g⟩:=hrel;have bk:=V;have bl:=xe W;have Y:=xe g;have c:=HC.o _ g;clear g;by_cases D:q<aa M
  ·have i1:(q:Int)<(aa M:Nat):=by omega
   have i0:(0:Int)<=(q:Int):=À
   obtain⟨gm,rfl,em⟩:=(HM.y Y.o λ_ _=>id).sY (u:=aH aU) (λ_=>rfl) D rfl;have bo:=HO.bd _<|Xk D;have be:=xkl D;have bq:=Μ M q;have bj:=Μ M<|q+1;have O:=xe<|HO.tx q D;have K:=xe<|HO.fx q D;have bb:=xe HO.tl;have ba:=xe HO.fl;have bn:aa T<=4000000000:=ŋ
   have bm:aa F<=4000000000:=by have:=ba.o;omega
   have B:=xe be;clear be;go_wp2;clear c em;by_cases hp:0<M[q];focus
    rw[if_pos hp,if_pos hp]at B;replace O:=xe<|O.o hp;have bh:=B.o.1;generalize vT (M.take q)=p at*;generalize vR (M.take q)=r at*;generalize M[q]=m at*;go_loopw [3,4,7] (λt f k wr=>∃j a:Nat,j<=4/\k=aH aU j/\t=aH aU (a:Int)/\a=4*p+j/\f=aH aU (r4:Int)/\Nw w wr) (λ_ _ k _=>bB (4-bP k))
    case atStart=>exact⟨0,p4,À,rfl,rfl,À,rfl,Y.o⟩
    case round=>
     obtain⟨j,a,hj,rfl,rfl,y,rfl,g⟩:=hrel;have L:=xe y;have Q:=xe g;clear g Y;by_cases U:j<4
     ·have j1:(j:Int)<4:=by omega
      obtain⟨v,J,hk⟩:=O.o j U;rw[<-y]at J;have d:a<aa T:=ŋ
      obtain⟨C,rfl,S⟩:=HT.sY (u:=id) (λ_=>rfl) d rfl;obtain⟨b,⟨av,I,rfl⟩,l⟩:=hk.sE rfl;have e1:T[a]=az av b I:=by rw[Jc d]at J;exact ql J
      rw[e1]at S;have HR:=xe l;have HE:=xe S;have k0:(0:Int)<=(a:Int):=À
      have k1:(a:Int)<(aa T:Nat):=À
      clear J hk e1 S l y V W;have bg:b<=9223372036854775807:=ö
      go_wp2;go_loopw [8] (λxv wr=>∃x:Nat,x<=b/\xv=aH aU x/\Nw w wr) (λxv _=>bB (b-bP xv))
      case atStart=>exact⟨0,À,rfl,Q.o⟩
      case round=>
       obtain⟨x,hx,rfl,g⟩:=hrel;have R:=xe g;have G:aK<|∀w',Nw w w'->ae w' ⟨H,2,ar⟩=ac (az (ac ⟨C,0,ar⟩) (aa T) ct)/\ae w' ⟨C,a,ar⟩=ac (az av b I):=λw' h=>⟨(HC.o w' h).1,h.i id HE.o⟩;have c:=G.o _ g;clear g Q;by_cases X:x<b
       ·have x1:(x:Int)<(b:Nat):=by omega
        obtain⟨z,rfl,Z⟩:=Ι HR.o rfl X rfl;have s:ae w ⟨z,x*1,ar⟩=ac (aj<|st<|lH m):=Z 0 À;rw[yR]at s;have x0:(0:Int)<=(x:Int):=À
        have HG:=xe s;have o:aK<|∀w',Nw w w'->ae w' ⟨H,2,ar⟩=ac (az (ac ⟨C,0,ar⟩) (aa T) ct)/\ae w' ⟨C,a,ar⟩=ac (az (ac ⟨z,0,ar⟩) b I)/\ae w' ⟨z,x,ar⟩=ac (aj<|st<|lH m):=λw' h=>⟨(G.o w' h).1,(G.o w' h).2,h.i id HG.o⟩;have bi:((st<|lH m).toList==(st<|lH m).toList)=aw:=Ä
        clear Z s G;go_wp2;clear c;have S0:=o.o _ R.o;have ND:aK<|Nw w wr.drew:=R.o.U;have S1:=o.o _ ND.o;go_region_held3 (λw'=>ae w' ⟨H,2,ar⟩=ac (az (ac ⟨C,0,ar⟩) (aa T) ct)/\ae w' ⟨C,a,ar⟩=ac (az (ac ⟨z,0,ar⟩) b I)/\ae w' ⟨z,x,ar⟩=ac (aj<|st<|lH m)) (first|exact S0|exact S1|exact S2)
         ((go_at_call 55;refine(Dq m _).mono ?_;rintro e w4⟨rfl,E⟩;have N4:=xe<|ND.o.aA E;have S2:=o.o _ N4.o;clear E))
        all_goals
         go_wp2;exact⟨⟨x+1,À,Å,N4.o⟩,ê⟩
       have x1:¬(x:Int)<(b:Nat):=À
       go_wp2;exact⟨⟨j+1,a+1,À,Å,Å,by have:=L.o;omega,rfl,R.o⟩,ê⟩
     have j1:¬(j:Int)<4:=À
     go_wp2;exact⟨⟨q+1,a,r4,À,Å,rfl,rfl,⟨À,by rw[B.o.2];omega⟩,Q.o⟩,ê⟩
   rw[if_neg hp,if_neg hp]at B;replace K:=xe<|K.o<|Int.not_lt.1 hp;have bh:=B.o.2;generalize vT (M.take q)=p at*;generalize vR (M.take q)=r at*;generalize M[q]=m at*;have FO:aK<|∀w,aG prog 56 #[aH aU<|-m] w λe w'=>e=ah (bM #[aH aU m,aj<|st<|lH<|-m])/\Nw w w':=λw=>by have:=Dp (-m) À w;simp_all
   have bs:IntKind.i64.wrap (-m)= -m:=Ì
   go_loopw [3,4,7] (λt f k wr=>∃j a:Nat,j<=4/\k=aH aU j/\t=aH aU (p4:Int)/\a=4*r+j/\f=aH aU (a:Int)/\Nw w wr) (λ_ _ k _=>bB (4-bP k))
   case atStart=>exact⟨0,r4,À,rfl,rfl,À,rfl,Y.o⟩
   case round=>
    obtain⟨j,a,hj,rfl,rfl,y,rfl,g⟩:=hrel;have L:=xe y;have Q:=xe g;clear g Y;by_cases U:j<4
    ·have j1:(j:Int)<4:=by omega
     obtain⟨v,J,hk⟩:=K.o j U;rw[<-y]at J;have d:a<aa F:=by have:=ba.o;omega
     obtain⟨C,rfl,S⟩:=HF.sY (u:=id) (λ_=>rfl) d rfl;obtain⟨b,⟨av,I,rfl⟩,l⟩:=hk.sE rfl;have e1:F[a]=az av b I:=by rw[Jc d]at J;exact ql J
     rw[e1]at S;have HR:=xe l;have HE:=xe S;have k0:(0:Int)<=(a:Int):=À
     have k1:(a:Int)<(aa F:Nat):=À
     clear J hk e1 S l y V W;have bg:b<=9223372036854775807:=ö
     go_wp2;go_loopw [9] (λxv wr=>∃x:Nat,x<=b/\xv=aH aU x/\Nw w wr) (λxv _=>bB (b-bP xv))
     case atStart=>exact⟨0,À,rfl,Q.o⟩
     case round=>
      obtain⟨x,hx,rfl,g⟩:=hrel;have R:=xe g;have G:aK<|∀w',Nw w w'->ae w' ⟨H,3,ar⟩=ac (az (ac ⟨C,0,ar⟩) (aa F) cf)/\ae w' ⟨C,a,ar⟩=ac (az av b I):=λw' h=>⟨(HC.o w' h).2.1,h.i id HE.o⟩;have c:=G.o _ g;clear g Q;by_cases X:x<b
      ·have x1:(x:Int)<(b:Nat):=by omega
       obtain⟨z,rfl,Z⟩:=Ι HR.o rfl X rfl;have s:ae w ⟨z,x*2,ar⟩=ac (aH aU<|- -m):=Z 0 À;have bc:ae w ⟨z,x*2+1,ar⟩=ac (aj<|st<|lH<|-m):=Z 1 À;rw[Int.neg_neg]at s;have bf:=xe bc;have x0:(0:Int)<=(x:Int):=À
       have HG:=xe s;have o:aK<|∀w',Nw w w'->ae w' ⟨H,3,ar⟩=ac (az (ac ⟨C,0,ar⟩) (aa F) cf)/\ae w' ⟨C,a,ar⟩=ac (az (ac ⟨z,0,ar⟩) b I)/\ae w' ⟨z,x*2,ar⟩=ac (aH aU m)/\ae w' ⟨z,x*2+1,ar⟩=ac (aj<|st<|lH<|-m):=λw' h=>⟨(G.o w' h).1,(G.o w' h).2,h.i id HG.o,h.i id bf.o⟩;have bi:((st<|lH<|-m).toList==(st<|lH<|-m).toList)=aw:=Ä
       clear Z s bc G;go_wp2;clear c;have S0:=o.o _ R.o;have ND:aK<|Nw w wr.drew:=R.o.U;have S1:=o.o _ ND.o;go_region_held3 (λw'=>ae w' ⟨H,3,ar⟩=ac (az (ac ⟨C,0,ar⟩) (aa F) cf)/\ae w' ⟨C,a,ar⟩=ac (az (ac ⟨z,0,ar⟩) b I)/\ae w' ⟨z,x*2,ar⟩=ac (aH aU m)/\ae w' ⟨z,x*2+1,ar⟩=ac (aj<|st<|lH<|-m)) (first|exact S0|exact S1|exact S2)
        ((go_at_call 56;refine(FO.o _).mono ?_;rintro e w4⟨rfl,E⟩;have N4:=xe<|ND.o.aA E;have S2:=o.o _ N4.o;clear E))
       all_goals
        go_wp2;exact⟨⟨x+1,À,Å,N4.o⟩,ê⟩
      have x1:¬(x:Int)<(b:Nat):=À
      go_wp2;exact⟨⟨j+1,a+1,À,Å,rfl,by have:=L.o;omega,Å,R.o⟩,ê⟩
    have j1:¬(j:Int)<4:=À
    go_wp2;exact⟨⟨q+1,p4,a,À,Å,rfl,rfl,⟨by rw[B.o.1];omega,À⟩,Q.o⟩,ê⟩
  obtain rfl:q=aa M:=À
  have i1:¬(aa M:Int)<(aa M:Nat):=À
  go_wp2;go_ret;exact⟨rfl,Y.o⟩
def xcz(q B C:Nat)(n:Nat)(r:Sr)(f:Rf)(o:Sp)(w:Zy)(h:Pr n w q B C r f)(hk:o.dW=3):aG prog 54 #[zo q,bM o.G] w λe w'=>e=ah (aX aw)/\pu n q B C r f w w':=by
 obtain⟨G,a,z,m,k,s,t,y⟩:=o;obtain rfl:G=3:=hk;have p:Nw w<|aB w<|aq (Sp.G ⟨3,a,z,m,k,s,t,y⟩) 69:=zj.E _;have X0:=xh.dT w (Sp.G ⟨3,a,z,m,k,s,t,y⟩) 69;have b:=h.nw p;have H:=X0.i (v:=zi 3) 0 rfl;have I:=b.qb.i (v:=aR _) 0 rfl;go_enter func54.1,hV;go_wp2;generalize aB w _=w0 at*;obtain⟨g,i⟩:∃g,(if r.sn.isSome=aw then(0:Int)else 5)=g:=⟨_,rfl⟩;have l:=i;have E:aK<|(if f.gA=aw then(0:Int)else 5)=g:=by show _=_;rw[b.tw.gA];exact l
 apply(xll B r _ b.sa).mono;rintro e K⟨d,c⟩;rw[l]at d;subst d;have D:=b.su c;have F:=c;have J:=(b.qb.y c.y λx=>b.qn<|aF x).i (v:=aR _) 1 rfl;go_wp2;apply(xhx C f _ D).mono;rintro e L⟨d,j⟩;rw[E.o]at d;subst d;go_wp2;apply(sk _ _).mono;rintro e M⟨rfl,rfl⟩;go_wp2;go_ret;exact⟨Ä,.lX p<|b.step F j b.tw.jJ b.ok.jJ⟩
def xc0(q B C:Nat)(n:Nat)(r:Sr)(f:Rf)(o:Sp)(w:Zy)(h:Pr n w q B C r f)(hk:o.dW=11):aG prog 54 #[zo q,bM o.G] w λe w'=>e=ah (aX aw)/\Nw w w':=by obtain⟨j,a,d,m,k,s,t,c⟩:=o;obtain rfl:j=11:=hk;have g:Nw w<|aB w<|aq (Sp.G ⟨11,a,d,m,k,s,t,c⟩) 69:=zj.E _;have X0:=xh.dT w (Sp.G ⟨11,a,d,m,k,s,t,c⟩) 69;have b:=h.nw g;have l:=X0.i (v:=zi 11) 0 rfl;have p:=b.qb.i (v:=aR _) 0 rfl;have x:=b.qb.i (v:=aR _) 1 rfl;have i:ae (aB w<|aq (Sp.G ⟨11,a,d,m,k,s,t,c⟩) 69) (zq C 8)=ac (zi f.bA):=b.fa.bO.i 8 rfl;rw[h.tw.bA]at i;go_enter func54.1,hV;go_wp2;generalize aB w _=w0 at*;apply(MG B r _ b.sa).mono;rintro e y⟨rfl,rfl⟩;go_wp2;go_ret;exact⟨Ä,g⟩
def xje(q:Nat)(o:Sp)(w:Zy)(hk:o.dW≠2/\o.dW≠3/\o.dW≠8/\o.dW≠9/\o.dW≠11/\o.dW≠13/\o.dW≠14):aG prog 54 #[zo q,bM o.G] w λe w'=>e=ah (aX aw)/\Nw w w':=by obtain⟨b,a,d,m,k,s,t,c⟩:=o;obtain⟨g,h,i,j,l,n,p⟩:=hk;have r:(b==2)=ao:=We g;have x:(b==3)=ao:=We h;have y:(b==8)=ao:=We i;have z:(b==9)=ao:=We j;have B:(b==11)=ao:=We l;have C:(b==13)=ao:=We n;have D:(b==14)=ao:=We p;have f:Nw w<|aB w<|aq (Sp.G ⟨b,a,d,m,k,s,t,c⟩) 69:=zj.E _;have X0:=xh.dT w (Sp.G ⟨b,a,d,m,k,s,t,c⟩) 69;have E:=X0.i (v:=zi b) 0 rfl;go_enter func54.1,hV;go_wp2;generalize aB w (aq (Sp.G ⟨b,a,d,m,k,s,t,c⟩) 69)=w0 at*;refine(sk _ _).mono ?_;rintro e F⟨rfl,rfl⟩;go_wp2;go_ret;exact⟨rfl,f⟩
def xc1(q B C:Nat)(n:Nat)(r:Sr)(f:Rf)(o:Sp)(w:Zy)(h:Pr n w q B C r f)(hk:o.dW=9)(U:0<=o.n/\jS o.n)(T:0<=o.m/\jS o.m):aG prog 54 #[zo q,bM o.G] w λe w'=>e=ah (aX aw)/\pu n q B C r f w w':=by
 obtain⟨V,a,i,m,k,s,t,G⟩:=o;obtain rfl:V=9:=hk;obtain⟨i,rfl⟩:∃x:Nat,i=x:=⟨bB i,Â⟩;obtain⟨m,rfl⟩:∃x:Nat,m=x:=⟨bB m,Â⟩;have D:Nw w<|aB w<|aq (Sp.G ⟨9,a,i,m,k,s,t,G⟩) 69:=zj.E _;have X0:=xh.dT w (Sp.G ⟨9,a,i,m,k,s,t,G⟩) 69;have E:=h.nw D;have J:=U;have I:=T;have W:=X0.i (v:=zi 9) 0 rfl;have z:=X0.i 2 rfl;have c3:=X0.i 3 rfl;have M:=E.qb.i 0 rfl;have j:¬qT B C r f (ak w.heap):=λx=>CG _<|h.lt x;go_enter func54.1,hV;go_wp2;generalize aB w _=w0 at*;have d:=E.nw (zj.refl _ w0).U;have L:=D.aA (zj.refl _ w0).U;have y:=X0.y (S:=λ_=>False) (zj.refl _ w0).U id;go_region_held3 (λw'=>ae w' (zq q 0)=ac (zo B)/\ae w' (zq (ak w.heap) 2)=ac (zi i)/\ae w' (zq (ak w.heap) 3)=ac (zi m)) (first|exact⟨M,z,c3⟩|exact⟨(d.qb.y c.y λx=>d.qn<|aF x).i 0 rfl,(y.y c.y λh=>j<|aF h).i 2 rfl,(y.y c.y λh=>j<|aF h).i 3 rfl⟩)
  (first|(go_at_call 21;apply(xlm B r i m _ d.sa).mono;rintro e p⟨rfl,b,c⟩))
 have K:=c;have H:=(d.su c).y (zj.refl _ p).U;have l:=(y.y c.y λh=>j<|aF h).y (S:=λ_=>False) (zj.refl _ p).U id;have F:=(d.qb.y c.y λx=>d.qn<|aF x).y (S:=λ_=>False) (zj.refl _ p).U id;have z:=l.i 2 rfl;have c3:=l.i 3 rfl;have O:=F.i 1 rfl;go_wp2;go_region_held3 (λw'=>ae w' (zq q 1)=ac (zo C)/\ae w' (zq (ak w.heap) 2)=ac (zi i)/\ae w' (zq (ak w.heap) 3)=ac (zi m)) (first|exact⟨O,z,c3⟩|exact⟨(F.y g.y λx=>d.qn<|aE x).i 1 rfl,(l.y g.y λh=>j<|aE h).i 2 rfl,(l.y g.y λh=>j<|aE h).i 3 rfl⟩)
  (first|(go_at_call 90;apply(xh0 C f i m À À _ H).mono;rintro e X⟨rfl,g⟩))
 go_wp2;apply(sk _ _).mono;rintro e Y⟨rfl,rfl⟩;go_wp2;go_ret;obtain⟨Q,R⟩:=d.tw.iU d.ok b J I;exact⟨rfl,.lX L<|d.step (K.F1 (zj.refl _ p).U) g Q R⟩
def xc2{cv tv:Zv}{lo:Nat}(q B C:Nat)(n:Nat)(r:Sr)(f:Rf)(sn:kV)(o:Sp)(w:Zy)(h:Pr n w q B C r f)(T:Ke lo cv tv (qT B C r f) w)(d:∀x,r.cO B x->lo<=x)(S:4<lo)(j:n<1000000)(H:r.sn=ac sn)(U:sn.P=[])(hk:o.dW=8):aG prog 54 #[zo q,bM o.G] w λe w'=>e=ah (aX aw)/\pu n q B C r f w w':=by
 obtain⟨X,a,I,m,k,s,t,G⟩:=o;obtain rfl:X=8:=hk;have i:Nw w<|aB w<|aq (Sp.G ⟨8,a,I,m,k,s,t,G⟩) 69:=zj.E _;have X0:=xh.dT w (Sp.G ⟨8,a,I,m,k,s,t,G⟩) 69;have b:=h.nw i;have c0:=X0.i (v:=zi 8) 0 rfl;have d0:=b.qb.i (v:=aR _) 0 rfl;have K:=h.Cl j d S;have HW:=h.FX H j;have E:=T;have L:=d;have g:=H;have F:=U;have HN:=j;go_enter func54.1,hV;go_wp2;generalize aB w _=w0 at*;obtain⟨-,b1,R,b3,b4,-⟩:=b.ok.nr sn g;have D:=E w0<|i.W λ_=>dI;apply(NW B r sn _ b.sa g K D.1 D.2.1 L R).mono;intro e Y y;obtain⟨x2,r2,rfl,c,V⟩:=y.Κ;have J:=b.su c;have E2:=E Y<|(i.W λ_=>dI).aA<|c.y.W λ_=>aF;have O:=c;have Q:=V;have d1:=(b.qb.y c.y λx=>b.qn<|aF x).i (v:=aR _) 1 rfl;go_wp2;obtain⟨k1,W,-⟩:=b.tw.nr sn g;apply(xig C f _ J (b.tw.on g)<|by rw[W];exact F).mono;rintro e Z⟨rfl,l⟩;have z:x2=0/\pu n q B C r f w Z:=by
  have e:r.gZ sn=(ac 0,r):=by unfold Sr.gZ;rw[if_pos<|by rw[F]]
  obtain h|⟨r0,h,-⟩:=Q;rw[e]at h;cases h;exact⟨rfl,.lX i<|b.step O l b.tw b.ok⟩;grind
 obtain⟨rfl,p⟩:=z;have M:=p;go_wp2;apply(sk _ _).mono;rintro e w4⟨rfl,rfl⟩;go_wp2;go_ret;exact⟨rfl,M⟩
def zwb(q B C:Nat)(n:Nat)(r:Sr)(f:Rf)(o:Sp)(w:Zy)(h:Pr n w q B C r f)(j:r.sn=ar)(hk:o.dW=8):aG prog 54 #[zo q,bM o.G] w λe w'=>e=ah (aX aw)/\Nw w w':=by obtain⟨l,a,i,m,k,s,t,g⟩:=o;obtain rfl:l=8:=hk;have d:Nw w<|aB w<|aq (Sp.G ⟨8,a,i,m,k,s,t,g⟩) 69:=zj.E _;have X0:=xh.dT w (Sp.G ⟨8,a,i,m,k,s,t,g⟩) 69;have b:=h.nw d;have p:=X0.i (v:=zi 8) 0 rfl;have x:=b.qb.i (v:=aR _) 0 rfl;have y:=b.qb.i (v:=aR _) 1 rfl;have c:=j;go_enter func54.1,hV;go_wp2;generalize aB w _=w0 at*;apply(xl8 B r _ b.sa c).mono;rintro e z⟨rfl,rfl⟩;go_wp2;apply(xih C f _ b.fa<|b.tw.y' c).mono;rintro e D⟨rfl,rfl⟩;go_wp2;apply(sk _ _).mono;rintro e E⟨rfl,rfl⟩;go_wp2;go_ret;exact⟨rfl,d⟩
def zza(q B C:Nat)(n:Nat)(r:Sr)(f:Rf)(o:Sp)(w:Zy)(h:Pr n w q B C r f)(hk:o.dW=9)(y:o.n<0\/o.m<0):aG prog 54 #[zo q,bM o.G] w λe w'=>e=ah (aX aw)/\Nw w w':=by
 obtain⟨z,a,b,m,k,s,t,j⟩:=o;obtain rfl:z=9:=hk;have d:Nw w<|aB w<|aq (Sp.G ⟨9,a,b,m,k,s,t,j⟩) 69:=zj.E _;have X0:=xh.dT w (Sp.G ⟨9,a,b,m,k,s,t,j⟩) 69;have g:=h.nw d;have c:=y;have D:=X0.i (v:=zi 9) 0 rfl;have i:=X0.i 2 rfl;have c3:=X0.i 3 rfl;have p:=g.qb.i 0 rfl;have x:=g.qb.i 1 rfl;go_enter func54.1,hV;go_wp2;generalize aB w _=w0 at*;have l:=(d.aA (zj.refl _ w0).U).aA (zj.refl _ w0.drew).U;go_region_held3 (λw'=>ae w' (zq q 0)=ac (zo B)/\ae w' (zq (ak w.heap) 2)=ac (zi b)/\ae w' (zq (ak w.heap) 3)=ac (zi m)) (exact⟨p,i,c3⟩)
  (first|(go_at_call 21;apply(xhz B b m c _).mono;rintro e E⟨rfl,rfl⟩))
 go_wp2;go_region_held3 (λw'=>ae w' (zq q 1)=ac (zo C)/\ae w' (zq (ak w.heap) 2)=ac (zi b)/\ae w' (zq (ak w.heap) 3)=ac (zi m)) (exact⟨x,i,c3⟩)
  (first|(go_at_call 90;apply(xhy C b m c _).mono;rintro e F⟨rfl,rfl⟩))
 go_wp2;apply(sk _ _).mono;rintro e G⟨rfl,rfl⟩;go_wp2;go_ret;exact⟨rfl,l⟩
end
end
section
variable {Q:Exit→jG→Zy→Prop}
def Rw.F0{α:Type}{ops:Array fj}{rest:List fj}{o:fj}{a:jG}{s x:Operand}{W:Zy}{t e k c:Nat}{ad:Addr}{f:α->Ze}{v:Zv}{l:List α}(E:El t e k)(bs:List α)(h:Rw W e k f v l)(O:aa l<=100000000)(G:0<aa bs/\aa bs<=100000000)(D:∀a,aa (f a)=k)(w:∀j u,(bs.flatMap f)[j]?=ac u->ae W (ad.add j)=ac u)(p:∀u∈bs.flatMap f,u.oneCell'=aw)
  (K:a.eval s=v)(hx:a.eval x=az (ac ad) (aa bs) c)(d:o.guard=ar)(ho:o.op= .call {callee:= .builtin .append,args:=#[s,x],argTypes:=#[t,t]})
  (H:∀g cap w',Rw w' e k f (az (ac ⟨g,0,ar⟩) (aa l+aa bs) cap) (l++bs)->zj (λy=>v.ownBlock=ac y) W w'->(v.ownBlock=ac g\/ak W.heap<=g)->wpList prog ops Q rest (a.put o.dst<|az (ac ⟨g,0,ar⟩) (aa l+aa bs) cap) w'):wpList prog ops Q (o::rest) a W:=by
 obtain⟨i,z,F,L,m,C,n⟩:=E.Dh;refine AL d λ_ B=>wp_append_lies _ s x t ho 0 e i z k i.bytes E.yi F L m rfl n E.gX v (aa l) _ K h ad (aa bs) c _ hx (yk D bs) w p G.1 Ø ?_ (Zz _) _ rfl ?_;have:(aa l+aa bs)*i.bytes<=200000000*100:=D6 À C;omega;intro g cap w' M b r _;refine B _ _<|H g cap w' ?_ ⟨b.os,b.output,b.size,λq J I=>b.block q J λe=>I e.symm⟩<|r.imp id λe=>Nat.le_of_eq e.symm;grind [Rw]
def Rw.FY{α:Type}(w:Zy)(e k)(f:α->Ze):Rw (aB w<|aq #[] e) e k f (az (ac ⟨ak w.heap,0,ar⟩) 0 0) []:=by refine⟨Ä,aE ⟨ak w.heap,0,#[],rfl,Zz _,xh.dT w #[] e,zd 0,Zz _,Ä,Ä⟩⟩
def Rw.fsl{w g n c l m}(h:Rw w 110 2 pp (az (ac ⟨g,0,ar⟩) n c)<|l++m):JZ w (az (ac ⟨g,0,ar⟩) (aa l) c) l:=by refine⟨_,g,c,rfl,λ_=>rfl,λi f=>?_⟩;obtain⟨j,e,d⟩:=h.kq (λ_=>rfl) (i:=i) Â rfl;cases e;have a:=d 0 À;have b:=d 1 À;rw[KP f]at a b;exact⟨a,b⟩
def zpr{P w}(base)(t ty e:Zt)(i:TypeInfo)(b)(h:P.underlying t=ac (.slice e))(f:P.info? e=ac i)
  (v n xs)(a:w.ownsRow base e b v n xs)(ad c):
  (Builtin.append_ #[t,t] ty #[v,az (ac ad) 0 c]).run P w=cT v w:=by
 obtain⟨rfl,rfl⟩|⟨g,j,k,rfl,_,_,d,_⟩:=a.2;simp[Builtin.append_,xo h,sizeOf,typeInfo,f,Builtin.lenOf,Builtin.firstCells,loadCells,loadCellsFrom];simp[Builtin.append_,xo h,sizeOf,typeInfo,f,Builtin.lenOf,Builtin.firstCells,d,loadCells,loadCellsFrom,storeCells]
def FA(lo:Nat)(w:Zy)(v:Zv)(l:FL):Prop:=∃a cap,v=az a (aa l) cap/\(a=ar->cap=0/\l=[])/\∀i (h:i<aa l),∃g off,a=ac ⟨g,off,ar⟩/\g<lo/\ae w (zq g<|off+i*2)=ac (zi l[i].1)/\ae w (zq g<|off+i*2+1)=ac (aj<|st l[i].2)
def FA.y{lo w w' v l S}(h:FA lo w v l)(d:zj S w w')(r:∀x,S x->lo<=x):FA lo w' v l:=by
 obtain⟨a,b,m,n,o⟩:=h;refine⟨a,b,m,n,λi q=>?_⟩;obtain⟨g,c,e,p,j,k⟩:=o i q;have f:¬S g:=λh=>Â
 exact⟨g,c,e,p,d.i f j,d.i f k⟩
def FA.nw{lo w w' v l}(h:FA lo w v l)(a:Nw w w'):FA lo w' v l:=h.y a λ_=>dI
def Λ(l:FL):∀u∈l.flatMap pp,u.oneCell'=aw:=λu b=>by obtain⟨p,-,a⟩:=List.mem_flatMap.1 b;simp only[pp,jc,GA,or_false]at a;obtain rfl|rfl:=a<;>rfl
def Rw.FZ{ops:Array fj}{rest:List fj}{o:fj}{a:jG}{s x:Operand}{W:Zy}{v y:Zv}{l bs:FL}{lo:Nat}(h:Rw W 110 2 pp v l)(R:aa l<=100000000)(S:aa bs<=100000000)(hy:FA lo W y bs)(B:a.eval s=v)(hx:a.eval x=y)(d:o.guard=ar)(ho:o.op= .call {callee:= .builtin .append,args:=#[s,x],argTypes:=#[52,52]})
  (H:∀v' w',Rw w' 110 2 pp v' (l++bs)->zj (λy=>v.ownBlock=ac y) W w'->(∀g,v'.ownBlock=ac g->v.ownBlock=ac g\/ak W.heap<=g)->wpList prog ops Q rest (a.put o.dst v') w'):wpList prog ops Q (o::rest) a W:=by
 obtain⟨q,m,rfl,M,C⟩:=hy;by_cases t:bs=[];subst t;have K:=H v W Â (zj.refl _ _) λg w=>aF w;obtain⟨i,z,D,X,T,t,U⟩:=Ab.Dh;cases q with
 |none=>
  obtain⟨rfl,-⟩:=M rfl;exact wpList_append_own_none d s x 52 ho 0 _ i _ Ab.yi D v (aa l) _ B h hx K
 |some q=>refine AL d λV O=>?_;have p:=zpr 0 52 o.type _ i _ Ab.yi D v (aa l) _ h q m;rw[qy]at hx;unfold Oper.wp;simp[aL,ho,nD,ol,builtin,B,hx,p,bG];exact O _ _ K
 have F:=Z0.2 t;obtain⟨g,c,rfl,-⟩:=C 0 F;refine Rw.F0 Ab bs h R ⟨F,S⟩ (λ_=>rfl) (λj u f=>?_) (Λ bs) B hx d ho λg m w' r b n=>H _ w' r b λL w=>?_;have E:j/2<aa bs:=by have:=(Wb.1 f).1;rw[yk (k:=2) λ_=>rfl]at this;omega
 obtain⟨L,G,e,-,I,J⟩:=C _ E;cases e;rw[show j=j/2*2+j%2 by omega,MU (k:=2) (λ_=>rfl) bs _ _ E<|Nat.mod_lt _ Ã]at f;rw[zaa];obtain e|e:=Nat.mod_two_eq_zero_or_one j;rw[e]at f;rw[show c+j=c+j/2*2 by omega,I];exact f;rw[e]at f;rw[show c+j=c+j/2*2+1 by omega,J];exact f;cases w;exact n
end
section
attribute [local go_sem] zn zg
def FA.kq{lo n cap w a l}(h:FA lo w (az a n cap) l){i}(f:i<aa l):∃g off,a=ac ⟨g,off,ar⟩/\ae w (zq g<|off+i*2)=ac (zi l[i].1)/\ae w (zq g<|off+i*2+1)=ac (aj<|st l[i].2):=by obtain⟨c,b,e,-,d⟩:=h;grind
def jbt(lo q B C n r f v l w)(h:Pr n w q B C r f)(hv:FA lo w v l)(hl:aa l<=100000000)(z:∀x∈l,jS x.1/\aa x.2<=1000000000)(hr:0<=r.d.bS/\r.d.bS<=1000000)(bo:∀y,qT B C r f y->lo<=y):aG prog 53 #[zo q,v] w λe w'=>e=ah (aX aw)/\pu n q B C r f w w':=by
 obtain⟨a,c,rfl,-⟩:=id hv;have P0:=h.nw<|zj.E<|aq #[] 110;have R0:=hv.nw<|zj.E<|aq #[] 110;have E0:aK<|Rw (aB w<|aq #[] 110) 110 2 pp (az (ac ⟨ak w.heap,0,ar⟩) 0 0) []:=Rw.FY w 110 2 pp;have N0:aK<|Nw w<|aB w<|aq #[] 110:=zj.E _;have HB:=z;have bb:=hv;have J:=h;have NA:aK<|∀y,r.cO B y->lo<=y:=λy D=>bo y<|aF D;clear h hv z;go_enter func53.1,Tryz.ntmps53;go_wp2_with (refine Rw.FZ E0.o (Zz _) hl R0 rfl rfl rfl rfl ?_);intro v1 w1 r1 b1 n1;have V:aK<|Nw w w1:=N0.o.kL b1 λy D=>aE (by cases D;simp);have P1:=J.nw V.o;have R1:=bb.nw V.o;have V1:=r1;have G1:aK<|∀g,v1.ownBlock=ac g->ak w.heap<=g:=λg o=>(n1 g o).elim (λe=>by cases e;simp) λe=>À
 obtain⟨a1,c1,rfl⟩:=r1.dC;clear r1 b1 n1 P0 R0 E0;have A2:aK<|Nw w1<|aB w1<|aq #[zi<|-77,aj ⟨#[]⟩] 110:=zj.E _;have B2:aK<|xh (aB w1<|aq #[zi<|-77,aj ⟨#[]⟩] 110) (ak w1.heap) #[zi<|-77,aj ⟨#[]⟩] 110:=xh.dT _ _ _;have V2:=V1.y A2.o λ_ _=>id;go_wp2_with (refine Rw.pX Ab [((-77:Int),([]:Zl))] V2 À ⟨show 0<1 by decide,show 1<=10 by decide⟩ (λ_=>rfl) B2.o rfl (Λ _) rfl rfl rfl rfl ?_);intro m c3 I r3 b3 n3;have W:aK<|Nw w I:=(V.o.aA A2.o).kL b3 λy D=>aE (G1.o y D);have t:=(J.nw W.o).nw (zj.refl _ I).U;have R3:=(bb.nw W.o).nw (zj.refl _ I).U;have V3:=Rw.y (S:=λ_=>False) (show Rw I 110 2 pp (az (ac ⟨m,0,ar⟩) (aa l+1) c3) (l++[((-77:Int),([]:Zl))])from r3) (zj.refl _ I).U λ_ _=>id;have G3:aK<|ak w.heap<=m:=show ak w.heap<=m from n3.elim (λe=>G1.o _ e) λe=>by have:=V.o.J;omega
 have bt:aa l+1<=c3:=by obtain⟨e,_⟩|⟨g,bq,br,e,_,_,h,_⟩:=r3.2;cases e;simp_all
 have i3:(0:Int)<=(aa l:Int):=À
 have i4:(aa l:Int)<=(c3:Int):=À
 have d0:=(J.nw W.o).qb.i (v:=zo B) 0 rfl;clear r3 b3 n3 A2 B2 V2 V1 R1 P1 V N0;go_wp2;go_region_held3 (λw'=>ae w' (zq q 0)=ac (zo B)) (first|exact d0|exact(t.qb.y b.y λx=>t.qn<|aF x).i 0 rfl)
  (first|(go_at_call 25;refine(xid B r _ l hr À (λx s=>(HB x s).2) _ t.sa V3.fsl).mono ?_;rintro e F⟨rfl,b⟩))
 have HS:=b;have F4:=t.su b;have Q4:=t.qb.y b.y λx=>t.qn<|aF x;have V4:=V3.y b.y λx s h=>by cases s;exact CG _<|zm (J.lt<|aF h) G3.o
 have R4:=R3.y b.y NA.o;have bi:aK<|m<ak I.heap:=(V3.lt m rfl).2;clear b V3 R3 d0;go_wp2;go_loopw [7,8,9] (λnv bv i wr=>∃j:Nat,j<=aa l/\i=zi j/\Nw F wr/\Rw wr 3 1 rk nv ((l.take j).map (·.1))/\Rw wr 9 1 oh bv ((l.take j).map (·.2))/\(∀g,nv.ownBlock=ac g->ak F.heap<=g)/\∀g,bv.ownBlock=ac g->ak F.heap<=g) (λ_ _ i _=>bB (aa l-bP i))
 case atStart=>exact⟨0,À,rfl,zj.refl _ _,jk _ _ _ _,jk _ _ _ _,λg o=>(by cases o),λg o=>(by cases o)⟩
 case round=>
  obtain⟨j,hj,rfl,z,hn,hs,gn,gs⟩:=hrel;have U:=z;have NV:=hn;have BV:=hs;have GN:=gn;have GS:=gs;have R5:=R4.nw z;have V5:=V4.y z λ_ _=>id;obtain⟨an,cn,en⟩:=hn.dC;obtain⟨ab,cb,eb⟩:=hs.dC;rw[jl,xf,CE hj]at en eb;subst en eb;clear z hn hs gn gs;by_cases p:j<aa l
  ·have i1:(j:Int)<(aa l:Nat):=by omega
   have i0:(0:Int)<=(j:Int):=À
   obtain⟨g1,o1,rfl,k1,-⟩:=R5.kq p;have Q:aK<|Nw wr<|aB wr<|aq #[zi l[j].1] 3:=zj.E _;have B6:aK<|xh (aB wr<|aq #[zi l[j].1] 3) (ak wr.heap) #[zi l[j].1] 3:=xh.dT _ _ _;have X:=NV.y Q.o λ_ _=>id;go_wp2_with (refine Rw.pX IC [l[j].1] X (by rw[jl,xf];omega) ⟨show 0<1 by decide,show 1<=10 by decide⟩ (λ_=>rfl) B6.o rfl (by intro u hu;simp[rk]at hu;rw[hu];rfl) rfl rfl rfl rfl ?_);intro g6 c6 G r6 b6 n6;have N6:aK<|Nw F G:=(U.aA Q.o).kL b6 λy D=>aE (GN y D);have Y:aK<|Rw G 3 1 rk _ _:=r6;have be:aK<|ak F.heap<=g6:=show ak F.heap<=g6 from n6.elim (λe=>GN _ e) λe=>by have:=U.J;omega
   have bc:=(BV.y Q.o λ_ _=>id).y b6 λg o e=>X.eF (BV.y Q.o λ_ _=>id) Ã e o;have R6:=R4.nw N6.o;have V6:=V4.y N6.o λ_ _=>id;obtain⟨bl,bp,L,-,k2⟩:=R6.kq p;cases L;have R:aK<|Nw G<|aB G<|aq #[aj<|st l[j].2] 9:=zj.E _;have B8:aK<|xh (aB G<|aq #[aj<|st l[j].2] 9) (ak G.heap) #[aj<|st l[j].2] 9:=xh.dT _ _ _;have T:=bc.y R.o λ_ _=>id;clear r6 b6 n6 k1 Q B6;go_wp2_with (refine Rw.pX By [l[j].2] T (by rw[jl,xf];omega) ⟨show 0<1 by decide,show 1<=10 by decide⟩ (λ_=>rfl) B8.o rfl (by intro u hu;simp[oh]at hu;rw[hu];rfl) rfl rfl rfl rfl ?_);intro g9 c9 w9 r9 b9 n9;have N9:aK<|Nw F w9:=(N6.o.aA R.o).kL b9 λy D=>aE (GS y D);have bd:aK<|Rw w9 9 1 oh _ _:=r9;have bf:aK<|ak F.heap<=g9:=show ak F.heap<=g9 from n9.elim (λe=>GS _ e) λe=>by have:=N6.o.J;omega
   have bj:=(Y.o.y R.o λ_ _=>id).y b9 λg o e=>T.eF (Y.o.y R.o λ_ _=>id) Ã e o;have R9:=R4.nw N9.o;have V9:=xe<|V4.y N9.o λ_ _=>id;obtain⟨bl,bp,L,k3,k4⟩:=R9.kq p;cases L;obtain⟨bs,bk,q3⟩:=V9.o.kq (λ_=>rfl) (i:=j) (by rw[zx];omega) rfl;cases bk;have a0:=q3 0 À;have a1:=q3 1 À;rw[KP p]at a0 a1;have k5:ae w9 (zq m<|j*2)=ac (zi l[j].1):=a0;have k6:ae w9 (zq m<|j*2+1)=ac (aj<|st l[j].2):=a1;have i5:(j:Int)<((aa l+1:Nat):Int):=À
   have i6:(j:Int)<(aa l:Int)+1:=À
   clear r9 b9 n9 q3 a0 a1 k2 R B8;go_wp2;go_big_quiet (fail);go_wp2;go_roundw
   case rel=>have et:l.take (j+1)=l.take j++[l[j]]:=(List.take_append_getElem p).symm;refine⟨j+1,À,Å,N9.o.fg, ?_, ?_,λg o=>(by cases o;exact be.o),λg o=>(by cases o;exact bf.o)⟩;rw[et,qz,List.map_take];exact bj.y (S:=λ_=>False) (zj.refl _ _).fg λ_ _=>id;rw[et,qz,List.map_take];exact bd.o.y (S:=λ_=>False) (zj.refl _ _).fg λ_ _=>id
   case measure=>simp[bP];omega
  obtain rfl:j=aa l:=À
  have i1:¬(aa l:Int)<(aa l:Nat):=À
  rw[jz]at NV BV;have F5:=xe<|F4.gH U λ_ _=>id;have Q5:=xe<|Q4.y U id;have d1:=Q5.o.i (v:=zo C) 1 rfl;have HR:aK<|0<=f.bS/\f.bS<=1000000:=by show _/\_;rw[t.tw.tw.bS];exact hr
  go_wp2;refine(xlw C f l _ _ À HR.o (λx s=>(HB x s).2) _ F5.o NV BV).mono ?_;rintro e G⟨a6,f6,rfl,O,ba⟩;have V6:=V5.y O.y λx s h=>by cases s;exact CG _<|zm (J.lt<|aE h) G3.o
  have RF:=xe O;have LD:=xe ba;have k1:=V6.uf (λ_=>rfl) 0 À;have k2:=V6.uf (λ_=>rfl) 1 À;simp only[pp,qh,Jm,Yy]at k1 k2;have j1:(aa l:Int)<(aa l:Int)+1:=À
  have j2:(aa l:Int)<((aa l+1:Nat):Int):=À
  have z0:(st ([]:Zl)).toList=[]:=xl [];clear O ba d1;go_wp2;go_loopw [12] (λi wr=>∃k:Nat,∃H:FL,k<=aa l+1/\aa H=aa l+1/\i=zi k/\zj (·=m) G wr/\Rw wr 110 2 pp (az (ac ⟨m,0,ar⟩) (aa l+1) c3) H) (λi _=>bB (aa l+1-bP i))
  case atStart=>exact⟨0,_,À,Ä,rfl,zj.refl _ _,V6⟩
  case round=>
   obtain⟨k,H,hk,D,rfl,z,hr⟩:=hrel;have E:=xe z;have K:=xe hr;clear z hr;by_cases p:k<aa l+1
   ·have i1:(k:Int)<(aa l:Int)+1:=by omega
    have i2:(k:Int)<((aa l+1:Nat):Int):=À
    have i0:(0:Int)<=(k:Int):=À
    have bn:k<aa H:=À
    rw[<-Gs k H,Zx bn]at K;have LT:aa (H.take k)=k:=Ă
    go_wp2;refine(Dp _ À _).mono ?_;rintro e w8⟨rfl,M⟩;have Z:=xe<|K.o.y M λ_ _=>id;have d1:=Z.o.uf (λ_=>rfl) 0 À;have d2:=Z.o.uf (λ_=>rfl) 1 À;have d3:=Z.o.dG<|k*2;have d4:=Z.o.dG<|k*2+1;rw[LT,Yy]at d1;rw[LT]at d2;simp only[pp,qh,Jm]at d1 d2;have R9:=(Z.o.uj (q:=(-(1000+(k:Int)),H[k].2)) (λ_=>rfl) 0 (zi<|-(1000+(k:Int))) À rfl).uj (q:=Az<|1000+(k:Int)) (λ_=>rfl) 1 (aj<|st<|lH<|1000+(k:Int)) À rfl;rw[LT,Yy]at R9;have bh:=xe R9;have bg:aK (zj (·=m) G<|ai (ai w8 (zq m<|k*2)<|zi<|-(1000+(k:Int))) (zq m<|k*2+1)<|aj<|st<|lH<|1000+(k:Int)):=((E.o.aA<|M.W λ_=>dI).aA<|zj.H w8 (zq m<|k*2) _).aA<|zj.H _ (zq m<|k*2+1) _;have HY:aK<|aa (H.take k++Az (1000+(k:Int))::H.drop (k+1))=aa l+1:=by show _=_;simp;omega
    clear M R9;go_wp2;go_roundw
    case rel=>exact⟨k+1,_,À,HY.o,Å,bg.o,bh.o⟩
    case measure=>simp[bP];omega
   obtain rfl:k=aa l+1:=À
   have i1:¬((aa l+1:Nat):Int)<((aa l+1:Nat):Int):=À
   have i2:¬(aa l:Int)+1<(aa l:Int)+1:=À
   obtain⟨t1,t2,t3⟩:=t.tw.Cd t.ok (λx s=>(HB x s).1) LD.o;have HT:=xe t1;obtain⟨r',f',p1,p2,p3⟩:=t.step (HS.F1 U) RF.o t2 t3;have HO:aK<|pu n q B C r f w wr:=by have o:=bi.o;have bm:=G3.o;have hq:=J.qb.lt;refine⟨r',f',p1.y E.o (λe=>À) λx s e=>?_,(((W.o.W λ_=>dI).aA<|(zj.refl _ I).U).aA p2).kL E.o λy e=>aE (e▸bm),λx s=>(p3 x s).imp id λh=>xa W.o.J h⟩;obtain h|h:=p3 x s;have:=J.lt h;omega;have:ak I.heap<=x:=h;omega
   clear t1 t2 t3 p1 p2 p3 LD RF E K;go_wp2;refine(sk _ _).mono ?_;rintro e w9⟨rfl,rfl⟩;rw[HT.o];go_wp2;go_ret;exact⟨Ä,HO.o⟩
end
section
open A
attribute [local go_sem] zn zg
section
variable {Q:Exit→jG→Zy→Prop} {t:Nat→Question→Nat}
section
variable {n k q B C:Nat} {r r':Sr} {f f':Rf} {w w1 w2:cY} {S:Nat->Prop}
def pu.nw(h:pu n q B C r f w w1)(a:Nw w1 w2):pu n q B C r f w w2:=by obtain⟨g,b,c,d,e⟩:=h;exact⟨g,b,c.nw a,d.aA<|a.W λ_=>dI,e⟩
def Ws.Ay(h:Ws r f)(o:Ok n r)(i:Int):aa (jp r.d.L i)<=100000:=by have:=MK r.d.L i;have:=o.pE;have:=o.bS;omega
def xlh(h:Ju w C f)(t:Ws r f)(o:Ok n r)(z:n<=1000000)(p:∀w',zj (f.cO C) w w'->Yq w')(mp:Nat):aG prog 87 #[zo C] w<|Ŵ C f r.d (Xr (jB f.m f.bJ (f.bA:Int) ((r.op+1:Nat):Int) mp) f.F) w:=by
 have u:=o.pE;have D:=o.bS;have c:∀i,aa (jp f.F i)<=100000:=λi=>by rw[t.tw.vz];exact t.Ay o i
 have b:aa f.m=32:=by rw[t.m];exact o.m
 have l:aa f.F<=1000000:=by have:=vA t.tw.gF.ne;rw[t.tw.yr]at this;omega
 have k:f.bA<=1000000:=by rw[t.bA];have:=o.bA;omega
 refine xhw C f r.d _ mp w h t.tw À b (by rw[t.op];exact o.op) c λw1 g q=>?_;have a:=p w1<|q.elim (λh=>h.W λ_=>dI) λh=>h.W λx v=>aF v;exact xlx C {f with op:=f.op+1} _ w1 ⟨g,a,l,t.tw.gF.ne,c,k,λy j=>zw1 C {f with op:=f.op+1} _ y ⟨g.gH j λ_ _=>id,λi s=>j.i id<|a i s,l,c,k,b,rfl⟩,λB L1 e=>ž b e⟩
end
variable [pn:A.Pn]
def PH(h:pm Q){id:Nat}:pm (λe a' w'=>match e with
  | .exit j=>if j=id then Q dM a' w' else Q (.exit j) a' w'
  |e=>Q e a' w'):=λe a w t d=>by
 cases e
 case exit j=>dsimp only;split<;>exact h _ _ _ _ _
 all_goals exact h _ _ _ _ _
def xl5(h:pm Q){I:jG->Zy->Prop}{m:jG->Zy->Nat}{a0:jG}{w0:Zy}(b:∀a w t d,I a (re w t d)↔I a w)(c:∀a w t d,m a (re w t d)=m a w):pm (λe a' w'=>match e with
   | dM=>I a' w'/\m a' w'<m a0 w0|e=>Q e a' w'):=λe a w t d=>by
 cases e
 case normal=>grind
 all_goals exact h _ _ _ _ _
noncomputable def yJ:=Qf Tryz.f54.body
noncomputable def jfn:=Qa yJ
noncomputable def jfo:=Qa<|Qb yJ
noncomputable def jfp:=Qa<|Qb<|Qb yJ
noncomputable def jfq:=Qa<|Qa<|Qn 3 yJ
noncomputable def jfr:=Qa<|Qk<|Qb<|Qa<|Qn 3 yJ
noncomputable def r54:=Qa<|Qc<|Qb<|Qk<|Qb<|Qa<|Qn 3 yJ
noncomputable def Ν:=Qb<|Qc<|Qb<|Qk<|Qb<|Qa<|Qn 3 yJ
noncomputable def jfs:=Qd<|Qb<|Qk<|Qb<|Qa<|Qn 3 yJ
noncomputable def PG:=Qn 4 yJ
def xxu:Tryz.f54.body=ac (fO jfn<|fO jfo<|fO jfp<|fO (fO jfq<|.block 0<|fO jfr<|.cond (bZ 10) (fO r54 Ν) jfs) PG):=Á
def qk:¬Mc au 54:=wY Ã Ã Tryz.func54
def F2(n q B C:Nat)(r:Sr)(f:Rf)(w:Zy)(e:kU)(w':Zy):Prop:=e=ah (aX aw)/\pu n q B C r f w w'
def PJ{w:Zy}{d:Nat}:Nw (re w t d) w:=⟨rfl,rfl,zd _,λ_ _ _=>rfl⟩
def xri{n q B C:Nat}{r:Sr}{f:Rf}{w w':Zy}{e:kU}{d:Nat}:F2 n q B C r f w e (re w' t d)↔F2 n q B C r f w e w':=⟨λh=>⟨h.1,h.2.nw PJ⟩,λh=>⟨h.1,h.2.nw<|Nw.kO (zj.refl _ _) t d⟩⟩
def xjf{cv tv:Zv}{lo:Nat}(q B C:Nat)(n:Nat)(r:Sr)(f:Rf)(o:Sp)(w:Zy)(h:Pr n w q B C r f)(hE:Ke lo cv tv (qT B C r f) w)(J:∀x,r.cO B x->lo<=x)(h4:4<lo)(hn:n<1000000)(hk:o.dW=2):CC au 54 #[zo q,bM o.G] w<|F2 (n+1) q B C r f w:=by
 have hQ:pm<|qM au cP Tryz.f54<|F2 (n+1) q B C r f w:=Aj λe w' t d=>xri;refine CC.jK bL qk (fF rfl Tryz.func54 rfl).1 Tryz.func54 xxu ?_;rw[show Tryz.f54.ntmps=110 from rfl];generalize hPX:qM au cP Tryz.f54 (F2 (n+1) q B C r f w)=PX at hQ;have l:=hQ;have N:=hPX;have HP:=h;have HE:=hE;have HK:=h.Cl hn J h4;have HL:=J;have HN:=hn;obtain⟨kd,a,nn,m,k,s,t,O⟩:=o;obtain rfl:kd=2:=hk;simp only[jd,xg,qy,iJ,jV,qu,qw,Xa,Zh,qj,qg];refine p5 qk l λw1 bf Q T bl=>?_;have g:Nw w<|aB w1<|aq (Sp.G ⟨2,a,nn,m,k,s,t,O⟩) 69:=(qm Q).aA<|zj.E _;have i:=xh.dT w1 (Sp.G ⟨2,a,nn,m,k,s,t,O⟩) 69;conv=>arg 2;whnf
 go_wp2;refine T.o _ _ ?_;generalize hb:ak w1.heap=b at*;generalize aB w1 (aq (Sp.G ⟨2,a,nn,m,k,s,t,O⟩) 69)=w2 at*;refine p5 qk l λw3 bg D U bm=>?_;replace g:=g.aA<|qm D;replace i:=i.y (qm D) id;conv=>arg 2;whnf
 go_wp2;refine U.o _ _ ?_;refine p5 qk l λw4 bh E V bn=>?_;replace g:=g.aA<|qm E;replace i:=i.y (qm E) id;conv=>arg 2;whnf
 go_wp2;refine V.o _ _ ?_;refine Yp.tI bL qk trivial ?_;refine p5 qk l.mg λw5 bi G W bo=>?_;replace g:=g.aA<|qm G;replace i:=i.y (qm G) id;have c0:=i.i (v:=zi 2) 0 rfl;conv=>arg 2;whnf
 go_wp2;refine W.o _ _ ?_;refine Yp.dB bL qk ?_;have I:=PH (l.mg (P:=au) (fn:=54) (y:=PG)) (id:=0);refine p5 qk I λp bj R X bp=>?_;replace g:=g.aA<|qm R;conv=>arg 2;whnf
 go_wp2;refine X.o _ _ ?_;refine Yp.Od bL qk rfl ?_;have c:=HP.nw g;have E6:=HE p<|g.W λ_=>dI;have d0:=c.qb.i (v:=zo B) 0 rfl;have ho:=c.ok;have j:=ű c.sa ho.op HK E6.1 E6.2.1 HL (c.tw.Ay ho) λmp k L e=>by
  have e':Xr (jB f.m f.bJ (f.bA:Int) ((r.op+1:Nat):Int) mp) f.F=ac (k,L):=by rw[c.tw.m,c.tw.bJ,c.tw.bA,Γ c.tw.tw.vz];exact e
  obtain⟨-,h1,h2,h3,h4,h5,-⟩:=PD (by rw[c.tw.m];exact ho.m) e';refine⟨λh=>?_,À,À⟩;have:=h1 h;rw[c.tw.tw.vz]at this;omega
 refine Yp.tI bL qk trivial ?_;conv=>arg 3;whnf
 refine Yp.gv bL qk ?_;refine sN (val:=zo q) qk ⟨rfl,rfl⟩ ?_;refine Vh.ea (val:=zo q) (w':=p) bL qk rfl (λt d=>⟨t,d,Õ⟩) ?_;refine Vh.ea (val:=zo q) (w':=p) bL qk rfl (λt d=>⟨t,d,Õ⟩) ?_;refine Vh.ea (val:=zo B) (w':=p) bL qk rfl (λt d=>⟨t,d,by have e0:ae (re p t d) (zq q 0)=ac (zo B):=d0;show(aL _ _).run prog _=_;simp[aL,go_sem,fe,e0]⟩) ?_;refine Vh.kN bL qk rfl rfl (λv=>Í) (fF rfl Tryz.func13 rfl) j ?_ ?_;rotate_left;rintro ch w7⟨_,he,_⟩;cases he;rintro v7 w7⟨a7,he,r7,bb,mp,hx⟩;cases he;refine sN (val:=zi a7) qk ⟨rfl,rfl⟩ ?_;refine Vh.nil bL qk ?_;refine(show Yp au 54 Ν _ _ w7 from ?_);simp only[fe,Zj,Vp,D1];have HS:=bb;have HX:=hx;refine Dz qk I λw8 bk S Y=>?_;have n8:=qm S;have K:Zd B r p r7 w8:=HS.F1 n8;have F8:=c.su K;have E8:∀w',zj (f.cO C) w8 w'->Yq w':=λw' hb=>(HE w'<|((g.W λ_=>dI).aA<|K.y.W λ_=>aF).aA<|hb.W λ_=>aE).2.2;have d1:=(c.qb.y K.y λx=>c.qn<|aF x).i (v:=zo C) 1 rfl;conv=>arg 2;whnf
 go_wp2;refine(xlh F8 c.tw c.ok (by have:=HN;omega) E8 mp).mono ?_;rintro e w9⟨a9,f9,rfl,ba,Z⟩;have bd:a7=a9/\pu (n+1) q B C r f w w9:=by obtain⟨e1,e2,e3⟩:=c.tw.open c.ok HX Z;exact⟨e1,.lX g<|c.step K ba e2 e3⟩
 obtain⟨rfl,bc⟩:=bd;have HO:=bc;go_wp2;refine Y.o dM _ _ (show Yp au 54 PG PX _ w9 from ?_);refine Dz qk l λbq be z H=>?_;have M:=HO.nw<|qm z;conv=>arg 2;whnf
 go_wp2;refine(sk _ _).mono ?_;rintro e br⟨rfl,rfl⟩;go_wp2;refine H.o .ret _ _ ?_;rw[<-N];refine⟨rfl,aX aw,λt d=>⟨t,d, ?_⟩,rfl,M⟩;show(dX Tryz.f54 _).run prog _=_;simp[dX,Tryz.results54,go_sem]
end
end
end P
end Go.Proofs.YtjnbhiamaabbgaaGreatDoor
