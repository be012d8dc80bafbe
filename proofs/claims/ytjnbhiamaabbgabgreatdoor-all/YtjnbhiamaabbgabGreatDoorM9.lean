import Derived.Test.YtjnbhiamaabbgabGreatDoorM8
import Derived.Laws.AppendOwnNone
set_option linter.all false
set_option maxRecDepth 100000
set_option maxHeartbeats 8000000
section
variable{P:Prop}
def é(h:P:=by have:=HL.o;omega):=h
def ò(h:P:=by cases g):=h
def zbo(h:P:=by obtain⟨-,h⟩|⟨_,_,_,h,-,-,h1,h2,-⟩:=HR.o.2;omega;unfold pu at h2;omega):=h
def zbr(h:P:=by split at t;exact⟨t.bU,t.gF,t.gL,t.mJ,t.mt,t.fU,t.nx,t.cQ,t.ko⟩;exact t):=h
def zc3(h:P:=by show bO (Vm d.L n (jp d.L n++x,(Zm d.L n).2))<=_;omega):=h
def zco(h:P:=by exact tM q.o.z O O O λv F=>xC.rh hd.o<|q.o.n.cZ (zd _) F):=h
def zd5(h:P:=by show(gh s.L s.P).length<=_;omega):=h
def zd7(h:P:=by show s.bM<=((r.cD s).1:U);omega):=h
end
namespace Go.Proofs.YtjnbhiamaabbgabGreatDoor
open _root_ renaming Array->bE,Bool->ez,ByteArray->eM,Int->U,List->bA,Nat->Q,Option->dD,absurd->dC,rfl->O,Array.size->V,Bool.false->ao,Bool.true->M,Decidable.decide->bR,False.elim->eT,Int.toNat->bL,List.Pairwise.nil->iV,Nat.reduceAdd->jY,Nat.reduceSub->lh,Option.none->R,Option.some->Y,Or.inl->aJ,Or.inr->ac,UInt8.toNat->aN
open Go renaming Act->mh,Calls->aK,Code->pB,Ending->kH,Oper->eX,Value->eJ,World->dN,execOp->aR,maxLen->pu,resolve->o8,results->eR,Act.put->ge,Code.seq->gU,Ending.returned->ai,Exit.normal->eE,IntKind.i64->bB,IntKind.wrap_i64->zh,Obj.cells->au,Operand.tmp->cP,Proofs.intOf->bZ,Result.andThen->bN,Result.ok->dG,RowKit.Below->aP,RowKit.Hid->H,WideShapes.add_plain->zaa
open Proofs.Tryz renaming ntmps118->lW,ntmps66->nJ,ntmps68->lJ,prog->az
open Value renaming agg->bY,bool->bG,int->aD,pointer->aU,slice->aB,string->ak,tuple->cE
open World renaming alloc->aF,cell?->N,heap->Z,news_of_block->gX,setCell->ay,size_alloc->xp
open List renaming drop->bV,drop_eq_getElem_cons->Zx,drop_take->Xb,length->T,length_append->zx,length_pos_iff->Z0,length_take->xf,replicate->bS,take->eI,take_succ_eq_append_getElem->zp,toArray->bH
namespace P
variable{a a0:mh}{w w' b w1 W w0:Zy}{v cv tv:Zv}{B d n m g lo C k q i L Ϸ:Q}{r r':Sr}{f f' f2:Rf}{s:kE}{S:ZP}{e:kH}{X:Type}{ops:bE eX}{rest:bA eX}{o:eX}{l:FL}
open A.Tryq Go.RowKit
section
attribute[local go_sem] zn zg CI vD
def xz5{P:Zp}{c:pB}{y:Exit->mh->Zy->Prop}(A:mh)(W:Zy)(h:c.wp P (λe z w'=>e=eE/\z=A/\w'=W) a w)(k:y eE A W):c.wp P y a w:=wp_mono h λ_ _ _⟨b,d,f⟩=>Á
def ϱ(v:Zv)(y:bA Zl)(n:T y<=256)(hx:∀x∈y,T x<=4095)(w:Zy)(l:Yq w)(h:Rw w 9 1 o5 v y):aq 109 #[v] w (E<|J9 y):=by obtain⟨a,b,rfl⟩:=h.dL;by_cases k:y=[];grind [xks];let d:=Z0.2 k;obtain⟨g,rfl,p⟩:=h.lp (λ_=>O) d O;refine xkr (T y) y O d n hx g 0 b ?_ w l λj m=>?_;obtain⟨e,_⟩|⟨i,c,f,q,_,_,r⟩:=h.2;cases e;grind;let⟨i,e,o⟩:=h.lp (λ_=>O) m O;grind [o5]
def xC.rh{o:dD<|Lk×KV}(h:o=R)(a:Nw w w'):xC w o (ai<|bY<|nZ M) w':=zbs
structure jep(C:Q)(f:Rf)(k:Lk)(w:Zy):Prop where
 dI:Ju w C f
 uV:Yq w
 gT:T f.F<=1000000
 aD:∀n,T (jp f.F n)<=100000
 bF:f.bF<=1000000
 ml:T f.m=32
 k0:k=ld f.m f.bQ (f.bF:U) k.op k.mp
structure Mg(w v:Zy)(B:Q):Prop where
 z:xh v (V<|Z w) (nZ ao) 258
 b:xh v B (nZ M) 258
 n:Nw w v
 hb:V (Z w)<B
def Mg.ib{v v':Zy}(h:Mg w v B)(y:Nw v v'):Mg w v' B:=⟨h.z.y y id,h.b.y y id,h.n.aE y,h.hb⟩
open Classical in
theorem SX(k:Lk)(F:Xv):Xc k F=if jp F 0=[]then Y (k,[])else if vL k.m k.tc (jp F 0)then(Y6 (Ym<|jp F 0) F<|Ji k.m (Ym<|jp F 0).ep).map λL=>(k.gZ (Ym<|jp F 0) k.mp,L)else R:=O
def jbv(m:Zl):(Ym m).op=qi (bV 2<|List.take 4 m)/\(Ym m).bF=qi (bV 4<|List.take 8 m)/\(Ym m).bC=qi (bV 8<|List.take 10 m)/\(Ym m).bM=qi (bV 10<|List.take 14 m)/\(Ym m).cW=qi (bV 14<|List.take 16 m)/\(Ym m).gT=qi (bV 16<|List.take 20 m)/\(Ym m).ga=bV 20 (eI 52 m)/\(Ym m).aQ=bV 52 (eI 84 m)/\Am m=bV 84 m:=by simp[Ym,Am,xR,Al,yL,Ak,yK,Aj,yJ,Ai,xQ,Xb]
def xkh(l:Zl)(f:T l<=100000)(w:Zy):aK prog 284 #[E l] w λe w'=>∃v y,e=ai (cE #[v,bG y])/\Nw w w'/\(∃a i j,v=aB a i j)/\(∀D,Yo l=Y D->y=M/\ff w w' 200 2 kT v D)/\(Yo l=R->y=ao):=by refine(xki l f w).mono λe w' h=>?_;unfold yd at h;cases z:Yo l with|none=>grind|some L=>rw[z]at h;let⟨v,d,b⟩:=h;let⟨a,c,g⟩:=b.dL;exact⟨v,M,d,b.nw,⟨_,_,_,g⟩,λ_ e=>Á,λe=>Æ⟩
def zw1(C:Q)(f:Rf)(k:Lk)(w:Zy)(h:jep C f k w):aK prog 230 #[zq C] w<|xC w<|Xc k f.F:=by
 have t:=xe h;clear h;have Z1:H<|xh (aF w<|au (nZ ao) 258) (V<|Z w) (nZ ao) 258:=xh.ex _ _ _;have n1:H<|Nw w<|aF w<|au (nZ ao) 258:=zj.E _;unfold nZ at Z1 n1;have HX:H<|∀w,Ju w C f->aK prog 184 #[zq C,J 0] w λe o=>o=w/\e=ai (E<|jp f.F 0):=λw h=>LS C f 0 w h t.o.gT;have bm:H<|jp f.F 0=[]->Xc k f.F=Y (k,[]):=λe=>by rw[SX,aT e]
 have g':H<|jp f.F 0≠[]->¬vL k.m k.tc (jp f.F 0)->Xc k f.F=R:=λe e2=>by grind [SX]
 have X:H<|jp f.F 0≠[]->vL k.m k.tc (jp f.F 0)->Xc k f.F=(Y6 (Ym<|jp f.F 0) f.F<|Ji k.m (Ym<|jp f.F 0).ep).map λL=>(k.gZ (Ym<|jp f.F 0) k.mp,L):=λe e2=>by grind [SX]
 have cx:=t.o.aD 0;generalize jp f.F 0=m at*;go_enter func230.1,Tryz.ntmps230;go_wp2;generalize aF w (au _ 258)=w1 at*;refine(HX.o _<|t.o.dI.y n1.o).mono ?_;rintro e w2⟨rfl,rfl⟩;clear HX;by_cases k':m=[]
 ·subst k';have u:=xl [];have HK:=xe<|bm.o O;clear bm g' X;go_wp2;refine(Pj 32 Ã _).mono ?_;rintro e w3⟨rfl,hb⟩;have Z3:=xe<|Z1.o.ac hb;have N3:=xe<|n1.o.aE<|zj.J hb;have c2:=Z3.o.eu;have c3:=Z3.o.gM;clear hb;go_wp2;refine tM Z3.o O O O λv F=>?_;have nw:=N3.o.cZ (zd _) F;unfold xC;rw[HK.o];have hs:gG []=[]:=by simp[gG,Vv]
  refine⟨nw,aB R 0 0,?_,by rw[hs];exact⟨nw,jk _ _ _ _,λ_=>O⟩⟩;rw[t.o.k0];rfl
 have u:¬(st m).toList=[]:=by rw[xl];exact k'
 have bh:(st m).toList.isEmpty=ao:=by rw[xl];cases m;exact dC O k';rfl
 have h2:H<|Mg w (aF w2<|au (nZ M) 258) (V<|Z w2):=⟨Z1.o.E _,xh.ex _ _ _,n1.o.aE<|zj.E _,Z1.o.lt⟩;unfold nZ at h2;have c2:=h2.o.z.eu;have c3:=h2.o.z.gM;have c1:=h2.o.b.eu;have cf:((T m:U)≠116)\/(T m=116/\∃b0 d r,m=b0::d::r/\(b0≠77\/(b0=77/\5<aN d)\/(b0=77/\aN d<=5))):=by
  by_cases g:T m=116;refine ac ⟨g,?_⟩
  match m,g with
  |b0::d::r,g=>refine⟨b0,d,r,O,?_⟩;by_cases l:b0=77;exact ac<|(DO 5 (aN d)).imp (λh=>⟨l,h⟩) λh=>⟨l,h⟩;exact aJ l
  omega
 have I:=xe k';clear k';obtain g|⟨g,b0,d,r,rfl,l|⟨rfl,l⟩|⟨rfl,l⟩⟩:=cf;focus
  have hd:=xe (g'.o I.o λe=>g<|by rw[e.gT];rfl);have p1:((T m:U) != 116)=M:=by simpa using g
 rotate_left;focus
  have hd:=xe (g'.o I.o λe=>l<|by have:=e.Iy;simpa using this);have dc:=b0.toNat_lt;let⟨m,P⟩:=JP<|b0::d::r;have g0:∀h,(st m)[0]'h=b0:=ah
  rw[P]at g u bh⊢;have p1:((T m:U) != 116)=ao:=Ç
  have i0:(0:U)<(T m:Q):=À
  have n2:¬(aN b0:U)=77:=λe=>l (GT.1<|by show aN b0=77;omega);have p2:((aN b0:U) != 77)=M:=by simpa using n2
  clear P g
 rotate_left;focus
  have hd:=xe (g'.o I.o λe=>by have:=e.S;rw[show(Ym (77::d::r)).ep=aN d from Ib d]at this;omega);have cu:=d.toNat_lt;let⟨m,P⟩:=JP<|77::d::r;have g0:∀h,(st m)[0]'h=77:=ah
  have g1:∀h,(st m)[1]'h=d:=ah
  rw[P]at g u bh⊢;have p1:((T m:U) != 116)=ao:=Ç
  have i0:(0:U)<(T m:Q):=À
  have i1:(1:U)<(T m:Q):=À
  have n3:(5:U)<(aN d:Q):=À
  clear P g
 rotate_left;rotate_left;iterate 3
  focus
   go_wp2;exact tM h2.o.z O O O λv F=>xC.rh hd.o<|h2.o.n.cZ (zd _) F
 have cu:=d.toNat_lt;have es:H<|(Ym (77::d::r)).ep=aN d:=Ib d;let⟨m,P⟩:=JP<|77::d::r;have g0:∀h,(st m)[0]'h=77:=ah
 have g1:∀h,(st m)[1]'h=d:=ah
 have bz:H<|m.take 1=[77]:=by rw[<-P];rfl
 rw[P]at g' X I es g u bh cx⊢;have p1:((T m:U) != 116)=ao:=Ç
 have i0:(0:U)<(T m:Q):=À
 have i1:(1:U)<(T m:Q):=À
 have n3:¬(5:U)<(aN d:Q):=À
 have HL:=xe g;clear P g bm;have j4:(4:U)<=(T m:Q):=é
 have j8:(8:U)<=(T m:Q):=é
 have j10:(10:U)<=(T m:Q):=é
 have de:(14:U)<=(T m:Q):=é
 have df:(16:U)<=(T m:Q):=é
 have dg:(20:U)<=(T m:Q):=é
 have dh:(52:U)<=(T m:Q):=é
 have di:(84:U)<=(T m:Q):=é
 have b2:=xe<|jbv m;go_wp2;clear c1 c2 c3 u bh p1 n3 g0 i0;clear Z1 n1;generalize V (Z w2)=B at*;generalize aF w2 (au _ 258)=w3 at*;have HQ:H<|∀o,Nw w3 o->N o (K (V<|Z w) 0)=bG ao:=λo hw=>(h2.o.ib hw).z.i 0 O;have S0:=HQ.o _<|zj.refl _ _;have j:H<|Nw w3 w3.drew:=(zj.refl _ _).W;have b8:H<|T (Y7 f.m (aN d))=32:=Ek _ _;have cy:wrap64 (aN d:U)=(aN d:U):=by unfold wrap64;omega
 have cz:IntKind.i64.wrap (aN d:U)=(aN d:U):=Ï
 go_region_held3 (λo=>N o (K (V<|Z w) 0)=bG ao) (first|exact S0|exact S1)
  (first
   |(go_at_call 194;refine(Ms C f (aN d) _ (t.o.dI.y<|h2.o.n.aE j.o) (t.o.uV.nw<|h2.o.n.aE j.o) t.o.ml).mono ?_;rintro e w6⟨rfl,hb⟩;replace j:=xe<|j.o.aE<|zj.J hb;have S1:=HQ.o _ j.o)
   |(go_at_call 105;refine(FJ _ _ (by rw[b8.o];decide) ù _<|t.o.uV.nw<|h2.o.n.aE j.o).mono ?_;rintro e w6⟨rfl,hb⟩;replace j:=xe<|j.o.aE<|zj.J hb;have S1:=HQ.o _ j.o))
 clear S0 S1;try clear hHeld
 have G6:=xe<|h2.o.ib j.o
 rename Zy=>w6
 clear HQ j h2 b8;let⟨h1,hT⟩:=JP<|Wu (Y7 f.m (aN d)) (m.take 84);have HT:=xe hT;rw[hT];clear hT;have cj:∀(a b:Q),b-a<=4->qi (bV a<|List.take b m)<4294967296:=λa b u=>by have g:=AS<|List.drop a<|List.take b m;have l:256^T (bV a<|List.take b m)<=256^4:=J7 Ã (by rw[Zn,xf];omega);omega
 have bn:H<|∀(a b:Q),b-a<=4->∀w,aG 282 #[E<|List.drop a<|List.take b m] w (J (qi (bV a<|List.take b m):Q)):=λa b u w=>Hy _ (by rw[Zn,xf];omega) w;have be:=xe cj;clear cj;go_wp2;have X8:H<|∀c,xh (aF w6<|au c 258).drew (V<|Z w6) c 258:=λc=>xh.ex w6 _ _;have G8:H<|∀c,Mg w (aF w6<|au c 258).drew B/\B<V (Z w6):=λc=>⟨G6.o.ib (zj.E _).W,G6.o.b.lt⟩;apply xz5
 case h=>
  go_region_held3 (λ_=>True) (trivial)
   (first
    |(go_at_call 282;refine(bn.o _ _ Ã _).mono ?_;rintro e w7⟨rfl,rfl⟩))
  all_goals exact⟨O,O,O⟩
 replace X8:=xe<|X8.o #[bG ao,aB R 0 0,J (aN d),J (qi (bV 4<|List.take 8 m):Q),E<|List.drop 52<|List.take 84 m,ak ⟨#[]⟩,J (qi (bV 10<|List.take 14 m):Q),J (qi (bV 14<|List.take 16 m):Q),J 0,J 0,bG ao,J 0,J 0];replace G8:=xe<|G8.o #[bG ao,aB R 0 0,J (aN d),J (qi (bV 4<|List.take 8 m):Q),E<|List.drop 52<|List.take 84 m,ak ⟨#[]⟩,J (qi (bV 10<|List.take 14 m):Q),J (qi (bV 14<|List.take 16 m):Q),J 0,J 0,bG ao,J 0,J 0];generalize V (Z w6)=Lb at*;generalize(aF w6<|au _ 258).drew=w8 at*;clear G6;go_wp2;refine(bn.o 16 20 Ã _).mono ?_;rintro e wz⟨rfl,rfl⟩;obtain⟨w8,rfl⟩:∃w8,w8=wz:=⟨_,O⟩;have q4:=be.o 4 8 Ã;have c7:=be.o 10 14 Ã;have c8:=be.o 14 16 Ã;have c9:=be.o 16 20 Ã;have cw:N w8 (K C 8)=J f.bF:=(t.o.dI.y G8.o.1.n).bT.i 8 O;obtain⟨bj,c6⟩:k.m=f.m/\k.tc=(f.bF:U):=by rw[t.o.k0];exact⟨O,O⟩
 obtain⟨m1,m2,m3,m4,m5,m6,m7,m8,m9⟩:=b2.o;have b5:H<|h1=bV 84 m->¬(f.bF:U)<(qi (bV 4<|List.take 8 m):Q)->vL k.m k.tc m:=λe1 e2=>⟨HL.o,bz.o,by rw[es.o];exact l,by rw[m9,bj,es.o,HT.o,e1],À⟩;have b3:H<|Xc k f.F≠R->h1=bV 84 m/\¬(f.bF:U)<(qi (bV 4<|List.take 8 m):Q)/\qi (bV 16<|List.take 20 m)<=16384:=λe=>by by_cases ok:vL k.m k.tc m;refine⟨?_,?_,jg λhs=>e ?_⟩;have:=ok.dX;rw[m9,bj,es.o,HT.o]at this;exact this.symm;have:=ok.bF;omega;rw[X.o I.o ok];unfold Y6 uE;rw[m6,aT À,aL hs];rfl;exact dC (g'.o I.o ok) e
 have bc:H<|uE (Ym m) f.F=if 0<qi (bV 16<|List.take 20 m)then(if qi (bV 16<|List.take 20 m)<=16384 then(if qi (bV 14<|List.take 16 m)=10001\/qi (bV 14<|List.take 16 m)=10002 then Y (jp f.F (qi (bV 14<|List.take 16 m):Q))else R)else R)else Y []:=by show _=_;unfold uE;rw[m6,m5]
 have bd:H<|∀y:Zl,vK (Ym m) (Ji f.m (aN d)) y=if T y=qi (bV 16<|List.take 20 m)then(if bV 20 (eI 52 m)=J9 (Ys y)then Yo (Y9 (Ym m) (Ji f.m (aN d))<|Ys y).flatten else R)else R:=λy=>by unfold vK;rw[m6,m7]
 have W:H<|∀(s:Zv) (n:U),n=(if 0<qi (bV 16<|List.take 20 m)then((qi (bV 14<|List.take 16 m):Q):U)else 0)->LV ao s (k.gZ (Ym m) k.mp) 0 ao 0 0=#[bG ao,s,J (aN d),J (qi (bV 4<|List.take 8 m):Q),E<|List.drop 52<|List.take 84 m,ak ⟨#[]⟩,J (qi (bV 10<|List.take 14 m):Q),J (qi (bV 14<|List.take 16 m):Q),J n,J 0,bG ao,J 0,J 0]:=λs n u=>by
  subst u;have ka:k.fD=[]/\k.gR=0:=by rw[t.o.k0];exact⟨O,O⟩
  unfold LV Lk.gZ;simp only[es.o,m2,m4,m5,m6,m8,ka.1,ka.2];rfl
 have cm:H<|∀(w:Zy) (v:Zv) (xs:bA Zl),T xs<=1000->(∀x∈xs,T x<=64)->Ju w C f->Yq w->Rw w 9 1 o5 v xs->aK prog 192 #[zq C,v,J (aN d),J (qi (bV 2<|List.take 4 m):Q),J (qi (bV 8<|List.take 10 m):Q)] w λe o=>∃v',e=ai v'/\ff w o 9 1 o5 v' (Y9 (Ym m) (Ji f.m (aN d)) xs):=λw v xs g l h3 h4 h5=>by have:=ϯ C f (Ym m) xs v g l t.o.ml w h3 h4 h5;rw[es.o,m1,m3]at this;omega
 have S:H<|h1=bV 84 m->¬(f.bF:U)<(qi (bV 4<|List.take 8 m):Q)->Xc k f.F=((uE (Ym m) f.F).bind<|vK (Ym m)<|Ji f.m (aN d)).map λL=>(k.gZ (Ym m) k.mp,L):=λe1 e2=>by rw[X.o I.o<|b5.o e1 e2,bj,es.o];rfl
 have bi:((st h1).toList==(st<|List.drop 84 m).toList)=bR (h1=bV 84 m):=by rw[xl,xl];by_cases h:h1=bV 84 m<;>simp[h]
 clear bj c6 m1 m2 m3 m4 m5 m6 m7 m8 m9 b2 g' X b5 bz l g1 cy cz c7;generalize qi (bV 16<|List.take 20 m)=sz at*;generalize qi (bV 4<|List.take 8 m)=cn at*;generalize qi (bV 14<|List.take 16 m)=nm at*;generalize qi (bV 10<|List.take 14 m)=bs at*;have hx:(h1≠bV 84 m\/(h1=bV 84 m/\(f.bF:U)<(cn:Q))\/(h1=bV 84 m/\¬(f.bF:U)<(cn:Q)/\(16384:U)<(sz:Q)))\/(h1=bV 84 m/\¬(f.bF:U)<(cn:Q)/\¬(16384:U)<(sz:Q)):=by by_cases g:h1=bV 84 m;simp only[g,true_and,ne_eq,not_true,false_or];omega;exact aJ<|aJ g
 obtain hx|⟨g,l,h3⟩:=hx
 ·have hd:H<|Xc k f.F=R:=jg λe=>by obtain⟨e1,e2,e3⟩:=b3.o e;obtain h|⟨-,h⟩|⟨-,-,h⟩:=hx;exact h e1;omega;omega
  have c1:=G8.o.1.b.eu;have c2:=G8.o.1.z.eu;have c3:=G8.o.1.z.gM;have c4:=X8.o.eu;obtain g|⟨g,l⟩|⟨g,l,h3⟩:=hx;all_goals
   first|rw[jm g]at bi|rw[jo g]at bi
   try have ce:=jo l
   try have br:f.bF<cn:=À
   try have br:=jo (show¬f.bF<cn by omega)
   clear g;go_wp2;go_big_quiet (fail);have NQ:H<|Nw w8<|w8.drewN nq:=(zj.refl _ _).eL;have q:=xe<|G8.o.1.ib NQ.o;have c1:=q.o.b.eu;have c2:=q.o.z.eu;have c3:=q.o.z.gM;generalize w8.drewN nq=A at*;go_wp2;exact zco
 rw[jm g]at bi;replace S:=xe<|S.o g l;have ce:=jo l;have br:=jo (show¬f.bF<cn by omega);have cs:=jo h3;have ct:=jo (show¬16384<sz by omega);have c4:=X8.o.eu;clear g b3;go_wp2;go_big_quiet (fail);have NQ:H<|Nw w8<|w8.drewN nq:=(zj.refl _ _).eL;have q:=xe<|G8.o.1.ib NQ.o;have X9:=xe<|X8.o.y NQ.o id;have dd:B<Lb:=G8.o.2;generalize w8.drewN nq=A at*;clear c4 bi ce br cs l cw X8 G8 NQ;by_cases hz:sz=0;focus
  subst hz;obtain⟨y,hy⟩:∃y:Zl,[]=y:=⟨_,O⟩;have en:H<|T y<=16384/\Xc k f.F=(if bV 20 (eI 52 m)=J9 (Ys y)then Yo (Y9 (Ym m) (Ji f.m (aN d))<|Ys y).flatten else R).map λL=>(k.gZ (Ym m) k.mp,L):=by subst hy;refine⟨Â,?_⟩;rw[S.o,bc.o,aL Ã,GO,bd.o,aT (show([]:Zl).length=0 from O)]
  have fr:H<|Rw A 9 1 o5 (aB R 0 0)<|Ys y:=by subst hy;exact jk _ _ _ _
  obtain⟨sn,ba⟩:∃sn:U,0=sn:=⟨_,O⟩;replace W:H<|∀s,_:=λs=>W.o s sn À;let⟨bk,hw⟩:=JP A;have G:=xe q.o;have ih:H<|xh A Lb #[bG ao,aB R 0 0,J (aN d),J (cn:Q),E<|List.drop 52<|List.take 84 m,ak ⟨#[]⟩,J (bs:Q),J (nm:Q),J sn,J 0,bG ao,J 0,J 0] 258:=by rw[<-ba];exact X9.o
  rw[hw]at G ih fr⊢;go_upto_region 19 with fail
  clear hw q X9 ba hy
 rotate_left;focus
  have i0:(0:U)<(sz:Q):=À
  have CB:H<|Calls prog 184 #[zq C,J nm] A λe o=>o=A/\e=ai (E<|jp f.F nm):=LS C f nm A (t.o.dI.y q.o.n) t.o.gT;have c0:=t.o.aD nm;generalize jp f.F (nm:U)=y at*;have c5:=X9.o.i (v:=J nm) 7 O;go_wp2;refine CB.o.mono ?_;rintro e wz⟨rfl,rfl⟩;obtain⟨A,rfl⟩:∃A,A=wz:=⟨_,O⟩;have hx:((nm≠10001/\nm≠10002)\/((nm=10001\/nm=10002)/\T y≠sz))\/((nm=10001\/nm=10002)/\T y=sz):=À
  have c1:=q.o.b.eu;have c2:=q.o.z.eu;have c3:=q.o.z.gM;clear CB;obtain hx|⟨u,rfl⟩:=hx
  ·have hd:H<|Xc k f.F=R:=by show _=_;rw[S.o,bc.o,aT À,aT À];obtain h|⟨h,l⟩:=hx;rw[aL À];rfl;rw[aT h,GO,bd.o,aL l];rfl
   obtain⟨ha,hb⟩|⟨u,hl⟩:=hx
   case' inr=>obtain rfl|rfl:=u
   all_goals
    try have p1:((nm:U) != 10001)=M/\¬(nm:U)=10001:=⟨Ç,À⟩
    try have p2:((nm:U) != 10002)=M/\¬(nm:U)=10002:=⟨Ç,À⟩
    try have p3:((T y:U) != (sz:U))=M/\¬(T y:U)=(sz:U):=⟨Ç,À⟩
    go_wp2;exact zco
  have en:H<|T y<=16384/\Xc k f.F=(if bV 20 (eI 52 m)=J9 (Ys y)then Yo (Y9 (Ym m) (Ji f.m (aN d))<|Ys y).flatten else R).map λL=>(k.gZ (Ym m) k.mp,L):=by refine⟨À,?_⟩;rw[S.o,bc.o,aT À,aT À,aT u,GO,bd.o,aT O]
  obtain⟨sn,ba⟩:∃sn:U,(nm:U)=sn:=⟨_,O⟩;replace W:H<|∀s,_:=λs=>W.o s sn À;have e8:=X9.o.i (v:=J 0) 8 O;have f8:=X9.o.dS 8;have ih:H<|xh (ay A (K Lb 8)<|J nm) Lb #[bG ao,aB R 0 0,J (aN d),J (cn:Q),E<|List.drop 52<|List.take 84 m,ak ⟨#[]⟩,J (bs:Q),J (nm:Q),J sn,J 0,bG ao,J 0,J 0] 258:=by rw[<-ba];exact X9.o.H 8<|J nm
  have G:H<|Mg w (ay A (K Lb 8)<|J nm) B:=by have hb:=q.o.hb;have bx:=zj.H A (K Lb 8)<|J nm;exact⟨q.o.z.y bx (show¬V (Z w)=Lb by omega),q.o.b.y bx (show¬B=Lb by omega),q.o.n.cZ (show V (Z w)<=Lb by omega) bx,hb⟩
  clear c1 c2 c3 h3 ct i0 ba q4 c8 c9 hz S bd bc;obtain rfl|rfl:=u;all_goals
   go_wp2;generalize ay A (K Lb 8) _=w7 at*;refine(ŀ y À _).mono ?_;rintro e bk⟨v,rfl,ho⟩;obtain⟨a1,c1,rfl⟩:=ho.dL;replace G:=xe<|G.o.ib ho.nw;replace ih:=xe<|ih.o.y ho.nw id;have fr:=xe ho.rw;clear ho;go_upto_region 19 with fail
 all_goals
  obtain⟨bt,cv,-⟩:=CY y;have c0:=en.o.1;go_wp2;refine(ϱ _ (Ys y) À (λx hx=>by have:=bt x hx;omega) _ (t.o.uV.nw G.o.n) fr.o).mono ?_;rintro e bl⟨rfl,hb⟩;have nb:Nw bk bl:=zj.J hb;have i:=xe<|G.o.ib nb;have bp:=xe<|ih.o.y nb id;have cc:=xe<|fr.o.y nb λ_ _=>id;have bb:((st<|J9<|Ys y).toList==(st<|List.drop 20<|List.take 52 m).toList)=bR (bV 20 (eI 52 m)=J9 (Ys y)):=by rw[xl,xl,Bool.beq_comm];by_cases h:bV 20 (eI 52 m)=J9 (Ys y)<;>simp[h]
  have c1:=i.o.b.eu;have c2:=i.o.z.eu;have c3:=i.o.z.gM;clear hb nb G ih fr;by_cases hr:bV 20 (eI 52 m)=J9 (Ys y)
  case neg=>
   have hd:H<|Xc k f.F=R:=by show _=_;rw[en.o.2,aL hr];rfl
   rw[jo hr]at bb;clear hr;go_wp2;exact tM i.o.z O O O λv F=>xC.rh hd.o<|i.o.n.cZ (zd _) F
  rw[jm hr]at bb;have b9:=xe<|en.o.2.trans<|congrArg (Option.map _)<|if_pos hr;have ck:=xe bt;have cl:H<|T (Ys y)<=256:=zbk
  have b6:H<|T (Y9 (Ym m) (Ji f.m (aN d))<|Ys y).flatten<=100000:=by show _<=_;rw[Mb];omega
  have b7:H<|T (Y9 (Ym m) (Ji f.m (aN d))<|Ys y)<=1000:=by show _<=_;rw[Ah];omega
  clear hr bt cv;generalize J9 (Ys y)=rt at*;go_wp2;have HQ:H<|∀o,Nw bl o->N o (K Lb 2)=J (aN d):=λo h=>(bp.o.y h id).i 2 O;have S0:=HQ.o _<|zj.refl _ _;have ND:H<|Nw bl bl.drew:=(zj.refl _ _).W;have S1:=HQ.o _ ND.o;clear c1 c2 c3 bb;go_region_held3 (λo=>N o (K Lb 2)=J (aN d)) (first|exact S0|exact S1|exact S2|exact S3)
   (first
    |(go_at_call 282;refine(bn.o _ _ Ã _).mono ?_;rintro e w7⟨rfl,rfl⟩)
    |(go_at_call 192;refine(cm.o _ _ (Ys y) (xa cl.o Ã) ck.o (t.o.dI.y<|i.o.n.aE ND.o) (t.o.uV.nw<|i.o.n.aE ND.o)<|cc.o.y ND.o λ_ _=>id).mono ?_;rintro e dj⟨v2,rfl,bv⟩;have cp:=xe bv;have bf:=xe<|ND.o.aE bv.nw;have S2:=HQ.o _ bf.o;clear bv)
    |(go_at_call 193;refine(ĸ _ _ b7.o b6.o _ cp.o.rw).mono ?_;rintro e w7⟨rfl,rfl⟩)
    |(go_at_call 284;refine(xkh _ b6.o _).mono ?_;rintro e bw⟨v3,bo,rfl,bu,⟨a3,i3,j3,rfl⟩,ci,cg⟩;have bg:=xe<|bf.o.aE bu;have S3:=HQ.o _ bg.o;have cq:=xe ci;have co:=xe cg;have db:=xe bu;clear ci cg bu))
  have wr:=xe<|i.o.ib bg.o;have bq:=xe<|bp.o.y bg.o id;have NB:=xe<|i.o.n.aE bf.o;have ch:¬V (Z w)=Lb:=by have:=i.o.hb;omega
  have da:¬Lb=V (Z w):=λe=>ch e.symm;clear S0 S1 S2 S3 HQ ND bf bg i bp cc;have c1:=wr.o.b.eu;have c2:=wr.o.z.eu;have c3:=wr.o.z.gM;cases hs:Yo (Y9 (Ym m) (Ji f.m (aN d))<|Ys y).flatten with
  |none=>
   obtain rfl:=co.o hs;have hd:H<|Xc k f.F=R:=by show _=_;rw[b9.o,hs];rfl
   clear hs;go_wp2;exact tM wr.o.z O O O λv F=>xC.rh hd.o<|wr.o.n.cZ (zd _) F
  |some D=>
   obtain⟨rfl,ho⟩:=cq.o D hs;have b4:=xe<|ho.bM NB.o;have hd:H<|Xc k f.F=Y (k.gZ (Ym m) k.mp,D):=by show _=_;rw[b9.o,hs];rfl
   have cr:H<|gG D=D:=tI.gG (SZ _ hs iV λp hp=>by cases hp).1;have d1:=bq.o.eu;have d2:=bq.o.dS 1;have bx:zj (·=Lb) bw<|ay bw (K Lb 1)<|aB a3 i3 j3:=zj.H bw (K Lb 1) _;have cd:=xe<|wr.o.z.y bx ch;have ca:=xe<|wr.o.n.cZ (by have:=wr.o.hb;omega) bx;have cb:=xe<|b4.o.y bx (b4.o.rw.ir bq.o Ã) ca.o;clear hs ho bx;go_wp2;refine tM cd.o O O O λv F=>?_;have nw:=ca.o.cZ (zd _) F;unfold xC;rw[hd.o];exact⟨nw,aB a3 i3 j3,gv (λz=>ai<|bY z) (W.o<|aB a3 i3 j3).symm,by rw[cr.o];exact cb.o.y F (cb.o.rw.ir cd.o Ã) nw⟩
end
section
attribute[local go_sem] zn zg
structure JR(C:Q)(d:Dk)(f:Rf):Prop where
 w:Gq d f
 L:T f.L<=5000000
 ok:∀p∈f.L,T p.1<=16/\T p.2<=32
 sh:0<=f.bC/\f.bC<=999
 F:T f.F<=1000000
 FF:∀p∈f.F,T p.2.1<=1000000
 us:0<=bO f.F/\bO f.F<=400000
 rm:0<=f.bU/\f.bU<=390000
def Rf.bs(f:Rf):U:=if f.sg=0 then f.bM else f.sg
def Rf.uF(f:Rf):Mf:=⟨f.ep,f.op,f.bF,bL f.bC,bL f.bs,fE f.dB,T (fX f.L),[],f.dX⟩
def Rf.fF(f:Rf):bA Zl:=Y9 f.uF (Ji f.m f.ep)<|Ys<|fX f.L
def Rf.mf(f:Rf):Mf:={f.uF with ga:=J9 f.fF}
def Rf.lE(f:Rf):Prop:=256<T (Ys<|fX f.L)\/f.bU<bO f.F+(T (fX f.L)+(if(jp f.F 0).length=0 then 116 else 0):Q)
def Dk.ut(d:Dk)(m:Mf)(y:Zl):ez×Dk:=if(d.put 0 y).1=M then Yc (oU m.cW 0<|-1) (Zk (d.put 0 y).2.L) (d.put 0 y).2 else d.put 0 y
def Dk.kq(d:Dk)(m:Mf)(P y:Zl):ez×Dk:=if P=[]then d.ut m y else if(d.gu m.cW P).1=M then(d.gu m.cW P).2.ut m y else d.gu m.cW P
def Rf.fin(f:Rf)(b:ez)(v:Zv)(F:Xv)(a:ez)(k:U):Rf:=if b=M then {f.dk v F a k f.gw with bC:=f.bC+1,bM:=f.bs,sg:=0,dB:=fE f.dB}else {f.dk v F a k ao with bC:=f.bC+1}
def ShQ(f:Rf)(d:Dk)(x:U)(f2:Rf)(p:Dk):Prop:=∃z y t,E1 f d z y t/\Tw t y/\
 ((z≠0/\x=z/\f2=y/\p=t)\/(z=0/\y.bC=999/\x=10/\f2=y/\p=t)\/(z=0/\y.bC≠999/\y.lE/\x=9/\f2=y/\p=t)\/
 (z=0/\y.bC≠999/\¬y.lE/\∃D,t.kq y.mf y.fF.flatten (y.mf.dW<|Y7 y.m y.ep)=D/\∃v F a k,x=(if D.1=M then 0 else 12)/\f2=y.fin D.1 v F a k/\p=D.2))
def sx(d:Dk)(n:U)(x:Zl):bO (d.gu n x).2.L<=bO d.L+(T x:U):=by
 have a:=yP (F:=d.L) n (jp d.L n++x,(Zm d.L n).2);simp only[zx]at a;have b:bO (d.gt n x).L<=bO d.L+T x:=zc3
 have c:=yP (F:=(d.gt n x).L) n (jp (d.gt n x).L n,(T (jp (d.gt n x).L n):U));simp only at c;unfold Dk.gu;split;exact Yx d.il À;split;exact Yx (Dk.il _) b;show bO (Vm (d.gt n x).L n _)<=_;omega
def BQ(d:Dk)(n:U)(x:Zl):bO (d.put n x).2.L<=bO d.L+(T x:U):=by
 have a:=yP (F:=d.L) n (x,(T x:U));unfold Dk.put;split;exact Yx d.il À
 grind
def S6(C:Q)(f:Rf)(d:Dk)(w:Zy)(e:kH)(w':Zy):Prop:=∃x f2 D,e=ai (J x)/\Xf C f w f2 w'/\Tw D f2/\ShQ f d x f2 D
def tj(C:Q)(f:Rf)(d:Dk)(w:Zy)(h:Ju w C f)(k:BO d f)(hT:∀w',zj (f.cN C) w w'->Yq w')(h1:∀f1 d1,E1 f d 0 f1 d1->Tw d1 f1->JR C d1 f1):aK prog 128 #[zq C] w<|S6 C f d w:=by
 have HH:=h;have HT:=hT;have H1:=h1;clear h1;go_enter func128.1,Tryz.ntmps128;go_wp2;refine(rk C f d w h k<|hT w<|zj.refl _ _).mono ?_;rintro e w1⟨x1,f1,d1,rfl,q1,q2,q3⟩;have Q1:=q1;have n:=q2;have Q3:=q3;clear q2 q3 h hT;by_cases hx:x1=0
 case neg=>
  have e1:(x1==0)=ao:=by simpa using hx
  have HX:=hx;clear hx;go_wp2;go_ret;exact⟨x1,f1,d1,O,Q1,n,_,_,_,Q3,n,aJ ⟨HX,O,O,O⟩⟩
 subst hx;have o:=H1 f1 d1 Q3 n;have i:=q1.dI;have ho:=HT _ q1.y;have cp:N w1 (K C 18)=J f1.bC:=q1.dI.bT.i 18 O;have cb:N w1 (K C 12)=Y f1.sv:=q1.dI.bT.i 12 O;clear q1;by_cases hs:f1.bC=999
 ·have e2:(f1.bC==999)=M:=by rw[hs];rfl
  go_wp2;go_ret;exact⟨10,f1,d1,O,Q1,n,_,_,_,Q3,n,ac<|aJ ⟨O,hs,O,O,O⟩⟩
 have B:∀x f2 d2 w',Xf C f1 w1 f2 w'->Tw d2 f2->((f1.lE/\x=9/\f2=f1/\d2=d1)\/(¬f1.lE/\∃D,d1.kq f1.mf f1.fF.flatten (f1.mf.dW<|Y7 f1.m f1.ep)=D/\∃v F a k,x=(if D.1=M then 0 else 12)/\f2=f1.fin D.1 v F a k/\d2=D.2))->S6 C f d w (ai<|J x) w':=λx f2 d2 w' y z t3=>⟨x,f2,d2,O,Q1.aE y,z,_,_,_,Q3,n,ac<|ac<|t3.imp (λt=>⟨O,hs,t⟩) λt=>⟨O,hs,t⟩⟩;have e2:(f1.bC==999)=ao:=by simpa using hs
 clear hs Q3 Q1 HT H1 HH k;obtain⟨sa,sc,bz⟩:=i.ss.dL;rw[bz]at cb;have HV:=bz;clear bz;go_wp2;refine(sw _ f1.L o.L o.ok _<|by have:=i.ss;rw[HV]at this;omega).mono ?_;rintro e w2⟨rfl,ch⟩;clear cp;have N2:=zj.J (S:=λ_=>False) ch;clear ch;have cg:=oc o.ok;have ce:=o.L;have g':H<|f1.lE=(256<T (Ys<|fX f1.L)\/f1.bU<bO f1.F+(T (fX f1.L)+(if(jp f1.F 0).length=0 then 116 else 0):Q)):=O;have h4:H<|f1.fF=Y9 f1.uF (Ji f1.m f1.ep) (Ys<|fX f1.L):=O;have bc:H<|f1.mf=⟨f1.ep,f1.op,f1.bF,bL f1.bC,bL f1.bs,fE f1.dB,T (fX f1.L),J9 f1.fF,f1.dX⟩:=O;generalize hW:fX f1.L=W at*;have HW:=hW;clear hW;go_wp2;refine(ŀ W À _).mono ?_;rintro e w3⟨v4,rfl,hO⟩;obtain⟨va,vc,rfl⟩:=hO.rw.dL;have O3:=hO;have N3:=N2.aE hO.nw;clear hO;go_wp2;refine(ZG C f1 _ (i.y N3) o.F o.FF).mono ?_;rintro e c3⟨rfl,rfl⟩;go_wp2;refine(ZD C f1 0 _ (i.y N3) o.F).mono ?_;rintro e cu⟨rfl,rfl⟩;have cc:N cu (K C 12)=aB sa (T f1.L) sc:=by rw[(i.y N3).bT.i 12 O,<-HV];rfl
 clear cb;go_wp2;refine(sw _ f1.L o.L o.ok _<|by have:=(i.y N3).ss;rw[HV]at this;omega).mono ?_;rintro e w5⟨rfl,ci⟩;have bf:=zj.J (S:=λ_=>False) ci;have N5:=N3.aE bf;clear ci cc;rw[HW];have b0:=o.us;have cm:=o.rm;let⟨pl,bj⟩:=JP<|T (Ys W);let⟨ml,bx⟩:=JP<|T (jp f1.F 0);let⟨us,hu⟩:=JP<|bO f1.F;have I:=bj;have HU:=hu;rw[bj,bx,hu];rw[bj,bx,hu]at g';rw[hu]at b0;clear bj bx hu;obtain⟨mo,ih⟩:∃mo:Q,T W+(if ml=0 then 116 else 0)=mo:=⟨_,O⟩;rw[ih]at g';have bp:H<|ml=0->IntKind.i64.wrap ((T W:U)+116)=(mo:U):=λe=>by rw[zh]<;>(rw[aT e]at ih;omega)
 have bo:H<|ml≠0->T W=mo:=λe=>by rw[aL e]at ih;omega
 have bk:T W<=mo:=by rw[<-ih];exact Nat.le_add_right _ _
 have m2:IntKind.i64.wrap (us+(mo:U))=us+(mo:U):=by rw[zh]<;>(split at ih<;>omega)
 clear ih;go_upto_if 42 with fail
 go_cut [7] (λs wx=>s=J mo/\w5=wx)
 case first=>
  by_cases hm:ml=0
  ·have m0:=bp.o hm;subst hm;go_wp2;go_meet;simp
  have e3:((ml:U)==0)=ao:=by
                       have:¬(ml:U)=0:=À
                       simpa using this
  have m0:=bo.o hm;go_wp2;go_meet;exact⟨by rw[m0],O⟩
 obtain⟨rfl,rfl⟩:=hcut;have c0:N w5 (K C 0)=J f1.bU:=(i.y N5).bT.i 0 O;by_cases hA:256<pl\/f1.bU<us+(mo:U)
 ·have F9:=B 9 f1 d1 w5 (Xf.nw i N5) n<|aJ ⟨g'.o▸hA,O,O,O⟩;clear B;by_cases hp:256<pl
  ·have p1:(256:U)<(pl:Q):=À;go_wp2;go_ret;exact F9
  have p1:¬(256:U)<(pl:Q):=À
  have p2:f1.bU<us+(mo:U):=hA.resolve_left hp;go_wp2;go_ret;exact F9
 have HA:¬f1.lE:=g'.o▸hA;have p1:¬(256:U)<(pl:Q):=À
 have p2:¬f1.bU<us+(mo:U):=λe=>hA<|ac e;have hX:∀x∈Ys W,T x<=64:=(CY W).1;have cf:T W<=16384:=by have:=Iv hX;rw[(CY W).2.2,I]at this;omega
 have bu:=cf;have hr:us+(T W:U)<=390000:=zbk
 have j:T f1.fF<=256/\(∀x∈f1.fF,T x<=64)/\T f1.fF.flatten=T W:=by show _/\_;rw[h4.o];exact⟨by rw[Ah,I];omega,Qo hX,Mb _ _ _⟩
 obtain⟨sn,cn⟩:∃sn:Q,f1.bC=(sn:U):=⟨bL f1.bC,by have:=o.sh;omega⟩;have hw:=cn;have HC:∀w',Nw w5 w'->N w' (K C 14)=J f1.ep/\N w' (K C 9)=J f1.op/\N w' (K C 18)=J sn:=λw' r=>by have A:=i.y<|N5.aE r;exact⟨A.bT.i 14 O,A.bT.i 9 O,by rw[<-hw];exact A.bT.i 18 O⟩
 have b3:∀w',Nw w5 w'->aK prog 192 #[zq C,aB va pl vc,J f1.ep,J f1.op,J sn] w' λe es=>∃v',e=ai v'/\ff w' es 9 1 o5 v' f1.fF:=λw' r=>by have q:=(O3.rw.y (bf.aE r) λ_ _=>id);rw[I]at q;have:=ϯ C f1 f1.uF (Ys W) _ (by rw[I];omega) hX o.w.m w' (i.y<|N5.aE r) (ho.nw<|N5.aE r) q;rw[show(f1.uF.bC:U)=(sn:U) by show((bL f1.bC:Q):U)=_;omega]at this;rw[h4.o];exact this
 clear hA hX cf cn;go_upto_region 14 with fail
 clear c0;go_cut [8] (λs wx=>Nw w5 wx/\Rw wx 9 1 o5 s f1.fF)
 case first=>
  clear B h4 bc g' HA hr j bo bp p1 p2 m2 N2 N3 bf O3 HV HW ho o n I HU hw i N5;have S0:=HC _<|zj.refl _ _;have g:Nw w5 w5.drew:=(zj.refl _ _).W;go_region_held3 (λw'=>N w' (K C 14)=J f1.ep/\N w' (K C 9)=J f1.op/\N w' (K C 18)=J sn) (first|exact S0|exact S1)
   (first
    |(go_at_call 192;refine(b3 _ g).mono ?_;rintro e w6⟨v8,rfl,bw⟩;have P:=g.aE bw.nw;have O6:=bw.rw;have S1:=HC _ P;clear bw))
  go_wp2;go_meet;exact⟨P,O6⟩
 obtain⟨n6,o6⟩:=hcut;have P:=N5.aE n6;have O6:=o6;obtain⟨w6,rfl⟩:∃x,x=wc:=⟨_,O⟩;clear HC b3 p1 p2 m2 n6 o6 N5 bf N3 N2 O3 bo bp;have cr:N w6 (K C 19)=J f1.dB:=(i.y P).bT.i 19 O;have cq:N w6 (K C 17)=J f1.sg:=(i.y P).bT.i 17 O;have cd:N w6 (K C 16)=J f1.bM:=(i.y P).bT.i 16 O;obtain⟨c,bi⟩:∃c:Q,fE f1.dB=c:=⟨_,O⟩;obtain⟨bn,fr⟩:∃bn:Q,f1.bs=(bn:U):=⟨bL f1.bs,by have h1:=o.w.sg;have h2:=o.w.bM;unfold Rf.bs;omega⟩;go_upto_if 77 with fail
 go_cut [9] (λs wx=>s=J c/\w6=wx)
 case first=>
  by_cases hn:f1.dB=10001
  ·have e5:(f1.dB==10001)=M:=by rw[hn];rfl
   have e6:c=10002:=by rw[<-bi,fE,aT hn]
   subst e6;go_wp2;go_meet;simp
  have e5:(f1.dB==10001)=ao:=by simpa using hn
  have e6:c=10001:=by rw[<-bi,fE,aL hn]
  subst e6;go_wp2;go_meet;simp
 obtain⟨rfl,rfl⟩:=hcut;go_upto_if 83 with fail
 go_cut [10] (λs wx=>s=J bn/\w6=wx)
 case first=>
  by_cases hn:f1.sg=0
  ·have e5:(f1.sg==0)=M:=by rw[hn];rfl
   rw[Rf.bs,aT hn]at fr;rw[fr]at cd;go_wp2;go_meet;simp
  have e5:(f1.sg==0)=ao:=by simpa using hn
  rw[Rf.bs,aL hn]at fr;go_wp2;go_meet;exact⟨by rw[fr],O⟩
 obtain⟨rfl,rfl⟩:=hcut;have hq:=bi;have bl:=fr;clear bi fr cr cq cd;go_wp2;refine(ĸ _ f1.fF (by have:=j.1;omega) (by rw[j.2.2];have:=bu;omega) _ O6).mono ?_;rintro e w7⟨rfl,rfl⟩;generalize f1.fF.flatten=pt at*;have HQ:∀w',Nw w7 w'->N w' (K C 14)=J f1.ep/\N w' (K C 9)=J f1.op/\N w' (K C 8)=J f1.bF/\N w' (K C 18)=J sn/\N w' (K C 15)=E f1.dX:=λw' r=>by have A:=i.y<|P.aE r;exact⟨A.bT.i 14 O,A.bT.i 9 O,A.bT.i 8 O,by rw[<-hw];exact A.bT.i 18 O,A.bT.i 15 O⟩
 have bq:H (f1.mf.lc=77::(nb f1.ep 1++(nb f1.op 2++(nb f1.bF 4++(nb sn 2++(nb bn 4++(nb c 2++(nb (T pt) 4++(J9 f1.fF++f1.dX))))))))):=by show _=_;rw[bc.o,j.2.2];simp only[Mf.lc,hw,bl,hq,Int.toNat_natCast]
 have b6:∀w',Nw w7 w'->aq 109 #[u8] w' (E<|J9 f1.fF):=λw' r=>ϱ _ f1.fF j.1 (λx hx=>xa (j.2.1 x hx) Ã) w' (ho.nw<|P.aE r)<|O6.y r λ_ _=>id;have l8:T (J9 f1.fF)=32:=IB _ j.1;have l9:=o.w.dX;have X:H<|T f1.mf.lc=84:=by show _=_;rw[bq.o];simp only[xg,zx,Z2,l8,l9]
 go_upto_region 22 with fail
 go_cut [12] (λs wx=>s=E f1.mf.lc/\Nw w7 wx)
 case first=>
  clear B h4 bc g' HA hr j HV HW ho o n I HU hw i P O6 hq bl X b0 cm bu cg ce bk e2;have l1:=Z2 f1.ep 1;have l2:=Z2 f1.op 2;have l3:=Z2 f1.bF 4;have l4:=Z2 sn 2;have l5:=Z2 bn 4;have l6:=Z2 c 2;have l7:=Z2 (T pt) 4;have S0:=HQ _<|zj.refl _ _;have g:Nw w7 w7.drew:=(zj.refl _ _).W;go_region_held3 (λw'=>N w' (K C 14)=J f1.ep/\N w' (K C 9)=J f1.op/\N w' (K C 8)=J f1.bF/\N w' (K C 18)=J sn/\N w' (K C 15)=E f1.dX) (first|exact S0|exact S1)
   (first
    |(go_at_call 167;refine(SD _ _ Ã _).mono ?_;rintro e w8⟨rfl,hb⟩;replace g:=g.aE<|zj.J hb;have S1:=HQ _ g)
    |(go_at_call 109;refine(b6 _ g).mono ?_;rintro e w8⟨rfl,hb⟩;replace g:=g.aE<|zj.J hb;have S1:=HQ _ g))
  go_wp2;go_meet;refine⟨gv ak ?_,g⟩;rw[bq.o,show(⟨#[77]⟩:eM)=st [77]from O];simp only[zg,jq,qg,qj]
 obtain⟨rfl,n8⟩:=hcut;have N8:=P.aE n8;obtain⟨w8,rfl⟩:∃x,x=wc:=⟨_,O⟩;clear n8 HQ bq b6 l8 l9 O6;have HQ:∀w',Nw w8 w'->N w' (K C 14)=J f1.ep:=λw' r=>(i.y<|N8.aE r).bT.i 14 O;have b8:∀w',Nw w8 w'->aq 194 #[zq C,J f1.ep] w' (E<|Y7 f1.m f1.ep):=λw' r=>Ms C f1 f1.ep w' (i.y<|N8.aE r) (ho.nw<|N8.aE r) o.w.m;have b4:H<|∀w',Nw w8 w'->aq 105 #[E<|Y7 f1.m f1.ep,E f1.mf.lc] w' (E<|Wu (Y7 f1.m f1.ep) f1.mf.lc):=λw' r=>FJ _ _ (by rw[Ek];decide) (by rw[X.o];decide) w'<|ho.nw<|N8.aE r;have co:H<|f1.mf.dW (Y7 f1.m f1.ep)=f1.mf.lc++Wu (Y7 f1.m f1.ep) f1.mf.lc:=O;have l1:=X.o;have l2:T (Wu (Y7 f1.m f1.ep) f1.mf.lc)=32:=uP _ _;have S0:=HQ _<|zj.refl _ _;go_wp2;refine(b8 _<|zj.refl _ _).mono ?_;rintro e wa⟨rfl,hb⟩;have HB:=zj.J (S:=λ_=>False) hb;clear hb S0;go_wp2;refine(b4.o _ HB).mono ?_;rintro e w9⟨rfl,hb⟩;have N9:=N8.aE<|HB.aE<|zj.J (S:=λ_=>False) hb;have ws:st f1.mf.lc++st (Wu (Y7 f1.m f1.ep) f1.mf.lc)=st (f1.mf.dW<|Y7 f1.m f1.ep):=by rw[zg];rfl
 clear hb HB HQ b8 b4 co N8 P;have ct:N w9 (K C 18)=J f1.bC:=(i.y N9).bT.i 18 O;have cv:=(i.y N9).bT.dS 18;have bg:H<|Xf C f1 w1 {f1 with bC:=f1.bC+1}<|ay w9 (K C 18)<|J<|f1.bC+1:=(Xf.nw i N9).aE<|Xf.H (i.y N9) 18 (J<|f1.bC+1) za5 O O O;have bv:H<|Tw d1 {f1 with bC:=f1.bC+1}:=⟨n.bU,n.gF,n.gL,n.mJ,n.mt,n.fU,n.nx,n.cQ,n.ko⟩;have wr:IntKind.i64.wrap (f1.bC+1)=f1.bC+1:=by have:=o.sh;rw[zh]<;>omega
 have be:H<|bO d1.L=us:=by show _=_;rw[<-n.wP,HU]
 have b5:H<|kh (c:U):=by have:c=10001\/c=10002:=(by rw[<-hq];unfold fE;split<;>simp);unfold H kh;omega
 have br:H<|T (f1.mf.dW<|Y7 f1.m f1.ep)=116:=by show _=_;rw[Mf.dW,zx,X.o,uP]
 have b2:H<|∀w',Ju w' C {f1 with bC:=f1.bC+1}->pt≠[]->aK prog 195 #[zq C,J c,E pt] w' (qZ C {f1 with bC:=f1.bC+1} (d1.gu c pt) w'):=λw' ha cs=>Ł C _ d1 c _ w' ha bv.o (by rw[be.o,j.2.2];have:=hr;omega) b5.o cs;have bm:H<|d1.kq f1.mf pt (f1.mf.dW<|Y7 f1.m f1.ep)=if pt=[]then d1.ut f1.mf (f1.mf.dW<|Y7 f1.m f1.ep)else if(d1.gu c pt).1=M then(d1.gu c pt).2.ut f1.mf (f1.mf.dW<|Y7 f1.m f1.ep)else d1.gu c pt:=by show _=_;rw[<-hq];rfl
 have bt:H<|bO (d1.gu c pt).2.L<=390000:=by have:=sx d1 c pt;rw[be.o,j.2.2]at this;have:=hr;show _<=_;omega
 have b9:H<|bO d1.L<=390000:=by show _<=_;rw[be.o];have:=hr;omega
 have b7:H<|∀d:Dk,d.ut f1.mf (f1.mf.dW<|Y7 f1.m f1.ep)=if(d.put 0<|f1.mf.dW<|Y7 f1.m f1.ep).1=M then Yc (oU (c:U) 0<|-1) (Zk (d.put 0<|f1.mf.dW<|Y7 f1.m f1.ep).2.L) (d.put 0<|f1.mf.dW<|Y7 f1.m f1.ep).2 else d.put 0 (f1.mf.dW<|Y7 f1.m f1.ep):=λd=>by rw[<-hq];rfl
 have cl:(pt=[]/\¬(0:U)<(T pt:Q))\/(pt≠[]/\(0:U)<(T pt:Q)):=by by_cases e:pt=[];exact aJ ⟨e,by rw[e];decide⟩;exact ac ⟨e,by have:=Z0.2 e;omega⟩
 clear X b0 cm cg ce bk e2 HV HW ho I HU hw h4 bc g' hr bu be b5 n N9 i;go_upto_if 151 with fail
 have bb:H<|∀w' D v F a k,d1.kq f1.mf pt (f1.mf.dW<|Y7 f1.m f1.ep)=D->D.1=ao->Xf C f1 w1 (({f1 with bC:=f1.bC+1}:Rf).dk v F a k ao) w'->Tw D.2 (({f1 with bC:=f1.bC+1}:Rf).dk v F a k ao)->S6 C f d w (ai<|J 12) w':=λw' D v F a k e1 e2 y z=>B 12 _ D.2 w' y z<|ac ⟨HA,D,e1,v,F,a,k,Á,by rw[e2];rfl,O⟩;clear ct cv wr;obtain⟨ht,hl⟩|⟨ht,hl⟩:=cl;focus
  have p:H<|d1.kq f1.mf pt (f1.mf.dW<|Y7 f1.m f1.ep)=d1.ut f1.mf (f1.mf.dW<|Y7 f1.m f1.ep):=by show _=_;rw[bm.o,aT ht]
  have G:H<|∃v F a k,Xf C f1 w1 (({f1 with bC:=f1.bC+1}:Rf).dk v F a k f1.gw) (ay w9 (K C 18)<|J<|f1.bC+1)/\Tw d1 (({f1 with bC:=f1.bC+1}:Rf).dk v F a k f1.gw):=⟨f1.fv,f1.F,f1.nE,f1.ko,bg.o,bv.o⟩;let⟨u,h3⟩:=JP d1;let⟨wd,b1⟩:=JP<|ay w9 (K C 18) (J<|f1.bC+1);replace G:H<|∃v F a k,Xf C f1 w1 (({f1 with bC:=f1.bC+1}:Rf).dk v F a k f1.gw) wd/\Tw u (({f1 with bC:=f1.bC+1}:Rf).dk v F a k f1.gw):=by rw[<-b1,<-h3];exact G.o
  replace p:H<|d1.kq f1.mf pt (f1.mf.dW<|Y7 f1.m f1.ep)=u.ut f1.mf (f1.mf.dW<|Y7 f1.m f1.ep):=h3▸p.o;have bd:H<|bO u.L<=390000:=h3▸b9.o;rw[b1];clear b1 h3 ht;go_upto_region 29 with fail
 rotate_left;focus
  have p:H<|d1.kq f1.mf pt (f1.mf.dW<|Y7 f1.m f1.ep)=if(d1.gu c pt).1=M then(d1.gu c pt).2.ut f1.mf (f1.mf.dW<|Y7 f1.m f1.ep)else d1.gu c pt:=by show _=_;rw[bm.o,aL ht]
  have CA:=b2.o _ bg.o.dI ht;clear ht;go_wp2;refine CA.mono ?_;rintro e wd⟨rfl,v,F,a,k,y,z⟩;have T1:=bg.o.aE y;have T2:=z;clear y z CA;let⟨u,h3⟩:=JP<|d1.gu c pt;rw[h3]at T1 T2 p bt⊢;clear h3;obtain⟨b,u⟩:=u;cases b
  case false=>go_wp2;go_ret;exact bb.o _ _ v F a k (p.o.trans<|if_neg Â) O (by have:=T1;grind)<|by have:=T2;grind
  replace p:H<|d1.kq f1.mf pt (f1.mf.dW<|Y7 f1.m f1.ep)=u.ut f1.mf (f1.mf.dW<|Y7 f1.m f1.ep):=p.o.trans<|if_pos O;have G:H<|∃v F a k,Xf C f1 w1 (({f1 with bC:=f1.bC+1}:Rf).dk v F a k f1.gw) wd/\Tw u (({f1 with bC:=f1.bC+1}:Rf).dk v F a k f1.gw):=⟨v,F,a,k,by have:=T1;rwa[Cc]at this,by have:=T2;rwa[Cc]at this⟩;have bd:H<|bO u.L<=390000:=bt.o;clear T1 T2;go_upto_region 29 with fail
 all_goals
  obtain⟨v,F,a,k,y,z⟩:=G.o;clear G bm b2 bt b9 bv bg hl;have T1:=y;have T2:=z;have CP:=Md C _ u 0 (f1.mf.dW<|Y7 f1.m f1.ep) wd y.dI z (Yx bd.o Ã) ï (by rw[br.o];decide);have ca:H<|bO (u.put 0<|f1.mf.dW<|Y7 f1.m f1.ep).2.L<=400000:=by have:=BQ u 0<|f1.mf.dW<|Y7 f1.m f1.ep;rw[br.o]at this;have:=bd.o;show _<=_;omega
  replace p:=xe<|p.o.trans<|b7.o u;clear y z b7 bd br;generalize f1.mf.dW (Y7 f1.m f1.ep)=sl at*;go_wp2;refine CP.mono ?_;rintro e we⟨rfl,v',F',a',k',y,z⟩;have ba:=T1.aE y;have bh:=z;clear y z CP T1 T2;let⟨de,cj⟩:=JP<|u.put 0 sl;rw[cj]at ba bh p ca⊢;clear cj;obtain⟨b,de⟩:=de;cases b
  case false=>go_wp2;go_ret;exact bb.o _ _ v' F' a' k' (p.o.trans<|if_neg Â) O (by have:=ba;rwa[Vo]at this)<|by have:=bh;rwa[Vo]at this
  replace p:=xe<|p.o.trans<|if_pos O;have CC:=ġ C _ de (c:U) 0 (-1) we ba.dI bh ca.o;go_wp2;refine CC.mono ?_;rintro e wf⟨rfl,v2,F2,a2,k2,y,z⟩;have T1:=ba.aE y;have T2:=z;have hd:=p.o;clear y z CC ba bh p;let⟨df,ck⟩:=JP<|Yc (oU (c:U) 0<|-1) (Zk de.L) de;rw[ck]at T1 T2 hd⊢;have p:=xe hd;clear ck hd;obtain⟨b,df⟩:=df;cases b
  case false=>go_wp2;go_ret;exact bb.o _ _ v2 F2 a2 k2 p.o O (by have:=T1;rwa[Vo]at this)<|by have:=T2;rwa[Vo]at this
  have t3:Xf C f1 w1 (({f1 with bC:=f1.bC+1}:Rf).dk v2 F2 a2 k2 f1.gw) wf:=by have:=T1;simpa[Rf.dk]using this
  have l:Tw df<|({f1 with bC:=f1.bC+1}:Rf).dk v2 F2 a2 k2 f1.gw:=by have:=T2;simpa[Rf.dk]using this
  have s1:=Xf.H (f':={f1.dk v2 F2 a2 k2 f1.gw with bC:=f1.bC+1,bM:=bn}) t3.dI 16 (J bn) O O O O;have s2:=Xf.H (f':={f1.dk v2 F2 a2 k2 f1.gw with bC:=f1.bC+1,bM:=bn,sg:=0}) s1.dI 17 (J 0) O O O O;have s3:=Xf.H (f':={f1.dk v2 F2 a2 k2 f1.gw with bC:=f1.bC+1,bM:=bn,sg:=0,dB:=c}) s2.dI 19 (J c) O O O O;have FF:=B 0 _ df _ (((t3.aE s1).aE s2).aE s3) ⟨l.bU,l.gF,l.gL,l.mJ,l.mt,l.fU,l.nx,l.cQ,l.ko⟩<|ac ⟨HA,(M,df),p.o,v2,F2,a2,k2,O,by rw[Rf.fin,aT O,bl,hq],O⟩;have cz:=t3.dI.bT.dS 16;have cw:N wf (K C 16)=J f1.bM:=t3.dI.bT.i 16 O;have c1:=s1.dI.bT.dS 17;have c2:=s2.dI.bT.dS 19;have cx:=s1.dI.bT.i (v:=J f1.sg) 17 O;have cy:=s2.dI.bT.i (v:=J f1.dB) 19 O;clear t3 l s1 s2 s3 T1 T2 p B bb;go_wp2;go_ret;exact FF
end
def Ta{d n x}(h:bO d.L+(T x:Int)<=d.bU)(hx:pp d):bO (d.gu n x).2.L<=d.bU/\(d.gu n x).2.bU=d.bU/\pp (d.gu n x).2:=by
 have c:∀d:Dk,d.eS.bU=d.bU:=λd=>zad
 have e:=yP (F:=d.L) n (jp d.L n++x,(Zm d.L n).2);simp only[zx]at e;have f:bO (d.gt n x).L<=d.bU:=zc3
 have a:=Dk.jO d;unfold Dk.gu;split;exact⟨Yx d.il À,c d,hx.eS⟩;rename_i y;have b:pp<|d.gt n x:=hx.dZ Á;split;exact⟨Yx (Dk.il _) f,(c _).trans a,b.eS⟩;rename_i z;refine⟨?_,(Dk.jO _).trans a,b.dZ Á⟩;have g:=yP (F:=(d.gt n x).L) n (jp (d.gt n x).L n,(T (jp (d.gt n x).L n):U));simp only at g;show bO (Vm (d.gt n x).L n _)<=_;omega
theorem Ws.cD(h:Ws r f)(o:Ok n r)(b:r.sn=Y s):f.cD=(((r.cD s).1:U),(r.cD s).2):=by obtain⟨j,k,l,m,c,d,-⟩:=h.lU s b;obtain⟨⟨e,g,i⟩,-⟩:=o.lU s b;unfold Rf.cD Sr.cD Rf.vj;rw[d,c,h.bF,h.ov];by_cases a:s.aQ<=s.bM;grind;rw[aL a,aL À,h.tw.wO];grind
def Nt(o:Ok n r)(a:r.sn=Y s):s.aQ<=((r.cD s).1:U)/\((r.cD s).1:U)<=s.aQ+1/\s.bM<((r.cD s).1:U):=by obtain⟨⟨b,c,d⟩,-⟩:=o.lU s a;grind [Sr.cD]
def WX(A:dD U×Sr)(x:U)(r':Sr):Prop:=A=(Y x,r')\/∃y,A=(R,y)/\x=12/\r'=y.kZ
def WX.inj{A x y c d}(h:WX A x c)(k:WX A y d):x=y/\c=d:=by obtain h|⟨a,h,rfl,rfl⟩:=h<;>obtain k|⟨b,k,rfl,rfl⟩:=k<;>rw[h]at k<;>cases k<;>exact⟨O,O⟩
def WX.no{A x c}(h:WX A x c)(b:x≠0):A.1≠Y 0:=by obtain h|⟨a,h,-⟩:=h<;>rw[h]<;>simp[b]
def Ws.jI{a b}(h:Ws r f)(o:Ok n r)(l:r.sn=Y s)(I:n<1000000)(i:T a=1)(e:r.fc s a m b=(Y 0,r')):r'=r.jI s a m b/\jB r'.d.L/\oQ r'.d.L/\(∀D x,r'.d.cN D x->r.d.cN D x)/\∀s',Nm (n+1) s'->Ok (n+1) {r.jI s a m b with sn:=Y s'}:=by
 let⟨u,g⟩:=JP<|(r.cD s).2++rn r.m r.bQ a m r.op r.bF b;have B:T u=T (r.cD s).2+(42+T b):=by rw[<-g,zx,P8 r.m r.bQ a m r.op r.bF b i]
 let⟨p1,p2,p3⟩:=Nt o l;obtain⟨⟨P,A,h1⟩,-⟩:=o.lU s l;have c:((r.cD s).1:U)≠0:=À
 have k:kh ((r.cD s).1:U):=ï
 have hd:(r.jI s a m b).d=(r.d.gt (r.cD s).1 u).uC (r.cD s).1:=by rw[<-g];rfl
 have y:r.bF+1<=n+1:=by have:=o.bF;omega
 unfold Sr.fc at e;rw[g]at e;split at e;cases e;split at e;cases e;split at e;cases e;split at e;cases e;rename_i c2 s1 q;cases e;have h2:=o.bU;obtain⟨t,v,j⟩:=Ta (x:=u) À o.nx;unfold Dk.gu at t v j;rw[aL s1,aL q,<-hd]at t v j;have hx:=In r.d.L (r.cD s).1;have C:=oQ.mJ h.tw.fU (r.cD s).1;have ho:jp (r.d.gt (r.cD s).1 u).L (r.cD s).1=jp r.d.L (r.cD s).1++u:=by show jp (Vm r.d.L _ _) _=_;rw[Eu h.tw.gL,aT O]
 have w:oQ (r.d.gt (r.cD s).1 u).L:=oQ.np h.tw.fU k ⟨C.1,by grind [Zm,jp],Á⟩;refine⟨O,hd▸(h.tw.gL.np _ _).np _ _,hd▸oQ.np w k ⟨Â,Int.le_refl _,Á⟩,λD x p=>?_,λs' z=>⟨o.m,uP _ _,y,o.op,Á,Á,j,λq F=>Á,λ_=>?_⟩⟩;rw[hd]at p;have G:r.d.dZ.cN D x:=(Dk.kO (r.d.gt (r.cD s).1 u) D x).1 p;grind [Dk.kO];show jp (r.jI s a m b).d.L 0=[]\/T (jp (r.jI s a m b).d.L 0)=116;rw[hd];show jp (Vm (Vm r.d.L _ _) _ _) 0=[]\/T (jp (Vm (Vm r.d.L _ _) _ _) 0)=116;rw[Eu<|h.tw.gL.np _ _,aL c.symm,Eu h.tw.gL,aL c.symm];exact o.mf Á
def Ws.wr{b c x y d'}(h:Ws r f)(o:Ok n r)(C:r.sn=Y s)(P:n<1000000)(t:T b=1)(hw:Dv f r.d f.cD.1 (f.cD.2++rn f.m f.dX b m f.op f.bF c) (ua f.m f.dX b m f.op f.bF c) x y d')(l:Tw d' y):(x≠0/\∃r',WX (r.fc s b m c) x r'/\d'=r'.d/\Ws r' y/\Ok (n+1) r')\/(x=0/\r.fc s b m c=(Y 0,r.jI s b m c)/\d'=(r.jI s b m c).d/\(∃v F a k,y=(f.dk v F a k f.gw).BH (r.cD s).1 (ua r.m r.bQ b m r.op r.bF c))/\∀s',Nm (n+1) s'->Ok (n+1) {r.jI s b m c with sn:=Y s'}):=by
 have i:=o.U<|Xu n;let⟨k1,k2,k3,k4,k5,k6,k7⟩:=h.lU s C;rw[h.cD o C,h.m,k4,h.op,h.bF]at hw;unfold Dv at hw;rw[h.bF,h.mW,h.tw.bU]at hw;let⟨u,B⟩:=JP<|(r.cD s).2++rn r.m r.bQ b m r.op r.bF c;have G:T u=T (r.cD s).2+(42+T c):=by rw[<-B,zx,P8 r.m r.bQ b m r.op r.bF c t]
 unfold Sr.fc;rw[B]at hw⊢;obtain⟨w,rfl,rfl,rfl⟩|⟨w,z,rfl,rfl,rfl⟩|⟨w,z,c3,rfl,rfl,v,F,a,k,rfl⟩|⟨w,z,c3,rfl,rfl,v,F,a,k,rfl⟩:=hw;exact aJ ⟨Ã,r,aJ Á,O,h,i⟩;exact aJ ⟨Ã,r,aJ Á,O,h,i⟩;all_goals
  rw[aL w,aL À];obtain⟨A,D,q⟩:=Ta (Int.not_lt.1 z) o.nx;have j:0<=(r.d.gu (r.cD s).1 u).2.bU/\(r.d.gu (r.cD s).1 u).2.bU<=100000:=by rw[D];exact o.bU
  have p:bO (r.d.gu (r.cD s).1 u).2.L<=(r.d.gu (r.cD s).1 u).2.bU:=by rw[D];exact A
  unfold Dk.gu at c3 q j p l⊢;split at c3
 rename_i I;rw[aT I]at q j p l⊢;rw[aT I];exact aJ ⟨Ã,_,ac ⟨_,O,O,O⟩,O,⟨l,h.ov,h.mW,h.m,h.bF,h.op,h.bQ,O,λs' g=>ò⟩,⟨i.m,i.bQ,i.bF,i.op,j,p,q,λs' g=>ò,λg=>ò⟩⟩;rename_i I;rw[aL I]at q j p l⊢;rw[aL I];split at c3;rename_i s2;rw[aT s2]at q j p l⊢;rw[aT s2];exact aJ ⟨Ã,_,ac ⟨_,O,O,O⟩,O,⟨l,h.ov,h.mW,h.m,h.bF,h.op,h.bQ,O,λs' g=>ò⟩,⟨i.m,i.bQ,i.bF,i.op,j,p,q,λs' g=>ò,λg=>ò⟩⟩;grind;cases c3;rename_i I;rw[aL I]at q j p l⊢;rw[aL I];split at c3;cases c3;rename_i s2;rw[aL s2]at q j p l⊢;rw[aL s2];have e:(r.jI s b m c).d=(r.d.gt (r.cD s).1 u).uC (r.cD s).1:=by rw[<-B];rfl
 exact ac ⟨O,O,e.symm,⟨v,F,a,k,O⟩,(h.jI o C P t (r':=r.jI s b m c)<|by grind [Sr.fc]).d⟩
def Ws.Nr{x p g}(h:Ws r f)(o:Ok n r)(b:r.sn=Y s)(u:n<1000000)(q:E1 f r.d x p g)(t:Tw g p):∃r1,WX (r.fm s) x r1/\g=r1.d/\Ws r1 p/\Ok (n+1) r1/\(x=0->r.fm s=(Y 0,r1)):=by
 let⟨k1,k2,k3,k4,k5,k6,k7⟩:=h.lU s b;let⟨j1,j2,j3,j4,j5,j6,j7⟩:=o.lU s b;let⟨p1,p2,p3⟩:=Nt o b;obtain⟨q,-⟩|⟨G,j,rfl,rfl,rfl⟩|⟨G,j,C,v,w,rfl⟩:=q;rw[h.on b]at q;cases q;have e:r.fm s=(Y 0,r):=by rw[Sr.fm,aT<|k2▸j]
 exact⟨r,aJ e,O,h,o.U<|Xu n,λ_=>e⟩;rw[k2]at j w;rw[k3]at w;have i:r.fm s=if(r.fc s [82] s.ep<|Z5 s.P).1=Y 0 then(Y 0,{(r.fc s [82] s.ep<|Z5 s.P).2 with sn:=Y ({s with aQ:=(r.cD s).1}:kE).pi})else r.fc s [82] s.ep (Z5 s.P):=by unfold Sr.fm;rw[aL j]
 have I:Tw g C:=zbr
 obtain⟨z,P,w1,l,A,y⟩|⟨rfl,w1,l,⟨hd,F,a,k,rfl⟩,y⟩:=h.wr o b u O w I;rw[aL z];exact⟨P,by rw[i,aL<|w1.no z];exact w1,l,A,y,λe=>(z e).elim⟩;rw[w1,aT O]at i;have h1:=JK s.P s.L;refine⟨_,aJ i,l,⟨l▸t,h.ov,h.mW,h.m,by show f.bF+1=r.bF+1;rw[h.bF],h.op,O,h.on b,λh2 B=>?_⟩,y _ ⟨⟨j1.1,zd7,by show((r.cD s).1:U)<=_;omega⟩,zbe,λc D=>(by cases D),j4.gh s.P,zd5,mQ s.P j6 j3,j7⟩,λ_=>i⟩;cases B;refine⟨?_,O,k3,O,k5,?_,k7⟩;show tE f.L f.P=gG (gh s.L s.P);grind [SO];show((r.cD s).1:U)=if((r.cD s).1:U)<=s.bM then 0 else((r.cD s).1:U)
 omega
def uv{b}(h:Ws r f)(o:Ok n r)(g:r.sn=Y s)(j:n<1000000)(e:r.fm s=(Y 0,b)):Ok (n+1) b/\jB b.d.L/\oQ b.d.L/\∀B x,b.cN B x->r.cN B x:=by let⟨D,j2,F,G,j5,P,j7⟩:=o.lU s g;let⟨p1,p2,p3⟩:=Nt o g;unfold Sr.fm at e;split at e;cases e;exact⟨o.U<|Xu n,h.tw.gL,h.tw.fU,λ_ _=>id⟩;split at e;rename_i A;cases e;let⟨w1,y,z,u,I⟩:=h.jI o g j O (r':=(r.fc s [82] s.ep _).2)<|Prod.ext A O;have p:=JK s.P s.L;rw[w1]at y z u⊢;refine⟨I _ ⟨⟨D.1,zd7,by show((r.cD s).1:U)<=_;omega⟩,zbe,λc i=>sy,G.gh s.P,zd5,mQ s.P P F,j7⟩,y,z,λB x m=>?_⟩;obtain e|e|⟨t,k,e⟩:=m;exact aJ e;exact ac<|aJ<|u _ _ e;cases k;refine ac<|ac ⟨s,g,?_⟩;obtain e|e|⟨a,n,c,l,e⟩:=e;exact aJ e;exact ac<|aJ e;cases l;grind
def Ws.roq{x p}(h:Ws r f)(o:Ok n r)(w:r.sn=Y s)(u:n+1<1000000)(q:ϭ f r.d x f2 p)(t:Tw p f2):∃r2,WX (r.gz s) x r2/\Ws r2 f2/\Ok (n+2) r2:=by
 let⟨x1,f1,d1,q1,t1,q2⟩:=q;obtain⟨g,w1,rfl,c,i,P⟩:=h.Nr o w À q1 t1;unfold Sr.gz;obtain⟨l,rfl,rfl,rfl⟩|⟨rfl,j,rfl,rfl,rfl⟩|⟨rfl,j,D,y,rfl⟩:=q2;rw[aL<|w1.no l];exact⟨g,w1,c,i.U<|Xu _⟩;all_goals
  have e:=P O;have b:=lN w e;generalize r.ik s=s1 at*;let⟨k1,k2,k3,k4,k5,k6,k7⟩:=c.lU s1 b;let⟨j1,j2,j3,j4,j5,j6,j7,j8⟩:=i.lU s1 b;rw[e,aT O];rw[k3]at j
 rw[aT j];exact⟨g,aJ O,c,i.U<|Xu _⟩;rw[aL j];rw[k3]at y t⊢;have G:Tw p D:=zbr
 let⟨p1,p2,p3⟩:=Nt i b;obtain⟨l,I,v,z,L,B⟩|⟨rfl,v,z,⟨A,F,a,k,rfl⟩,B⟩:=c.wr i b u O y G;rw[aL l,aL<|v.no l];grind;rw[v,aT O];refine⟨_,aJ O,⟨z▸t,c.ov,c.mW,c.m,by show f1.bF+1=g.bF+1;rw[c.bF],c.op,O,c.on b,λhd C=>?_⟩,B _ ⟨⟨j1.1,Á,Á⟩,j2,j3,j4,Á,j6,j7,Á⟩⟩;cases C;refine⟨k1,k2,O,O,k5,?_,k7⟩;show((g.cD s1).1:U)=if((g.cD s1).1:U)<=s1.bM then 0 else((g.cD s1).1:U)
 omega
def tq(L):iF L=fX (gG L):=by unfold iF fX gG oT;rw[List.flatMap_map]
def od(m):∀(y:bA U) (d:Dk),nr m y d=Yc (oU m.cW 0<|-1) y d
 |[],d=>rfl|n::y,d=>by unfold nr Yc;rw[od m y,od m y];grind [oU]
def xD(r:Sr)(m P y):r.mM m P y=r.d.kq m P y:=by
 have a:∀d:Dk,kQ m y d=d.ut m y:=λd=>by unfold kQ Dk.ut Dk.put;split;rfl;exact od m _ _
 grind [Sr.mM,Dk.kq,Dk.gu]
def mR(y):∀(z:bA U) (d:Dk),(Yc y z d).2.bU=d.bU
 |[],d=>rfl|n::z,d=>by unfold Yc;split;exact mR y z d;split;grind [Dk.eS];rw[mR y z];exact Dk.jO d
def zI{d m y}(g:jB d.L)(hx:pp d)(c:T y=116)(f:bO d.L+116<=d.bU+T (jp d.L 0))(a:bO d.L<=d.bU):bO (d.ut m y).2.L<=d.bU/\(d.ut m y).2.bU=d.bU/\pp (d.ut m y).2/\((d.ut m y).1=M->T (jp (d.ut m y).2.L 0)=116):=by unfold Dk.ut Dk.put;split;exact⟨Yx d.il a,zad,hx.eS,λe=>Æ⟩;rename_i h;have b:=yP (F:=d.L) 0 (y,(T y:U));simp only[dY];refine⟨Yx (Nn _ _ _) Á,(mR _ _ _).trans<|Dk.jO d,pp.gB _ _<|hx.dZ Á,λe=>?_⟩;rw[td (zq:=oU m.cW 0<|-1) O _ (g.np _ _) e];grind [Eu]
def BU{d m pt sl}(g:jB d.L)(hx:pp d)(b:T sl=116)(a:(m.cW:Int)≠0)(i:jp d.L 0=[]\/T (jp d.L 0)=116)(c:bO d.L+(T pt+(if(jp d.L 0).length=0 then 116 else 0):Q)<=d.bU):bO (d.kq m pt sl).2.L<=d.bU/\(d.kq m pt sl).2.bU=d.bU/\pp (d.kq m pt sl).2/\((d.kq m pt sl).1=M->T (jp (d.kq m pt sl).2.L 0)=116):=by
 have n:T (jp d.L 0)=0\/T (jp d.L 0)=116:=i.imp (λe=>Á) id;have l:bO d.L+T pt+116<=d.bU+T (jp d.L 0):=by split at c<;>omega
 have h:bO d.L+(T pt:U)<=d.bU:=À
 unfold Dk.kq;split;exact zI g hx b À À;obtain⟨j,k,f⟩:=Ta h hx;split;rename_i e;have c:=sx d m.cW pt;have e0:jB (d.gu m.cW pt).2.L/\jp (d.gu m.cW pt).2.L 0=jp d.L 0:=by unfold Dk.gu at e⊢;split at e;cases e;rename_i y;rw[aL y];split at e;cases e;rename_i z;rw[aL z];refine⟨(g.np _ _).np _ _,?_⟩;show jp (Vm (Vm d.L _ _) _ _) 0=_;rw[Eu<|g.np _ _,aL a.symm,Eu g,aL a.symm]
 have:=zI (m:=m) e0.1 f b Á À
 grind;grind
def zH(W):256<T (Ys W)↔16384<T W:=by let⟨h,y,z⟩:=CY W;have:=Iv h;grind
def Ws.shq{x h1}(h:Ws r f)(o:Ok n r)(h2:r.sn=Y s)(S:n<1000000)(q:ShQ f r.d x f2 h1)(t:Tw h1 f2):∃r2,WX (r.iG s) x r2/\Ws r2 f2/\Ok (n+2) r2:=by
 let⟨x1,f1,d1,q1,t1,G⟩:=q;obtain⟨g,w1,rfl,c,p,wr⟩:=h.Nr o h2 S q1 t1;have i:=p.U<|Xu _;unfold Sr.iG;obtain⟨cs,rfl,rfl,rfl⟩|G:=G;rw[aL<|w1.no cs];grind;obtain rfl:x1=0:=À
 have e:=wr O;have l:=lN h2 e;generalize r.ik s=s1 at*;let⟨k1,k2,k3,k4,k5,k6,k7,k8⟩:=c.lU s1 l;let⟨j1,j2,j3,j4,j5,j6,j7,j8⟩:=p.lU s1 l;rw[e,aT O];have I:fX f1.L=iF s1.L:=by rw[k1,tq]
 have w:f1.bs=s1.aQ:=by unfold Rf.bs;rw[k5,k6];split<;>split at* <;>omega
 have y:f1.uF=g.uF s1 (T (iF s1.L)):=by unfold Rf.uF Sr.uF;rw[k3,c.op,c.bF,k7,w,k8,I,k4]
 have B:f1.fF=g.fF s1:=by unfold Rf.fF Sr.fF;rw[y,I,c.m,k3]
 have g':f1.mf=g.mf s1:=by unfold Rf.mf Sr.mf;rw[y,B]
 have z:f1.lE↔16384<T (iF s1.L)\/g.d.bU-bO g.d.L<(g.kG (T (iF s1.L)):U):=by unfold Rf.lE Sr.kG;rw[I,zH,c.tw.bU,c.tw.wP,c.tw.wO];by_cases v':jp g.d.L 0=[];grind;grind
 unfold Sr.kq;rw[k7]at G;obtain⟨-,u,rfl,rfl,rfl⟩|⟨-,u,P,rfl,rfl,rfl⟩|⟨-,u,P,D,A,v,F,a,k,rfl,rfl,rfl⟩:=G;rw[aT u];exact⟨g,aJ O,c,i⟩;rw[aL u,aT<|z.1 P];exact⟨g,aJ O,c,i⟩;rw[aL u,aL λe=>P<|z.2 e,xD];have C:=BU (m:=f1.mf) (pt:=f1.fF.flatten) (sl:=f1.mf.dW<|Y7 f1.m f1.ep) c.tw.gL p.nx (by
  have W:T (J9 f1.fF)=32:=IB _ (by grind [Rf.fF,Ah,Rf.lE]);have X:T f1.dX=32:=by rw[k4];exact p.bQ
  grind [Mf.dW,zx,uP,Mf.lc,Rf.mf,Rf.uF,Z2]) (by
  show((fE f1.dB:Q):U)≠0;grind [fE]) (p.mf Á) (by
  have:=P;unfold Rf.lE at this;rw[c.tw.bU,c.tw.wP,c.tw.wO]at this;rw[show T f1.fF.flatten=T (fX f1.L) from Mb _ _ _];omega)
 rw[A]at C;rw[g',B,c.m,k3]at A;rw[A];let⟨b,dd⟩:=D;let⟨u1,u2,u3,u4⟩:=C;have hx:0<=dd.bU/\dd.bU<=100000:=by rw[show dd.bU=g.d.bU from u2];exact p.bU
 have ho:bO dd.L<=dd.bU:=by rw[show dd.bU=g.d.bU from u2];exact u1
 cases b with
 |false=>exact⟨_,ac ⟨_,O,O,O⟩,⟨t,c.ov,c.mW,c.m,c.bF,c.op,c.bQ,O,λhd j=>(by cases j)⟩,⟨i.m,i.bQ,i.bF,i.op,hx,ho,u3,λhd j=>(by cases j),λj=>(by cases j)⟩⟩
 |true=>refine⟨_,aJ O,⟨t,c.ov,c.mW,c.m,c.bF,c.op,c.bQ,c.on l,λhd j=>?_⟩,⟨i.m,i.bQ,i.bF,i.op,hx,ho,u3,λhd j=>?_,λ_=>ac (u4 O)⟩⟩;cases j;exact⟨k1,k2,k3,k4,w,by show(0:U)=if s1.aQ<=s1.aQ then 0 else s1.aQ;omega,by show f1.bC+1=s1.bC+1;rw[k7],by show((fE f1.dB:Q):U)=_;rw[k8]⟩;cases j;exact⟨⟨Á,Int.le_refl _,Á⟩,j2,j3,j4,Á,j6,⟨Á,Á⟩,j8⟩
section
attribute[local go_sem] zn zg
section
variable{y z:eJ}
def vo(B r s w)(h:Vq w B r)(j:r.sn=Y s)(b:pH B r)(d:∀t,r.fm s=(Y 0,t)->pH B t)(n:nD y z w)(m:qF lo y z w)(g:∀x,r.cN B x->lo<=x)(o:∀c∈s.P,qX c)(f:s.ep<=1000000):
  aK prog 45 #[zq B] w (xX B r (r.gz s) w):=by
 have q:N w (K B 7)=zq s.S:=(h.bT.i 7 O).trans (by simp[Sr.G,Sr.my,j]);go_enter func45.1,Tryz.ntmps45;go_wp2;apply(QV 99 B r _ w h n m g b.cN (λa w=>func99.2 a w) λp l k=>wM B r s p l j b d k o f).mono;intro e w1 i;obtain⟨v,rfl⟩:=xX.Er i;go_wp2;go_ret;exact i
def te(B r s w)(h:Vq w B r)(k:r.sn=Y s)(b:pH B r)(f:∀u,r.fm s=(Y 0,u)->pH B u/\T u.d.L+2<1000000/\rY (r.ik s).L/\T (r.ik s).L<=5000000/\0<=(r.ik s).bC/\(r.ik s).bC<=999/\T (jp u.d.L<|fE (r.ik s).dB)<=900000)(o:nD y z w)(n:qF lo y z w)(i:∀x,r.cN B x->lo<=x)(p:∀c∈s.P,qX c)(g:s.ep<=1000000):
  aK prog 20 #[zq B] w (xX B r (r.iG s) w):=by
 have t:N w (K B 7)=zq s.S:=(h.bT.i 7 O).trans (by simp[Sr.G,Sr.my,k]);go_enter func20.1,Tryz.ntmps20;go_wp2;apply(QV 42 B r _ w h o n i b.cN (λa w=>func42.2 a w) λq m l=>yO B r s q m k b f l p g).mono;intro e w1 j;obtain⟨v,rfl⟩:=xX.Er j;go_wp2;go_ret;exact j
end
def vp(B r w)(h:Vq w B r)(a:r.sn=R):aG 45 #[zq B] w (J 5):=by
 have b:N w (K B 7)=aU R:=zap
 go_enter func45.1,Tryz.ntmps45;go_wp2;go_ret;simp
def tf(B r w)(h:Vq w B r)(a:r.sn=R):aG 20 #[zq B] w (J 5):=by
 have b:N w (K B 7)=aU R:=zap
 go_enter func20.1,Tryz.ntmps20;go_wp2;go_ret;simp
def jei:El 64 75 1:= .Be ((eZ 64).trans Tryz.underlying64) (z:=aU R) (b:=8) Ä Ã O Ã
def Ns(q:Q):Ze:=[aU<|some ⟨q,0,R⟩]
structure Sp where
 eH:U
 a:U
 n:U
 m:U
 k:U
 s:Zl
 t:Zl
 f:Zv
def Sp.G(o:Sp):Za:=#[aD bB o.eH,aD bB o.a,aD bB o.n,aD bB o.m,aD bB o.k,ak<|st o.s,ak<|st o.t,o.f]
def jan(w:Zy)(z:Q)(j:Zv)(n:U)(tv F u:Zv)(P:bA Q)(o:Sp)(w':Zy):Prop:=
 ∃q B C D t p,zj (λy=>y=z\/j.ownBlock=Y y) w w'/\WB w' z p n tv F u/\Rw w' 75 1 Ns p (P++[q])/\(∀g,p.ownBlock=Y g->j.ownBlock=Y g\/q<g)/\xh w' q #[zq B,zq C] 78/\Vq w' B (Sr.ex o.n o.m o.k o.s D t)/\Ju w' C (Rf.cZ o.n o.m o.k o.s)/\V (Z w)<=q/\(∀x,(Sr.ex o.n o.m o.k o.s D t).cN B x->V (Z w)<=x/\x<C)/\C<q/\∀x,(Rf.cZ o.n o.m o.k o.s).cN C x->x=C
def xj3(y)(o:Sp)(w)(g:yS o.n o.m o.k o.s=ao):aH 64 #[zq y,bY o.G] w (bG M):=by let⟨z,a,n,m,k,s,t,f⟩:=o;have b:=g;have d:Nw w<|aF w<|au (Sp.G ⟨z,a,n,m,k,s,t,f⟩) 73:=zj.E _;have X0:=xh.ex w (Sp.G ⟨z,a,n,m,k,s,t,f⟩) 73;have h:=X0.i (v:=J n) 2 O;have c3:=X0.i (v:=J m) 3 O;have i:=X0.i (v:=J k) 4 O;have j:=X0.i (v:=E s) 5 O;go_enter func64.1,Tryz.ntmps64;go_wp2;generalize aF w _=w1 at*;apply(xrr n m k s b _).mono;rintro e c⟨rfl,rfl⟩;go_wp2;apply(xh3 n m k s b _).mono;rintro e c⟨rfl,rfl⟩;go_wp2;apply(vR _ _).mono;rintro e c⟨rfl,rfl⟩;go_wp2;go_ret;exact⟨O,d⟩
def xon(A W tv fv hx n P o w)(hW:WB w A W n tv fv hx)(hP:Rw w 75 1 Ns W P)(hl:T P<=1000000000)(hb:yS o.n o.m o.k o.s=M):aK prog 64 #[zq A,bY o.G] w λe w'=>e=ai (bG M)/\jan w A W n tv fv hx P o w':=by
 let⟨kd,a,rm,sg,lm,s,t,f⟩:=o;have L:Nw w<|aF w<|au (Sp.G ⟨kd,a,rm,sg,lm,s,t,f⟩) 73:=zj.E _;have X0:=xh.ex w (Sp.G ⟨kd,a,rm,sg,lm,s,t,f⟩) 73;have c2:=X0.i 2 O;have c3:=X0.i 3 O;have c4:=X0.i 4 O;have c5:=X0.i 5 O;have ho:=hW;have hd:=hP;obtain⟨h1,h2,h3,h4,h5,h6,h7⟩:0<=rm/\rm<=100000/\1<=sg/\sg<=100000/\0<=lm/\lm<=999/\T s=32:=Xt hb;go_enter func64.1,Tryz.ntmps64;go_wp2;generalize aF w (au (Sp.G ⟨kd,a,rm,sg,lm,s,t,f⟩) 73)=w1 at*;refine(Ġ rm sg lm s h1 h2 h3 h4 h5 h6 h7 _).mono ?_;rintro e w2⟨B,D,wr,rfl,hB,hD,hM,z,e1⟩;have N2:=L.aE<|zj.J z;replace X0:=X0.ac z;have bb:=e1;have bc:∀x,(Sr.ex rm sg lm s D wr).cN B x->V (Z w1)<=x:=λx d=>(by obtain rfl|d|⟨s,hs,-⟩:=d;exact hB;obtain rfl|rfl|⟨c,hc,-⟩:=d;exact hD;exact hM;cases hc;cases hs);have c2:=X0.i 2 O;have c3:=X0.i 3 O;have c4:=X0.i 4 O;have c5:=X0.i 5 O;go_wp2;refine(xlr rm sg lm s hb _).mono ?_;rintro e w3⟨C,rfl,hn,hC,hr⟩;have q:=N2.aE hn;have R3:=hr;have X:=hC;go_wp2;refine(vR _ _).mono ?_;rintro e b⟨rfl,rfl⟩;have W3:=ho.y q id;obtain⟨F,G,rfl⟩:=hd.dL;have d0:=W3.i 0 O;have I:Nw b<|aF b<|au #[zq B,zq C] 78:=zj.E _;have cs:xh (aF b<|au #[zq B,zq C] 78) (V<|Z b) #[zq B,zq C] 78:=xh.ex _ _ _;have l:Nw (aF b<|au #[zq B,zq C] 78)<|aF (aF b<|au #[zq B,zq C] 78)<|au #[zq (V<|Z b)] 75:=zj.E _;have Q6:xh (aF (aF b<|au #[zq B,zq C] 78)<|au #[zq (V<|Z b)] 75) (V (Z b)+1) #[zq (V<|Z b)] 75:=by have h:=xh.ex (aF b<|au #[zq B,zq C] 78) #[zq (V<|Z b)] 75;rw[xp]at h;exact h
 have g':=(hd.y q λ_ _=>id).y (I.aE l) λ_ _=>id;go_wp2_with (refine Rw.se jei [V (Z b)] g' À ⟨Â,Â⟩ (λ_=>O) Q6 O (by intro u hu;simp[Ns]at hu;rw[hu];rfl) O O O O ?_);intro r c8 p r8 v' n8;have ba:=q.aD;have j:=W3.y (I.aE l) id;have i:WB p A (aB F (T P) G) n tv fv hx:=j.y v' λe=>g'.ir j Ã _ e O;have S:zj (·=A) p<|ay p (K A 0)<|aB (Y ⟨r,0,R⟩) (T P+1) c8:=zj.H p (K A 0) _;have es:zj (λy=>y=A\/(aB F (T P) G).ownBlock=Y y) b<|ay p (K A 0)<|aB (Y ⟨r,0,R⟩) (T P+1) c8:=(((I.aE l).U λ_=>eT).aE<|v'.U λy ih=>ac ih).aE<|S.U λy ih=>aJ ih;have G9:H<|(aB F (T P) G).ownBlock=Y r\/V (Z b)<r:=n8.imp id λh=>À
 have Q9:xh (ay p (K A 0)<|aB (Y ⟨r,0,R⟩) (T P+1) c8) (V<|Z b) #[zq B,zq C] 78:=((cs.y l id).y v' λe=>g'.ir (cs.y l id) Ã _ e O).y S λe=>(j.ne (cs.y l id) Ã) e.symm;have e2:=i.i (v:=aB F (T P) G) 0 O;have f2:=i.dS 0;go_wp2;go_ret;refine⟨O,V<|Z b,B,C,D,wr,_,(q.U λ_=>eT).aE es,i.H 0 _,r8.y S<|r8.ir i Ã,λg hg=>?_,Q9,?_,?_,q.aD,λx d=>?_,?_,?_⟩;cases hg;exact G9.o;refine(bb.y hn λ_ _=>id).y es λx d h=>?_;have h1:=bc x d;have h0:=L.aD;obtain rfl|h:=h;have:=ho.lt;omega;have:=(hd.lt _ h).2;omega;refine Ņ _ _ _ _<|R3.bT.y es λh=>?_;have h0:=N2.aD;obtain rfl|h:=h;have:=ho.lt;omega;have:=(hd.lt _ h).2;omega;have X:=bc x d;have h0:=L.aD;have h2:=(λx (d:(Sr.ex rm sg lm s D wr).cN B x)=>Sr.fg bb d) x d;have h3:=X;omega;exact R3.bT.lt;rintro x (rfl|h|h|h);rfl;cases h;cases h;cases h
def Ju.ir(h:Ju w C f)(b:zj S w w')(c:∀x,f.cN C x->¬S x):Ju w' C f:=⟨h.bT.y b<|c _<|aJ O,h.fs.y b λx a=>c x<|ac<|aJ a,h.ss.y b λx a=>c x<|ac<|ac<|aJ a,h.ps.y b λx a=>c x<|ac<|ac<|ac a,h.fn⟩
def tr(B C:Q)(r:Sr)(f:Rf)(x:Q):Prop:=r.cN B x\/f.cN C x
structure Pr(n:Q)(w:Zy)(q B C:Q)(r:Sr)(f:Rf):Prop where
 qb:xh w q #[zq B,zq C] 78
 sa:Vq w B r
 fa:Ju w C f
 tw:Ws r f
 ok:Ok n r
 ap:∀x,r.cN B x->¬f.cN C x
 qn:¬tr B C r f q
def sB(n:Q)(q B C:Q)(r:Sr)(f:Rf)(w w':Zy):Prop:=∃r' f',Pr n w' q B C r' f'/\zj (tr B C r f) w w'/\∀x,tr B C r' f' x->tr B C r f x\/V (Z w)<=x
section
variable{w w1 t:dN}{S:Q->Prop}
def Pr.y(h:Pr n w q B C r f)(a:zj S w w1)(d:¬S q)(c:∀x,tr B C r f x->¬S x):Pr n w1 q B C r f:=⟨h.qb.y a d,h.sa.y a λx b=>c x<|aJ b,h.fa.ir a λx b=>c x<|ac b,h.tw,h.ok,h.ap,h.qn⟩
def Pr.nw(h:Pr n w q B C r f)(a:Nw w w1):Pr n w1 q B C r f:=h.y a id λ_ _=>id
def Pr.lt(h:Pr n w q B C r f){x:Q}(hx:tr B C r f x):x<V (Z w):=hx.elim (λhx=>Sr.fg h.sa hx) λhx=>Rf.fg h.fa hx
def Pr.vn(h:Pr n w q B C r f)(b:Zd B r w r' w1):Ju w1 C f:=h.fa.ir b.y λx c a=>h.ap x a c
def Pr.step(h:Pr n w q B C r f)(b:Zd B r w r' w1)(c:Xf C f w1 f' t)(i:Ws r' f')(ho:Ok k r'):sB k q B C r f w t:=by
 have z:=b.y.aD;refine⟨r',f',⟨(h.qb.y b.y λx=>h.qn<|aJ x).y c.y λx=>h.qn<|ac x,b.dI.y c.y λx a e=>?_,c.dI,i,ho,λx a e=>?_,λx=>?_⟩,(b.y.U λx a=>aJ a).aE<|c.y.U λx a=>ac a,λx a=>?_⟩;obtain d|d:=b.cN x a;exact h.ap x d e;have:=Rf.fg h.fa e;omega;have l:=Sr.fg b.dI a;obtain g|g:=c.cN x e;obtain d|d:=b.cN x a;exact h.ap x d g;have:=Rf.fg h.fa g;omega;omega;have l:=h.qb.lt;obtain x|x:=x;exact(b.cN q x).elim (λx=>h.qn<|aJ x) λx=>À
 exact(c.cN q x).elim (λx=>h.qn<|ac x) λx=>À
 obtain a|a:=a;exact(b.cN x a).imp aJ id;exact(c.cN x a).imp ac λ_=>À
end
def Zd.JS(h:Zd B r w r' w1)(a:Nw w1 b):Zd B r w r' b:=⟨h.y.aE<|a.U λ_=>eT,h.dI.y a λ_ _=>id,h.cN⟩
def sB.pj(a:Nw w w1)(h:sB n q B C r f w1 b):sB n q B C r f w b:=by obtain⟨j,c,d,e,g⟩:=h;exact⟨j,c,d,(a.U λ_=>eT).aE e,λx i=>(g x i).imp id λh=>xa a.aD h⟩
def Ws.pl(h:Ws r f)(o:Ok n r)(a:f.gw=M):T f.P<=20:=by rw[h.gw]at a;obtain⟨s,b⟩:=Wr.1 a;rw[(h.lU s b).2.1];exact(o.lU s b).2.1
def Ws.ll(h:Ws r f)(o:Ok n r)(c:n<=1000000)(a:f.gw=M):T f.L<=200000000000:=by rw[h.gw]at a;obtain⟨s,b⟩:=Wr.1 a;rw[(h.lU s b).1,show(gG s.L).length=T s.L by unfold gG;rw[jl,(QI _).length_eq,jl]];have:=(o.lU s b).d.1;omega
def zqk(C:Q)(f:Rf)(c:Vk)(w:Zy)(h:Ju w C f)(i:f.gw=M->T f.P<=20):aK prog 118 #[zq C,bY (bH (t6 c))] w<|ZA C f c w:=by
 cases y:f.gw
 ·have d:=h;have e:Nw w<|aF w<|au #[bG<|cG c,E<|cK c,E<|cV c] 197:=zj.E _;have g:=h.bT.lt;have a:N w (K C 11)=bG f.gw:=h.bT.i 11 O;have b:f.eD c 5 f:=by show Rf.eD _ _ _ _;unfold Rf.eD;rw[aT y];exact⟨O,O⟩
  rw[y]at a;go_enter func118.1,lW;go_wp2;go_ret;exact⟨5,f,O,.nw d e,b⟩
 grind [xbx]
def xrl(C:Q)(f:Rf)(y:Zl)(w:Zy)(h:Ju w C f)(d:f.gw=M->T f.L<=200000000000)(c:f.gw=M->T f.P<=20):aH 119 #[zq C,E y] w (cE #[ak<|st (f.iS y).1,aD bB (f.iS y).2]):=by
 cases z:f.gw
 ·have a:N w (K C 11)=bG f.gw:=h.bT.i 11 O;rw[z]at a;have b:H<|f.iS y=([],5):=by show _=_;unfold Rf.iS;rw[aT z]
  rw[b.o];go_enter func119.1,Tryz.ntmps119;go_wp2;go_ret2;exact za7
 grind [xrm]
def xcu(hd q B C:Q)(n:Q)(r:Sr)(f:Rf)(o:Sp)(w:Zy)(h:Pr n w q B C r f)(hk:o.eH=4):aK prog 66 #[zq hd,zq q,bY o.G] w λe w'=>e=ai (bG M)/\sB n q B C r f w w':=by
 obtain⟨h1,a,G,m,k,s,t,u⟩:=o;obtain rfl:h1=4:=hk;have P:Nw w<|aF w<|au (Sp.G ⟨4,a,G,m,k,s,t,u⟩) 73:=zj.E _;have X0:=xh.ex w (Sp.G ⟨4,a,G,m,k,s,t,u⟩) 73;have A:=h.nw P;have c0:=X0.i (v:=J 4) 0 O;have z:=X0.i 5 O;have D:=X0.i 6 O;have h2:=A.qb.i 0 O;have hx:∀x,tr B C r f x->x<V (Z w):=λx F=>h.lt F;have ho:=xe<|h.tw.pl h.ok;go_enter func66.1,nJ;go_wp2;generalize aF w (au (Sp.G ⟨4,a,G,m,k,s,t,u⟩) 73)=w0 at*;have d:=A.nw (zj.refl _ w0).W;have wr:=P.aE (zj.refl _ w0).W;have p:=X0.y (S:=λ_=>False) (zj.refl _ w0).W id;have j:¬tr B C r f (V<|Z w):=λh=>DN _<|hx _ h;go_region_held3 (λw'=>N w' (K q 0)=zq B/\N w' (K (V<|Z w) 5)=E s/\N w' (K (V<|Z w) 6)=E t) (first|exact⟨h2,z,D⟩|exact⟨(d.qb.y b.y λx=>d.qn<|aJ x).i 0 O,(p.y b.y λh=>j<|aJ h).i 5 O,(p.y b.y λh=>j<|aJ h).i 6 O⟩)
  (first|(go_at_call 24;refine(YG B r s t _ d.sa λx F=>(d.ok.lU x F).2.1).mono ?_;rintro e l⟨a2,r2,rfl,b,i⟩))
 have I:=b;have cs:=i;have g':=(d.vn b).y (zj.refl _ l).W;have y:=(p.y b.y λh=>j<|aJ h);have z:=y.i 5 O;have D:=y.i 6 O;have W:=(d.qb.y b.y λx=>d.qn<|aJ x).i 1 O;go_wp2;have v':=(d.qb.y I.y λx=>d.qn<|aJ x).y (S:=λ_=>False) (zj.refl _ l).W id;have L:=y.y (S:=λ_=>False) (zj.refl _ l).W id;go_region_held3 (λw'=>N w' (K q 1)=zq C/\N w' (K (V<|Z w) 5)=E s/\N w' (K (V<|Z w) 6)=E t) (first|exact⟨W,z,D⟩|exact⟨(v'.y g.y λx=>d.qn<|ac x).i 1 O,(L.y g.y λh=>j<|ac h).i 5 O,(L.y g.y λh=>j<|ac h).i 6 O⟩)
  (first|(go_at_call 118;refine(zqk C f (.put s t) _ g' ho.o).mono ?_;rintro e w3⟨a3,f3,rfl,g,i⟩))
 go_wp2;refine(vR _ _).mono ?_;rintro e w4⟨rfl,rfl⟩;go_wp2;go_ret;obtain⟨e1,X,es⟩:=d.tw.Dw (c:= .put s t) d.ok O cs i;exact⟨É,.pj wr<|d.step (I.JS (zj.refl _ l).W) g X es⟩
def xcr(A q B C:Q)(n:Q)(r:Sr)(f:Rf)(o:Sp)(w:Zy)(h:Pr n w q B C r f)(hk:o.eH=5):aK prog 66 #[zq A,zq q,bY o.G] w λe w'=>e=ai (bG M)/\sB n q B C r f w w':=by
 obtain⟨hd,a,D,m,k,s,t,y⟩:=o;obtain rfl:hd=5:=hk;have F:Nw w<|aF w<|au (Sp.G ⟨5,a,D,m,k,s,t,y⟩) 73:=zj.E _;have X0:=xh.ex w (Sp.G ⟨5,a,D,m,k,s,t,y⟩) 73;have G:=h.nw F;have c0:=X0.i (v:=J 5) 0 O;have p:=X0.i 5 O;have h1:=G.qb.i 0 O;have h2:∀x,tr B C r f x->x<V (Z w):=λx z=>h.lt z;have hx:=xe<|h.tw.pl h.ok;go_enter func66.1,nJ;go_wp2;generalize aF w (au (Sp.G ⟨5,a,D,m,k,s,t,y⟩) 73)=w0 at*;have b:=G.nw (zj.refl _ w0).W;have ho:=F.aE (zj.refl _ w0).W;have I:=X0.y (S:=λ_=>False) (zj.refl _ w0).W id;have l:¬tr B C r f (V<|Z w):=λh=>DN _<|h2 _ h;go_region_held3 (λw'=>N w' (K q 0)=zq B/\N w' (K (V<|Z w) 5)=E s) (first|exact⟨h1,p⟩|exact⟨(b.qb.y d.y λx=>b.qn<|aJ x).i 0 O,(I.y d.y λh=>l<|aJ h).i 5 O⟩)
  (first|(go_at_call 25;refine(xh1 B r s _ b.sa λx z=>(b.ok.lU x z).2.1).mono ?_;rintro e j⟨es,r2,rfl,d,g⟩))
 have u:=d;have L:=g;have wr:=(b.vn d).y (zj.refl _ j).W;have P:=(I.y d.y λh=>l<|aJ h);have p:=P.i 5 O;have cs:=(b.qb.y d.y λx=>b.qn<|aJ x).i 1 O;go_wp2;have g':=(b.qb.y u.y λx=>b.qn<|aJ x).y (S:=λ_=>False) (zj.refl _ j).W id;have v':=P.y (S:=λ_=>False) (zj.refl _ j).W id;go_region_held3 (λw'=>N w' (K q 1)=zq C/\N w' (K (V<|Z w) 5)=E s) (first|exact⟨cs,p⟩|exact⟨(g'.y i.y λx=>b.qn<|ac x).i 1 O,(v'.y i.y λh=>l<|ac h).i 5 O⟩)
  (first|(go_at_call 118;refine(zqk C f (.del s) _ wr hx.o).mono ?_;rintro e w3⟨a3,f3,rfl,i,g⟩))
 go_wp2;refine(vR _ _).mono ?_;rintro e w4⟨rfl,rfl⟩;go_wp2;go_ret;obtain⟨e1,W,X⟩:=b.tw.Dw (c:= .del s) b.ok (by simp[cV,cK,tD]) L g;exact⟨É,.pj ho<|b.step (u.JS (zj.refl _ j).W) i W X⟩
def xcs(P q B C:Q)(n:Q)(r:Sr)(f:Rf)(o:Sp)(w:Zy)(h:Pr n w q B C r f)(A:n<=1000000)(hk:o.eH=6):aH 66 #[zq P,zq q,bY o.G] w (bG M):=by
 obtain⟨hd,a,l,m,k,s,t,j⟩:=o;obtain rfl:hd=6:=hk;have y:Nw w<|aF w<|au (Sp.G ⟨6,a,l,m,k,s,t,j⟩) 73:=zj.E _;have X0:=xh.ex w (Sp.G ⟨6,a,l,m,k,s,t,j⟩) 73;have z:=h.nw y;have wr:=X0.i (v:=J 6) 0 O;have i:=X0.i 5 O;have L:=z.qb.i 0 O;have h1:=xe<|h.tw.pl h.ok;have h2:=xe<|h.tw.ll h.ok A;have F:=xe<|h.tw.iS h.ok s;go_enter func66.1,nJ;go_wp2;generalize aF w (au (Sp.G ⟨6,a,l,m,k,s,t,j⟩) 73)=w0 at*;have d:=z.nw (zj.refl _ w0).W;have G:=y.aE (zj.refl _ w0).W;have D:=X0.y (S:=λ_=>False) (zj.refl _ w0).W id;go_region_held3 (λw'=>N w' (K q 0)=zq B/\N w' (K (V<|Z w) 5)=E s) (first|exact⟨L,i⟩|exact⟨(d.nw b).qb.i 0 O,(D.y b id).i 5 O⟩)
  (first|(go_at_call 36;refine(YI B r s _ d.sa λx hx=>(d.ok.lU x hx).2.1).mono ?_;rintro e p⟨rfl,b⟩))
 have g:=(d.nw b).nw (zj.refl _ p).W;have I:=(G.aE b).aE (zj.refl _ p).W;have u:=(D.y b id).y (S:=λ_=>False) (zj.refl _ p).W id;have i:=u.i (v:=E s) 5 O;have ho:=g.qb.i (v:=zq C) 1 O;go_wp2;go_region_held3 (λw'=>N w' (K q 1)=zq C/\N w' (K (V<|Z w) 5)=E s) (first|exact⟨ho,i⟩|exact⟨(g.nw c).qb.i 1 O,(u.y c id).i 5 O⟩)
  (first|(go_at_call 119;refine(xrl C f s _ g.fa h2.o h1.o).mono ?_;rintro e cs⟨rfl,c⟩))
 rw[F.o];go_wp2;refine(vR _ _).mono ?_;rintro e g'⟨rfl,rfl⟩;go_wp2;go_ret;exact⟨Â,I.aE c⟩
def Dz(n:U):U×Zl:=(-n,mY n)
def xE(n:U):Ze:=ru<|Dz n
def xo4{a n}(h:Rw w 36 2 ru v a)(hy:a=bS (T a) (Dz n)):mu 36 2 (xE n) w v:=by
 apply mu.sS (d:=0) (n:=T a);have:a.flatMap ru=nC (xE n) (T a):=by rw[hy];simp only[Zq];unfold nC xE;rw[Oj]
 rw[<-this];exact h
def Tg(n):∀x∈xE n,x.oneCell'=M:=λx a=>by simp[xE,ru,Dz]at a;obtain rfl|rfl:=a<;>rfl
def Tc(w:Zy)(y:Q)(P tv:Zv)(n:U)(j u l:Zv)(z:Ze)(t:bA U)(w':Zy):Prop:=∃F p X,WB w' y P (n+1) tv F p/\Rw w' 33 1 uG F (z++X)/\Rw w' 3 1 tJ p (t++[-(n+1)])/\T X=4/\(∀x∈X,mu 36 2 (xE<|n+1) w' x)/\zj (Bu y j u l) w w'/\(∀g,F.ownBlock=Y g->j.ownBlock=Y g\/V (Z w)<=g)/\(∀g,p.ownBlock=Y g->u.ownBlock=Y g\/V (Z w)<=g)/\∀x∈X,∀g,x.ownBlock=Y g->l.ownBlock=Y g\/V (Z w)<=g
def xnu(t L tv fv h1 l)(n:Q)(P A a w)(hd:WB w t L n tv fv h1)(hT:Rw w 33 1 uG fv P)(hM:Rw w 3 1 tJ h1 A)(hl:Rw w 36 2 ru l a)(hn:n<=100000000000)(hy:T a<=1000000000)(bp:T P<=900000000000)(bo:T A<=900000000000):
  aK prog 69 #[aU<|some ⟨t,1,R⟩,l] w λe w'=>e=ai (cE #[])/\Tc w t L tv n fv h1 l P A w':=by
 obtain⟨r,s,rfl⟩:=hl.dL;have HT:=hT;have HM:=hM;have HL:=hl;have c1:=hd.i 1 O;have f1:=hd.dS 1;have B1:WB (ay w ⟨t,1,R⟩<|aD bB<|(n:U)+1) t L ((n:U)+1) tv fv h1:=hd.H 1 _;have ih:zj (·=t) w<|ay w ⟨t,1,R⟩<|aD bB<|(n:U)+1:=zj.H w ⟨t,1,R⟩ _;have L1:=hl.y ih (hl.ir hd Ã);have T1:=hT.y ih (hT.ir hd Ã);have M1:=hM.y ih (hM.ir hd Ã);have C1:=ih;go_enter func69.1,Tryz.ntmps69;go_wp2;generalize ay w ⟨t,1,R⟩ (aD bB<|(n:U)+1)=w1 at*;go_loopw [4] (λi wr=>∃k:Q,k<=T a/\i=aD bB k/\zj (λy=>(aB r (T a) s).ownBlock=Y y) w1 wr/\Rw wr 36 2 ru (aB r (T a) s) (bS k (Dz<|(n:U)+1)++a.drop k)) (λi _=>bL (T a-bZ i));exact⟨0,À,O,zj.refl _ _,L1⟩;obtain⟨k,hk,rfl,hb,hr⟩:=hrel;have HB:=hb;have W:=hr;have BW:=B1.y hb λe=>L1.ir B1 Ã _ e O;have c1:=BW.i (v:=aD bB ((n:U)+1)) 1 O;by_cases bn:k<T a
 ·have i1:(k:U)<(T a:Q):=À;have i0:(0:U)<=(k:U):=À
  rw[Zx bn]at W;obtain⟨g,rfl⟩:∃g,r=Y ⟨g,0,R⟩:=zdt
  go_wp2;refine(Gf _ À _).mono ?_;rintro e w2⟨rfl,F⟩;have v':=W.y F λ_ _=>id;have d1:=v'.wI (λ_=>O) 0 À;have d2:=v'.wI (λ_=>O) 1 À;have d3:=v'.dS<|k*2;have d4:=v'.dS<|k*2+1;rw[Zq,Yy]at d1;rw[Zq]at d2;simp only[ru,qh,Jm]at d1 d2;have R3:=(v'.wS (q:=(-((n:U)+1),a[k].2)) (λ_=>O) 0 (aD bB<|-((n:U)+1)) À O).wS (q:=Dz<|(n:U)+1) (λ_=>O) 1 (ak<|st<|mY<|(n:U)+1) À O;rw[Zq,Yy,List.append_cons,<-Ku]at R3;have bk:=R3;have bi:zj (λy=>(aB (Y ⟨g,0,R⟩) (T a) s).ownBlock=Y y) w1<|ay (ay w2 ⟨g,k*2,R⟩<|aD bB<|-((n:U)+1)) ⟨g,k*2+1,R⟩<|ak<|st<|mY<|(n:U)+1:=((HB.aE<|F.U λ_=>eT).aE<|(zj.H w2 ⟨g,k*2,R⟩ _).U λy hy=>hy▸O).aE<|(zj.H _ ⟨g,k*2+1,R⟩ _).U λy hy=>hy▸O;go_wp2;go_roundw;exact⟨k+1,À,Å,bi,bk⟩;exact Î
 ·obtain rfl:k=T a:=À;have i1:¬(T a:U)<(T a:Q):=À
  rw[Vl,Xz]at W;have HK:mu 36 2 (xE<|(n:U)+1) wr<|aB r (T a) s:=by have h:=W;have e:T (bS (T a)<|Dz<|(n:U)+1)=T a:=Zq;exact xo4 h å
  have T2:=T1.y HB λg d e=>T1.fh L1 Ã d e;have M2:=M1.y HB λg d e=>M1.fh L1 Ã d e;have X0:Tx 36 2 33 fv (xE<|(n:U)+1) w wr t L ((n:U)+1) tv fv h1 (aB r (T a) s) P A [aB r (T a) s]:=⟨BW,T2,M2,λv o=>(by rw[ju.1 o];exact HK),(C1.U λy hy=>aJ hy).aE<|HB.U λy hy=>ac (ac<|ac hy),λv o g d=>aJ É⟩;go_wp2;refine(Gf _ À _).mono ?_;rintro e w2⟨rfl,F⟩;have X2:=(X0.nw F).nw<|zj.E<|au #[aD bB<|-((n:U)+1),ak<|st<|mY<|(n:U)+1] 36;have N2:xh (aF w2<|au #[aD bB<|-((n:U)+1),ak<|st<|mY<|(n:U)+1] 36) (V<|Z w2) #[aD bB<|-((n:U)+1),ak<|st<|mY<|(n:U)+1] 36:=xh.ex _ _ _;go_wp2_with (refine ļ (m:=1) (n:=T a) Da O (Tg _) (X2.x _ xu) O À Ã (λj x hj=>gX N2 j x hj) O O O O ?_);intro v3 w3 h3;obtain⟨h2,c3,rfl⟩:=h3.d;have c:=X2.jK Ã xu h3;go_wp2;have S0:=c.b.i (v:=aD bB ((n:U)+1)) 1 O;replace c:=c.nw (zj.refl _ _).W;go_region_held3 (λw'=>N w' ⟨t,1,R⟩=(aD bB<|(n:U)+1)) (first|exact S0|exact c.b.i 1 rfl|exact(c.nw<|zj.E _).b.i 1 O)
   (first
    |(go_at_call 71;refine(Gf _ À _).mono ?_;rintro e w4⟨rfl,bc⟩;replace c:=c.nw bc;clear bc)
    |(refine Mt (m:=2) (n:=T a) Da O (Tg _) ((c.nw<|zj.E _).x _ xu) O À Ã (λj x hj=>gX (xh.ex _ _ _) j x hj) O O O O ?_;intro v5 w5 h5;obtain⟨hx,S,rfl⟩:=h5.d;replace c:=(c.nw<|zj.E _).jK Ã xu h5;clear h5))
  go_wp2;replace c:=c.nw (zj.refl _ _).W;have S0:=c.b.i (v:=aD bB ((n:U)+1)) 1 O;go_region_held3 (λw'=>N w' ⟨t,1,R⟩=(aD bB<|(n:U)+1)) (first|exact S0|exact c.b.i 1 rfl|exact(c.nw<|zj.E _).b.i 1 O)
   (first
    |(go_at_call 71;refine(Gf _ À _).mono ?_;rintro e w6⟨rfl,bd⟩;replace c:=c.nw bd;clear bd)
    |(refine Mt (m:=3) (n:=T a) Da O (Tg _) ((c.nw<|zj.E _).x _ xu) O À Ã (λj x hj=>gX (xh.ex _ _ _) j x hj) O O O O ?_;intro v7 w7 h7;obtain⟨ho,cs,rfl⟩:=h7.d;replace c:=(c.nw<|zj.E _).jK Ã xu h7;clear h7))
  have f:=(c.nw<|zj.E<|au #[aB r (T a) s,aB h2 (T a+1) c3,aB hx (T a+2) S,aB ho (T a+3) cs] 33);have N7:xh (aF w7<|au #[aB r (T a) s,aB h2 (T a+1) c3,aB hx (T a+2) S,aB ho (T a+3) cs] 33) (V<|Z w7) _ 33:=xh.ex _ _ _;obtain⟨at_,ct,rfl⟩:=f.t.dL;have d2:=c.b.i (v:=aB at_ (T P) ct) 3 O;go_wp2_with (refine Rw.se jek [aB r (T a) s,aB h2 (T a+1) c3,aB hx (T a+2) S,aB ho (T a+3) cs] f.t À ⟨Â,Â⟩ (λ_=>O) N7 O zbx O O O O ?_);intro g' c8 G r8 b8 n8;have X8:Rw G 33 1 uG _ _:=r8;have z:WB G t L ((n:U)+1) tv (aB at_ (T P) ct) h1:=f.b.y b8 λe=>f.t.ir f.b Ã _ e O;have B9:WB (ay G ⟨t,3,R⟩<|aB (Y ⟨g',0,R⟩) (T P+4) c8) t L ((n:U)+1) tv (aB (Y ⟨g',0,R⟩) (T P+4) c8) h1:=z.H 3 _;have D:zj (·=t) G<|ay G ⟨t,3,R⟩<|aB (Y ⟨g',0,R⟩) (T P+4) c8:=zj.H G ⟨t,3,R⟩ _;have T9:=r8.y D (r8.ir z Ã);have m8:=f.m.y b8 λg d=>f.m.fh f.t Ã d;have M9:=m8.y D (m8.ir z Ã);have be:∀v∈[aB r (T a) s,aB h2 (T a+1) c3,aB hx (T a+2) S,aB ho (T a+3) cs],mu 36 2 (xE<|(n:U)+1) G v:=λv o=>(f.x v o).y b8 λg d e=>Ge (f.x v o) f.t Ã e d;have K9:∀v∈[aB r (T a) s,aB h2 (T a+1) c3,aB hx (T a+2) S,aB ho (T a+3) cs],mu 36 2 (xE<|(n:U)+1) (ay G ⟨t,3,R⟩<|aB (Y ⟨g',0,R⟩) (T P+4) c8) v:=λv o=>(be v o).y D λg d e=>IL (be v o) z Ã g d e.symm;have F9:=(f.fr.lO b8 λy hy=>aJ (ac<|aJ hy)).lO D λy hy=>aJ (aJ hy);have G9:H<|(aB at_ (T P) ct).ownBlock=Y g'\/V (Z w)<=g':=n8.imp id λh=>zd6
  have bl:=f.nb;have e2:=z.i (v:=aB at_ (T P) ct) 3 O;have f2:=z.dS 3;go_wp2;generalize ay G ⟨t,3,R⟩ _=w9 at*;obtain⟨es,cm,rfl⟩:=M9.dL;have bq:IntKind.i64.wrap (-((n:U)+1))= -((n:U)+1):=Ï
  have I:Nw w9 (aF w9<|au #[aD bB<|-((n:U)+1)] 3).drew:=(zj.E _).W;have XA:xh (aF w9<|au #[aD bB<|-((n:U)+1)] 3).drew (V<|Z w9) #[aD bB<|-((n:U)+1)] 3:=xh.ex w9 _ _;have BA:=B9.y I id;have MA:=M9.y I λ_ _=>id;have S0:=And.intro (B9.i (v:=aB es (T A) cm) 4 O)<|B9.i (v:=aD bB ((n:U)+1)) 1 O;have S1:=And.intro (BA.i (v:=aB es (T A) cm) 4 O)<|BA.i (v:=aD bB ((n:U)+1)) 1 O;have bj:∀y,(aB es (T A) cm).ownBlock=Y y->¬y=t:=λy hy=>M9.ir B9 Ã y hy;go_region_law (first|(refine Rw.rX Mh (-((n:U)+1)) MA À XA O O (QP _) O O O O ?_;intro bb ba B hR hd bm;have X:=hR;have C:=hd;have bh:=bm;have p:=BA.y C λe=>bj _ e O;have f4:=p.dS 4;have e4:=p.i (v:=aB es (T A) cm) 4 O));all_goals
   have D:zj (·=t) B<|ay B ⟨t,4,R⟩<|aB (Y ⟨bb,0,R⟩) (T A+1) ba:=zj.H B ⟨t,4,R⟩ _;have bf:=(T9.y I λ_ _=>id).y C λg d=>(T9.y I λ_ _=>id).fh MA Ã d;have bg:∀v∈[aB r (T a) s,aB h2 (T a+1) c3,aB hx (T a+2) S,aB ho (T a+3) cs],mu 36 2 (xE<|(n:U)+1) B v:=λv o=>((K9 v o).y I λ_ _=>id).y C λg d e=>Ge ((K9 v o).y I λ_ _=>id) MA Ã e d;have HF:Tc w t L tv n (aB at_ (T P) ct) (aB es (T A) cm) (aB r (T a) s) P A<|ay B ⟨t,4,R⟩<|aB (Y ⟨bb,0,R⟩) (T A+1) ba:=⟨_,_,_,p.H 4 _,bf.y D<|bf.ir p Ã,X.y D<|X.ir p Ã,O,λv o=>(bg v o).y D λg d e=>IL (bg v o) p Ã g d e.symm,((F9.lO I λ_ x=>x.elim).lO C λy hy=>aJ (ac<|ac<|aJ hy)).lO D λy hy=>aJ (aJ hy),λg d=>by cases d;exact G9.o,λg d=>by cases d;exact bh.imp id λe=>by rw[e];exact xa F9.aD I.aD,bl⟩;go_wp2;go_end0;exact⟨O,HF⟩
def Np(lo:Q)(cv tv:Zv)(S:ZP)(w:Zy):Prop:=∀w',zj S w w'->nD cv tv w'/\qF lo cv tv w'/\Yq w'
def xX.wx{A:dD U×Sr}(h:xX B r A w e w'):∃x r',e=ai (J x)/\Zd B r w r' w'/\WX A x r':=by obtain⟨v,r',a,b,c⟩|⟨r',a,b,c⟩:=h;exact⟨v,r',b,c,aJ a⟩;exact⟨12,r'.kZ,b,c,ac ⟨r',a,O,O⟩⟩
section
variable{w:dN}
def Ok.Nq(o:Ok n r)(g:jB r.d.L)(a:oQ r.d.L):rU r.d.L:=by have l:=wQ g.ne;have u:=o.q8;have b:=o.bU;exact⟨a,À⟩
def Ok.zG(o:Ok n r)(g:jB r.d.L)(a:oQ r.d.L)(q:n<1000000)(b:∀x,r.cN B x->2<x):pH B r:=by have l:=wQ g.ne;have u:=o.q8;have f:=o.bU;have c:=o.bF;have p:=o.op;refine⟨o.m,o.bQ,À,À,⟨f.1,À⟩,o.Nq g a,À,o.nx,b,λs e=>?_⟩;obtain⟨⟨h,i,j⟩,k,-⟩:=o.lU s e;omega
def Pr.Nq(h:Pr n w q B C r f):rU r.d.L:=h.ok.Nq h.tw.tw.gL h.tw.tw.fU
def Pr.zG(h:Pr n w q B C r f)(c:n<1000000)(a:∀x,r.cN B x->lo<=x)(b:2<lo):pH B r:=h.ok.zG h.tw.tw.gL h.tw.tw.fU c λx d=>zm b<|a x d
def Ws.E5(t:Ws r f)(o:Ok n r)(a:r.sn=Y s)(j:n<1000000):Gq r.d f:=by obtain⟨k,l,p,b,q,v,-⟩:=t.lU s a;obtain⟨⟨e,g,h⟩,i,-⟩:=o.lU s a;have u:=o.q8;have w:=o.bU;have c:=o.bF;refine⟨t.tw,by rw[t.m];exact o.m,by rw[b];exact o.bQ,by rw[t.bF];omega,À,?_,À⟩;omega
def Ws.S8(t:Ws r f)(o:Ok n r)(a:r.sn=Y s)(b:n<1000000):BO r.d f:=by obtain⟨-,g,-⟩:=t.lU s a;obtain⟨-,c,e,-⟩:=o.lU s a;exact⟨t.E5 o a b,Á,Á,by grind [Iw],t.ll o À<|t.on a⟩
def Ws.S7(t:Ws r f)(o:Ok n r)(b:r.sn=Y s)(k:n<=240000):JR C r.d f:=by obtain⟨g,-,-,-,-,-,m,-⟩:=t.lU s b;obtain⟨-,-,-,-,h,c,i,-⟩:=o.lU s b;have u:=o.q8;have q:=o.bU;have l:=wQ t.tw.gF.ne;have j:=t.tw.wP;refine⟨t.E5 o b À,?_,λp a=>?_,À,À,λp a=>(t.tw.rZ p a).c,⟨(ZE f.F _ (zd _) λp a=>(t.tw.rZ p a).c).1,À⟩,by rw[t.tw.bU];omega⟩;grind [gG,LX];rw[g]at a;obtain⟨x,e,rfl⟩:=Xe.1 a;exact⟨(c.Qg e).2,c.Er x⟩
def E4(n g G B C:Q)(r:Sr)(f:Rf)(w:Zy):Prop:=aK prog g #[zq B] w λe w1=>∃x r',e=ai (J x)/\Zd B r w r' w1/\aK prog G #[zq C] w1 λe y=>e=ai (J x)/\∃f',Xf C f w1 f' y/\Ws r' f'/\Ok (n+2) r'
def uu(G:Q)(a:G=127\/G=128)(h:Ju w C f)(ho:f.gw=ao):aG G #[zq C] w (J 5):=by
 obtain rfl|rfl:=a
 case' inl=>go_enter func127.1,Tryz.ntmps127
 case' inr=>go_enter func128.1,Tryz.ntmps128
 all_goals
  go_wp2;apply(SR C f w h ho).mono;rintro e w1⟨rfl,rfl⟩;go_wp2;go_ret;simp
def S'(h:Pr n w q B C r f)(W:Np lo cv tv (tr B C r f) w)(j:∀x,r.cN B x->lo<=x)(v':2<lo)(hn:n<240000){gr:Q}(X:(g=29/\gr=125)\/(g=45/\gr=127)\/(g=20/\gr=128)):E4 n g gr B C r f w:=by
 cases hs:r.sn with
 |none=>
  have off:=h.tw.Cp hs;have fin:∀{g gr:Q},aK prog g #[aU _] w (λe P=>e=ai _/\P=w)->aK prog gr #[aU _] w (λe P=>e=ai _/\P=w)->E4 n g gr B C r f w:=λa b=>a.mono λe w1⟨hx,ho⟩=>⟨5,r,hx,by rw[ho];exact Zd.nw h.sa<|zj.refl _ _,by rw[ho];exact b.mono λe p⟨h3,e4⟩=>⟨h3,f,by rw[e4];exact .refl h.fa,h.tw,h.ok.U (show n<=n+2 by omega)⟩⟩;obtain⟨rfl,rfl⟩|⟨rfl,rfl⟩|⟨rfl,rfl⟩:=X;exact fin (xl8 B r w h.sa hs)<|SR C f w h.fa off;exact fin (vp B r w h.sa hs)<|uu 127 (aJ O) h.fa off;exact fin (tf B r w h.sa hs)<|uu 128 (ac O) h.fa off
 |some s=>
  have v:∀{g gr:Q} {A:dD U×Sr} {es:U->Rf->Dk->Prop},aK prog g #[aU _] w (xX B r A w)->(∀w1,Ju w1 C f->(∀p,zj _ w1 p->Yq p)->aK prog gr #[aU _] w1 λe P=>∃x o D,e=ai (J x)/\Xf C f w1 o P/\Tw D o/\es x o D)->(∀{x o D},es x o D->Tw D o->∃r2,WX A x r2/\Ws r2 o/\Ok (n+2) r2)->E4 n g gr B C r f w:=λa b c=>a.mono λe w1 k=>by let⟨x,r',hx,hst,S⟩:=k.wx;refine⟨x,r',hx,hst,(b w1 (h.vn hst) λp hb=>(W p<|(hst.y.U λ_=>aJ).aE<|hb.U λ_=>ac).2.2).mono λe p⟨y,o,D,ho,I,t2,t3⟩=>?_⟩;let⟨r2,y1,y2,y3⟩:=c t3 t2;obtain⟨rfl,rfl⟩:=S.inj y1;grind
  obtain⟨-,b1,wr,b3,b4,b5,b6,b7⟩:=h.ok.lU s hs;have z:=W w<|zj.refl _ _;have cs:=h.zG À j v';have g':=h.tw.S8 h.ok hs À;have s1:∀i,r.fm s=(Y 0,i)->pH B i:=λi e=>by let⟨c1,c2,c3,c4⟩:=uv h.tw h.ok hs À e;exact c1.zG c2 c3 À λx S=>zm v'<|j x<|c4 B x S
  have ba:∀{F hd},E1 f r.d 0 F hd->Tw hd F->∃i,hd=i.d/\Ws i F/\Ok (n+1) i/\i.sn=Y (r.ik s):=λG h1=>by let⟨i,w1,p,w3,w4,w5⟩:=h.tw.Nr h.ok hs À G h1;grind [lN]
  obtain⟨rfl,rfl⟩|⟨rfl,rfl⟩|⟨rfl,rfl⟩:=X;exact v (ń B r s w h.sa hs cs z.1 z.2.1 j wr) (λw1 a b=>rk C f r.d w1 a g'<|b w1<|zj.refl _ _) λq t=>by let⟨i,w1,p,w3,w4,w5⟩:=h.tw.Nr h.ok hs À q t;exact⟨i,w1,w3,w4.U<|Xu _⟩
  refine v (vo B r s w h.sa hs cs s1 z.1 z.2.1 j wr À) (λw1 a b=>vk C f r.d w1 a g' b λF hd G h1=>?_) λq t=>h.tw.roq h.ok hs À q t;obtain⟨i,rfl,I,h2,m⟩:=ba G h1;exact⟨I.E5 h2 m À,by rw[(I.lU _ m).2.2.1];have:=(h2.lU _ m).g;omega⟩;refine v (te B r s w h.sa hs cs (λi e=>?_) z.1 z.2.1 j wr À) (λw1 a b=>tj C f r.d w1 a g' b λF hd G h1=>?_) λq t=>h.tw.shq h.ok hs À q t;let⟨c1,c2,c3,c4⟩:=uv h.tw h.ok hs À e;obtain⟨-,-,-,-,d5,d6,d7,-⟩:=c1.lU _<|lN hs e;have l:=wQ c2.ne;have u:=c1.q8;have rm:=c1.bU;have fb:=In i.d.L<|fE (r.ik s).dB;grind;obtain⟨i,rfl,I,h2,m⟩:=ba G h1;exact I.S7 h2 m À
end
def vq(q B C:Q)(n:Q)(r:Sr)(f:Rf)(o:Sp)(w:Zy)(h:Pr n w q B C r f)(F:Np lo cv tv (tr B C r f) w)(l:∀x,r.cN B x->lo<=x)(u:2<lo)(P:n<240000)(hk:o.eH=8\/o.eH=13\/o.eH=14):aK prog 68 #[zq q,bY o.G] w λe w'=>e=ai (bG M)/\sB (n+2) q B C r f w w':=by
 let⟨kd,a,nn,m,k,s,t,fl⟩:=o;have j:Nw w<|aF w<|au (Sp.G ⟨kd,a,nn,m,k,s,t,fl⟩) 73:=zj.E _;have b:=h.nw j;have d:=xe λ(g gr:Q) hg=>S' (g:=g) (gr:=gr) b (λw' G=>F w'<|(j.U λ_=>eT).aE G) l u P hg;have A:=(xh.ex w (Sp.G ⟨kd,a,nn,m,k,s,t,fl⟩) 73).i (v:=J kd) 0 O;have hd:=b.qb.i (v:=aU _) 0 O;obtain rfl|rfl|rfl:=hk
 case' inl=>have i:=d.o 29 125<|aJ ⟨O,O⟩
 case' inr.inl=>have i:=d.o 45 127<|ac<|aJ ⟨O,O⟩
 case' inr.inr=>have i:=d.o 20 128<|ac<|ac ⟨O,O⟩
 all_goals
  go_enter func68.1,lJ;go_wp2;generalize aF w _=w0 at*;apply Calls.mono i;rintro e h1⟨x,h2,rfl,c,I⟩;have L:=(b.qb.y c.y λx=>b.qn<|aJ x).i (v:=aU _) 1 O;go_wp2;apply I.mono;rintro e hx⟨rfl,ho,y,z,D⟩;have p:=sB.pj j<|b.step c y z D;go_wp2;apply(vR _ _).mono;rintro e S⟨rfl,rfl⟩;go_wp2;go_ret;exact⟨Â,p⟩
def xzv{b:Q}{y:bA Zl}(h:w.ownsRow b 9 1 v (T y)<|y.map encStr):Rw w 9 1 o5 v y:=by
 have e:∀y:bA _,y.flatMap o5=y.map encStr:=λy=>by induction y with|nil=>rfl|cons x y I=>exact gv _ I
 grind [Rw,FQ]
def jak(w:Zy)(y:Q)(P F:Zv)(m:U)(tv t:Zv)(z:Ze)(x:bA U)(w':Zy):Prop:=∃l w1,Nw w w1/\(∀g,l.ownBlock=Y g->V (Z w)<=g)/\QY w1 y P F m tv t l z x w'
def xct(y q B C:Q)(n:Q)(r:Sr)(f:Rf)(o:Sp)(w:Zy)(h:Pr n w q B C r f)(d:r.sn=R)(hk:o.eH=7):aH 66 #[zq y,zq q,bY o.G] w (bG M):=by let⟨u,a,z,m,k,s,t,F⟩:=o;obtain rfl:u=7:=hk;have c:Nw w<|aF w<|au (Sp.G ⟨7,a,z,m,k,s,t,F⟩) 73:=zj.E _;have b:=h.nw c;have i:=(xh.ex w (Sp.G ⟨7,a,z,m,k,s,t,F⟩) 73).i (v:=J 7) 0 O;have j:=b.qb.i (v:=aU _) 0 O;have l:=b.qb.i (v:=aU _) 1 O;have g:N (aF w<|au (Sp.G ⟨7,a,z,m,k,s,t,F⟩) 73) (K C 11)=bG f.gw:=b.fa.bT.i 11 O;rw[h.tw.Cp d]at g;go_enter func66.1,nJ;go_wp2;generalize aF w _=w0 at*;apply(xh4 B r _ b.sa d).mono;rintro e p⟨rfl,rfl⟩;go_wp2;apply(vR _ _).mono;rintro e x⟨rfl,rfl⟩;go_wp2;go_ret;exact⟨O,c⟩
def zy2(u q B C:Q)(n:Q)(r:Sr)(sn:kE)(f:Rf)(o:Sp)(w:Zy)(hx tv fv F:Zv)(m:Q)(P:Ze)(A:bA U)(hB:WB w u hx m tv fv F)(hT:Rw w 51 1 uG tv P)(hM:Rw w 3 1 tJ F A)(hm:m<=100000000000)(ih:T P<=900000000000)(bb:T A<=900000000000)(h:Pr n w q B C r f)(x:r.sn=Y sn)(hn:n<=240000)(hk:o.eH=7):aK prog 66 #[zq u,zq q,bY o.G] w λe w'=>e=ai (bG M)/\jak w u hx fv m tv F P A w':=by
 let⟨kd,a,nn,m',k,s,t,fl⟩:=o;obtain rfl:kd=7:=hk;have G:Nw w<|aF w<|au (Sp.G ⟨7,a,nn,m',k,s,t,fl⟩) 73:=zj.E _;have I:=h.nw G;have c0:=(xh.ex w (Sp.G ⟨7,a,nn,m',k,s,t,fl⟩) 73).i (v:=J 7) 0 O;have d0:=I.qb.i (v:=zq B) 0 O;have b:T sn.lT<=5000000/\(∀p∈sn.lT,T p.1<=1000000)/\T sn.P<=20/\T f.L<=200000000000/\T f.P<=20/\f.hU=gG sn.lT/\f.gw=M:=by obtain⟨-,h1,h2,h3,h4,h5,-⟩:=h.ok.lU sn x;have l:=JK sn.P sn.L;refine⟨by unfold kE.lT;omega,λp hp=>?_,h1,h.tw.ll h.ok À<|h.tw.on x,h.tw.pl h.ok<|h.tw.on x,h.tw.hU h3 x,h.tw.on x⟩;have:=(mQ sn.P h5 h2 p hp).2.1;omega
 go_enter func66.1,nJ;go_wp2;generalize aF w _=w0 at*;apply(xrp B r sn _ I.sa x b.2.2.1 b.2.1 b.1).mono;rintro e w2⟨v,rfl,c,z⟩;have ho:=I.nw z;have W:=xzv c;have d1:=ho.qb.i (v:=zq C) 1 O;have e1:N w2 (K C 11)=bG f.gw:=ho.fa.bT.i 11 O;rw[b.f]at e1;obtain⟨av,cv,rfl⟩:=W.dL;go_wp2;apply(P9 C f _ ho.fa b.c.1 b.d.1).mono;rintro e w3⟨v3,rfl,D,d,-⟩;rw[b.e.1]at d;obtain⟨a3,c3,rfl⟩:=d.dL;have N3:=(G.aE z).aE D;have ba:T (gG sn.lT)=T (Vv sn.lT):=by rw[<-QN,jl]
 go_wp2;apply(vR _ _).mono;rintro e w4⟨rfl,rfl⟩;go_wp2;have cs:∀j (v':j<T (Vv sn.lT)),((gG sn.lT)[j]' À).1=(Vv sn.lT)[j]:=λj v'=>by grind [QN]
 have hs:=xe cs;have S:T (Vv sn.lT)<=1000000000:=by have:=LX sn.lT;have:=b.1;omega
 go_loopw [18] (λi wr=>∃j:Q,j<=T (Vv sn.lT)/\i=J j/\Nw w4 wr) (λi _=>bL (T (Vv sn.lT)-bZ i));grind [zj.refl];obtain⟨j,v',rfl,g'⟩:=hrel;have es:=g';have X:=(W.y D λ_ _=>id).y g' λ_ _=>id;have S5:=d.y g' λ_ _=>id;by_cases y:j<T (Vv sn.lT)
 ·have i1:(j:U)<(T (Vv sn.lT):Q):=À;obtain⟨g1,rfl,q1⟩:=X.lp (λ_=>O) y O;obtain⟨g2,rfl,q2⟩:=S5.lp (λ_=>O) (i:=j) À O;have k1:=q1 0 À;have k2:=q2 0 À;simp only[o5,kT,qh,Cd,Yy,hs.o j y]at k1 k2;go_wp2;go_big_quiet (fail);go_wp2;go_roundw;exact⟨j+1,À,Å,es.fV⟩;exact Ì
 obtain rfl:j=T (Vv sn.lT):=À
 have hd:=N3.aE es;go_wp2;apply(xvk u hx tv fv F _ m P A (Vv sn.lT) _ (hB.y hd id) (hT.y hd λ_ _=>id) (hM.y hd λ_ _=>id) X hm S ih bb).mono;rintro e w6⟨rfl,ht⟩;go_wp2;go_ret;exact⟨O,_,_,hd,λg cs=>xa G.aD (c.lt g cs).1,ht⟩
def jaj(w:Zy)(y:Q)(P tv:Zv)(m:U)(F t:Zv)(z:Ze)(x:bA U)(w':Zy):Prop:=∃l w1,Nw w w1/\(∀g,l.ownBlock=Y g->V (Z w)<=g)/\Tc w1 y P tv m F t l z x w'
def xyp(u q B C:Q)(n:Q)(r:Sr)(f:Rf)(w:Zy)(A tv fv p:Zv)(m:Q)(F:Ze)(P:bA U)(hB:WB w u A m tv fv p)(hT:Rw w 33 1 uG fv F)(hM:Rw w 3 1 tJ p P)(hm:m<=100000000000)(y:T F<=900000000000)(x:T P<=900000000000)(h:Pr n w q B C r f)(hF:rU r.d.L)(h1:T (wh f)<=1000000000):aK prog 33 #[zq u,zq q] w λe w'=>e=ai (bG M)/\jaj w u A tv m fv p F P w':=by
 have h2:=h;have d0:=h.qb.i (v:=zq B) 0 O;have hx:=h.tw.img;go_enter func33.1,Tryz.ntmps33;go_wp2;apply(xic B r _ h2.sa hF).mono;rintro e hd⟨v,rfl,a,k⟩;have s:=h2.nw k;have S:Rw hd 36 2 ru v<|wh f:=by have h:=FQ a<|Zz _;rw[hx.1,hx.2]at h;exact h
 have t:=s.fa.fs;have d1:=s.qb.i (v:=zq C) 1 O;have v':N hd (K C 3)=Y f.fv:=s.fa.bT.i 3 O;have b:T (wh f)=T f.F:=by unfold wh;rw[jl]
 let⟨av,cv,hv⟩:=S.dL;rw[b]at hv;subst hv;let⟨a3,c3,h3⟩:=t.dL;rw[h3]at v' t;have D:∀j (o:j<T f.F) (hi:j<T (wh f)),(wh f)[j]=((f.F[j]'o).1,(f.F[j]'o).2.1):=λj o hi=>by simp only[wh,Fl]
 have es:=D;have ho:=b;rw[b]at h1;go_wp2;go_loopw [7] (λi wr=>∃j:Q,j<=T f.F/\i=J j/\Nw hd wr) (λi _=>bL (T f.F-bZ i));grind [zj.refl];obtain⟨j,o,rfl,z⟩:=hrel;have cs:=z;have g':=S.y z λ_ _=>id;by_cases c:j<T f.F
 ·have i1:(j:U)<(T f.F:Q):=À;obtain⟨g1,rfl,G⟩:=g'.lp (λ_=>O) (by rw[ho];exact c) O;obtain⟨g2,rfl,I⟩:=(t.y z λ_ _=>id).lp (λ_=>O) À O;have W:=G 0 À;have X:=G 1 À;have k3:=I 0 À;have k4:=I 1 À;rw[es j c Á]at W X;simp only[ru,mr,qh,Jm,Yy]at W X k3 k4;clear G I;go_wp2;go_big_quiet (fail);go_wp2;go_roundw;exact⟨j+1,À,Å,cs.fV⟩;exact Ì
 obtain rfl:j=T f.F:=À
 have l:=k.aE cs;go_wp2;apply(xnu u A tv fv p _ m F P (wh f) _ (hB.y l id) (hT.y l λ_ _=>id) (hM.y l λ_ _=>id) g' hm (by rw[ho];exact h1) y x).mono;rintro e w6⟨rfl,ht⟩;go_wp2;go_ret;exact⟨O,_,_,l,λg D=>(a.lt g D).1,ht⟩
def zK(y:bA U):Q:=T (y.filter λm=>bR (0<m))
def zJ(y:bA U):Q:=T (y.filter λm=>!bR (0<m))
structure jai(w:Zy)(z F:Ze)(y:bA U):Prop where
 tl:T z=4*zK y
 fl:T F=4*zJ y
 tx:∀i (h:i<T y),0<y[i]->∀k,k<4->∃v,z[4*zK (y.take i)+k]?=Y v/\mu 9 1 (xW y[i]) w v
 fx:∀i (h:i<T y),¬0<y[i]->∀k,k<4->∃v,F[4*zJ (y.take i)+k]?=Y v/\mu 36 2 (xE<|-y[i]) w v
 bd:∀m∈y,-1000000000000<=m/\m<=1000000000000
def xkl{y:bA U}(h:i<T y):zK (y.take<|i+1)=zK (y.take i)+(if 0<y[i]then 1 else 0)/\zJ (y.take<|i+1)=zJ (y.take i)+(if 0<y[i]then 0 else 1):=by unfold zK zJ;rw[zp h,Yu,Yu,zx,zx];grind
def xgq(y:bA U)(i:Q):zK (y.take i)<=zK y/\zJ (y.take i)<=zJ y:=by constructor;exact(List.Sublist.filter _<|List.take_sublist i y).length_le;exact(List.Sublist.filter _<|List.take_sublist i y).length_le
def xar{e:Q}{u:Ze}(h:w.ownsRow 0 e k v n<|nC u n)(b:T u=k){x:Q}(hx:x<n){a:dD Addr}(c:v=aB a n L):∃g,a=Y ⟨g,0,R⟩/\∀i,i<k->N w (K g<|x*k+i)=u[i]?:=by
 have r:Rw w e k (λ_:Unit=>u) v<|List.replicate n ():=by unfold Rw;rw[Zq,Oj];exact h
 obtain⟨g,d,f⟩:=r.lp (λ_=>b) (i:=x) Á c;grind
def xqi(A:Q)(ps tv fv mv:Zv)(n:U)(hd F:Ze)(P:bA U)(w:Zy)(hB:WB w A ps n tv fv mv)(hT:Rw w 51 1 uG tv hd)(hF:Rw w 33 1 uG fv F)(hM:Rw w 3 1 tJ mv P)(hO:jai w hd F P)(hl:T P<=100000000000):aH 34 #[aU<|some ⟨A,1,R⟩] w (bG M):=by
 obtain⟨at_,ct,rfl⟩:=hT.dL;obtain⟨af,cf,rfl⟩:=hF.dL;obtain⟨am,cm,rfl⟩:=hM.dL;have HB:=hB;have HT:=hT;have HF:=hF;have HM:=hM;have HO:=hO;have br:zK P<=T P:=J0 _ _;have bp:zJ P<=T P:=J0 _ _;have HC:H<|∀w',Nw w w'->N w' ⟨A,2,R⟩=aB at_ (T hd) ct/\N w' ⟨A,3,R⟩=aB af (T F) cf/\N w' ⟨A,4,R⟩=aB am (T P) cm:=λw' h=>⟨(HB.y h id).i 2 O,(HB.y h id).i 3 O,(HB.y h id).i 4 O⟩;clear hB hT hF hM hO;go_enter func34.1,Tryz.ntmps34;go_wp2;go_loopw [3,4,5] (λt f i wr=>∃q p4 r4:Q,q<=T P/\i=aD bB q/\t=aD bB (p4:U)/\f=aD bB (r4:U)/\(4*zK (P.take q)=p4/\4*zJ (P.take q)=r4)/\Nw w wr) (λ_ _ i _=>bL (T P-bZ i));exact⟨0,0,0,À,O,O,O,⟨O,O⟩,zj.refl _ _⟩;obtain⟨q,p4,r4,hq,rfl,rfl,rfl,⟨w2,W⟩,g⟩:=hrel;have bk:=w2;have bl:=xe W;have v':=xe g;have c:=HC.o _ g;clear g;by_cases D:q<T P
 ·have i1:(q:U)<(T P:Q):=À;have i0:(0:U)<=(q:U):=À
  obtain⟨gm,rfl,em⟩:=(HM.y v'.o λ_ _=>id).vA (u:=aD bB) (λ_=>O) D O;have bo:=HO.bd _<|Xk D;have be:=xkl D;have bq:=xgq P q;have bj:=xgq P<|q+1;have ih:=xe<|HO.tx q D;have hs:=xe<|HO.fx q D;have bb:=xe HO.tl;have ba:=xe HO.fl;have bn:T hd<=400000000000:=by have:=bb.o;omega
  have bm:T F<=400000000000:=by have:=ba.o;omega
  have B:=xe be;clear be;go_wp2;clear c em;by_cases hp:0<P[q];focus
   rw[aT hp,aT hp]at B;replace ih:=xe<|ih.o hp;have bh:=B.o.1;generalize zK (P.take q)=p at*;generalize zJ (P.take q)=r at*;generalize P[q]=m at*;go_loopw [3,4,7] (λt f k wr=>∃j a:Q,j<=4/\k=aD bB j/\t=aD bB (a:U)/\a=4*p+j/\f=aD bB (r4:U)/\Nw w wr) (λ_ _ k _=>bL (4-bZ k));exact⟨0,p4,À,O,O,À,O,v'.o⟩;obtain⟨j,a,hj,rfl,rfl,y,rfl,g⟩:=hrel;have L:=xe y;have cs:=xe g;clear g v';by_cases hr:j<4
   ·have j1:(j:U)<4:=À;obtain⟨v,ho,hk⟩:=ih.o j hr;rw[<-y]at ho;have d:a<T hd:=by have:=bb.o;omega
    obtain⟨C,rfl,S⟩:=HT.vA (u:=id) (λ_=>O) d O;obtain⟨b,⟨av,I,rfl⟩,l⟩:=hk.uR O;have e1:hd[a]=aB av b I:=by rw[Jc d]at ho;exact ql ho
    rw[e1]at S;have HR:=xe l;have HE:=xe S;have k0:(0:U)<=(a:U):=À
    have k1:(a:U)<(T hd:Q):=À
    clear ho hk e1 S l y w2 W;have bg:b<=9223372036854775807:=zbo
    go_wp2;go_loopw [8] (λxv wr=>∃x:Q,x<=b/\xv=aD bB x/\Nw w wr) (λxv _=>bL (b-bZ xv));exact⟨0,À,O,cs.o⟩;obtain⟨x,hx,rfl,g⟩:=hrel;have g':=xe g;have G:H<|∀w',Nw w w'->N w' ⟨A,2,R⟩=aB (Y ⟨C,0,R⟩) (T hd) ct/\N w' ⟨C,a,R⟩=aB av b I:=λw' h=>⟨(HC.o w' h).1,h.i id HE.o⟩;have c:=G.o _ g;clear g cs;by_cases X:x<b
    ·have x1:(x:U)<(b:Q):=À;obtain⟨z,rfl,es⟩:=xar HR.o O X O;have s:N w ⟨z,x*1,R⟩=(ak<|st<|mY m):=es 0 À;rw[Cd]at s;have x0:(0:U)<=(x:U):=À
     have HG:=xe s;have o:H<|∀w',Nw w w'->N w' ⟨A,2,R⟩=aB (Y ⟨C,0,R⟩) (T hd) ct/\N w' ⟨C,a,R⟩=aB (Y ⟨z,0,R⟩) b I/\N w' ⟨z,x,R⟩=(ak<|st<|mY m):=λw' h=>⟨(G.o w' h).1,(G.o w' h).2,h.i id HG.o⟩;have bi:((st<|mY m).toList==(st<|mY m).toList)=M:=Â
     clear es s G;go_wp2;clear c;have S0:=o.o _ g'.o;have ND:H<|Nw w wr.drew:=g'.o.W;have S1:=o.o _ ND.o;go_region_held3 (λw'=>N w' ⟨A,2,R⟩=aB (Y ⟨C,0,R⟩) (T hd) ct/\N w' ⟨C,a,R⟩=aB (Y ⟨z,0,R⟩) b I/\N w' ⟨z,x,R⟩=(ak<|st<|mY m)) (first|exact S0|exact S1|exact S2)
      ((go_at_call 70;refine(Gg m _).mono ?_;rintro e w4⟨rfl,h3⟩;have N4:=xe<|ND.o.aE h3;have S2:=o.o _ N4.o;clear h3))
     all_goals
      go_wp2;exact⟨⟨x+1,À,Å,N4.o⟩,Î⟩
    have x1:¬(x:U)<(b:Q):=À
    go_wp2;exact⟨⟨j+1,a+1,À,Å,Å,by have:=L.o;omega,O,g'.o⟩,Î⟩
   have j1:¬(j:U)<4:=À
   go_wp2;exact⟨⟨q+1,a,r4,À,Å,O,O,⟨À,by rw[B.o.2];omega⟩,cs.o⟩,Î⟩
  rw[aL hp,aL hp]at B;replace hs:=xe<|hs.o<|Int.not_lt.1 hp;have bh:=B.o.2;generalize zK (P.take q)=p at*;generalize zJ (P.take q)=r at*;generalize P[q]=m at*;have FO:H<|∀w,aH 71 #[aD bB<|-m] w (bY #[aD bB m,ak<|st<|mY<|-m]):=λw=>by have:=Gf (-m) À w;simp_all
  have bs:IntKind.i64.wrap (-m)= -m:=Ï
  go_loopw [3,4,7] (λt f k wr=>∃j a:Q,j<=4/\k=aD bB j/\t=aD bB (p4:U)/\a=4*r+j/\f=aD bB (a:U)/\Nw w wr) (λ_ _ k _=>bL (4-bZ k));exact⟨0,r4,À,O,O,À,O,v'.o⟩;obtain⟨j,a,hj,rfl,rfl,y,rfl,g⟩:=hrel;have L:=xe y;have cs:=xe g;clear g v';by_cases hr:j<4
  ·have j1:(j:U)<4:=À;obtain⟨v,ho,hk⟩:=hs.o j hr;rw[<-y]at ho;have d:a<T F:=by have:=ba.o;omega
   obtain⟨C,rfl,S⟩:=HF.vA (u:=id) (λ_=>O) d O;obtain⟨b,⟨av,I,rfl⟩,l⟩:=hk.uR O;have e1:F[a]=aB av b I:=by rw[Jc d]at ho;exact ql ho
   rw[e1]at S;have HR:=xe l;have HE:=xe S;have k0:(0:U)<=(a:U):=À
   have k1:(a:U)<(T F:Q):=À
   clear ho hk e1 S l y w2 W;have bg:b<=9223372036854775807:=zbo
   go_wp2;go_loopw [9] (λxv wr=>∃x:Q,x<=b/\xv=aD bB x/\Nw w wr) (λxv _=>bL (b-bZ xv));exact⟨0,À,O,cs.o⟩;obtain⟨x,hx,rfl,g⟩:=hrel;have g':=xe g;have G:H<|∀w',Nw w w'->N w' ⟨A,3,R⟩=aB (Y ⟨C,0,R⟩) (T F) cf/\N w' ⟨C,a,R⟩=aB av b I:=λw' h=>⟨(HC.o w' h).2.1,h.i id HE.o⟩;have c:=G.o _ g;clear g cs;by_cases X:x<b
   ·have x1:(x:U)<(b:Q):=À;obtain⟨z,rfl,es⟩:=xar HR.o O X O;have s:N w ⟨z,x*2,R⟩=(aD bB<|- -m):=es 0 À;have bc:N w ⟨z,x*2+1,R⟩=(ak<|st<|mY<|-m):=es 1 À;rw[Int.neg_neg]at s;have bf:=xe bc;have x0:(0:U)<=(x:U):=À
    have HG:=xe s;have o:H<|∀w',Nw w w'->N w' ⟨A,3,R⟩=aB (Y ⟨C,0,R⟩) (T F) cf/\N w' ⟨C,a,R⟩=aB (Y ⟨z,0,R⟩) b I/\N w' ⟨z,x*2,R⟩=aD bB m/\N w' ⟨z,x*2+1,R⟩=(ak<|st<|mY<|-m):=λw' h=>⟨(G.o w' h).1,(G.o w' h).2,h.i id HG.o,h.i id bf.o⟩;have bi:((st<|mY<|-m).toList==(st<|mY<|-m).toList)=M:=Â
    clear es s bc G;go_wp2;clear c;have S0:=o.o _ g'.o;have ND:H<|Nw w wr.drew:=g'.o.W;have S1:=o.o _ ND.o;go_region_held3 (λw'=>N w' ⟨A,3,R⟩=aB (Y ⟨C,0,R⟩) (T F) cf/\N w' ⟨C,a,R⟩=aB (Y ⟨z,0,R⟩) b I/\N w' ⟨z,x*2,R⟩=aD bB m/\N w' ⟨z,x*2+1,R⟩=(ak<|st<|mY<|-m)) (first|exact S0|exact S1|exact S2)
     ((go_at_call 71;refine(FO.o _).mono ?_;rintro e w4⟨rfl,h3⟩;have N4:=xe<|ND.o.aE h3;have S2:=o.o _ N4.o;clear h3))
    all_goals
     go_wp2;exact⟨⟨x+1,À,Å,N4.o⟩,Î⟩
   have x1:¬(x:U)<(b:Q):=À
   go_wp2;exact⟨⟨j+1,a+1,À,Å,O,by have:=L.o;omega,Å,g'.o⟩,Î⟩
  have j1:¬(j:U)<4:=À
  go_wp2;exact⟨⟨q+1,p4,a,À,Å,O,O,⟨by rw[B.o.1];omega,À⟩,cs.o⟩,Î⟩
 obtain rfl:q=T P:=À
 have i1:¬(T P:U)<(T P:Q):=À
 go_wp2;go_ret;exact⟨O,v'.o⟩
def xcz(q B C:Q)(n:Q)(r:Sr)(f:Rf)(o:Sp)(w:Zy)(h:Pr n w q B C r f)(hk:o.eH=3):aK prog 68 #[zq q,bY o.G] w λe w'=>e=ai (bG M)/\sB n q B C r f w w':=by
 let⟨kd,a,A,m,k,s,t,I⟩:=o;obtain rfl:kd=3:=hk;have p:Nw w<|aF w<|au (Sp.G ⟨3,a,A,m,k,s,t,I⟩) 73:=zj.E _;have b:=h.nw p;have z:=(xh.ex w (Sp.G ⟨3,a,A,m,k,s,t,I⟩) 73).i (v:=J 3) 0 O;have D:=b.qb.i (v:=aU _) 0 O;go_enter func68.1,lJ;go_wp2;generalize aF w _=w0 at*;obtain⟨g,i⟩:∃g,(if r.sn.isSome=M then(0:U)else 5)=g:=⟨_,O⟩;have l:=i;have y:H<|(if f.gw=M then(0:U)else 5)=g:=by show _=_;rw[b.tw.gw];exact l
 apply(xll B r _ b.sa).mono;rintro e F⟨d,c⟩;rw[l]at d;subst d;have u:=(b.qb.y c.y λx=>b.qn<|aJ x).i (v:=aU _) 1 O;go_wp2;apply(xhx C f _<|b.vn c).mono;rintro e G⟨d,j⟩;rw[y.o]at d;subst d;go_wp2;apply(vR _ _).mono;rintro e P⟨rfl,rfl⟩;go_wp2;go_ret;exact⟨Â,.pj p<|b.step c j b.tw.kZ b.ok.kZ⟩
def xc0(q B C:Q)(n:Q)(r:Sr)(f:Rf)(o:Sp)(w:Zy)(h:Pr n w q B C r f)(hk:o.eH=11):aH 68 #[zq q,bY o.G] w (bG M):=by let⟨z,a,y,m,k,s,t,F⟩:=o;obtain rfl:z=11:=hk;have c:Nw w<|aF w<|au (Sp.G ⟨11,a,y,m,k,s,t,F⟩) 73:=zj.E _;have b:=h.nw c;have g:=(xh.ex w (Sp.G ⟨11,a,y,m,k,s,t,F⟩) 73).i (v:=J 11) 0 O;have i:=b.qb.i (v:=aU _) 0 O;have j:=b.qb.i (v:=aU _) 1 O;have d:N (aF w<|au (Sp.G ⟨11,a,y,m,k,s,t,F⟩) 73) (K C 8)=J f.bF:=b.fa.bT.i 8 O;rw[h.tw.bF]at d;go_enter func68.1,lJ;go_wp2;generalize aF w _=w0 at*;apply(PO B r _ b.sa).mono;rintro e l⟨rfl,rfl⟩;go_wp2;go_ret;exact⟨Â,c⟩
def xje(q:Q)(o:Sp)(w:Zy)(hk:o.eH≠2/\o.eH≠3/\o.eH≠8/\o.eH≠9/\o.eH≠11/\o.eH≠13/\o.eH≠14):aH 68 #[zq q,bY o.G] w (bG M):=by let⟨y,a,z,m,k,s,t,F⟩:=o;let⟨x,p,u,D,G,P,A⟩:=hk;have c:(y==2)=ao:=We x;have d:(y==3)=ao:=We p;have f:(y==8)=ao:=We u;have g:(y==9)=ao:=We D;have h:(y==11)=ao:=We G;have i:(y==13)=ao:=We P;have j:(y==14)=ao:=We A;have b:Nw w<|aF w<|au (Sp.G ⟨y,a,z,m,k,s,t,F⟩) 73:=zj.E _;have l:=(xh.ex w (Sp.G ⟨y,a,z,m,k,s,t,F⟩) 73).i (v:=J y) 0 O;go_enter func68.1,lJ;go_wp2;generalize aF w (au (Sp.G ⟨y,a,z,m,k,s,t,F⟩) 73)=w0 at*;refine(vR _ _).mono ?_;rintro e n⟨rfl,rfl⟩;go_wp2;go_ret;exact⟨O,b⟩
def xc1(q B C:Q)(n:Q)(r:Sr)(f:Rf)(o:Sp)(w:Zy)(h:Pr n w q B C r f)(hk:o.eH=9)(P:0<=o.n/\kh o.n)(G:0<=o.m/\kh o.m):aK prog 68 #[zq q,bY o.G] w λe w'=>e=ai (bG M)/\sB n q B C r f w w':=by
 let⟨kd,a,i,m,k,s,t,fl⟩:=o;obtain rfl:kd=9:=hk;obtain⟨i,rfl⟩:∃x:Q,i=x:=⟨bL i,Á⟩;obtain⟨m,rfl⟩:∃x:Q,m=x:=⟨bL m,Á⟩;have z:Nw w<|aF w<|au (Sp.G ⟨9,a,i,m,k,s,t,fl⟩) 73:=zj.E _;have X0:=xh.ex w (Sp.G ⟨9,a,i,m,k,s,t,fl⟩) 73;have D:=h.nw z;have I:=X0.i (v:=J 9) 0 O;have F:=X0.i 2 O;have c3:=X0.i 3 O;have j:¬tr B C r f (V<|Z w):=λx=>DN _<|h.lt x;go_enter func68.1,lJ;go_wp2;generalize aF w _=w0 at*;have d:=D.nw (zj.refl _ w0).W;have y:=X0.y (S:=λ_=>False) (zj.refl _ w0).W id;go_region_held3 (λw'=>N w' (K q 0)=zq B/\N w' (K (V<|Z w) 2)=J i/\N w' (K (V<|Z w) 3)=J m) (first|exact⟨D.qb.i 0 O,F,c3⟩|exact⟨(d.qb.y c.y λx=>d.qn<|aJ x).i 0 O,(y.y c.y λh=>j<|aJ h).i 2 O,(y.y c.y λh=>j<|aJ h).i 3 O⟩)
  (first|(go_at_call 27;apply(xlm B r i m _ d.sa).mono;rintro e p⟨rfl,b,c⟩))
 have l:=(y.y c.y λh=>j<|aJ h).y (S:=λ_=>False) (zj.refl _ p).W id;have u:=(d.qb.y c.y λx=>d.qn<|aJ x).y (S:=λ_=>False) (zj.refl _ p).W id;go_wp2;go_region_held3 (λw'=>N w' (K q 1)=zq C/\N w' (K (V<|Z w) 2)=J i/\N w' (K (V<|Z w) 3)=J m) (first|exact⟨u.i 1 O,l.i 2 O,l.i 3 O⟩|exact⟨(u.y g.y λx=>d.qn<|ac x).i 1 O,(l.y g.y λh=>j<|ac h).i 2 O,(l.y g.y λh=>j<|ac h).i 3 O⟩)
  (first|(go_at_call 126;apply(xh0 C f i m À À _<|(d.vn c).y (zj.refl _ p).W).mono;rintro e A⟨rfl,g⟩))
 go_wp2;apply(vR _ _).mono;rintro e hd⟨rfl,rfl⟩;go_wp2;go_ret;let⟨e2,e3⟩:=d.tw.ku d.ok b P G;exact⟨O,.pj (z.aE (zj.refl _ w0).W)<|d.step (c.JS (zj.refl _ p).W) g e2 e3⟩
def zza(q B C:Q)(n:Q)(r:Sr)(f:Rf)(o:Sp)(w:Zy)(h:Pr n w q B C r f)(hk:o.eH=9)(y:o.n<0\/o.m<0):aH 68 #[zq q,bY o.G] w (bG M):=by
 obtain⟨z,a,b,m,k,s,t,j⟩:=o;obtain rfl:z=9:=hk;have d:Nw w<|aF w<|au (Sp.G ⟨9,a,b,m,k,s,t,j⟩) 73:=zj.E _;have X0:=xh.ex w (Sp.G ⟨9,a,b,m,k,s,t,j⟩) 73;have g:=h.nw d;have c:=y;have D:=X0.i (v:=J 9) 0 O;have i:=X0.i 2 O;have c3:=X0.i 3 O;have p:=g.qb.i 0 O;have x:=g.qb.i 1 O;go_enter func68.1,lJ;go_wp2;generalize aF w _=w0 at*;have l:=(d.aE (zj.refl _ w0).W).aE (zj.refl _ w0.drew).W;go_region_held3 (λw'=>N w' (K q 0)=zq B/\N w' (K (V<|Z w) 2)=J b/\N w' (K (V<|Z w) 3)=J m) (exact⟨p,i,c3⟩)
  (first|(go_at_call 27;apply(xhz B b m c _).mono;rintro e u⟨rfl,rfl⟩))
 go_wp2;go_region_held3 (λw'=>N w' (K q 1)=zq C/\N w' (K (V<|Z w) 2)=J b/\N w' (K (V<|Z w) 3)=J m) (exact⟨x,i,c3⟩)
  (first|(go_at_call 126;apply(xhy C b m c _).mono;rintro e F⟨rfl,rfl⟩))
 go_wp2;apply(vR _ _).mono;rintro e G⟨rfl,rfl⟩;go_wp2;go_ret;exact⟨O,l⟩
end
section
variable{aD:Exit→mh→Zy→Prop}
def Rw.JQ{s x:Operand}{t e c:Q}{ad:Addr}{f:X->Ze}{l:bA X}(P:El t e k)(bs:bA X)(h:Rw W e k f v l)(I:T l<=100000000)(B:0<T bs/\T bs<=100000000)(w:∀a,T (f a)=k)(p:∀j u,(bs.flatMap f)[j]?=Y u->N W (ad.add j)=Y u)(m:∀u∈bs.flatMap f,u.oneCell'=M)
  (F:a.eval s=v)(hx:a.eval x=aB (Y ad) (T bs) c)(d:o.guard=R)(ho:o.op= .call {callee:= .builtin .append,args:=#[s,x],argTypes:=#[t,t]})
  (A:∀g L w',Rw w' e k f (aB (Y ⟨g,0,R⟩) (T l+T bs) L) (l++bs)->zj (λy=>v.ownBlock=Y y) W w'->(v.ownBlock=Y g\/V (Z W)<=g)->wpList prog ops aD rest (a.put o.dst<|aB (Y ⟨g,0,R⟩) (T l+T bs) L) w'):wpList prog ops aD (o::rest) a W:=by
 let⟨i,z,hi,hz,hs1,hb,hzs⟩:=P.FY;refine DP d λ_ r=>wp_append_lies _ s x t ho 0 e i z k i.bytes P.Bf hi hz hs1 O hzs P.iE v (T l) _ F h ad (T bs) c _ hx (Bh w bs) p m B.1 è ?_ (Zz _) _ O ?_;have:(T l+T bs)*i.bytes<=200000000*100:=GP À hb;omega;intro g L w' G b n _;refine r _ _<|A g L w' ?_ ⟨b.os,b.output,b.size,λq D C=>b.block q D λe=>C e.symm⟩<|n.imp id λe=>Nat.le_of_eq e.symm;grind [Rw]
def Rw.JO(w:Zy)(e k)(f:X->Ze):Rw (aF w<|au #[] e) e k f (aB (Y ⟨V<|Z w,0,R⟩) 0 0) []:=by refine⟨Â,ac ⟨V<|Z w,0,#[],O,Zz _,xh.ex w #[] e,zd 0,Zz _,Â,Â⟩⟩
def Rw.fsl{c l m}(h:Rw w 36 2 ru (aB (Y ⟨g,0,R⟩) n c)<|l++m):Nk w (aB (Y ⟨g,0,R⟩) (T l) c) l:=by refine⟨_,g,c,O,λ_=>O,λi d=>?_⟩;let⟨G,z,y⟩:=h.lp (λ_=>O) (i:=i) Á O;cases z;have a:=y 0 À;have b:=y 1 À;rw[Og d]at a b;exact⟨a,b⟩
def zpr{P}(y)(t z e:Zt)(i:TypeInfo)(b)(h:P.underlying t=Y (.slice e))(f:P.info? e=Y i)
  (v n x)(a:w.ownsRow y e b v n x)(A c):
  (Builtin.append_ #[t,t] z #[v,aB (Y A) 0 c]).run P w=dG v w:=by
 obtain⟨rfl,rfl⟩|⟨g,j,k,rfl,_,_,d,_⟩:=a.2;simp[Builtin.append_,xo h,sizeOf,typeInfo,f,Builtin.lenOf,Builtin.firstCells,loadCells,loadCellsFrom];simp[Builtin.append_,xo h,sizeOf,typeInfo,f,Builtin.lenOf,Builtin.firstCells,d,loadCells,loadCellsFrom,storeCells]
def Sgx{S:Type}(k lo:Q)(w:Zy)(v:Zv)(l:bA S)(f:S->Ze):Prop:=∃a L,v=aB a (T l) L/\T l<=L/\(a=R->L=0/\l=[])/\∀i (h:i<T l),∃g y,a=Y ⟨g,y,R⟩/\g<lo/\∀j u,(f l[i])[j]?=Y u->N w (K g<|y+i*k+j)=Y u
def Sgx.y{k}{l:bA X}{f:X->Ze}(h:Sgx k lo w v l f)(b:zj S w w')(d:∀x,S x->lo<=x):Sgx k lo w' v l f:=by obtain⟨a,L,z,c,t,p⟩:=h;refine⟨a,L,z,c,t,λi e=>?_⟩;obtain⟨g,y,e,j,u⟩:=p i e;exact⟨g,y,e,j,λj' u' h=>b.i (λh=>by have:=d g h;omega) (u j' u' h)⟩
def Sgx.nw{k}{l:bA X}{f:X->Ze}(h:Sgx k lo w v l f)(a:Nw w w'):Sgx k lo w' v l f:=h.y a λ_=>eT
def Sgx.lp{k}{l:bA X}{f:X->Ze}{a}(h:Sgx k lo w (aB a n L) l f){i}(e:i<T l):∃g y,a=Y ⟨g,y,R⟩/\g<lo/\∀j u,(f l[i])[j]?=Y u->N w (K g<|y+i*k+j)=Y u:=by obtain⟨c,b,e',-,-,d⟩:=h;cases e';exact d i e
abbrev FA(lo:Q)(w:Zy)(v:Zv)(l:FL):Prop:=Sgx 2 lo w v l ru
def xf2(l:FL):∀u∈l.flatMap ru,u.oneCell'=M:=λu b=>by obtain⟨p,-,a⟩:=List.mem_flatMap.1 b;simp only[ru,jc,Ky,or_false]at a;obtain rfl|rfl:=a<;>rfl
def Rw.JPx{s x:Operand}{y:Zv}{t e k}{f:X->Ze}{l bs:bA X}(P:El t e k)(h:Rw W e k f v l)(hd:T l<=100000000)(h1:T bs<=100000000)(hy:Sgx k lo W y bs f)(k1:0<k)(hk:∀a,T (f a)=k)(m:∀u∈bs.flatMap f,u.oneCell'=M)(w:a.eval s=v)(hx:a.eval x=y)(d:o.guard=R)(ho:o.op= .call {callee:= .builtin .append,args:=#[s,x],argTypes:=#[t,t]})
  (A:∀v' w',Rw w' e k f v' (l++bs)->zj (λy=>v.ownBlock=Y y) W w'->(∀g,v'.ownBlock=Y g->v.ownBlock=Y g\/V (Z W)<=g)->wpList prog ops aD rest (a.put o.dst v') w'):wpList prog ops aD (o::rest) a W:=by
 obtain⟨p,m',rfl,-,h2,B⟩:=hy;by_cases q:bs=[]
 ·subst q;have A:=A v W (by simpa using h) (zj.refl _ _) λg t=>aJ t;let⟨i,z,hi,hz,hs1,q,hzs⟩:=P.FY;cases p with
  |none=>
   obtain⟨rfl,-⟩:=h2 O;exact wpList_append_own_none d s x t ho 0 _ i _ P.Bf hi v (T l) _ w h hx A
  |some p=>refine DP d λwr L=>?_;rw[qy]at hx;unfold Oper.wp;simp[aR,ho,o8,invoke,builtin,w,hx,zpr 0 t o.type _ i _ P.Bf hi v (T l) _ h p m',bN];exact L _ _ A
 have D:=Z0.2 q;obtain⟨g,c,rfl,-⟩:=B 0 D;refine Rw.JQ P bs h hd ⟨D,h1⟩ hk (λj u f=>?_) m w hx d ho λg m w' r b n=>A _ w' r b λI t=>?_
 ·have C:j/k<T bs:=by have:=(Wb.1 f).1;rw[Bh (k:=k) hk]at this;exact Nat.div_lt_of_lt_mul (by rw[Nat.mul_comm];exact this)
  obtain⟨I,cs,e,-,F⟩:=B _ C;cases e;rw[show j=j/k*k+j%k from (Nat.div_add_mod' j k).symm,P7 (k:=k) hk bs _ _ C<|Nat.mod_lt _ k1]at f;have:=F _ _ f;rw[Nat.add_assoc,Nat.div_add_mod']at this;rw[zaa];exact this
 cases t;exact n
end
section
attribute[local go_sem] zn zg
def FA.lp{a}(h:FA lo w (aB a n L) l)(f:i<T l):∃g y,a=Y ⟨g,y,R⟩/\N w (K g<|y+i*2)=J l[i].1/\N w (K g<|y+i*2+1)=(ak<|st l[i].2):=by obtain⟨g,y,e,-,d⟩:=Sgx.lp h f;exact⟨g,y,e,d 0 _ O,d 1 _ O⟩
def jbt(lo q B C n r f v l w)(h:Pr n w q B C r f)(hv:FA lo w v l)(hl:T l<=100000000)(z:∀x∈l,kh x.1/\T x.2<=1000000000)(hr:0<=r.d.bU/\r.d.bU<=1000000)(bo:∀y,tr B C r f y->lo<=y):aK prog 67 #[zq q,v] w λe w'=>e=ai (bG M)/\sB n q B C r f w w':=by
 obtain⟨a,c,rfl,-⟩:=id hv;have P0:=h.nw<|zj.E<|au #[] 36;have R0:=hv.nw<|zj.E<|au #[] 36;have E0:H<|Rw (aF w<|au #[] 36) 36 2 ru (aB (Y ⟨V<|Z w,0,R⟩) 0 0) []:=Rw.JO w 36 2 ru;have N0:H<|Nw w<|aF w<|au #[] 36:=zj.E _;have HB:=z;have bb:=hv;have A:=h;have NA:H<|∀y,r.cN B y->lo<=y:=λy D=>bo y<|aJ D;clear h hv z;go_enter func67.1,Tryz.ntmps67;go_wp2_with (refine Rw.JPx Da E0.o (Zz _) hl R0 Ã (λ_=>O) (xf2 _) O O O O ?_);intro v1 w1 r1 b1 n1;have hd:H<|Nw w w1:=N0.o.lO b1 λy D=>ac (by cases D;simp);have P1:=A.nw hd.o;have R1:=bb.nw hd.o;have V1:=r1;have G1:H<|∀g,v1.ownBlock=Y g->V (Z w)<=g:=λg o=>(n1 g o).elim (λe=>by cases e;simp) λe=>À
 obtain⟨a1,c1,rfl⟩:=r1.dL;clear r1 b1 n1 P0 R0 E0;have A2:H<|Nw w1<|aF w1<|au #[J<|-77,ak ⟨#[]⟩] 36:=zj.E _;have B2:H<|xh (aF w1<|au #[J<|-77,ak ⟨#[]⟩] 36) (V<|Z w1) #[J<|-77,ak ⟨#[]⟩] 36:=xh.ex _ _ _;have V2:=V1.y A2.o λ_ _=>id;go_wp2_with (refine Rw.se Da [((-77:U),([]:Zl))] V2 À ⟨Â,Â⟩ (λ_=>O) B2.o O (xf2 _) O O O O ?_);intro m c3 I r3 b3 n3;have W:H<|Nw w I:=(hd.o.aE A2.o).lO b3 λy D=>ac (G1.o y D);have t:=(A.nw W.o).nw (zj.refl _ I).W;have R3:=(bb.nw W.o).nw (zj.refl _ I).W;have V3:=Rw.y (S:=λ_=>False) (show Rw I 36 2 ru (aB (Y ⟨m,0,R⟩) (T l+1) c3) (l++[((-77:U),([]:Zl))])from r3) (zj.refl _ I).W λ_ _=>id;have G3:H<|V (Z w)<=m:=show V (Z w)<=m from n3.elim (λe=>G1.o _ e) λe=>by have:=hd.o.aD;omega
 have bt:T l+1<=c3:=by obtain⟨e,_⟩|⟨g,bq,br,e,_,_,h,_⟩:=r3.2;cases e;simp_all
 have i3:(0:U)<=(T l:U):=À
 have i4:(T l:U)<=(c3:U):=À
 have d0:=(A.nw W.o).qb.i (v:=zq B) 0 O;clear r3 b3 n3 A2 B2 V2 V1 R1 P1 hd N0;go_wp2;go_region_held3 (λw'=>N w' (K q 0)=zq B) (first|exact d0|exact(t.qb.y b.y λx=>t.qn<|aJ x).i 0 O)
  (first|(go_at_call 15;refine(xid B r _ l hr À (λx s=>(HB x s).2) _ t.sa V3.fsl).mono ?_;rintro e F⟨rfl,b⟩))
 have HS:=b;have F4:=t.vn b;have Q4:=t.qb.y b.y λx=>t.qn<|aJ x;have V4:=V3.y b.y λx s h=>by cases s;exact DN _<|zm (A.lt<|aJ h) G3.o
 have R4:=R3.y b.y NA.o;have bi:H<|m<V (Z I):=(V3.lt m O).2;clear b V3 R3 d0;go_wp2;go_loopw [7,8,9] (λnv bv i wr=>∃j:Q,j<=T l/\i=J j/\Nw F wr/\Rw wr 3 1 tJ nv ((l.take j).map (·.1))/\Rw wr 9 1 o5 bv ((l.take j).map (·.2))/\(∀g,nv.ownBlock=Y g->V (Z F)<=g)/\∀g,bv.ownBlock=Y g->V (Z F)<=g) (λ_ _ i _=>bL (T l-bZ i));exact⟨0,À,O,zj.refl _ _,jk _ _ _ _,jk _ _ _ _,λg o=>(by cases o),λg o=>(by cases o)⟩;obtain⟨j,hj,rfl,z,hn,hs,gn,gs⟩:=hrel;have h1:=z;have NV:=hn;have BV:=hs;have GN:=gn;have GS:=gs;have R5:=R4.nw z;have V5:=V4.y z λ_ _=>id;obtain⟨an,cn,en⟩:=hn.dL;obtain⟨ab,cb,eb⟩:=hs.dL;rw[jl,xf,DL hj]at en eb;subst en eb;clear z hn hs gn gs;by_cases p:j<T l
 ·have i1:(j:U)<(T l:Q):=À;have i0:(0:U)<=(j:U):=À
  obtain⟨g1,o1,rfl,k1,-⟩:=FA.lp R5 p;have h2:H<|Nw wr<|aF wr<|au #[J l[j].1] 3:=zj.E _;have B6:H<|xh (aF wr<|au #[J l[j].1] 3) (V<|Z wr) #[J l[j].1] 3:=xh.ex _ _ _;have X:=NV.y h2.o λ_ _=>id;go_wp2_with (refine Rw.se Mh [l[j].1] X (by rw[jl,xf];omega) ⟨Â,Â⟩ (λ_=>O) B6.o O (by intro u hu;simp[tJ]at hu;rw[hu];rfl) O O O O ?_);intro g6 c6 G r6 b6 n6;have N6:H<|Nw F G:=(h1.aE h2.o).lO b6 λy D=>ac (GN y D);have h3:H<|Rw G 3 1 tJ _ _:=r6;have be:H<|V (Z F)<=g6:=show V (Z F)<=g6 from n6.elim (λe=>GN _ e) λe=>by have:=h1.aD;omega
  have bc:=(BV.y h2.o λ_ _=>id).y b6 λg o e=>X.fh (BV.y h2.o λ_ _=>id) Ã e o;have R6:=R4.nw N6.o;have V6:=V4.y N6.o λ_ _=>id;obtain⟨bl,bp,L,-,k2⟩:=FA.lp R6 p;cases L;have hx:H<|Nw G<|aF G<|au #[ak<|st l[j].2] 9:=zj.E _;have B8:H<|xh (aF G<|au #[ak<|st l[j].2] 9) (V<|Z G) #[ak<|st l[j].2] 9:=xh.ex _ _ _;have w2:=bc.y hx.o λ_ _=>id;clear r6 b6 n6 k1 h2 B6;go_wp2_with (refine Rw.se Ew [l[j].2] w2 (by rw[jl,xf];omega) ⟨Â,Â⟩ (λ_=>O) B8.o O (by intro u hu;simp[o5]at hu;rw[hu];rfl) O O O O ?_);intro g9 c9 w9 r9 b9 n9;have N9:H<|Nw F w9:=(N6.o.aE hx.o).lO b9 λy D=>ac (GS y D);have bd:H<|Rw w9 9 1 o5 _ _:=r9;have bf:H<|V (Z F)<=g9:=show V (Z F)<=g9 from n9.elim (λe=>GS _ e) λe=>by have:=N6.o.aD;omega
  have bj:=(h3.o.y hx.o λ_ _=>id).y b9 λg o e=>w2.fh (h3.o.y hx.o λ_ _=>id) Ã e o;have R9:=R4.nw N9.o;have V9:=xe<|V4.y N9.o λ_ _=>id;obtain⟨bl,bp,L,k3,k4⟩:=FA.lp R9 p;cases L;obtain⟨bs,bk,q3⟩:=V9.o.lp (λ_=>O) (i:=j) (by rw[zx];omega) O;cases bk;have a0:=q3 0 À;have a1:=q3 1 À;rw[Og p]at a0 a1;have k5:N w9 (K m<|j*2)=J l[j].1:=a0;have k6:N w9 (K m<|j*2+1)=(ak<|st l[j].2):=a1;have i5:(j:U)<((T l+1:Q):U):=À
  have i6:(j:U)<(T l:U)+1:=À
  clear r9 b9 n9 q3 a0 a1 k2 hx B8;go_wp2;go_big_quiet (fail);go_wp2;go_roundw;have et:l.take (j+1)=l.take j++[l[j]]:=(List.take_append_getElem p).symm;refine⟨j+1,À,Å,N9.o.fV,?_,?_,λg o=>(by cases o;exact be.o),λg o=>(by cases o;exact bf.o)⟩;rw[et,qz,List.map_take];exact bj.y (S:=λ_=>False) (zj.refl _ _).fV λ_ _=>id;rw[et,qz,List.map_take];exact bd.o.y (S:=λ_=>False) (zj.refl _ _).fV λ_ _=>id;exact Î
 obtain rfl:j=T l:=À
 have i1:¬(T l:U)<(T l:Q):=À
 rw[jz]at NV BV;have F5:=xe<|F4.ir h1 λ_ _=>id;have Q5:=xe<|Q4.y h1 id;have d1:=Q5.o.i (v:=zq C) 1 O;have HR:H<|0<=f.bU/\f.bU<=1000000:=by show _/\_;rw[t.tw.tw.bU];exact hr
 go_wp2;refine(xlw (j:=0) C f l _ _ À HR.o (λx s=>(HB x s).2) _ F5.o NV BV).mono ?_;rintro e G⟨a6,f6,rfl,g',ba⟩;have V6:=V5.y g'.y λx s h=>by cases s;exact DN _<|zm (A.lt<|ac h) G3.o
 have RF:=xe g';have LD:=xe ba;have k1:=V6.wI (λ_=>O) 0 À;have k2:=V6.wI (λ_=>O) 1 À;simp only[ru,qh,Jm,Yy]at k1 k2;have j1:(T l:U)<(T l:U)+1:=À
 have j2:(T l:U)<((T l+1:Q):U):=À
 have z0:(st ([]:Zl)).toList=[]:=xl [];clear g' ba d1;go_wp2;go_loopw [12] (λi wr=>∃k:Q,∃P:FL,k<=T l+1/\T P=T l+1/\i=J k/\zj (·=m) G wr/\Rw wr 36 2 ru (aB (Y ⟨m,0,R⟩) (T l+1) c3) P) (λi _=>bL (T l+1-bZ i));exact⟨0,_,À,Â,O,zj.refl _ _,V6⟩;obtain⟨k,P,hk,D,rfl,z,hr⟩:=hrel;have cs:=xe z;have v':=xe hr;clear z hr;by_cases p:k<T l+1
 ·have i1:(k:U)<(T l:U)+1:=À;have i2:(k:U)<((T l+1:Q):U):=À
  have i0:(0:U)<=(k:U):=À
  have bn:k<T P:=À
  rw[<-Km k P,Zx bn]at v';have LT:T (P.take k)=k:=ù
  go_wp2;refine(Gf _ À _).mono ?_;rintro e w8⟨rfl,es⟩;have ho:=xe<|v'.o.y es λ_ _=>id;have d1:=ho.o.wI (λ_=>O) 0 À;have d2:=ho.o.wI (λ_=>O) 1 À;have d3:=ho.o.dS<|k*2;have d4:=ho.o.dS<|k*2+1;rw[LT,Yy]at d1;rw[LT]at d2;simp only[ru,qh,Jm]at d1 d2;have R9:=(ho.o.wS (q:=(-(1000+(k:U)),P[k].2)) (λ_=>O) 0 (J<|-(1000+(k:U))) À O).wS (q:=Dz<|1000+(k:U)) (λ_=>O) 1 (ak<|st<|mY<|1000+(k:U)) À O;rw[LT,Yy]at R9;have bh:=xe R9;have bg:H (zj (·=m) G<|ay (ay w8 (K m<|k*2)<|J<|-(1000+(k:U))) (K m<|k*2+1)<|ak<|st<|mY<|1000+(k:U)):=((cs.o.aE<|es.U λ_=>eT).aE<|zj.H w8 (K m<|k*2) _).aE<|zj.H _ (K m<|k*2+1) _;have ih:H<|T (P.take k++Dz (1000+(k:U))::P.drop (k+1))=T l+1:=by show _=_;simp;omega
  clear es R9;go_wp2;go_roundw;exact⟨k+1,_,À,ih.o,Å,bg.o,bh.o⟩;exact Î
 obtain rfl:k=T l+1:=À
 have i1:¬((T l+1:Q):U)<((T l+1:Q):U):=À
 have i2:¬(T l:U)+1<(T l:U)+1:=À
 obtain⟨t1,t2,t3⟩:=t.tw.EU t.ok (λx s=>(HB x s).1) LD.o;have HT:=xe t1;obtain⟨r',f',p1,p2,p3⟩:=t.step (HS.JS h1) RF.o t2 t3;have HO:H<|sB n q B C r f w wr:=by have o:=bi.o;have bm:=G3.o;have hq:=A.qb.lt;refine⟨r',f',p1.y cs.o (λe=>À) λx s e=>?_,(((W.o.U λ_=>eT).aE<|(zj.refl _ I).W).aE p2).lO cs.o λy e=>ac (e▸bm),λx s=>(p3 x s).imp id λh=>xa W.o.aD h⟩;obtain h|h:=p3 x s;have:=A.lt h;omega;have:V (Z I)<=x:=h;omega
 clear t1 t2 t3 p1 p2 p3 LD RF cs v';go_wp2;refine(vR _ _).mono ?_;rintro e w9⟨rfl,rfl⟩;rw[HT.o];go_wp2;go_ret;exact⟨Â,HO.o⟩
end
section
open A
attribute[local go_sem] zn zg
section
variable{F:Exit→mh→Zy→Prop}{t:Q→Question→Q}
section
variable{w w1 y:dN}{S:Q->Prop}
def sB.nw(h:sB n q B C r f w w1)(a:Nw w1 y):sB n q B C r f w y:=by let⟨r',f',z,x,p⟩:=h;exact⟨r',f',z.nw a,x.aE<|a.U λ_=>eT,p⟩
def Ws.Dy(h:Ws r f)(o:Ok n r)(i:U):T (jp r.d.L i)<=100000:=by have:=In r.d.L i;have:=o.q8;have:=o.bU;omega
def xlh(h:Ju w C f)(t:Ws r f)(o:Ok n r)(z:n<=1000000)(p:∀w',zj (f.cN C) w w'->Yq w')(G:Q):aK prog 123 #[zq C] w<|ϫ C f r.d (Xr (ld f.m f.bQ (f.bF:U) ((r.op+1:Q):U) G) f.F) w:=by
 have u:=o.q8;have D:=o.bU;have c:∀i,T (jp f.F i)<=100000:=λi=>by rw[t.tw.wO];exact t.Dy o i
 have b:T f.m=32:=by rw[t.m];exact o.m
 have l:T f.F<=1000000:=by have:=wQ t.tw.gF.ne;rw[t.tw.wP]at this;omega
 have k:f.bF<=1000000:=by rw[t.bF];have:=o.bF;omega
 refine xhw C f r.d _ G w h t.tw À b (by rw[t.op];exact o.op) c λw1 g q=>?_;have a:=p w1<|q.elim (λh=>h.U λ_=>eT) λh=>h.U λx v=>aJ v;exact xlx C {f with op:=f.op+1} _ w1 ⟨g,a,l,t.tw.gF.ne,c,k,λy j=>zw1 C {f with op:=f.op+1} _ y ⟨g.ir j λ_ _=>id,λi s=>j.i id<|a i s,l,c,k,b,O⟩,λB L1 e=>zve b e⟩
end
variable[pn:A.Pn]
def Te(h:rq F):rq (λe A w'=>match e with
  | .exit j=>if j=Ϸ then F eE A w' else F (.exit j) A w'
  |e=>F e A w'):=λe a w t d=>by
 cases e
 case exit j=>dsimp only;split<;>exact h _ _ _ _ _
 all_goals exact h _ _ _ _ _
def xl5(h:rq F){I:mh->Zy->Prop}{m:mh->Zy->Q}(b:∀a w t d,I a (re w t d)↔I a w)(c:∀a w t d,m a (re w t d)=m a w):rq (λe A w'=>match e with
   | eE=>I A w'/\m A w'<m a0 w0|e=>F e A w'):=λe a w t d=>by
 cases e
 case normal=>grind
 all_goals exact h _ _ _ _ _
noncomputable def BP:=Qf Tryz.f68.body
noncomputable def jfn:=Qa BP
noncomputable def jfo:=Qa<|Qb BP
noncomputable def jfp:=Qa<|Qb<|Qb BP
noncomputable def jfq:=Qa<|Qa<|Qn 3 BP
noncomputable def jfr:=Qa<|Qk<|Qb<|Qa<|Qn 3 BP
noncomputable def r54:=Qa<|Qc<|Qb<|Qk<|Qb<|Qa<|Qn 3 BP
noncomputable def xz8:=Qb<|Qc<|Qb<|Qk<|Qb<|Qa<|Qn 3 BP
noncomputable def jfs:=Qd<|Qb<|Qk<|Qb<|Qa<|Qn 3 BP
noncomputable def Td:=Qn 4 BP
def xxu:Tryz.f68.body=Y (gU jfn<|gU jfo<|gU jfp<|gU (gU jfq<|.block 0<|gU jfr<|.cond (cP 10) (gU r54 xz8) jfs) Td):=Ä
def sA:¬Mc az 68:=Av Ã Ã Tryz.func68
def JT(n q B C:Q)(r:Sr)(f:Rf)(w:Zy)(e:kH)(w':Zy):Prop:=e=ai (bG M)/\sB n q B C r f w w'
def Tf:Nw (re w t d) w:=⟨O,O,zd _,λ_ _ _=>O⟩
def xri:JT n q B C r f w e (re w' t d)↔JT n q B C r f w e w':=⟨λh=>⟨h.1,h.2.nw Tf⟩,λh=>⟨h.1,h.2.nw<|Nw.lQ (zj.refl _ _) t d⟩⟩
def xjf(q B C:Q)(n:Q)(r:Sr)(f:Rf)(o:Sp)(w:Zy)(h:Pr n w q B C r f)(hE:Np lo cv tv (tr B C r f) w)(ho:∀x,r.cN B x->lo<=x)(h4:2<lo)(hn:n<1000000)(hk:o.eH=2):CC az 68 #[zq q,bY o.G] w<|JT (n+1) q B C r f w:=by
 have hQ:rq<|sV az dA Tryz.f68<|JT (n+1) q B C r f w:=Dh λe w' t d=>xri;refine CC.kS bX sA (gy O Tryz.func68 O).1 Tryz.func68 xxu ?_;rw[show Tryz.f68.ntmps=110 from O];generalize hPX:sV az dA Tryz.f68 (JT (n+1) q B C r f w)=PX at hQ;have l:=hQ;have HE:=hE;let⟨kd,a,nn,m,k,s,t,fl⟩:=o;obtain rfl:kd=2:=hk;simp only[jd,xg,qy,jY,lh,qu,qw,Xa,Zh,qj,qg];refine so sA l λw1 bf cs g' bl=>?_;have g:Nw w<|aF w1<|au (Sp.G ⟨2,a,nn,m,k,s,t,fl⟩) 73:=(qm cs).aE<|zj.E _;have i:=xh.ex w1 (Sp.G ⟨2,a,nn,m,k,s,t,fl⟩) 73;conv=>arg 2;whnf
 go_wp2;refine g'.o _ _ ?_;generalize hb:V (Z w1)=b at*;generalize aF w1 (au (Sp.G ⟨2,a,nn,m,k,s,t,fl⟩) 73)=w2 at*;refine so sA l λw3 bg D S bm=>?_;replace g:=g.aE<|qm D;replace i:=i.y (qm D) id;conv=>arg 2;whnf
 go_wp2;refine S.o _ _ ?_;refine so sA l λw4 bh wr v' bn=>?_;replace g:=g.aE<|qm wr;replace i:=i.y (qm wr) id;conv=>arg 2;whnf
 go_wp2;refine v'.o _ _ ?_;refine Yp.vU bX sA bD ?_;refine so sA l.nH λw5 bi G es bo=>?_;replace g:=g.aE<|qm G;replace i:=i.y (qm G) id;have c0:=i.i (v:=J 2) 0 O;conv=>arg 2;whnf
 go_wp2;refine es.o _ _ ?_;refine Yp.dP bX sA ?_;have I:=Te (l.nH (P:=az) (fn:=68) (y:=Td)) (Ϸ:=0);refine so sA I λp bj ih hs bp=>?_;replace g:=g.aE<|qm ih;conv=>arg 2;whnf
 go_wp2;refine hs.o _ _ ?_;refine Yp.Ri bX sA O ?_;have c:=h.nw g;have E6:=HE p<|g.U λ_=>eT;have A:=c.ok;have j:=Ϩ c.sa A.op (h.zG hn ho h4) E6.1 E6.2.1 ho (c.tw.Dy A) λmp k L e=>by
  have e':Xr (ld f.m f.bQ (f.bF:U) ((r.op+1:Q):U) mp) f.F=Y (k,L):=by rw[c.tw.m,c.tw.bQ,c.tw.bF,zz8 c.tw.tw.wO];exact e
  obtain⟨-,h1,h2,h3,h4,h5,-⟩:=SY (by rw[c.tw.m];exact A.m) e';refine⟨λh=>?_,À,À⟩;have:=h1 h;rw[c.tw.tw.wO]at this;omega
 refine Yp.vU bX sA bD ?_;conv=>arg 3;whnf
 refine Yp.ig bX sA ?_;refine vh (val:=zq q) sA ⟨O,O⟩ ?_;refine Vh.eO (val:=zq q) (w':=p) bX sA O (λt d=>⟨t,d,tk⟩) ?_;refine Vh.eO (val:=zq q) (w':=p) bX sA O (λt d=>⟨t,d,tk⟩) ?_;refine Vh.eO (val:=zq B) (w':=p) bX sA O (λt d=>⟨t,d,by have e0:N (re p t d) (K q 0)=zq B:=c.qb.i (v:=zq B) 0 O;show(aR _ _).run prog _=_;simp[aR,go_sem,ge,e0]⟩) ?_;refine Vh.lP bX sA O O (λv=>î) (gy O Tryz.func16 O) j ?_ ?_;rotate_left;rintro ch w7⟨_,hd,_⟩;cases hd;rintro v7 w7⟨a7,hd,r7,bb,mp,hx⟩;cases hd;refine vh (val:=J a7) sA ⟨O,O⟩ ?_;refine Vh.nil bX sA ?_;refine(show Yp az 68 xz8 _ _ w7 from ?_);simp only[ge,Zj,Vp,Kr];refine Gp sA I λw8 bk F W=>?_;have u:Zd B r p r7 w8:=bb.JS<|qm F;have d1:=(c.qb.y u.y λx=>c.qn<|aJ x).i (v:=zq C) 1 O;conv=>arg 2;whnf
 go_wp2;refine(xlh (c.vn u) c.tw c.ok (by have:=hn;omega) (λw' hb=>(HE w'<|((g.U λ_=>eT).aE<|u.y.U λ_=>aJ).aE<|hb.U λ_=>ac).2.2) mp).mono ?_;rintro e w9⟨a9,f9,rfl,ba,X⟩;have bd:a7=a9/\sB (n+1) q B C r f w w9:=by let⟨e1,e2,e3⟩:=c.tw.open c.ok hx X;exact⟨e1,.pj g<|c.step u ba e2 e3⟩
 obtain⟨rfl,bc⟩:=bd;go_wp2;refine W.o eE _ _ (show Yp az 68 Td PX _ w9 from ?_);refine Gp sA l λbq be z hr=>?_;have hw:=bc.nw<|qm z;conv=>arg 2;whnf
 go_wp2;refine(vR _ _).mono ?_;rintro e br⟨rfl,rfl⟩;go_wp2;refine hr.o .ret _ _ ?_;rw[<-hPX];refine⟨O,bG M,λt d=>⟨t,d,?_⟩,O,hw⟩;show(eR Tryz.f68 _).run prog _=_;simp[eR,Tryz.results68,go_sem]
end
end
end P
end Go.Proofs.YtjnbhiamaabbgabGreatDoor
