import Derived.Test.YtjnbhiamaabbgaaGreatDoorM6
set_option linter.all false
set_option maxRecDepth 100000
set_option maxHeartbeats 8000000
section
variable{P:Prop}
def tk(h:P:=by show(aR _ _).run prog _=_;simp[aR,go_sem,ge]):P:=h
def zbh(h:P:=by have:=o.o;omega):P:=h
def zbt(h:P:=by clear c;obtain⟨m,m1,m5,rfl,rfl,inv⟩:=hrel;have c:ug w g k wr:=inv;by_cases hm:m<5):P:=h
end
namespace Go.Proofs.YtjnbhiamaabbgaaGreatDoor
open Go renaming Calls->aK,Ending->kH,bits->lr,heap_alloc_new->xn,heap_setCell_other->jj,setRow_heap->Jr
open Go.Ending renaming returned->ai
open Go.IntKind renaming i64->bB,wrap_i64->zh
open Go.Obj renaming cells->au
open Go.Proofs renaming intOf->bZ
open Go.RowKit renaming Below->aP,Hid->H
open Go.RowKit.Below renaming refl->zt
open Go.Value renaming agg->bY,bool->bG,int->Q,map->fu,pointer->aU,slice->aB,string->ak,tuple->cE
open Go.World renaming alloc->aF,cell?->N,frozen?->aX,setCell->M,heap->Z'
open _root_ renaming Bool->ez,Int->U,List->bA,Nat->aD,Option->dD,absurd->dC,congrArg->gv,if_false->kB,if_neg->aL,if_pos->aT,if_true->dY,rfl->O,trivial->bD
open _root_.Array renaming replicate->cL,setIfInBounds->aA,size->V
open _root_.BitVec renaming ofInt->dM
open _root_.Bool renaming false->ao,true->ay
open _root_.Decidable renaming decide->bR
open _root_.Exists renaming intro->ng
open _root_.Function renaming comp_def->zc1
open _root_.Int renaming toNat->bL,toNat_of_nonneg->p8
open _root_.List renaming drop_eq_getElem_cons->Zx,length->T,length_append->zx,length_pos_iff->Z0,length_take->xf,map_congr_left->W6,pairwise_cons->Xw,range->iC,replicate->bS,take_of_length_le->qp,take_succ_eq_append_getElem->zp,toArray->bH
open _root_.Option renaming none->aw,some->ac
open _root_.Or renaming inl->aJ,inr->Y
open _root_.Prod renaming fst->o7
open _root_.UInt8 renaming ofNat->mZ,toNat->aN
namespace P
variable{tv v:Zv}{F y ſ B:Xv}{n p b C g:aD}{k:U}{x:Zl}{L:KV}{a w w' w1:Zy}{t:Zt}{d:Dk}{f:Rf}
open A.Tryq Go.RowKit
section
attribute [local go_sem] zn zg
def Lk.gZ(k:Lk)(m:Mf)(z:aD):Lk:={k with ep:=m.ep,mp:=z,bF:=m.bF,dX:=m.aQ,bM:=(m.bM:U),dB:=(m.cW:U),gR:=if 0<m.gT then(m.cW:U)else k.gR}
def Ao(tv:Zv)(b:aD)(k:Lk)(m:Mf)(x:dD KV)(w:Zy)(e:kH)(w':Zy):Prop:=
 zj (·=b) w w'/\(match x with|some L=>e=ai (cE #[])/\∃z,V (Z' w)<=z/\Je w' z L/\Jh w' b (k.gZ m z)|none=>e=kn tv)
def xmz(b k m D d)(hm:T k.m=32)(ba:m.gT<=100000000000)(w)(hb:Jh w b k)(h:Jt w D d)(wr:¬d.cN D b)(br:4<b)(hG:ip tv w)(hT:iN w):
  aK prog 104 #[K b,m.V,K D] w (Ao tv b k m (Y6 m d.L<|Ji k.m m.ep) w):=by
 have HB:=hb;have HD:=h;have bb:=wr;have HG:=hG;have HT:=hT;have HM:=hm;have bf:=hT.iE;have bs:=xh.lt hb;have N0:H<|Nw w<|aF w<|au m.G 185:=zj.E _;have BM:=xh.ex w m.G 185;clear hb h wr hG hT hm;unfold Mf.V;unfold Mf.G at*;go_enter func104.1,Tryz.ntmps104;go_wp2;generalize aF w (au #[J m.ep,J m.op,J m.bF,J m.bC,J m.bM,J m.cW,J m.gT,E m.ga,E m.aQ] 185)=w1 at*;have B1:H<|Jh w1 b k:=xh.y HB N0.o id;have T1:=HT.y N0.o id;refine(GX b k HM m.ep _ B1.o T1).mono ?_;rintro e g⟨rfl,hd,cs⟩;have G:=(N0.o.U λ_ x=>x.elim).aE hd;have L2:=xe cs;have h1:=xe (BM.y hd À);have D2:=xe (HD.y G λx hx e=>bb Á);have G2:=xe (HG.y G À);have T2:=xe (HT.y G À);clear hd cs B1 T1 BM N0 HB;obtain⟨c,z⟩:∃c,Ji k.m m.ep=c:=⟨_,O⟩;obtain⟨f,h2⟩:∃f,Y7 k.m m.ep=f:=⟨_,O⟩;have o:=xe z;have W:=xe h2;have bc:H<|T c=16:=by show _=_;rw[<-z];exact F7 _ _
 have s:H<|xh g b (Lk.G {k with ep:=m.ep} c f) 122:=by have:=L2.o;unfold Jh at this;rw[show Ji ({k with ep:=m.ep}:Lk).m ({k with ep:=m.ep}:Lk).ep=c from z,show Y7 ({k with ep:=m.ep}:Lk).m ({k with ep:=m.ep}:Lk).ep=f from h2]at this;exact this
 clear z h2 L2;have I:H<|∀w1,Nw g w1->MC (V<|Z' w) m m.ga w1/\N w1 (zq b 6)=E c/\N w1 (zq b 7)=E f:=λw1 v=>by have B:=h1.o.y v id;have k2:=s.o.y v id;exact⟨B.mc,k2.i 6 O,k2.i 7 O⟩
 have ho:H<|∀w1,Nw g w1->N w1 (zq b 4)=(fu<|some k.mp)/\aX w1 (zq b 4)=ao:=λw1 v=>⟨(s.o.y v id).i 4 O,(s.o.y v id).dS 4⟩;have g':H<|∀w1 mp,Nw g w1->MC (V<|Z' w) m m.ga (M w1 (zq b 4)<|fu<|some mp)/\N (M w1 (zq b 4)<|fu<|some mp) (zq b 6)=E c/\N (M w1 (zq b 4)<|fu<|some mp) (zq b 7)=E f:=λw1 mp v=>by have B:=(h1.o.y v id).dR (p:=zq b 4) Á<|fu<|some mp;have k2:=(s.o.y v id).H 4<|fu<|some mp;exact⟨B.mc,k2.i 6 O,k2.i 7 O⟩
 have S0:=I.o g<|zj.refl _ _;have P:H<|Nw g g.drew:=(zj.refl _ _).W;have v':H<|Calls prog 163 #[bY #[J m.ep,J m.op,J m.bF,J m.bC,J m.bM,J m.cW,J m.gT,E m.ga,E m.aQ],K D,bY #[E c,E f]] g.drew<|IA tv (Y6 m d.L c) g.drew:=xbh m D d c f bc.o ba g.drew (D2.o.y P.o λ_ _=>id) (G2.o.y P.o id)<|T2.o.y P.o id;have es:H<|Calls prog 163 #[bY #[J m.ep,J m.op,J m.bF,J m.bC,J m.bM,J m.cW,J m.gT,E m.ga,E m.aQ],K D,bY #[E c,E f]] g.drew λe a=>(∃X mp,H (Y6 m d.L c=ac X)/\e=ai (fu<|some mp)/\H (Nw g.drew a/\V g.drew.heap<=mp/\Je a mp X))\/(H (Y6 m d.L c=aw)/\e=kn tv/\H (Nw g.drew a)):=v'.o.mono λe a⟨u,F⟩=>by cases hq:Y6 m d.L c with|none=>rw[hq]at F;exact Y ⟨O,F,u⟩|some X=>rw[hq]at F;obtain⟨mp,h3,h4,h5⟩:=F;exact aJ ⟨X,mp,O,h3,u,h4,h5⟩
 have w2:H<|∀a,Y6 m d.L c=aw->Nw g.drew a->Ao tv b k m (Y6 m d.L<|Ji k.m m.ep) w (kn tv) a:=λa u F=>by unfold Ao;rw[o.o,u];exact⟨G.aE<|(P.o.aE F).U λ_ x=>x.elim,O⟩
 go_wp2;go_region_held2 (λa=>MC (V<|Z' w) m m.ga a/\N a (zq b 6)=E c/\N a (zq b 7)=E f) (first|exact S0|exact S1|exact S2)
  ((go_at_call 163;refine es.o.mono ?_;rintro e w4 (⟨X,mp,HQ,rfl,q⟩|⟨HQ,rfl,q⟩);rotate_left;(exact⟨O,w2.o _ HQ.o q.o⟩);have C:H<|Nw g w4:=P.o.aE q.o.1;have S1:=I.o _ C.o;have x4:=(ho.o _ C.o).1;have y4:=(ho.o _ C.o).2;have S2:=g'.o w4 mp C.o))
 have i:=q.o;have A5:=xe<|(G.aE<|C.o.U λ_ x=>x.elim).aE<|zj.H _ (zq b 4)<|fu<|some mp;have t:=xe<|(s.o.y C.o id).H 4<|fu<|some mp;have l:=xe<|(h1.o.y C.o id).dR (p:=zq b 4) (by show V (Z' w)≠b;omega)<|fu<|some mp;have j:mp≠b:=by have u:=i.2.1;have F:=G.Q;simp at u;omega
 have M5:=xe<|i.2.2.y (zj.H w4 (zq b 4)<|fu<|some mp) j;have S:H<|V (Z' w)<=mp:=by show _<=_;have u:=i.2.1;have F:=G.Q;simp at u;omega
 clear i q S0 S1 S2 x4 y4 I g' ho v' es w2 P C;try clear hHeld
 generalize M w4 (zq b 4) (fu<|some mp)=w5 at*;have z2:N w5 (zq (V<|Z' w) 2)=J m.bF:=l.o.i 2 O;have z4:N w5 (zq (V<|Z' w) 4)=J m.bM:=l.o.i 4 O;have z5:N w5 (zq (V<|Z' w) 5)=J m.cW:=l.o.i 5 O;have z6:N w5 (zq (V<|Z' w) 6)=J m.gT:=l.o.i 6 O;have z8:N w5 (zq (V<|Z' w) 8)=E m.aQ:=l.o.i 8 O;have b8:N w5 (zq b 8)=J k.bF:=t.o.i 8 O;have b9:N w5 (zq b 9)=E k.dX:=t.o.i 9 O;have bl:N w5 (zq b 11)=J k.bM:=t.o.i 11 O;have bm:N w5 (zq b 13)=J k.dB:=t.o.i 13 O;have bn:N w5 (zq b 14)=J k.gR:=t.o.i 14 O;have f8:=t.o.dS 8;have f9:=t.o.dS 9;have bo:=t.o.dS 11;have bp:=t.o.dS 13;have bq:=t.o.dS 14;have be:¬V (Z' w)=b:=À
 have bt:¬b=V (Z' w):=À
 have bd:¬mp=b:=j;have LE:=(((t.o.H 8<|J m.bF).H 9<|E m.aQ).H 11<|J m.bM).H 13<|J m.cW;have BE:zj (·=b) w5<|M (M (M (M w5 (zq b 8)<|J m.bF) (zq b 9)<|E m.aQ) (zq b 11)<|J m.bM) (zq b 13)<|J m.cW:=(((zj.H w5 (zq b 8) _).aE<|zj.H _ (zq b 9) _).aE<|zj.H _ (zq b 11) _).aE<|zj.H _ (zq b 13) _;have r:H (∀w1,zj (·=b) w5 w1->N w1 (zq (V<|Z' w) 2)=J m.bF/\N w1 (zq (V<|Z' w) 4)=J m.bM/\N w1 (zq (V<|Z' w) 5)=J m.cW/\N w1 (zq (V<|Z' w) 6)=J m.gT/\N w1 (zq (V<|Z' w) 8)=E m.aQ):=λw1 v=>by have B:=l.o.y v be;exact⟨B.i 2 O,B.i 4 O,B.i 5 O,B.i 6 O,B.i 8 O⟩
 have bg:=r.o w5.drew (zj.refl _ _).W;have bh:=r.o (M w5 (zq b 8)<|J m.bF).drew ((zj.refl _ _).aE<|zj.H _ (zq b 8) _).W;have bi:=r.o (M (M w5 (zq b 8)<|J m.bF) (zq b 9)<|E m.aQ).drew (((zj.refl _ _).aE<|zj.H _ (zq b 8) _).aE<|zj.H _ (zq b 9) _).W;have bj:=r.o (M (M (M w5 (zq b 8)<|J m.bF) (zq b 9)<|E m.aQ) (zq b 11)<|J m.bM).drew ((((zj.refl _ _).aE<|zj.H _ (zq b 8) _).aE<|zj.H _ (zq b 9) _).aE<|zj.H _ (zq b 11) _).W;have bk:=r.o (M (M (M (M w5 (zq b 8)<|J m.bF) (zq b 9)<|E m.aQ) (zq b 11)<|J m.bM) (zq b 13)<|J m.cW).drew (((((zj.refl _ _).aE<|zj.H _ (zq b 8) _).aE<|zj.H _ (zq b 9) _).aE<|zj.H _ (zq b 11) _).aE<|zj.H _ (zq b 13) _).W;have y:=xe LE;have n:=xe BE;clear LE BE;by_cases h0:0<m.gT
 ·have i0:(0:U)<(m.gT:U):=by omega
  have HF:H<|Ao tv b k m (Y6 m d.L<|Ji k.m m.ep) w (ai<|cE #[])<|(M (M (M (M (M w5 (zq b 8)<|J m.bF) (zq b 9)<|E m.aQ) (zq b 11)<|J m.bM) (zq b 13)<|J m.cW) (zq b 14)<|J m.cW).drew:=by
   show Ao _ _ _ _ _ _ _ _;unfold Ao;rw[o.o,HQ.o];refine⟨((A5.o.aE n.o).aE<|zj.H _ (zq b 14) _).W,O,mp,S.o,M5.o.y ((n.o.aE<|zj.H _ (zq b 14) _).W) j,?_⟩;unfold Jh;rw[show Ji (k.gZ m mp).m (k.gZ m mp).ep=c from o.o,show Y7 (k.gZ m mp).m (k.gZ m mp).ep=f from W.o];have e:(k.gZ m mp).G c f=#[E k.m,J k.tc,E k.bQ,J k.op,fu<|some mp,J m.ep,E c,E f,J m.bF,E m.aQ,E k.fD,J m.bM,J k.aQ,J m.cW,J m.cW,bG k.cQ,J k.cY]:=by simp[Lk.G,Lk.gZ,h0]
   rw[e];exact xh.H y.o 14<|J m.cW
  clear h0 y n;go_wp2;go_region_held3 (λa=>N a (zq (V<|Z' w) 2)=J m.bF/\N a (zq (V<|Z' w) 4)=J m.bM/\N a (zq (V<|Z' w) 5)=J m.cW/\N a (zq (V<|Z' w) 6)=J m.gT/\N a (zq (V<|Z' w) 8)=E m.aQ) (first|omega|omega|omega|omega|omega) (fail);all_goals (
   go_wp2;go_end0;exact HF.o)
 ·have i0:¬(0:U)<(m.gT:U):=by omega
  have HF:H<|Ao tv b k m (Y6 m d.L<|Ji k.m m.ep) w (ai<|cE #[])<|(M (M (M (M w5 (zq b 8)<|J m.bF) (zq b 9)<|E m.aQ) (zq b 11)<|J m.bM) (zq b 13)<|J m.cW).drew:=by
   show Ao _ _ _ _ _ _ _ _;unfold Ao;rw[o.o,HQ.o];refine⟨(A5.o.aE n.o).W,O,mp,S.o,M5.o.y n.o.W j,?_⟩;unfold Jh;rw[show Ji (k.gZ m mp).m (k.gZ m mp).ep=c from o.o,show Y7 (k.gZ m mp).m (k.gZ m mp).ep=f from W.o];have e:(k.gZ m mp).G c f=#[E k.m,J k.tc,E k.bQ,J k.op,fu<|some mp,J m.ep,E c,E f,J m.bF,E m.aQ,E k.fD,J m.bM,J k.aQ,J m.cW,J k.gR,bG k.cQ,J k.cY]:=by simp[Lk.G,Lk.gZ,h0]
   rw[e];exact y.o
  clear h0 y n;go_wp2;go_region_held3 (λa=>N a (zq (V<|Z' w) 2)=J m.bF/\N a (zq (V<|Z' w) 4)=J m.bM/\N a (zq (V<|Z' w) 5)=J m.cW/\N a (zq (V<|Z' w) 6)=J m.gT/\N a (zq (V<|Z' w) 8)=E m.aQ) (first|omega|omega|omega|omega|omega) (fail);all_goals (
   go_wp2;go_end0;exact HF.o)
end
def ld(m z:Zl)(q o:U)(j:aD):Lk:=⟨m,q,z,o,j,0,0,Yn,[],0,0,0,0,ao,0⟩
def yQ(F:Xv):aD->aD->aD
 |0,n=>n|f+1,n=>if n<9999/\jp F ((n+1:aD):U)≠[]then yQ F f (n+1)else n
def Z7(F:Xv)(n:aD):aD:=yQ F (9999-n) n
def IG(h:n<9999)(a:jp F ((n+1:aD):U)≠[]):Z7 F n=Z7 F (n+1):=by unfold Z7;obtain⟨f,b⟩:∃f,9999-n=f+1:=⟨9999-n-1,À⟩;grind [yQ]
theorem Mm(h:¬(n<9999/\jp F ((n+1:aD):U)≠[])):Z7 F n=n:=by unfold Z7;cases z:9999-n with|zero=>rfl|succ f=>rw[yQ,aL h]
theorem ı(F):∀(f n:aD),n<=yQ F f n/\yQ F f n<=n+f
 |0,n=>⟨zd _,zd _⟩|f+1,n=>by have:=ı F f<|n+1;grind [yQ]
theorem IF(F n):n<=Z7 F n/\(Z7 F n<=n\/Z7 F n<=9999):=by grind [ı,Z7]
open Classical in
noncomputable def Xc(k:Lk)(F:Xv):dD<|Lk×KV:=
 if jp F 0=[]then ac (k,[])
 else if vL k.m k.tc (jp F 0)then(Y6 (Ym<|jp F 0) F<|Ji k.m (Ym<|jp F 0).ep).map λL=>(k.gZ (Ym<|jp F 0) k.mp,L)
 else aw
open Classical in
noncomputable def Xr(k:Lk)(F:Xv):dD<|Lk×KV:=
 match Xc k F with
 |none=>aw
 |some (z,L1)=>match ow (λi=>jp F (i:U)) (bL z.bM+1) {z with aQ:=(Z7 F (bL z.bM):U)} L1 (Z7 F (bL z.bM)-bL z.bM)with
  |some (q,l)=>if rp q then ac (q,l)else aw
  |none=>aw
def IH(tv:Zv)(X:aD->dD (Lk×KV))(w:Zy)(e:kH)(w':Zy):Prop:=
 Nw w w'/\∃m,V (Z' w)<=m/\(match X m with
  |some (k,L)=>e=ai (bY<|k.G (Ji k.m k.ep)<|Y7 k.m k.ep)/\k.mp=m/\Je w' m L
  |none=>e=kn tv)
structure jB(F:Xv):Prop where
 nd:(F.map (·.1)).Nodup
 ne:∀p∈F,p.2.1≠[]
theorem jB.nil:jB []:=⟨List.nodup_nil,Â⟩
theorem ztk{v x}:x∈(ol F k v).map (·.1)↔x=k\/x∈F.map (·.1):=by induction F<;>grind [ol]
theorem ztj{x}(h:x∈(nS F k).map (·.1)):x∈F.map (·.1):=by obtain⟨p,a,rfl⟩:=Xe.1 h;grind [LO]
def xt1(h:(F.map (·.1)).Nodup)(k v):((ol F k v).map (·.1)).Nodup:=by induction F<;>grind [ol,ztk]
def xt0(h:(F.map (·.1)).Nodup)(k):((nS F k).map (·.1)).Nodup:=by induction F<;>grind [nS,ztj]
theorem Ĩ(h:k∉F.map (·.1)):Xm F k=aw:=by induction F<;>grind [Xm]
theorem Į(k v):Xm (ol F k v) k=ac v:=by induction F<;>grind [ol,Xm]
def QH(h:(F.map (·.1)).Nodup)(k):Xm (nS F k) k=aw:=by induction F<;>grind [nS,Ĩ,Xm]
theorem Eu(h:jB F)(n f k):jp (Vm F n f) k=if k=n then f.1 else jp F k:=by by_cases e:k=n;subst e;rw[aT O];unfold Vm;by_cases a:f.1=[];rw[aT a];unfold jp;rw[QH h.nd];grind;grind [jp,Į];grind [jp,YO]
def Ģ(h:jB F)(n k):jp (nS F n) k=if k=n then []else jp F k:=by by_cases e:k=n;subst e;rw[aT O];unfold jp;rw[QH h.nd];rfl;grind [jp,YL]
def jB.del(h:jB F)(n):jB<|nS F n:=⟨xt0 h.nd n,λp a=>h.ne p<|LO a⟩
def jB.np(h:jB F)(n f):jB<|Vm F n f:=by unfold Vm;by_cases a:f.1=[];rw[aT a];exact h.del n;rw[aL a];refine⟨xt1 h.nd n f,λp b=>?_⟩;obtain rfl|b:=YA b;exact a;exact h.ne p b
def jB.L9(h:jB F):k∈F.map (·.1)↔jp F k≠[]:=by constructor;intro a;have⟨v,z⟩:=Wr.1<|zn0 a;have:=h.ne _<|Ve z;grind [jp];intro b;cases z:Xm F k with|none=>grind [jp]|some v=>exact Xe.2 ⟨_,Ve z,O⟩
def jB.Bp(h:jB F):k∈Zk F↔jp F k≠[]:=PN.trans h.L9
theorem xc9(k v):bO (ol F k v)+(T (jp F k):U)=bO F+(T v.1:U):=by induction F<;>grind [ol,bO,jp,Xm]
theorem Ī(k):bO (nS F k)+(T (jp F k):U)=bO F:=by induction F<;>grind [nS,jp,Xm,bO]
theorem yP(k f):bO (Vm F k f)+(T (jp F k):U)=bO F+(T f.1:U):=by grind [Vm,Ī,xc9]
section
variable{m:bA UInt8}{l j:KV}{X:bA<|List UInt8}{q o:Lk}{z first:bA UInt8}
end
section
attribute [local go_sem] zn zg vD
def Sr.ex(r S l:U)(m:Zl)(D z:aD):Sr:=⟨S,l,D,⟨r,z,[],aw⟩,m,0,Yn,0,aw⟩
def Ġ(d b a m)(F:0<=d)(G:d<=100000)(hd:1<=b)(I:b<=100000)(h1:0<=a)(h2:a<=999)(hx:T m=32)(w):
  aK prog 31 #[J d,J b,J a,E m] w λe w'=>∃B D u,e=ai (cE #[K B,J 0])/\V (Z' w)<=B/\V (Z' w)<=D/\V (Z' w)<=u/\aP (V<|Z' w) w w'/\Vq w' B (Sr.ex d b a m D u):=by
 go_enter func31.1,Tryz.ntmps31;go_wp2;refine(xsj d _).mono ?_;rintro e w1⟨rfl,l,j,k⟩;have p:=j;have r:=k;have o:=xe l;clear j k l;go_wp2;have y:xh (aF w1<|au #[J b,J a,K<|V (Z' w)+1,ak ⟨#[]⟩,J 0,ak ⟨#[]⟩,J 0,aU aw] 81) (V<|Z' w1) #[J b,J a,K<|V (Z' w)+1,ak ⟨#[]⟩,J 0,ak ⟨#[]⟩,J 0,aU aw] 81:=xh.ex _ _ _;have t:=r.y (zj.E<|au #[J b,J a,K<|V (Z' w)+1,ak ⟨#[]⟩,J 0,ak ⟨#[]⟩,J 0,aU aw] 81) λ_ _=>id;have q:=p.alloc zbh<|au #[J b,J a,K<|V (Z' w)+1,ak ⟨#[]⟩,J 0,ak ⟨#[]⟩,J 0,aU aw] 81;generalize aF w1 (au #[J b,J a,K<|V (Z' w)+1,ak ⟨#[]⟩,J 0,ak ⟨#[]⟩,J 0,aU aw] 81)=w2 at*;refine(þ _).mono ?_;rintro e n⟨rfl,i⟩;have g:=y.Y i;have ho:=g.i 3 O;have wr:=g.i 4 O;have S:=g.i 5 O;have cs:=g.i 6 O;have g':=g.dS 3;have v':=g.dS 4;have W:=g.dS 5;have X:=g.dS 6;have f:V (Z' w)<=V (Z' w1):=zbh
 have C:V (Z' w1)≠V (Z' w)+1/\V (Z' w1)≠V (Z' w):=zbh
 have v:∃B D u,ai (cE #[K (V<|Z' w1),J 0])=ai (cE #[K B,J 0])/\V (Z' w)<=B/\V (Z' w)<=D/\V (Z' w)<=u/\aP (V<|Z' w) w (M (M (M (M n (zq (V<|Z' w1) 3)<|E m) (zq (V<|Z' w1) 4)<|J 0) (zq (V<|Z' w1) 5)<|E Yn) (zq (V<|Z' w1) 6)<|J 0)/\Vq (M (M (M (M n (zq (V<|Z' w1) 3)<|E m) (zq (V<|Z' w1) 4)<|J 0) (zq (V<|Z' w1) 5)<|E Yn) (zq (V<|Z' w1) 6)<|J 0) B (Sr.ex d b a m D u):=by refine⟨V<|Z' w1,V (Z' w)+1,V<|Z' w,O,f,À,zd _,?_,(((g.H 3<|E m).H 4<|J 0).H 5<|E Yn).H 6<|J 0,?_,λs e=>Æ⟩;exact((((Xs q i).setCell f _).setCell f _).setCell f _).setCell f _;have z:zj (·=V (Z' w1)) n<|M (M (M (M n (zq (V<|Z' w1) 3)<|E m) (zq (V<|Z' w1) 4)<|J 0) (zq (V<|Z' w1) 5)<|E Yn) (zq (V<|Z' w1) 6)<|J 0:=(((zj.H n (zq (V<|Z' w1) 3) _).aE<|zj.H _ (zq (V<|Z' w1) 4) _).aE<|zj.H _ (zq (V<|Z' w1) 5) _).aE<|zj.H _ (zq (V<|Z' w1) 6) _;refine(t.y (zj.J i) λ_ _=>id).y z λx P e=>?_;have e:=e;obtain h|h|⟨c,L,_⟩:=P;omega;grind;grind
 go_wp2;go_ret2;exact v
end
section
attribute [local go_sem] zn zg
def wR(k v:Zl)(s:ez×KV)(q:Zl×Zl):ez×KV:=
 if s.1=ao/\k<=q.1 then(ay,if q.1=k then s.2++[(k,v)]else s.2++[(k,v)]++[q])else(s.1,if q.1=k then s.2 else s.2++[q])
def Ev(l:KV)(k v:Zl)(G:ez):ez×KV:=l.foldl (wR k v) (G,[])
def C0(l:KV)(k v:Zl)(G:ez):KV:=if(Ev l k v G).1=ao then(Ev l k v G).2++[(k,v)]else(Ev l k v G).2
end
section
attribute [local go_sem] zn zg
def Sr.uF(r:Sr)(s:kE)(n:aD):Mf:=⟨s.ep,r.op,r.bF,bL s.bC,bL s.aQ,fE s.dB,n,[],r.bQ⟩
def Sr.fF(r:Sr)(s:kE):bA Zl:=Y9 (r.uF s (T (iF s.L))) (Ji r.m s.ep)<|Ys<|iF s.L
def Sr.mf(r:Sr)(s:kE):Mf:={r.uF s (T (iF s.L)) with ga:=J9<|r.fF s}
def Sr.kq(r:Sr)(s:kE):dD U×Sr:=
 if s.bC=999 then(ac 10,r)
 else if 16384<T (iF s.L)\/r.d.bU-bO r.d.L<(r.kG (T (iF s.L)):U)then(ac 9,r)
 else if(({r with sn:=ac {s with bC:=s.bC+1}}:Sr).mM (r.mf s) (r.fF s).flatten<|(r.mf s).dW<|Y7 r.m s.ep).1=ay then
  (ac 0,{r with d:=(({r with sn:=ac {s with bC:=s.bC+1}}:Sr).mM (r.mf s) (r.fF s).flatten<|(r.mf s).dW<|Y7 r.m s.ep).2,sn:=ac {s with bC:=s.bC+1,bM:=s.aQ,dB:=(fE s.dB:U)}})
 else(aw,{r with d:=(({r with sn:=ac {s with bC:=s.bC+1}}:Sr).mM (r.mf s) (r.fF s).flatten<|(r.mf s).dW<|Y7 r.m s.ep).2,sn:=ac {s with bC:=s.bC+1}})
def Sr.iG(r:Sr)(s:kE):dD U×Sr:=
 if(r.fm s).1=ac 0 then(r.fm s).2.kq (r.ik s)else r.fm s
def yO{cv}(B r s w)(h:Vq w B r)(hs:r.sn=ac s)(d2:pH B r)(cw:∀r1,r.fm s=(ac 0,r1)->pH B r1/\T r1.d.L+2<1000000/\rY (r.ik s).L/\T (r.ik s).L<=5000000/\0<=(r.ik s).bC/\(r.ik s).bC<=999/\T (jp r1.d.L<|fE (r.ik s).dB)<=900000)(hG:nD cv tv w)(hP:∀c∈s.P,qX c)(dx:s.ep<=1000000):
  aK prog 70 #[K B] w λe w'=>∃a r',r.iG s=(a,r')/\e=FZ cv a/\Zd B r w r' w':=by
 have HH:=h;have HK:=d2;have HG:=hG;have HS:=hs;have HP:=hP;have dg:=cw;go_enter func70.1,Tryz.ntmps70;go_wp2;refine(Iu<|Qq B r s _ HH HS HK HG HP).mono ?_;rintro e w1 (⟨v,r1,hw,rfl,bx⟩|⟨r1,hw,rfl,bx⟩);rotate_left;have HR:H<|r.iG s=(aw,r1):=by show _=_;unfold Sr.iG;rw[hw,aL Â]
 exact⟨O,aw,r1,HR.o,O,bx⟩;have HW:=hw;have T1:=bx;by_cases hv:¬v=0
 ·have HR:H<|r.iG s=(ac v,r1):=by show _=_;unfold Sr.iG;rw[HW,aL É]
  have en:bR (v=0)=ao:=by simpa using hv
  go_wp2;go_ret;exact⟨_,_,HR.o,O,T1⟩
 obtain rfl:v=0:=À
 have i:=lN HS HW;have G1:=HG.y T1.y HK.cN;obtain⟨du,cs,bh,ci,bj,c0,cr⟩:=dg _ HW;have hd:H<|r.iG s=r1.kq (r.ik s):=by show _=_;unfold Sr.iG;rw[HW,aT O]
 have cq:(r.ik s).ep<=1000000:=by unfold Sr.ik;split<;>exact dx
 obtain⟨b,d3⟩:∃b,r.ik s=b:=⟨_,O⟩;rw[d3]at i bh ci bj c0 cr hd cq;have n:=du;have bn:=bh;have b4:T r1.d.L+2<1000000/\T (jp r1.d.L<|fE b.dB)<=900000:=⟨cs,cr⟩;have c7:N w1 (zq B 7)=K b.S:=(T1.dI.bT.i 7 O).trans (by simp[Sr.G,Sr.my,i]);have m:=(T1.dI.fP b i).1;have d6:N w1 (zq b.S 6)=J b.bC:=m.bT.i 6 O;have d0:N w1 (zq b.S 0)=(fu<|some b.mp):=m.bT.i 0 O;have dc:=HG;by_cases h9:b.bC=999
 ·have HR:H<|r.iG s=(ac 10,r1):=by show _=_;rw[hd.o];unfold Sr.kq;rw[aT h9]
  rw[h9]at d6;go_wp2;go_ret;exact⟨_,_,HR.o,O,T1⟩
 have H9:=h9;have ek:bR (b.bC=999)=ao:=by simpa using h9
 go_wp2;refine(rE b.mp b.L ci bn _ (T1.dI.fP b i).1.jS).mono ?_;rintro e w2⟨rfl,co⟩;have T2:=T1.aE<|Zd.nw T1.dI<|zj.J co;have G2:=G1.y (S:=λ_=>False) (zj.J co) λ_ x=>x.elim;obtain⟨x,hx⟩:∃x,iF b.L=x:=⟨_,O⟩;have HX:=hx;have eo:T x<=250000000:=by have:=qW bn (ks:=Vv b.L) λk hk=>(bn.Qg hk).2;rw[LX]at this;rw[<-hx];show(List.flatMap (oT b.L)<|Vv b.L).length<=_;omega
 rw[hx];by_cases cp:16384<T x
 ·have HR:H<|r.iG s=(ac 9,r1):=by show _=_;rw[hd.o];unfold Sr.kq;rw[aL H9,aT<|aJ<|by rw[HX];omega]
  have cl:(16384:U)<(T x:U):=À
  go_wp2;go_quiet (fail);have T3:Zd B r w r1<|w2.drewN nq:=T2.aE<|Zd.nw T2.dI (zj.refl _ _).eL;go_wp2;go_ret;exact⟨_,_,HR.o,O,T3⟩
 have eg:=cp;have cl:¬(16384:U)<(T x:U):=À
 have ec:bR ((16384:U)<(T x:U))=ao:=by simpa using cl
 have A2:=T2.dI.y (S:=λ_=>False) (zj.refl _ _).W λ_ _=>id;have g:∀w1,Nw w2 w1->N w1 (zq B 2)=K r1.D:=λw1 X=>(T2.dI.bT.y X id).i 2 O;have S0:=g w2<|zj.refl _ _;have cy:r1.kG (T x)<=1000000:=by unfold Sr.kG;split<;>omega
 have cc:=uZ B r1 x À w2.drew A2;have b5:=YK r1.D r1.d w2.drew A2.fA n.fW (by have:=n.bU;omega) (by have:=n.bU;omega);obtain⟨rf,cx⟩:∃rf,r1.kG (T x)=rf:=⟨_,O⟩;obtain⟨fr,ct⟩:∃fr,r1.d.bU-bO r1.d.L=fr:=⟨_,O⟩;have es:=cx;have h3:=ct;rw[cx]at cc cy;rw[ct]at b5;go_wp2;go_region_held3 (λw'=>N w' (zq B 2)=K r1.D) (first|exact S0|exact I)
  (first
   |(go_at_call 112;refine cc.mono ?_;rintro e w3⟨rfl,d4⟩;obtain rfl:=d4)
   |(go_at_call 97;refine b5.mono ?_;rintro e l⟨rfl,dw⟩;have N4:Nw w2 l:=(zj.refl _ _).W.aE<|zj.J dw;have I:=g _ N4))
 have T4:=T2.aE<|Zd.nw T2.dI N4;have G4:=G2.y N4 λ_ x=>x.elim;try clear hHeld
 by_cases cz:fr<(rf:U)
 ·have HR:H<|r.iG s=(ac 9,r1):=by show _=_;rw[hd.o];unfold Sr.kq;rw[aL H9,aT<|Y<|by rw[HX,h3,es];exact cz]
  go_wp2;go_ret;exact⟨_,_,HR.o,O,T4⟩
 have eh:=cz;have ee:(rf:U)<=fr:=À
 have g:∀w1,Nw l w1->N w1 (zq B 3)=E r1.m/\N w1 (zq B 4)=J r1.bF/\N w1 (zq B 5)=E r1.bQ/\N w1 (zq B 6)=J r1.op/\N w1 (zq b.S 2)=J b.ep:=λw1 X=>by have m:=T4.dI.bT.y X id;have k2:=(T4.dI.fP b i).1.bT.y X id;exact⟨m.i 3 O,m.i 4 O,m.i 5 O,m.i 6 O,k2.i 2 O⟩
 have N0:Nw l l.drew:=(zj.refl _ _).W;have NA:Nw l<|aF l.drew<|au #[ak ⟨#[]⟩,ak ⟨#[]⟩] 120:=N0.aE<|zj.E _;have S0:=g l<|zj.refl _ _;have SA:=g _ NA;have TA:=(G4.y N0 λ_ x=>x.elim).uV;have TB:=(G4.y NA λ_ x=>x.elim).uV;have XA:xh (aF l.drew<|au #[ak ⟨#[]⟩,ak ⟨#[]⟩] 120) (V<|Z' l) #[ak ⟨#[]⟩,ak ⟨#[]⟩] 120:=xh.ex l.drew _ _;go_wp2;go_region_held3 (λw'=>N w' (zq B 3)=E r1.m/\N w' (zq B 4)=J r1.bF/\N w' (zq B 5)=E r1.bQ/\N w' (zq B 6)=J r1.op/\N w' (zq b.S 2)=J b.ep) (first|exact S0|exact SA|exact I|exact SB|exact SC)
  (first
   |(go_at_call 103;refine(FV r1.m r1.bQ (r1.bF:U) (r1.op:U) b.ep n.m _ TA).mono ?_;rintro e F⟨rfl,bb⟩;have N5:Nw l F:=N0.aE<|zj.J bb;have I:=g _ N5;have NB:Nw l<|aF F<|au #[ak ⟨#[]⟩,ak ⟨#[]⟩] 120:=N5.aE<|zj.E _;have SB:=g _ NB;have NC:Nw l<|aF F<|au #[E<|Ji r1.m b.ep,E<|Y7 r1.m b.ep] 120:=N5.aE<|zj.E _;have SC:=g _ NC;have X6:xh (aF F<|au #[E<|Ji r1.m b.ep,E<|Y7 r1.m b.ep] 120) (V<|Z' F) #[E<|Ji r1.m b.ep,E<|Y7 r1.m b.ep] 120:=xh.ex F _ _;have c1:=N5.Q)
   |(go_at_call 103;refine(FV r1.m r1.bQ (r1.bF:U) (r1.op:U) b.ep n.m _ TB).mono ?_;rintro e F⟨rfl,bb⟩;have N5:Nw l F:=NA.aE<|zj.J bb;have I:=g _ N5;have X5:=XA.Y bb;have d8:=X5.i 0 O;have d9:=X5.i 1 O;have ea:=X5.dS 0;have eb:=X5.dS 1;have NC:Nw l<|M (M F (zq (V<|Z' l) 0)<|E<|Ji r1.m b.ep) (zq (V<|Z' l) 1)<|E<|Y7 r1.m b.ep:=zj.cZ (zj.cZ N5 (zd _)<|zj.H _ (zq (V<|Z' l) 0) _) (zd _)<|zj.H _ (zq (V<|Z' l) 1) _;have SC:=g _ NC;have X6:xh (M (M F (zq (V<|Z' l) 0)<|E<|Ji r1.m b.ep) (zq (V<|Z' l) 1)<|E<|Y7 r1.m b.ep) (V<|Z' l) #[E<|Ji r1.m b.ep,E<|Y7 r1.m b.ep] 120:=(X5.H 0 _).H 1 _;have c1:=zd (V<|Z' l)))
 all_goals (
  have T6:=T4.aE<|Zd.nw T4.dI NC;have G6:=G4.y NC λ_ x=>x.elim;have K6:=X6;have b6:∀x,r1.cN B x->x<V (Z' l):=λx hx=>Sr.fg T4.dI hx;have bp:=T6;have dd:=G6;have df:=K6;try clear NB
  try clear SB
  try clear X5
  try clear d8
  try clear d9
  try clear ea
  try clear eb
  try clear hHeld)
 have bl:¬r1.cN B (V<|Z' F):=λx=>by have:=b6 _ x;omega
 generalize aF F (au #[E<|Ji r1.m b.ep,E<|Y7 r1.m b.ep] 120)=w6 at*;generalize V (Z' F)=kb at*;rotate_left;have bl:¬r1.cN B (V<|Z' l):=λx=>by have:=b6 _ x;omega
 generalize(M F (zq (V<|Z' l) 0)<|E<|Ji r1.m b.ep).setCell (zq (V<|Z' l) 1) (E<|Y7 r1.m b.ep)=w6 at*;generalize V (Z' l)=kb at*;all_goals (
  go_wp2;refine(Bm B r1 b (T x) _ bp.dI i).mono ?_;rintro e w7⟨rfl,bt⟩;have NV:vJ r1 b (T x)=(r1.uF b (T x)).G:=by have:=(n.fP b i).1;simp only[vJ,Mf.G,Sr.uF];rw[p8 bj,p8 this];rfl
  rw[NV];have T7:=bp.aE<|Zd.nw bp.dI<|zj.J bt;have G7:=dd.y (S:=λ_=>False) (zj.J bt) λ_ x=>x.elim;have K7:=xh.Y df bt;obtain⟨f,cu⟩:∃f,r1.uF b (T x)=f:=⟨_,O⟩;have ho:=cu;rw[cu];unfold Mf.G;go_wp2)
 all_goals (
  have N8:Nw w7<|aF w7<|au f.G 185:=zj.E _;have g':xh (aF w7<|au f.G 185) (V<|Z' w7) f.G 185:=xh.ex _ _ _;have T8:=T7.aE<|Zd.nw T7.dI N8;have G8:=G7.y N8 λ_ x=>x.elim;have K8:=K7.E<|au f.G 185;have dz:kb≠V (Z' w7):=by have:=K7.lt;omega
  have bm:¬r1.cN B (V<|Z' w7):=λx=>by have:=Sr.fg T7.dI x;omega
  have b9:=T7.y.Q;clear N8 T7 G7 K7;unfold Mf.G at g' T8 G8 K8;generalize aF w7 (au _ 185)=w8 at*;generalize V (Z' w7)=mb at*;obtain⟨C,bu⟩:∃C,Ji r1.m b.ep=C:=⟨_,O⟩;obtain⟨u,bz⟩:∃u,Y7 r1.m b.ep=u:=⟨_,O⟩;have da:=bu;have cd:=bz;have db:H<|T C=16:=by show _=_;rw[<-bu];exact F7 _ _
  have dk:H<|T u=32:=by show _=_;rw[<-bz];exact Ek _ _
  rw[bu,bz]at K8⊢;have g:∀w1,Nw w8 w1->MC mb f f.ga w1/\N w1 (zq kb 0)=E C/\N w1 (zq kb 1)=E u:=λw1 X=>by have m:=g'.y X id;have k2:=K8.y X id;exact⟨m.mc,k2.i 0 O,k2.i 1 O⟩
  have S0:=g w8<|zj.refl _ _;have N0:Nw w8 w8.drew:=(zj.refl _ _).W;obtain⟨dt,ei,ej⟩:=CY x;have v':(∀y∈Ys x,T y<=64)/\T (Ys x)<=256:=⟨dt,À⟩;go_region_held3 (λw'=>MC mb f f.ga w'/\N w' (zq kb 0)=E C/\N w' (zq kb 1)=E u) (first|exact S0|exact I)
   (first
    |(go_at_call 115;refine(QE x À _).mono ?_;rintro e w9⟨v9,rfl,bw,d1⟩;have N9:Nw w8 w9:=N0.aE d1;have I:=g _ N9;have ds:=xe<|ć bw)
    |(go_at_call 114;refine(Ă f (Ys x) v9 C u db.o (λy D=>by have:=v'.1 y D;omega) (by have:=v'.2;omega) _ ds.o).mono ?_;rintro e c4⟨be,rfl,bc,bg⟩;have wr:Nw w8 c4:=N9.aE bg;have I:=g _ wr;have dp:=xe bc)))
 all_goals (
  have em:=N9.Q;have ef:=bg.Q;have cf:=T8.aE<|Zd.nw T8.dI wr;have b2:=G8.y wr λ_ x=>x.elim;have b0:=g'.y wr id;have dl:=K8.y wr id;have ed:=g'.lt;have el:=Sr.fg T8.dI<|Y<|Y ⟨b,i,aJ O⟩;have G:(∀y∈Y9 f C (Ys x),T y<=64)/\T (Y9 f C<|Ys x)<=256:=⟨Qo v'.1,by rw[Ah];exact v'.2⟩;have bo:H<|r1.fF b=Y9 f C (Ys x):=by show _=_;unfold Sr.fF;rw[HX,ho,da]
  have bf:c4.ownsRow (V<|Z' w9) 9 1 be (T (Y9 f C<|Ys x))<|(Y9 f C<|Ys x).map qY:=by show World.ownsRow _ _ _ _ _ _ _;rw[Ah];exact dp.o
  generalize Y9 f C (Ys x)=ps at*;try clear hHeld
  go_wp2;refine(ą ps be G.2 (λy D=>by have:=G.1 y D;omega) _ b2.uV bf).mono ?_;rintro e er⟨rfl,t⟩;have cg:=cf.aE<|Zd.nw cf.dI<|zj.J t;have c5:=b2.y (S:=λ_=>False) (zj.J t) λ_ x=>x.elim;have ih:=b0.Y t;have dm:=dl.Y t;have dq:=Ie bf (zj.J (S:=λ_=>False) t) λ_ _ x=>x;have bi:=IB ps G.2;go_wp2;refine(Id (st<|J9 ps) _).mono ?_;rintro e z⟨rfl,c2⟩;obtain rfl:=c2;have q7:=ih.i 7 O;have p7:=ih.dS 7;have c3:=(cg.dI.fP b i).1;have q6:N z (zq b.S 6)=J b.bC:=c3.bT.i 6 O;have p6:=c3.bT.dS 6;have dv:b.S≠mb:=λe=>bm<|Y<|Y ⟨b,i,aJ e.symm⟩;have cj:¬mb=b.S:=λe=>dv e.symm;go_wp2)
 all_goals (
  have TA:=cg.cZ b9 bm<|zj.H _ (zq mb 7)<|E<|J9 ps;have ch:Zd B r w {r1 with sn:=ac {b with bC:=b.bC+1}}<|M (M z (zq mb 7)<|E<|J9 ps) (zq b.S 6)<|J<|b.bC+1:=
   TA.aE (Zd.sM (s:=b) (s':={b with bC:=b.bC+1}) TA.dI i O O O O O O)
  have BB:zj (λy=>y=mb\/y=b.S) z<|M (M z (zq mb 7)<|E<|J9 ps) (zq b.S 6)<|J<|b.bC+1:=
   ((zj.H z (zq mb 7) _).U λy D=>aJ D).aE ((zj.H _ (zq b.S 6) _).U λy D=>Y D)
  have b3:=c5.y BB (λy D=>by obtain rfl|rfl:=D;have:=dc.iE;have:=b9;omega;exact n.cN _<|Y<|Y ⟨b,i,aJ O⟩);have b1:xh (M (M z (zq mb 7)<|E<|J9 ps) (zq b.S 6)<|J<|b.bC+1) mb _ 185:=(ih.H 7 _).dR (p:=zq b.S 6) cj _;have dy:kb≠b.S:=λe=>bl<|Y<|Y ⟨b,i,aJ e⟩;have dn:xh (M (M z (zq mb 7)<|E<|J9 ps) (zq b.S 6)<|J<|b.bC+1) kb _ 120:=(dm.dR (p:=zq mb 7) dz _).dR (p:=zq b.S 6) dy _;have dr:=Ie dq BB (λq hq hx=>À);generalize(M z (zq mb 7)<|E<|J9 ps).setCell (zq b.S 6) (J<|b.bC+1)=w13 at*;have b8:H<|r1.mf b={f with ga:=J9 ps}:=by show _=_;unfold Sr.mf;rw[bo.o,HX,ho]
  have b7:H<|T f.aQ=32:=by show _=_;rw[<-ho];exact n.bQ
  have bk:H<|(f.cW:U)=(fE b.dB:U):=by show _=_;rw[<-ho];rfl
  have c9:H<|(f.bM:U)=b.aQ:=by show _=_;rw[<-ho];show((bL b.aQ:aD):U)=_;exact p8 (n.fP b i).1
  have de:pH B {r1 with sn:=ac {b with bC:=b.bC+1}}:=n.bC i _;have ca:∀y,Sr.cN B {r1 with sn:=ac {b with bC:=b.bC+1}} y->r1.cN B y:=λy D=>(wL i).1 D;obtain⟨P,bv⟩:∃P,Sr.mM {r1 with sn:=ac {b with bC:=b.bC+1}} {f with ga:=J9 ps} ps.flatten (Mf.dW {f with ga:=J9 ps} u)=P:=⟨_,O⟩;have di:H<|P.1=ay->r.iG s=(ac 0,{r1 with d:=P.2,sn:=ac {b with bC:=b.bC+1,bM:=b.aQ,dB:=(fE b.dB:U)}}):=λhx=>by rw[hd.o];unfold Sr.kq;rw[HX,aL H9,aL<|by rw[h3,es];omega,b8.o,bo.o,cd,bv,aT hx]
  have dh:H<|P.1=ao->r.iG s=(aw,{r1 with d:=P.2,sn:=ac {b with bC:=b.bC+1}}):=λhx=>by rw[hd.o];unfold Sr.kq;rw[HX,aL H9,aL<|by rw[h3,es];omega,b8.o,bo.o,cd,bv,aL Á]
  have cb:T ps.flatten<=16384:=by have h1:=Iv G.1;have h2:=G.2;show _<=_;omega
  have CL:∀W,Vq W B {r1 with sn:=ac {b with bC:=b.bC+1}}->nD cv tv W->aK prog 118 #[K B,bY #[J f.ep,J f.op,J f.bF,J f.bC,J f.bM,J f.cW,J f.gT,E<|J9 ps,E f.aQ],E ps.flatten,E<|Mf.dW {f with ga:=J9 ps} u] W λe w'=>(e=ai (cE #[])/\P.1=ay/\Zd B {r1 with sn:=ac {b with bC:=b.bC+1}} W {r1 with d:=P.2,sn:=ac {b with bC:=b.bC+1}} w')\/(e=kn cv/\P.1=ao/\Zd B {r1 with sn:=ac {b with bC:=b.bC+1}} W {r1 with d:=P.2,sn:=ac {b with bC:=b.bC+1}} w'):=λW hA hG=>by
   have:=Ep (uX B {r1 with sn:=ac {b with bC:=b.bC+1}} {f with ga:=J9 ps} ps.flatten (Mf.dW {f with ga:=J9 ps} u) W hA de hG b4.1 (by have:=uf {f with ga:=J9 ps} u bi b7.o;omega) (by
    show(jp r1.d.L ((f.cW:aD):U)).length+_<=_;rw[bk.o];have:=b4.2;have:=cb;omega) (by
    show f.cW<=_;have:fE b.dB<=10002:=by unfold fE;split<;>omega
    have:=bk.o;omega))
   rw[bv]at this;exact this
  have CS:∀W,iN W->aK prog 120 #[bY #[J f.ep,J f.op,J f.bF,J f.bC,J f.bM,J f.cW,J f.gT,E<|J9 ps,E f.aQ],bY #[E C,E u]] W λe w'=>e=ai (E<|Mf.dW {f with ga:=J9 ps} u)/\aP (V<|Z' W) W w':=λW hT=>
   uY {f with ga:=J9 ps} C u (by have:=dk.o;omega) bi b7.o W hT
  have g:∀w1,zj (λy=>Sr.cN B {r1 with sn:=ac {b with bC:=b.bC+1}} y) w13 w1->MC mb f (J9 ps) w1/\N w1 (zq kb 0)=E C/\N w1 (zq kb 1)=E u:=λw1 X=>by have m:=b1.y X λx=>bm<|ca _ x;have k2:=dn.y X λx=>bl<|ca _ x;exact⟨m.mc,k2.i 0 O,k2.i 1 O⟩
  have N0:Nw w13 w13.drew:=(zj.refl _ _).W;have O0:w13.drew.ownsRow (V<|Z' w9) 9 1 be (T ps)<|ps.map qY:=dr;have S0:=g w13<|zj.refl _ _;generalize Mf.dW {f with ga:=J9 ps} u=sld at*;go_region_held2 (λw'=>MC mb f (J9 ps) w'/\N w' (zq kb 0)=E C/\N w' (zq kb 1)=E u) (first|exact S0|exact I)
   (first
    |(go_at_call 119;refine(Ĉ ps be (by have:=G.2;omega) (by have:=cb;omega) _ O0).mono ?_;rintro e d5⟨rfl,cm⟩;have bq:Nw w13 d5:=N0.aE<|zj.J cm;have I:=g _<|bq.U λ_ x=>x.elim;have c6:=xe<|b3.y bq λ_ x=>x.elim)
    |(go_at_call 120;refine(CS _ c6.o.uV).mono ?_;rintro e d7⟨rfl,cn⟩;have ba:Nw w13 d7:=bq.aE<|zj.J cn;have I:=g _<|ba.U λ_ x=>x.elim;have c8:=b3.y ba λ_ x=>x.elim;have br:=xe<|ch.aE<|Zd.nw ch.dI ba)
    |(go_at_call 118;refine(CL _ br.o.dI c8).mono ?_;rintro e w16 (⟨rfl,hr,o⟩|⟨rfl,hr,o⟩);rotate_left;(exact⟨O,aw,_,dh.o hr,O,br.o.aE o⟩);have ce:=hr;have bs:=br.o.aE o;have I:=g _<|(ba.U λ_ x=>x.elim).aE o.y)))
 all_goals (
  obtain⟨⟨-,-,-,-,q4,q5,-⟩,-⟩:=I;have bd:=(bs.dI.fP {b with bC:=b.bC+1} O).1;have q3:N w16 (zq b.S 3)=J b.bM:=bd.bT.i 3 O;have q6:N w16 (zq b.S 5)=J b.dB:=bd.bT.i 5 O;have p3:aX w16 (zq b.S 3)=ao:=bd.bT.dS 3;have p5:aX w16 (zq b.S 5)=ao:=bd.bT.dS 5;have TU:=Zd.sM (j:=3) (v:=J f.bM) (s:={b with bC:=b.bC+1}) (s':={b with bC:=b.bC+1,bM:=b.aQ}) bs.dI O (by rw[c9.o];rfl) O O O O O;have e1:=Zd.sM (j:=5) (v:=J f.cW) (s:={b with bC:=b.bC+1,bM:=b.aQ}) (s':={b with bC:=b.bC+1,bM:=b.aQ,dB:=(fE b.dB:U)}) TU.dI O (by rw[bk.o];rfl) O O O O O;have TW:=(bs.aE TU).aE e1;have TX:Zd B r w {r1 with d:=P.2,sn:=ac {b with bC:=b.bC+1,bM:=b.aQ,dB:=(fE b.dB:U)}} (M (M w16 (zq b.S 3)<|J f.bM) (zq b.S 5)<|J f.cW).drew:=TW.aE<|Zd.nw TW.dI (zj.refl _ _).W;have dj:=di.o ce;try clear hHeld
  go_wp2;go_region_with (fail);all_goals (
   go_wp2;go_ret;exact⟨_,_,dj,O,TX⟩))
end
def tI(l:KV):Prop:=l.Pairwise λp q=>p.1<q.1
def gG(L:KV):KV:=(Vv L).map λk=>(k,(Xg L k).getD [])
def zwz{a b:Zl}(h:¬b<=a):a<b:=Á
def xac{a b:Zl}(h:a<=b)(c:a≠b):a<b:=zwz λd=>c<|List.le_antisymm h d
def QI(L):(Vv L).Perm (L.map (·.1)):=Xo _ _
theorem xp7(h:Nd L):(Vv L).Pairwise (·<·):=by have d:(Vv L).Pairwise λa b=>Bb a b=ay:=Oo (λa b c d e=>Á) (λa b=>Á) _;exact(d.and<|(QI L).nodup_iff.2 h).imp λ⟨a,b⟩=>xac Á b
theorem QN(L):(gG L).map (·.1)=Vv L:=by unfold gG;rw[Wj];simp[zc1]
def IJ(h:Nd L):tI<|gG L:=by grind [tI,gG,xp7]
def İ(f:Zl->Zl)(x):∀z:bA Zl,Xg (z.map λk=>(k,f k)) x=if x∈z then ac (f x)else aw
 |[]=>by simp[Xg]|k::z=>by simp only[Js,Xg,jc];by_cases h:x=k;grind;rw[aL h,İ f x z];simp[h]
theorem zye(h:x∈L.map (·.1)):∃v,Xg L x=ac v:=by
 induction L with
 |nil=>cases h
 |cons p L I=>have⟨k,v⟩:=p;unfold Xg;by_cases e:x=k;simp_all;grind
theorem II(L x):Xg (gG L) x=Xg L x:=by unfold gG;rw[İ];grind [zye,Ē,PJ]
def tI.nd{l}(h:tI l):Nd l:=by grind [Nd,tI]
def tI.sR{p l}(h:tI (p::l))(hx:x<=p.1):Xg l x=aw:=by refine PJ λa=>?_;obtain⟨q,b,rfl⟩:=Xe.1 a;have c:p.1<q.1:=(Xw.1 h).1 q b;grind
def Mo:∀{l z:KV},tI l->tI z->(∀x,Xg l x=Xg z x)->l=z
 |[],[],_,_,_=>rfl|[],p::z,_,_,h=>by have:=h p.1;simp[Xg]at this
 |p::l,[],_,_,h=>by have:=h p.1;simp[Xg]at this
 |p::l,P::z,q,j,h=>by
  have hk:p.1=P.1:=by obtain e|e:=List.le_total p.1 P.1;refine jg λb=>?_;have a:=h p.1;simp only[Xg,dY]at a;rw[aL b,j.sR e]at a;cases a;refine jg λb=>?_;have a:=h P.1;simp only[Xg,dY]at a;rw[aL λe=>b e.symm,q.sR e]at a;cases a
  have d:p.2=P.2:=by have a:=h p.1;simp only[Xg,dY]at a;rw[aT hk]at a;exact ql a
  have c:=Prod.ext hk d;subst c;congr 1;refine Mo (Xw.1 q).2 (Xw.1 j).2 λx=>?_;by_cases e:x=p.1;subst e;rw[q.sR<|List.le_refl _,j.sR<|List.le_refl _];have a:=h x;grind [Xg]
def vQ(k v:Zl):KV->KV
 |[]=>[(k,v)]|q::l=>if k<=q.1 then(k,v)::(q::l).filter (λp=>bR (p.1≠k))else q::vQ k v l
theorem QK(k v):∀(l z:KV),l.foldl (wR k v) (ay,z)=(ay,z++l.filter (λp=>bR (p.1≠k)))
 |[],z=>Â
 |q::l,z=>by
  rw[GQ];have:wR k v (ay,z) q=(ay,if q.1=k then z else z++[q]):=by simp[wR]
  rw[this,QK];grind
theorem ī(k v):∀(l z:KV),(if(l.foldl (wR k v) (ao,z)).1=ao then(l.foldl (wR k v) (ao,z)).2++[(k,v)]else(l.foldl (wR k v) (ao,z)).2)=z++vQ k v l
 |[],z=>by simp[vQ]
 |q::l,z=>by
  rw[GQ];unfold vQ;by_cases h:k<=q.1;grind [wR,QK];have a:q.1≠k:=λe=>h Á;have:wR k v (ao,z) q=(ao,z++[q]):=by simp[wR,h,a]
  rw[this,ī k v l,aL h];simp
def xjx(l k v):C0 l k v ao=vQ k v l:=by grind [C0,Ev,ī]
def xdj(l k v):C0 l k v ay=l.filter (λp=>bR (p.1≠k)):=by grind [C0,Ev,QK]
def Mk(k x):∀l:KV,Xg (l.filter λp=>bR (p.1≠k)) x=if x=k then aw else Xg l x
 |[]=>by simp[Xg]|q::l=>by obtain⟨a,b⟩:=q;by_cases h:a=k;subst h;rw[List.filter_cons_of_neg Â,Mk a x l];grind [Xg];rw[List.filter_cons_of_pos Á];simp only[Xg];rw[Mk k x l];grind
theorem Ĭ(k v x):∀l:KV,Xg (vQ k v l) x=if x=k then ac v else Xg l x
 |[]=>by simp[vQ,Xg]|q::l=>by obtain⟨a,b⟩:=q;unfold vQ;by_cases h:k<=a;rw[aT h];show(if x=k then ac v else Xg (List.filter (λp=>bR (p.1≠k)) ((a,b)::l)) x)=_;rw[Mk];grind;rw[aL h];simp only[Xg];rw[Ĭ k v x l];grind
def ė{k v p}:∀{l:KV},p∈vQ k v l->p=(k,v)\/p∈l
 |[],h=>by simpa[vQ]using h|q::l,h=>by unfold vQ at h;by_cases e:k<=q.1;grind;rw[aL e]at h;obtain h|h:=jc.1 h;grind;obtain h|h:=ė h<;>grind
def ę{k v}:∀{l:KV},tI l->tI (vQ k v l)
 |[],_=>by simp[vQ,tI]|q::l,h=>by have b:=Xw.1 h;unfold vQ;by_cases e:k<=q.1;rw[aT e];refine Xw.2 ⟨λp a=>?_,h.filter _⟩;grind;rw[aL e];refine Xw.2 ⟨λp a=>?_,ę b.2⟩;obtain rfl|c:=ė a<;>grind
def xvc(h:Nd L)(k v):gG (gS L k v)=C0 (gG L) k v ao:=by rw[xjx];refine Mo (IJ<|h.gS k v) (ę<|IJ h) λx=>?_;grind [II,YT,Ĭ]
def xvb(h:Nd L)(k v):gG (jN L k)=C0 (gG L) k v ay:=by rw[xdj];refine Mo (IJ<|h.jN k) ((IJ h).filter _) λx=>?_;rw[II,YS h,Mk,II]
def xer(m a X):(Y9 m a X).map T=X.map T:=by apply Ye;grind [Y9,A']
def xjo:∀{X z:bA Zl},X.map T=z.map T->T X.flatten=T z.flatten:=Á
theorem Mb(m a x):T (Y9 m a<|Ys x).flatten=T x:=by rw[xjo<|xer m a<|Ys x,(CY x).2.2]
structure Mf.ok(m:Mf):Prop where
 ep:m.ep<=5
 op:m.op<65536
 bF:m.bF<4294967296
 bC:m.bC<65536
 bM:m.bM<4294967296
 cW:m.cW<65536
 gT:m.gT<4294967296
 ga:T m.ga=32
 aQ:T m.aQ=32
section
variable{m:Mf}(h:m.ok)(z:bA UInt8)
end
structure FGs(F:Xv):Prop where
 gd:jB F
 fU:oQ F
 fl:∀n,(Zm F n).2=(T (jp F n):U)
def Mi{n f}(h:k≠n):Zm (Vm F n f) k=Zm F k:=by grind [Zm,YO]
theorem Mj(g:jB F){n f}(a:f.1=[]->f.2=0):Zm (Vm F n f) n=f:=by unfold Zm Vm;split;rename_i h;rw[QH g.nd];grind;rw[Į];rfl
def Ğ{t}(a:0<=t):∀(z:bA U) (F:Xv),z.Nodup->(∀n∈z,kh n)->jB F->oQ F->jB (z.foldl (gK t) F)/\oQ (z.foldl (gK t) F)/\
  ∀k,(k∉z->Zm (z.foldl (gK t) F) k=Zm F k)/\(k∈z->jp (z.foldl (gK t) F) k=(jp F k).take (bL (Wx t<|Zm F k))/\(Zm (z.foldl (gK t) F) k).2=(T (jp (z.foldl (gK t) F) k):U))
 |[],F,_,_,g,e=>⟨g,e,λk=>⟨λ_=>O,λh=>È⟩⟩
 |n::z,F,j,q,g,e=>by
  have d:=On.1 j;have c:jB<|gK t F n:=g.np _ _;have⟨u,o,s⟩:=Ğ a z _ d.2 (λx i=>q x<|by simp[i]) c (e.gK a<|q n Â);refine⟨u,o,λk=>?_⟩;have b:∀{k},k≠n->Zm (gK t F n) k=Zm F k:=λh=>Mi h;have⟨W,m⟩:=s k;refine⟨λh=>?_,λh=>?_⟩;grind;by_cases hk:k=n;subst hk;have S:Zm (gK t F k) k=((jp F k).take (bL (Wx t<|Zm F k)),(T ((jp F k).take (bL (Wx t<|Zm F k))):U)):=Mj g Á
  grind [jp,Zm];have f:k∈z:=by obtain h|h:=jc.1 h;exact dC h hk;exact h
  have⟨r,l⟩:=m f;refine⟨?_,l⟩;show jp (z.foldl (gK t)<|gK t F n) k=_;rw[r,b hk,show jp (gK t F n) k=jp F k from gv o7<|b hk]
def zzi(g:jB F):(Zk F).Nodup:=((Xo _ _).nodup_iff).2 g.nd
def zwy{t}(f:0<=t)(g:jB F)(e:oQ F):FGs (uT t F)/\∀k,jp (uT t F) k=(jp F k).take (bL (Wx t<|Zm F k)):=by
 have b:∀n∈Zk F,kh n:=λn c=>by have:n∈F.map (·.1):=((Xo _ _).mem_iff).1 c;obtain⟨p,d,rfl⟩:=Xe.1 this;exact(e p d).1
 have⟨q,u,z⟩:=Ğ f _ F (zzi g) b g e;have a:∀k,jp (uT t F) k=(jp F k).take (bL (Wx t _))/\(Zm (uT t F) k).2=(T (jp (uT t F) k):U):=λk=>by by_cases h:k∈Zk F;exact(z k).2 h;have i:=(z k).1 h;have j:k∉F.map (·.1):=λx=>g.L9.1 x<|jg λx=>h<|g.Bp.2 x;grind [Zm,Ĩ,uT,jp]
 exact⟨⟨q,u,λk=>(a k).2⟩,λk=>(a k).1⟩
def xqk{a b:bA U}(h:a.Perm b):a.sum=b.sum:=by
 induction h with
 |nil=>rfl|cons x _ I=>grind
 |swap x y l=>grind|trans _ _ z q=>omega
def į(g:jB F):bO F=((F.map (·.1)).map λn=>(T (jp F n):U)).sum:=by
 unfold bO;rw[Wj];congr 1;refine W6 λp a=>?_;have:Xm F p.1=ac p.2:=by
  have h:=g.nd;clear g;induction F with
  |nil=>cases a
  |cons q F I=>grind [Xm]
 grind [jp]
def xdb{G}(f:jB F)(g:jB G)(e:∀n,jp G n=jp F n):bO G=bO F:=by rw[į f,į g,show(λn=>(T (jp G n):U))=λn=>(T (jp F n):U)from funext λn=>å];exact xqk<|((List.perm_ext_iff_of_nodup g.nd f.nd).2 λn=>by rw[f.L9,g.L9,e]).map _
theorem Vs(h:(F.map (·.1)).Nodup)(p):p∈F↔Xm F p.1=ac p.2:=by refine⟨λa=>?_,λa=>Ve a⟩;induction F<;>grind [Xm]
def QM(h:ſ.Perm B)(a:(ſ.map (·.1)).Nodup)(n):Xm ſ n=Xm B n:=by
 have b:=(h.map _).nodup_iff.1 a;cases e:Xm ſ n with
 |some v=>exact(((Vs b (n,v)).1<|h.mem_iff.1<|(Vs a (n,v)).2 e)).symm
 |none=>cases z:Xm B n with|none=>rfl|some v=>rw[(Vs a (n,v)).1<|h.mem_iff.2<|(Vs b (n,v)).2 z]at e;cases e
def Ĳ(g:jB F)(k):Xm F k=if(Zm F k).1=[]then aw else ac (Zm F k):=by unfold Zm;cases e:Xm F k with|none=>simp|some v=>simp;exact g.ne _<|Ve e
def Ę(a:jB ſ)(b:jB B)(h:∀k,Zm ſ k=Zm B k):ſ.Perm B:=by refine(List.perm_ext_iff_of_nodup ((Wk.1 a.nd).imp λh e=>h<|congrArg _ e)<|(Wk.1 b.nd).imp λh e=>h<|congrArg _ e).2 λp=>?_;rw[Vs a.nd,Vs b.nd,Ĳ a,Ĳ b,h]
def ħ(h:(F.map (·.1)).Nodup)(q k):Xm (F.filter q) k=(Xm F k).filter λv=>q (k,v):=by
 cases e:Xm F k with
 |none=>
  cases z:Xm _ k with|none=>rfl|some v=>rw[(Vs h (k,v)).1 (Ja.1<|Ve z).1]at e;cases e
 |some v=>
  cases j:q (k,v)with
  |true=>rw[(Vs (h.sublist<|List.filter_sublist.map _) (k,v)).1<|Ja.2 ⟨Ve e,j⟩];grind
  |false=>cases z:Xm _ k with|none=>grind|some u=>have a:=Ja.1<|Ve z;grind [Vs]
structure Tw(d:Dk)(f:Rf):Prop where
 bU:f.bU=d.bU
 gF:jB f.F
 gL:jB d.L
 mJ:∀k,Zm f.F k=Zm d.L k
 mt:wJ f.F
 fU:oQ d.L
 nx:match d.nx with
  |none=>f.nE=ao|some c=>f.nE=ay/\f.ko=c.2.1/\f.cQ=c.2.2
 cQ:0<=f.cQ
 ko:f.ko<=9223372036854775807
theorem Tw.cS(h:Tw d f):f.cS=d.cS:=by have:=h.nx;grind [Rf.cS,Dk.cS]
def Tw.ID(h:Tw d f):f.F.Perm d.L:=Ę h.gF h.gL h.mJ
def Tw.wO(h:Tw d f)(n):jp f.F n=jp d.L n:=gv o7<|h.mJ n
def Tw.wP(h:Tw d f):bO f.F=bO d.L:=xdb h.gL h.gF h.wO
def ĩ{o}(h:Xm F k=o):Zm F k=o.getD ([],0):=by unfold Zm;rw[h]
def wQ:∀{F:Xv},(∀p∈F,p.2.1≠[])->(T F:U)<=bO F
 |[],_=>by simp[bO]|p::F,h=>by have b:=wQ λq a=>h q<|jw _ a;grind [Z0,P.bO]
def Tw.rZ(h:Tw d f):oQ f.F:=λp a=>h.fU p<|h.ID.mem_iff.1 a
def Tw.ok(h:Tw d f)(b:P.bO d.L<=400000):ZB f:=⟨h.rZ,h.gF.nd,by have a:=wQ h.gF.ne;rw[h.wP]at a;omega,h.cQ,h.ko⟩
def xuh{n}(g:jB F)(h:y.Perm<|(F.filter (λp=>p.1 != n)++[(n,x,(T x:U))]).filter o4):jB y/\∀k,Zm y k=if k=n then(x,(T x:Int))else Zm F k:=by
 have d:((F.filter (λp=>p.1 != n)++[(n,x,(T x:U))]).map (·.1)).Nodup:=by rw[qz,GK];refine⟨g.nd.sublist<|List.filter_sublist.map _,Â,λa m b i=>?_⟩;obtain⟨p,j,rfl⟩:=Xe.1 m;simp at i;rw[i];simpa using(Ja.1 j).2
 have c:(((F.filter (λp=>p.1 != n)++[(n,x,(T x:U))]).filter o4).map (·.1)).Nodup:=d.sublist<|List.filter_sublist.map _;refine⟨⟨(h.map _).nodup_iff.2 c,λp j=>by grind [o4]⟩,λk=>?_⟩;have l:Xm (F.filter (λp=>p.1 != n)++[(n,x,(T x:U))]) k=if k=n then ac (x,(T x:U))else Xm F k:=by
  by_cases hk:k=n;subst hk;rw[aT O];exact(Vs d (k,x,(T x:U))).1 Â;rw[aL hk];cases e:Xm F k with
  |some v=>exact(Vs d (k,v)).1<|by simp[hk,Ve e]
  |none=>cases z:Xm (F.filter (λp=>p.1 != n)++[(n,x,(T x:U))]) k with|none=>rfl|some v=>obtain f|f:=je.1 (Ve z);rw[(Vs g.nd (k,v)).1 (Ja.1 f).1]at e;cases e;grind
 rw[ĩ<|(QM h ((h.map _).nodup_iff.2 c) k).trans<|ħ d o4 k,l];by_cases hk:k=n;rw[aT hk,aT hk];cases x<;>simp[Option.filter,o4]
 rw[aL hk,aL hk];unfold Zm;cases e:Xm F k with|none=>rfl|some v=>have:=g.ne _<|Ve e;grind [o4]
def xoy{t}(g:jB F)(h:y.Perm<|(F.map<|sJ t).filter o4):jB y/\∀k,Zm y k=(if(jp F k).take (bL (Wx t<|Zm F k))=[]then([],0)else((jp F k).take (bL (Wx t<|Zm F k)),Wx t<|Zm F k)):=by
 have b:((F.map<|sJ t).map (·.1)).Nodup:=by rw[Wj];exact g.nd
 have a:(((F.map<|sJ t).filter o4).map (·.1)).Nodup:=b.sublist<|List.filter_sublist.map _;refine⟨⟨(h.map _).nodup_iff.2 a,λp c=>by grind [o4]⟩,λk=>?_⟩;have d:Xm (F.map<|sJ t) k=(Xm F k).map λv=>(sJ t (k,v)).2:=by
  cases e:Xm F k with
  |some v=>exact(Vs b _).1<|Xe.2 ⟨_,Ve e,O⟩
  |none=>cases q:Xm _ k with|none=>rfl|some v=>have⟨p,c,z⟩:=Xe.1<|Ve q;have f:p.1=k:=gv o7 z;have i:=(Vs g.nd p).1 c;grind
 rw[ĩ<|(QM h ((h.map _).nodup_iff.2 a) k).trans<|ħ b o4 k,d];unfold jp Zm;cases e:Xm F k<;>grind [o4,sJ]
section
attribute [local go_sem] zn zg
def Rf.dk(f:Rf)(v:Zv)(F:Xv)(a:ez)(n:U)(o:ez):Rf:={f with fv:=v,F:=F,nE:=a,ko:=n,gw:=o}
def Rf.vN(f:Rf)(v F):∃n,{f.dZ with fv:=v,F:=F}=f.dk v F f.nE n f.gw/\f.dZ=f.dk f.fv f.F f.nE n f.gw:=by unfold Rf.dZ;split;exact⟨_,O,O⟩;exact⟨_,O,O⟩
theorem Tw.dZ(h:Tw d f)(n:d.cS=ao){L}(j:jB F)(l:jB L)(i:∀k,Zm F k=Zm L k)(b:wJ F)(a:oQ L):Tw {d.dZ with L:=L} {f.dZ with fv:=v,F:=F}:=by
 have⟨r,z,u,q⟩:=d;have g:=h.nx;have m:=h.ko;cases q with
 |none=>
  simp only at g;have e:f.dZ=f:=by unfold Rf.dZ;rw[aL<|by simp[g]]
  rw[e];exact⟨h.bU,j,l,i,b,a,g,h.cQ,h.ko⟩
 |some c=>
  have e:f.dZ={f with ko:=f.ko-1}:=by unfold Rf.dZ;rw[aT g.1]
  rw[e];exact⟨h.bU,j,l,i,b,a,⟨g.1,Á,g.2.2⟩,h.cQ,Á⟩
theorem Tw.eS(h:Tw d f)(m:d.cS=ay)(j:F.Perm<|(f.F.map<|sJ f.cQ).filter o4)(l:wJ F):Tw d.eS<|f.dk v F ao f.ko ao:=by have⟨r,z,L,q⟩:=d;have e:=h.nx;cases q with|none=>simp[Dk.cS]at m|some c=>have⟨g,u⟩:=xoy h.gF j;have n:=e.2.2▸h.cQ;have⟨a,b⟩:=zwy n h.gL h.fU;refine⟨h.bU,g,a.gd,λk=>?_,l,a.fU,O,h.cQ,h.ko⟩;show Zm F k=Zm (uT c.2.2 L) k;have i:Zm (uT c.2.2 L) k=(jp (uT c.2.2 L) k,(T (jp (uT c.2.2 L) k):U)):=Prod.ext O<|a.fl k;have o:(jp L k,(Zm L k).2)=Zm L k:=O;have p:=oQ.mJ (L:=L) h.fU k;rw[u k,i,b k,h.wO k,h.mJ k,e.2.2];grind [Wx]
def qZ(C:aD)(f:Rf)(x:ez×Dk)(w:Zy)(e:kH)(w':Zy):Prop:=e=ai (bG x.1)/\∃v F a n,Xf C f w (f.dk v F a n<|f.gw&&x.1) w'/\Tw x.2 (f.dk v F a n<|f.gw&&x.1)
theorem qZ.cr(h:Tw d f)(a:d.cS=ay)(k:LR C f w w'):qZ C f (ao,d.eS) w (ai<|bG ao) w':=by have⟨v,F,z,q,j⟩:=k;refine⟨O,v,F,ao,f.ko,?_,?_⟩;rw[Vo];exact z;rw[Vo];exact h.eS a q j
def Dk.put(d:Dk)(n:U)(x:Zl):ez×Dk:=if d.cS=ay then(ao,d.eS)else(ay,{d.dZ with L:=Vm d.L n (x,(T x:U))})
def Md(C f d n x w)(h:Ju w C f)(a:Tw d f)(o:bO d.L<=400000)(l:kh n)(hx:T x<=1000000):aK prog 129 #[K C,J n,E x] w<|qZ C f (d.put n x) w:=by refine(xui C f n x w h<|a.ok o).mono λe p k=>?_;unfold Dk.put;cases z:d.cS;obtain⟨rfl,v,F,c,i,j⟩:=k.go<|a.cS.trans z;have⟨g,q⟩:=xuh a.gF i;obtain⟨m,b,-⟩:=f.vN v F;rw[aL Â];refine⟨O,v,F,f.nE,m,?_,?_⟩;grind;rw[Cc,<-b];refine a.dZ z g (a.gL.np _ _) (λk=>?_) j<|a.fU.np l ⟨Â,Â,hx⟩;rw[q k];by_cases hk:k=n;subst hk;rw[aT O,Mj a.gL Á];rw[aL hk,Mi hk,a.mJ];obtain⟨rfl,c⟩:=k.cr<|a.cS.trans z;grind [qZ.cr]
def Tw.Bp(h:Tw d f):Zk d.L=f.F.map (·.1):=by have c:Zk d.L=(f.F.map (·.1)).mergeSort LL:=YZ (h.ID.map _).symm;rw[c];apply List.mergeSort_of_pairwise;refine Wk.2<|h.mt.imp λ{a b} q=>?_;grind
def Yc(z:U->ez):bA U->Dk->ez×Dk
 |[],d=>(ay,d)|n::q,d=>if z n=ay then Yc z q d else if d.cS=ay then(ao,d.eS)else Yc z q (d.qR n)
def QG(z):∀(q:bA U) (d:Dk),Yc z q d=Yc (λ_=>ao) (q.filter λn=>!z n) d
 |[],d=>rfl|n::q,d=>by cases hk:z n;simp only[Yc,hk,KB];simp only[Bool.not_false,dY,Yc,ja,kB,QG z q];simp only[Yc,hk,KB];simp only[Bool.not_true,ja,kB,dY,QG z q]
def tJ(n:U):Ze:=[Q bB n]
def QP(n):∀u∈tJ n,u.oneCell'=ay:=by intro u a;simp[tJ]at a;rw[a];rfl
def Mh:El 63 3 1:= .Be ((eZ 63).trans Tryz.underlying63) (z:=J 0) (b:=8) Ä Ã O Ã
def Dk.vM(d:Dk)(n):d.put n []=if d.cS=ay then(ao,d.eS)else(ay,d.qR n):=by grind [Dk.put,Dk.qR,Vm]
def QJ(L n):bO (nS L n)<=bO L:=by grind [Ī]
def oU(n l h k:U):ez:=(k==0)||((k==n)||(!bR (k<l)&& !bR (h<k)))
def Xf.Ma{z:Type}{q e k g}{l:bA z}(h:Ju w C f)(t:Xf C f w q w')(r:Rw w e k g v l)(b:e≠154/\e≠159/\e≠157/\e≠147):Rw w' e k g v l:=by refine r.y t.y λx c a=>?_;obtain a|a|a|a:=a;exact r.ir h.bT (Ne.symm b.1) x c a;exact r.fh h.fs b.2.1 c a;exact r.fh h.ss b.2.2.1 c a;exact r.fh h.ps b.c c a
structure vP(C:aD)(f:Rf)(d:Dk)(w:Zy)(z:Rf)(w1:Zy):Prop where
 rt:Xf C f w z w1
 tw:Tw d z
 dk:∃v F a n,z=f.dk v F a n f.gw
 q8:bO d.L<=400000
def vP.end{b}(h:vP C f d w b w1):qZ C f (ay,d) w (ai<|bG ay) w1:=by obtain⟨v,F,a,n,rfl⟩:=h.dk;refine⟨O,v,F,a,n,?_,?_⟩;rw[Cc];exact h.rt;rw[Cc];exact h.tw
theorem vP.eG{j x i e}(h:vP C f d w j w1)(k:qZ C j x w1 e i)(r:x.1=ay->bO x.2.L<=400000):e=ai (bG x.1)/\(x.1=ay->∃z,vP C f x.2 w z i/\Xf C j w1 z i)/\(x.1=ao->qZ C f x w (ai<|bG ao) i):=by obtain⟨v,F,a,n,rfl⟩:=h.dk;have⟨b,D⟩:=x;obtain⟨rfl,q,m,o,p,c,g⟩:=k;refine⟨O,λl=>?_,λl=>?_⟩;cases l;rw[Cc]at c g;exact⟨_,⟨h.rt.aE c,g,⟨q,m,o,p,O⟩,r O⟩,c⟩;cases l;rw[Vo]at c g;refine⟨O,q,m,o,p,?_,?_⟩;rw[Vo];exact h.rt.aE c;rw[Vo];exact g
def ġ(C f d n lo c w)(h:Ju w C f)(u:Tw d f)(hu:bO d.L<=400000):aK prog 131 #[aU<|some ⟨C,0,aw⟩,Q bB n,Q bB lo,Q bB c] w<|qZ C f (Yc (oU n lo c) (Zk d.L) d) w:=by
 have hl:T f.F<=400000:=by have x:=wQ u.gF.ne;rw[u.wP]at x;omega
 have hx:=h;have X:=u;have HU:=hu;have HC:H (Yc (oU n lo c) (Zk d.L) d=Yc (λ_=>ao) ((f.F.map (·.1)).filter λk=>!oU n lo c k) d):=by show _=_;rw[QG,u.Bp]
 have⟨a,cap,hv⟩:=h.fs.dL;have cs:=hv;clear h u hu hv;rw[HC.o];go_enter func131.1,Tryz.ntmps131;go_wp2;go_loopw [9,10] (λv i wr=>∃j:aD,j<=T f.F/\i=Q bB j/\ff w wr 3 1 tJ v (((f.F.map (·.1)).take j).filter λk=>!oU n lo c k)) (λ_ i _=>bL (T f.F-bZ i));grind [ff.nil];obtain⟨j,hj,rfl,ho⟩:=hrel;have t:=ho;have ſ:=xe<|hx.y ho.nw;have c3:N wr ⟨C,3,aw⟩=aB a (T f.F) cap:=cs▸ſ.o.bT.i 3 O;have I:=J0 (λk=>!oU n lo c k) ((f.F.map (·.1)).take j);rw[xf,jl]at I;clear ho;by_cases o:j<T f.F;have i1:(j:U)<(T f.F:aD):=À
 obtain⟨g,rfl,P⟩:=ſ.o.fs.lp (λ_=>O) o cs;have e0:N wr ⟨g,j*3,aw⟩=Q bB f.F[j].1:=P 0 À;have r:H ((((f.F.map (·.1)).take<|j+1).filter λk=>!oU n lo c k)=(((f.F.map (·.1)).take j).filter λk=>!oU n lo c k)++if oU n lo c f.F[j].1 then []else [f.F[j].1]):=by show _=_;rw[zp Á,Yu,Fl];congr 1;cases hk:oU n lo c f.F[j].1<;>simp[hk]
 clear P;generalize f.F[j].1=k at*;generalize(((f.F.map (·.1)).take j).filter λk=>!oU n lo c k)=hw at*;cases hk:oU n lo c k
 ·have s:¬k=0/\¬k=n/\(k<lo\/(¬k<lo/\c<k)):=by unfold oU at hk;simp at hk;simp;omega
  rw[hk]at r;have⟨h2,q1,s⟩:=s;have bb:(k != 0)=ay:=by simpa using h2
  have bc:(k != n)=ay:=by simpa using q1
  clear hk;obtain q2|⟨q2,q3⟩:=s;all_goals
   go_wp2_with (refine ff.jK Mh k t À O O (QP _) O O O O ?_);intro g3 ba w3 v';have w2:=xe v';clear v';go_wp2;go_roundw;exact⟨j+1,À,Å,by rw[r.o];exact w2.o⟩;exact Ì
 ·have s:k=0\/(¬k=0/\k=n)\/(¬k=0/\¬k=n/\¬k<lo/\¬c<k):=by unfold oU at hk;simp at hk;simp;omega
  rw[hk]at r;clear hk;obtain h2|⟨h2,q1⟩|⟨h2,q1,q2,q3⟩:=s;all_goals
   go_wp2;go_roundw;exact⟨j+1,À,Å,by rw[r.o];simpa using t⟩;exact Î
 obtain rfl:j=T f.F:=À
 have i1:¬(T f.F:U)<(T f.F:aD):=À
 rw[qp Â]at t I;have HI:H (∀k∈((f.F.map (·.1)).filter λk=>!oU n lo c k),kh k):=λk hk=>by obtain⟨p,h1,rfl⟩:=Xe.1 (Ja.1 hk).1;exact(X.rZ p h1).1
 have HD:H<|vP C f d w f wr:=⟨.nw hx t.nw,X,⟨f.fv,f.F,f.nE,f.ko,O⟩,HU⟩;obtain⟨a9,ih,rfl⟩:=t.dL;have HR:=xe t.rw;generalize hns:((f.F.map (·.1)).filter λk=>!oU n lo c k)=ns at*;have B:=xe hns;clear hns;go_wp2;clear c3 ſ t hx X HU cs HC;go_loopw [12] (λi wq=>∃(j:aD) (b:Dk) (g':Rf),j<=T ns/\i=Q bB j/\vP C f b w g' wq/\Rw wq 3 1 tJ (aB a9 (T ns) ih) ns/\Yc (λ_=>ao) ns d=Yc (λ_=>ao) (ns.drop j) b) (λi _=>bL (T ns-bZ i));exact⟨0,d,f,À,O,HD.o,HR.o,O⟩;obtain⟨j,b,g',hj,rfl,hd,hr,s⟩:=hrel;have l:=xe hd;have D:=xe hr;have y:=xe s;clear hd hr s HD HR;by_cases o:j<T ns
 ·have i2:(j:U)<(T ns:aD):=by omega
  obtain⟨g,rfl,P⟩:=D.o.lp (λ_=>O) o O;have e0:N wr ⟨g,j*1,aw⟩=Q bB ns[j]:=P 0 À;rw[Cd]at e0;have h1:=b.vM ns[j];have e1:=xe<|HI.o _<|Xk o;have m:H<|Yc (λ_=>ao) ns d=if b.cS=ay then(ao,b.eS)else Yc (λ_=>ao) (ns.drop<|j+1) (b.qR ns[j]):=by show _=_;rw[y.o,Zx o];simp only[Yc,ja,kB]
  clear P;generalize ns[j]=k at*;go_wp2;refine(Md C g' b k [] _ l.o.rt.dI l.o.tw l.o.q8 e1.o Â).mono ?_;rintro e w3 hk;rw[h1]at hk;have es:(if b.cS=ay then(ao,b.eS)else(ay,b.qR k)).1=ay->bO (if b.cS=ay then(ao,b.eS)else(ay,b.qR k)).2.L<=400000:=λ_=>by cases hs:b.cS;simp;exact Yx (QJ _ _) l.o.q8;rename_i q;rw[hs]at q;simp at q
  obtain⟨rfl,x,G⟩:=l.o.eG hk es;clear hk es;cases hs:b.cS
  ·rw[hs,aL Â]at m;rw[hs,aL Â]at x G;have⟨f2,h3,h4⟩:=x O;have W:=xe (h4.Ma l.o.rt.dI D.o Ã);have S:=xe h3;clear x G h3 h4 h1;go_wp2;go_roundw;exact⟨j+1,_,f2,À,Å,S.o,W.o,m.o⟩;simp[bZ];omega
  rw[hs,aT O]at m;rw[hs,aT O]at x G;have z:=xe<|G O;rw[<-m.o,<-B.o]at z;clear x G h1;go_wp2;go_ret;exact z.o
 obtain rfl:j=T ns:=À
 have i2:¬(T ns:U)<(T ns:aD):=À
 have m:H<|Yc (λ_=>ao) ns d=(ay,b):=by show _=_;rw[y.o,Vl];rfl
 have z:=xe l.o.end;rw[<-m.o,<-B.o]at z;go_wp2;go_ret;exact z.o
end
section
attribute [local go_sem] zn zg VV
def xa1(d e a)(F:T d<=4096)(G:T e<=4096)(S:T a<=4063)(n:aD)(I:n<=255)(w)(y:Yq w):
  aK prog 201 #[E d,E e,E a,J n] w λen w'=>en=ai (E<|yu (Wu e d) a n)/\aP (V<|Z' w) w w':=by
 have r:Yq w:=y;have o:=uP e d;go_enter func201.1,Tryz.ntmps201;go_wp2;go_fit (FJ e d À À _ r);rintro en w1⟨rfl,l⟩;obtain⟨c,f⟩:∃c,Wu e d=c:=⟨_,O⟩;have g:=xe f;rw[f]at o;rw[f];clear f;go_wp2;go_loopw [10,11,12] (λv b q wr=>∃k:aD,k<=8/\q=J ((k:U)+1)/\b=E (bk c a k)/\v=E (sG c a k)/\aP (V<|Z' w) w wr) (λ_ _ q _=>bL (9-bZ q));exact⟨0,À,O,O,O,l⟩;obtain⟨k,hk,rfl,rfl,rfl,j⟩:=hrel;have D:=Lp c a k;by_cases C:32*k<n
 ·have u:(32*(k:U))<(n:aD):=by omega
  have z:=WD c a k;have p:H<|bk c a (k+1)=Wu c (bk c a k++(a++[bq<|k+1])):=O;have x:H<|sG c a (k+1)=sG c a k++bk c a (k+1):=O;have t:H<|nb (k+1) 1=[bq<|k+1]:=by show _=_;simp[nb]
  generalize bk c a k=B at*;generalize sG c a k=W at*;have i:=uP c<|B++(a++[bq<|k+1]);go_wp2;go_fit (wD _ 1 (k+1) 1 À O Ã _);rintro en X⟨rfl,h⟩;rw[t.o];go_wp2;go_fit (FJ c _ À Ç _<|r.gN<|Xs j h);rintro en P⟨rfl,m⟩;rw[<-p.o];rw[<-p.o]at i;go_wp2;go_roundw;exact⟨k+1,À,Å,O,by rw[x.o],Xs j<|Xs h m⟩;exact Ì
 have u:¬(32*(k:U))<(n:aD):=À
 have s:=xe (WE c a n k hk À);generalize sG c a k=W at*;go_wp2;go_ret;exact⟨by rw[g.o,<-s.o];rfl,j⟩
theorem xks(a cap w)(b:Yq w):aK prog 141 #[aB a 0 cap] w λe w'=>e=ai (E<|J9 [])/\aP (V<|Z' w) w w':=by go_enter func141.1,Tryz.ntmps141;go_wp2;go_fit (Cw [] Ã _ b);rintro e w1⟨rfl,c⟩;go_wp2;go_ret;exact⟨O,c⟩
def xt3(a b):oY (nb 1 1++(a++b))=Bn a b:=O
def xkt(p)(n:T p<=4095)(g q cap w)(k:Yq w)(i:N w (zq g q)=E p):
  aK prog 141 #[aB (ac ⟨g,q,aw⟩) 1 cap] w λu w'=>u=ai (E<|J9 [p])/\aP (V<|Z' w) w w':=by
 have h:Yq w:=k;have m:=Z2 0 1;have j:H<|oY (nb 0 1++p)=J9 [p]:=by show _=_;rw[xkq];rfl
 have b:∀c:Zy,aK prog 140 #[J 0,J 1] c λe w'=>e=ai _/\aP (V<|Z' c) c w':=λc=>wD 0 1 0 1 O O Ã c;generalize nb 0 1=z at*;go_enter func141.1,Tryz.ntmps141;go_wp2;go_region_with (first
  |(go_at_call 140;go_fit (b _);rintro u w1⟨rfl,a⟩;have l:N w1 (zq g q)=E p:=(a.cell<|js i).trans i;have d:Yq w1:=Yq.gN (Yq.Y h (Yq.iE h) (zt _ _).drew) a)
  |(go_at_call 199;go_fit (Cw (z++p) Á _ d);rintro u o⟨rfl,f⟩))
 all_goals go_wp2
 all_goals go_ret
 all_goals exact⟨by rw[<-j.o];rfl,VS<|Xs a f⟩
def xkr:∀(m:aD) (L:bA Zl),T L=m->0<m->m<=256->(∀x∈L,T x<=4095)->∀(g off cap:aD),m<=cap->∀w:Zy,Yq w->wN w g off L->
  aK prog 141 #[aB (ac ⟨g,off,aw⟩) m cap] w λen w'=>en=ai (E<|J9 L)/\aP (V<|Z' w) w w':=by
 intro m;induction m using Nat.strongRecOn with|_ m ih=>
 intro L h1 h0 hs h2 g off cap S w hx c;by_cases t:m=1;subst t;obtain⟨p,rfl⟩:∃p,L=[p]:=List.length_eq_one_iff.1 h1;exact xkt p (h2 p Â) g off cap w hx (c 0 Â);have f:∀j,j<m->∀(L:bA Zl),T L=j->0<j->j<=256->(∀x∈L,T x<=4095)->∀(g off cap:aD),j<=cap->∀w:Zy,Yq w->wN w g off L->
  aK prog 141 #[aB (ac ⟨g,off,aw⟩) j cap] w λen w'=>en=ai (E<|J9 L)/\aP (V<|Z' w) w w':=ih
 have y:Yq w:=hx;have I:wN w g off L:=c;have ho:∀x∈L,T x<=4095:=h2;have l:=xe h1;have n:∀v:Zy,aK prog 140 #[J 1,J 1] v λe w'=>e=ai (E<|nb 1 1)/\aP (V<|Z' v) v w':=λv=>wD 1 1 1 1 O O Ã v;go_enter func141.1,Tryz.ntmps141;go_wp2;go_loopw [3] (λi wr=>∃k:aD,k<8/\2^k<m/\i=J (2^k:aD)/\wr=w) (λi _=>bL (m-bZ i));exact⟨0,À,À,O,O⟩;obtain⟨k,hk,bb,rfl,rfl⟩:=hrel;have o:H<|2^(k+1)=2*2^k:=by show _=_;rw[Cb];omega
 have hr:0<2^k:=Nat.two_pow_pos k;have ba:k<7\/128<=2^k:=by by_cases h:k<7;omega;grind
 have q:∀a b:bA Zl,T a=2^k->0<T b->T b<=2^k->J9 (a++b)=Bn (J9 a) (J9 b):=λa b ha B hb=>xa8 a b k hk ha B hb;by_cases bc:2*2^k<m
 ·generalize 2^k=u at*;have i1:(2*(u:U))<(m:aD):=by omega
  go_wp2;go_roundw;exact⟨k+1,À,by rw[o.o];omega,by rw[o.o];go_num,bD⟩;exact Ì
 generalize 2^k=u at*;have z:T (L.take u)=u:=by rw[xf,l.o];omega
 have cs:T (L.drop u)=m-u:=by rw[Zn,l.o]
 have HR:H<|J9 L=Bn (J9<|L.take u) (J9<|L.drop u):=by show _=_;rw[<-q _ _ z À À,Km]
 have v':∀x∈L.take u,T x<=4095:=λx G=>ho x<|Fq G;have F:∀x∈L.drop u,T x<=4095:=λx G=>ho x<|List.mem_of_mem_drop G;have LA:wN wr g off<|L.take u:=by intro j D;rw[z]at D;have:=I j Á;rw[this,List.getElem_take]
 have LB:wN wr g (off+u)<|L.drop u:=by intro j D;rw[cs]at D;have:=I (u+j) Á;rw[GU,this,List.getElem_drop]
 have ra:=IB (L.take u) À;have rb:=IB (L.drop u) À;have es:H<|T (L.take u)=u:=z;have W:H<|T (L.drop u)=m-u:=cs;generalize L.take u=X at*;generalize L.drop u=g' at*;have i4:(m:U)<=(cap:aD):=À
 go_wp2;go_fit (f u À X es.o À À v' g off cap À _ y LA);rintro en w1⟨rfl,d⟩;go_wp2;go_fit (f (m-u) À g' W.o À À F g (off+u) (cap-u) À _ (y.gN d)<|LB.Y (js<|c 0 À) d);rintro en w2⟨rfl,r⟩;generalize J9 X=P at*;generalize J9 g'=hd at*;have bd:=Z2 1 1;have HN:H<|oY (nb 1 1++(P++hd))=Bn P hd:=xt3 P hd;generalize nb 1 1=h3 at*;go_wp2;go_fit (n _);rintro en w3⟨rfl,s⟩;go_wp2;go_fit (Cw (h3++(P++hd)) É _<|y.gN<|Xs d<|Xs r s);rintro en w4⟨rfl,C⟩;go_wp2;go_ret;exact⟨by rw[HR.o,<-HN.o];rfl,Xs d<|Xs r<|Xs s C⟩
end
section
def QL(a):IntKind.i64.wrap (e8 a)=e8 a:=by have b:=uz a;have c:=uQ a;grind [zh]
def Gb(a b):lr .xor bB (e8 a) (e8 b)=e8 (a^^^b):=by
 show IntKind.i64.wrap ((dM 64 (aN a:U)^^^dM 64 (aN b:U)).toNat:U)=_;have c:dM 64 (aN a:U)=BitVec.ofNat 64 (aN a):=Â
 have d:dM 64 (aN b:U)=BitVec.ofNat 64 (aN b):=Â
 have f:=a.toNat_lt;have g:=b.toNat_lt;have e:(BitVec.ofNat 64 (aN a)^^^BitVec.ofNat 64 (aN b)).toNat=aN (a^^^b):=by rw[BitVec.toNat_xor,GL,GL,Jd À,Jd À];simp
 rw[c,d,e];exact QL<|a^^^b
def ĭ(a):lr .xor bB (e8 a) 99=e8 (a^^^99):=Gb a 99
def ki(f:Zu)(n:aD):Ze:=(iC n).map λi=>Q bB (e8<|f i)
theorem Mp(f n):T (ki f n)=n:=by simp[ki]
def xV(f n):V (ki f n).toArray=n:=by simp[ki]
def ĥ(f n i)(h:i<n):(ki f n)[i]?=(J<|e8<|f i):=by simp[ki,h]
def xyl(f n i)(h:i<n):(ki f n).toArray[i]?=(J<|e8<|f i):=by simp[ki,h]
def Mq(f n):(ki f n).toArray.all (·.oneCell')=ay:=by rw[jn];intro v a;simp only[ki,KC,Xe]at a;obtain⟨i,_,rfl⟩:=a;rfl
theorem xob{f g}(h:∀i,i<n->f i=g i):ki f n=ki g n:=by grind [ki,W6]
theorem xym(f n k v):(ki f n).set k (J<|e8 v)=ki (λi=>if i=k then v else f i) n:=by apply Ye;grind [ki]
def xtg(f n k v):aA (ki f n).toArray k (J<|e8 v)=bH (ki (λi=>if i=k then v else f i) n):=by grind [xym]
def Jp(w:Zy)(b:aD)(f:Zu)(n:aD)(t:Zt):Prop:=w.heap[b]?=ac (au (bH (ki f n)) t (0,0))
def Jp.i{k f}(h:Jp w b f n t)(hk:k<n):N w (zq b k)=(J<|e8<|f k):=by rw[xb _ _ _ _ _ _ h,xyl _ _ _ hk]
def Jp.eQ{k f}(h:Jp w b f n t):aX w (zq b k)=ao:=xt _ _ _ _ _ h
theorem Jp.cH{f g}(h:Jp w b f n t)(e:∀i,i<n->f i=g i):Jp w b g n t:=by grind [Jp,xob]
theorem Jp.H{f}(h:Jp w b f n t)(k v):Jp (M w (zq b k)<|J<|e8 v) b (λi=>if i=k then v else f i) n t:=by unfold Jp at*;rw[jx _ _ _ _ _ _ h,xtg]
def Jp.dR{a k f}(h:Jp w b f n t)(c:b≠a):Jp (M w (zq a k) v) b f n t:=by grind [Jp,jj]
def Jp.Y{B f}(h:Jp w b f n t)(c:aP B w w')(a:b<B):Jp w' b f n t:=(c.block _ a).trans h
attribute [local go_sem] Gb ĭ
def jc6:∀x:Z8,128<=aN x->lr .xor bB (2*e8 x) 283=e8 (oO x):=AX Ê
def jc7:∀x:Z8,¬128<=aN x->2*e8 x=e8 (oO x):=AX Ê
def Ml(x w):aK prog 277 #[J<|e8 x] w λe w'=>e=ai (J<|e8<|oO x)/\w'=w:=by
 have l:=uz x;have u:=uQ x;by_cases h:128<=aN x
 ·have a:(255:U)<2*e8 x:=by simp[e8];omega
  have b:=jc6 x h;go_enter func277.1,Tryz.ntmps277;go_wp2;go_ret;simp
 have a:¬(255:U)<2*e8 x:=by simp[e8];omega
 go_enter func277.1,Tryz.ntmps277;go_wp2;go_ret;exact⟨by rw[<-(xe<|jc7 x h).o];rfl,O⟩
def rF(a b c d:Z8):Z8:=oO a^^^oO b^^^b^^^c^^^d
def Mn(a b c d w):aK prog 278 #[J<|e8 a,J<|e8 b,J<|e8 c,J<|e8 d] w λe w'=>e=ai (J<|e8<|rF a b c d)/\w'=w:=by go_enter func278.1,Tryz.ntmps278;go_wp2;apply(Ml a _).mono;rintro e w1⟨rfl,rfl⟩;go_wp2;apply(Ml b _).mono;rintro e w1⟨rfl,rfl⟩;go_wp2;go_ret;exact⟨O,O⟩
def An(k j:aD):Z8:=if j<k then Pw j else 0
def xS:aD->aD->Z8
 |0,_=>0|k+1,j=>if j=aN (Pw k) then mZ k else xS k j
def Lt:Zl:=[0,0,25,1,50,2,26,198,75,199,27,104,51,238,223,3,100,4,224,14,52,141,129,239,76,113,8,200,248,105,28,193,125,194,29,181,249,185,39,106,77,228,166,114,154,201,9,120,101,47,138,5,33,15,225,36,18,240,130,69,53,147,218,142,150,143,219,189,54,208,206,148,19,92,210,241,64,70,131,56,102,221,253,48,191,6,139,98,179,37,226,152,34,136,145,16,126,110,72,195,163,182,30,66,58,107,40,84,250,133,61,186,43,121,10,21,155,159,94,202,78,212,172,229,243,115,167,87,175,88,168,80,244,234,214,116,79,174,233,213,231,230,173,232,44,215,117,122,235,22,11,245,89,203,95,176,156,169,81,160,127,12,246,111,23,196,73,236,216,67,31,45,164,118,123,183,204,187,62,90,251,96,177,134,59,82,161,108,170,85,41,157,151,178,135,144,97,190,220,252,188,149,207,205,55,63,91,209,83,57,132,60,65,162,109,71,20,42,158,93,86,242,211,171,68,17,146,217,35,32,46,137,180,124,184,38,119,153,227,165,103,74,237,222,197,49,254,24,13,99,140,128,192,247,112,7]
def CZ:aD->Zl
 |0=>bS 256 0|k+1=>(CZ k).set (aN (Pw k))<|UInt8.ofNat k
theorem ĝ:∀k,T (CZ k)=256
 |0=>by grind [CZ]|k+1=>by rw[CZ,List.length_set,ĝ k]
theorem xtk:CZ 255=Lt:=Ê
theorem Ħ:∀k j,j<256->xS k j=(CZ k).getD j 0
 |0,j,h=>by grind [xS,CZ]|k+1,j,h=>by rw[xS,CZ];by_cases e:j=aN (Pw k);grind [ĝ];rw[aL e,Ħ k j h];grind
def xyn(j)(h:j<256):xS 255 j=Lt.getD j 0:=by grind [Ħ,xtk]
def QF(a:aD):Z8:=if a=0 then 0 else Pw ((255-aN (Lt.getD a 0))%255)
def xyh(a)(h:a<256):Lc (QF a)=Sn a:=(by decide+kernel:∀a:Fin 256,Lc (QF a.val)=Sn a.val) ⟨a,h⟩
def jbs(a)(h:a<256):aN (Lt.getD a 0)<255:=(by decide+kernel:∀a:Fin 256,(Lt.getD a.val 0).toNat<255) ⟨a,h⟩
def vO(b:Z8):aD->Z8
 |0=>b|1=>b^^^pD b 1
 |2=>b^^^pD b 1^^^pD b 2|3=>b^^^pD b 1^^^pD b 2^^^pD b 3
 |_=>b^^^pD b 1^^^pD b 2^^^pD b 3^^^pD b 4
def xzh:∀b:Z8,lr .and bB (lr .or bB (e8 b*2)<|e8 b/128) 255=e8 (pD b 1):=AX Ê
def xzi:∀b:Z8,lr .and bB (lr .or bB (e8 b*4)<|e8 b/64) 255=e8 (pD b 2):=AX Ê
def xzj:∀b:Z8,lr .and bB (lr .or bB (e8 b*8)<|e8 b/32) 255=e8 (pD b 3):=AX Ê
def xzk:∀b:Z8,lr .and bB (lr .or bB (e8 b*16)<|e8 b/16) 255=e8 (pD b 4):=AX Ê
def Ap:Za:=cL 256<|Q bB 0
def Me:Za:=cL 255<|Q bB 0
def Ĝ:((prog.info? 318).map λi=>(i.zero,i.size))=ac (ac<|bY Ap,256):=Ä
def xtc:((prog.info? 350).map λi=>(i.zero,i.size))=ac (ac<|bY Me,255):=Ä
def QS:(prog.info? 318).map (·.size)=ac 256:=Ä
def QQ(n):cL n (J 0)=bH (ki zF n):=by apply Vn;intro i;rw[Array.getElem?_replicate,Jz];by_cases h:i<n;rw[aT h,ĥ _ _ _ h];rfl;grind [Mp]
def QO:Ap=bH (ki zF 256):=QQ 256
def xrf:Me=bH (ki zF 255):=QQ 255
end
section
attribute [local go_sem] Gb ĭ
structure BI(w:Zy)(p l:Zu)(W:Zy):Prop where
 fH:aP (V<|Z' w) w W
 sz:V (Z' W)=V (Z' w)+1+1+1
 b0:Jp W (V<|Z' w) zF 256 318
 b1:Jp W (V (Z' w)+1) p 255 350
 b2:Jp W (V (Z' w)+1+1) l 256 318
def BI.gC(w):BI w zF zF<|aF (aF (aF w<|au Ap 318)<|au Me 350)<|au Ap 318:=by
 rw[QO,xrf];refine⟨(((zt _ _).alloc (zd _) _).alloc Â _).alloc Ç _,Â,?_,?_,?_⟩;all_goals (show(((w.heap.push _).push _).push _)[_]?=_)
 all_goals (simp only[jb,Xi])
 grind;grind;grind
def BI.IC{b p a}(h:BI w p a b)(k v):BI w (λi=>if i=k then v else p i) a<|M b (zq (V (Z' w)+1) k)<|J<|e8 v:=
 ⟨h.fH.setCell Á _,Ö,h.b0.dR À,h.b1.H k v,h.b2.dR À⟩
def BI.yt{b p a}(h:BI w p a b)(k v):BI w p (λi=>if i=k then v else a i)<|M b (zq (V (Z' w)+1+1) k)<|J<|e8 v:=
 ⟨h.fH.setCell Á _,Ö,h.b0.dR À,h.b1.dR À,h.b2.H k v⟩
theorem BI.cH{d p b c a}(h:BI w p b d)(e:∀i,i<255->p i=c i)(f:∀i,i<256->b i=a i):BI w c a d:=⟨h.fH,h.sz,h.b0,h.b1.cH e,h.b2.cH f⟩
def Et(k j:aD):Z8:=if j<k then Sn j else 0
structure ug(w:Zy)(g k:aD)(W:Zy):Prop where
 fH:aP (V<|Z' w) w W
 gg:g=V (Z' w)+1+1+1
 b0:Jp W (V<|Z' w) zF 256 318
 b1:Jp W (V (Z' w)+1) (An 255) 255 350
 b2:Jp W (V (Z' w)+1+1) (xS 255) 256 318
 b3:Jp W g (Et k) 256 318
def ug.fV{k}(h:ug w g k a)(n):ug w g k<|a.drewN n:=⟨below_drewN h.fH _,h.gg,h.b0,h.b1,h.b2,h.b3⟩
theorem ug.H{k}(h:ug w g k a)(hk:k<256):ug w g (k+1)<|M a (zq g k)<|J<|e8<|Sn k:=by have b:=h.gg;refine⟨h.fH.setCell Á _,h.gg,h.b0.dR À,h.b1.dR À,h.b2.dR À,(h.b3.H k<|Sn k).cH λi _=>?_⟩;grind [Et]
def BI.Es(h:BI w (An 255) (xS 255) a):ug w (V<|Z' a) 0<|aF a<|au Ap 318:=by have c:=h.sz;have b:aP (V<|Z' a) a<|aF a<|au Ap 318:=(zt _ _).alloc (zd _) _;refine⟨h.fH.alloc h.fH.size _,c,h.b0.Y b À,h.b1.Y b À,h.b2.Y b À,?_⟩;rw[QO];exact xn a _
def xi8(w):aK prog 247 #[] w λen w'=>en=ai (bY (bH (ki Sn 256)))/\aP (V<|Z' w) w w':=by
 have bb:=(zero_of_info Ĝ).1;have ba:=(zero_of_info xtc).1;have F:=BI.gC w;have y:∀wr,BI w (An 255) (xS 255) wr->ug w (V<|Z' wr) 0 (aF wr<|au Ap 318):=λwr h=>h.Es;generalize Ap=zz6 at*;generalize Me=zz5 at*;go_enter func247.1,Tryz.ntmps247;go_wp2;go_loopw [3,4] (λx i wr=>∃k:aD,k<=255/\i=J k/\x=J (e8<|Pw k)/\BI w (An k) (xS k) wr) (λ_ i _=>bL (255-bZ i));exact⟨0,À,O,O,F⟩;obtain⟨k,hk,rfl,rfl,inv⟩:=hrel;have g':=inv.sz;by_cases a:k<255
 ·have h2:(k:U)<255:=by omega
  have HP:H<|Pw (k+1)=Pw k^^^oO (Pw k):=VX k a;have n:BI w (An<|k+1) (xS<|k+1)<|M (M wr (zq (V (Z' w)+1) k)<|J<|e8<|Pw k) (zq (V (Z' w)+1+1)<|bL (e8<|Pw k))<|J k:=by
   have v':(k:U)=e8 (mZ k):=by simp[e8];omega
   rw[v',FK];refine((inv.IC k<|Pw k).yt _<|UInt8.ofNat k).cH (λi _=>?_) λi _=>O;unfold An;by_cases e:i=k;grind;grind
  have G:N wr (zq (V (Z' w)+1) k)=(J<|e8<|An k k):=inv.b1.i a;have hx:aX wr (zq (V (Z' w)+1) k)=ao:=inv.b1.eQ;have j:=inv.IC k<|Pw k;have es:bL (e8<|Pw k)<256:=by rw[FK];exact(Pw k).toNat_lt
  have ho:N (M wr (zq (V (Z' w)+1) k)<|J<|e8<|Pw k) (zq (V (Z' w)+1+1)<|bL (e8<|Pw k))=(J<|e8<|xS k (bL (e8<|Pw k))):=j.b2.i es;have f2:aX (M wr (zq (V (Z' w)+1) k)<|J<|e8<|Pw k) (zq (V (Z' w)+1+1)<|bL (e8<|Pw k))=ao:=j.b2.eQ;have p0:=uz<|Pw k;have p1:=uQ<|Pw k;generalize An k k=z1 at*;generalize xS k (bL (e8<|Pw k))=z2 at*;generalize Pw k=x at*;go_upto_region 8 with fail
  generalize M wr (zq (V (Z' w)+1) k) (J<|e8 x)=wa at*;go_wp2;refine(Ml x _).mono ?_;rintro en w2⟨rfl,rfl⟩;go_wp2;go_roundw;exact⟨k+1,À,Å,by rw[HP.o],n⟩;exact Ì
 obtain rfl:k=255:=À
 have d:=y wr inv;clear inv y hk a g';go_wp2;generalize hw3:aF wr (au zz6 318)=w3 at*;obtain⟨g,hg⟩:∃g,V (Z' wr)=g:=⟨_,O⟩;rw[hg]at d⊢;go_loopw [6] (λi wr=>∃k:aD,k<=256/\i=J k/\ug w g k wr) (λi _=>bL (256-bZ i));exact⟨0,À,O,d⟩;clear d;obtain⟨k,hk,rfl,inv⟩:=hrel;by_cases a:k<256
 ·have h2:(k:U)<256:=by omega
  have hd:bR ((k:U)<256)=ay:=jm h2;by_cases f:k=0
  ·have i2:¬(0:U)<(k:U):=by omega
   have h3:H<|k=0:=f;clear f;have c:ug w g k wr:=inv;have z1:lr .or bB 0 0=0:=Ê
   have z2:lr .and bB 0 255=0:=Ê
   have z3:lr .xor bB 0 0=0:=Ê
   have z4:lr .xor bB 0 99=99:=Ê
   clear inv;go_wp2;try rw[hd]
   go_loopw [8,9] (λs i wq=>∃m:aD,1<=m/\m<=5/\i=J m/\s=J 0/\ug w g k wq) (λ_ i _=>bL (5-bZ i));exact⟨1,À,À,O,O,c⟩;clear c;obtain⟨m,m1,m5,rfl,rfl,inv⟩:=hrel;have c:ug w g k wr:=inv;by_cases hm:m<5
   ·obtain rfl|rfl|rfl|rfl:m=1\/m=2\/m=3\/m=4:=by omega
    ·clear inv;go_wp2;go_quiet (fail);go_wp2;go_roundw;exact⟨2,À,À,Å,O,c.fV _⟩;simp[bZ]
    ·clear inv;go_wp2;go_quiet (fail);go_wp2;go_roundw;exact⟨3,À,À,Å,O,c.fV _⟩;simp[bZ]
    ·clear inv;go_wp2;go_quiet (fail);go_wp2;go_roundw;exact⟨4,À,À,Å,O,c.fV _⟩;simp[bZ]
    clear inv;go_wp2;go_quiet (fail);go_wp2;go_roundw;exact⟨5,À,À,Å,O,c.fV _⟩;simp[bZ]
   obtain rfl:m=5:=À
   have G:N wr (zq g k)=(J<|e8<|Et k k):=inv.b3.i À;have hx:aX wr (zq g k)=ao:=inv.b3.eQ;have n:=inv.H À;have o:ug w g (k+1)<|M wr (zq g k)<|J<|e8<|Sn k:=n;have L:e8 (Sn k)=99:=by rw[h3.o];rfl
   rw[L]at o;clear n inv c;generalize Et k k=z at*;go_wp2;go_roundw
   ·first|exact⟨k+1,À,Å,o⟩|((repeat apply ng);exact⟨⟨k+1,À,Å,o⟩,O⟩)
   exact Î
  have i2:(0:U)<(k:U):=À
  obtain⟨l,I⟩:∃l,Lt.getD k 0=l:=⟨_,O⟩;obtain⟨q,X⟩:∃q,(255-aN l)%255=q:=⟨_,O⟩;obtain⟨b,W⟩:∃b,QF k=b:=⟨_,O⟩;have l5:aN l<255:=by rw[<-I];exact jbs k a
  have el:e8 l<255:=by simp only[e8];omega
  have l0:=uz l;have B:IntKind.i64.wrap (255-e8 l)=255-e8 l:=Í
  have et:(255-e8 l).tmod 255=(q:aD):=by rw[qo À];simp only[e8];omega
  have P:q<255:=À
  have q6:(q:U)<255:=À
  have G:N wr (zq (V (Z' w)+1+1) k)=(J<|e8 l):=by rw[inv.b2.i a,xyn k a,I]
  have ho:N wr (zq (V (Z' w)+1) q)=(J<|e8 b):=by
   rw[inv.b1.i P];have e:An 255 q=b:=by rw[<-W];unfold An QF;rw[aT P,aL f,I,X]
   rw[e]
  have b0:=uz b;have b1:=uQ b;have c:ug w g k wr:=inv;clear inv I X f;go_wp2;try rw[hd]
  clear G ho B et P q6 el l0 l5;go_loopw [8,9] (λs i wq=>∃m:aD,1<=m/\m<=5/\i=J m/\s=J (e8<|vO b<|m-1)/\ug w g k wq) (λ_ i _=>bL (5-bZ i));exact⟨1,À,À,O,O,c⟩;clear c;obtain⟨m,m1,m5,rfl,rfl,inv⟩:=hrel;have c:ug w g k wr:=inv;by_cases hm:m<5
  ·obtain rfl|rfl|rfl|rfl:m=1\/m=2\/m=3\/m=4:=by omega
   ·have r:=xzh b;have B:IntKind.i64.wrap (e8 b*2)=e8 b*2:=by rw[zh]<;>omega
    have p:H<|vO b (1-1)^^^pD b 1=vO b (2-1):=O;clear inv;generalize vO b (1-1)=x at*;go_wp2;go_quiet (fail);go_wp2;go_roundw;exact⟨2,À,À,Å,oD,c.fV _⟩;simp[bZ]
   ·have r:=xzi b;have B:IntKind.i64.wrap (e8 b*4)=e8 b*4:=by rw[zh]<;>omega
    have p:H<|vO b (2-1)^^^pD b 2=vO b (3-1):=O;clear inv;generalize vO b (2-1)=x at*;go_wp2;go_quiet (fail);go_wp2;go_roundw;exact⟨3,À,À,Å,oD,c.fV _⟩;simp[bZ]
   ·have r:=xzj b;have B:IntKind.i64.wrap (e8 b*8)=e8 b*8:=by rw[zh]<;>omega
    have p:H<|vO b (3-1)^^^pD b 3=vO b (4-1):=O;clear inv;generalize vO b (3-1)=x at*;go_wp2;go_quiet (fail);go_wp2;go_roundw;exact⟨4,À,À,Å,oD,c.fV _⟩;simp[bZ]
   have r:=xzk b;have B:IntKind.i64.wrap (e8 b*16)=e8 b*16:=Í
   have p:H<|vO b (4-1)^^^pD b 4=vO b (5-1):=O;clear inv;generalize vO b (4-1)=x at*;go_wp2;go_quiet (fail);go_wp2;go_roundw;exact⟨5,À,À,Å,oD,c.fV _⟩;simp[bZ]
  obtain rfl:m=5:=À
  have G:N wr (zq g k)=(J<|e8<|Et k k):=inv.b3.i À;have hx:aX wr (zq g k)=ao:=inv.b3.eQ;have n:=inv.H À;have o:ug w g (k+1)<|M wr (zq g k)<|J<|e8<|Sn k:=n;have L:Sn k=vO b 4^^^99:=by rw[<-xyh k a,W];rfl
  rw[L]at o;clear n inv c;generalize Et k k=z at*;go_wp2;go_roundw
  ·first|exact⟨k+1,À,Å,o⟩|((repeat apply Exists.intro);exact⟨⟨k+1,À,Å,o⟩,rfl⟩)
  exact Î
 obtain rfl:k=256:=À
 have D:=(inv.b3.cH (g:=Sn) λi u=>by unfold Et;simp_all);have t:=inv.b0;have C:=inv.fH;unfold Jp at D t;have u:(prog.info? 318).map (·.size)=ac (V (ki Sn 256).toArray):=by rw[xV];exact QS
 have h1:=Mq Sn 256;have S:V (ki zF 256).toArray=V (ki Sn 256).toArray:=by rw[xV,xV]
 have ih:(wr.setRow (V<|Z' w) (bH (ki Sn 256))).heap[V (Z' w)]?=ac (au (bH (ki Sn 256)) 318 (0,0)):=Jr _ _ _ _ _ _ t;have hs:=Ea (b:=V (Z' w)) (bH (ki Sn 256)) C À;clear inv hk a;generalize hKK:bH (ki Sn 256)=cs at*;have bc:H<|bH (ki Sn 256)=cs:=hKK;clear hKK;go_wp2_with (first|refine J6 O 318 _ O g O 318 _ (0,0) _ D lA O u ?_|refine Zo O 318 _ _ O w.heap.size _ O O 318 _ t u S h1 ?_);exact ji (v:=bY cs) (Jf O _ _ (V<|Z' w) 318 _ (0,0) _ O ih lA O u) O ⟨by rw[<-bc.o],hs⟩
end
section
attribute [local go_sem] Gb zn
theorem Ĥ(f c i)(h:i<4):lC f c i=yv f c i^^^f i:=by grind [Pc]
theorem ģ(f c i):lC f c (i+4)=lC f c i^^^f (i+4):=by grind [Pc]
def iO(z:Zu)(j:aD):Z8:=kY z (j/16)<|j%16
def xU(z:Zu)(n k:aD):Z8:=if n%16=0 then yv (kY z<|n/16-1) (tC<|n/16-1) k else iO z (n-4+k)
def xp1(z n k)(c:n%4=0)(a:16<=n)(hk:k<4):iO z (n-16+k)^^^xU z n k=iO z (n+k):=by obtain⟨r,b⟩:∃r,n/16-1=r:=⟨_,O⟩;unfold xU iO;rw[b,show(n+k)/16=r+1 by omega,show(n+k)%16=n%16+k by omega,show(n-16+k)/16=r by omega,show(n-16+k)%16=n%16+k by omega];show _=lC (kY z r) (tC r) (n%16+k);by_cases h:n%16=0;grind [Ĥ];rw[aL h,show n%16+k=(n%16-4+k)+4 by omega,ģ,show(n-4+k)/16=r+1 by omega,show(n-4+k)%16=n%16-4+k by omega,UInt8.xor_comm];rfl
def wK(z:Zu)(n j:aD):Z8:=if j<n then iO z j else 0
structure SI(w:Zy)(z:Zu)(W:Zy):Prop where
 fH:aP (V<|Z' w) w W
 sz:V (Z' w)+1+1<V (Z' W)
 b0:Jp W (V<|Z' w) Sn 256 318
 b1:Jp W (V (Z' w)+1) zF 176 320
 b2:Jp W (V (Z' w)+1+1) z 176 320
def SI.gC(w):SI w zF<|aF (aF (aF w<|au (bH (ki Sn 256)) 318)<|au (bH (ki zF 176)) 320)<|au (bH (ki zF 176)) 320:=by
 refine⟨(((zt _ _).alloc (zd _) _).alloc Â _).alloc Ç _,Â,?_,?_,?_⟩;all_goals (show(((w.heap.push _).push _).push _)[_]?=_)
 all_goals (simp[jb,Xi])
 grind;grind;grind
def SI.W{z}(h:SI w z a):SI w z a.drew:=⟨h.fH.drew,h.sz,h.b0,h.b1,h.b2⟩
def SI.gN{b z}(h:SI w z b)(a:aP (V<|Z' b) b w'):SI w z w':=
 have c:=h.sz
 ⟨h.fH.trans<|a.mono h.fH.size,zm h.sz a.size,h.b0.Y a À,h.b1.Y a À,h.b2.Y a À⟩
theorem SI.H{z}(h:SI w z a)(k v):SI w (λi=>if i=k then v else z i)<|M a (zq (V (Z' w)+1+1) k)<|J<|e8 v:=
 ⟨h.fH.setCell Á _,Ö,h.b0.dR À,h.b1.dR À,h.b2.H k v⟩
theorem SI.put{z}(h:SI w z a)(g)(b:V (Z' w)+1+1<g)(k v):SI w z<|M a (zq g k) v:=
 ⟨h.fH.setCell Á _,Ö,h.b0.dR À,h.b1.dR À,h.b2.dR À⟩
theorem SI.cH{f2 f3}(h:SI w f2 a)(e:∀i,i<176->f2 i=f3 i):SI w f3 a:=⟨h.fH,h.sz,h.b0,h.b1,h.b2.cH e⟩
def ğ(z n i):(if i=n then iO z n else wK z n i)=wK z (n+1) i:=by grind [wK]
def IE:Za:=cL 176<|Q bB 0
def ě:((prog.info? 320).map λi=>(i.zero,i.size))=ac (ac<|bY IE,176):=Ä
def QR:(prog.info? 320).map (·.size)=ac 176:=Ä
def Ě:IE=bH (ki zF 176):=QQ 176
def Jp.drw{f}(h:Jp w b f n t):Jp w.drew b f n t:=h
def Jp.qN(h:Jp w g Sn 256 t)(x):N w (zq g<|bL (e8 x))=(J<|e8<|Sx x):=by rw[FK,h.i x.toNat_lt,VY]
theorem zxi(l)(hl:T l=16)(w):aK prog 248 #[E l,bY (bH (ki Sn 256))] w λen w'=>en=ai (bY (bH (ki (iO λi=>l.getD i 0) 176)))/\aP (V<|Z' w) w w':=by
 have hz:=(zero_of_info ě).1;have D:=SI.gC w;rw[<-Ě]at D;generalize IE=zz at*;go_enter func248.1,Tryz.ntmps248;go_wp2;go_loopw [6] (λi wr=>∃k:aD,k<=16/\i=J k/\SI w (wK (λi=>l.getD i 0) k) wr) (λi _=>bL (16-bZ i));exact⟨0,À,O,D⟩;obtain⟨k,hk,rfl,inv⟩:=hrel;have s:=inv.sz;by_cases v':k<16
 ·have i1:(k:U)<16:=by omega
  have i2:(k:U)<(T l:aD):=À
  have i3:(k:U)<176:=À
  have L:k<T l:=À
  obtain⟨a,ha⟩:∃a,(st l)[k]'(by rw[zn];exact L)=a:=⟨_,O⟩;have ew:IntKind.i64.wrap (aN a:U)=(aN a:U):=QL a;have c1:N wr (zq (V (Z' w)+1+1) k)=ac (J<|e8<|wK (λi=>l.getD i 0) k k):=inv.b2.i À;have f1:aX wr (zq (V (Z' w)+1+1) k)=ao:=inv.b2.eQ;have u:SI w (wK (λi=>l.getD i 0)<|k+1)<|M wr (zq (V (Z' w)+1+1) k)<|J (aN a):=by
   refine(inv.H k a).cH λi _=>?_;have e:iO (λi=>l.getD i 0) k=a:=by unfold iO;rw[show k/16=0 by omega,show k%16=k by omega,<-ha];show l.getD k 0=l[k];simp[List.getD,L]
   rw[<-e];exact ğ _ k i
  generalize wK (λi=>l.getD i 0) k k=z at*;go_wp2;go_roundw
  ·first|exact⟨k+1,À,Å,u⟩|((repeat apply Exists.intro);exact⟨⟨k+1,À,Å,u⟩,rfl⟩)
  exact Î
 obtain rfl:k=16:=À
 generalize hkey:(λi=>l.getD i 0)=key at*;have W:(λi=>l.getD i 0)=key:=hkey;go_wp2;go_loopw [7,8] (λco i wr=>∃n:aD,16<=n/\n<=176/\n%4=0/\i=J n/\co=J (e8<|tC<|(n-1)/16)/\SI w (wK key n) wr) (λ_ i _=>bL (176-bZ i));exact⟨16,À,À,À,O,O,inv⟩;obtain⟨n,es,hn,h3,rfl,rfl,inv⟩:=hrel;have s:=inv.sz;by_cases v':n<176
 ·obtain⟨m,hm⟩:∃m,n-4=m:=⟨_,O⟩;have i1:(n:U)<176:=by omega
  have hd:bR ((n:U)<176)=ay:=jm i1;have e4:IntKind.i64.wrap ((n:U)-4)=(m:U):=Í
  have e3:IntKind.i64.wrap ((n:U)-3)=(m:U)+1:=Í
  have e2:IntKind.i64.wrap ((n:U)-2)=(m:U)+2:=Í
  have e1:IntKind.i64.wrap ((n:U)-1)=(m:U)+3:=Í
  have m0:(m:U)<176:=À
  have m1:(m:U)+1<176:=À
  have m2:(m:U)+2<176:=À
  have m3:(m:U)+3<176:=À
  have n1:(0:U)<=(m:U)+1:=À
  have n2:(0:U)<=(m:U)+2:=À
  have n3:(0:U)<=(m:U)+3:=À
  have t1:bL ((m:U)+1)=m+1:=À
  have t2:bL ((m:U)+2)=m+2:=À
  have t3:bL ((m:U)+3)=m+3:=À
  obtain⟨j,be⟩:∃x,iO key m=x:=⟨_,O⟩;obtain⟨o,bf⟩:∃x,iO key (m+1)=x:=⟨_,O⟩;obtain⟨q,bg⟩:∃x,iO key (m+2)=x:=⟨_,O⟩;obtain⟨r,bh⟩:∃x,iO key (m+3)=x:=⟨_,O⟩;have HS:∀w',SI w (wK key n) w'->N w' (zq (V (Z' w)+1+1) m)=(J<|e8 j)/\N w' (zq (V (Z' w)+1+1)<|m+1)=(J<|e8 o)/\N w' (zq (V (Z' w)+1+1)<|m+2)=(J<|e8 q)/\N w' (zq (V (Z' w)+1+1)<|m+3)=(J<|e8 r):=λw' h=>⟨by rw[h.b2.i À];unfold wK;rw[aT À,be],by rw[h.b2.i À];unfold wK;rw[aT À,bf],by rw[h.b2.i À];unfold wK;rw[aT À,bg],by rw[h.b2.i À];unfold wK;rw[aT À,bh]⟩;have S:SI w (wK key n) wr:=inv;have S0:=HS wr inv;have F:∀k,k<4->(λk=>if k=0 then j else if k=1 then o else if k=2 then q else r) k=iO key (n-4+k):=λk hk=>by
   obtain rfl|rfl|rfl|rfl:k=0\/k=1\/k=2\/k=3:=À
   simp_all;simp_all;simp_all;simp_all
  have HA:∀P,SI w (wK key n) (aF wr P).drew:=λP=>(S.gN<|(zt _ _).alloc (zd _) P).W;have S1:=λP=>HS _<|HA P;go_wp2;go_region_held3 (λw'=>N w' (zq (V (Z' w)+1+1) m)=(J<|e8 j)/\N w' (zq (V (Z' w)+1+1)<|m+1)=(J<|e8 o)/\N w' (zq (V (Z' w)+1+1)<|m+2)=(J<|e8 q)/\N w' (zq (V (Z' w)+1+1)<|m+3)=(J<|e8 r)) (first|exact S0|exact S1 _) (fail);have f:=HA<|au #[J<|e8 j,J<|e8 o,J<|e8 q,J<|e8 r] 351;have d:Jp (aF wr<|au #[J<|e8 j,J<|e8 o,J<|e8 q,J<|e8 r] 351).drew (V<|Z' wr) (λk=>if k=0 then j else if k=1 then o else if k=2 then q else r) 4 351:=xn wr<|au #[J<|e8 j,J<|e8 o,J<|e8 q,J<|e8 r] 351;generalize(aF wr<|au #[J<|e8 j,J<|e8 o,J<|e8 q,J<|e8 r] 351).drew=w3 at*;generalize V (Z' wr)=g at*;by_cases hr:n%16=0;focus
   have er:((n:U)%16==0)=ay:=Ç
   obtain⟨c,h2⟩:∃c,tC ((n-1)/16)=c:=⟨_,O⟩;rw[h2];have cs:H<|tC ((n+4-1)/16)=oO c:=by show _=_;rw[<-h2,show(n+4-1)/16=(n-1)/16+1 by omega];rfl
   have HH:∀k,k<4->(if k=3 then Sx j else if k=2 then Sx r else if k=1 then Sx q else if k=0 then Sx o^^^c else(0:Z8))=xU key n k:=λk hk=>by
    have q0:=F 0 À;have q1:=F 1 À;have q2:=F 2 À;have q3:=F 3 À;simp only[dY,aL (show¬(1:aD)=0 by decide),aL (show¬(2:aD)=0 by decide),aL (show¬(2:aD)=1 by decide),aL (show¬(3:aD)=0 by decide),aL (show¬(3:aD)=1 by decide),aL (show¬(3:aD)=2 by decide)]at q0 q1 q2 q3;have X:kY key (n/16-1) 12=j:=by rw[q0];unfold iO;rw[show(n-4+0)/16=n/16-1 by omega,show(n-4+0)%16=12 by omega]
    have hs:kY key (n/16-1) 13=o:=by rw[q1];unfold iO;rw[show(n-4+1)/16=n/16-1 by omega,show(n-4+1)%16=13 by omega]
    have ba:kY key (n/16-1) 14=q:=by rw[q2];unfold iO;rw[show(n-4+2)/16=n/16-1 by omega,show(n-4+2)%16=14 by omega]
    have bb:kY key (n/16-1) 15=r:=by rw[q3];unfold iO;rw[show(n-4+3)/16=n/16-1 by omega,show(n-4+3)%16=15 by omega]
    unfold xU yv;rw[aT hr,X,hs,ba,bb,show n/16-1=(n-1)/16 by omega,h2];obtain rfl|rfl|rfl|rfl:k=0\/k=1\/k=2\/k=3:=À
    all_goals rfl
   have c0:N w3 (zq g 0)=(J<|e8 j):=d.i (k:=0) Ã;have c1:N w3 (zq g 1)=(J<|e8 o):=d.i (k:=1) Ã;have c2:N w3 (zq g 2)=(J<|e8 q):=d.i (k:=2) Ã;have c3:N w3 (zq g 3)=(J<|e8 r):=d.i (k:=3) Ã;have f0:aX w3 (zq g 0)=ao:=d.eQ;have f1:aX w3 (zq g 1)=ao:=d.eQ;have f2:aX w3 (zq g 2)=ao:=d.eQ;have f3:aX w3 (zq g 3)=ao:=d.eQ;have y0:=f.b0.qN j;have y1:=f.b0.qN o;have y2:=f.b0.qN q;have y3:=f.b0.qN r;have l0:=uz j;have l1:=uz o;have l2:=uz q;have l3:=uz r;have u0:=uQ j;have u1:=uQ o;have u2:=uQ q;have u3:=uQ r;have H4:=((((f.put g s 0<|J<|e8<|Sx o^^^c).put g s 1<|J<|e8<|Sx q).put g s 2<|J<|e8<|Sx r).put g s 3<|J<|e8<|Sx j).W;have R4:=Jp.cH (g:=xU key n) ((((d.H 0<|Sx o^^^c).H 1<|Sx q).H 2<|Sx r).H 3<|Sx j).drw λk hk=>by
    rw[<-HH k hk];obtain rfl|rfl|rfl|rfl:k=0\/k=1\/k=2\/k=3:=À
    all_goals rfl
   clear f d HH F h2;go_wp2;go_still_tail 19,Ä;go_upto_region 13 with fail
   generalize World.drew _=w4 at*;clear c0 c1 c2 c3 f0 f1 f2 f3 y0 y1 y2 y3 l0 l1 l2 l3 u0 u1 u2 u3;go_wp2;refine(Ml c _).mono ?_;rintro en w5⟨rfl,rfl⟩;go_wp2;have t:SI w (wK key<|n+0) w5:=H4;have B:=R4;have g':H<|tC ((n+4-1)/16)=oO c:=cs.o
  rotate_left;focus
   have er:((n:U)%16==0)=ao:=Ç
   have cs:H<|tC ((n+4-1)/16)=tC ((n-1)/16):=by show _=_;rw[show(n+4-1)/16=(n-1)/16 by omega]
   have B:Jp w3 g (xU key n) 4 351:=d.cH λk hk=>by rw[F k hk];unfold xU;simp_all
   clear d F;generalize tC ((n-1)/16)=c at*;go_wp2;have t:SI w (wK key<|n+0) w3:=f;have g':H<|tC ((n+4-1)/16)=c:=cs.o
  all_goals
   go_loopw [10] (λi wq=>∃k:aD,k<=4/\i=J k/\SI w (wK key<|n+k) wq/\Jp wq g (xU key n) 4 351) (λi _=>bL (4-bZ i));exact⟨0,À,O,t,B⟩;clear t B;obtain⟨k,hk,rfl,inv,C⟩:=hrel;by_cases bd:k<4
   ·obtain⟨p,hp⟩:∃p,n-16=p:=⟨_,O⟩;have k1:(k:U)<4:=by omega
    have a1:IntKind.i64.wrap ((n:U)+(k:U))=(n:U)+(k:U):=Í
    have a2:IntKind.i64.wrap ((n:U)-16)=(p:U):=Í
    have a3:IntKind.i64.wrap ((p:U)+(k:U))=(p:U)+(k:U):=Í
    have a4:(n:U)+(k:U)<176:=À
    have a5:(p:U)+(k:U)<176:=À
    have a6:(0:U)<=(n:U)+(k:U):=À
    have a7:(0:U)<=(p:U)+(k:U):=À
    have a8:bL ((n:U)+(k:U))=n+k:=À
    have a9:bL ((p:U)+(k:U))=p+k:=À
    have d1:N wr (zq (V (Z' w)+1+1)<|p+k)=(J<|e8<|iO key<|p+k):=by rw[inv.b2.i À];unfold wK;rw[aT À]
    have d2:N wr (zq g k)=(J<|e8<|xU key n k):=C.i À;have d3:N wr (zq (V (Z' w)+1+1)<|n+k)=(J<|e8<|wK key (n+k)<|n+k):=inv.b2.i À;have d4:aX wr (zq (V (Z' w)+1+1)<|n+k)=ao:=inv.b2.eQ;have hx:iO key (p+k)^^^xU key n k=iO key (n+k):=by rw[<-hp];exact xp1 key n k h3 es bd
    have u:SI w (wK key<|n+(k+1))<|M wr.drew (zq (V (Z' w)+1+1)<|n+k)<|J<|e8<|iO key<|n+k:=(inv.W.H (n+k) _).cH λi _=>ğ key (n+k) i;have HR:Jp (M wr.drew (zq (V (Z' w)+1+1)<|n+k)<|J<|e8<|iO key<|n+k) g (xU key n) 4 351:=Jp.dR (w:=wr.drew) C À;clear inv C hp;generalize wK key (n+k) (n+k)=z at*;generalize iO key (n+k)=v at*;generalize iO key (p+k)=y at*;generalize xU key n k=x at*;go_wp2;go_still_tail 14,Ä;go_wp2;go_roundw
    ·first|exact⟨k+1,À,Å,u,HR⟩|((repeat apply Exists.intro);exact⟨⟨k+1,À,Å,u,HR⟩,rfl⟩)
    exact Î
   have ke:k=4:=À
   have k1:¬(k:U)<4:=À
   have S:SI w (wK key<|n+4) wr:=by rw[ke]at inv;exact inv
   clear inv C ke;go_wp2;go_roundw
   ·first|exact⟨n+4,À,À,À,Å,by rw[g'.o],S⟩|((repeat apply Exists.intro);exact⟨⟨n+4,À,À,À,Å,by rw[g'.o],S⟩,rfl⟩)
   exact Î
 obtain rfl:n=176:=À
 have inv:=inv.cH (f3:=iO key) (λi ho=>by unfold wK;simp_all);have w2:=inv.b2;have G:=inv.b1;have I:=inv.fH;unfold Jp at w2 G;have ho:(prog.info? 320).map (·.size)=ac (V (ki (iO key) 176).toArray):=by rw[xV];exact QR
 have h1:=Mq (iO key) 176;have bi:V (ki zF 176).toArray=V (ki (iO key) 176).toArray:=by rw[xV,xV]
 have hw:(wr.setRow (V (Z' w)+1) (bH (ki (iO key) 176))).heap[V (Z' w)+1]?=ac (au (bH (ki (iO key) 176)) 320 (0,0)):=Jr _ _ _ _ _ _ G;have bc:=Ea (b:=V (Z' w)+1) (bH (ki (iO key) 176)) I À;clear inv hn es h3 v' s;generalize hKK:bH (ki (iO key) 176)=ih at*;have HK:H<|bH (ki (iO key) 176)=ih:=hKK;clear hKK;go_wp2_with (first|refine J6 O 320 _ O (V (Z' w)+1+1) O 320 _ (0,0) _ w2 lB O ho ?_|refine Zo O 320 _ _ O (V (Z' w)+1) _ O O 320 _ G ho bi h1 ?_);exact ji (v:=bY ih) (Jf O _ _ (V (Z' w)+1) 320 _ (0,0) _ O hw lB O ho) O ⟨by rw[W,<-HK.o],bc⟩
end
end P
end Go.Proofs.YtjnbhiamaabbgaaGreatDoor
