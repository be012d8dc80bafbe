import Derived.Test.YtjnbhiamaabbgabGreatDoorM12
set_option linter.all false
set_option maxRecDepth 100000
set_option maxHeartbeats 8000000
namespace Go.Proofs.YtjnbhiamaabbgabGreatDoor
open Bool renaming false->bK,true->bL
open Go renaming Calls->bE,Oper->aD,execOp->bG,results->aN,undef->bJ
open Go.Proofs.Tryz renaming prog->bM
open Option renaming none->bN,some->bO
open _root_.Array renaming replicate->aW
namespace P
open A.Tryq Go.RowKit A
variable [pn:A.Pn]
attribute [local go_sem] xe zv
def Gn(B:Nat)(v2:Zv)(b:Nat)(a:Act):Prop:=∃x1 x4 x5 x6 x7 x8 x9 x10 x11 x12 x13 x14 x15 x16 x17 x18 x19 x20 x21 x22 x23 x24 x25 x26 x27 x28 x29 x30 x31 x32 x33 x34 x35 x36 x37 x38 x39 x40 x41 x42 x43 x44,a=⟨#[zo B,x1,v2,zo b,x4,x5,x6,x7,x8,x9,x10,x11,x12,x13,x14,x15,x16,x17,x18,x19,x20,x21,x22,x23,x24,x25,x26,x27,x28,x29,x30,x31,x32,x33,x34,x35,x36,x37,x38,x39,x40,x41,x42,x43,x44],[]⟩
def xmu{a:Act}{B b:Nat}{v2:Zv}(d:a.defers=[])(c:a.tmps.size=45)(e:At a 0<|zo B)(f:At a 2 v2)(g:At a 3<|zo b):Gn B v2 b a:=by
 obtain⟨⟨l⟩,W⟩:=a;simp only at d;subst d;simp only[jg]at c;unfold At at e f g;simp only[q8]at e f g;obtain _|⟨X,l⟩:=l;simp at c;obtain _|⟨Y,l⟩:=l;simp at c;obtain _|⟨Z,l⟩:=l;simp at c;obtain _|⟨x3,l⟩:=l;simp at c;obtain _|⟨x4,l⟩:=l;simp at c;obtain _|⟨x5,l⟩:=l;simp at c;obtain _|⟨x6,l⟩:=l;simp at c;obtain _|⟨x7,l⟩:=l;simp at c;obtain _|⟨x8,l⟩:=l;simp at c;obtain _|⟨x9,l⟩:=l;simp at c;obtain _|⟨h,l⟩:=l;simp at c;obtain _|⟨i,l⟩:=l;simp at c;obtain _|⟨j,l⟩:=l;simp at c;obtain _|⟨k,l⟩:=l;simp at c;obtain _|⟨m,l⟩:=l;simp at c;obtain _|⟨n,l⟩:=l;simp at c;obtain _|⟨o,l⟩:=l;simp at c;obtain _|⟨p,l⟩:=l;simp at c;obtain _|⟨q,l⟩:=l;simp at c;obtain _|⟨r,l⟩:=l;simp at c;obtain _|⟨s,l⟩:=l;simp at c;obtain _|⟨t,l⟩:=l;simp at c;obtain _|⟨v,l⟩:=l;simp at c;obtain _|⟨w,l⟩:=l;simp at c;obtain _|⟨x,l⟩:=l;simp at c;obtain _|⟨z,l⟩:=l;simp at c;obtain _|⟨C,l⟩:=l;simp at c;obtain _|⟨D,l⟩:=l;simp at c;obtain _|⟨E,l⟩:=l;simp at c;obtain _|⟨F,l⟩:=l;simp at c;obtain _|⟨G,l⟩:=l;simp at c;obtain _|⟨H,l⟩:=l;simp at c;obtain _|⟨I,l⟩:=l;simp at c;obtain _|⟨J,l⟩:=l;simp at c;obtain _|⟨K,l⟩:=l;simp at c;obtain _|⟨L,l⟩:=l;simp at c;obtain _|⟨M,l⟩:=l;simp at c;obtain _|⟨N,l⟩:=l;simp at c;obtain _|⟨O,l⟩:=l;simp at c;obtain _|⟨Q,l⟩:=l;simp at c;obtain _|⟨R,l⟩:=l;simp at c;obtain _|⟨S,l⟩:=l;simp at c;obtain _|⟨T,l⟩:=l;simp at c;obtain _|⟨U,l⟩:=l;simp at c;obtain _|⟨V,l⟩:=l;simp at c;obtain _|⟨y,l⟩:=l;rotate_left;simp at c;cases e;cases f;cases g;exact⟨_,_,_,_,_,_,_,_,_,_,_,_,_,_,_,_,_,_,_,_,_,_,_,_,_,_,_,_,_,_,_,_,_,_,_,_,_,_,_,_,_,_,rfl⟩
def V4(S:Nat)(k:Lk)(L:KV):Jo:=⟨S,k.mp,L,.slice bN 0 0,[],k.ep,k.base,k.last,k.named,0⟩
def xne(k:Lk)(d:Dk):(Xi k d).2.1.mp=k.mp/\(Xi k d).2.1.m=k.m/\(Xi k d).2.1.ep=k.ep:=by
 unfold Xi;split;split;exact⟨rfl,rfl,rfl⟩;exact⟨rfl,rfl,rfl⟩;split;split;exact⟨rfl,rfl,rfl⟩;exact⟨rfl,rfl,rfl⟩;exact⟨rfl,rfl,rfl⟩
def QX(cv tv:Zv)(B:Nat)(r:Sr)(w:Zy)(e:Ending)(w':Zy):Prop:=∃mp,w.heap.size<=mp/\match Yu (Jp r.m r.mark r.cnt r.op mp) r.d.L with
 |none=>e=eF tv/\jt B r w r w'
 |some (k,L)=>((Xi k r.d).1=bL/\e= .returned (zi 0)/\∃S,jt B r w {r with cnt:=k.cnt,mark:=k.tag,d:=(Xi k r.d).2.2,sn:=bO<|V4 S (Xi k r.d).2.1 L} w')\/((Xi k r.d).1=bK/\e=eF cv/\jt B r w {r with cnt:=k.cnt,mark:=k.tag,d:=(Xi k r.d).2.2} w')
def xry{B b:Nat}{r:Sr}{w0 w w2 w3:Zy}{k:Lk}{L:KV}{k':Lk}{d':Dk}(m:Jq w0 B r)(v:r.sn=bN)(j:Nw w0 w)(Z:w0.heap.size<=b)(T:w0.heap.size<=k'.mp)(V:Xd w k'.mp L)(H:b≠k'.mp)
  (z:w2=(w.setCell (zq B 4)<|zi k.cnt).setCell (zq B 5) (zs k.tag))(g:xb (fun y=>y=b\/r.d.own r.D y) w2 w3)(o:Xg w3 r.D d')(ho:∀y,d'.own r.D y->r.d.own r.D y):
  jt B r w0 {r with cnt:=k.cnt,mark:=k.tag,d:=d'} w3/\jt B r w0 {r with cnt:=k.cnt,mark:=k.tag,d:=d',sn:=bO<|V4 w3.heap.size k' L} ((w3.alloc<|.cells (V4 w3.heap.size k' L).cells 152).setCell (zq B 7)<|zo w3.heap.size):=by
 have q:=fun x (f:r.d.own r.D x)=>Dk.bX m.disk f;have S:=m.blk.lt;have R:=m.blk.nw j;have F:xb (·=B) w w2:=by rw[z];exact(xb.set w (zq B 4) _).trans<|xb.set _ (zq B 5) _
 have N:xx w2 B ({r with cnt:=k.cnt,mark:=k.tag,d:=d'}:Sr).cells 94:=by
  have O:=(R.set 4<|zi k.cnt).set 5<|zs k.tag;rw[z];exact O
 have I:=N.but g (by
  rintro(e|e);omega;exact m.fB e)
 have U:=j.size;have X:=F.size;have Y:=g.size;have l:∀E,xb (fun y=>y=B\/w3.heap.size<=y) w3 E->xb (r.own B) w0 E:=fun E Q=>by
  have C:xb (fun y=>y=B\/y=b\/r.d.own r.D y\/w3.heap.size<=y) w E:=((F.mono fun _ h=> .inl h).trans<|g.mono fun _ h=>h.elim (fun e=> .inr (.inl e)) fun e=> .inr (.inr<|.inl e)).trans<|Q.mono fun _ h=>h.elim .inl fun e=> .inr (.inr<|.inr e);refine⟨C.os.trans j.os,C.output.trans j.output,xz j.size C.size,fun i J f=>(C.block i (zn J j.size) fun h=>?_).trans<|j.block i J id⟩;rcases h with e|e|e|e
  exact f<|.inl e;omega;exact f<|.inr<|.inl e;omega
 refine⟨⟨l w3<|xb.refl _ _,⟨I,o,fun s e=>by rw[show({r with cnt:=k.cnt,mark:=k.tag,d:=d'}:Sr).sn=r.sn from rfl,v]at e;cases e⟩,fun x f=>?_⟩, ?_⟩;rcases f with e|e|⟨s,e,_⟩
 exact .inl<|.inl e;exact .inl<|.inr<|.inl<|ho x e;rw[show({r with cnt:=k.cnt,mark:=k.tag,d:=d'}:Sr).sn=r.sn from rfl,v]at e;cases e;have G:xb (fun y=>y=B\/w3.heap.size<=y) w3<|(w3.alloc<|.cells (V4 w3.heap.size k' L).cells 152).setCell (zq B 7)<|zo w3.heap.size:=((Nw.alloc w3 _).mono fun _ h=>h.elim).trans<|(xb.set _ _ _).mono fun _ h=> .inl h;have p:¬r.d.own r.D k'.mp:=fun h=>by have:=q _ h;omega
 have t:=(V.but F<|by show¬k'.mp=B;omega).but g (by
  rintro(e|e);exact H e.symm;exact p e)
 have K:=t.lt;refine⟨l _ G,⟨?_, ?_,fun s e=>?_⟩,fun x f=>?_⟩;exact(I.alloc _).set 7 _;exact o.but G fun x f=>by
  rintro(e|e);exact m.fB (by rw[<-e];exact ho x f);have:=q x<|ho x f;omega
 cases e;refine⟨⟨?_, ?_, ?_⟩, ?_⟩;exact(xx.new w3 _ 152).other (by show w3.heap.size≠B;omega) _;exact t.but G (by
  rintro(e|e);have e:=e;omega;have e:=e;omega)
 exact Vl _ _ _ _;intro e;have e:k'.mp=d'.M:=e;exact p<|ho _<|.inr<|.inl e;rcases f with e|e|⟨s,e,f⟩
 exact .inl<|.inl e;exact .inl<|.inr<|.inl<|ho x e;cases e;rcases f with e|e|⟨a,n,c,W,e⟩
 have e:x=w3.heap.size:=e;exact .inr (by omega);have e:x=k'.mp:=e;exact .inr (by omega);cases W
def RE{cv tv v2:Zv}{B b:Nat}{r:Sr}{w0 w:Zy}{k:Lk}{L:KV}{R:Ending->Zy->Prop}{Po:Exit->Act->Zy->Prop}{a:Act}(ha:Gn B v2 b a)(p:Jq w0 B r)(G:r.sn=bN)(K:Nw w0 w)(hb:w0.heap.size<=b)(bc:w0.heap.size<=k.mp)
  (J:Xa w b k)(hs:Xd w k.mp L)(F:fV B r)(hG:iA cv tv w)(hw:k.dD=bL->0<=k.whole/\k.whole<=((qu r.d.L k.last).length:Nat))(bb:-1000000000000<=k.last/\k.last<=1000000000000)
  (z:Hid<|∀e a' w',nJ bM funcs Tryz.f40 R e a' w'->Po e a' w')
  (W:Hid<|∀w' S,(Xi k r.d).1=bL->jt B r w0 {r with cnt:=k.cnt,mark:=k.tag,d:=(Xi k r.d).2.2,sn:=bO<|V4 S (Xi k r.d).2.1 L} w'->R (.returned<|zi 0) w')
  (V:Hid<|∀w',(Xi k r.d).1=bK->jt B r w0 {r with cnt:=k.cnt,mark:=k.tag,d:=(Xi k r.d).2.2} w'->R (eF cv) w'):
  Kh.wp prog Po a w:=by
 obtain⟨x1,x4,x5,x6,x7,x8,x9,bi,bj,bk,bl,bm,bn,bo,bp,bq,br,bs,bt,bu,bv,bw,bx,bz,b0,b1,b2,b3,b4,b5,b6,b7,b8,b9,ca,cb,cc,cd,ce,cf,cg,ch,rfl⟩:=ha;have o:=zl<|p.blk.nw K;have HD:=zl<|p.disk.but K fun _ _=>id;have HL:=zl J;have HS:=zl hs;have HG:=zl hG;have N:=zl F;have M:=zl p;have HN:=zl K;have m:=zl G;have HW:=zl hw;have be:=p.blk.lt;have Y:¬b=B:=by omega
 have U:¬B=b:=by omega
 have Z:Hid<|¬r.d.own r.D b:=fun h=>by have:=Dk.bX p.disk h;omega
 have c2:w.cell? (zq B 2)=bO (zo r.D):=o.o.cell 2 rfl;have c4:w.cell? (zq B 4)=bO (zi r.cnt):=o.o.cell 4 rfl;have c5:w.cell? (zq B 5)=bO (zs r.mark):=o.o.cell 5 rfl;have f4:=o.o.bT 4;have f5:=o.o.bT 5;have l8:w.cell? (zq b 8)=bO (zi k.cnt):=J.cell 8 rfl;have l9:w.cell? (zq b 9)=bO (zs k.tag):=J.cell 9 rfl;clear p K J hs F hG G hw
 conv=>arg 2;whnf
 go_wp2_with fail
 obtain⟨H,g⟩:∃H,H=(w.setCell (zq B 4)<|zi k.cnt).setCell (zq B 5) (zs k.tag):=⟨_,rfl⟩;rw[<-g];have O:=zl g;have l:Hid (xb (·=B) w H):=by show xb _ _ _;rw[g];exact(xb.set w (zq B 4) _).trans<|xb.set _ (zq B 5) _
 have X2:Hid<|xx H B ({r with cnt:=k.cnt,mark:=k.tag}:Sr).cells 94:=by
  have T:=(o.o.set 4<|zi k.cnt).set 5<|zs k.tag;show xx _ _ _ _;rw[g];exact T
 have L2:Hid<|Xa H b k:=xx.but HL.o l.o Y;have D2:=zl (HD.o.but l.o fun x hx e=>M.o.fB<|by have e:x=B:=e;rw[<-e];exact hx);have X:b≠0:=by omega
 have C2:=zl (HG.o.FT.but l.o<|by have:=N.o.own B<|.inl rfl;show¬0=B;omega);clear g c2 c4 c5 f4 f5 l8 l9;refine(xnf b k r.D r.d _ L2.o D2.o N.o.FU N.o.few C2.o Z.o X HW.o bb).mono ?_;rintro e i ⟨I,n,f,C,E⟩;have j:=xne k r.d;have ba:b≠k.mp:=fun e=>by obtain⟨es,c,T⟩:=HS.o.blk;exact xx.cZ HL.o T e
 have Q:=xry M.o m.o HN.o hb (by rw[j.1];exact bc) (by rw[j.1];exact HS.o) (by rw[j.1];exact ba) O.o n C E;cases hm:(Xi k r.d).1 with
 |false=>
  rw[hm]at I;subst I;refine z.o _ _ _ ⟨rfl,V.o _ hm Q.1⟩
 |true=>
  rw[hm]at I;subst I;have y:=zl (X2.o.but n (by
   rintro(e|e);exact U e;exact M.o.fB e))
  have s:=Q.2;generalize(Xi k r.d).2.1=k' at*;have q:Hid<|∀S,S=i.heap.size->jt B r w0 {r with cnt:=k.cnt,mark:=k.tag,d:=(Xi k r.d).2.2,sn:=bO<|V4 S k' L} ((i.alloc<|.cells (V4 S k' L).cells 152).setCell (zq B 7)<|zo S):=fun S e=>by subst e;exact s
  have HM:=zl hm;have d7:i.cell? (zq B 7)=bO (.pointer bN):=by
   have:=y.o.cell 7 (v:=Sr.iJ _) rfl;rw[this];simp[Sr.iJ,m.o]
  have g7:=y.o.bT 7;have k4:i.cell? (zq b 4)=bO (.map<|bO k'.mp):=f.cell 4 rfl;have k5:i.cell? (zq b 5)=bO (zi k'.ep):=f.cell 5 rfl;have bf:i.cell? (zq b 11)=bO (zi k'.base):=f.cell 11 rfl;have bg:i.cell? (zq b 12)=bO (zi k'.last):=f.cell 12 rfl;have bh:i.cell? (zq b 13)=bO (zi k'.named):=f.cell 13 rfl;have bd:¬B=i.heap.size:=by have:=y.o.lt;omega
  have e7:(i.alloc<|.cells #[.map<|bO k'.mp,.slice bN 0 0,zi k'.ep,zi k'.base,zi k'.last,zi k'.named,zi 0] 152).cell? (zq B 7)=bO (.pointer bN):=((y.o.alloc _).cell 7 (v:=Sr.iJ _) rfl).trans (by simp[Sr.iJ,m.o]);have h7:=(y.o.alloc<|.cells #[.map<|bO k'.mp,.slice bN 0 0,zi k'.ep,zi k'.base,zi k'.last,zi k'.named,zi 0] 152).bT 7;clear Q s n f C E hm j
  go_wp2_with fail
  refine z.o _ _ _ ⟨rfl,zi 0,fun t d=>⟨t,d, ?_⟩,W.o _ _ HM.o<|q.o _ rfl⟩;show(aN Tryz.f40 _).run prog _=_;simp[aN,Tryz.results40,go_sem]
end P
namespace P
open A.Tryq Go.RowKit A
variable [pn:A.Pn]
section
variable {B:Nat} {t:Nat→Question→Nat}
def xqq:Tryz.f40.body=bO (.seq Ip<|.seq pM Kh):=by kernel_rfl
def jt.re{r r':Sr}{w w':Zy}{d:Nat}(h:jt B r w r'<|re w' t d):jt B r w r' w':=⟨xb.re h.but,⟨h.at_.blk,⟨h.at_.disk.blk,h.at_.disk.map,h.at_.disk.eU⟩,fun s a=>⟨⟨(h.at_.bU s a).1.blk,(h.at_.bU s a).1.map,(h.at_.bU s a).1.pend⟩,(h.at_.bU s a).2⟩⟩,h.own⟩
def jt.gL{r r':Sr}{w w':Zy}(h:jt B r w r' w')(t:Nat->Question->Nat)(d:Nat):jt B r w r'<|A.re w' t d:=⟨⟨h.but.os,h.but.output,h.but.size,h.but.block⟩,⟨h.at_.blk,⟨h.at_.disk.blk,h.at_.disk.map,h.at_.disk.eU⟩,fun s a=>⟨⟨(h.at_.bU s a).1.blk,(h.at_.bU s a).1.map,(h.at_.bU s a).1.pend⟩,(h.at_.bU s a).2⟩⟩,h.own⟩
def zxy{cv tv:Zv}{r:Sr}{w w':Zy}{e:Ending}{d:Nat}:QX cv tv B r w e (re w' t d)↔QX cv tv B r w e w':=by
 constructor;rintro⟨f,g,h⟩;refine⟨f,g, ?_⟩;cases hq:Yu (Jp r.m r.mark r.cnt r.op f) r.d.L with
 |none=>rw[hq]at h;exact⟨h.1,jt.re h.2⟩
 |some p=>
  rw[hq]at h;rcases h with⟨a,b,S,c⟩|⟨a,b,c⟩
  exact .inl ⟨a,b,S,jt.re c⟩;exact .inr ⟨a,b,jt.re c⟩
 rintro⟨f,g,h⟩;refine⟨f,g, ?_⟩;cases hq:Yu (Jp r.m r.mark r.cnt r.op f) r.d.L with
 |none=>rw[hq]at h;exact⟨h.1,jt.gL h.2 t d⟩
 |some p=>
  rw[hq]at h;rcases h with⟨a,b,S,c⟩|⟨a,b,c⟩
  exact .inl ⟨a,b,S,jt.gL c t d⟩;exact .inr ⟨a,b,jt.gL c t d⟩
def xnr{cv tv:Zv}{r:Sr}{w:Zy}(h:Jq w B r)(F:r.sn=bN)(a:fV B r)(p:iA cv tv w)(j:∀i,(qu r.d.L i).length<=100000)
  (y:∀mp k L,Yu (Jp r.m r.mark r.cnt r.op mp) r.d.L=bO (k,L)->(k.dD=bL->0<=k.whole/\k.whole<=((qu r.d.L k.last).length:Nat))/\ -1000000000000<=k.last/\k.last<=1000000000000):
  CC bM 40 #[zo B] w (QX cv tv B r w):=by
 have K:kT<|nJ bM funcs Tryz.f40<|QX cv tv B r w:=AO fun e w t d=>zxy;have l:∀x,r.d.own r.D x->2<x:=fun x W=>a.own x<|.inr<|.inl W;refine CC.fA bQ oC (bZ rfl Tryz.func40 rfl).1 Tryz.func40 xqq ?_;rw[show Tryz.f40.ntmps=45 from rfl];refine Xn.go' bQ kZ oC K trivial fun w0 M Q R hX=>?_;have g:=ji Q;have H:Ip.wp prog M ⟨#[zo B]++aW (45-1) bJ,[]⟩ w0:=by
  simp only[jg,zh,jn,Nat.reduceAdd,Nat.reduceSub,qw,qx,Z7,Zi,jk,jc]
  conv=>arg 2;whnf
  go_wp2_with fail
  refine R.o _ _ ?_;have J:=h.but g fun _ _=>id;refine Xn.seq bQ oC trivial (xns (tv:=tv) (r:=r) (B:=B) (v2:=zi 0) J.blk J.disk l (p.Am.nw g) (p.tab.nw g) a.m (by have:=a.cnt;omega) j rfl rfl rfl rfl (fun O I mp c E C n=>?_) fun O I mp b k L c G X Y Z E C hb n s U T=>?_);refine⟨c,mp,by have:=g.size;omega, ?_⟩;rw[n];exact⟨rfl,jt.nw h<|g.trans E⟩;have nw:=g.trans E;have ba:=g.size;refine Xn.last' bQ kZ oC K fun w1 N o q=>?_;have n1:=ji o;obtain⟨V,v⟩:=y mp k L n;refine RE (cv:=cv) (tv:=tv) (k:=k) (L:=L) (r:=r) (xmu c G X Y Z) h F (nw.trans n1) (by omega) (by omega) (Xa.nw T n1) (by rw[s];exact U.nw n1) a (p.but (S:=fun _=>False) (nw.trans n1) fun _ x=>x.elim) V v q (fun I S z f=>?_) fun I z f=>?_;refine⟨mp,by omega, ?_⟩;rw[n];exact .inl ⟨z,rfl,S,f⟩;refine⟨mp,by omega, ?_⟩;rw[n];exact .inr ⟨z,rfl,f⟩
 exact H
end
end P
namespace A
open Go Go.Conc Go.RowKit
variable [pn:Pn]
section
variable {P:Program} {F:Array Func} {dm:Frame} {w w':World}
def RX.leaves(K:J0 P F)(s:gN P dm){fr0:Zf}{fnc:Func}{u:FrameMode}{c0:Zf}{cs:List Zf}{R:Ending->Zy->Prop}(hk:fr0.kind= .normal)(B:¬Mc P fr0.fn)(G:∃fn,P.funcs[fr0.fn]?=bO fn)(x:(wf P F).funcs[fr0.fn]?=bO fnc)(H:fr0.mode=u)
  (y:∀e w t d,R e (A.re w t d)->R e w)(p:∀w',¬R .outgrown w')(E:∀t d,Leaves (wf P F) fnc fr0.tmps R fr0.defers u<|A.re w t d):
  RX P (Z0 fr0 (c0::cs)) w (fun g' w'=>∃e,R e w'/\UJ c0 cs e g'):=by
 refine(RX.lift K s
  (End:=fun g' w'=>∃e g q n,R e (A.re w' q n)/\e≠ .outgrown/\g'=Z0 g [dm]/\g.fn=fr0.fn/\g.leaving (wf P F) (A.re w' q n) e) (fun g' w' t d=>Iff.rfl) ?_ B hk ?_).trans ?_
 rintro g' w' ⟨e,g,q,n,_,h,rfl,_,m⟩ ⟨_,hd⟩;cases e with
 |outgrown=>exact h rfl
 |returned v=>
  obtain⟨a,b,_⟩:=m;rcases hd with⟨k,_⟩|⟨_,k,_⟩
  have f:g.mode= .run:=k;rw[a]at f;cases f;have f:g.defers=[_]:=k;rw[b]at f;cases f
 |panicked c=>
  obtain⟨a,b,_⟩:=m;rcases hd with⟨k,_⟩|⟨_,k,_⟩
  have f:g.mode= .run:=k;rw[a]at f;cases f;have f:g.defers=[_]:=k;rw[b]at f;cases f
 intro t d;obtain⟨e,w',g,j,C,i,m⟩:=leaves_steps (P:=wf P F) fr0.defers u (A.re w t d) fr0 [dm] H rfl rfl x hk<|E t d;have h:e≠ .outgrown:=by rintro rfl;exact p _ j
 refine⟨g,[dm],w', ?_,e,g,w'.tape,w'.drawn,j,h,rfl,i,m⟩;cases e with
 |outgrown=>exact absurd rfl h
 |returned v=>exact C
 |panicked c=>exact C
 rintro z w' ⟨g',l,⟨e,g,q,n,j,h,rfl,i,m⟩,r,rfl⟩;have:l=[]:=by
  have D:[dm]=l++[dm]:=r;have:=congrArg List.length D;simp only[zj,jd]at this;exact xa<|by omega
 subst this;have j:=y _ _ _ _ j;have o:zK P F g w' e:=⟨h,q,n,m⟩;show RX P (Z0 g (c0::cs)) w' _;cases e with
 |outgrown=>exact(p _ j).elim
 |returned v=>
  refine(RX.ret K (by rw[i];exact B) o).trans ?_;rintro z I ⟨t,d,rfl,rfl⟩;exact(RX.refl ⟨_,j,rfl⟩).kI
 |panicked ch=>
  refine(RX.raise o<|by rw[i];exact G).trans ?_;rintro z I ⟨rfl,rfl⟩;exact .refl ⟨_,j,rfl⟩
end
end A
namespace P
open A.Tryq Go.RowKit
attribute [local go_sem] xe zv
section
variable {cv tv:Zv}
def Oh(p q:Addr)(w:Zy):CallsD prog 79 #[.pointer<|bO p,.pointer<|bO q] .returning w fun e u' w'=>e= .returned (.tuple #[])/\u'= .returning/\w'=w:=by
 refine callsD_of_wpS func79.1 rfl fun a c b=>?_;apply wpS_seq;apply wpS_region;simp[wpOpsS,go_sem,recoverD,b,Tryz.ntmps79,Exit.thenS];apply wpS_seq;apply wpS_region;simp[wpOpsS,go_sem,Exit.thenS];refine wpS_cond (t:=bK) (by simp[Act.eval,aW]) ?_;simp only[xu,if_false];refine wpS_of_wp<|wp_skip ?_;cases a;simp_all [bodyPostS,aN,Tryz.results79]
def rN(f:FuncId)(B:Nat)(R:Int->Zy->Prop)(w:Zy)(b:∀args w,(callFunc f args).run prog w= .ok (.enter f args) w)
  (hw:bE prog f #[zo B] ((w.alloc<|.cells #[zo B] 23).alloc<|.cells #[zi 0] 30) fun e w'=>∃v,e= .returned (zi v)/\R v w'/\xx w' (w.heap.size+1) #[zi 0] 30):
  bE prog 39 #[zo B,.func (.func f) #[zo B] #[]] w fun e w'=>∃v w1,e= .returned (zi v)/\R v w1/\w'=w1.setCell (zq (w.heap.size+1) 0) (zi v):=by
 have h:∀(fn:Fn) (first cap:Za) (w:Zy),(Instr.makeFunc fn first cap).run prog w= .ok (.func fn first cap) w:=fun _ _ _ _=>rfl
 go_enter_defers func39.1,Tryz.ntmps39
 go_wp2_with fail
 refine hw.mono ?_;rintro e w1 ⟨v,rfl,c,a⟩;have g:=a.cell 0 rfl;have j:=a.bT 0;have d:=zl c;clear c a hw
 go_wp2_with fail
 refine leaves_cons (f:=79) (args:=#[zo w.heap.size,zo<|w.heap.size+1]) (by simp) (by simp[go_sem]) ?_;refine(Oh _ _ _).mono ?_;rintro e k i ⟨rfl,rfl,rfl⟩;simp[Leaves,settle,aN,Tryz.results39,go_sem,g];exact⟨_,d.o,rfl⟩
def Pp(B:Nat)(r:Sr)(s:Jo)(l:KV)(W:Zv)(w:Zy)(h:Jq w B r)(O:r.sn=bO s)(M:s.P.length<=20)(hk:∀p∈s.now,p.1.length<=1000000)(z:s.now.length<=1000000)(hl:qW w W l)
  (b:Vp s.now=l.map (·.1))(n:∀i (h:i<l.length),r.gets l[i].1=(l[i].2,0)):
  bE prog 18 #[.pointer<|bO ⟨B,0,bN⟩,W] w fun e w'=>e= .returned (.bool bL)/\Nw w w':=by
 obtain⟨p,g,ba,rfl,T,o⟩:=hl;have Z:=zl h;have HS:=zl O;have HP:=zl M;have HR:=zl o;have Y:=zl n;have I:=zl<|Pr B r s w h O M hk z;have bb:l.length<=1000000:=by have:=o8 s.now;rw[b,Zb]at this;omega
 rw[b]at I;clear h O M hk z o n b;go_enter func18.1,Tryz.ntmps18
 go_wp2_with fail
 refine I.o.mono ?_;rintro e w1 ⟨v,rfl,k,C⟩;obtain⟨a,Q,rfl,q⟩:=Jh k;have K:Hid (l≠[]->∃x,a=bO ⟨x,0,bN⟩/\tH w1 x (l.map (·.1))):=fun m=>by
  rcases QS (f:=encStr) (fun _=>rfl) k with⟨_,e⟩|⟨x,c,e,_,_,H⟩;exact absurd (List.map_eq_nil_iff.1 e) m;cases e;exact⟨x,rfl,H⟩
 have L:=zl C;clear k C I;simp only[Zb]at q⊢
 go_wp2_with fail
 go_loopw [7] (fun i wr=>∃j:Nat,j<=l.length/\i= .int .i64 j/\Nw w1 wr) (fun i _=>(l.length-intOf i).toNat)
 case atStart=>exact⟨0,by omega,rfl,xb.refl _ _⟩
 case round=>
  obtain⟨j,hj,rfl,z⟩:=hrel;have E:=zl z;clear z;by_cases d:j<l.length
  ·have i1:(j:Int)<(l.length:Nat):=by omega
   have i0:(0:Int)<=(j:Int):=by omega
   have m:l≠[]:=by intro e;rw[e]at d;cases d
   obtain⟨rfl,H⟩:=HR.o m;obtain⟨x,rfl,y⟩:=K.o m;have F:Hid<|∀w',Nw w1 w'->w'.cell? ⟨g,j*2,bN⟩=bO (.string<|st l[j].1)/\w'.cell? ⟨g,j*2+1,bN⟩=bO (.string<|st l[j].2)/\w'.cell? ⟨x,j,bN⟩=bO (.string<|st l[j].1):=fun w' U=>by
    have R:=(H.but (L.o.trans U) id).cell j d;have S:=y.cell j (by rw[Zb];exact d);rw[List.getElem_map]at S;exact⟨R.1,R.2,U.cell id S⟩
   have J:=zl<|Y.o j d;generalize l[j].1=qk at*;generalize l[j].2=qv at*;have r0:=(F.o _ E.o).1;clear H y
   go_wp2_with fail
   refine(TM B r qk _ (Z.o.but (L.o.trans E.o) fun _ _=>id) fun t V=>by rw[HS.o]at V;cases V;exact HP.o).mono ?_;rintro e X ⟨rfl,D⟩;rw[J.o];have G:Hid<|Nw w1 X:=E.o.trans D;have s0:=(F.o _ G.o).1;have s1:=(F.o _ G.o).2.1;have s2:=(F.o _ G.o).2.2;clear r0 D
   go_wp2_with fail
   go_quiet (fail)
   have N3:Hid<|Nw w1<|X.drewN nq:=G.o.trans (xb.refl _ _).drewN'
   go_wp2_with fail
   go_roundw
   case rel=>exact⟨j+1,by omega,by go_num,N3.o⟩
   case measure=>simp[intOf];omega
  obtain rfl:j=l.length:=by omega
  have i1:¬(l.length:Int)<(l.length:Nat):=by omega
  go_wp2_with fail
  go_ret
  exact⟨rfl,L.o.trans E.o⟩
def E_(f:FuncId)(B:Nat)(r:Sr)(A:Option Int×Sr)(w:Zy)(h:Jq w B r)(q:iA cv tv w)(j:A.1≠bN)(c:∀args w,(callFunc f args).run prog w= .ok (.enter f args) w)
  (hw:∀w0,Jq w0 B r->iA cv tv w0->bE prog f #[zo B] w0 fun e w'=>∃a r',A=(a,r')/\e=FD cv a/\jt B r w0 r' w'):
  bE prog 39 #[zo B,.func (.func f) #[zo B] #[]] w fun e w'=>∃v r',A=(bO v,r')/\e= .returned (zi v)/\jt B r w r' w':=by
 have l:Nw w<|(w.alloc<|.cells #[zo B] 23).alloc<|.cells #[zi 0] 30:=(xb.alloc _).trans<|xb.alloc _;have s:((w.alloc<|.cells #[zo B] 23).alloc<|.cells #[zi 0] 30).heap.size=w.heap.size+2:=by simp
 have m:xx ((w.alloc<|.cells #[zo B] 23).alloc<|.cells #[zi 0] 30) (w.heap.size+1) #[zi 0] 30:=by
  have:=xx.new (w.alloc<|.cells #[zo B] 23) #[zi 0] 30;rw[xh]at this;exact this
 have o:=h.but l fun _ _=>id;have n:=q.but l fun _ x=>x.elim;refine(rN f B (fun v w1=>∃r',A=(bO v,r')/\jt B r ((w.alloc<|.cells #[zo B] 23).alloc<|.cells #[zi 0] 30) r' w1) w c<|(hw _ o n).mono fun e w' ⟨a,r',g,p,d⟩=>?_).mono ?_;cases a with
 |none=>exact absurd (congrArg _ g) j
 |some v=>exact⟨v,p,⟨r',g,d⟩,m.but d.but fun k=>by have:=Sr.bX h k;omega⟩
 rintro e w' ⟨v,w1,rfl,⟨r',g,d⟩,rfl⟩;refine⟨v,r',g,rfl, ?_⟩;refine jt.fresh (b:=w.heap.size+1) ((jt.nw h l).trans d) (by omega) (fun k=>?_)<|xb.set w1 (zq (w.heap.size+1) 0) _;rcases d.own _ k with i|i
 have:=Sr.bX h i;omega;rw[s]at i;omega
def vA(B:Nat)(r:Sr)(s:Jo)(w:Zy)(h:Jq w B r)(f:r.sn=bO s)(d:fV B r)(j:iA cv tv w)(k:∀c∈s.P,mF c)(b:(r.bW s).1≠bN):
  bE prog 29 #[zo B] w fun e w'=>∃v r',r.bW s=(bO v,r')/\e= .returned (zi v)/\jt B r w r' w':=by
 have t:w.cell? (zq B 7)=bO (zo s.S):=(h.blk.cell 7 rfl).trans (by simp[Sr.cells,Sr.iJ,f]);have l:=zl<|E_ 50 B r _ w h j b (fun a w=>func50.2 a w) fun q o n=>O_ B r s q o f d n k;have p:∀(fn:Fn) (first cap:Za) (w:Zy),(Instr.makeFunc fn first cap).run prog w= .ok (.func fn first cap) w:=fun _ _ _ _=>rfl;clear h d j k b f;go_enter func29.1,Tryz.ntmps29
 go_wp2_with fail
 refine l.o.mono ?_;rintro e w1 ⟨v,r',g,rfl,i⟩;have m:Hid<|∃v' r',r.bW s=(bO v',r')/\Ending.returned (zi v)= .returned (zi v')/\jt B r w r' w1:=⟨v,r',g,rfl,i⟩;clear g i
 go_wp2_with fail
 go_ret
 exact m.o
def Qo(B:Nat)(r:Sr)(s:Jo)(w:Zy)(h:Jq w B r)(i:r.sn=bO s)(d:fV B r)(f:∀r1,r.bW s=(bO 0,r1)->fV B r1)(l:iA cv tv w)(m:∀c∈s.P,mF c)(g:s.ep<=1000000)(b:(r.bV s).1≠bN):
  bE prog 45 #[zo B] w fun e w'=>∃v r',r.bV s=(bO v,r')/\e= .returned (zi v)/\jt B r w r' w':=by
 have y:w.cell? (zq B 7)=bO (zo s.S):=(h.blk.cell 7 rfl).trans (by simp[Sr.cells,Sr.iJ,i]);have n:=zl<|E_ 99 B r _ w h l b (fun a w=>func99.2 a w) fun x q p=>LS B r s x q i d f p m g;have t:∀(fn:Fn) (first cap:Za) (w:Zy),(Instr.makeFunc fn first cap).run prog w= .ok (.func fn first cap) w:=fun _ _ _ _=>rfl;clear h d l m b i;go_enter func45.1,Tryz.ntmps45
 go_wp2_with fail
 refine n.o.mono ?_;rintro e w1 ⟨v,r',j,rfl,k⟩;have o:Hid<|∃v' r',r.bV s=(bO v',r')/\Ending.returned (zi v)= .returned (zi v')/\jt B r w r' w1:=⟨v,r',j,rfl,k⟩;clear j k
 go_wp2_with fail
 go_ret
 exact o.o
def zvy(B:Nat)(r:Sr)(s:Jo)(w:Zy)(h:Jq w B r)(j:r.sn=bO s)(f:fV B r)(g:∀r1,r.bW s=(bO 0,r1)->fV B r1/\r1.d.L.length+2<1000000/\jM (r.ses1 s).L/\(r.ses1 s).L.length<=1000000/\0<=(r.ses1 s).bP/\(r.ses1 s).bP<=999/\(qu r1.d.L<|Ye (r.ses1 s).named).length<=900000)(m:iA cv tv w)(n:∀c∈s.P,mF c)(i:s.ep<=1000000)(b:(r.dG s).1≠bN):
  bE prog 20 #[zo B] w fun e w'=>∃v r',r.dG s=(bO v,r')/\e= .returned (zi v)/\jt B r w r' w':=by
 have z:w.cell? (zq B 7)=bO (zo s.S):=(h.blk.cell 7 rfl).trans (by simp[Sr.cells,Sr.iJ,j]);have o:=zl<|E_ 42 B r _ w h m b (fun a w=>func42.2 a w) fun y t q=>Kp B r s y t j f g q n i;have x:∀(fn:Fn) (first cap:Za) (w:Zy),(Instr.makeFunc fn first cap).run prog w= .ok (.func fn first cap) w:=fun _ _ _ _=>rfl;clear h f m n b j;go_enter func20.1,Tryz.ntmps20
 go_wp2_with fail
 refine o.o.mono ?_;rintro e w1 ⟨v,r',k,rfl,l⟩;have p:Hid<|∃v' r',r.dG s=(bO v',r')/\Ending.returned (zi v)= .returned (zi v')/\jt B r w r' w1:=⟨v,r',k,rfl,l⟩;clear k l
 go_wp2_with fail
 go_ret
 exact p.o
end
end P
namespace P
open A.Tryq Go.RowKit A
variable [pn:A.Pn]
section
variable {Po:Exit→Act→Zy→Prop}
noncomputable def XL:=Qa<|Qf Tryz.f39.body
noncomputable def XO:=Qa<|Qb<|Qf Tryz.f39.body
noncomputable def OB:Array aD:=match Tryz.f39.body with
 |some (.seq _<|.seq _<|.seq (.region _ ops _) _)=>ops
 |_=>#[]
def xqp:Tryz.f39.body=bO (.seq XL<|.seq XO<|.seq (.region 2 OB bK) .ret):=by kernel_rfl
def xua:¬Mc bM 39:=xO (by decide) (by decide) Tryz.func39
def xq5{v0 v1:Zv}{w:Zy}(a:Hid<|Po .normal ⟨#[v0,v1,zo w.heap.size,bJ,zo<|w.heap.size+1,bJ,bJ,bJ],[]⟩<|(w.alloc<|.cells #[v0] 23).alloc<|.cells #[zi 0] 30)(b:v0.oneCell'=bL):
  XL.wp prog Po ⟨#[v0,v1,bJ,bJ,bJ,bJ,bJ,bJ],[]⟩ w:=by
 conv=>arg 2;whnf
 go_wp2_with fail
 exact a.o
def xq6{v0 v1 p q:Zv}{w:Zy}(a:Hid<|Po .normal ⟨#[v0,v1,p,bJ,q,.func (.func 79) #[] #[p,q],bJ,bJ],[⟨.fn (.func 79) #[p,q],#[]⟩]⟩ w):
  XO.wp prog Po ⟨#[v0,v1,p,bJ,q,bJ,bJ,bJ],[]⟩ w:=by
 have b:∀(fn:Fn) (first cap:Za) (w:Zy),(Instr.makeFunc fn first cap).run prog w= .ok (.func fn first cap) w:=fun _ _ _ _=>rfl
 conv=>arg 2;whnf
 go_wp2_with fail
 exact a.o
def gW(B:Nat)(w:Zy):Zy:=(w.alloc<|.cells #[zo B] 23).alloc<|.cells #[zi 0] 30
def gD(w:Zy):Deferred:=⟨.fn (.func 79) #[zo w.heap.size,zo<|w.heap.size+1],#[]⟩
def VF{b:Zf}{a:Act}{x y:Code}{k:List Item}{cs:List Zf}{w:Zy}{G':Zg->Zy->Prop}(c:¬Mc bM b.fn)(h:RX bM (Z0 (b.at a (.code x:: .code y::k)) cs) w G'):RX bM (Z0 (b.at a (.code (.seq x y)::k)) cs) w G':=
 RX.ctl bQ (g':=Z0 (b.at a (.code x:: .code y::k)) cs) c (fun v=>by simp[stepG,Z0,Frame.at,stepG.exec]) rfl rfl rfl h
section
variable {b:Frame} {a:Act} {k:List Item} {cs:List Frame} {w:World} {G':Goroutine->World->Prop} {ops:Array aD} {id:Nat}
def LT(c:¬Mc bM b.fn)(h:RX bM (Z0 (b.at a (.inRegion ops (List.range ops.size)::k)) cs) w G'):RX bM (Z0 (b.at a (.code (.region id ops bK)::k)) cs) w G':=
 RX.ctl bQ (g':=Z0 (b.at a (.inRegion ops (List.range ops.size)::k)) cs) c (fun v=>by simp[stepG,Z0,Frame.at,stepG.exec]) rfl rfl rfl h
def xsi(c:¬Mc bM b.fn)(h:RX bM (Z0 (b.at a k) cs) w G'):RX bM (Z0 (b.at a (.inRegion ops []::k)) cs) w G':=
 RX.ctl bQ (g':=Z0 (b.at a k) cs) c (fun v=>by simp[stepG,Z0,Frame.at,stepG.exec]) rfl rfl rfl h
def xsj(c:¬Mc bM b.fn)(h:RX bM (Z0 {b.at a (.code .ret::k)with mode:= .returning} cs) w G'):RX bM (Z0 (b.at a (.code .ret::k)) cs) w G':=
 RX.ctl bQ (g':=Z0 {b.at a (.code .ret::k)with mode:= .returning} cs) c (fun v=>by simp[stepG,Z0,Frame.at,stepG.exec]) rfl rfl rfl h
end
def tE:OB.size=3:=by kernel_rfl
def C_:OB=#[⟨bO 6,.move<|.tmp 1,31,"coffer.go:236",#[],bN⟩,⟨bO 7,.call ⟨.value<|.tmp 6,#[],#[]⟩,30,"coffer.go:236",#[⟨0,.data⟩],bN⟩,⟨bN,.store 30 (.tmp 4)<|.tmp 7,0,"coffer.go:236",#[⟨1,.data⟩,⟨1,.chain⟩,⟨0,.phase⟩,⟨1,.phase⟩],bN⟩]:=by kernel_rfl
def zz9{f:FuncId}{B:Nat}{w:Zy}{Rw R:Ending->Zy->Prop}(Q:Ys bM funcs f)(l:∀args w,(callFunc f args).run prog w= .ok (.enter f args) w)(N:CC bM f #[zo B] (gW B w) Rw)
  (p:∀e w t d,R e (re w t d)->R e w)(q:∀e w t d,R e w->R e (re w t d))(n:∀w',¬R .outgrown w')
  (r:∀v w',Rw (.returned v) w'->∃x,v=zi x/\xx w' (w.heap.size+1) #[zi 0] 30/\R (.returned v) (w'.setCell (zq (w.heap.size+1) 0) v))
  (o:∀ch w',Rw (.panicked ch) w'->∀tm:Za,tm[4]?=bO (zo<|w.heap.size+1)->∀t d,Leaves prog Tryz.f39 tm R [gD w] (.panicking ch)<|re w' t d):
  CC bM 39 #[zo B,.func (.func f) #[zo B] #[]] w R:=by
 intro V W;obtain⟨b,I⟩:∃b,b=Frame.enter bM 39 #[zo B,.func (.func f) #[zo B] #[]] .normal:=⟨_,rfl⟩;have O:Frame.enter bM 39 #[zo B,.func (.func f) #[zo B] #[]] .normal=b.at ⟨#[zo B,.func (.func f) #[zo B] #[],bJ,bJ,bJ,bJ,bJ,bJ],[]⟩ [.code<|.seq XL<|.seq XO<|.seq (.region 2 OB bK) .ret]:=by
  rw[I];simp only[Frame.enter,Frame.at,Tryz.func39,js,jv,Option.bind_some,xqp];rfl
 have g:b.fn=39:=by rw[I];rfl
 have a:b.kind= .normal:=by rw[I];rfl
 have c:¬Mc bM b.fn:=by rw[g];exact xua
 rw[O];refine VF c<|RX.wp bQ kZ c a (Post:=fun e i w'=>e= .normal/\i=⟨#[zo B,.func (.func f) #[zo B] #[],zo w.heap.size,bJ,zo<|w.heap.size+1,bJ,bJ,bJ],[]⟩/\kE (gW B w) w') ?_ ?_ (fun t d=>?_) ?_;rintro e i w' t d;constructor;rintro⟨j,k,J,y,D⟩;exact⟨j,k,w'.tape,w'.drawn,by have:=congrArg (fun z=>re z w'.tape w'.drawn) D;simpa[vK,KX]using this⟩;rintro⟨j,k,J,y,rfl⟩;exact⟨j,k,t,d,by rw[vK]⟩;rintro e i w' ⟨rfl,_⟩;trivial;exact xq5 ⟨rfl,rfl,t,d,rfl⟩ rfl;rintro e T w1 X ⟨rfl,rfl,F⟩ ⟨_,rfl⟩;refine F.rx ?_;refine VF c<|RX.wp bQ kZ c a (Post:=fun e i w'=>e= .normal/\i=⟨#[zo B,.func (.func f) #[zo B] #[],zo w.heap.size,bJ,zo<|w.heap.size+1,.func (.func 79) #[] #[zo w.heap.size,zo<|w.heap.size+1],bJ,bJ],[gD w]⟩/\kE (gW B w) w') ?_ ?_ (fun t d=>?_) ?_;rintro e i w' t d;constructor;rintro⟨j,k,J,y,D⟩;exact⟨j,k,w'.tape,w'.drawn,by have:=congrArg (fun z=>re z w'.tape w'.drawn) D;simpa[vK,KX]using this⟩;rintro⟨j,k,J,y,rfl⟩;exact⟨j,k,t,d,by rw[vK]⟩;rintro e i w' ⟨rfl,_⟩;trivial;exact xq6 ⟨rfl,rfl,t,d,rfl⟩;rintro e U w2 Y ⟨rfl,rfl,G⟩ ⟨_,rfl⟩;refine G.rx ?_;refine VF c<|LT c ?_;rw[tE,show List.range 3=[0,1,2]from rfl];refine RX.value bQ c (val:= .func (.func f) #[zo B] #[]) (w':=gW B w) (by rw[C_];rfl) rfl (by rw[a];simp) (fun t d=>⟨t,d,by show(bG _ _).run prog _=_;simp[bG,go_sem]⟩) ?_;refine RX.call bQ c (f:=f) (args:=#[zo B]) (by rw[C_];rfl) rfl (by rw[a];simp) (fun v=>?_) Q N ?_ ?_
 ·show(bG _ _).run prog _=_
  simp[bG,go_sem,resolve,Act.put,l]
 ·intro v h H
  obtain⟨x,rfl,E,m⟩:=r v h H;have s:h.cell? (zq (w.heap.size+1) 0)=bO (zi 0):=E.cell 0 rfl;have C:=E.bT 0;refine RX.skip bQ c (w':=h.setCell (zq (w.heap.size+1) 0)<|zi x) (by rw[C_];rfl) rfl (by rw[a];simp) (fun t d=>⟨t,d, ?_⟩) ?_
  ·have K:(re h t d).cell? (zq (w.heap.size+1) 0)=bO (zi 0):=s
   have M:(re h t d).frozen? (zq (w.heap.size+1) 0)=bK:=C;show(bG _ _).run prog _=_;simp[bG,go_sem,Act.put,K,M];rfl
  refine xsi c<|xsj c ?_;refine RX.leaves bQ kZ (fnc:=Tryz.f39) (u:= .returning) a c ⟨_,by rw[show({b.at _ _ with mode:= .returning}:Zf).fn=39 from g];exact Tryz.func39⟩ (by rw[show({b.at _ _ with mode:= .returning}:Zf).fn=39 from g];exact func39.1) rfl p n fun t d=>?_;show Leaves prog _ _ _ _ _ _;refine leaves_cons (f:=79) (args:=#[zo w.heap.size,zo<|w.heap.size+1]) (by simp) (by simp[go_sem,gD]) ?_;refine(Oh _ _ _).mono ?_;rintro e Z S ⟨rfl,rfl,rfl⟩;have L:(re (h.setCell (zq (w.heap.size+1) 0)<|zi x) t d).cell? (zq (w.heap.size+1) 0)=bO (zi x):=(E.set 0 _).cell 0 rfl;simp[Leaves,settle,aN,Tryz.results39,go_sem,Act.put,Frame.at,L];exact q _ _ _ _ m
 intro ch h H;refine RX.leaves bQ kZ (fnc:=Tryz.f39) (u:= .panicking ch) a c ⟨_,by rw[show({b.at _ _ with mode:= .panicking ch}:Zf).fn=39 from g];exact Tryz.func39⟩ (by rw[show({b.at _ _ with mode:= .panicking ch}:Zf).fn=39 from g];exact func39.1) rfl p n fun t d=>?_;exact o ch h H _ rfl t d
end
end P
namespace P
open A.Tryq Go.RowKit A
variable [pn:A.Pn]
attribute [local go_sem] xe zv
noncomputable def c13:=Qf Tryz.f16.body
noncomputable def Hw:=Qa c13
noncomputable def Hy:=Qa<|Qb c13
noncomputable def Hz:=Qa<|Qb<|Qb c13
noncomputable def Im:=Qa<|Qn 3 c13
noncomputable def UY:=Qa<|Qn 4<|Qf Tryz.f16.body
def xqn:Tryz.f16.body=bO (.seq Hw<|.seq Hy<|.seq Hz<|.seq Im<|.seq UY .ret):=by kernel_rfl
def qF:¬Mc bM 16:=xO (by decide) (by decide) Tryz.func16
def CJ(B:Nat)(a:Act):Prop:=∃v2 x1 x3 x4 x5 x6 x7 x8 x9 x10 x11 x12 x13 x14 x15 x16 x17 x18 x19 x20 x21 x22 x23 x24 x25 x26,a=⟨#[zo B,x1,v2,x3,x4,x5,x6,x7,x8,x9,x10,x11,x12,x13,x14,x15,x16,x17,x18,x19,x20,x21,x22,x23,x24,x25,x26],[]⟩
section
variable {B:Nat} {r:Sr} {w:World} {Po:Exit->Act->World->Prop} {a:Act}
def xui(a:Hid<|∀a',CJ B a'->Po .normal a' w):Hw.wp prog Po ⟨#[zo B]++aW (27-1) bJ,[]⟩ w:=by
 simp only[jg,zh,jn,Nat.reduceAdd,Nat.reduceSub,qw,qx,Z7,Zi,jk,jc]
 conv=>arg 2;whnf
 go_wp2_with fail
 exact a.o _ ⟨_,_,_,_,_,_,_,_,_,_,_,_,_,_,_,_,_,_,_,_,_,_,_,_,_,_,rfl⟩
def xuj(d:CJ B a)(h:xx w B r.cells 94)(b:r.sn=bN)(c:Hid<|∀a',CJ B a'->Po .normal a' w):Hy.wp prog Po a w:=by
 obtain⟨C,D,E,F,G,H,I,J,K,e,f,g,i,j,k,l,m,n,o,p,q,s,t,v,x,y,rfl⟩:=d;have z:w.cell? (zq B 7)=bO (.pointer bN):=(h.cell 7 rfl).trans (by simp[Sr.cells,Sr.iJ,b]);clear h b
 conv=>arg 2;whnf
 go_wp2_with fail
 exact c.o _ ⟨_,_,_,_,_,_,_,_,_,_,_,_,_,_,_,_,_,_,_,_,_,_,_,_,_,_,rfl⟩
def xuk(c:CJ B a)(h:xx w B r.cells 94)(hop:r.op<999)(b:Hid<|∀a',CJ B a'->Po .normal a' w):Hz.wp prog Po a w:=by
 obtain⟨C,D,E,F,G,H,I,J,K,d,e,f,g,i,j,k,l,m,n,o,p,q,s,t,v,x,rfl⟩:=c;have y:w.cell? (zq B 6)=bO (zi r.op):=h.cell 6 rfl;have z:¬(r.op:Int)=999:=by omega
 clear h hop
 conv=>arg 2;whnf
 go_wp2_with fail
 exact b.o _ ⟨_,_,_,_,_,_,_,_,_,_,_,_,_,_,_,_,_,_,_,_,_,_,_,_,_,_,rfl⟩
def xul(c:CJ B a)(h:xx w B r.cells 94)(hop:r.op<999)(b:Hid<|∀a' w',CJ B a'->w'=w.setCell (zq B 6) (zi (r.op+1:Nat))->Po .normal a' w'):Im.wp prog Po a w:=by
 obtain⟨D,E,F,G,H,I,J,K,L,d,e,f,g,i,j,k,l,m,n,o,p,q,s,t,v,x,rfl⟩:=c;have y:w.cell? (zq B 6)=bO (zi r.op):=h.cell 6 rfl;have z:=h.bT 6;have C:IntKind.i64.wrap ((r.op:Int)+1)=(r.op:Int)+1:=by rw[xn];omega
 clear h hop
 conv=>arg 2;whnf
 go_wp2_with fail
 exact b.o _ _ ⟨_,_,_,_,_,_,_,_,_,_,_,_,_,_,_,_,_,_,_,_,_,_,_,_,_,_,rfl⟩ rfl
end
def Wp(r:Sr)(k:Lk)(S:Nat)(L:KV):Sr:={r with op:=r.op+1,cnt:=k.cnt,mark:=k.tag,d:=(Xi k r.d).2.2,sn:=bO<|V4 S (Xi k r.d).2.1 L}
def jt.opn{B:Nat}{r:Sr}{w:Zy}(h:Jq w B r)(a:r.sn=bN):jt B r w {r with op:=r.op+1}<|w.setCell (zq B 6)<|zi (r.op+1:Nat):=by
 refine⟨(xb.set w (zq B 6) _).mono fun x b=> .inl b,⟨h.blk.set 6 _, ?_,fun s e=>?_⟩,fun x b=>?_⟩;exact h.disk.but (xb.set w _ _) fun x b e=>h.fB (by have e:x=B:=e;rw[<-e];exact b);rw[show({r with op:=r.op+1}:Sr).sn=r.sn from rfl,a]at e;cases e;rcases b with e|e|⟨s,e,_⟩
 exact .inl<|.inl e;exact .inl<|.inr<|.inl e;rw[show({r with op:=r.op+1}:Sr).sn=r.sn from rfl,a]at e;cases e
def FH(B:Nat)(r:Sr)(w:Zy)(e:Ending)(w':Zy):Prop:=e= .returned (zi 0)/\∃mp k L S,Yu (Jp r.m r.mark r.cnt ((r.op+1:Nat):Int) mp) r.d.L=bO (k,L)/\jt B r w (Wp r k S L) w'
def Open_pre{B:Nat}{r:Sr}{w:Zy}{n:Int}{C:Zy->Prop}(h:Jq w B r)(g:r.sn=bN)(hop:r.op<999)(H:∀w' t d,C (re w' t d)↔C w')
  (x:∀w5,jt B r w {r with op:=r.op+1} w5->CC bM 39 #[zo B,.func (.func 40) #[zo B] #[]] w5 fun e w'=>e= .returned (zi n)/\C w'):
  CC bM 16 #[zo B] w fun e w'=>e= .returned (zi n)/\C w':=by
 have i:kT<|nJ bM funcs Tryz.f16 fun e w'=>e= .returned (zi n)/\C w':=AO fun e w' t d=>and_congr_right fun _=>H w' t d;refine CC.fA bQ qF (bZ rfl Tryz.func16 rfl).1 Tryz.func16 xqn ?_;rw[show Tryz.f16.ntmps=27 from rfl];refine Xn.go' bQ kZ qF i trivial fun w1 Po a I hX=>xui fun a1 o=>I.o _ _ ?_;refine Xn.go' bQ kZ qF i trivial fun w2 D b j K=>xuj (r:=r) o ((h.blk.nw<|ji a).nw<|ji b) g fun a2 p=>j.o _ _ ?_;refine Xn.go' bQ kZ qF i trivial fun w3 E c k L=>xuk (r:=r) p (((h.blk.nw<|ji a).nw<|ji b).nw<|ji c) hop fun a3 q=>k.o _ _ ?_;refine Xn.go' bQ kZ qF i trivial fun O F f l M=>xul (r:=r) q ((((h.blk.nw<|ji a).nw<|ji b).nw<|ji c).nw<|ji f) hop fun a4 w5 s y=>l.o _ _ ?_;have z:Nw w O:=(((ji a).trans<|ji b).trans<|ji c).trans<|ji f;have G:jt B r w {r with op:=r.op+1} w5:=by
  rw[y];exact(jt.nw h z).trans<|jt.opn (h.but z fun _ _=>id) g
 obtain⟨v2,x1,x3,x4,x5,x6,x7,x8,x9,R,S,T,U,V,W,X,Y,Z,ba,bb,bc,bd,be,bf,bg,bh,rfl⟩:=s;refine Xn.seq bQ qF trivial ?_
 conv=>arg 3;whnf
 refine Xn.dB bQ qF ?_;refine Jc.value (val:=zo B) (w':=w5) bQ qF rfl (fun t d=>⟨t,d,by show(bG _ _).run prog _=_;simp[bG,go_sem]⟩) ?_;refine mZ (val:=zo B) qF ⟨rfl,rfl⟩ ?_;refine Jc.value (val:= .func (.func 40) #[zo B] #[]) (w':=w5) bQ qF rfl (fun t d=>⟨t,d,by show(bG _ _).run prog _=_;simp[bG,go_sem,Act.put]⟩) ?_;refine Jc.call bQ qF rfl rfl (fun v=>by show(bG _ _).run prog _=_;simp[bG,go_sem,resolve,Act.put]) (bZ rfl Tryz.func39 rfl) (x _ G) ?_ ?_
 ·rintro v Q J
  obtain⟨m,N⟩:=J;cases m;refine mZ (val:=zi n) qF ⟨rfl,rfl⟩ ?_;refine Jc.nil bQ qF ?_;refine Xn.ret bQ qF rfl ⟨rfl,zi n,fun t d=>⟨t,d, ?_⟩,rfl,N⟩;show(aN Tryz.f16 _).run prog _=_;simp[aN,Tryz.results16,go_sem,Act.put]
 rintro ch Q ⟨m,_⟩;cases m
def G_{cv tv:Zv}{B:Nat}{r:Sr}{w:Zy}(h:Jq w B r)(Q:r.sn=bN)(hop:r.op<999)(b:fV B r)(hG:iA cv tv w)(M:∀i,(qu r.d.L i).length<=100000)
  (N:∀mp,∃k L,Yu (Jp r.m r.mark r.cnt ((r.op+1:Nat):Int) mp) r.d.L=bO (k,L)/\(Xi k r.d).1=bL/\(k.dD=bL->0<=k.whole/\k.whole<=((qu r.d.L k.last).length:Nat))/\ -1000000000000<=k.last/\k.last<=1000000000000):
  CC bM 16 #[zo B] w (FH B r w):=by
 have j:∀e c t d,FH B r w e (re c t d)↔FH B r w e c:=fun e c t d=>⟨fun⟨D,mp,k,L,S,I,U⟩=>⟨D,mp,k,L,S,I,jt.re U⟩,fun⟨D,mp,k,L,S,I,U⟩=>⟨D,mp,k,L,S,I,jt.gL U t d⟩⟩;refine Open_pre (n:=0) (C:=fun c=>∃mp k L S,Yu (Jp r.m r.mark r.cnt ((r.op+1:Nat):Int) mp) r.d.L=bO (k,L)/\jt B r w (Wp r k S L) c) h Q hop (fun c t d=>⟨fun h=>((j (.returned<|zi 0) c t d).1 ⟨rfl,h⟩).2,fun h=>((j (.returned<|zi 0) c t d).2 ⟨rfl,h⟩).2⟩) fun l z=>?_;have q:fV B {r with op:=r.op+1}:=⟨b.m,b.mark,b.cnt,by show r.op+1<1000000;omega,b.room,b.files,b.few,b.nx,fun x T=>b.own x T,fun s e=>b.bU s e⟩;have W:=hG.but z.but b.own;obtain⟨a,f⟩:∃a:Sr,a={r with op:=r.op+1}:=⟨_,rfl⟩;have o:∀mp k L,Yu (Jp a.m a.mark a.cnt a.op mp) a.d.L=bO (k,L)->(Xi k a.d).1=bL/\(k.dD=bL->0<=k.whole/\k.whole<=((qu a.d.L k.last).length:Nat))/\ -1000000000000<=k.last/\k.last<=1000000000000:=by
  subst f;intro mp k L hq;obtain⟨k',L',D,I⟩:=N mp;have:=hq.symm.trans D;cases this;exact I
 have y:∀mp,Yu (Jp a.m a.mark a.cnt a.op mp) a.d.L≠bN:=by
  subst f;intro mp e;obtain⟨k',L',D,I⟩:=N mp;have:=e.symm.trans D;cases this
 have R:a.sn=bN:=by rw[f];exact Q
 have E:∀i,(qu a.d.L i).length<=100000:=by rw[f];exact M
 rw[<-f]at z q;have ba:∀c k S L,jt B a l {a with cnt:=k.cnt,mark:=k.tag,d:=(Xi k a.d).2.2,sn:=bO<|V4 S (Xi k a.d).2.1 L} c->jt B r w (Wp r k S L) c:=fun c k S L g=>by
  have:=z.trans g;subst f;exact this
 have hq:∀mp k L,Yu (Jp a.m a.mark a.cnt a.op mp) a.d.L=bO (k,L)->Yu (Jp r.m r.mark r.cnt ((r.op+1:Nat):Int) mp) r.d.L=bO (k,L):=fun mp k L g=>by subst f;exact g
 clear f;have g1:Jq (gW B l) B a:=z.at_.but ((Nw.alloc _ _).trans<|Nw.alloc _ _) fun _ _=>id;have nG:Nw l<|gW B l:=(Nw.alloc _ _).trans<|Nw.alloc _ _;have F:=xnr g1 R q (W.but nG fun _ x=>x.elim) E fun mp k L e=>(o mp k L e).2;have Y:(gW B l).heap.size=l.heap.size+2:=by simp[gW]
 have X:xx (gW B l) (l.heap.size+1) #[zi 0] 30:=by
  have:=xx.new (l.alloc<|.cells #[zo B] 23) #[zi 0] 30;rw[xh]at this;exact this
 show CC bM 39 _ l<|FH B r w;refine zz9 (bZ rfl Tryz.func40 rfl) (fun K w=>func40.2 K w) F (fun e c t d g=>(j e c t d).1 g) (fun e c t d g=>(j e c t d).2 g) (fun c g=>by cases g.1) ?_ ?_;rintro v c ⟨mp,Z,g⟩;cases hl:Yu (Jp a.m a.mark a.cnt a.op mp) a.d.L with
 |none=>exact(y mp hl).elim
 |some p=>
  obtain⟨k,L⟩:=p;rw[hl]at g;rcases g with⟨O,J,S,H⟩|⟨O,J,_⟩
  cases J;have G:¬({a with cnt:=k.cnt,mark:=k.tag,d:=(Xi k a.d).2.2,sn:=bO<|V4 S (Xi k a.d).2.1 L}:Sr).own B (l.heap.size+1):=fun T=>by
   rcases H.own _ T with V|V;have:=Sr.bX z.at_ V;omega;rw[Y]at V;omega
  refine⟨0,rfl,X.but H.but fun T=>?_,rfl,mp,k,L,S,hq _ _ _ hl,ba _ _ _ _ ?_⟩;have:=Sr.bX z.at_ T;omega;exact jt.fresh ((jt.nw z.at_ nG).trans H) (by omega) G<|xb.set c (zq (l.heap.size+1) 0) _;cases J
 rintro ch c ⟨mp,Z,g⟩;exfalso;cases hl:Yu (Jp a.m a.mark a.cnt a.op mp) a.d.L with
 |none=>exact y mp hl
 |some p=>
  obtain⟨k,L⟩:=p;rw[hl]at g;rcases g with⟨O,J,_⟩|⟨O,J,_⟩
  cases J;rw[(o _ _ _ hl).1]at O;cases O
end P
namespace P
open Go.RowKit
section
variable {d:Dk}
structure MP(r:Sr)(s:Jo)(L0:KV)(xs:List Zl)(q:Lk)(L:KV):Prop where
 ok:wY r.m r.d.L L0 xs q L
 cnt:q.cnt=r.cnt
 tag:q.tag=r.mark
 ep:q.ep=s.ep
 same:iF L s.L
 base:s.base=(Y0 (Jp r.m [] 0 0 0) r.d.L).base
 last:s.last=s.base+xs.length
 named:s.named=(Y0 (Jp r.m [] 0 0 0) r.d.L).named
structure Wy(r:Sr)(s:Jo):Prop where
 dsk:∃L0 xs q L,MP r s L0 xs q L
 mark:r.mark.length=32
 gd:fM r.d.L
 each:jX r.d.L
 nx:r.d.nx=bN
 room:r.d.room=100000
 lim:r.lim=999
 fus:J6 r.d.L<=10116+1071*(r.cnt:Int)
 rC:s.last<=(r.cnt:Int)
 cnt:r.cnt<=40
 P:∀c∈s.P,mF c
 P20:s.P.length<=20
 sK:jM s.L
 len:s.L.length<=20*r.cnt
 ep:s.ep<=5
 op:r.op<=999
 named:s.named=0\/s.named=10001\/s.named=10002
 sh0:0<=s.bP
section
variable {r:Sr} {s:Jo}
def Wy.m(I:Wy r s):r.m.length=32:=by obtain⟨a,b,q,L,D⟩:=I.dsk;exact D.ok.m32
def Wy.nd(I:Wy r s):Nd s.L:=by obtain⟨a,b,q,L,D⟩:=I.dsk;exact D.same.2.1
def Wy.base0(I:Wy r s):0<=s.base/\s.base<=s.last:=by
 obtain⟨a,e,q,L,D⟩:=I.dsk;have:=AR r.m r.d.L;have b:=D.base;have c:=D.last;omega
def JN(h:d.nx=bN):d.tick=d:=by unfold Dk.tick;rw[h]
def zY(h:d.nx=bN):d.stops=bK:=by unfold Dk.stops;rw[h]
def z_(h:d.nx=bN)(n:Int)(x:Zl):d.app n x={d with L:=Yx d.L n (qu d.L n++x,(Vu d.L n).2)}:=by unfold Dk.app;rw[JN h]
def Ui(h:d.nx=bN)(n:Int):d.mR n={d with L:=Yx d.L n (qu d.L n,(qu d.L n).length)}:=by unfold Dk.mR;rw[JN h]
def Fi(h:d.nx=bN)(n:Int)(x:Zl):d.mG n x={d with L:=Yx d.L n (x,x.length)}:=by unfold Dk.mG;rw[JN h]
def Eg(h:d.nx=bN)(n:Int):d.rem n={d with L:=V6 d.L n}:=by unfold Dk.rem;rw[JN h]
def Ru{α:Type}[DecidableEq α]:∀{l S:List α},l.Nodup->(∀x∈l,x∈S)->l.length<=S.length
 |[],_,_,_=>Vj _
 |a::l,S,h,hs=>by
  have c:=Zr.1 h;have b:=hs a (by simp);have f:=Ru (S:=S.erase a) c.2 fun x d=>(List.mem_erase_of_ne fun e=>c.1<|by rw[<-e];exact d).2 (hs x<|by simp[d]);have g:=List.length_erase_of_mem b;have i:=List.length_pos_of_mem b;simp only[zh];omega
def Wy.few(I:Wy r s):r.d.L.length<=r.cnt+2:=by
 obtain⟨f,c,q,L,D⟩:=I.dsk;have k:=AR r.m r.d.L;have a:(r.d.L.map (·.1)).length<=(0::(Y0 (Jp r.m [] 0 0 0) r.d.L).dK::(List.range c.length).map fun(i:Nat)=>(Y0 (Jp r.m [] 0 0 0) r.d.L).base+1+(i:Int)).length:=by
  refine Ru I.gd.nd fun n b=>?_;rcases D.ok.own n (I.gd.mem.1 b)with e|e|e
  simp[e];simp[e];refine xj _<|xj _<|qp.2 ⟨(n-(Y0 (Jp r.m [] 0 0 0) r.d.L).base-1).toNat,List.mem_range.2<|by omega,by omega⟩
 simp only[Zb,zh,List.length_range]at a;have g:=D.last;have h:=D.base;have j:=I.rC;omega
def Wy.jD(I:Wy r s)(n:Int):(qu r.d.L n).length<=60000:=by
 have a:=Eb r.d.L n;have b:=I.fus;have c:=I.cnt;omega
def Wy.U9(I:Wy r s):mE r.d.L:=⟨I.each,by have:=I.few;have:=I.cnt;omega⟩
variable {c:UInt8} {ep:Nat} {plain:List UInt8}
def Mw(I:Wy r s)(g:plain.length<=1020):r.writes s [c] ep plain=(bO 0,r.wrote s [c] ep plain):=by
 have a:=I.cnt;have b:=I.lim;have d:=I.fus;have e:=I.room;have f:=b_ r s;unfold Sr.writes;rw[aB<|by omega,aB<|by omega,zY I.nx,aB<|by simp,zY<|by unfold Dk.app;rw[JN I.nx];exact I.nx,aB<|by simp]
def ER(I:Wy r s):(r.wrote s [c] ep plain).d={r.d with L:=Yx (Yx r.d.L (r.place s).1 (qu r.d.L (r.place s).1++((r.place s).2++Y5 r.m r.mark [c] ep r.op r.cnt plain),(Vu r.d.L (r.place s).1).2)) (r.place s).1 (qu (Yx r.d.L (r.place s).1 (qu r.d.L (r.place s).1++((r.place s).2++Y5 r.m r.mark [c] ep r.op r.cnt plain),(Vu r.d.L (r.place s).1).2)) (r.place s).1,(qu (Yx r.d.L (r.place s).1 (qu r.d.L (r.place s).1++((r.place s).2++Y5 r.m r.mark [c] ep r.op r.cnt plain),(Vu r.d.L (r.place s).1).2)) (r.place s).1).length)}:=by
 unfold Sr.wrote;simp only;rw[z_ I.nx,Ui<|by exact I.nx]
def xn9(m mark:Zl)(op cnt:Nat):Y5 m mark [c] ep op cnt plain≠[]:=by
 intro e;have:=congrArg List.length e;rw[QT _ _ _ _ _ _ _ rfl]at this;simp at this
def k7(I:Wy r s)(k:Int):qu (r.wrote s [c] ep plain).d.L k=if k=((r.place s).1:Int)then qu r.d.L (r.place s).1++((r.place s).2++Y5 r.m r.mark [c] ep r.op r.cnt plain)else qu r.d.L k:=by
 rw[ER I];simp only;rw[uS<|I.gd.lay _ _,uS I.gd];by_cases h:k=((r.place s).1:Int);rw[aA h,aA h,aA rfl];rw[aB h,aB h,uS I.gd,aB h]
def It(I:Wy r s):fM (r.wrote s [c] ep plain).d.L:=by
 rw[ER I];exact(I.gd.lay _ _).lay _ _
def Ta(I:Wy r s)(b:plain.length<=1020):((r.place s).2++Y5 r.m r.mark [c] ep r.op r.cnt plain).length<=1071:=by
 have a:=b_ r s;rw[zj,QT _ _ _ _ _ _ _ rfl];omega
def k8(I:Wy r s)(f:plain.length<=1020):J6 (r.wrote s [c] ep plain).d.L<=J6 r.d.L+1071:=by
 rw[ER I];simp only;have a:=Oq (F:=Yx r.d.L (r.place s).1 (qu r.d.L (r.place s).1++((r.place s).2++Y5 r.m r.mark [c] ep r.op r.cnt plain),(Vu r.d.L (r.place s).1).2)) (r.place s).1 (qu (Yx r.d.L (r.place s).1 (qu r.d.L (r.place s).1++((r.place s).2++Y5 r.m r.mark [c] ep r.op r.cnt plain),(Vu r.d.L (r.place s).1).2)) (r.place s).1,(qu (Yx r.d.L (r.place s).1 (qu r.d.L (r.place s).1++((r.place s).2++Y5 r.m r.mark [c] ep r.op r.cnt plain),(Vu r.d.L (r.place s).1).2)) (r.place s).1).length);have b:=Oq (F:=r.d.L) (r.place s).1 (qu r.d.L (r.place s).1++((r.place s).2++Y5 r.m r.mark [c] ep r.op r.cnt plain),(Vu r.d.L (r.place s).1).2);have e:=Ta (c:=c) (ep:=ep) I f;simp only[zj]at a b e;omega
def Un(I:Wy r s):1<=(r.place s).1/\(r.place s).1<=r.cnt+1/\s.last<=((r.place s).1:Int):=by
 have a:=I.base0;have b:=I.rC;unfold Sr.place;split
 rename_i h
 have:=h.1;simp only;omega;simp only;omega
def AN(I:Wy r s)(h:plain.length<=1020):jX (r.wrote s [c] ep plain).d.L:=by
 have i:=Un I;have j:=I.cnt;have k:=I.jD (r.place s).1;have a:=Ta (c:=c) (ep:=ep) I h;have g:=I.each.dat (r.place s).1;have b:i64 ((r.place s).1:Int):=by unfold i64;omega
 have e:Vu r.d.L (r.place s).1=Vu r.d.L (r.place s).1:=rfl;have f:(Vu r.d.L (r.place s).1).1=qu r.d.L (r.place s).1:=rfl;rw[ER I];simp only;refine(I.each.lay b ?_).lay b ?_;simp only[zj]at a⊢;rw[f]at g;omega;rw[uS I.gd,aA rfl];simp only[zj]at a⊢;omega
def k_{L0:KV}{xs:List Zl}{q q':Lk}{L L':KV}(I:Wy r s)(D:MP r s L0 xs q L)(B:recs q L (Y5 r.m r.mark [c] ep r.op r.cnt plain)=bO (q',L',[]))(i:q'.cnt=r.cnt+1){s':Jo}(x:q'.tag=nH r.m r.mark [c] ep r.op r.cnt plain)(p:q'.ep=s'.ep)(w:iF L' s'.L)(g:s'.base=s.base)(t:s'.last=((r.place s).1:Int))(v:s'.named=s.named):
  ∃xs',MP {r.wrote s [c] ep plain with sn:=bO s'} s' L0 xs' q' L':=by
 have o:=I.base0;have f:=D.base;have z:=D.last;have n:=I.rC;have j:=I.cnt;have b:((jT r.m r.d.L:Nat):Int)=s.base:=by rw[f];have:=AR r.m r.d.L;simp only[jT];omega
 have y:=D.ok.write B (xn9 _ _ _ _) (by rw[D.cnt,i];omega) (by
   unfold Sr.place;split
   rename_i h
   refine .inl ⟨rfl, ?_, ?_⟩;intro e;subst e;have:=h.1;simp at z;omega;simp only;omega;refine .inr ⟨?_, ?_⟩;simp only;rw[D.cnt]
   congr 1
   omega;simp only;omega) (by omega) fun k=>k7 I k
 obtain⟨hk,xs',a,l,_⟩:=y;refine⟨xs',a,i,x,p,w, ?_, ?_, ?_⟩;show s'.base=(Y0 (Jp r.m [] 0 0 0) (r.wrote s [c] ep plain).d.L).base;rw[hk,g,f];show s'.last=s'.base+xs'.length;rw[t,g];omega;show s'.named=(Y0 (Jp r.m [] 0 0 0) (r.wrote s [c] ep plain).d.L).named;rw[hk,v,D.named]
def SW(L:KV)(k v:Zl):(dA L k v).length<=L.length+1:=by
 induction L with
 |nil=>simp[dA]
 |cons p L ih=>
  obtain⟨a,b⟩:=p;unfold dA;split<;>simp<;>omega
def ST(L:KV)(k:Zl):(dO L k).length<=L.length:=by
 induction L with
 |nil=>simp[dO]
 |cons p L ih=>
  obtain⟨a,b⟩:=p;unfold dO;split<;>simp<;>omega
def y_:∀(D:List dM) (L:KV),(cO L D).length<=L.length+D.length
 |[],L=>ze _
 |c::D,L=>by
  have a:=y_ D<|app1 L c;have b:(app1 L c).length<=L.length+1:=by
   cases c with
   |put k v=>exact SW L k v
   |del k=>have:=ST L k;show(dO L k).length<=_;omega
  show(cO (app1 L c) D).length<=_;simp only[zh];omega
def Fr{L:KV}(h:jM L){k v:Zl}(hk:k≠[]/\k.length<=16/\v.length<=32):jM<|dA L k v:=by
 induction L with
 |nil=>intro p a;simp[dA]at a;subst a;exact hk
 |cons q L ih=>
  obtain⟨c,d⟩:=q;unfold dA;split;intro p a;rcases xf.1 a with rfl|a
  exact hk;exact h p (by simp[a]);intro p a;rcases xf.1 a with rfl|a
  exact h _ (by simp);exact ih (fun x b=>h x<|by simp[b]) p a
def zrb{L:KV}{k:Zl}{p:Zl×Zl}(h:p∈dO L k):p∈L:=by
 induction L with
 |nil=>cases h
 |cons q L ih=>
  obtain⟨a,b⟩:=q;unfold dO at h;split at h;exact xj _ h;rcases xf.1 h with rfl|h
  simp;exact xj _<|ih h
def F_:∀(D:List dM) {L:KV},jM L->(∀c∈D,mF c)->jM (cO L D)
 |[],L,h,_=>h
 |c::D,L,h,hD=>by
  refine F_ D ?_ fun x d=>hD x (by simp[d]);have a:=hD c (by simp);cases c with
  |put k v=>exact Fr h a
  |del k=>exact fun p b=>h p<|zrb b
end
section
variable {r:Sr} {s:Jo}
def wY.qm{m:Zl}{F:Ym}{L0 L:KV}{xs:List Zl}{q:Lk}(h:wY m F L0 xs q L):q.m=m:=by
 have:=h.log.m;rw[this];unfold Y0;split<;>rfl
structure tF(r:Sr)(r':Sr):Prop where
 op:r'.op=r.op
 m:r'.m=r.m
 D:r'.D=r.D
 M:r'.d.M=r.d.M
 nW:r'.nW=r.nW
def tF.trans{r1 r2 r3:Sr}(h:tF r1 r2)(k:tF r2 r3):tF r1 r3:=⟨k.op.trans h.op,k.m.trans h.m,k.D.trans h.D,k.M.trans h.M,k.nW.trans h.nW⟩
theorem tF.refl(r:Sr):tF r r:=⟨rfl,rfl,rfl,rfl,rfl⟩
def Sz(I:Wy r s){c:Z8}{ep:Nat}{plain:Zl}{q':Lk}{L':KV}{s':Jo}(n:plain.length<=1020)(z:r.cnt<=39)
  (C:∀L0 xs q L,MP r s L0 xs q L->∃q' L',recs q L (Y5 r.m r.mark [c] ep r.op r.cnt plain)=bO (q',L',[])/\q'.cnt=r.cnt+1/\q'.tag=nH r.m r.mark [c] ep r.op r.cnt plain/\q'.ep=s'.ep/\iF L' s'.L)
  (y:s'.base=s.base)(k:s'.last=((r.place s).1:Int))(l:s'.named=s.named)(i:s'.P=[])(f:jM s'.L)(a:s'.L.length<=20*(r.cnt+1))(b:s'.ep<=5)(g:s'.bP=s.bP):
  Wy {r.wrote s [c] ep plain with sn:=bO s'} s':=by
 obtain⟨L0,xs,q,L,D⟩:=I.dsk;obtain⟨q',L',p,t,v,w,x⟩:=C L0 xs q L D;obtain⟨h,o⟩:=k_ (s':=s') I D p t v w x y k l;have hd:(r.wrote s [c] ep plain).d.nx=r.d.nx/\(r.wrote s [c] ep plain).d.room=r.d.room:=by rw[ER I];exact⟨rfl,rfl⟩
 have j:=k8 (c:=c) (ep:=ep) I n;have B:=Un I;have e:((({r.wrote s [c] ep plain with sn:=bO s'}:Sr).cnt:Nat):Int)=(r.cnt:Int)+1:=by show((r.cnt+1:Nat):Int)=_;omega
 refine⟨⟨L0,h,q',L',o⟩, ?_,It I,AN I n,hd.1.trans I.nx,hd.2.trans I.room,I.lim, ?_, ?_, ?_, ?_, ?_,f,a,b,I.op,by rw[l];exact I.named,by rw[g];exact I.sh0⟩;exact p_;have:=I.fus;show J6 (r.wrote s [c] ep plain).d.L<=_;rw[e];omega;rw[k,e];omega;show r.cnt+1<=40;omega;rw[i];simp;rw[i];simp
def Pj(I:Wy r s){c:Z8}{ep:Nat}{plain:Zl}(s':Option Jo):tF r {r.wrote s [c] ep plain with sn:=s'}:=⟨rfl,rfl,rfl,by show(r.wrote s [c] ep plain).d.M=_;rw[ER I],rfl⟩
structure BH(r:Sr)(s:Jo)(r':Sr):Prop where
 run:r.bW s=(bO 0,r')
 sn:r'.sn=bO (r.ses1 s)
 inv:Wy r'<|r.ses1 s
 cnt:r'.cnt=if s.P=[]then r.cnt else r.cnt+1
 L:(r.ses1 s).L=cO s.L s.P
 P:(r.ses1 s).P=[]
 ep:(r.ses1 s).ep=s.ep
 bP:(r.ses1 s).bP=s.bP
 keep:tF r r'
def Wy.sync(I:Wy r s)(j:r.sn=bO s)(f:r.cnt<=39):∃r',BH r s r':=by
 by_cases b:s.P=[];have a:r.ses1 s=s:=by unfold Sr.ses1;rw[aA b]
 refine⟨r, ?_,by rw[a];exact j,by rw[a];exact I,by rw[aA b],by rw[a,b];rfl,by rw[a];exact b,by rw[a],by rw[a],tF.refl r⟩;unfold Sr.bW;rw[aA b];have a:r.ses1 s=({s with last:=(r.place s).1}:Jo).synced:=by unfold Sr.ses1;rw[aB b]
 have d:(Xt s.P).length<=1020:=by have:=IQ I.P;have:=I.P20;omega
 have g:1<=s.P.length:=qb.2 b;have l:=Mw (c:=82) (ep:=s.ep) I d;refine⟨{r.wrote s [82] s.ep (Xt s.P)with sn:=bO<|r.ses1 s}, ?_,rfl, ?_,by rw[aB b];rfl,by rw[a];rfl,by rw[a];rfl,by rw[a];rfl,by rw[a];rfl,Pj I _⟩;unfold Sr.bW;rw[aB b,l,aA rfl,a];refine Sz (q':=Jp [] [] 0 0 0) (L':=[]) I d f (fun m n q L D=>?_) (by rw[a];rfl) (by rw[a];rfl) (by rw[a];rfl) (by rw[a];rfl) ?_ ?_ (by rw[a];exact I.ep) (by rw[a];rfl);have h:=D.ok.qm;have i:=tR (k:=q) (L:=L) (op:=r.op) I.P g I.P20 (by rw[D.tag];exact I.mark);have e:=Sb (k:=q) (L:=L) (c:=82) (ep:=q.ep) (op:=r.op) (plain:=Xt s.P) (by omega) (by rw[D.ep];have:=I.ep;omega) (by rw[D.cnt];have:=I.cnt;omega) i;rw[h,D.tag,D.ep,D.cnt]at e;exact⟨_,_,e,rfl,rfl,by rw[a];rfl,by rw[a];exact iF.app s.P D.same⟩;rw[a];exact F_ s.P I.sK I.P;rw[a];have:=y_ s.P s.L;have:=I.len;have:=I.P20;show(cO s.L s.P).length<=_;omega
def Wy.rotate(I:Wy r s)(j:r.sn=bO s)(f:r.cnt<=38):(s.ep=5/\∃r',r.bV s=(bO 10,r')/\BH r s r')\/(s.ep≠5/\∃r1 r' s',BH r s r1/\r.bV s=(bO 0,r')/\r'.sn=bO s'/\Wy r' s'/\r'.cnt=r1.cnt+1/\s'.ep=s.ep+1/\s'.L=(r.ses1 s).L/\s'.P=[]/\s'.bP=s.bP/\tF r r'):=by
 obtain⟨r1,S⟩:=I.sync j (by omega);by_cases b:s.ep=5;refine .inl ⟨b,r1, ?_,S⟩;unfold Sr.bV;rw[S.run,aA rfl,aA<|S.ep.trans b];refine .inr ⟨b,r1,{r1.wrote (r.ses1 s) [75] ((r.ses1 s).ep+1) []with sn:=bO {r.ses1 s with last:=(r1.place<|r.ses1 s).1,ep:=(r.ses1 s).ep+1}},{r.ses1 s with last:=(r1.place<|r.ses1 s).1,ep:=(r.ses1 s).ep+1},S, ?_,rfl, ?_,rfl,by show(r.ses1 s).ep+1=_;rw[S.ep],rfl,S.P,S.bP,S.keep.trans<|Pj S.inv _⟩;unfold Sr.bV;rw[S.run,aA rfl,aB<|by rw[S.ep];exact b];have l:=Mw (c:=75) (ep:=(r.ses1 s).ep+1) (plain:=[]) S.inv (by simp);rw[l,aA rfl];have d:r1.cnt<=39:=by rw[S.cnt];split<;>omega
 have g:=S.inv.ep;have e:=S.ep;refine Sz (q':=Jp [] [] 0 0 0) (L':=[]) S.inv (by simp) d (fun m n q L D=>?_) rfl rfl rfl S.P S.inv.sK (by have:=S.inv.len;show(r.ses1 s).L.length<=_;omega) (by show(r.ses1 s).ep+1<=5;omega) rfl;have h:=D.ok.qm;have i:=tS (k:=q) (L:=L) (op:=r1.op) (by rw[D.ep];omega) (by rw[D.tag];exact S.inv.mark);have a:=Sb (k:=q) (L:=L) (c:=75) (ep:=q.ep+1) (op:=r1.op) (plain:=[]) (by simp) (by rw[D.ep];omega) (by rw[D.cnt];omega) i;rw[h,D.tag,D.ep,D.cnt]at a;exact⟨_,_,a,rfl,rfl,rfl,D.same⟩
def Rt{k:Lk}:∀{ns:List Int},(∀n∈ns,pJ k n=bL)->jA k ns d=(bL,d)
 |[],_=>rfl
 |n::ns,h=>by
  unfold jA;rw[aA<|h n<|by simp];exact Rt fun x a=>h x<|by simp[a]
def iF.len{L L':KV}(h:iF L L'):L.length=L'.length:=by
 have a:(Vp L).length=L.length:=by rw[(QJ L).length_eq,Zb]
 have b:(Vp L').length=L'.length:=by rw[(QJ L').length_eq,Zb]
 rw[<-a,<-b,<-KN,<-KN,VK h]
def iF.sK{L L':KV}(h:iF L L')(ho:jM L'):jM L:=by
 intro p c;have i:p.1∈L.map (·.1):=qp.2 ⟨p,c,rfl⟩;have d:Zh L p.1=bO p.2:=by
  have:∀{L:KV},Nd L->p∈L->Zh L p.1=bO p.2:=by
   intro L;induction L with
   |nil=>intro _ h;cases h
   |cons q L ih=>
    intro b c;unfold Nd at b;rw[xq,Zr]at b;unfold Zh;rcases xf.1 c with rfl|a
    simp;have:p.1≠q.1:=fun e=>b.1 (by rw[<-e];exact qp.2 ⟨p,a,rfl⟩);obtain⟨f,g⟩:=q;simp only at this⊢;rw[aB this];exact ih b.2 a
  exact this h.1 c
 rw[h.2.2]at d;have:∀{L:KV} {x v:Zl},Zh L x=bO v->(x,v)∈L:=by
  intro L;induction L with
  |nil=>intro x v h;cases h
  |cons p L ih=>
   intro x v h;obtain⟨f,g⟩:=p;unfold Zh at h;by_cases e:x=f;rw[aA e]at h;cases h;subst e;simp;rw[aB e]at h;exact xj _<|ih h
 exact ho _<|this d
structure FJ(r:Sr)(s:Jo)(mp:Nat)(k:Lk)(L:KV):Prop where
 look:Yu (Jp r.m r.mark r.cnt ((r.op+1:Nat):Int) mp) r.d.L=bO (k,L)
 mend:Xi k r.d=(bL,k,r.d)
 dD:k.dD=bK
 rC:0<=k.last/\k.last<=9999
 cnt:k.cnt=r.cnt
 tag:k.tag=r.mark
 same:iF L s.L
 inv:∀S,r.op<999->Wy (Wp r k S L) (V4 S k L)
 ep:k.ep=s.ep
 dK:k.dK=(Y0 (Jp r.m [] 0 0 0) r.d.L).dK
def Wy.reopen(I:Wy r s)(mp:Nat):∃k L,FJ r s mp k L:=by
 obtain⟨E,t,q,L,D⟩:=I.dsk;have B:=PF (mark:=r.mark) D.ok ((r.op+1:Nat):Int) mp D.tag;rw[D.cnt]at B;have F:=AR r.m r.d.L;have C:=D.ok.low;have v:(Y0 (Jp r.m r.mark r.cnt ((r.op+1:Nat):Int) mp) r.d.L).base=(Y0 (Jp r.m [] 0 0 0) r.d.L).base:=Us (Jp r.m r.mark r.cnt ((r.op+1:Nat):Int) mp) r.d.L rfl;have x:(Y0 (Jp r.m r.mark r.cnt ((r.op+1:Nat):Int) mp) r.d.L).dK=(Y0 (Jp r.m [] 0 0 0) r.d.L).dK:=by unfold Y0;split<;>rfl
 have w:(Y0 (Jp r.m r.mark r.cnt ((r.op+1:Nat):Int) mp) r.d.L).named=(Y0 (Jp r.m [] 0 0 0) r.d.L).named:=by unfold Y0;split<;>rfl
 have y:(Y0 (Jp r.m r.mark r.cnt ((r.op+1:Nat):Int) mp) r.d.L).dD=bK:=by unfold Y0;split<;>rfl
 obtain⟨k,hk⟩:∃k,k=({Y0 (Jp r.m r.mark r.cnt ((r.op+1:Nat):Int) mp) r.d.L with last:=(Y0 (Jp r.m [] 0 0 0) r.d.L).base+t.length}:Lk).set q:=⟨_,rfl⟩;have b:k.base=(Y0 (Jp r.m [] 0 0 0) r.d.L).base:=by rw[hk];exact v
 have h:k.dK=(Y0 (Jp r.m [] 0 0 0) r.d.L).dK:=by rw[hk];exact x
 have c:k.named=(Y0 (Jp r.m [] 0 0 0) r.d.L).named:=by rw[hk];exact w
 have i:k.dD=bK:=by rw[hk];exact y
 have a:k.last=(Y0 (Jp r.m [] 0 0 0) r.d.L).base+t.length:=by rw[hk];rfl
 have j:k.cnt=q.cnt:=by rw[hk];rfl
 have l:k.tag=q.tag:=by rw[hk];rfl
 have o:k.ep=q.ep:=by rw[hk];rfl
 have g:Xi k r.d=(bL,k,r.d):=by
  unfold Xi;rw[i,aB<|by simp,aB<|by simp];unfold qC;rw[Rt fun n H=>?_];have z:=I.gd.nums.1 H;unfold pJ;rw[h,b,a];rcases D.ok.own n z with e|e|e
  simp[e];simp[e];simp[e.1,e.2]
 refine⟨k,L, ?_,g,i, ?_,j.trans D.cnt,l.trans D.tag,D.same,fun S K=>?_,o.trans D.ep,h⟩;rw[B,<-hk];rw[a];omega;have J:=D.base;have G:=D.last;have hd:(Wp r k S L).d=r.d:=by unfold Wp;simp only[g]
 have f:(Wp r k S L).cnt=r.cnt:=j.trans D.cnt;have p:(Wp r k S L).mark=r.mark:=l.trans D.tag;refine⟨⟨E,t,q,L, ?_⟩,by rw[p];exact I.mark,by rw[hd];exact I.gd,by rw[hd];exact I.each,by rw[hd];exact I.nx,by rw[hd];exact I.room,I.lim,by rw[hd,f];exact I.fus, ?_,by rw[f];exact I.cnt,by simp[V4],by simp[V4],D.same.sK I.sK, ?_, ?_, ?_, ?_,by simp[V4]⟩;refine⟨?_,D.cnt.trans f.symm,D.tag.trans p.symm, ?_,iF.rfl' D.same.1, ?_, ?_, ?_⟩;rw[hd];exact D.ok;exact o.symm;rw[hd];exact b;show k.last=k.base+t.length;rw[a,b];rw[hd];exact c;rw[f];show k.last<=_;rw[a];have:=I.rC;omega;rw[f];show L.length<=_;rw[D.same.len];exact I.len;show k.ep<=5;rw[o,D.ep];exact I.ep;show r.op+1<=999;omega;show k.named=0\/k.named=10001\/k.named=10002;rw[c,<-D.named];exact I.named
end
def ZX{m:Mf}:∀(ns:List Int) (d:Dk),d.nx=bN->fM d.L->jX d.L->∃F',lK m ns d=(bL,{d with L:=F'})/\fM F'/\jX F'/\∀n,qu F' n=if n∈ns/\n≠0/\n≠(m.file:Int)then []else qu d.L n
 |[],d,_,hg,he=>⟨d.L,rfl,hg,he,fun n=>by simp⟩
 |n::ns,d,hx,hg,he=>by
  by_cases h:n=0\/n=(m.file:Int);obtain⟨F',f,g,i,j⟩:=ZX ns d hx hg he;refine⟨F',by unfold lK;rw[aA h];exact f,g,i,fun k=>?_⟩;rw[j k];by_cases e:k∈ns/\k≠0/\k≠(m.file:Int);rw[aA e,aA ⟨by simp[e.1],e.2⟩];rw[aB e,aB];rintro⟨a,b,l⟩;rcases xf.1 a with rfl|a
  exact h.elim b l;exact e ⟨a,b,l⟩;obtain⟨F',f,g,i,j⟩:=ZX ns {d with L:=V6 d.L n} hx (hg.del n) fun p o=>he p<|EM o;refine⟨F', ?_,g,i,fun k=>?_⟩;unfold lK;rw[aB h,zY hx,aB<|by simp,Eg hx];exact f;rw[j k];simp only;rw[KW hg];by_cases e:k∈ns/\k≠0/\k≠(m.file:Int);rw[aA e,aA ⟨by simp[e.1],e.2⟩];rw[aB e];by_cases c:k=n;subst c;rw[aA rfl,aA ⟨by simp,fun e=>h<|.inl e,fun e=>h<|.inr e⟩];rw[aB c,aB];rintro⟨a,b⟩;rcases xf.1 a with a|a
  exact c a;exact e ⟨a,b⟩
def DG{F:Ym}(h:fM F)(a:∀n,qu F n=[]):F=[]:=by
 cases F with
 |nil=>rfl
 |cons p F=>exact absurd (a p.1)<|h.mem.1<|by simp
def DP{F:Ym}(h:fM F){a b:Int}(m:∀n,qu F n≠[]->n=a\/n=b)(f:a≠b):J6 F=((qu F a).length:Int)+((qu F b).length:Int):=by
 have j:=ZH (F:=F) a;have i:=ZH (F:=V6 F a) b;have k:qu (V6 F a) b=qu F b:=by rw[KW h,aB fun e=>f e.symm]
 have l:V6 (V6 F a) b=[]:=DG ((h.del a).del b) fun n=>by
  rw[KW<|h.del a,KW h];by_cases c:n=b;rw[aA c];rw[aB c];by_cases d:n=a;rw[aA d];rw[aB d];exact jr fun g=>(m n g).elim d c
 rw[l,k]at i;simp only[J6,DN,List.sum_nil]at i;simp only[J6]at j⊢;omega
section
variable {r:Sr} {s:Jo}
def zx5(L:KV):(Vf L).length=lW (fD L):=by
 unfold Vf lW fD;rw[uP,List.length_flatMap]
 congr 1
 apply List.map_congr_left;intro k _;simp[qO,lX,qt];omega
def Two(F:Ym)(n:Nat):Prop:=∃(pt sl:Zl) (f:Int),(f=10001\/f=10002)/\sl.length=116/\pt.length=n/\∀k,qu F k=if k=0 then sl else if k=f then pt else []
def zut(n:Int):Ye n=10001\/Ye n=10002:=by unfold Ye;split<;>simp
def Wy.jR(I:Wy r s)(hs:r.sn=bO s)(hP:s.P=[])(bn:s.bP<999)(bo:(Vf s.L).length<=10000):
  ∃r' s',r.jR s=(bO 0,r')/\r'.sn=bO s'/\Wy r' s'/\s'.L=s.L/\s'.P=[]/\s'.ep=s.ep/\s'.bP=s.bP+1/\r'.cnt=r.cnt/\tF r r'/\(qu r.d.L<|Ye s.named)=[]/\Two r'.d.L (Vf s.L).length:=by
 obtain⟨L0,xs,q,L,D⟩:=I.dsk;have bm:=I.base0;have ba:=I.rC;have V:=I.cnt;have bb:=zut s.named;have l:qu r.d.L (Ye s.named)=[]:=by
  refine jr fun bk=>?_;rcases D.ok.own _ bk with e|e|e
  omega;rcases P9 r.m r.d.L with T|⟨f,T,h0,hf,hl⟩
  rw[T]at e;omega;have Q:=D.named;have:(Y0 (Jp r.m [] 0 0 0) r.d.L).named=((iL<|qu r.d.L 0).file:Int):=by unfold Y0;rw[aB h0];rfl
  rw[this,<-hf,<-T,<-e]at Q;unfold Ye at Q bb;split at Q<;>omega
  have:=D.last;have:=D.base;omega
 obtain⟨mf,b⟩:∃mf,mf=r.mf s:=⟨_,rfl⟩;obtain⟨g,R⟩:∃g,g=(r.parts s).flatten:=⟨_,rfl⟩;obtain⟨o,J⟩:∃o,o=mf.bS (Jm r.m s.ep):=⟨_,rfl⟩;have bc:g.length=(Vf s.L).length:=by rw[R];exact Lq _ _ _
 have e1:mf.ep=s.ep:=by rw[b];rfl
 have T:mf.cnt=r.cnt:=by rw[b];rfl
 have e3:mf.last=r.mark:=by rw[b];rfl
 have e4:mf.base=s.last.toNat:=by rw[b];rfl
 have e5:mf.file=Ye s.named:=by rw[b];rfl
 have e6:mf.len=(Vf s.L).length:=by rw[b];rfl
 have e7:mf.root=J7 (r.parts s):=by rw[b];rfl
 have e8:mf.bP=s.bP.toNat:=by rw[b];rfl
 have e9:mf.op=r.op:=by rw[b];rfl
 have H:mf.ok:=⟨by rw[e1];exact I.ep,by rw[e9];have:=I.op;omega,by rw[T];omega,by rw[e8];omega,by rw[e4];omega,by rw[e5];omega,by rw[e6];omega,by rw[e7];exact Sd _<|by unfold Sr.parts;rw[zZ];have:=(DU<|Vf s.L).2.1;omega,by rw[e3];exact I.mark⟩;have x:o.length=116:=by rw[J];exact YR _ _ H.root H.last
 obtain⟨B,C,X,bg,be⟩:∃B,(if g=[]then r.d else(r.d.app mf.file g).mR mf.file)={r.d with L:=B}/\fM B/\jX B/\∀n:Int,qu B n=if n=(mf.file:Int)then g else qu r.d.L n:=by
  by_cases t:g=[];refine⟨r.d.L,by rw[aA t],I.gd,I.each,fun n=>?_⟩;by_cases e:n=(mf.file:Int);rw[aA e,e,t,e5];exact l;rw[aB e];rw[aB t,z_ I.nx,Ui<|by exact I.nx];have hi:i64 (mf.file:Int):=by unfold i64;omega
  have h5:=I.each.dat (mf.file:Int);have G:qu r.d.L (mf.file:Int)=[]:=by rw[e5];exact l
  refine⟨_,rfl,(I.gd.lay _ _).lay _ _,(I.each.lay hi ?_).lay hi ?_,fun n=>?_⟩;have ed:(Vu r.d.L (mf.file:Int)).1=[]:=G;rw[ed]at h5;rw[G];simp only[jk,jn]at h5⊢;omega;simp only;rw[uS I.gd,aA rfl,G];simp only[jk];omega;simp only;rw[uS<|I.gd.lay _ _,uS I.gd,aA rfl,G,uS I.gd];by_cases e:n=(mf.file:Int);rw[aA e,aA e];rfl;rw[aB e,aB e,aB e]
 obtain⟨z,E⟩:∃z,z=Yx B 0 (o,(o.length:Int)):=⟨_,rfl⟩;have Y:fM z:=by rw[E];exact X.lay _ _
 have bh:jX z:=by rw[E];exact bg.lay (by unfold i64;omega)<|by simp only;omega
 have U:∀n:Int,qu z n=if n=0 then o else qu B n:=fun n=>by rw[E,uS X]
 obtain⟨a,bd,Z,bi,bf⟩:=ZX (m:=mf) (Xs z) {r.d with L:=z} I.nx Y bh;have M:({r.d with L:=B}:Dk).nx=bN:=I.nx;have O:({r with sn:=bO {s with bP:=s.bP+1}}:Sr).lays mf g o=(bL,{r.d with L:=a}):=by
  have y:qB mf o {r.d with L:=B}=(bL,{r.d with L:=a}):=by
   unfold qB;rw[zY M,aB<|by simp,Fi M,<-E];exact bd
  unfold Sr.lays;by_cases t:g=[];rw[aA t]at C⊢;show qB mf o r.d=_;rw[C];exact y;rw[aB t]at C⊢;show(if r.d.stops=bL then _ else _)=_;rw[zY I.nx,aB<|by simp];show(if(r.d.app mf.file g).stops=bL then _ else qB mf o ((r.d.app mf.file g).mR mf.file))=_;rw[zY<|by rw[z_ I.nx];exact I.nx,aB<|by simp,C];exact y
 have k:∀n:Int,qu a n=if n=0 then o else if n=(mf.file:Int)then g else []:=fun n=>by
  rw[bf n];by_cases v:n=0;rw[aB<|by simp[v],aA v];show qu z n=o;rw[U,aA v];rw[aB v];by_cases w:n=(mf.file:Int);rw[aB<|by simp[w],aA w];show qu z n=g;rw[U,aB v,be,aA w];rw[aB w];by_cases c3:qu z n=[];split;rfl;exact c3;rw[aA ⟨Y.nums.2 c3,v,w⟩]
 have j:qu a 0=o:=by rw[k,aA rfl]
 have N:o≠[]:=fun e=>by rw[e]at x;cases x
 have K:iL (qu a 0)=mf:=by rw[j,J];exact Nk H _
 have hk:Y0 (Jp r.m [] 0 0 0) a=(Jp r.m [] 0 0 0).begun mf 0:=by
  unfold Y0;rw[aB<|by rw[j];exact N,K];rfl
 have hb:(Y0 (Jp r.m [] 0 0 0) a).base=(s.last.toNat:Int):=by rw[hk];show(mf.base:Int)=_;rw[e4]
 have S:Y6 mf a (Xz r.m mf.ep)=bO (fD s.L):=by
  have F:nN mf a=bO g:=by
   unfold nN;by_cases h0:0<mf.len;rw[aA h0,aA<|by omega,aA<|by omega,k,aB<|by omega,aA rfl];rw[aB h0];have:g=[]:=xa (by omega);rw[this]
  unfold Y6;rw[F];show sU mf (Xz r.m mf.ep) g=_;unfold sU;have W:Yq g=r.parts s:=by rw[R];exact LI _ _ _
  rw[aA<|by omega,W,aA e7,e1];have bl:J8 mf (Xz r.m s.ep) (r.parts s)=Yq (Vf s.L):=by
   unfold Sr.parts;refine zE (Xz r.m s.ep) (fun i=>?_) _;rw[b];rfl
  rw[bl,(DU _).2.2];exact zrl I.nd I.sK
 refine⟨{r with d:={r.d with L:=a},sn:=bO _},{s with bP:=s.bP+1,base:=s.last,named:=(Ye s.named:Int)}, ?_,rfl, ?_,rfl,hP,rfl,rfl,rfl,⟨rfl,rfl,rfl,rfl,rfl⟩,l,g,o,mf.file,by omega,x,bc,k⟩;unfold Sr.jR;rw[aB<|by omega,aB,<-b,<-R,<-J,O,aA rfl];have h3:=I.fus;have h4:=I.room;have h5:r.roomFor (Vf s.L).length<=(Vf s.L).length+116:=by unfold Sr.roomFor;split<;>omega
 omega;refine⟨⟨fD s.L,[],Y0 (Jp r.m [] 0 0 0) a,fD s.L, ?_⟩,I.mark,Z,bi,I.nx,I.room,I.lim, ?_,ba,V, ?_, ?_,I.sK,I.len,I.ep,I.op,by rcases bb with e|e<;>simp[e],by have:=I.sh0;show 0<=s.bP+1;omega⟩;refine⟨⟨D.ok.m32,fun _=>?_,⟨fun h=>absurd h<|by rw[j];exact N,fun _=>?_⟩,jY.nil _ _ _,fun i hi=>absurd hi<|Wd _, ?_, ?_,fun n p=>?_⟩, ?_, ?_, ?_,cX I.nd, ?_, ?_, ?_⟩;show qJ r.m _<|qu a 0;rw[j,J,<-e1];refine zxs H ?_;rw[hk];exact Int.le_refl _;show Y6 (iL<|qu a 0) a _=_;rw[K];exact S;show qu a _=[];rw[hb,k,aB<|by simp;omega,aB<|by simp;omega];show(Y0 (Jp r.m [] 0 0 0) a).base.toNat+_<=_;rw[hb];simp;omega;have p:qu a n≠[]:=p;rw[k]at p;by_cases v:n=0;exact .inl v;rw[aB v]at p;by_cases w:n=(mf.file:Int);rw[aA w]at p;have bj:0<mf.len:=by have:=qb.2 p;omega
 refine .inr<|.inl ?_;show n=(Y0 (Jp r.m [] 0 0 0) a).dK;rw[hk,w];show _=if 0<mf.len then(mf.file:Int)else _
 rw[aA bj];rw[aB w]at p;exact absurd rfl p;show(Y0 (Jp r.m [] 0 0 0) a).cnt=r.cnt;rw[hk];exact T;show(Y0 (Jp r.m [] 0 0 0) a).tag=r.mark;rw[hk];exact e3;show(Y0 (Jp r.m [] 0 0 0) a).ep=s.ep;rw[hk];exact e1;show s.last=(Y0 (Jp r.m [] 0 0 0) a).base;rw[hb];omega;show s.last=s.last+(([]:List Zl).length:Int);simp;show(Ye s.named:Int)=(Y0 (Jp r.m [] 0 0 0) a).named;rw[hk,<-e5];rfl;have h2:=DP Z (fun n p=>by
  rw[k]at p;by_cases v:n=0;exact .inl v;rw[aB v]at p;by_cases w:n=(mf.file:Int);exact .inr w;rw[aB w]at p;exact absurd rfl p)<|by omega
 rw[j,k (mf.file:Int),aB<|by omega,aA rfl]at h2;show J6 a<=10116+1071*(r.cnt:Int);omega;show∀c∈s.P,mF c;exact I.P;exact I.P20
def Wy.GH(I:Wy r s)(o:r.sn=bO s)(b:r.cnt<=39)(c:s.bP<999)(e:(Vf s.now).length<=10000):
  ∃r1 r' s',BH r s r1/\r.dG s=(bO 0,r')/\r'.sn=bO s'/\Wy r' s'/\s'.L=(r.ses1 s).L/\s'.P=[]/\s'.ep=s.ep/\s'.bP=s.bP+1/\r'.cnt=r1.cnt/\tF r r'/\(qu r1.d.L<|Ye (r.ses1 s).named)=[]/\Two r'.d.L (Vf s.now).length:=by
 obtain⟨r1,S⟩:=I.sync o b;obtain⟨r',s',f,g,h,i,j,k,l,m,n,a⟩:=S.inv.jR S.sn S.P (by rw[S.bP];exact c) (by rw[S.L];exact e);refine⟨r1,r',s',S, ?_,g,h,i,j,k.trans S.ep,by rw[l,S.bP],m,S.keep.trans n,a.1,by have:=a.2;rw[S.L]at this;exact this⟩;unfold Sr.dG;rw[S.run,aA rfl];exact f
end
end
end P
namespace A
open Go
section
variable {Q:Exit→Act→Zy→Prop}
section
variable {P:Program} {ops:Array aD} {md:Region.Mode} {C:World->Prop}
def forced(md:Region.Mode)(ops:Array aD):Nat->Nat->Array Bool->Bool
 |0,_,listed=>(Region.ready md ops listed).isEmpty
 |f+1,k,listed=>(Region.ready md ops listed==[k])&&forced md ops f (k+1) (listed.setIfInBounds k bL)
def gT(P:Zp)(Q:Exit->Act->Zy->Prop):List aD->Act->Zy->Prop
 |[],a,w=>Q .normal a w
 |o::l,a,w=>o.wp P a w (gT P Q l) Q
def Py:∀(l:List aD) (k:Nat) (listed:Array Bool) (a:Act) (w:Zy),(∀j,j<l.length->l[j]?=ops[k+j]?)->l.all (fun o=>o.guard.isNone)=bL->
  forced md ops l.length k listed=bL->gT P Q l a w->wpAny P md ops Q l.length listed a w
 |[],k,listed,a,w,hl,hg,hf,h=>by
  simp only[forced,jn,List.isEmpty_iff]at hf;exact⟨hf,h⟩
 |o::l,k,listed,a,w,hl,hg,hf,h=>by
  simp only[zh,forced,xl,Ju]at hf;simp only[List.all_cons,xl,Option.isNone_iff_eq_none]at hg;have f:ops[k]?=bO o:=by simpa using(hl 0<|by simp).symm
  refine⟨fun c=>(by rw[hf.1]at c;cases c),fun i b=>?_⟩;rw[hf.1]at b;simp only[jp]at b;subst b;unfold wpOp;rw[f];simp only[Region.wanted,hg.1,if_true];exact .inl<|Oper.wp_mono (fun d m e=>Py l _ _ d m (fun j g=>by have:=hl (j+1) (by simpa using g);simpa[Ja,zW 1 j]using this) hg.2 hf.2 e) h
def LX(P:Zp)(md:Region.Mode)(ops:Array aD)(C:Zy->Prop)(z r:Nat)(Q:Act->Prop):Nat->Array Bool->Act->Prop
 |0,listed,a=>forced md ops (r+1) z listed=bL/\Q a
 |fuel+1,listed,a=>Region.ready md ops listed≠[]/\z∉Region.ready md ops listed/\∀i∈Region.ready md ops listed,qOp P ops C i (LX P md ops C z r Q fuel<|listed.setIfInBounds i bL) a
def Mm{z r:Nat}{Q:Act->Prop}{Q':Exit->Act->Zy->Prop}(c:∀listed a w,C w->forced md ops (r+1) z listed=bL->Q a->wpAny P md ops Q' (r+1) listed a w):∀(fuel:Nat) (listed:Array Bool) (a:Act) (w:Zy),C w->
  LX P md ops C z r Q fuel listed a->wpAny P md ops Q' (r+1+fuel) listed a w
 |0,listed,a,w,hw,h=>c listed a w hw h.1 h.2
 |fuel+1,listed,a,w,hw,h=>⟨fun f=>absurd f h.1,fun i g=>wpOp_of_qOp hw (fun d j b e=>Mm c fuel _ d j b e)<|h.2.2 i g⟩
def MO(md:Region.Mode)(ops:Array aD):Nat->aD->Nat->Bool
 |0,_,_=>bK
 |f+1,o,i=>o.after.any fun e=>Region.binds md e&&(e.on==i||(match ops[e.on]?with|some oj=>MO md ops f oj i|none=>bK))
def Mj{listed:Array Bool}(j:qN md ops listed){i:Nat}:∀(f:Nat) (o:aD),(∀e∈o.after,Region.binds md e=bL->listed.getD e.on bK=bL)->MO md ops f o i=bL->listed.getD i bK=bL
 |0,o,h,hr=>by cases hr
 |f+1,o,h,hr=>by
  unfold MO at hr;rw[Array.any_eq_true']at hr;obtain⟨e,l,b⟩:=hr;simp only[xl,Yk,Ju]at b;have g:=h e l b.1;rcases b.2 with a|a
  rwa[a]at g;cases hq:ops[e.on]?with
  |none=>rw[hq]at a;cases a
  |some oj=>
   rw[hq]at a;exact Mj j f oj (fun k d c=>j _ oj hq g k d c) a
def zvh{f:Nat}{z r:Nat}{oz:aD}{Q:Act->Prop}{i:Nat}{oi:aD}{v:Zv}(Z:ops[z]?=bO oz)(N:MO md ops f oz i=bL)(K:ops[i]?=bO oi)(t:∀(j:Nat) (o:aD) cs b,ops[j]?=bO o->o.op≠ .select cs b):
  ∀(fuel:Nat) (listed:Array Bool) (a:Act),qN md ops listed->
   (∀j oj,ops[j]?=bO oj->j≠i->listed.getD j bL=bK->(∀e∈oj.after,Region.binds md e=bL->e.on≠i)->oi.apart ops oj=bL)->
   i∈Region.ready md ops listed->YieldsIn P ops C oi v a->
   LX P md ops C z r Q fuel (listed.setIfInBounds i bL) (a.put oi.dst v)->LX P md ops C z r Q (fuel+1) listed a:=by
 intro fuel;have U:∀(listed:Array Bool),i∈Region.ready md ops listed->¬listed.getD i bK=bL:=fun listed g n=>by
  have R:=(Go.mem_ready.1 g).1;rcases Vi i listed.size with I|I
  simp[I]at R n;rw[R]at n;cases n;simp[ju I]at n
 have d:∀(listed:Array Bool),qN md ops listed->i∈Region.ready md ops listed->z∉Region.ready md ops listed:=fun listed w g O=>by
  obtain⟨_,ba,s,l⟩:=Go.mem_ready.1 O;rw[Z]at s;cases s;exact U _ g<|Mj w f oz l N
 induction fuel with
 |zero=>
  intro listed a w _ g G H;refine⟨fun h=>(by rw[h]at g;cases g),d listed w g,fun j y=>?_⟩;by_cases c:j=i;subst c;exact G.qOp K H;have:=ready_mono y c;have T:=H.1;simp only[forced,xl,Ju]at T;rw[T.1]at this;simp only[jp]at this;subst this;exact absurd y<|d _ w g
 |succ fuel ih=>
  intro listed a w m g G H;refine⟨fun h=>(by rw[h]at g;cases g),d listed w g,fun j y=>?_⟩;by_cases c:j=i;subst c;exact G.qOp K H;have n:=H.2.2 j<|ready_mono y c;obtain⟨q,oj,x,l⟩:=Go.mem_ready.1 y;have D:∀e∈oj.after,Region.binds md e=bL->e.on≠i:=fun e Y X J=>by
   have n:=l e Y X;rw[J]at n;exact U _ g n
  have W:=qOp_put x (m j oj x c q D) (fun cs b=>t i oi cs b K) (fun cs b=>t j oj cs b x) G n;have p:∀k F,ops[k]?=bO F->k≠i->(listed.setIfInBounds j bL).getD k bL=bK->
    (∀e∈F.after,Region.binds md e=bL->e.on≠i)->oi.apart ops F=bL:=fun k F hk L E M=>by
   refine m k F hk L ?_ M;by_cases B:j=k;subst B;exact q;rw[getD_set_ne bL B]at E;exact E
  refine qOp_mono (fun V S=>ih (listed.setIfInBounds j bL) V (w.set y) p (ready_mono g<|Ne.symm c) S.1 ?_) W;rw[Array.setIfInBounds_comm _ _ c];exact S.2
def LP(md:Region.Mode)(ops:Array aD)(z r:Nat)(oz:aD):Nat->Nat->Array Bool->Bool
 |0,_,listed=>forced md ops (r+1) z listed
 |fuel+1,k,listed=>(Region.ready md ops listed).contains k&&Region.free md ops listed k&&MO md ops 8 oz k&&LP md ops z r oz fuel (k+1) (listed.setIfInBounds k bL)
def Pv{z r:Nat}{oz:aD}(g:ops[z]?=bO oz){Q:Act->Prop}(f:Region.noSelect ops=bL):∀(l:List aD) (k:Nat) (listed:Array Bool) (a:Act),qN md ops listed->(∀j,j<l.length->l[j]?=ops[k+j]?)->
  LP md ops z r oz l.length k listed=bL->wpQuiet P ops C Q l a->LX P md ops C z r Q l.length listed a
 |[],_,_,_,_,_,hB,h=>by
  simp only[jn,LP]at hB;exact⟨hB,h⟩
 |o::l,k,listed,a,hc,hl,hB,h=>by
  have b:ops[k]?=bO o:=by simpa using(hl 0<|by simp).symm
  simp only[zh,LP,xl]at hB;obtain⟨⟨⟨e,m⟩,p⟩,c⟩:=hB;have d:qOp P ops C k (wpQuiet P ops C Q l) a:=by unfold qOp;simp only[b];exact h
  obtain⟨v,q,i⟩:=yieldsIn_of_qOp b d;exact zvh g p b (Region.noSelect_spec f) _ _ a hc (Region.free_spec b m) (by simpa using e) q
   (Pv g f l _ _ _ (hc.set<|by simpa using e) (fun j n=>by have:=hl (j+1) (by simpa using n);simpa[Ja,zW 1 j]using this) c i)
def XC(ops:Array aD)(n r:Nat):Bool:=match ops[n+1]?with
 |none=>bK
 |some oz=>Region.noSelect ops&&(Region.ready .any ops<|aW ops.size bK).contains 0&&Region.free .any ops (aW ops.size bK) 0&&LP .any ops (n+1) r oz n 1 ((aW ops.size bK).setIfInBounds 0 bL)
def zrq{id:Nat}{a:Act}{w:Zy}{o0 z:aD}{l1 l2:List aD}{v:Zv}(D:P.follows .mixedOrders=bL)(b:ops=(o0::(l1++z::l2)).toArray)(d:XC ops l1.length l2.length=bL)
  (B:(z::l2).all (fun o=>o.guard.isNone)=bL)(x:∀c a w,Q (.panic c) (a.put o0.dst v) w->Q (.panic c) a w)(hy:Yields P ops o0 v a)(t:C {w with drawn:=w.drawn+1})
  (h:wpQuiet P ops C (fun a'=>∀w',C w'->gT P Q (z::l2) a' w') l1<|a.put o0.dst v):(Code.region id ops bL).wp P Q a w:=by
 have i:ops.size=l2.length+1+l1.length+1:=by rw[b];simp;omega
 have q:ops[l1.length+1]?=bO z:=by rw[b];simp
 have f:ops[0]?=bO o0:=by rw[b];simp
 unfold XC at d;rw[q]at d;simp only[xl]at d;obtain⟨⟨⟨l,n⟩,r⟩,s⟩:=d;refine wp_region_any D ?_;have k:∀m,m=l2.length+1+l1.length+1->wpAny P .any ops Q m (aW ops.size bK) a {w with drawn:=w.drawn+1}:=fun m g=>by
  subst g;refine wpAny_take f l r n x hy ?_;refine Mm (C:=C) (z:=l1.length+1) (Q:=fun a'=>∀w',C w'->gT P Q (z::l2) a' w') (fun e a' w' F y E=>?_) l1.length _ _ _ t ?_;exact Py _ _ _ a' w' (fun j p=>by
   rw[b];simp only[q8];rw[show l1.length+1+j=(l1.length+j)+1 by omega,Xb,Zx<|by omega]
   congr 1
   omega) B y<|E w' F
  exact Pv q l l1 1 _ _ ((qN.none _).set<|by simpa using n) (fun j p=>by
   rw[b];simp only[q8];rw[zW 1 j,Xb,Z2 p]) s h
 exact k _ i
def eY{id:Nat}{a:Act}{w:Zy}{o0:aD}{l:List aD}{v:Zv}(n:Nat)(i:P.follows .mixedOrders=bL)(d:Nat.blt n l.length=bL)(e:XC (o0::l).toArray n (l.length-n-1)=bL)
  (f:(l.drop n).all (fun o=>o.guard.isNone)=bL)(g:∀c a w,Q (.panic c) (a.put o0.dst v) w->Q (.panic c) a w)(hy:Yields P (o0::l).toArray o0 v a)
  (h:wpQuiet P (o0::l).toArray (fun w'=>∃n,w'=w.drewN n) (fun a'=>∀w',(∃n,w'=w.drewN n)->gT P Q (l.drop n) a' w') (l.take n)<|a.put o0.dst v):(Code.region id (o0::l).toArray bL).wp P Q a w:=by
 have d:n<l.length:=Nat.le_of_ble_eq_true d;obtain⟨l1,z,b,rfl,rfl⟩:∃l1 z b,l=l1++z::b/\n=l1.length:=by
  refine⟨l.take n,l[n],l.drop<|n+1, ?_, ?_⟩;rw[<-Vd d,PW];rw[xt];omega
 simp only[List.drop_left,List.take_left]at h f;have j:(l1++z::b).length-l1.length-1=b.length:=by simp
 rw[j]at e;exact zrq i rfl e f g hy ⟨1,rfl⟩ h
end
end
end A
namespace P
open A.Tryq Go.RowKit
attribute [local go_sem] xe zv
def Jq.dX{w:Zy}{B:Nat}{r:Sr}(h:Jq w B r){x:Nat}(hx:r.own B x){cs:Za}{t:Zt}{f:Nat×Nat}(e:w.heap[x]?=bO (.cells cs t f)):t≠99/\t≠28:=by
 have blk:∀{b:Za} {g:Zt},xx w x b g->g≠99/\g≠28->t≠99/\t≠28:=fun {b g} d q=>by
  unfold xx at d;rw[d]at e;cases e;exact q
 have m:(∃l c,w.heap[x]?=bO (.map l c))->t≠99/\t≠28:=fun⟨l,c,d⟩=>by rw[d]at e;cases e
 rcases hx with rfl|(rfl|rfl|⟨c,j,rfl⟩)|⟨s,p,hx⟩;exact blk h.blk (by decide);exact blk h.disk.blk (by decide);exact m h.disk.map.blk;exact blk (h.disk.eU c j) (by decide);obtain⟨k,_⟩:=h.bU s p;rcases hx with rfl|rfl|⟨a,n,c,v,rfl⟩;exact blk k.blk (by decide);exact m k.map.blk;obtain⟨i,o,_⟩:=AC k.pend v;exact blk (show xx w _ i 173 from o)<|by decide
def jt.fI{w w':Zy}{B b:Nat}{r r':Sr}{k:gZ}(h:Jq w B r)(f:jt B r w r' w')(c:W6 w b k):W6 w' b k:=
 ⟨c.blk.but f.but fun a=>(h.dX a c.blk).2 rfl,c.kept.but f.but fun g d e a=>(h.dX a e).1 rfl,c.seen.but f.but fun g d e a=>(h.dX a e).1 rfl⟩
def jW(r:Sr)(s:Jo)(k:gZ)(del:Bool)(S T:Zl)(r':Sr)(k':gZ):Prop:=
 if(Ve S&&iW (if del then []else T))=bK then r'=r/\k'=k
 else if s.P.length=20 then r'=r/\k'=k
 else∃pv sv,r'={r with sn:=bO<|s.more pv (if del then .del S else .put S T)}/\k'={k with sv:=sv,seen:=Vc k.seen S (if del then []else T) del,pend:=k.pend+1}
structure zG(B b:Nat)(r:Sr)(w:Zy)(r':Sr)(k':gZ)(w':Zy):Prop where
 but:xb (fun x=>r.own B x\/x=b) w w'
 st:Jq w' B r'
 bk:W6 w' b k'
 own:∀x,r'.own B x->r.own B x\/w.heap.size<=x
def zzw(B b:Nat)(r:Sr)(s:Jo)(k:gZ)(N M:Int)(S T:Zl)(w:Zy)(h:Jq w B r)(hb:W6 w b k)(hs:r.sn=bO s)(hP:s.P.length<=20)(H:k.pend=s.P.length)(W:k.seen.length<=100000):
  bE prog 43 #[zo b,zo B,.agg #[zi 1,zi N,zi M,zs S,zs T]] w fun e w'=>e= .returned (.bool bL)/\∃r' k',jW r s k bK S T r' k'/\zG B b r w r' k' w':=by
 have HH:=zl h;have Z:=zl hb;have HS:=zl hs;have HP:=zl hP;have ba:=zl H;have E:Hid<|Nw w<|w.alloc<|.cells #[zi 1,zi N,zi M,zs S,zs T] 47:=xb.alloc _;have X0:Hid<|xx (w.alloc<|.cells #[zi 1,zi N,zi M,zs S,zs T] 47) w.heap.size #[zi 1,zi N,zi M,zs S,zs T] 47:=xx.new _ _ _;clear h hb hs hP;go_enter func43.1,Tryz.ntmps43
 go_wp2_with fail
 generalize w.alloc (.cells #[zi 1,zi N,zi M,zs S,zs T] 47)=w1 at*;have A1:=zl<|HH.o.but E.o fun _ _=>id;have B1:Hid<|W6 w1 b k:=⟨Z.o.blk.but E.o id,Z.o.kept.but E.o fun _ _ _=>id,Z.o.seen.but E.o fun _ _ _=>id⟩;refine(Dv B r S T _ A1.o fun t ht=>by rw[HS.o]at ht;cases ht;exact HP.o).mono ?_;rintro e y ⟨a,D,rfl,m,U⟩;have T2:=zl m;have J:=zl U;have R:=zl (X0.o.but m.but fun C=>by have:=Sr.bX HH.o C;omega);have n:=zl<|jt.fI A1.o m B1.o;have U2:=zl<|(E.o.mono fun _ x=>x.elim).trans m.but;have W2:Hid<|∀x,D.own B x->r.own B x\/w.heap.size<=x:=fun x C=>(m.own x C).imp id fun hh=>xz E.o.size hh;have x0:y.cell? (zq w.heap.size 0)=bO (zi 1):=R.o.cell 0 rfl;have x3:y.cell? (zq w.heap.size 3)=bO (zs S):=R.o.cell 3 rfl;have x4:y.cell? (zq w.heap.size 4)=bO (zs T):=R.o.cell 4 rfl;have y2:y.cell? (zq b 2)=bO (zi k.pend):=n.o.blk.cell 2 rfl;have bf:=Z.o.blk.lt;clear m U A1 B1 E X0;by_cases j:(Ve S&&iW T)=bK
 ·have o:Hid<|a=6/\jW r s k bK S T D k:=by
   have f:=J.o;unfold Sr.awaits at f;rw[HS.o]at f;simp only[j,if_true]at f;refine⟨f.1, ?_⟩;unfold jW;rw[aA<|by simpa using j];exact⟨f.2,rfl⟩
  obtain rfl:=o.o.1;have L:Hid<|∃r' k',jW r s k bK S T r' k'/\zG B b r w r' k' y:=⟨D,k,o.o.2,U2.o.mono fun _ x=> .inl x,T2.o.at_,n.o,W2.o⟩;have bc:S.length<1\/(¬S.length<1/\16<S.length)\/(¬S.length<1/\¬16<S.length/\32<T.length):=by
   have:=j;simp[Ve,iW]at this;omega
  clear j J o;rcases bc with f|⟨f,h2⟩|⟨f,h2,h3⟩
  ·have j1:(S.length:Int)<1:=by omega
   go_wp2_with fail
   go_ret
   exact⟨rfl,L.o⟩
  ·have j1:¬(S.length:Int)<1:=by omega
   have j2:(16:Int)<(S.length:Int):=by omega
   go_wp2_with fail
   go_ret
   exact⟨rfl,L.o⟩
  have j1:¬(S.length:Int)<1:=by omega
  have j2:¬(16:Int)<(S.length:Int):=by omega
  have j3:(32:Int)<(T.length:Int):=by omega
  go_wp2_with fail
  go_ret
  exact⟨rfl,L.o⟩
 have d:(Ve S&&iW T)=bL:=by simpa using j
 have bh:¬S.length<1:=by simp[Ve,iW]at d;omega
 have bi:¬16<S.length:=by simp[Ve,iW]at d;omega
 have bj:¬32<T.length:=by simp[Ve,iW]at d;omega
 by_cases c:s.P.length=20
 ·have o:Hid<|a=7/\jW r s k bK S T D k:=by
   have f:=J.o;unfold Sr.awaits at f;rw[HS.o]at f;simp only[d,c,if_true,PI,if_false]at f;refine⟨f.1, ?_⟩;unfold jW;rw[aB<|by rw[show(Ve S&&iW (if bK=bL then []else T))=bL from d];simp,aA c];exact⟨f.2,rfl⟩
  obtain rfl:=o.o.1;have L:Hid<|∃r' k',jW r s k bK S T r' k'/\zG B b r w r' k' y:=⟨D,k,o.o.2,U2.o.mono fun _ x=> .inl x,T2.o.at_,n.o,W2.o⟩;rw[show k.pend=20 from ba.o.trans c]at y2;clear J o j d c H
  go_wp2_with fail
  go_ret
  exact⟨rfl,L.o⟩
 have bl:k.pend<20:=by have:=HP.o;omega
 have o:Hid (a=0/\∃pv,D={r with sn:=bO<|s.more pv<|.put S T}):=by
  have f:=J.o;unfold Sr.awaits at f;rw[HS.o]at f;simp only[d,c,if_false,PI]at f;exact f
 obtain rfl:=o.o.1;have K:Hid<|∀sv,jW r s k bK S T D {k with sv:=sv,seen:=Vc k.seen S (T) bK,pend:=k.pend+1}:=fun sv=>by
  obtain⟨pv,bd⟩:=o.o.2;unfold jW;rw[aB<|by rw[show(Ve S&&iW (if bK=bL then []else T))=bL from d];simp,aB c];exact⟨pv,sv,bd,rfl⟩
 have f2:=n.o.blk.bT 2;have be:¬b=w.heap.size:=by omega
 have V:¬w.heap.size=b:=by omega
 have bm:(k.pend:Int)<20:=by omega
 clear J o j d c H
 go_wp2_with fail
 have z:Hid (xb (·=b) y<|y.setCell (zq b 2)<|zi<|(k.pend:Int)+1):=xb.set y (zq b 2) _;have L3:=zl<|n.o.blk.set 2<|zi<|(k.pend:Int)+1;have X3:=zl<|R.o.other (p:=zq b 2) V<|zi<|(k.pend:Int)+1;have A3:=zl (T2.o.at_.but z.o fun x C e=>by have e:x=b:=e;rw[e]at C;exact(T2.o.at_.dX C n.o.blk).2 rfl);have S3:=zl<|n.o.seen.but z.o fun g i G=>n.o.blk.dR (by decide) g i G;have K3:=zl<|n.o.kept.but z.o fun g i G=>n.o.blk.dR (by decide) g i G;have U3:Hid<|xb (fun x=>r.own B x\/x=b) w<|y.setCell (zq b 2)<|zi<|(k.pend:Int)+1:=(U2.o.mono fun _ x=> .inl x).trans<|z.o.mono fun _ x=> .inr x;clear z x0 x3 x4 y2 f2 R n T2 U2;generalize y.setCell (zq b 2) (zi<|(k.pend:Int)+1)=w3 at*;obtain⟨pp,pg,pc,I,bk,_⟩:=id S3.o;have bb:=zl I;rw[I]at S3;have z0:=(L3.o.cell 1 rfl).trans<|congrArg bO bb.o;have z3:w3.cell? (zq w.heap.size 3)=bO (zs S):=X3.o.cell 3 rfl;have z4:w3.cell? (zq w.heap.size 0)=bO (zi 1):=X3.o.cell 0 rfl;clear I
 go_wp2_with fail
 refine A.eY (v:=zo b) 11 (by kernel_rfl) (by kernel_rfl) (by kernel_rfl) (by kernel_rfl) (fun _ _ _ h=>h) (Or.inl ⟨by rfl,fun wq=>(by go_simp)⟩) ?_;simp only[PO,List.take_zero,Yn,W8,Act.put,xv,Z9,Zz]
 repeat (go_big_quiet_step (fail))
 refine wpQuiet_nil ?_;intro w4 Y;have NN:Hid<|Nw w3 w4:=by obtain⟨nq,rfl⟩:=Y;exact(xb.refl _ _).drewN'
 have Q:=zl<|S3.o.but NN.o fun _ _ _=>id;have O:=zl z0;clear Y z0 z3 z4;simp only[A.gT]
 go_wp2_with ((go_at_call 98;refine(Cb _ _ S (T) bK W _ Q.o).mono ?_;rintro e w5 ⟨v5,rfl,l,X⟩;obtain⟨a5,c5,rfl,bg⟩:=Jh l;have F:Hid<|Nw w3 w5:=NN.o.trans X;have z1:=F.o.cell id O.o;have g1:=(L3.o.but F.o id).bT 1;have O5:=zl l))
 have HE:Hid<|∃r' k',jW r s k bK S T r' k'/\zG B b r w r' k' (w5.setCell (zq b 1)<|.slice a5 (Vc k.seen S (T) bK).length c5):=by
  have U5:=(U3.o.trans<|F.o.mono fun _ x=>x.elim).trans<|(xb.set _ (zq b 1)<|.slice a5 (Vc k.seen S (T) bK).length c5).mono fun _ x=> .inr x;have q:xb (·=b) w5<|w5.setCell (zq b 1)<|.slice a5 (Vc k.seen S (T) bK).length c5:=xb.set _ (zq b 1) _;have L5:=L3.o.but F.o id;have A5:=A3.o.but F.o fun _ _=>id;refine⟨D,{k with sv:= .slice a5 (Vc k.seen S (T) bK).length c5,seen:=Vc _ S (T) bK,pend:=k.pend+1},K.o _,U5, ?_,⟨?_, ?_, ?_⟩,W2.o⟩;exact A5.but q (fun x C e=>by have e:=e;rw[e]at C;exact(A5.dX C L5).2 rfl);exact L5.set 1 _;exact(K3.o.but F.o fun _ _ _=>id).but q fun g i G=>L5.dR (by decide) g i G;exact(Uk O5.o).but q fun g i G=>L5.dR (by decide) g i G
 clear g1 z1 O NN F O5 l X K W2 U3 K3 S3 Q A3 L3 X3
 go_wp2_with fail
 go_ret
 exact⟨rfl,HE.o⟩
def zzv(B b:Nat)(r:Sr)(s:Jo)(k:gZ)(N M:Int)(S T:Zl)(w:Zy)(h:Jq w B r)(hb:W6 w b k)(hs:r.sn=bO s)(hP:s.P.length<=20)(H:k.pend=s.P.length)(V:k.seen.length<=100000):
  bE prog 43 #[zo b,zo B,.agg #[zi 2,zi N,zi M,zs S,zs T]] w fun e w'=>e= .returned (.bool bL)/\∃r' k',jW r s k bL S T r' k'/\zG B b r w r' k' w':=by
 have HH:=zl h;have Y:=zl hb;have HS:=zl hs;have HP:=zl hP;have ba:=zl H;have E:Hid<|Nw w<|w.alloc<|.cells #[zi 2,zi N,zi M,zs S,zs T] 47:=xb.alloc _;have X0:Hid<|xx (w.alloc<|.cells #[zi 2,zi N,zi M,zs S,zs T] 47) w.heap.size #[zi 2,zi N,zi M,zs S,zs T] 47:=xx.new _ _ _;clear h hb hs hP;go_enter func43.1,Tryz.ntmps43
 go_wp2_with fail
 generalize w.alloc (.cells #[zi 2,zi N,zi M,zs S,zs T] 47)=w1 at*;have A1:=zl<|HH.o.but E.o fun _ _=>id;have B1:Hid<|W6 w1 b k:=⟨Y.o.blk.but E.o id,Y.o.kept.but E.o fun _ _ _=>id,Y.o.seen.but E.o fun _ _ _=>id⟩;refine(CA B r S _ A1.o fun t ht=>by rw[HS.o]at ht;cases ht;exact HP.o).mono ?_;rintro e y ⟨a,D,rfl,m,R⟩;have T2:=zl m;have J:=zl R;have Q:=zl (X0.o.but m.but fun C=>by have:=Sr.bX HH.o C;omega);have n:=zl<|jt.fI A1.o m B1.o;have U2:=zl<|(E.o.mono fun _ x=>x.elim).trans m.but;have W2:Hid<|∀x,D.own B x->r.own B x\/w.heap.size<=x:=fun x C=>(m.own x C).imp id fun hh=>xz E.o.size hh;have x0:y.cell? (zq w.heap.size 0)=bO (zi 2):=Q.o.cell 0 rfl;have x3:y.cell? (zq w.heap.size 3)=bO (zs S):=Q.o.cell 3 rfl;have x4:y.cell? (zq w.heap.size 4)=bO (zs T):=Q.o.cell 4 rfl;have y2:y.cell? (zq b 2)=bO (zi k.pend):=n.o.blk.cell 2 rfl;have bf:=Y.o.blk.lt;clear m R A1 B1 E X0;by_cases j:(Ve S)=bK
 ·have o:Hid<|a=6/\jW r s k bL S T D k:=by
   have f:=J.o;unfold Sr.awaits at f;rw[HS.o]at f;simp only[j,if_true]at f;refine⟨f.1, ?_⟩;unfold jW;rw[aA<|by simp[show Ve S=bK from j]];exact⟨f.2,rfl⟩
  obtain rfl:=o.o.1;have Z:Hid<|∃r' k',jW r s k bL S T r' k'/\zG B b r w r' k' y:=⟨D,k,o.o.2,U2.o.mono fun _ x=> .inl x,T2.o.at_,n.o,W2.o⟩;have bc:S.length<1\/(¬S.length<1/\16<S.length):=by
   have:=j;simp[Ve,iW]at this;omega
  clear j J o;rcases bc with f|⟨f,h2⟩
  ·have j1:(S.length:Int)<1:=by omega
   go_wp2_with fail
   go_ret
   exact⟨rfl,Z.o⟩
  have j1:¬(S.length:Int)<1:=by omega
  have j2:(16:Int)<(S.length:Int):=by omega
  go_wp2_with fail
  go_ret
  exact⟨rfl,Z.o⟩
 have d:(Ve S)=bL:=by simpa using j
 have bh:¬S.length<1:=by simp[Ve,iW]at d;omega
 have bi:¬16<S.length:=by simp[Ve,iW]at d;omega
 by_cases c:s.P.length=20
 ·have o:Hid<|a=7/\jW r s k bL S T D k:=by
   have f:=J.o;unfold Sr.awaits at f;rw[HS.o]at f;simp only[d,c,if_true,PI,if_false]at f;refine⟨f.1, ?_⟩;unfold jW;rw[aB<|by simp[show Ve S=bL from d,iW],aA c];exact⟨f.2,rfl⟩
  obtain rfl:=o.o.1;have Z:Hid<|∃r' k',jW r s k bL S T r' k'/\zG B b r w r' k' y:=⟨D,k,o.o.2,U2.o.mono fun _ x=> .inl x,T2.o.at_,n.o,W2.o⟩;rw[show k.pend=20 from ba.o.trans c]at y2;clear J o j d c H
  go_wp2_with fail
  go_ret
  exact⟨rfl,Z.o⟩
 have bk:k.pend<20:=by have:=HP.o;omega
 have o:Hid (a=0/\∃pv,D={r with sn:=bO<|s.more pv<|.del S}):=by
  have f:=J.o;unfold Sr.awaits at f;rw[HS.o]at f;simp only[d,c,if_false,PI]at f;exact f
 obtain rfl:=o.o.1;have K:Hid<|∀sv,jW r s k bL S T D {k with sv:=sv,seen:=Vc k.seen S ([]) bL,pend:=k.pend+1}:=fun sv=>by
  obtain⟨pv,bd⟩:=o.o.2;unfold jW;rw[aB<|by simp[show Ve S=bL from d,iW],aB c];exact⟨pv,sv,bd,rfl⟩
 have f2:=n.o.blk.bT 2;have be:¬b=w.heap.size:=by omega
 have U:¬w.heap.size=b:=by omega
 have bl:(k.pend:Int)<20:=by omega
 clear J o j d c H
 go_wp2_with fail
 have z:Hid (xb (·=b) y<|y.setCell (zq b 2)<|zi<|(k.pend:Int)+1):=xb.set y (zq b 2) _;have L3:=zl<|n.o.blk.set 2<|zi<|(k.pend:Int)+1;have X3:=zl<|Q.o.other (p:=zq b 2) U<|zi<|(k.pend:Int)+1;have A3:=zl (T2.o.at_.but z.o fun x C e=>by have e:x=b:=e;rw[e]at C;exact(T2.o.at_.dX C n.o.blk).2 rfl);have S3:=zl<|n.o.seen.but z.o fun g i G=>n.o.blk.dR (by decide) g i G;have K3:=zl<|n.o.kept.but z.o fun g i G=>n.o.blk.dR (by decide) g i G;have U3:Hid<|xb (fun x=>r.own B x\/x=b) w<|y.setCell (zq b 2)<|zi<|(k.pend:Int)+1:=(U2.o.mono fun _ x=> .inl x).trans<|z.o.mono fun _ x=> .inr x;clear z x0 x3 x4 y2 f2 Q n T2 U2;generalize y.setCell (zq b 2) (zi<|(k.pend:Int)+1)=w3 at*;obtain⟨pp,pg,pc,I,bj,_⟩:=id S3.o;have bb:=zl I;rw[I]at S3;have z0:=(L3.o.cell 1 rfl).trans<|congrArg bO bb.o;have z3:w3.cell? (zq w.heap.size 3)=bO (zs S):=X3.o.cell 3 rfl;have z4:w3.cell? (zq w.heap.size 0)=bO (zi 2):=X3.o.cell 0 rfl;clear I
 go_wp2_with fail
 refine A.eY (v:=zo b) 11 (by kernel_rfl) (by kernel_rfl) (by kernel_rfl) (by kernel_rfl) (fun _ _ _ h=>h) (Or.inl ⟨by rfl,fun wq=>(by go_simp)⟩) ?_;simp only[PO,List.take_zero,Yn,W8,Act.put,xv,Z9,Zz]
 repeat (go_big_quiet_step (fail))
 refine wpQuiet_nil ?_;intro w4 X;have NN:Hid<|Nw w3 w4:=by obtain⟨nq,rfl⟩:=X;exact(xb.refl _ _).drewN'
 have O:=zl<|S3.o.but NN.o fun _ _ _=>id;have L:=zl z0;clear X z0 z3 z4;simp only[A.gT]
 go_wp2_with ((go_at_call 98;refine(Cb _ _ S ([]) bL V _ O.o).mono ?_;rintro e w5 ⟨v5,rfl,l,W⟩;obtain⟨a5,c5,rfl,bg⟩:=Jh l;have F:Hid<|Nw w3 w5:=NN.o.trans W;have z1:=F.o.cell id L.o;have g1:=(L3.o.but F.o id).bT 1;have O5:=zl l))
 have HE:Hid<|∃r' k',jW r s k bL S T r' k'/\zG B b r w r' k' (w5.setCell (zq b 1)<|.slice a5 (Vc k.seen S ([]) bL).length c5):=by
  have U5:=(U3.o.trans<|F.o.mono fun _ x=>x.elim).trans<|(xb.set _ (zq b 1)<|.slice a5 (Vc k.seen S ([]) bL).length c5).mono fun _ x=> .inr x;have q:xb (·=b) w5<|w5.setCell (zq b 1)<|.slice a5 (Vc k.seen S ([]) bL).length c5:=xb.set _ (zq b 1) _;have L5:=L3.o.but F.o id;have A5:=A3.o.but F.o fun _ _=>id;refine⟨D,{k with sv:= .slice a5 (Vc k.seen S ([]) bL).length c5,seen:=Vc _ S ([]) bL,pend:=k.pend+1},K.o _,U5, ?_,⟨?_, ?_, ?_⟩,W2.o⟩;exact A5.but q (fun x C e=>by have e:=e;rw[e]at C;exact(A5.dX C L5).2 rfl);exact L5.set 1 _;exact(K3.o.but F.o fun _ _ _=>id).but q fun g i G=>L5.dR (by decide) g i G;exact(Uk O5.o).but q fun g i G=>L5.dR (by decide) g i G
 clear g1 z1 L NN F O5 l W K W2 U3 K3 S3 O A3 L3 X3
 go_wp2_with fail
 go_ret
 exact⟨rfl,HE.o⟩
end P
namespace P
open Go.RowKit
structure Bk(r:Sr)(s:Jo)(k:gZ):Prop where
 seen:k.seen=fD s.now
 kept:k.kept=fD s.L
 pend:k.pend=s.P.length
 ep:k.ep=s.ep
 recs:k.recs=r.cnt
section
variable {r:Sr} {s:Jo} {k:gZ}
def Wy.swap{s':Jo}(I:Wy r s)(a:s'.L=s.L)(d:s'.ep=s.ep)(e:s'.base=s.base)(f:s'.last=s.last)(g:s'.named=s.named)(i:s'.bP=s.bP)(j:∀c∈s'.P,mF c)(b:s'.P.length<=20):Wy {r with sn:=bO s'} s':=by
 obtain⟨h,k,q,L,D⟩:=I.dsk;exact⟨⟨h,k,q,L,⟨D.ok,D.cnt,D.tag,D.ep.trans d.symm,by rw[a];exact D.same,by rw[e];exact D.base,by rw[f,e];exact D.last,by rw[g];exact D.named⟩⟩,I.mark,I.gd,I.each,I.nx,I.room,I.lim,I.fus,by rw[f];exact I.rC,I.cnt,j,b,by rw[a];exact I.sK,by rw[a];exact I.len,by rw[d];exact I.ep,I.op,by rw[g];exact I.named,by rw[i];exact I.sh0⟩
def Wy.oN(I:Wy r s):Nd s.now:=I.nd.cO s.P
def xru{del:Bool}{S T:Zl}(h:(Ve S&&iW (if del then []else T))=bL):mF (if del then .del S else .put S T):=by
 rw[xl]at h;obtain⟨a,c⟩:=h;have a:0<S.length/\S.length<=16:=by simpa[Ve]using a
 have b:S≠[]:=qb.1 a.1;cases del with
 |true=>exact⟨b,a.2⟩
 |false=>exact⟨b,a.2,by simpa[iW]using c⟩
def dE{r':Sr}{k':gZ}{del:Bool}{S T:Zl}(I:Wy r s)(g:r.sn=bO s)(B:Bk r s k)(h:jW r s k del S T r' k'):
  ∃s',r'.sn=bO s'/\Wy r' s'/\Bk r' s' k'/\r'.cnt=r.cnt/\r'.op=r.op/\s'.bP=s.bP:=by
 unfold jW at h;by_cases b:(Ve S&&iW (if del then []else T))=bK;rw[aA b]at h;obtain⟨rfl,rfl⟩:=h;exact⟨s,g,I,B,rfl,rfl,rfl⟩;rw[aB b]at h;by_cases f:s.P.length=20;rw[aA f]at h;obtain⟨rfl,rfl⟩:=h;exact⟨s,g,I,B,rfl,rfl,rfl⟩;rw[aB f]at h;obtain⟨e,sv,rfl,rfl⟩:=h;have d:=xru (by simpa using b);have i:=I.P20;refine⟨s.more e _,rfl, ?_, ?_,rfl,rfl,rfl⟩
 ·refine I.swap rfl rfl rfl rfl rfl rfl (fun c a=>?_) ?_
  rcases Je.1 a with a|a;exact I.P c a;rw[jp.1 a];exact d;show(s.P++[_]).length<=20;rw[zj,jd];omega
 refine⟨?_,B.kept, ?_,B.ep,B.recs⟩;show Vc k.seen S (if del then []else T) del=fD (s.more e (if del then .del S else .put S T)).now;rw[B.seen];have:(s.more e (if del then .del S else .put S T)).now=app1 s.now (if del then .del S else .put S T):=by
  unfold Jo.now Jo.more cO;rw[IJ];rfl
 rw[this,xog I.oN];show k.pend+1=(s.P++[_]).length;rw[zj,jd,B.pend]
def QU{r':Sr}(B:Bk r s k)(S:BH r s r'):Bk r' (r.ses1 s) k.synced:=by
 have a:(r.ses1 s).now=s.now:=by unfold Jo.now;rw[S.P,S.L];rfl
 refine⟨by rw[a];exact B.seen, ?_,by rw[S.P];rfl,by rw[S.ep];exact B.ep, ?_⟩;show k.seen=_;rw[B.seen,S.L];rfl;show(if 0<k.pend then k.recs+1 else k.recs)=r'.cnt;rw[S.cnt,B.recs,B.pend];by_cases h:s.P=[];rw[aA h,h];rfl;rw[aB h,aA<|qb.2 h]
def WP{k':gZ}{kk:Lk}{L:KV}{mp S:Nat}(B:Bk r s k)(R:FJ r s mp kk L)(a:k'.seen=k.kept)(b:k'.kept=k.kept)(c:k'.pend=0)(d:k'.ep=k.ep)(f:k'.recs=k.recs):Bk (Wp r kk S L) (V4 S kk L) k':=by
 have e:fD L=fD s.L:=VK R.same;exact⟨by rw[a,B.kept];exact e.symm,by rw[b,B.kept];exact e.symm,c,by rw[d,B.ep];exact R.ep.symm,by rw[f,B.recs];exact R.cnt.symm⟩
def fV.of{Bx:Nat}(I:Wy r s)(b:r.sn=bO s\/r.sn=bN)(a:∀x,r.own Bx x->2<x):fV Bx r where
 m:=I.m
 mark:=I.mark
 cnt:=by have:=I.cnt;omega
 op:=by have:=I.op;omega
 room:=by have:=I.room;omega
 files:=I.U9
 few:=by have:=I.few;have:=I.cnt;omega
 nx:=fun c h=>by rw[I.nx]at h;cases h
 own:=a
 bU:=fun i e=>by
  rcases b with b|b;rw[b]at e;cases e;have d:=I.base0;have f:=I.rC;have g:=I.cnt;exact⟨by omega,by omega,I.P20⟩;rw[b]at e;cases e
def SY(b:r.sn=bO s)(a:Zl):r.gets a=if Ve a=bK then(([],6):Zl×Int)else match Zh s.now a with
  |none=>([],8)
  |some v=>(v,0):=by unfold Sr.gets;rw[b];rfl
def TF(I:Wy r s):jM s.now:=F_ s.P I.sK I.P
def EP(I:Wy r s):s.now.length<=1000:=by
 have a:=y_ s.P s.L;have b:=I.len;have c:=I.P20;have d:=I.cnt;show(cO s.L s.P).length<=1000;omega
def KZ(L:KV):(fD L).length=L.length:=by unfold fD;rw[Zb,(QJ L).length_eq,Zb]
def D8(I:Wy r s)(d:r.sn=bO s):∀i (h:i<(fD s.now).length),r.gets (fD s.now)[i].1=((fD s.now)[i].2,0):=by
 intro i h;have b:(fD s.now)[i].1∈Vp s.now:=by rw[<-KN];exact qp.2 ⟨_,Zn h,rfl⟩
 have hk:=L9 (TF I) I.oN b;have f:(fD s.now)[i].2=(Zh s.now (fD s.now)[i].1).getD []:=by simp[fD]
 obtain⟨v,a⟩:=YI<|JH.1 b;rw[SY d,aB,a];rw[f,a];rfl;have c:=qb.2 hk.1;intro e;simp only[Ve,decide_eq_false_iff_not]at e;exact e ⟨c,hk.2.1⟩
end
end P
namespace P
open A.Tryq Go.RowKit
attribute [local go_sem] xe zv
def kU(B:Nat)(r:Sr)(w:Zy)(h:Jq w B r)(hk:mE r.d.L):
  bE prog 13 #[zo B] w fun e w'=>∃v,e= .returned v/\w'.ownsRow w.heap.size 36 2 v (Xs r.d.L).length (sJ r.d.L<|Xs r.d.L)/\Nw w w':=by
 have a:=zl<|tL r.D r.d w h.disk hk;have c:w.cell? (zq B 2)=bO (zo r.D):=h.blk.cell 2 rfl;clear h hk;go_enter func13.1,Tryz.ntmps13
 go_wp2_with fail
 refine a.o.mono ?_;rintro e w1 ⟨v,rfl,b⟩
 go_wp2_with fail
 go_ret
 exact⟨v,rfl,b⟩
def uD{w:Zy}{B n:Nat}{v:Zv}{xs:Ze}(h:w.ownsRow B 36 2 v n xs)(b:0<n):∃g cap,v= .slice (bO ⟨g,0,bN⟩) n cap/\n<=cap/\∀i x,xs[i]?=bO x->w.cell? (zq g i)=bO x:=by
 rcases h.2 with⟨_,j⟩|⟨g,cap,c,f,l,d,b,k,m,e⟩;omega;refine⟨g,cap,f,b,fun i x a=>?_⟩;rw[<-e,Jf]at a;split at a;simp only[World.cell?,d];simpa using a;cases a
abbrev FL:=List<|Int×Zl
def FM(w:Zy)(v:Zv)(l:FL):Prop:=∃p g cap,v= .slice p l.length cap/\(l≠[]->p=bO ⟨g,0,bN⟩)/\∀i (h:i<l.length),w.cell? (zq g<|i*2)=bO (zi l[i].1)/\w.cell? (zq g<|i*2+1)=bO (.string<|st l[i].2)
def oK(D:Nat)(d:Dk)(v:Zv)(l:FL)(f c:Nat->Int)(q:f 0= -1)(s:c 0=d.room)(Z:d.room<=1000000000)(z:∀k (h:k<l.length),f (k+1)=l[k].1/\c (k+1)=c k-(l[k].2.length:Int)/\f k<l[k].1/\l[k].2≠[]/\(l[k].2.length:Int)<=c k/\c k<=1000000000)(Y:l.length<=40)(w:Zy)(h:Xg w D d)(R:FM w v l):
  bE prog 77 #[zo D,v] w fun e w'=>e= .returned (.bool bL)/\Nw w w':=by
 obtain⟨p,g,Q,rfl,y,m⟩:=R;have I:=zl y;have H:Hid<|∀W,Nw w W->∀i (h:i<l.length),W.cell? (zq g<|i*2)=bO (zi l[i].1)/\W.cell? (zq g<|i*2+1)=bO (.string<|st l[i].2):=fun W n i h=>⟨n.cell id (m i h).1,n.cell id (m i h).2⟩;have J:=zl z;have o:w.cell? (zq D 0)=bO (zi d.room):=h.blk.cell 0 rfl;have F:=zl q;have G:=zl s;have S:¬(40:Int)<(l.length:Nat):=by omega
 clear y m z h q s;go_enter func77.1,Tryz.ntmps77
 go_wp2_with fail
 go_quiet (fail)
 have K:Hid<|Nw w<|w.drewN nq:=(xb.refl _ _).drewN';generalize w.drewN nq=w1 at*;clear o S
 go_wp2_with fail
 go_loopw [5,6,18] (fun a r i wr=>∃k:Nat,k<=l.length/\a=zi (f k)/\r=zi (c k)/\i=zi k/\Nw w wr) (fun _ _ i _=>(l.length-intOf i).toNat)
 case atStart=>exact⟨0,by omega,by rw[F.o],by rw[G.o],rfl,K.o⟩
 case round=>
  obtain⟨k,hk,rfl,rfl,rfl,t⟩:=hrel;have j:=zl t;clear t;by_cases b:k<l.length
  ·have T:(k:Int)<(l.length:Nat):=by omega
   have i2:(0:Int)<=(k:Int):=by omega
   obtain rfl:=I.o (fun e=>by rw[e]at b;cases b);obtain⟨o,X⟩:=H.o _ j.o k b;obtain⟨B,C,U,E,s4,s5⟩:=J.o k b;have M:=zl B;have O:=zl C;generalize l[k].1=n at*;generalize l[k].2=x at*;have q1:¬n<=f k:=by omega
   have q2:((st x).toList==[])=bK:=by rw[xo];simpa using E
   have q3:¬c k<(x.length:Int):=by omega
   have L:Hid<|Nw w<|wr.alloc<|.cells #[zi n,zs x] 36:=j.o.trans<|xb.alloc _;have V:Hid<|xx (wr.alloc<|.cells #[zi n,zs x] 36) wr.heap.size #[zi n,zs x] 36:=xx.new _ _ _;clear B C U E
   go_wp2_with fail
   exact⟨⟨k+1,by omega,by rw[M.o],by rw[O.o],by go_num,L.o⟩,by simp[intOf];omega⟩
  have T:¬(k:Int)<(l.length:Nat):=by omega
  go_wp2_with fail
  go_ret
  exact⟨rfl,j.o⟩
def oQ{P:Zp}{w:Zy}{t kt et:Zt}{m:Nat}{L:Ym}(f:P.underlying t=bO (.map kt et))(h:mD w m L)(ty:Zt):∃w',(Builtin.clear_ #[t] ty #[.map<|bO m]).run P w= .ok (.tuple #[]) w'/\xb (·=m) w w'/\mD w' m []:=by
 obtain⟨g,a,d,i,b⟩:=h;have c:=(za.1 d).1;refine⟨{w with heap:=w.heap.setIfInBounds m<|.map #[] a}, ?_,⟨rfl,rfl,by simp,fun j _ e=>by
  show(w.heap.setIfInBounds m _)[j]?=_;rw[zd<|Ne.symm e]⟩,_,_,zx c,by unfold jB;simp,by simp[MapKept.Stamped]⟩
 simp[Builtin.clear_,xm f,Result.andThen,Jv (P:=P) d,wO (P:=P) d]
def fG(F:Ym)(l:FL):Ym:=l.foldl (fun F x=>fF F x.1 (x.2,x.2.length)) F
def uF(F:Ym)(l:FL)(k:Nat)(h:k<l.length):fG F (l.take<|k+1)=fF (fG F<|l.take k) l[k].1 (l[k].2,l[k].2.length):=by
 unfold fG;rw[xy h,IJ];rfl
def vU(D:Nat)(d:Dk)(v:Zv)(l:FL)(ab rm:Nat->Int)(h0:ab 0= -1)(h1:rm 0=d.room)(hr:d.room<=1000000000)(hs:∀k (h:k<l.length),ab (k+1)=l[k].1/\rm (k+1)=rm k-(l[k].2.length:Int)/\ab k<l[k].1/\l[k].2≠[]/\(l[k].2.length:Int)<=rm k/\rm k<=1000000000)(hl:l.length<=40)(w:Zy)(h:Xg w D d)(hv:FM w v l):
  bE prog 38 #[zo D,v] w fun e w'=>e= .returned (zi 0)/\xb (·=d.M) w w'/\Xg w' D {d with L:=fG [] l}:=by
 have CH:=zl<|oK D d v l ab rm h0 h1 hr hs hl w h hv;obtain⟨p,g,cap,rfl,hp,hc⟩:=hv;have HD:=zl h;have HP:=zl hp;have HC:Hid (∀W,xb (·=d.M) w W->∀i (h:i<l.length),W.cell? (zq g<|i*2)=bO (zi l[i].1)/\W.cell? (zq g<|i*2+1)=bO (.string<|st l[i].2)):=fun W n i hi=>by
  have hg:g≠d.M:=fun e=>by
   obtain⟨es,c,h1,_⟩:=h.map;have:=(hc i hi).1;rw[e]at this;simp[World.cell?,h1]at this
  exact⟨n.cell hg (hc i hi).1,n.cell hg (hc i hi).2⟩
 clear h0 h1 hr hs h hp hc;go_enter func38.1,Tryz.ntmps38
 go_wp2_with fail
 refine CH.o.mono ?_;rintro e w1 ⟨rfl,hn1⟩;have HD1:=zl<|HD.o.but (S:=fun _=>False) hn1 fun _ _=>id;have c1:w1.cell? (zq D 1)=bO (.map<|bO d.M):=HD1.o.blk.cell 1 rfl;obtain⟨w2,hcl,hb2,hm2⟩:=oQ (P:=prog) uR HD1.o.map 0;have HD2:=zl<|Xg.jQ (S:=fun _=>False) HD1.o hb2 hm2;have B2:Hid (xb (·=d.M) w w2):=(hn1.mono fun _ x=>x.elim).trans hb2;clear hb2 hm2 hn1
 go_wp2_with fail
 clear hcl c1
 go_loopw [17] (fun i wr=>∃k:Nat,k<=l.length/\i=zi k/\xb (·=d.M) w wr/\Xg wr D {d with L:=fG []<|l.take k}) (fun i _=>(l.length-intOf i).toNat)
 case atStart=>exact⟨0,by omega,rfl,B2.o,HD2.o⟩
 case round=>
  obtain⟨k,hk,rfl,hb,hd⟩:=hrel;have HB:=zl hb;have HDk:=zl hd;clear hb hd;by_cases hlt:k<l.length
  ·have i1:(k:Int)<(l.length:Nat):=by omega
   have i2:(0:Int)<=(k:Int):=by omega
   obtain rfl:=HP.o (fun e=>by rw[e]at hlt;cases hlt);obtain⟨c0,c1⟩:=HC.o _ HB.o k hlt;have HT:=zl<|uF [] l k hlt;generalize fG [] (l.take k)=F at*;generalize l[k].1=n at*;generalize l[k].2=x at*;have N1:Hid<|Nw wr<|wr.alloc<|.cells #[zi n,zs x] 36:=xb.alloc _;have X1:Hid<|xx (wr.alloc<|.cells #[zi n,zs x] 36) wr.heap.size #[zi n,zs x] 36:=xx.new _ _ _
   go_wp2_with fail
   generalize wr.alloc (.cells #[zi n,zs x] 36)=wa at*;have HSC:Hid<|∀W,Nw wa W->W.cell? (zq D 1)=bO (.map<|bO d.M)/\W.cell? (zq wr.heap.size 0)=bO (zi n)/\W.cell? (zq wr.heap.size 1)=bO (zs x):=fun W h=>⟨(N1.o.trans h).cell id<|HDk.o.blk.cell 1 rfl,h.cell id<|X1.o.cell 0 rfl,h.cell id<|X1.o.cell 1 rfl⟩;have HDM:Hid<|D≠d.M/\wr.heap.size≠d.M:=⟨fun e=>HDk.o.vW e.symm,Xh HDk.o.map.lt⟩;have S0:=HSC.o _<|xb.refl _ _;clear c0 c1
   go_region_held3 (fun w'=>w'.cell? (zq D 1)=bO (.map<|bO d.M)/\w'.cell? (zq wr.heap.size 0)=bO (zi n)/\w'.cell? (zq wr.heap.size 1)=bO (zs x)) (first|exact S0|exact S1|exact S2)
   ((go_at_call 78;refine(IZ x _).mono ?_;rintro e w4 ⟨rfl,hb4⟩;have N4:Hid<|Nw wa w4:=(xb.refl _ _).drew.trans<|xb.of_below hb4;have S1:=HSC.o _ N4.o;obtain⟨w5,hrun,hb5,hs5⟩:=Eh (P:=prog) uR underlying3 (HDk.o.map.but (S:=fun _=>False) (N1.o.trans N4.o) id) n (x,(x.length:Int));have S2:=And.intro (hb5.cell HDM.o.1 S1.1)<|And.intro (hb5.cell HDM.o.2 S1.2.1)<|hb5.cell HDM.o.2 S1.2.2))
   have B5:Hid (xb (·=d.M) w w5):=(HB.o.trans<|(N1.o.trans N4.o).mono fun _ x=>x.elim).trans hb5;have D5:Hid<|Xg w5 D {d with L:=fG []<|l.take<|k+1}:=by
    show Xg _ _ _;rw[HT.o];exact Xg.jQ (S:=fun _=>False) (d:={d with L:=F}) (HDk.o.but (S:=fun _=>False) (N1.o.trans N4.o) fun _ _=>id) hb5 hs5
   clear hb5 hs5 hrun S1 S2 S0 hb4
   go_wp2_with fail
   go_roundw
   case rel=>exact⟨k+1,by omega,by go_num,B5.o,D5.o⟩
   case measure=>simp[intOf];omega
  have i1:¬(k:Int)<(l.length:Nat):=by omega
  obtain rfl:k=l.length:=by omega
  rw[Yw]at HDk
  go_wp2_with fail
  go_ret
  exact⟨rfl,HB.o,HDk.o⟩
def tT(B:Nat)(r:Sr)(v:Zv)(l:FL)(c b:Nat->Int)(f:c 0= -1)(g:b 0=r.d.room)(j:r.d.room<=1000000000)(m:∀k (h:k<l.length),c (k+1)=l[k].1/\b (k+1)=b k-(l[k].2.length:Int)/\c k<l[k].1/\l[k].2≠[]/\(l[k].2.length:Int)<=b k/\b k<=1000000000)(t:l.length<=40)(w:Zy)(h:Jq w B r)(a:r.sn=bN)(n:FM w v l):
  bE prog 15 #[zo B,v] w fun e w'=>e= .returned (zi 0)/\jt B r w {r with d:={r.d with L:=fG [] l}} w':=by
 have o:=zl<|vU r.D r.d v l c b f g j m t w h.disk n;have p:=zl h;have y:w.cell? (zq B 2)=bO (zo r.D):=h.blk.cell 2 rfl;have z:w.cell? (zq B 7)=bO (.pointer bN):=(h.blk.cell 7 rfl).trans (by simp[Sr.cells,Sr.iJ,a]);have q:=zl a;clear h f g j m n a;go_enter func15.1,Tryz.ntmps15
 go_wp2_with fail
 refine o.o.mono ?_;rintro e w1 ⟨rfl,i,hd⟩;have s:=zl<|jt.disk p.o (i.mono fun _ x=> .inr (.inl x)) hd rfl fun _ x=>x;clear i hd
 go_wp2_with fail
 go_ret
 exact⟨rfl,s.o⟩
end P
end Go.Proofs.YtjnbhiamaabbgabGreatDoor
