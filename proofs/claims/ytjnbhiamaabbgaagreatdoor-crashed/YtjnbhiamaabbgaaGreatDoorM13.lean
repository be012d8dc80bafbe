import Derived.Test.YtjnbhiamaabbgaaGreatDoorM12
set_option linter.all false
set_option maxRecDepth 100000
set_option maxHeartbeats 8000000
namespace Go.Proofs.YtjnbhiamaabbgaaGreatDoor
open Bool renaming false->bK,true->bL
open Go renaming execOp->bG,results->aN,undef->bJ
open Go.Proofs.Tryz renaming prog->bM
open Option renaming none->bN,some->bO
namespace P
open A.Tryq Go.RowKit A
variable [pn:A.Pn]
attribute [local go_sem] xe zv
def Gn(B:Nat)(v2:Zv)(b:Nat)(a:Act):Prop:=∃x1 x4 x5 x6 x7 x8 x9 x10 x11 x12 x13 x14 x15 x16 x17 x18 x19 x20 x21 x22 x23 x24 x25 x26 x27 x28 x29 x30 x31 x32 x33 x34 x35 x36 x37 x38 x39 x40 x41 x42 x43 x44,a=⟨#[zo B,x1,v2,zo b,x4,x5,x6,x7,x8,x9,x10,x11,x12,x13,x14,x15,x16,x17,x18,x19,x20,x21,x22,x23,x24,x25,x26,x27,x28,x29,x30,x31,x32,x33,x34,x35,x36,x37,x38,x39,x40,x41,x42,x43,x44],[]⟩
def xmu{a:Act}{B b:Nat}{v2:Zv}(d:a.defers=[])(c:a.tmps.size=45)(e:At a 0<|zo B)(f:At a 2 v2)(g:At a 3<|zo b):Gn B v2 b a:=by
 obtain⟨⟨l⟩,W⟩:=a;simp only at d;subst d;simp only[jg]at c;unfold At at e f g;simp only[q8]at e f g;obtain _|⟨X,l⟩:=l;simp at c;obtain _|⟨Y,l⟩:=l;simp at c;obtain _|⟨Z,l⟩:=l;simp at c;obtain _|⟨x3,l⟩:=l;simp at c;obtain _|⟨x4,l⟩:=l;simp at c;obtain _|⟨x5,l⟩:=l;simp at c;obtain _|⟨x6,l⟩:=l;simp at c;obtain _|⟨x7,l⟩:=l;simp at c;obtain _|⟨x8,l⟩:=l;simp at c;obtain _|⟨x9,l⟩:=l;simp at c;obtain _|⟨h,l⟩:=l;simp at c;obtain _|⟨i,l⟩:=l;simp at c;obtain _|⟨j,l⟩:=l;simp at c;obtain _|⟨k,l⟩:=l;simp at c;obtain _|⟨m,l⟩:=l;simp at c;obtain _|⟨n,l⟩:=l;simp at c;obtain _|⟨o,l⟩:=l;simp at c;obtain _|⟨p,l⟩:=l;simp at c;obtain _|⟨q,l⟩:=l;simp at c;obtain _|⟨r,l⟩:=l;simp at c;obtain _|⟨s,l⟩:=l;simp at c;obtain _|⟨t,l⟩:=l;simp at c;obtain _|⟨v,l⟩:=l;simp at c;obtain _|⟨w,l⟩:=l;simp at c;obtain _|⟨x,l⟩:=l;simp at c;obtain _|⟨z,l⟩:=l;simp at c;obtain _|⟨C,l⟩:=l;simp at c;obtain _|⟨D,l⟩:=l;simp at c;obtain _|⟨E,l⟩:=l;simp at c;obtain _|⟨F,l⟩:=l;simp at c;obtain _|⟨G,l⟩:=l;simp at c;obtain _|⟨H,l⟩:=l;simp at c;obtain _|⟨I,l⟩:=l;simp at c;obtain _|⟨J,l⟩:=l;simp at c;obtain _|⟨K,l⟩:=l;simp at c;obtain _|⟨L,l⟩:=l;simp at c;obtain _|⟨M,l⟩:=l;simp at c;obtain _|⟨N,l⟩:=l;simp at c;obtain _|⟨O,l⟩:=l;simp at c;obtain _|⟨Q,l⟩:=l;simp at c;obtain _|⟨R,l⟩:=l;simp at c;obtain _|⟨S,l⟩:=l;simp at c;obtain _|⟨T,l⟩:=l;simp at c;obtain _|⟨U,l⟩:=l;simp at c;obtain _|⟨V,l⟩:=l;simp at c;obtain _|⟨y,l⟩:=l;rotate_left;simp at c;cases e;cases f;cases g;exact⟨_,_,_,_,_,_,_,_,_,_,_,_,_,_,_,_,_,_,_,_,_,_,_,_,_,_,_,_,_,_,_,_,_,_,_,_,_,_,_,_,_,_,rfl⟩
def V4(S:Nat)(k:Lk)(L:KV):Jo:=⟨S,k.mp,L,.slice bN 0 0,[],k.ep,k.base,k.last,k.named,0⟩
def xne(k:Lk)(d:Dk):(Xi k d).2.1.mp=k.mp/\(Xi k d).2.1.m=k.m/\(Xi k d).2.1.ep=k.ep:=by
 unfold Xi;split;split;exact⟨rfl,rfl,rfl⟩;exact⟨rfl,rfl,rfl⟩;split;split;exact⟨rfl,rfl,rfl⟩;exact⟨rfl,rfl,rfl⟩;exact⟨rfl,rfl,rfl⟩
def QX(cv tv:Zv)(B:Nat)(r:Sr)(w:Zy)(e:Ending)(w':Zy):Prop:=∃mp,w.heap.size<=mp/\match Yu (Jp r.m r.mark r.cnt r.op mp) r.d.L with
 |none=>e=eF tv/\jt B r w r w'
 |some (k,L)=>((Xi k r.d).1=bL/\e= .returned (zi 0)/\∃S,jt B r w {r with cnt:=k.cnt,mark:=k.tag,d:=(Xi k r.d).2.2,sn:=bO<|V4 S (Xi k r.d).2.1 L} w')\/((Xi k r.d).1=bK/\e=eF cv/\jt B r w {r with cnt:=k.cnt,mark:=k.tag,d:=(Xi k r.d).2.2} w')
def xry{B b:Nat}{r:Sr}{w0 w w2 w3:Zy}{k:Lk}{L:KV}{k':Lk}{d':Dk}(m:Jq w0 B r)(v:r.sn=bN)(j:Nw w0 w)(Z:w0.heap.size<=b)(T:w0.heap.size<=k'.mp)(V:Xd w k'.mp L)(H:b≠k'.mp)
  (z:w2=(w.setCell (zq B 4)<|zi k.cnt).setCell (zq B 5) (zs k.tag))(g:xb (fun y=>y=b\/r.d.own r.D y) w2 w3)(o:Xg w3 r.D d')(ho:∀y,d'.own r.D y->r.d.own r.D y):
  jt B r w0 {r with cnt:=k.cnt,mark:=k.tag,d:=d'} w3/\jt B r w0 {r with cnt:=k.cnt,mark:=k.tag,d:=d',sn:=bO<|V4 w3.heap.size k' L} ((w3.alloc<|.cells (V4 w3.heap.size k' L).cells 97).setCell (zq B 7)<|zo w3.heap.size):=by
 have q:=fun x (f:r.d.own r.D x)=>Dk.bX m.disk f;have S:=m.blk.lt;have R:=m.blk.nw j;have F:xb (·=B) w w2:=by rw[z];exact(xb.set w (zq B 4) _).trans<|xb.set _ (zq B 5) _
 have N:xx w2 B ({r with cnt:=k.cnt,mark:=k.tag,d:=d'}:Sr).cells 81:=by
  have O:=(R.set 4<|zi k.cnt).set 5<|zs k.tag;rw[z];exact O
 have I:=N.but g (by
  rintro(e|e);omega;exact m.fB e)
 have U:=j.size;have X:=F.size;have Y:=g.size;have l:∀E,xb (fun y=>y=B\/w3.heap.size<=y) w3 E->xb (r.own B) w0 E:=fun E Q=>by
  have C:xb (fun y=>y=B\/y=b\/r.d.own r.D y\/w3.heap.size<=y) w E:=((F.mono fun _ h=> .inl h).trans<|g.mono fun _ h=>h.elim (fun e=> .inr (.inl e)) fun e=> .inr (.inr<|.inl e)).trans<|Q.mono fun _ h=>h.elim .inl fun e=> .inr (.inr<|.inr e);refine⟨C.os.trans j.os,C.output.trans j.output,xz j.size C.size,fun i J f=>(C.block i (zn J j.size) fun h=>?_).trans<|j.block i J id⟩;rcases h with e|e|e|e
  exact f<|.inl e;omega;exact f<|.inr<|.inl e;omega
 refine⟨⟨l w3<|xb.refl _ _,⟨I,o,fun s e=>by rw[show({r with cnt:=k.cnt,mark:=k.tag,d:=d'}:Sr).sn=r.sn from rfl,v]at e;cases e⟩,fun x f=>?_⟩, ?_⟩;rcases f with e|e|⟨s,e,_⟩
 exact .inl<|.inl e;exact .inl<|.inr<|.inl<|ho x e;rw[show({r with cnt:=k.cnt,mark:=k.tag,d:=d'}:Sr).sn=r.sn from rfl,v]at e;cases e;have G:xb (fun y=>y=B\/w3.heap.size<=y) w3<|(w3.alloc<|.cells (V4 w3.heap.size k' L).cells 97).setCell (zq B 7)<|zo w3.heap.size:=((Nw.alloc w3 _).mono fun _ h=>h.elim).trans<|(xb.set _ _ _).mono fun _ h=> .inl h;have p:¬r.d.own r.D k'.mp:=fun h=>by have:=q _ h;omega
 have t:=(V.but F<|by show¬k'.mp=B;omega).but g (by
  rintro(e|e);exact H e.symm;exact p e)
 have K:=t.lt;refine⟨l _ G,⟨?_, ?_,fun s e=>?_⟩,fun x f=>?_⟩;exact(I.alloc _).set 7 _;exact o.but G fun x f=>by
  rintro(e|e);exact m.fB (by rw[<-e];exact ho x f);have:=q x<|ho x f;omega
 cases e;refine⟨⟨?_, ?_, ?_⟩, ?_⟩;exact(xx.new w3 _ 97).other (by show w3.heap.size≠B;omega) _;exact t.but G (by
  rintro(e|e);have e:=e;omega;have e:=e;omega)
 exact Vl _ _ _ _;intro e;have e:k'.mp=d'.M:=e;exact p<|ho _<|.inr<|.inl e;rcases f with e|e|⟨s,e,f⟩
 exact .inl<|.inl e;exact .inl<|.inr<|.inl<|ho x e;cases e;rcases f with e|e|⟨a,n,c,W,e⟩
 have e:x=w3.heap.size:=e;exact .inr (by omega);have e:x=k'.mp:=e;exact .inr (by omega);cases W
def RE{cv tv v2:Zv}{B b:Nat}{r:Sr}{w0 w:Zy}{k:Lk}{L:KV}{R:Ending->Zy->Prop}{Po:Exit->Act->Zy->Prop}{a:Act}(ha:Gn B v2 b a)(p:Jq w0 B r)(G:r.sn=bN)(K:Nw w0 w)(hb:w0.heap.size<=b)(bc:w0.heap.size<=k.mp)
  (J:Xa w b k)(hs:Xd w k.mp L)(F:fV B r)(hG:iA cv tv w)(hw:k.dD=bL->0<=k.whole/\k.whole<=((qu r.d.L k.last).length:Nat))(bb:-1000000000000<=k.last/\k.last<=1000000000000)
  (z:Hid<|∀e a' w',nJ bM funcs Tryz.f36 R e a' w'->Po e a' w')
  (W:Hid<|∀w' S,(Xi k r.d).1=bL->jt B r w0 {r with cnt:=k.cnt,mark:=k.tag,d:=(Xi k r.d).2.2,sn:=bO<|V4 S (Xi k r.d).2.1 L} w'->R (.returned<|zi 0) w')
  (V:Hid<|∀w',(Xi k r.d).1=bK->jt B r w0 {r with cnt:=k.cnt,mark:=k.tag,d:=(Xi k r.d).2.2} w'->R (eF cv) w'):
  Kh.wp prog Po a w:=by
 obtain⟨x1,x4,x5,x6,x7,x8,x9,bi,bj,bk,bl,bm,bn,bo,bp,bq,br,bs,bt,bu,bv,bw,bx,bz,b0,b1,b2,b3,b4,b5,b6,b7,b8,b9,ca,cb,cc,cd,ce,cf,cg,ch,rfl⟩:=ha;have o:=zl<|p.blk.nw K;have HD:=zl<|p.disk.but K fun _ _=>id;have HL:=zl J;have HS:=zl hs;have HG:=zl hG;have N:=zl F;have M:=zl p;have HN:=zl K;have m:=zl G;have HW:=zl hw;have be:=p.blk.lt;have Y:¬b=B:=by omega
 have U:¬B=b:=by omega
 have Z:Hid<|¬r.d.own r.D b:=fun h=>by have:=Dk.bX p.disk h;omega
 have c2:w.cell? (zq B 2)=bO (zo r.D):=o.o.cell 2 rfl;have c4:w.cell? (zq B 4)=bO (zi r.cnt):=o.o.cell 4 rfl;have c5:w.cell? (zq B 5)=bO (zs r.mark):=o.o.cell 5 rfl;have f4:=o.o.bT 4;have f5:=o.o.bT 5;have l8:w.cell? (zq b 8)=bO (zi k.cnt):=J.cell 8 rfl;have l9:w.cell? (zq b 9)=bO (zs k.tag):=J.cell 9 rfl;clear p K J hs F hG G hw
 conv=>arg 2;whnf
 go_wp2_with fail
 obtain⟨H,g⟩:∃H,H=(w.setCell (zq B 4)<|zi k.cnt).setCell (zq B 5) (zs k.tag):=⟨_,rfl⟩;rw[<-g];have O:=zl g;have l:Hid (xb (·=B) w H):=by show xb _ _ _;rw[g];exact(xb.set w (zq B 4) _).trans<|xb.set _ (zq B 5) _
 have X2:Hid<|xx H B ({r with cnt:=k.cnt,mark:=k.tag}:Sr).cells 81:=by
  have T:=(o.o.set 4<|zi k.cnt).set 5<|zs k.tag;show xx _ _ _ _;rw[g];exact T
 have L2:Hid<|Xa H b k:=xx.but HL.o l.o Y;have D2:=zl (HD.o.but l.o fun x hx e=>M.o.fB<|by have e:x=B:=e;rw[<-e];exact hx);have X:b≠0:=by omega
 have C2:=zl (HG.o.FT.but l.o<|by have:=N.o.own B<|.inl rfl;show¬0=B;omega);clear g c2 c4 c5 f4 f5 l8 l9;refine(xnf b k r.D r.d _ L2.o D2.o N.o.FU N.o.few C2.o Z.o X HW.o bb).mono ?_;rintro e i ⟨I,n,f,C,E⟩;have j:=xne k r.d;have ba:b≠k.mp:=fun e=>by obtain⟨es,c,T⟩:=HS.o.blk;exact xx.cZ HL.o T e
 have Q:=xry M.o m.o HN.o hb (by rw[j.1];exact bc) (by rw[j.1];exact HS.o) (by rw[j.1];exact ba) O.o n C E;cases hm:(Xi k r.d).1 with
 |false=>
  rw[hm]at I;subst I;refine z.o _ _ _ ⟨rfl,V.o _ hm Q.1⟩
 |true=>
  rw[hm]at I;subst I;have y:=zl (X2.o.but n (by
   rintro(e|e);exact U e;exact M.o.fB e))
  have s:=Q.2;generalize(Xi k r.d).2.1=k' at*;have q:Hid<|∀S,S=i.heap.size->jt B r w0 {r with cnt:=k.cnt,mark:=k.tag,d:=(Xi k r.d).2.2,sn:=bO<|V4 S k' L} ((i.alloc<|.cells (V4 S k' L).cells 97).setCell (zq B 7)<|zo S):=fun S e=>by subst e;exact s
  have HM:=zl hm;have d7:i.cell? (zq B 7)=bO (.pointer bN):=by
   have:=y.o.cell 7 (v:=Sr.iJ _) rfl;rw[this];simp[Sr.iJ,m.o]
  have g7:=y.o.bT 7;have k4:i.cell? (zq b 4)=bO (.map<|bO k'.mp):=f.cell 4 rfl;have k5:i.cell? (zq b 5)=bO (zi k'.ep):=f.cell 5 rfl;have bf:i.cell? (zq b 11)=bO (zi k'.base):=f.cell 11 rfl;have bg:i.cell? (zq b 12)=bO (zi k'.last):=f.cell 12 rfl;have bh:i.cell? (zq b 13)=bO (zi k'.named):=f.cell 13 rfl;have bd:¬B=i.heap.size:=by have:=y.o.lt;omega
  have e7:(i.alloc<|.cells #[.map<|bO k'.mp,.slice bN 0 0,zi k'.ep,zi k'.base,zi k'.last,zi k'.named,zi 0] 97).cell? (zq B 7)=bO (.pointer bN):=((y.o.alloc _).cell 7 (v:=Sr.iJ _) rfl).trans (by simp[Sr.iJ,m.o]);have h7:=(y.o.alloc<|.cells #[.map<|bO k'.mp,.slice bN 0 0,zi k'.ep,zi k'.base,zi k'.last,zi k'.named,zi 0] 97).bT 7;clear Q s n f C E hm j
  go_wp2_with fail
  refine z.o _ _ _ ⟨rfl,zi 0,fun t d=>⟨t,d, ?_⟩,W.o _ _ HM.o<|q.o _ rfl⟩;show(aN Tryz.f36 _).run prog _=_;simp[aN,Tryz.results36,go_sem]
end P
namespace P
open A.Tryq Go.RowKit A
variable [pn:A.Pn]
section
variable {B:Nat} {t:Nat→Question→Nat}
def xqq:Tryz.f36.body=bO (.seq Ip<|.seq pM Kh):=by kernel_rfl
def jt.re{r r':Sr}{w w':Zy}{d:Nat}(h:jt B r w r'<|re w' t d):jt B r w r' w':=⟨xb.re h.but,⟨h.at_.blk,⟨h.at_.disk.blk,h.at_.disk.map,h.at_.disk.eU⟩,fun s a=>⟨⟨(h.at_.bU s a).1.blk,(h.at_.bU s a).1.map,(h.at_.bU s a).1.pend⟩,(h.at_.bU s a).2⟩⟩,h.own⟩
def jt.gL{r r':Sr}{w w':Zy}(h:jt B r w r' w')(t:Nat->Question->Nat)(d:Nat):jt B r w r'<|A.re w' t d:=⟨⟨h.but.os,h.but.output,h.but.size,h.but.block⟩,⟨h.at_.blk,⟨h.at_.disk.blk,h.at_.disk.map,h.at_.disk.eU⟩,fun s a=>⟨⟨(h.at_.bU s a).1.blk,(h.at_.bU s a).1.map,(h.at_.bU s a).1.pend⟩,(h.at_.bU s a).2⟩⟩,h.own⟩
def zxy{cv tv:Zv}{r:Sr}{w w':Zy}{e:Ending}{d:Nat}:QX cv tv B r w e (re w' t d)↔QX cv tv B r w e w':=by
 constructor;rintro⟨f,g,h⟩;refine⟨f,g, ?_⟩;cases hq:Yu (Jp r.m r.mark r.cnt r.op f) r.d.L with
 |none=>rw[hq]at h;exact⟨h.1,jt.re h.2⟩
 |some p=>
  rw[hq]at h;rcases h with⟨a,b,S,c⟩|⟨a,b,c⟩
  exact .inl ⟨a,b,S,jt.re c⟩;exact .inr ⟨a,b,jt.re c⟩
 rintro⟨f,g,h⟩;refine⟨f,g, ?_⟩;cases hq:Yu (Jp r.m r.mark r.cnt r.op f) r.d.L with
 |none=>rw[hq]at h;exact⟨h.1,jt.gL h.2 t d⟩
 |some p=>
  rw[hq]at h;rcases h with⟨a,b,S,c⟩|⟨a,b,c⟩
  exact .inl ⟨a,b,S,jt.gL c t d⟩;exact .inr ⟨a,b,jt.gL c t d⟩
def xnr{cv tv:Zv}{r:Sr}{w:Zy}(h:Jq w B r)(F:r.sn=bN)(a:fV B r)(p:iA cv tv w)(j:∀i,(qu r.d.L i).length<=100000)
  (y:∀mp k L,Yu (Jp r.m r.mark r.cnt r.op mp) r.d.L=bO (k,L)->(k.dD=bL->0<=k.whole/\k.whole<=((qu r.d.L k.last).length:Nat))/\ -1000000000000<=k.last/\k.last<=1000000000000):
  CC bM 36 #[zo B] w (QX cv tv B r w):=by
 have K:kT<|nJ bM funcs Tryz.f36<|QX cv tv B r w:=AO fun e w t d=>zxy;have l:∀x,r.d.own r.D x->4<x:=fun x W=>a.own x<|.inr<|.inl W;refine CC.fA bQ oC (bZ rfl Tryz.func36 rfl).1 Tryz.func36 xqq ?_;rw[show Tryz.f36.ntmps=45 from rfl];refine Xn.go' bQ kZ oC K trivial fun w0 M Q R hX=>?_;have g:=ji Q;have H:Ip.wp prog M ⟨#[zo B]++Array.replicate (45-1) bJ,[]⟩ w0:=by
  simp only[jg,zh,jn,Nat.reduceAdd,Nat.reduceSub,qw,qx,Z7,Zi,jk,jc]
  conv=>arg 2;whnf
  go_wp2_with fail
  refine R.o _ _ ?_;have J:=h.but g fun _ _=>id;refine Xn.seq bQ oC trivial (xns (tv:=tv) (r:=r) (B:=B) (v2:=zi 0) J.blk J.disk l (p.Am.nw g) (p.tab.nw g) a.m (by have:=a.cnt;omega) j rfl rfl rfl rfl (fun O I mp c E C n=>?_) fun O I mp b k L c G X Y Z E C hb n s U T=>?_);refine⟨c,mp,by have:=g.size;omega, ?_⟩;rw[n];exact⟨rfl,jt.nw h<|g.trans E⟩;have nw:=g.trans E;have ba:=g.size;refine Xn.last' bQ kZ oC K fun w1 N o q=>?_;have n1:=ji o;obtain⟨V,v⟩:=y mp k L n;refine RE (cv:=cv) (tv:=tv) (k:=k) (L:=L) (r:=r) (xmu c G X Y Z) h F (nw.trans n1) (by omega) (by omega) (Xa.nw T n1) (by rw[s];exact U.nw n1) a (p.but (S:=fun _=>False) (nw.trans n1) fun _ x=>x.elim) V v q (fun I S z f=>?_) fun I z f=>?_;refine⟨mp,by omega, ?_⟩;rw[n];exact .inl ⟨z,rfl,S,f⟩;refine⟨mp,by omega, ?_⟩;rw[n];exact .inr ⟨z,rfl,f⟩
 exact H
end
end P
namespace A
open Go Go.Conc Go.RowKit
variable [pn:Pn]
section
variable {P:Program} {F:Array Func} {dm:Frame} {w w':World}
def RX.leaves(K:J0 P F)(s:gN P dm){fr0:Zf}{fnc:Func}{u:FrameMode}{c0:Zf}{cs:List Zf}{R:Ending->Zy->Prop}(hk:fr0.kind= .normal)(B:¬Mc P fr0.fn)(G:∃fn,P.funcs[fr0.fn]?=bO fn)(x:(wf P F).funcs[fr0.fn]?=bO fnc)(H:fr0.mode=u)
  (y:∀e w t d,R e (A.re w t d)->R e w)(p:∀w',¬R .outgrown w')(E:∀t d,Leaves (wf P F) fnc fr0.tmps R fr0.defers u<|A.re w t d):
  RX P (Z0 fr0 (c0::cs)) w (fun g' w'=>∃e,R e w'/\UJ c0 cs e g'):=by
 refine(RX.lift K s
  (End:=fun g' w'=>∃e g q n,R e (A.re w' q n)/\e≠ .outgrown/\g'=Z0 g [dm]/\g.fn=fr0.fn/\g.leaving (wf P F) (A.re w' q n) e) (fun g' w' t d=>Iff.rfl) ?_ B hk ?_).trans ?_
 rintro g' w' ⟨e,g,q,n,_,h,rfl,_,m⟩ ⟨_,hd⟩;cases e with
 |outgrown=>exact h rfl
 |returned v=>
  obtain⟨a,b,_⟩:=m;rcases hd with⟨k,_⟩|⟨_,k,_⟩
  have f:g.mode= .run:=k;rw[a]at f;cases f;have f:g.defers=[_]:=k;rw[b]at f;cases f
 |panicked c=>
  obtain⟨a,b,_⟩:=m;rcases hd with⟨k,_⟩|⟨_,k,_⟩
  have f:g.mode= .run:=k;rw[a]at f;cases f;have f:g.defers=[_]:=k;rw[b]at f;cases f
 intro t d;obtain⟨e,w',g,j,C,i,m⟩:=leaves_steps (P:=wf P F) fr0.defers u (A.re w t d) fr0 [dm] H rfl rfl x hk<|E t d;have h:e≠ .outgrown:=by rintro rfl;exact p _ j
 refine⟨g,[dm],w', ?_,e,g,w'.tape,w'.drawn,j,h,rfl,i,m⟩;cases e with
 |outgrown=>exact absurd rfl h
 |returned v=>exact C
 |panicked c=>exact C
 rintro z w' ⟨g',l,⟨e,g,q,n,j,h,rfl,i,m⟩,r,rfl⟩;have:l=[]:=by
  have D:[dm]=l++[dm]:=r;have:=congrArg List.length D;simp only[zj,jd]at this;exact xa<|by omega
 subst this;have j:=y _ _ _ _ j;have o:zK P F g w' e:=⟨h,q,n,m⟩;show RX P (Z0 g (c0::cs)) w' _;cases e with
 |outgrown=>exact(p _ j).elim
 |returned v=>
  refine(RX.ret K (by rw[i];exact B) o).trans ?_;rintro z I ⟨t,d,rfl,rfl⟩;exact(RX.refl ⟨_,j,rfl⟩).kI
 |panicked ch=>
  refine(RX.raise o<|by rw[i];exact G).trans ?_;rintro z I ⟨rfl,rfl⟩;exact .refl ⟨_,j,rfl⟩
end
end A
namespace P
open A.Tryq Go.RowKit
attribute [local go_sem] xe zv
def Oh(p q:Addr)(w:Zy):CallsD prog 63 #[.pointer<|bO p,.pointer<|bO q] .returning w fun e u' w'=>e= .returned (.tuple #[])/\u'= .returning/\w'=w:=by
 refine callsD_of_wpS func63.1 rfl fun a c b=>?_;apply wpS_seq;apply wpS_region;simp[wpOpsS,go_sem,recoverD,b,Tryz.ntmps63,Exit.thenS];apply wpS_seq;apply wpS_region;simp[wpOpsS,go_sem,Exit.thenS];refine wpS_cond (t:=bK) (by simp[Act.eval,Array.replicate]) ?_;simp only[xu,if_false];refine wpS_of_wp<|wp_skip ?_;cases a;simp_all [bodyPostS,aN,Tryz.results63]
def Pp(B:Nat)(r:Sr)(s:Jo)(l:KV)(W:Zv)(w:Zy)(h:Jq w B r)(O:r.sn=bO s)(M:s.P.length<=20)(hk:∀p∈s.now,p.1.length<=1000000)(z:s.now.length<=1000000)(hl:qW w W l)
  (b:Vp s.now=l.map (·.1))(n:∀i (h:i<l.length),r.gets l[i].1=(l[i].2,0)):
  Calls prog 14 #[.pointer<|bO ⟨B,0,bN⟩,W] w fun e w'=>e= .returned (.bool bL)/\Nw w w':=by
 obtain⟨p,g,ba,rfl,T,o⟩:=hl;have Z:=zl h;have HS:=zl O;have HP:=zl M;have HR:=zl o;have Y:=zl n;have I:=zl<|Pr B r s w h O M hk z;have bb:l.length<=1000000:=by have:=o8 s.now;rw[b,Zb]at this;omega
 rw[b]at I;clear h O M hk z o n b;go_enter func14.1,Tryz.ntmps14
 go_wp2_with fail
 refine I.o.mono ?_;rintro e w1 ⟨v,rfl,k,C⟩;obtain⟨a,Q,rfl,q⟩:=Jh k;have K:Hid (l≠[]->∃x,a=bO ⟨x,0,bN⟩/\tH w1 x (l.map (·.1))):=fun m=>by
  rcases QS (f:=encStr) (fun _=>rfl) k with⟨_,e⟩|⟨x,c,e,_,_,H⟩;exact absurd (List.map_eq_nil_iff.1 e) m;cases e;exact⟨x,rfl,H⟩
 have L:=zl C;clear k C I;simp only[Zb]at q⊢
 go_wp2_with fail
 go_loopw [7] (fun i wr=>∃j:Nat,j<=l.length/\i= .int .i64 j/\Nw w1 wr) (fun i _=>(l.length-intOf i).toNat)
 case atStart=>exact⟨0,by omega,rfl,xb.refl _ _⟩
 case round=>
  obtain⟨j,hj,rfl,z⟩:=hrel;have E:=zl z;clear z;by_cases d:j<l.length
  ·have i1:(j:Int)<(l.length:Nat):=by omega
   have i0:(0:Int)<=(j:Int):=by omega
   have m:l≠[]:=by intro e;rw[e]at d;cases d
   obtain⟨rfl,H⟩:=HR.o m;obtain⟨x,rfl,y⟩:=K.o m;have F:Hid<|∀w',Nw w1 w'->w'.cell? ⟨g,j*2,bN⟩=bO (.string<|st l[j].1)/\w'.cell? ⟨g,j*2+1,bN⟩=bO (.string<|st l[j].2)/\w'.cell? ⟨x,j,bN⟩=bO (.string<|st l[j].1):=fun w' U=>by
    have R:=(H.but (L.o.trans U) id).cell j d;have S:=y.cell j (by rw[Zb];exact d);rw[List.getElem_map]at S;exact⟨R.1,R.2,U.cell id S⟩
   have J:=zl<|Y.o j d;generalize l[j].1=qk at*;generalize l[j].2=qv at*;have r0:=(F.o _ E.o).1;clear H y
   go_wp2_with fail
   refine(TM B r qk _ (Z.o.but (L.o.trans E.o) fun _ _=>id) fun t V=>by rw[HS.o]at V;cases V;exact HP.o).mono ?_;rintro e X ⟨rfl,D⟩;rw[J.o];have G:Hid<|Nw w1 X:=E.o.trans D;have s0:=(F.o _ G.o).1;have s1:=(F.o _ G.o).2.1;have s2:=(F.o _ G.o).2.2;clear r0 D
   go_wp2_with fail
   go_quiet (fail)
   have N3:Hid<|Nw w1<|X.drewN nq:=G.o.trans (xb.refl _ _).drewN'
   go_wp2_with fail
   go_roundw
   case rel=>exact⟨j+1,by omega,by go_num,N3.o⟩
   case measure=>simp[intOf];omega
  obtain rfl:j=l.length:=by omega
  have i1:¬(l.length:Int)<(l.length:Nat):=by omega
  go_wp2_with fail
  go_ret
  exact⟨rfl,L.o.trans E.o⟩
end P
namespace P
open A.Tryq Go.RowKit A
variable [pn:A.Pn]
section
variable {Po:Exit→Act→Zy→Prop}
noncomputable def XL:=Qa<|Qf Tryz.f34.body
noncomputable def XO:=Qa<|Qb<|Qf Tryz.f34.body
noncomputable def OB:Array Oper:=match Tryz.f34.body with
 |some (.seq _<|.seq _<|.seq (.region _ ops _) _)=>ops
 |_=>#[]
def xqp:Tryz.f34.body=bO (.seq XL<|.seq XO<|.seq (.region 2 OB bK) .ret):=by kernel_rfl
def xua:¬Mc bM 34:=xO (by decide) (by decide) Tryz.func34
def xq5{v0 v1:Zv}{w:Zy}(a:Hid<|Po .normal ⟨#[v0,v1,zo w.heap.size,bJ,zo<|w.heap.size+1,bJ,bJ,bJ],[]⟩<|(w.alloc<|.cells #[v0] 26).alloc<|.cells #[zi 0] 33)(b:v0.oneCell'=bL):
  XL.wp prog Po ⟨#[v0,v1,bJ,bJ,bJ,bJ,bJ,bJ],[]⟩ w:=by
 conv=>arg 2;whnf
 go_wp2_with fail
 exact a.o
def xq6{v0 v1 p q:Zv}{w:Zy}(a:Hid<|Po .normal ⟨#[v0,v1,p,bJ,q,.func (.func 63) #[] #[p,q],bJ,bJ],[⟨.fn (.func 63) #[p,q],#[]⟩]⟩ w):
  XO.wp prog Po ⟨#[v0,v1,p,bJ,q,bJ,bJ,bJ],[]⟩ w:=by
 have b:∀(fn:Fn) (first cap:Za) (w:Zy),(Instr.makeFunc fn first cap).run prog w= .ok (.func fn first cap) w:=fun _ _ _ _=>rfl
 conv=>arg 2;whnf
 go_wp2_with fail
 exact a.o
def gW(B:Nat)(w:Zy):Zy:=(w.alloc<|.cells #[zo B] 26).alloc<|.cells #[zi 0] 33
def gD(w:Zy):Deferred:=⟨.fn (.func 63) #[zo w.heap.size,zo<|w.heap.size+1],#[]⟩
def VF{b:Zf}{a:Act}{x y:Code}{k:List Item}{cs:List Zf}{w:Zy}{G':Zg->Zy->Prop}(c:¬Mc bM b.fn)(h:RX bM (Z0 (b.at a (.code x:: .code y::k)) cs) w G'):RX bM (Z0 (b.at a (.code (.seq x y)::k)) cs) w G':=
 RX.ctl bQ (g':=Z0 (b.at a (.code x:: .code y::k)) cs) c (fun v=>by simp[stepG,Z0,Frame.at,stepG.exec]) rfl rfl rfl h
section
variable {b:Frame} {a:Act} {k:List Item} {cs:List Frame} {w:World} {G':Goroutine->World->Prop} {ops:Array Oper} {id:Nat}
def LT(c:¬Mc bM b.fn)(h:RX bM (Z0 (b.at a (.inRegion ops (List.range ops.size)::k)) cs) w G'):RX bM (Z0 (b.at a (.code (.region id ops bK)::k)) cs) w G':=
 RX.ctl bQ (g':=Z0 (b.at a (.inRegion ops (List.range ops.size)::k)) cs) c (fun v=>by simp[stepG,Z0,Frame.at,stepG.exec]) rfl rfl rfl h
def xsi(c:¬Mc bM b.fn)(h:RX bM (Z0 (b.at a k) cs) w G'):RX bM (Z0 (b.at a (.inRegion ops []::k)) cs) w G':=
 RX.ctl bQ (g':=Z0 (b.at a k) cs) c (fun v=>by simp[stepG,Z0,Frame.at,stepG.exec]) rfl rfl rfl h
def xsj(c:¬Mc bM b.fn)(h:RX bM (Z0 {b.at a (.code .ret::k)with mode:= .returning} cs) w G'):RX bM (Z0 (b.at a (.code .ret::k)) cs) w G':=
 RX.ctl bQ (g':=Z0 {b.at a (.code .ret::k)with mode:= .returning} cs) c (fun v=>by simp[stepG,Z0,Frame.at,stepG.exec]) rfl rfl rfl h
end
def tE:OB.size=3:=by kernel_rfl
def C_:OB=#[⟨bO 6,.move<|.tmp 1,34,"coffer.go:236",#[],bN⟩,⟨bO 7,.call ⟨.value<|.tmp 6,#[],#[]⟩,33,"coffer.go:236",#[⟨0,.data⟩],bN⟩,⟨bN,.store 33 (.tmp 4)<|.tmp 7,0,"coffer.go:236",#[⟨1,.data⟩,⟨1,.chain⟩,⟨0,.phase⟩,⟨1,.phase⟩],bN⟩]:=by kernel_rfl
def zz9{f:FuncId}{B:Nat}{w:Zy}{Rw R:Ending->Zy->Prop}(Q:Ys bM funcs f)(l:∀args w,(callFunc f args).run prog w= .ok (.enter f args) w)(N:CC bM f #[zo B] (gW B w) Rw)
  (p:∀e w t d,R e (re w t d)->R e w)(q:∀e w t d,R e w->R e (re w t d))(n:∀w',¬R .outgrown w')
  (r:∀v w',Rw (.returned v) w'->∃x,v=zi x/\xx w' (w.heap.size+1) #[zi 0] 33/\R (.returned v) (w'.setCell (zq (w.heap.size+1) 0) v))
  (o:∀ch w',Rw (.panicked ch) w'->∀tm:Za,tm[4]?=bO (zo<|w.heap.size+1)->∀t d,Leaves prog Tryz.f34 tm R [gD w] (.panicking ch)<|re w' t d):
  CC bM 34 #[zo B,.func (.func f) #[zo B] #[]] w R:=by
 intro V W;obtain⟨b,I⟩:∃b,b=Frame.enter bM 34 #[zo B,.func (.func f) #[zo B] #[]] .normal:=⟨_,rfl⟩;have O:Frame.enter bM 34 #[zo B,.func (.func f) #[zo B] #[]] .normal=b.at ⟨#[zo B,.func (.func f) #[zo B] #[],bJ,bJ,bJ,bJ,bJ,bJ],[]⟩ [.code<|.seq XL<|.seq XO<|.seq (.region 2 OB bK) .ret]:=by
  rw[I];simp only[Frame.enter,Frame.at,Tryz.func34,js,jv,Option.bind_some,xqp];rfl
 have g:b.fn=34:=by rw[I];rfl
 have a:b.kind= .normal:=by rw[I];rfl
 have c:¬Mc bM b.fn:=by rw[g];exact xua
 rw[O];refine VF c<|RX.wp bQ kZ c a (Post:=fun e i w'=>e= .normal/\i=⟨#[zo B,.func (.func f) #[zo B] #[],zo w.heap.size,bJ,zo<|w.heap.size+1,bJ,bJ,bJ],[]⟩/\kE (gW B w) w') ?_ ?_ (fun t d=>?_) ?_;rintro e i w' t d;constructor;rintro⟨j,k,J,y,D⟩;exact⟨j,k,w'.tape,w'.drawn,by have:=congrArg (fun z=>re z w'.tape w'.drawn) D;simpa[vK,KX]using this⟩;rintro⟨j,k,J,y,rfl⟩;exact⟨j,k,t,d,by rw[vK]⟩;rintro e i w' ⟨rfl,_⟩;trivial;exact xq5 ⟨rfl,rfl,t,d,rfl⟩ rfl;rintro e T w1 X ⟨rfl,rfl,F⟩ ⟨_,rfl⟩;refine F.rx ?_;refine VF c<|RX.wp bQ kZ c a (Post:=fun e i w'=>e= .normal/\i=⟨#[zo B,.func (.func f) #[zo B] #[],zo w.heap.size,bJ,zo<|w.heap.size+1,.func (.func 63) #[] #[zo w.heap.size,zo<|w.heap.size+1],bJ,bJ],[gD w]⟩/\kE (gW B w) w') ?_ ?_ (fun t d=>?_) ?_;rintro e i w' t d;constructor;rintro⟨j,k,J,y,D⟩;exact⟨j,k,w'.tape,w'.drawn,by have:=congrArg (fun z=>re z w'.tape w'.drawn) D;simpa[vK,KX]using this⟩;rintro⟨j,k,J,y,rfl⟩;exact⟨j,k,t,d,by rw[vK]⟩;rintro e i w' ⟨rfl,_⟩;trivial;exact xq6 ⟨rfl,rfl,t,d,rfl⟩;rintro e U w2 Y ⟨rfl,rfl,G⟩ ⟨_,rfl⟩;refine G.rx ?_;refine VF c<|LT c ?_;rw[tE,show List.range 3=[0,1,2]from rfl];refine RX.value bQ c (val:= .func (.func f) #[zo B] #[]) (w':=gW B w) (by rw[C_];rfl) rfl (by rw[a];simp) (fun t d=>⟨t,d,by show(bG _ _).run prog _=_;simp[bG,go_sem]⟩) ?_;refine RX.call bQ c (f:=f) (args:=#[zo B]) (by rw[C_];rfl) rfl (by rw[a];simp) (fun v=>?_) Q N ?_ ?_
 ·show(bG _ _).run prog _=_
  simp[bG,go_sem,resolve,Act.put,l]
 ·intro v h H
  obtain⟨x,rfl,E,m⟩:=r v h H;have s:h.cell? (zq (w.heap.size+1) 0)=bO (zi 0):=E.cell 0 rfl;have C:=E.bT 0;refine RX.skip bQ c (w':=h.setCell (zq (w.heap.size+1) 0)<|zi x) (by rw[C_];rfl) rfl (by rw[a];simp) (fun t d=>⟨t,d, ?_⟩) ?_
  ·have K:(re h t d).cell? (zq (w.heap.size+1) 0)=bO (zi 0):=s
   have M:(re h t d).frozen? (zq (w.heap.size+1) 0)=bK:=C;show(bG _ _).run prog _=_;simp[bG,go_sem,Act.put,K,M];rfl
  refine xsi c<|xsj c ?_;refine RX.leaves bQ kZ (fnc:=Tryz.f34) (u:= .returning) a c ⟨_,by rw[show({b.at _ _ with mode:= .returning}:Zf).fn=34 from g];exact Tryz.func34⟩ (by rw[show({b.at _ _ with mode:= .returning}:Zf).fn=34 from g];exact func34.1) rfl p n fun t d=>?_;show Leaves prog _ _ _ _ _ _;refine leaves_cons (f:=63) (args:=#[zo w.heap.size,zo<|w.heap.size+1]) (by simp) (by simp[go_sem,gD]) ?_;refine(Oh _ _ _).mono ?_;rintro e Z S ⟨rfl,rfl,rfl⟩;have L:(re (h.setCell (zq (w.heap.size+1) 0)<|zi x) t d).cell? (zq (w.heap.size+1) 0)=bO (zi x):=(E.set 0 _).cell 0 rfl;simp[Leaves,settle,aN,Tryz.results34,go_sem,Act.put,Frame.at,L];exact q _ _ _ _ m
 intro ch h H;refine RX.leaves bQ kZ (fnc:=Tryz.f34) (u:= .panicking ch) a c ⟨_,by rw[show({b.at _ _ with mode:= .panicking ch}:Zf).fn=34 from g];exact Tryz.func34⟩ (by rw[show({b.at _ _ with mode:= .panicking ch}:Zf).fn=34 from g];exact func34.1) rfl p n fun t d=>?_;exact o ch h H _ rfl t d
end
end P
namespace P
open A.Tryq Go.RowKit A
variable [pn:A.Pn]
attribute [local go_sem] xe zv
noncomputable def c13:=Qf Tryz.f13.body
noncomputable def Hw:=Qa c13
noncomputable def Hy:=Qa<|Qb c13
noncomputable def Hz:=Qa<|Qb<|Qb c13
noncomputable def Im:=Qa<|Qn 3 c13
noncomputable def UY:=Qa<|Qn 4<|Qf Tryz.f13.body
def xqn:Tryz.f13.body=bO (.seq Hw<|.seq Hy<|.seq Hz<|.seq Im<|.seq UY .ret):=by kernel_rfl
def qF:¬Mc bM 13:=xO (by decide) (by decide) Tryz.func13
def CJ(B:Nat)(a:Act):Prop:=∃v2 x1 x3 x4 x5 x6 x7 x8 x9 x10 x11 x12 x13 x14 x15 x16 x17 x18 x19 x20 x21 x22 x23 x24 x25 x26,a=⟨#[zo B,x1,v2,x3,x4,x5,x6,x7,x8,x9,x10,x11,x12,x13,x14,x15,x16,x17,x18,x19,x20,x21,x22,x23,x24,x25,x26],[]⟩
section
variable {B:Nat} {r:Sr} {w:World} {Po:Exit->Act->World->Prop} {a:Act}
def xui(a:Hid<|∀a',CJ B a'->Po .normal a' w):Hw.wp prog Po ⟨#[zo B]++Array.replicate (27-1) bJ,[]⟩ w:=by
 simp only[jg,zh,jn,Nat.reduceAdd,Nat.reduceSub,qw,qx,Z7,Zi,jk,jc]
 conv=>arg 2;whnf
 go_wp2_with fail
 exact a.o _ ⟨_,_,_,_,_,_,_,_,_,_,_,_,_,_,_,_,_,_,_,_,_,_,_,_,_,_,rfl⟩
def xuj(d:CJ B a)(h:xx w B r.cells 81)(b:r.sn=bN)(c:Hid<|∀a',CJ B a'->Po .normal a' w):Hy.wp prog Po a w:=by
 obtain⟨C,D,E,F,G,H,I,J,K,e,f,g,i,j,k,l,m,n,o,p,q,s,t,v,x,y,rfl⟩:=d;have z:w.cell? (zq B 7)=bO (.pointer bN):=(h.cell 7 rfl).trans (by simp[Sr.cells,Sr.iJ,b]);clear h b
 conv=>arg 2;whnf
 go_wp2_with fail
 exact c.o _ ⟨_,_,_,_,_,_,_,_,_,_,_,_,_,_,_,_,_,_,_,_,_,_,_,_,_,_,rfl⟩
def xuk(c:CJ B a)(h:xx w B r.cells 81)(hop:r.op<999)(b:Hid<|∀a',CJ B a'->Po .normal a' w):Hz.wp prog Po a w:=by
 obtain⟨z,C,D,E,F,G,H,I,J,d,e,f,g,i,j,k,l,m,n,o,p,q,s,t,v,x,rfl⟩:=c;have c6:w.cell? (zq B 6)=bO (zi r.op):=h.cell 6 rfl;have y:¬(r.op:Int)=999:=by omega
 clear h hop
 conv=>arg 2;whnf
 go_wp2_with fail
 exact b.o _ ⟨_,_,_,_,_,_,_,_,_,_,_,_,_,_,_,_,_,_,_,_,_,_,_,_,_,_,rfl⟩
def xul(c:CJ B a)(h:xx w B r.cells 81)(hop:r.op<999)(b:Hid<|∀a' w',CJ B a'->w'=w.setCell (zq B 6) (zi (r.op+1:Nat))->Po .normal a' w'):Im.wp prog Po a w:=by
 obtain⟨C,D,E,F,G,H,I,J,K,d,e,f,g,i,j,k,l,m,n,o,p,q,s,t,v,x,rfl⟩:=c;have c6:w.cell? (zq B 6)=bO (zi r.op):=h.cell 6 rfl;have y:=h.bT 6;have z:IntKind.i64.wrap ((r.op:Int)+1)=(r.op:Int)+1:=by rw[xn];omega
 clear h hop
 conv=>arg 2;whnf
 go_wp2_with fail
 exact b.o _ _ ⟨_,_,_,_,_,_,_,_,_,_,_,_,_,_,_,_,_,_,_,_,_,_,_,_,_,_,rfl⟩ rfl
end
def Wp(r:Sr)(k:Lk)(S:Nat)(L:KV):Sr:={r with op:=r.op+1,cnt:=k.cnt,mark:=k.tag,d:=(Xi k r.d).2.2,sn:=bO<|V4 S (Xi k r.d).2.1 L}
def jt.opn{B:Nat}{r:Sr}{w:Zy}(h:Jq w B r)(a:r.sn=bN):jt B r w {r with op:=r.op+1}<|w.setCell (zq B 6)<|zi (r.op+1:Nat):=by
 refine⟨(xb.set w (zq B 6) _).mono fun x b=> .inl b,⟨h.blk.set 6 _, ?_,fun s e=>?_⟩,fun x b=>?_⟩;exact h.disk.but (xb.set w _ _) fun x b e=>h.fB (by have e:x=B:=e;rw[<-e];exact b);rw[show({r with op:=r.op+1}:Sr).sn=r.sn from rfl,a]at e;cases e;rcases b with e|e|⟨s,e,_⟩
 exact .inl<|.inl e;exact .inl<|.inr<|.inl e;rw[show({r with op:=r.op+1}:Sr).sn=r.sn from rfl,a]at e;cases e
def FH(B:Nat)(r:Sr)(w:Zy)(e:Ending)(w':Zy):Prop:=e= .returned (zi 0)/\∃mp k L S,Yu (Jp r.m r.mark r.cnt ((r.op+1:Nat):Int) mp) r.d.L=bO (k,L)/\jt B r w (Wp r k S L) w'
def Open_pre{B:Nat}{r:Sr}{w:Zy}{n:Int}{C:Zy->Prop}(h:Jq w B r)(g:r.sn=bN)(hop:r.op<999)(H:∀w' t d,C (re w' t d)↔C w')
  (x:∀w5,jt B r w {r with op:=r.op+1} w5->CC bM 34 #[zo B,.func (.func 36) #[zo B] #[]] w5 fun e w'=>e= .returned (zi n)/\C w'):
  CC bM 13 #[zo B] w fun e w'=>e= .returned (zi n)/\C w':=by
 have i:kT<|nJ bM funcs Tryz.f13 fun e w'=>e= .returned (zi n)/\C w':=AO fun e w' t d=>and_congr_right fun _=>H w' t d;refine CC.fA bQ qF (bZ rfl Tryz.func13 rfl).1 Tryz.func13 xqn ?_;rw[show Tryz.f13.ntmps=27 from rfl];refine Xn.go' bQ kZ qF i trivial fun w1 Po a I hX=>xui fun a1 o=>I.o _ _ ?_;refine Xn.go' bQ kZ qF i trivial fun w2 D b j K=>xuj (r:=r) o ((h.blk.nw<|ji a).nw<|ji b) g fun a2 p=>j.o _ _ ?_;refine Xn.go' bQ kZ qF i trivial fun w3 E c k L=>xuk (r:=r) p (((h.blk.nw<|ji a).nw<|ji b).nw<|ji c) hop fun a3 q=>k.o _ _ ?_;refine Xn.go' bQ kZ qF i trivial fun O F f l M=>xul (r:=r) q ((((h.blk.nw<|ji a).nw<|ji b).nw<|ji c).nw<|ji f) hop fun a4 w5 s y=>l.o _ _ ?_;have z:Nw w O:=(((ji a).trans<|ji b).trans<|ji c).trans<|ji f;have G:jt B r w {r with op:=r.op+1} w5:=by
  rw[y];exact(jt.nw h z).trans<|jt.opn (h.but z fun _ _=>id) g
 obtain⟨v2,x1,x3,x4,x5,x6,x7,x8,x9,R,S,T,U,V,W,X,Y,Z,ba,bb,bc,bd,be,bf,bg,bh,rfl⟩:=s;refine Xn.seq bQ qF trivial ?_
 conv=>arg 3;whnf
 refine Xn.dB bQ qF ?_;refine Jc.value (val:=zo B) (w':=w5) bQ qF rfl (fun t d=>⟨t,d,by show(bG _ _).run prog _=_;simp[bG,go_sem]⟩) ?_;refine mZ (val:=zo B) qF ⟨rfl,rfl⟩ ?_;refine Jc.value (val:= .func (.func 36) #[zo B] #[]) (w':=w5) bQ qF rfl (fun t d=>⟨t,d,by show(bG _ _).run prog _=_;simp[bG,go_sem,Act.put]⟩) ?_;refine Jc.call bQ qF rfl rfl (fun v=>by show(bG _ _).run prog _=_;simp[bG,go_sem,resolve,Act.put]) (bZ rfl Tryz.func34 rfl) (x _ G) ?_ ?_
 ·rintro v Q J
  obtain⟨m,N⟩:=J;cases m;refine mZ (val:=zi n) qF ⟨rfl,rfl⟩ ?_;refine Jc.nil bQ qF ?_;refine Xn.ret bQ qF rfl ⟨rfl,zi n,fun t d=>⟨t,d, ?_⟩,rfl,N⟩;show(aN Tryz.f13 _).run prog _=_;simp[aN,Tryz.results13,go_sem,Act.put]
 rintro ch Q ⟨m,_⟩;cases m
def G_{cv tv:Zv}{B:Nat}{r:Sr}{w:Zy}(h:Jq w B r)(Q:r.sn=bN)(hop:r.op<999)(b:fV B r)(hG:iA cv tv w)(M:∀i,(qu r.d.L i).length<=100000)
  (N:∀mp,∃k L,Yu (Jp r.m r.mark r.cnt ((r.op+1:Nat):Int) mp) r.d.L=bO (k,L)/\(Xi k r.d).1=bL/\(k.dD=bL->0<=k.whole/\k.whole<=((qu r.d.L k.last).length:Nat))/\ -1000000000000<=k.last/\k.last<=1000000000000):
  CC bM 13 #[zo B] w (FH B r w):=by
 have j:∀e c t d,FH B r w e (re c t d)↔FH B r w e c:=fun e c t d=>⟨fun⟨D,mp,k,L,S,I,U⟩=>⟨D,mp,k,L,S,I,jt.re U⟩,fun⟨D,mp,k,L,S,I,U⟩=>⟨D,mp,k,L,S,I,jt.gL U t d⟩⟩;refine Open_pre (n:=0) (C:=fun c=>∃mp k L S,Yu (Jp r.m r.mark r.cnt ((r.op+1:Nat):Int) mp) r.d.L=bO (k,L)/\jt B r w (Wp r k S L) c) h Q hop (fun c t d=>⟨fun h=>((j (.returned<|zi 0) c t d).1 ⟨rfl,h⟩).2,fun h=>((j (.returned<|zi 0) c t d).2 ⟨rfl,h⟩).2⟩) fun l z=>?_;have q:fV B {r with op:=r.op+1}:=⟨b.m,b.mark,b.cnt,by show r.op+1<1000000;omega,b.room,b.files,b.few,b.nx,fun x T=>b.own x T,fun s e=>b.bU s e⟩;have W:=hG.but z.but b.own;obtain⟨a,f⟩:∃a:Sr,a={r with op:=r.op+1}:=⟨_,rfl⟩;have o:∀mp k L,Yu (Jp a.m a.mark a.cnt a.op mp) a.d.L=bO (k,L)->(Xi k a.d).1=bL/\(k.dD=bL->0<=k.whole/\k.whole<=((qu a.d.L k.last).length:Nat))/\ -1000000000000<=k.last/\k.last<=1000000000000:=by
  subst f;intro mp k L hq;obtain⟨k',L',D,I⟩:=N mp;have:=hq.symm.trans D;cases this;exact I
 have y:∀mp,Yu (Jp a.m a.mark a.cnt a.op mp) a.d.L≠bN:=by
  subst f;intro mp e;obtain⟨k',L',D,I⟩:=N mp;have:=e.symm.trans D;cases this
 have R:a.sn=bN:=by rw[f];exact Q
 have E:∀i,(qu a.d.L i).length<=100000:=by rw[f];exact M
 rw[<-f]at z q;have ba:∀c k S L,jt B a l {a with cnt:=k.cnt,mark:=k.tag,d:=(Xi k a.d).2.2,sn:=bO<|V4 S (Xi k a.d).2.1 L} c->jt B r w (Wp r k S L) c:=fun c k S L g=>by
  have:=z.trans g;subst f;exact this
 have hq:∀mp k L,Yu (Jp a.m a.mark a.cnt a.op mp) a.d.L=bO (k,L)->Yu (Jp r.m r.mark r.cnt ((r.op+1:Nat):Int) mp) r.d.L=bO (k,L):=fun mp k L g=>by subst f;exact g
 clear f;have g1:Jq (gW B l) B a:=z.at_.but ((Nw.alloc _ _).trans<|Nw.alloc _ _) fun _ _=>id;have nG:Nw l<|gW B l:=(Nw.alloc _ _).trans<|Nw.alloc _ _;have F:=xnr g1 R q (W.but nG fun _ x=>x.elim) E fun mp k L e=>(o mp k L e).2;have Y:(gW B l).heap.size=l.heap.size+2:=by simp[gW]
 have X:xx (gW B l) (l.heap.size+1) #[zi 0] 33:=by
  have:=xx.new (l.alloc<|.cells #[zo B] 26) #[zi 0] 33;rw[xh]at this;exact this
 show CC bM 34 _ l<|FH B r w;refine zz9 (bZ rfl Tryz.func36 rfl) (fun K w=>func36.2 K w) F (fun e c t d g=>(j e c t d).1 g) (fun e c t d g=>(j e c t d).2 g) (fun c g=>by cases g.1) ?_ ?_;rintro v c ⟨mp,Z,g⟩;cases hl:Yu (Jp a.m a.mark a.cnt a.op mp) a.d.L with
 |none=>exact(y mp hl).elim
 |some p=>
  obtain⟨k,L⟩:=p;rw[hl]at g;rcases g with⟨O,J,S,H⟩|⟨O,J,_⟩
  cases J;have G:¬({a with cnt:=k.cnt,mark:=k.tag,d:=(Xi k a.d).2.2,sn:=bO<|V4 S (Xi k a.d).2.1 L}:Sr).own B (l.heap.size+1):=fun T=>by
   rcases H.own _ T with V|V;have:=Sr.bX z.at_ V;omega;rw[Y]at V;omega
  refine⟨0,rfl,X.but H.but fun T=>?_,rfl,mp,k,L,S,hq _ _ _ hl,ba _ _ _ _ ?_⟩;have:=Sr.bX z.at_ T;omega;exact jt.fresh ((jt.nw z.at_ nG).trans H) (by omega) G<|xb.set c (zq (l.heap.size+1) 0) _;cases J
 rintro ch c ⟨mp,Z,g⟩;exfalso;cases hl:Yu (Jp a.m a.mark a.cnt a.op mp) a.d.L with
 |none=>exact y mp hl
 |some p=>
  obtain⟨k,L⟩:=p;rw[hl]at g;rcases g with⟨O,J,_⟩|⟨O,J,_⟩
  cases J;rw[(o _ _ _ hl).1]at O;cases O
end P
namespace P
open Go.RowKit
section
variable {d:Dk}
structure MP(r:Sr)(s:Jo)(L0:KV)(xs:List Zl)(q:Lk)(L:KV):Prop where
 ok:wY r.m r.d.L L0 xs q L
 cnt:q.cnt=r.cnt
 tag:q.tag=r.mark
 ep:q.ep=s.ep
 same:iF L s.L
 base:s.base=(Y0 (Jp r.m [] 0 0 0) r.d.L).base
 last:s.last=s.base+xs.length
 named:s.named=(Y0 (Jp r.m [] 0 0 0) r.d.L).named
structure Wy(r:Sr)(s:Jo):Prop where
 dsk:∃L0 xs q L,MP r s L0 xs q L
 mark:r.mark.length=32
 gd:fM r.d.L
 each:jX r.d.L
 nx:r.d.nx=bN
 room:r.d.room=100000
 lim:r.lim=999
 fus:J6 r.d.L<=16500+1071*(r.cnt:Int)
 rC:s.last<=(r.cnt:Int)
 cnt:r.cnt<=40
 P:∀c∈s.P,mF c
 P20:s.P.length<=20
 sK:jM s.L
 len:s.L.length<=20*r.cnt
 ep:s.ep<=5
 op:r.op<=999
 named:s.named=0\/s.named=10001\/s.named=10002
 sh0:0<=s.bP
section
variable {r:Sr} {s:Jo}
def Wy.m(I:Wy r s):r.m.length=32:=by obtain⟨a,b,q,L,D⟩:=I.dsk;exact D.ok.m32
def Wy.nd(I:Wy r s):Nd s.L:=by obtain⟨a,b,q,L,D⟩:=I.dsk;exact D.same.2.1
def Wy.base0(I:Wy r s):0<=s.base/\s.base<=s.last:=by
 obtain⟨a,e,q,L,D⟩:=I.dsk;have:=AR r.m r.d.L;have b:=D.base;have c:=D.last;omega
def JN(h:d.nx=bN):d.tick=d:=by unfold Dk.tick;rw[h]
def zY(h:d.nx=bN):d.stops=bK:=by unfold Dk.stops;rw[h]
def z_(h:d.nx=bN)(n:Int)(x:Zl):d.app n x={d with L:=Yx d.L n (qu d.L n++x,(Vu d.L n).2)}:=by unfold Dk.app;rw[JN h]
def Ui(h:d.nx=bN)(n:Int):d.mR n={d with L:=Yx d.L n (qu d.L n,(qu d.L n).length)}:=by unfold Dk.mR;rw[JN h]
def Fi(h:d.nx=bN)(n:Int)(x:Zl):d.mG n x={d with L:=Yx d.L n (x,x.length)}:=by unfold Dk.mG;rw[JN h]
def Eg(h:d.nx=bN)(n:Int):d.rem n={d with L:=V6 d.L n}:=by unfold Dk.rem;rw[JN h]
def Ru{α:Type}[DecidableEq α]:∀{l S:List α},l.Nodup->(∀x∈l,x∈S)->l.length<=S.length
 |[],_,_,_=>Vj _
 |a::l,S,h,hs=>by
  have c:=Zr.1 h;have b:=hs a (by simp);have f:=Ru (S:=S.erase a) c.2 fun x d=>(List.mem_erase_of_ne fun e=>c.1<|by rw[<-e];exact d).2 (hs x<|by simp[d]);have g:=List.length_erase_of_mem b;have i:=List.length_pos_of_mem b;simp only[zh];omega
def Wy.few(I:Wy r s):r.d.L.length<=r.cnt+2:=by
 obtain⟨f,c,q,L,D⟩:=I.dsk;have k:=AR r.m r.d.L;have a:(r.d.L.map (·.1)).length<=(0::(Y0 (Jp r.m [] 0 0 0) r.d.L).dK::(List.range c.length).map fun(i:Nat)=>(Y0 (Jp r.m [] 0 0 0) r.d.L).base+1+(i:Int)).length:=by
  refine Ru I.gd.nd fun n b=>?_;rcases D.ok.own n (I.gd.mem.1 b)with e|e|e
  simp[e];simp[e];refine xj _<|xj _<|qp.2 ⟨(n-(Y0 (Jp r.m [] 0 0 0) r.d.L).base-1).toNat,List.mem_range.2<|by omega,by omega⟩
 simp only[Zb,zh,List.length_range]at a;have g:=D.last;have h:=D.base;have j:=I.rC;omega
def Wy.jD(I:Wy r s)(n:Int):(qu r.d.L n).length<=60000:=by
 have a:=Eb r.d.L n;have b:=I.fus;have c:=I.cnt;omega
def Wy.U9(I:Wy r s):mE r.d.L:=⟨I.each,by have:=I.few;have:=I.cnt;omega⟩
variable {c:UInt8} {ep:Nat} {plain:List UInt8}
def ER(I:Wy r s):(r.wrote s [c] ep plain).d={r.d with L:=Yx (Yx r.d.L (r.place s).1 (qu r.d.L (r.place s).1++((r.place s).2++Y5 r.m r.mark [c] ep r.op r.cnt plain),(Vu r.d.L (r.place s).1).2)) (r.place s).1 (qu (Yx r.d.L (r.place s).1 (qu r.d.L (r.place s).1++((r.place s).2++Y5 r.m r.mark [c] ep r.op r.cnt plain),(Vu r.d.L (r.place s).1).2)) (r.place s).1,(qu (Yx r.d.L (r.place s).1 (qu r.d.L (r.place s).1++((r.place s).2++Y5 r.m r.mark [c] ep r.op r.cnt plain),(Vu r.d.L (r.place s).1).2)) (r.place s).1).length)}:=by
 unfold Sr.wrote;simp only;rw[z_ I.nx,Ui<|by exact I.nx]
def xn9(m mark:Zl)(op cnt:Nat):Y5 m mark [c] ep op cnt plain≠[]:=by
 intro e;have:=congrArg List.length e;rw[QT _ _ _ _ _ _ _ rfl]at this;simp at this
def k7(I:Wy r s)(k:Int):qu (r.wrote s [c] ep plain).d.L k=if k=((r.place s).1:Int)then qu r.d.L (r.place s).1++((r.place s).2++Y5 r.m r.mark [c] ep r.op r.cnt plain)else qu r.d.L k:=by
 rw[ER I];simp only;rw[uS<|I.gd.lay _ _,uS I.gd];by_cases h:k=((r.place s).1:Int);rw[aA h,aA h,aA rfl];rw[aB h,aB h,uS I.gd,aB h]
def It(I:Wy r s):fM (r.wrote s [c] ep plain).d.L:=by
 rw[ER I];exact(I.gd.lay _ _).lay _ _
def Ta(I:Wy r s)(b:plain.length<=1020):((r.place s).2++Y5 r.m r.mark [c] ep r.op r.cnt plain).length<=1071:=by
 have a:=b_ r s;rw[zj,QT _ _ _ _ _ _ _ rfl];omega
def k8(I:Wy r s)(f:plain.length<=1020):J6 (r.wrote s [c] ep plain).d.L<=J6 r.d.L+1071:=by
 rw[ER I];simp only;have a:=Oq (F:=Yx r.d.L (r.place s).1 (qu r.d.L (r.place s).1++((r.place s).2++Y5 r.m r.mark [c] ep r.op r.cnt plain),(Vu r.d.L (r.place s).1).2)) (r.place s).1 (qu (Yx r.d.L (r.place s).1 (qu r.d.L (r.place s).1++((r.place s).2++Y5 r.m r.mark [c] ep r.op r.cnt plain),(Vu r.d.L (r.place s).1).2)) (r.place s).1,(qu (Yx r.d.L (r.place s).1 (qu r.d.L (r.place s).1++((r.place s).2++Y5 r.m r.mark [c] ep r.op r.cnt plain),(Vu r.d.L (r.place s).1).2)) (r.place s).1).length);have b:=Oq (F:=r.d.L) (r.place s).1 (qu r.d.L (r.place s).1++((r.place s).2++Y5 r.m r.mark [c] ep r.op r.cnt plain),(Vu r.d.L (r.place s).1).2);have e:=Ta (c:=c) (ep:=ep) I f;simp only[zj]at a b e;omega
def Un(I:Wy r s):1<=(r.place s).1/\(r.place s).1<=r.cnt+1/\s.last<=((r.place s).1:Int):=by
 have a:=I.base0;have b:=I.rC;unfold Sr.place;split
 rename_i h
 have:=h.1;simp only;omega;simp only;omega
def AN(I:Wy r s)(h:plain.length<=1020):jX (r.wrote s [c] ep plain).d.L:=by
 have i:=Un I;have j:=I.cnt;have k:=I.jD (r.place s).1;have a:=Ta (c:=c) (ep:=ep) I h;have g:=I.each.dat (r.place s).1;have b:i64 ((r.place s).1:Int):=by unfold i64;omega
 have e:Vu r.d.L (r.place s).1=Vu r.d.L (r.place s).1:=rfl;have f:(Vu r.d.L (r.place s).1).1=qu r.d.L (r.place s).1:=rfl;rw[ER I];simp only;refine(I.each.lay b ?_).lay b ?_;simp only[zj]at a⊢;rw[f]at g;omega;rw[uS I.gd,aA rfl];simp only[zj]at a⊢;omega
def k_{L0:KV}{xs:List Zl}{q q':Lk}{L L':KV}(I:Wy r s)(D:MP r s L0 xs q L)(B:recs q L (Y5 r.m r.mark [c] ep r.op r.cnt plain)=bO (q',L',[]))(i:q'.cnt=r.cnt+1){s':Jo}(x:q'.tag=nH r.m r.mark [c] ep r.op r.cnt plain)(p:q'.ep=s'.ep)(w:iF L' s'.L)(g:s'.base=s.base)(t:s'.last=((r.place s).1:Int))(v:s'.named=s.named):
  ∃xs',MP {r.wrote s [c] ep plain with sn:=bO s'} s' L0 xs' q' L':=by
 have o:=I.base0;have f:=D.base;have z:=D.last;have n:=I.rC;have j:=I.cnt;have b:((jT r.m r.d.L:Nat):Int)=s.base:=by rw[f];have:=AR r.m r.d.L;simp only[jT];omega
 have y:=D.ok.write B (xn9 _ _ _ _) (by rw[D.cnt,i];omega) (by
   unfold Sr.place;split
   rename_i h
   refine .inl ⟨rfl, ?_, ?_⟩;intro e;subst e;have:=h.1;simp at z;omega;simp only;omega;refine .inr ⟨?_, ?_⟩;simp only;rw[D.cnt]
   congr 1
   omega;simp only;omega) (by omega) fun k=>k7 I k
 obtain⟨hk,xs',a,l,_⟩:=y;refine⟨xs',a,i,x,p,w, ?_, ?_, ?_⟩;show s'.base=(Y0 (Jp r.m [] 0 0 0) (r.wrote s [c] ep plain).d.L).base;rw[hk,g,f];show s'.last=s'.base+xs'.length;rw[t,g];omega;show s'.named=(Y0 (Jp r.m [] 0 0 0) (r.wrote s [c] ep plain).d.L).named;rw[hk,v,D.named]
def SW(L:KV)(k v:Zl):(dA L k v).length<=L.length+1:=by
 induction L with
 |nil=>simp[dA]
 |cons p L ih=>
  obtain⟨a,b⟩:=p;unfold dA;split<;>simp<;>omega
def ST(L:KV)(k:Zl):(dO L k).length<=L.length:=by
 induction L with
 |nil=>simp[dO]
 |cons p L ih=>
  obtain⟨a,b⟩:=p;unfold dO;split<;>simp<;>omega
def y_:∀(D:List dM) (L:KV),(cO L D).length<=L.length+D.length
 |[],L=>ze _
 |c::D,L=>by
  have a:=y_ D<|app1 L c;have b:(app1 L c).length<=L.length+1:=by
   cases c with
   |put k v=>exact SW L k v
   |del k=>have:=ST L k;show(dO L k).length<=_;omega
  show(cO (app1 L c) D).length<=_;simp only[zh];omega
def Fr{L:KV}(h:jM L){k v:Zl}(hk:k≠[]/\k.length<=16/\v.length<=32):jM<|dA L k v:=by
 induction L with
 |nil=>intro p a;simp[dA]at a;subst a;exact hk
 |cons q L ih=>
  obtain⟨c,d⟩:=q;unfold dA;split;intro p a;rcases xf.1 a with rfl|a
  exact hk;exact h p (by simp[a]);intro p a;rcases xf.1 a with rfl|a
  exact h _ (by simp);exact ih (fun x b=>h x<|by simp[b]) p a
def zrb{L:KV}{k:Zl}{p:Zl×Zl}(h:p∈dO L k):p∈L:=by
 induction L with
 |nil=>cases h
 |cons q L ih=>
  obtain⟨a,b⟩:=q;unfold dO at h;split at h;exact xj _ h;rcases xf.1 h with rfl|h
  simp;exact xj _<|ih h
def F_:∀(D:List dM) {L:KV},jM L->(∀c∈D,mF c)->jM (cO L D)
 |[],L,h,_=>h
 |c::D,L,h,hD=>by
  refine F_ D ?_ fun x d=>hD x (by simp[d]);have a:=hD c (by simp);cases c with
  |put k v=>exact Fr h a
  |del k=>exact fun p b=>h p<|zrb b
end
section
variable {r:Sr} {s:Jo}
def wY.qm{m:Zl}{F:Ym}{L0 L:KV}{xs:List Zl}{q:Lk}(h:wY m F L0 xs q L):q.m=m:=by
 have:=h.log.m;rw[this];unfold Y0;split<;>rfl
structure tF(r:Sr)(r':Sr):Prop where
 op:r'.op=r.op
 m:r'.m=r.m
 D:r'.D=r.D
 M:r'.d.M=r.d.M
 nW:r'.nW=r.nW
def tF.trans{r1 r2 r3:Sr}(h:tF r1 r2)(k:tF r2 r3):tF r1 r3:=⟨k.op.trans h.op,k.m.trans h.m,k.D.trans h.D,k.M.trans h.M,k.nW.trans h.nW⟩
theorem tF.refl(r:Sr):tF r r:=⟨rfl,rfl,rfl,rfl,rfl⟩
def Sz(I:Wy r s){c:Z8}{ep:Nat}{plain:Zl}{q':Lk}{L':KV}{s':Jo}(n:plain.length<=1020)(z:r.cnt<=39)
  (C:∀L0 xs q L,MP r s L0 xs q L->∃q' L',recs q L (Y5 r.m r.mark [c] ep r.op r.cnt plain)=bO (q',L',[])/\q'.cnt=r.cnt+1/\q'.tag=nH r.m r.mark [c] ep r.op r.cnt plain/\q'.ep=s'.ep/\iF L' s'.L)
  (y:s'.base=s.base)(k:s'.last=((r.place s).1:Int))(l:s'.named=s.named)(i:s'.P=[])(f:jM s'.L)(a:s'.L.length<=20*(r.cnt+1))(b:s'.ep<=5)(g:s'.bP=s.bP):
  Wy {r.wrote s [c] ep plain with sn:=bO s'} s':=by
 obtain⟨L0,xs,q,L,D⟩:=I.dsk;obtain⟨q',L',p,t,v,w,x⟩:=C L0 xs q L D;obtain⟨h,o⟩:=k_ (s':=s') I D p t v w x y k l;have hd:(r.wrote s [c] ep plain).d.nx=r.d.nx/\(r.wrote s [c] ep plain).d.room=r.d.room:=by rw[ER I];exact⟨rfl,rfl⟩
 have j:=k8 (c:=c) (ep:=ep) I n;have B:=Un I;have e:((({r.wrote s [c] ep plain with sn:=bO s'}:Sr).cnt:Nat):Int)=(r.cnt:Int)+1:=by show((r.cnt+1:Nat):Int)=_;omega
 refine⟨⟨L0,h,q',L',o⟩, ?_,It I,AN I n,hd.1.trans I.nx,hd.2.trans I.room,I.lim, ?_, ?_, ?_, ?_, ?_,f,a,b,I.op,by rw[l];exact I.named,by rw[g];exact I.sh0⟩;exact p_;have:=I.fus;show J6 (r.wrote s [c] ep plain).d.L<=_;rw[e];omega;rw[k,e];omega;show r.cnt+1<=40;omega;rw[i];simp;rw[i];simp
def Rt{k:Lk}:∀{ns:List Int},(∀n∈ns,pJ k n=bL)->jA k ns d=(bL,d)
 |[],_=>rfl
 |n::ns,h=>by
  unfold jA;rw[aA<|h n<|by simp];exact Rt fun x a=>h x<|by simp[a]
def iF.len{L L':KV}(h:iF L L'):L.length=L'.length:=by
 have a:(Vp L).length=L.length:=by rw[(QJ L).length_eq,Zb]
 have b:(Vp L').length=L'.length:=by rw[(QJ L').length_eq,Zb]
 rw[<-a,<-b,<-KN,<-KN,VK h]
def iF.sK{L L':KV}(h:iF L L')(ho:jM L'):jM L:=by
 intro p c;have i:p.1∈L.map (·.1):=qp.2 ⟨p,c,rfl⟩;have d:Zh L p.1=bO p.2:=by
  have:∀{L:KV},Nd L->p∈L->Zh L p.1=bO p.2:=by
   intro L;induction L with
   |nil=>intro _ h;cases h
   |cons q L ih=>
    intro b c;unfold Nd at b;rw[xq,Zr]at b;unfold Zh;rcases xf.1 c with rfl|a
    simp;have:p.1≠q.1:=fun e=>b.1 (by rw[<-e];exact qp.2 ⟨p,a,rfl⟩);obtain⟨f,g⟩:=q;simp only at this⊢;rw[aB this];exact ih b.2 a
  exact this h.1 c
 rw[h.2.2]at d;have:∀{L:KV} {x v:Zl},Zh L x=bO v->(x,v)∈L:=by
  intro L;induction L with
  |nil=>intro x v h;cases h
  |cons p L ih=>
   intro x v h;obtain⟨f,g⟩:=p;unfold Zh at h;by_cases e:x=f;rw[aA e]at h;cases h;subst e;simp;rw[aB e]at h;exact xj _<|ih h
 exact ho _<|this d
structure FJ(r:Sr)(s:Jo)(mp:Nat)(k:Lk)(L:KV):Prop where
 look:Yu (Jp r.m r.mark r.cnt ((r.op+1:Nat):Int) mp) r.d.L=bO (k,L)
 mend:Xi k r.d=(bL,k,r.d)
 dD:k.dD=bK
 rC:0<=k.last/\k.last<=9999
 cnt:k.cnt=r.cnt
 tag:k.tag=r.mark
 same:iF L s.L
 inv:∀S,r.op<999->Wy (Wp r k S L) (V4 S k L)
 ep:k.ep=s.ep
 dK:k.dK=(Y0 (Jp r.m [] 0 0 0) r.d.L).dK
def Wy.reopen(I:Wy r s)(mp:Nat):∃k L,FJ r s mp k L:=by
 obtain⟨E,t,q,L,D⟩:=I.dsk;have B:=PF (mark:=r.mark) D.ok ((r.op+1:Nat):Int) mp D.tag;rw[D.cnt]at B;have F:=AR r.m r.d.L;have C:=D.ok.low;have v:(Y0 (Jp r.m r.mark r.cnt ((r.op+1:Nat):Int) mp) r.d.L).base=(Y0 (Jp r.m [] 0 0 0) r.d.L).base:=Us (Jp r.m r.mark r.cnt ((r.op+1:Nat):Int) mp) r.d.L rfl;have x:(Y0 (Jp r.m r.mark r.cnt ((r.op+1:Nat):Int) mp) r.d.L).dK=(Y0 (Jp r.m [] 0 0 0) r.d.L).dK:=by unfold Y0;split<;>rfl
 have w:(Y0 (Jp r.m r.mark r.cnt ((r.op+1:Nat):Int) mp) r.d.L).named=(Y0 (Jp r.m [] 0 0 0) r.d.L).named:=by unfold Y0;split<;>rfl
 have y:(Y0 (Jp r.m r.mark r.cnt ((r.op+1:Nat):Int) mp) r.d.L).dD=bK:=by unfold Y0;split<;>rfl
 obtain⟨k,hk⟩:∃k,k=({Y0 (Jp r.m r.mark r.cnt ((r.op+1:Nat):Int) mp) r.d.L with last:=(Y0 (Jp r.m [] 0 0 0) r.d.L).base+t.length}:Lk).set q:=⟨_,rfl⟩;have b:k.base=(Y0 (Jp r.m [] 0 0 0) r.d.L).base:=by rw[hk];exact v
 have h:k.dK=(Y0 (Jp r.m [] 0 0 0) r.d.L).dK:=by rw[hk];exact x
 have c:k.named=(Y0 (Jp r.m [] 0 0 0) r.d.L).named:=by rw[hk];exact w
 have i:k.dD=bK:=by rw[hk];exact y
 have a:k.last=(Y0 (Jp r.m [] 0 0 0) r.d.L).base+t.length:=by rw[hk];rfl
 have j:k.cnt=q.cnt:=by rw[hk];rfl
 have l:k.tag=q.tag:=by rw[hk];rfl
 have o:k.ep=q.ep:=by rw[hk];rfl
 have g:Xi k r.d=(bL,k,r.d):=by
  unfold Xi;rw[i,aB<|by simp,aB<|by simp];unfold qC;rw[Rt fun n H=>?_];have z:=I.gd.nums.1 H;unfold pJ;rw[h,b,a];rcases D.ok.own n z with e|e|e
  simp[e];simp[e];simp[e.1,e.2]
 refine⟨k,L, ?_,g,i, ?_,j.trans D.cnt,l.trans D.tag,D.same,fun S K=>?_,o.trans D.ep,h⟩;rw[B,<-hk];rw[a];omega;have J:=D.base;have G:=D.last;have hd:(Wp r k S L).d=r.d:=by unfold Wp;simp only[g]
 have f:(Wp r k S L).cnt=r.cnt:=j.trans D.cnt;have p:(Wp r k S L).mark=r.mark:=l.trans D.tag;refine⟨⟨E,t,q,L, ?_⟩,by rw[p];exact I.mark,by rw[hd];exact I.gd,by rw[hd];exact I.each,by rw[hd];exact I.nx,by rw[hd];exact I.room,I.lim,by rw[hd,f];exact I.fus, ?_,by rw[f];exact I.cnt,by simp[V4],by simp[V4],D.same.sK I.sK, ?_, ?_, ?_, ?_,by simp[V4]⟩;refine⟨?_,D.cnt.trans f.symm,D.tag.trans p.symm, ?_,iF.rfl' D.same.1, ?_, ?_, ?_⟩;rw[hd];exact D.ok;exact o.symm;rw[hd];exact b;show k.last=k.base+t.length;rw[a,b];rw[hd];exact c;rw[f];show k.last<=_;rw[a];have:=I.rC;omega;rw[f];show L.length<=_;rw[D.same.len];exact I.len;show k.ep<=5;rw[o,D.ep];exact I.ep;show r.op+1<=999;omega;show k.named=0\/k.named=10001\/k.named=10002;rw[c,<-D.named];exact I.named
end
def ZX{m:Mf}:∀(ns:List Int) (d:Dk),d.nx=bN->fM d.L->jX d.L->∃F',lK m ns d=(bL,{d with L:=F'})/\fM F'/\jX F'/\∀n,qu F' n=if n∈ns/\n≠0/\n≠(m.file:Int)then []else qu d.L n
 |[],d,_,hg,he=>⟨d.L,rfl,hg,he,fun n=>by simp⟩
 |n::ns,d,hx,hg,he=>by
  by_cases h:n=0\/n=(m.file:Int);obtain⟨F',f,g,i,j⟩:=ZX ns d hx hg he;refine⟨F',by unfold lK;rw[aA h];exact f,g,i,fun k=>?_⟩;rw[j k];by_cases e:k∈ns/\k≠0/\k≠(m.file:Int);rw[aA e,aA ⟨by simp[e.1],e.2⟩];rw[aB e,aB];rintro⟨a,b,l⟩;rcases xf.1 a with rfl|a
  exact h.elim b l;exact e ⟨a,b,l⟩;obtain⟨F',f,g,i,j⟩:=ZX ns {d with L:=V6 d.L n} hx (hg.del n) fun p o=>he p<|EM o;refine⟨F', ?_,g,i,fun k=>?_⟩;unfold lK;rw[aB h,zY hx,aB<|by simp,Eg hx];exact f;rw[j k];simp only;rw[KW hg];by_cases e:k∈ns/\k≠0/\k≠(m.file:Int);rw[aA e,aA ⟨by simp[e.1],e.2⟩];rw[aB e];by_cases c:k=n;subst c;rw[aA rfl,aA ⟨by simp,fun e=>h<|.inl e,fun e=>h<|.inr e⟩];rw[aB c,aB];rintro⟨a,b⟩;rcases xf.1 a with a|a
  exact c a;exact e ⟨a,b⟩
def DG{F:Ym}(h:fM F)(a:∀n,qu F n=[]):F=[]:=by
 cases F with
 |nil=>rfl
 |cons p F=>exact absurd (a p.1)<|h.mem.1<|by simp
def DP{F:Ym}(h:fM F){a b:Int}(m:∀n,qu F n≠[]->n=a\/n=b)(f:a≠b):J6 F=((qu F a).length:Int)+((qu F b).length:Int):=by
 have j:=ZH (F:=F) a;have i:=ZH (F:=V6 F a) b;have k:qu (V6 F a) b=qu F b:=by rw[KW h,aB fun e=>f e.symm]
 have l:V6 (V6 F a) b=[]:=DG ((h.del a).del b) fun n=>by
  rw[KW<|h.del a,KW h];by_cases c:n=b;rw[aA c];rw[aB c];by_cases d:n=a;rw[aA d];rw[aB d];exact jr fun g=>(m n g).elim d c
 rw[l,k]at i;simp only[J6,DN,List.sum_nil]at i;simp only[J6]at j⊢;omega
section
variable {r:Sr} {s:Jo}
def Two(F:Ym)(n:Nat):Prop:=∃(pt sl:Zl) (f:Int),(f=10001\/f=10002)/\sl.length=116/\pt.length=n/\∀k,qu F k=if k=0 then sl else if k=f then pt else []
def zut(n:Int):Ye n=10001\/Ye n=10002:=by unfold Ye;split<;>simp
def Wy.jR(I:Wy r s)(hs:r.sn=bO s)(hP:s.P=[])(bn:s.bP<999)(bo:(Vf s.L).length<=16384):
  ∃r' s',r.jR s=(bO 0,r')/\r'.sn=bO s'/\Wy r' s'/\s'.L=s.L/\s'.P=[]/\s'.ep=s.ep/\s'.bP=s.bP+1/\r'.cnt=r.cnt/\tF r r'/\(qu r.d.L<|Ye s.named)=[]/\Two r'.d.L (Vf s.L).length:=by
 obtain⟨L0,xs,q,L,D⟩:=I.dsk;have bm:=I.base0;have ba:=I.rC;have V:=I.cnt;have bb:=zut s.named;have l:qu r.d.L (Ye s.named)=[]:=by
  refine jr fun bk=>?_;rcases D.ok.own _ bk with e|e|e
  omega;rcases P9 r.m r.d.L with T|⟨f,T,h0,hf,hl⟩
  rw[T]at e;omega;have Q:=D.named;have:(Y0 (Jp r.m [] 0 0 0) r.d.L).named=((iL<|qu r.d.L 0).file:Int):=by unfold Y0;rw[aB h0];rfl
  rw[this,<-hf,<-T,<-e]at Q;unfold Ye at Q bb;split at Q<;>omega
  have:=D.last;have:=D.base;omega
 obtain⟨mf,b⟩:∃mf,mf=r.mf s:=⟨_,rfl⟩;obtain⟨g,R⟩:∃g,g=(r.parts s).flatten:=⟨_,rfl⟩;obtain⟨o,J⟩:∃o,o=mf.bS (Jm r.m s.ep):=⟨_,rfl⟩;have bc:g.length=(Vf s.L).length:=by rw[R];exact Lq _ _ _
 have e1:mf.ep=s.ep:=by rw[b];rfl
 have T:mf.cnt=r.cnt:=by rw[b];rfl
 have e3:mf.last=r.mark:=by rw[b];rfl
 have e4:mf.base=s.last.toNat:=by rw[b];rfl
 have e5:mf.file=Ye s.named:=by rw[b];rfl
 have e6:mf.len=(Vf s.L).length:=by rw[b];rfl
 have e7:mf.root=J7 (r.parts s):=by rw[b];rfl
 have e8:mf.bP=s.bP.toNat:=by rw[b];rfl
 have e9:mf.op=r.op:=by rw[b];rfl
 have H:mf.ok:=⟨by rw[e1];exact I.ep,by rw[e9];have:=I.op;omega,by rw[T];omega,by rw[e8];omega,by rw[e4];omega,by rw[e5];omega,by rw[e6];omega,by rw[e7];exact Sd _<|by unfold Sr.parts;rw[zZ];have:=(DU<|Vf s.L).2.1;omega,by rw[e3];exact I.mark⟩;have x:o.length=116:=by rw[J];exact YR _ _ H.root H.last
 obtain⟨B,C,X,bg,be⟩:∃B,(if g=[]then r.d else(r.d.app mf.file g).mR mf.file)={r.d with L:=B}/\fM B/\jX B/\∀n:Int,qu B n=if n=(mf.file:Int)then g else qu r.d.L n:=by
  by_cases t:g=[];refine⟨r.d.L,by rw[aA t],I.gd,I.each,fun n=>?_⟩;by_cases e:n=(mf.file:Int);rw[aA e,e,t,e5];exact l;rw[aB e];rw[aB t,z_ I.nx,Ui<|by exact I.nx];have hi:i64 (mf.file:Int):=by unfold i64;omega
  have h5:=I.each.dat (mf.file:Int);have G:qu r.d.L (mf.file:Int)=[]:=by rw[e5];exact l
  refine⟨_,rfl,(I.gd.lay _ _).lay _ _,(I.each.lay hi ?_).lay hi ?_,fun n=>?_⟩;have ed:(Vu r.d.L (mf.file:Int)).1=[]:=G;rw[ed]at h5;rw[G];simp only[jk,jn]at h5⊢;omega;simp only;rw[uS I.gd,aA rfl,G];simp only[jk];omega;simp only;rw[uS<|I.gd.lay _ _,uS I.gd,aA rfl,G,uS I.gd];by_cases e:n=(mf.file:Int);rw[aA e,aA e];rfl;rw[aB e,aB e,aB e]
 obtain⟨z,E⟩:∃z,z=Yx B 0 (o,(o.length:Int)):=⟨_,rfl⟩;have Y:fM z:=by rw[E];exact X.lay _ _
 have bh:jX z:=by rw[E];exact bg.lay (by unfold i64;omega)<|by simp only;omega
 have U:∀n:Int,qu z n=if n=0 then o else qu B n:=fun n=>by rw[E,uS X]
 obtain⟨a,bd,Z,bi,bf⟩:=ZX (m:=mf) (Xs z) {r.d with L:=z} I.nx Y bh;have M:({r.d with L:=B}:Dk).nx=bN:=I.nx;have O:({r with sn:=bO {s with bP:=s.bP+1}}:Sr).lays mf g o=(bL,{r.d with L:=a}):=by
  have y:qB mf o {r.d with L:=B}=(bL,{r.d with L:=a}):=by
   unfold qB;rw[zY M,aB<|by simp,Fi M,<-E];exact bd
  unfold Sr.lays;by_cases t:g=[];rw[aA t]at C⊢;show qB mf o r.d=_;rw[C];exact y;rw[aB t]at C⊢;show(if r.d.stops=bL then _ else _)=_;rw[zY I.nx,aB<|by simp];show(if(r.d.app mf.file g).stops=bL then _ else qB mf o ((r.d.app mf.file g).mR mf.file))=_;rw[zY<|by rw[z_ I.nx];exact I.nx,aB<|by simp,C];exact y
 have k:∀n:Int,qu a n=if n=0 then o else if n=(mf.file:Int)then g else []:=fun n=>by
  rw[bf n];by_cases v:n=0;rw[aB<|by simp[v],aA v];show qu z n=o;rw[U,aA v];rw[aB v];by_cases w:n=(mf.file:Int);rw[aB<|by simp[w],aA w];show qu z n=g;rw[U,aB v,be,aA w];rw[aB w];by_cases c3:qu z n=[];split;rfl;exact c3;rw[aA ⟨Y.nums.2 c3,v,w⟩]
 have j:qu a 0=o:=by rw[k,aA rfl]
 have N:o≠[]:=fun e=>by rw[e]at x;cases x
 have K:iL (qu a 0)=mf:=by rw[j,J];exact Nk H _
 have hk:Y0 (Jp r.m [] 0 0 0) a=(Jp r.m [] 0 0 0).begun mf 0:=by
  unfold Y0;rw[aB<|by rw[j];exact N,K];rfl
 have hb:(Y0 (Jp r.m [] 0 0 0) a).base=(s.last.toNat:Int):=by rw[hk];show(mf.base:Int)=_;rw[e4]
 have S:Y6 mf a (Xz r.m mf.ep)=bO (fD s.L):=by
  have F:nN mf a=bO g:=by
   unfold nN;by_cases h0:0<mf.len;rw[aA h0,aA<|by omega,aA<|by omega,k,aB<|by omega,aA rfl];rw[aB h0];have:g=[]:=xa (by omega);rw[this]
  unfold Y6;rw[F];show sU mf (Xz r.m mf.ep) g=_;unfold sU;have W:Yq g=r.parts s:=by rw[R];exact LI _ _ _
  rw[aA<|by omega,W,aA e7,e1];have bl:J8 mf (Xz r.m s.ep) (r.parts s)=Yq (Vf s.L):=by
   unfold Sr.parts;refine zE (Xz r.m s.ep) (fun i=>?_) _;rw[b];rfl
  rw[bl,(DU _).2.2];exact zrl I.nd I.sK
 refine⟨{r with d:={r.d with L:=a},sn:=bO _},{s with bP:=s.bP+1,base:=s.last,named:=(Ye s.named:Int)}, ?_,rfl, ?_,rfl,hP,rfl,rfl,rfl,⟨rfl,rfl,rfl,rfl,rfl⟩,l,g,o,mf.file,by omega,x,bc,k⟩;unfold Sr.jR;rw[aB<|by omega,aB,<-b,<-R,<-J,O,aA rfl];have h3:=I.fus;have h4:=I.room;have h5:r.roomFor (Vf s.L).length<=(Vf s.L).length+116:=by unfold Sr.roomFor;split<;>omega
 omega;refine⟨⟨fD s.L,[],Y0 (Jp r.m [] 0 0 0) a,fD s.L, ?_⟩,I.mark,Z,bi,I.nx,I.room,I.lim, ?_,ba,V, ?_, ?_,I.sK,I.len,I.ep,I.op,by rcases bb with e|e<;>simp[e],by have:=I.sh0;show 0<=s.bP+1;omega⟩;refine⟨⟨D.ok.m32,fun _=>?_,⟨fun h=>absurd h<|by rw[j];exact N,fun _=>?_⟩,jY.nil _ _ _,fun i hi=>absurd hi<|Wd _, ?_, ?_,fun n p=>?_⟩, ?_, ?_, ?_,cX I.nd, ?_, ?_, ?_⟩;show qJ r.m _<|qu a 0;rw[j,J,<-e1];refine zxs H ?_;rw[hk];exact Int.le_refl _;show Y6 (iL<|qu a 0) a _=_;rw[K];exact S;show qu a _=[];rw[hb,k,aB<|by simp;omega,aB<|by simp;omega];show(Y0 (Jp r.m [] 0 0 0) a).base.toNat+_<=_;rw[hb];simp;omega;have p:qu a n≠[]:=p;rw[k]at p;by_cases v:n=0;exact .inl v;rw[aB v]at p;by_cases w:n=(mf.file:Int);rw[aA w]at p;have bj:0<mf.len:=by have:=qb.2 p;omega
 refine .inr<|.inl ?_;show n=(Y0 (Jp r.m [] 0 0 0) a).dK;rw[hk,w];show _=if 0<mf.len then(mf.file:Int)else _
 rw[aA bj];rw[aB w]at p;exact absurd rfl p;show(Y0 (Jp r.m [] 0 0 0) a).cnt=r.cnt;rw[hk];exact T;show(Y0 (Jp r.m [] 0 0 0) a).tag=r.mark;rw[hk];exact e3;show(Y0 (Jp r.m [] 0 0 0) a).ep=s.ep;rw[hk];exact e1;show s.last=(Y0 (Jp r.m [] 0 0 0) a).base;rw[hb];omega;show s.last=s.last+(([]:List Zl).length:Int);simp;show(Ye s.named:Int)=(Y0 (Jp r.m [] 0 0 0) a).named;rw[hk,<-e5];rfl;have h2:=DP Z (fun n p=>by
  rw[k]at p;by_cases v:n=0;exact .inl v;rw[aB v]at p;by_cases w:n=(mf.file:Int);exact .inr w;rw[aB w]at p;exact absurd rfl p)<|by omega
 rw[j,k (mf.file:Int),aB<|by omega,aA rfl]at h2;show J6 a<=16500+1071*(r.cnt:Int);omega;show∀c∈s.P,mF c;exact I.P;exact I.P20
end
end
end P
namespace A
open Go
section
variable {P:Program} {ops:Array Oper} {md:Region.Mode} {C:World->Prop}
end
end A
namespace P
open Go.RowKit
attribute [local go_sem] xe zv
def Jq.dX{w:Zy}{B:Nat}{r:Sr}(h:Jq w B r){x:Nat}(hx:r.own B x){cs:Za}{t:Zt}{f:Nat×Nat}(e:w.heap[x]?=bO (.cells cs t f)):t≠43/\t≠31:=by
 have blk:∀{b:Za} {g:Zt},xx w x b g->g≠43/\g≠31->t≠43/\t≠31:=fun {b g} d q=>by
  unfold xx at d;rw[d]at e;cases e;exact q
 have m:(∃l c,w.heap[x]?=bO (.map l c))->t≠43/\t≠31:=fun⟨l,c,d⟩=>by rw[d]at e;cases e
 rcases hx with rfl|(rfl|rfl|⟨c,j,rfl⟩)|⟨s,p,hx⟩;exact blk h.blk (by decide);exact blk h.disk.blk (by decide);exact m h.disk.map.blk;exact blk (h.disk.eU c j) (by decide);obtain⟨k,_⟩:=h.bU s p;rcases hx with rfl|rfl|⟨a,n,c,v,rfl⟩;exact blk k.blk (by decide);exact m k.map.blk;obtain⟨i,o,_⟩:=AC k.pend v;exact blk (show xx w _ i 126 from o)<|by decide
end P
namespace P
open Go.RowKit
section
variable {r:Sr} {s:Jo} {k:gZ}
def Wy.swap{s':Jo}(I:Wy r s)(a:s'.L=s.L)(d:s'.ep=s.ep)(e:s'.base=s.base)(f:s'.last=s.last)(g:s'.named=s.named)(i:s'.bP=s.bP)(j:∀c∈s'.P,mF c)(b:s'.P.length<=20):Wy {r with sn:=bO s'} s':=by
 obtain⟨h,k,q,L,D⟩:=I.dsk;exact⟨⟨h,k,q,L,⟨D.ok,D.cnt,D.tag,D.ep.trans d.symm,by rw[a];exact D.same,by rw[e];exact D.base,by rw[f,e];exact D.last,by rw[g];exact D.named⟩⟩,I.mark,I.gd,I.each,I.nx,I.room,I.lim,I.fus,by rw[f];exact I.rC,I.cnt,j,b,by rw[a];exact I.sK,by rw[a];exact I.len,by rw[d];exact I.ep,I.op,by rw[g];exact I.named,by rw[i];exact I.sh0⟩
def Wy.oN(I:Wy r s):Nd s.now:=I.nd.cO s.P
def xru{del:Bool}{S T:Zl}(h:(Ve S&&iW (if del then []else T))=bL):mF (if del then .del S else .put S T):=by
 rw[xl]at h;obtain⟨a,c⟩:=h;have a:0<S.length/\S.length<=16:=by simpa[Ve]using a
 have b:S≠[]:=qb.1 a.1;cases del with
 |true=>exact⟨b,a.2⟩
 |false=>exact⟨b,a.2,by simpa[iW]using c⟩
def fV.of{Bx:Nat}(I:Wy r s)(b:r.sn=bO s\/r.sn=bN)(a:∀x,r.own Bx x->4<x):fV Bx r where
 m:=I.m
 mark:=I.mark
 cnt:=by have:=I.cnt;omega
 op:=by have:=I.op;omega
 room:=by have:=I.room;omega
 files:=I.U9
 few:=by have:=I.few;have:=I.cnt;omega
 nx:=fun c h=>by rw[I.nx]at h;cases h
 own:=a
 bU:=fun i e=>by
  rcases b with b|b;rw[b]at e;cases e;have d:=I.base0;have f:=I.rC;have g:=I.cnt;exact⟨by omega,by omega,I.P20⟩;rw[b]at e;cases e
def SY(b:r.sn=bO s)(a:Zl):r.gets a=if Ve a=bK then(([],6):Zl×Int)else match Zh s.now a with
  |none=>([],8)
  |some v=>(v,0):=by unfold Sr.gets;rw[b];rfl
def TF(I:Wy r s):jM s.now:=F_ s.P I.sK I.P
def EP(I:Wy r s):s.now.length<=1000:=by
 have a:=y_ s.P s.L;have b:=I.len;have c:=I.P20;have d:=I.cnt;show(cO s.L s.P).length<=1000;omega
def KZ(L:KV):(fD L).length=L.length:=by unfold fD;rw[Zb,(QJ L).length_eq,Zb]
def D8(I:Wy r s)(d:r.sn=bO s):∀i (h:i<(fD s.now).length),r.gets (fD s.now)[i].1=((fD s.now)[i].2,0):=by
 intro i h;have b:(fD s.now)[i].1∈Vp s.now:=by rw[<-KN];exact qp.2 ⟨_,Zn h,rfl⟩
 have hk:=L9 (TF I) I.oN b;have f:(fD s.now)[i].2=(Zh s.now (fD s.now)[i].1).getD []:=by simp[fD]
 obtain⟨v,a⟩:=YI<|JH.1 b;rw[SY d,aB,a];rw[f,a];rfl;have c:=qb.2 hk.1;intro e;simp only[Ve,decide_eq_false_iff_not]at e;exact e ⟨c,hk.2.1⟩
end
end P
end Go.Proofs.YtjnbhiamaabbgaaGreatDoor
