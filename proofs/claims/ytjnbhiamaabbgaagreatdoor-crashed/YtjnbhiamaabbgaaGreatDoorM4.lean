import Derived.Test.YtjnbhiamaabbgaaGreatDoorM3
import Derived.Deep.AppendLies
set_option linter.all false
set_option maxRecDepth 100000
set_option maxHeartbeats 8000000
namespace Go.Proofs.YtjnbhiamaabbgaaGreatDoor
open Bool renaming false->bK,true->bL
open Go renaming Calls->bE,MapEntry->aK
open Go.Instr renaming findKey->aT
open Go.Result renaming andThen->aY
open Go.RowKit renaming Below->bC,intOf->aJ
open Option renaming none->bN,some->bO
namespace P
open A.Tryq Go.RowKit
attribute [local go_sem] KP xe
def cF(k:Zu)(r i:Nat):Z8:=if i<256 then Sn i else if i<256+16*(r+1)then gK k ((i-256)/16) ((i-256)%16)else 0
def qZ(i:Nat):Z8:=if i<256 then Sn i else 0
def E1:prog.built 372 [(0,.agg (kb Sn 256).toArray)]=bO (kb qZ 432).toArray:=by kernel_rfl
def PP{B b:Nat}{a:Zy}(c:B<=b):∀(vs:Ze) (o:Nat) (w:Zy),bC B a w->bC B a (w.setCells b o vs)
 |[],_,_,h=>h
 |v::r,o,w,h=>by
  rw[World.setCells];exact PP c r (o+1) _<|h.setCell c _
def Lr(b:Nat):∀(vs:Ze) (o:Nat) (w:Zy),(w.setCells b o vs).heap.size=w.heap.size
 |[],_,_=>rfl
 |v::r,o,w=>by
  rw[World.setCells,Lr b r (o+1) _];simp[World.setCell]
def Ca(f:Zu)(n:Nat):∀v∈kb f n,v.oneCell'=bL:=by
 intro v a;simp only[kb,qp]at a;obtain⟨i,_,rfl⟩:=a;rfl
def xm1(h:Zu)(m:Nat):kb h (m+1)=zc (h 0)::kb (fun i=>h<|i+1) m:=by
 unfold kb;rw[List.range_succ_eq_map];simp[PS]
def Wz.setCells:∀(m:Nat) {w:Zy} {b n:Nat} {f:Zu} {t:Zt} (_:Wz w b f n t) (o:Nat) (h:Zu),Wz (w.setCells b o<|kb h m) b (fun i=>if o<=i/\i<o+m then h (i-o)else f i) n t
 |0,w,b,n,f,t,hr,o,h=>by
  refine(show Wz w b f n t from hr).congr fun i _=>?_;rw[aB<|by omega]
 |m+1,w,b,n,f,t,hr,o,h=>by
  rw[xm1,World.setCells];refine(Wz.setCells m (hr.set o<|h 0) (o+1) fun i=>h<|i+1).congr fun i _=>?_;by_cases e:i=o;subst e;rw[aB<|by omega,aA rfl,aA<|by omega,V9];by_cases a:o+1<=i/\i<o+1+m;rw[aA a,aA<|by omega,show i-(o+1)+1=i-o by omega];rw[aB a,aB e,aB<|by omega]
def Wz.range{w:Zy}{b n o m:Nat}{f h:Zu}{t:Zt}(d:Wz w b f n t)(ho:o+m<=n)(e:∀i,i<m->f (o+i)=h i):w.rangeAt b o<|kb h m:=fun j v c=>by
 have a:j<m:=by have:=(XR.1 c).1;rwa[Vr]at this
 rw[d.cell<|by omega,e j a,<-c,pG _ _ _ a]
def Wz.there{w:Zy}{b n o m:Nat}{f:Zu}{t:Zt}(a:Wz w b f n t)(ho:o+m<=n):w.there b o m:=fun j c=>⟨by rw[a.cell<|by omega];rfl,a.frozen⟩
def Wz.tX{w:Zy}{g r:Nat}{k:Zu}{t:Zt}(h:Wz w g (cF k r) 432 t):sQ w g:=fun i a=>by
 rw[h.cell<|by omega];unfold cF;rw[aA a]
def yQ(k:Zu)(r q j:Nat)(b:q<=r)(a:j<16):cF k r (256+16*q+j)=gK k q j:=by
 unfold cF;rw[aB<|by omega,aA<|by omega,show(256+16*q+j-256)/16=q by omega,show(256+16*q+j-256)%16=j by omega]
def No(l:Zl)(d:l.length=16):((kb qZ 432).take 256++bv l++(kb qZ 432).drop (256+16))=kb (cF (fun i=>l.getD i 0) 0) 432:=by
 apply Jt;intro i;by_cases b:i<256;rw[Zq,Z2<|by rw[xt,Vr];omega,Jf,aA b,pG _ _ _<|by omega,pG _ _ _<|by omega];unfold cF qZ;rw[aA b,aA b];have a:((kb qZ 432).take 256).length=256:=by rw[xt,Vr];rfl
 by_cases e:i<272;rw[Zq,Zx<|by omega,Z2<|by rw[Wn,a];omega,a,NJ,pG _ _ _<|by omega,pG _ _ _<|by omega];unfold cF;rw[aB b,aA<|by omega,show(i-256)/16=0 by omega,show(i-256)%16=i-256 by omega];rfl;rw[Zx<|by rw[zj,a,Wn];omega,PK,zj,a,Wn,d,show 256+16+(i-(256+16))=i by omega];by_cases c:i<432;rw[pG _ _ _ c,pG _ _ _ c];unfold cF qZ;rw[aB b,aB b,aB<|by omega];rw[qo<|by rw[Vr];omega,qo<|by rw[Vr];omega]
def zre(l:Zl)(hl:l.length=16)(w:Zy):bE prog 281 #[zs l] w fun en w'=>∃g,en= .returned (zo g)/\w.heap.size<=g/\Wz w' g (cF (fun i=>l.getD i 0) 10) 432 372/\bC w.heap.size w w':=by
 go_enter func281.1,Tryz.ntmps281
 go_wp2_with fail
 refine(zni _).mono ?_;rintro en w1 ⟨rfl,c⟩;have b:=c.alloc c.size<|.cells (kb qZ 432).toArray 372;have s:=jw w1<|.cells (kb qZ 432).toArray 372;have R:w1.heap.size<(w1.alloc<|.cells (kb qZ 432).toArray 372).heap.size:=by simp
 have U:Hid<|∀y:Zy,y.heap[w1.heap.size]?=bO (.cells ((kb qZ 432).take 256++bv l++(kb qZ 432).drop (256+16)).toArray 372 (0,0))->Wz y w1.heap.size (cF (fun i=>l.getD i 0) 0) 432 372:=fun y h=>by unfold Wz;rw[h,No l hl]
 have v:=wV qZ 432;generalize hcc:kb qZ 432=cc at*;have a:prog.built 372 [(0,.agg (kb Sn 256).toArray)]=bO cc.toArray:=by rw[E1,hcc]
 generalize kb Sn 256=bx at*
 go_upto_region 2 with(refine Mo rfl 372 _ rfl cc.toArray a ?_)
 generalize w1.alloc (.cells cc.toArray 372)=x at*
 go_wp2_with (refine PN rfl _ _ 163 9 rfl 5 underlying163 UA w1.heap.size 256 16 16 (st l) rfl rfl _ 372 s ?c1 ?c2 w.heap.size w b c.size ?_)
 case c1=>rw[xe];omega
 case c2=>rw[v,xe];omega
 intro y t n;have d:=U.o y (by rw[t,Zq];rfl);have q:=c.size;clear t s U b a v hcc R;generalize hK:(fun i=>l.getD i 0)=key at*;have D:=zl hK;clear hK;obtain⟨g,C⟩:∃g,w1.heap.size=g:=⟨_,rfl⟩;rw[C]at d q⊢;clear C c
 go_wp2_with fail
 go_loopw [4,16] (fun co i wr=>∃k:Nat,k<=10/\i=zi k/\co=zc (CO k)/\Wz wr g (cF key k) 432 372/\bC w.heap.size w wr) (fun _ i _=>(10-aJ i).toNat)
 case atStart=>exact⟨0,by omega,rfl,rfl,d,n⟩
 case round=>
  clear d n;obtain⟨k,hk,rfl,rfl,p,G⟩:=hrel;by_cases ba:k<10
  ·have i1:(k:Int)<10:=by omega
   have i2:(k:Int)<11:=by omega
   have i3:(k:Int)+1<11:=by omega
   have i4:(0:Int)<=(k:Int)+1:=by omega
   have i5:IntKind.i64.wrap ((k:Int)+1)=(k:Int)+1:=by rw[xn]<;>omega
   have i6:((k:Int)+1).toNat=k+1:=by omega
   have C:=G.size;have H:g<wr.heap.size:=qz (p.cell (k:=0)<|by decide);obtain⟨f,B⟩:∃f,gK key k=f:=⟨_,rfl⟩;obtain⟨co,o⟩:∃co,CO k=co:=⟨_,rfl⟩;have HN:Hid<|gK key (k+1)=fJ f co:=by show fJ (gK key k) (CO k)=_;rw[B,o]
   have HC:Hid<|CO (k+1)=pQ co:=by show pQ (CO k)=_;rw[o]
   have E:Hid<|Wz wr.drew g (cF key k) 432 372:=p;have T:Hid<|∀j,j<16->cF key k (256+k*16+j)=f j:=fun j K=>by rw[show 256+k*16+j=256+16*k+j by omega,yQ key k k j (ze _) K,B]
   have r:Hid<|∀i,i<432->(if 256+(k+1)*16<=i/\i<256+(k+1)*16+16 then fJ f co (i-(256+(k+1)*16))else cF key k i)=cF key (k+1) i:=fun i hi=>by
    unfold cF;by_cases z:i<256;rw[aB<|by omega,aA z,aA z];rw[aB z,aB z];by_cases Z:i<256+16*(k+1);rw[aB<|by omega,aA Z,aA<|by omega];by_cases h3:i<256+16*(k+1+1);rw[aA<|by omega,aA h3,show(i-256)/16=k+1 by omega,show(i-256)%16=i-(256+(k+1)*16) by omega,HN.o];rw[aB<|by omega,aB Z,aB h3]
   have F:Hid<|∀w',Wz w' g (cF key k) 432 372->w'.rangeAt g (256+k*16) (kb f 16)/\w'.there g (256+(k+1)*16) 16:=fun w' h=>⟨h.range (by omega) T.o,h.there<|by omega⟩;have V:Hid<|∀w',Wz w' g (cF key k) 432 372->Wz (w'.setCells g (256+(k+1)*16)<|kb (fJ f co) 16) g (cF key<|k+1) 432 372/\(w'.setCells g (256+(k+1)*16)<|kb (fJ f co) 16).rangeAt g (256+k*16) (kb f 16)/\(w'.setCells g (256+(k+1)*16)<|kb (fJ f co) 16).there g (256+(k+1)*16) 16:=fun w' h=>by
    have m:=(h.setCells 16 (256+(k+1)*16)<|fJ f co).congr r.o;refine⟨m,m.range (by omega) fun j K=>?_,m.there<|by omega⟩;rw[show 256+k*16+j=256+16*k+j by omega,yQ key (k+1) k j (by omega) K,B]
   have I:(prog.info? 359).map (·.size)=bO (kb f 16).length:=by rw[Vr];exact RN
   have J:(prog.info? 359).map (·.size)=bO (kb (fJ f co) 16).length:=by rw[Vr];exact RN
   have L:=Vr f 16;have M:=Vr (fJ f co) 16;have O:=Ca f 16;have Q:=Ca (fJ f co) 16;have W:Hid<|∀w',sQ w' g->bE prog 294 #[zo g,.agg (kb f 16).toArray,zc co] w' fun en S=>en= .returned (.agg (kb (fJ f co) 16).toArray)/\bC w'.heap.size w' S:=fun w' h=>zxt f co g w' h;rw[o];clear p B o T r;generalize kb f 16=X1 at*;generalize kb (fJ f co) 16=X2 at*;have X:=F.o wr.drew E.o;have hu:=underlying359
   go_wp2_with fail
   go_region_held3 (fun w'=>w'.rangeAt g (256+k*16) X1/\w'.there g (256+(k+1)*16) 16) (first|exact X|exact Y|exact T2.2)
    (first
     |(go_at_call 294;refine(W.o _<|E.o.tX).mono ?_;rintro en x ⟨rfl,b⟩;have e:=E.o.below b H;have Y:=F.o x e;have T2:=V.o x e;have n:bC w.heap.size w<|x.setCells g (256+(k+1)*16) X2:=PP q _ _ _<|G.drew.trans<|b.mono C))
   clear X Y F V W I J L M O Q hu b e;generalize hw5:x.setCells g (256+(k+1)*16) X2=w5 at*;clear hw5
   go_wp2_with fail
   refine(ZE co _).mono ?_;rintro en w6 ⟨rfl,rfl⟩
   go_wp2_with fail
   go_roundw
   case rel=>exact⟨k+1,by omega,by go_num,by rw[HC.o],T2.1,n⟩
   case measure=>simp[aJ];omega
  obtain rfl:k=10:=by omega
  go_wp2_with fail
  go_ret
  exact⟨g,rfl,q,by rw[D.o];exact p,G⟩
end P
namespace P
open A.Tryq Go.RowKit
section
variable {key cur:Zu} {w wr:Zy} {g:Nat}
structure EI(w:Zy)(g:Nat)(key cur:Zu)(wr:Zy):Prop where
 dI:bC w.heap.size w wr
 sz:w.heap.size+1<wr.heap.size
 uZ:g<w.heap.size
 b0:Wz wr w.heap.size cur 16 359
 b1:Wz wr (w.heap.size+1) zF 16 359
 rc:Wz wr g (cF key 10) 432 372
def EI.drew(h:EI w g key cur wr):EI w g key cur wr.drew:=⟨h.dI.drew,h.sz,h.uZ,h.b0,h.b1,h.rc⟩
def EI.then{w wr w':Zy}(h:EI w g key cur wr)(a:bC wr.heap.size wr w'):EI w g key cur w':=
 have c:=h.sz;have b:=h.uZ
 ⟨h.dI.trans<|a.mono h.dI.size,zn h.sz a.size,h.uZ,h.b0.below a<|by omega,h.b1.below a<|by omega,h.rc.below a<|by omega⟩
def EI.start(w:Zy)(g:Nat)(key x:Zu)(h:Wz w g (cF key 10) 432 372):EI w g key x<|(w.alloc<|.cells (kb x 16).toArray 359).alloc<|.cells (kb zF 16).toArray 359:=by
 have b:g<w.heap.size:=qz (h.cell (k:=0)<|by decide);have a:bC w.heap.size w<|(w.alloc<|.cells (kb x 16).toArray 359).alloc<|.cells (kb zF 16).toArray 359:=((zr _ _).alloc (ze _) _).alloc (by simp) _;refine⟨a,by simp,b, ?_, ?_,h.below a b⟩
 all_goals (show((w.heap.push _).push _)[_]?=_)
 all_goals (simp only[jh,Xe])
 rw[aB<|by omega,aA trivial];rw[aA trivial]
def Kv(b:Nat):∀(vs:Ze) (o:Nat) (w:Zy) (j:Nat),j≠b->(w.setCells b o vs).heap[j]?=w.heap[j]?
 |[],_,_,_,_=>rfl
 |v::r,o,w,j,h=>by rw[World.setCells,Kv b r (o+1) _ j h,jq _ _ _ _ h]
def Wz.jO{w:Zy}{b b' n o:Nat}{f:Zu}{t:Zt}{vs:Ze}(h:Wz w b f n t)(a:b≠b'):Wz (w.setCells b' o vs) b f n t:=by
 unfold Wz at*;rw[Kv _ _ _ _ _ a];exact h
def Wz.all{w:Zy}{b:Nat}{f:Zu}{t:Zt}(h:Wz w b f 16 t)(x:Zu):Wz (w.setCells b 0<|kb x 16) b x 16 t:=
 (h.setCells 16 0 x).congr fun i a=>by rw[aA<|by omega,Nat.sub_zero]
def WL(w:Zy)(g:Nat)(key _cur f:Zu)(wr:Zy):Prop:=EI w g key f wr
def WM(w:Zy)(_g:Nat)(_key _cur f:Zu)(wr:Zy):Prop:=bC w.heap.size w wr/\Wz wr (w.heap.size+1) f 16 359
def EI.store0(h:EI w g key cur wr)(f:Zu):WL w g key cur f<|wr.setCells w.heap.size 0<|kb f 16:=
 have a:=h.uZ;show EI w g key f (wr.setCells w.heap.size 0<|kb f 16)from⟨PP (ze _) _ _ _ h.dI,by rw[Lr];exact h.sz,h.uZ,h.b0.all f,h.b1.jO<|by omega,h.rc.jO<|by omega⟩
def EI.store1(h:EI w g key cur wr)(f:Zu):WM w g key cur f<|wr.setCells (w.heap.size+1) 0<|kb f 16:=
 ⟨PP (by omega) _ _ _ h.dI,h.b1.all f⟩
def LB(x:Addr):Sem Zv:=loadVar 359 x
def SB(x:Addr)(v:Zv):Sem Unit:=storeVar 359 x v
def Pu(x:Addr):loadVar 359 x=LB x:=rfl
def Sf(x:Addr)(v:Zv):storeVar 359 x v=SB x v:=rfl
attribute [local go_sem ↓] Pu Sf
def EY(w:Zy)(b o:Nat)(f:Zu)(h:w.rangeAt b o<|kb f 16):(LB<|zq b o).run prog w= .ok (.agg (kb f 16).toArray) w:=
 run_loadVar_mid w b o 359 (kb f 16) _ h underlying359 rfl (by rw[Vr];exact RN)
def VE(w:Zy)(b o:Nat)(f:Zu)(h:w.there b o 16):(SB (zq b o)<|.agg (kb f 16).toArray).run prog w= .ok () (w.setCells b o<|kb f 16):=
 run_storeVar_mid w b o 359 (kb f 16).toArray (by rw[wV];exact h) (yV f) (yT f 16)
def zC(n:Nat):Code->Option Code
 | .region id ops b=>if id=n then bO (.region id ops b)else bN
 | .seq a b=>match zC n a with
  |some c=>bO c
  |none=>zC n b
 | .cond _ a b=>match zC n a with
  |some c=>bO c
  |none=>zC n b
 | .block _ c=>zC n c
 | .loop c=>zC n c
 | .scope c=>zC n c
 |_=>bN
def VY(n:Nat)(f:Func):Code:=(f.body.bind<|zC n).getD .skip
def n9{key x:Zu}(inv:EI w g key x wr)(Q:Exit->Act->Zy->Prop)(c1 c2 c5 U V W X c10 I J c13 c d e f i k l m n o p q r s t v y z B sH C D jU:Zv)
  (Y:∀(u6 u7 u8 u9 u10 u11 u12:Zv) (w9:Zy),WL w g key x (iX x<|gK key 0) w9->Q .normal ⟨#[zo g,c1,c2,zo w.heap.size,zo<|w.heap.size+1,c5,u6,u7,u8,u9,u10,u11,u12,c13,c,d,e,f,i,k,l,m,n,o,p,q,r,s,t,v,y,z,B,sH,C,D,jU],[]⟩ w9):
  Code.wp prog (VY 1 Tryz.f282) Q ⟨#[zo g,c1,c2,zo w.heap.size,zo<|w.heap.size+1,c5,U,V,W,X,c10,I,J,c13,c,d,e,f,i,k,l,m,n,o,p,q,r,s,t,v,y,z,B,sH,C,D,jU],[]⟩ wr:=by
 have hg:=inv.uZ
 conv=>arg 2;whnf
 refine wp_region_noPanic ?_;have H:Hid<|∀a,EI w g key x a->a.rangeAt g (256) (kb (gK key 0) 16)/\a.there w.heap.size 0 16:=fun a h=>⟨h.rc.range (by omega) (fun j O=>by first|exact yQ key 10 (0) j (by omega) O|(rw[show 256+j=256+16*(0)+j by omega];exact yQ key 10 (0) j (by omega) O)),h.b0.there<|by omega⟩;have R:=zl fun a (h:EI w g key x a)=>h.store0<|iX x<|gK key 0;have R0:wr.drew.rangeAt w.heap.size 0<|kb x 16:=inv.drew.b0.range (by omega) (fun j O=>by rw[jy]);have b:=zl<|P8 x<|gK key 0;have L:=fun a=>EY a w.heap.size 0 x;have K:=fun a=>EY a g (256)<|gK key 0;have M:=fun a=>VE a w.heap.size 0<|iX x<|gK key 0;generalize kb (iX x<|gK key 0) 16=XX at*;generalize kb (gK key 0) 16=KK at*;generalize kb x 16=X0 at*;have G:Hid<|EI w g key x wr.drew:=inv.drew;have S:=(H.o _ G.o).1;clear inv
 go_region_with (first
   |(go_at_call 296;refine(b.o _).mono ?_;rintro en Z ⟨rfl,E⟩;have F:=(G.o).then E;have T:=(H.o _ F).2;clear S R0))
 all_goals (
  have inv:=R.o _ F;clear R H b M L K G;clear T F E;generalize hw9:Z.setCells w.heap.size 0 XX=w9 at*;clear hw9;exact NoPanic.normal<|Y _ _ _ _ _ _ _ _ inv)
def o3{n:Nat}(hn:n<9)(inv:EI w g key cur wr)(Q:Exit->Act->Zy->Prop)(c1 c2 Y Z c8 c9 c10 f i c13 k l m F G H I J K L M O R S o p q r s sH t v jU:Zv)
  (hQ:∀(u17 u18 u19 u20 u21 u22 u23 u24 u25 u26 u27:Zv) (w9:Zy),WL w g key cur (iX (lZ<|iO cur)<|gK key<|n+1) w9->Q .normal ⟨#[zo g,c1,c2,zo w.heap.size,zo<|w.heap.size+1,zi<|(n:Int)+1,Y,Z,c8,c9,c10,f,i,c13,k,l,m,u17,u18,u19,u20,u21,u22,u23,u24,u25,u26,u27,o,p,q,r,s,sH,t,v,jU],[]⟩ w9):
  Code.wp prog (VY 5 Tryz.f282) Q ⟨#[zo g,c1,c2,zo w.heap.size,zo<|w.heap.size+1,zi<|(n:Int)+1,Y,Z,c8,c9,c10,f,i,c13,k,l,m,F,G,H,I,J,K,L,M,O,R,S,o,p,q,r,s,sH,t,v,jU],[]⟩ wr:=by
 have i1:(n:Int)+1<10:=by omega
 have i2:(n:Int)+1<11:=by omega
 have i3:(0:Int)<=(n:Int)+1:=by omega
 have i4:((n:Int)+1).toNat=n+1:=by omega
 have hg:=inv.uZ
 conv=>arg 2;whnf
 refine wp_region_noPanic ?_;have b:Hid<|∀a,EI w g key cur a->a.rangeAt g (256+(n+1)*16) (kb (gK key<|n+1) 16)/\a.there w.heap.size 0 16:=fun a h=>⟨h.rc.range (by omega) (fun j W=>by first|exact yQ key 10 ((n+1)) j (by omega) W|(rw[show 256+(n+1)*16+j=256+16*((n+1))+j by omega];exact yQ key 10 ((n+1)) j (by omega) W)),h.b0.there<|by omega⟩;have X:=zl fun a (h:EI w g key cur a)=>h.store0<|iX (lZ<|iO cur)<|gK key<|n+1;have R0:wr.drew.rangeAt w.heap.size 0<|kb cur 16:=inv.drew.b0.range (by omega) (fun j W=>by rw[jy]);have d:=zl<|Qv cur g;have c:=zl<|xng<|iO cur;have e:=zl<|P8 (lZ<|iO cur)<|gK key<|n+1;have U:=fun a=>EY a w.heap.size 0 cur;have T:=fun a=>EY a g (256+(n+1)*16)<|gK key<|n+1;have V:=fun a=>VE a w.heap.size 0<|iX (lZ<|iO cur)<|gK key<|n+1;generalize kb (iX (lZ<|iO cur)<|gK key<|n+1) 16=XX at*;generalize kb (gK key<|n+1) 16=KK at*;generalize kb (lZ<|iO cur) 16=X2 at*;generalize kb (iO cur) 16=X1 at*;generalize kb cur 16=X0 at*;have B:Hid<|EI w g key cur wr.drew:=inv.drew;have S0:=(b.o _ B.o).1;clear inv
 go_region_with (first
   |(go_at_call 298;refine(d.o _ (B.o).rc.tX).mono ?_;rintro en v2 ⟨rfl,x⟩;have C:=(B.o).then x;have S2:=(b.o _ C).1;clear S0 R0)
   |(go_at_call 297;refine(c.o _).mono ?_;rintro en v3 ⟨rfl,y⟩;have D:=(C).then y;have S3:=(b.o _ D).1;clear S2)
   |(go_at_call 296;refine(e.o _).mono ?_;rintro en v4 ⟨rfl,z⟩;have E:=(D).then z;have S4:=(b.o _ E).2;clear S3))
 all_goals (
  have inv:=X.o _ E;clear X b e V U T B d c;clear S4 E z D y C x;generalize hw9:v4.setCells w.heap.size 0 XX=w9 at*;clear hw9;exact NoPanic.normal<|hQ _ _ _ _ _ _ _ _ _ _ _ _ inv)
def o4(inv:EI w g key cur wr)(Q:Exit->Act->Zy->Prop)(c1 c2 c5 U V W X c10 d e c13 f i k l m n o p q r s t v x F G H I J sH K L jU:Zv)
  (hQ:∀(u28 u29 u30 u31 u32 u33 u34 u35 u36:Zv) (w9:Zy),WM w g key cur (iX (iO cur)<|gK key 10) w9->Q .normal ⟨#[zo g,c1,c2,zo w.heap.size,zo<|w.heap.size+1,c5,U,V,W,X,c10,d,e,c13,f,i,k,l,m,n,o,p,q,r,s,t,v,x,u28,u29,u30,u31,u32,u33,u34,u35,u36],[]⟩ w9):
  Code.wp prog (VY 6 Tryz.f282) Q ⟨#[zo g,c1,c2,zo w.heap.size,zo<|w.heap.size+1,c5,U,V,W,X,c10,d,e,c13,f,i,k,l,m,n,o,p,q,r,s,t,v,x,F,G,H,I,J,sH,K,L,jU],[]⟩ wr:=by
 have hg:=inv.uZ
 conv=>arg 2;whnf
 refine wp_region_noPanic ?_;have C:Hid<|∀a,EI w g key cur a->a.rangeAt g (416) (kb (gK key 10) 16)/\a.there (w.heap.size+1) 0 16:=fun a h=>⟨h.rc.range (by omega) (fun j S=>by first|exact yQ key 10 (10) j (by omega) S|(rw[show 416+j=256+16*(10)+j by omega];exact yQ key 10 (10) j (by omega) S)),h.b1.there<|by omega⟩;have T:=zl fun a (h:EI w g key cur a)=>h.store1<|iX (iO cur)<|gK key 10;have R0:wr.drew.rangeAt w.heap.size 0<|kb cur 16:=inv.drew.b0.range (by omega) (fun j S=>by rw[jy]);have b:=zl<|Qv cur g;have c:=zl<|P8 (iO cur)<|gK key 10;have O:=fun a=>EY a w.heap.size 0 cur;have M:=fun a=>EY a g (416)<|gK key 10;have R:=fun a=>VE a (w.heap.size+1) 0<|iX (iO cur)<|gK key 10;generalize kb (iX (iO cur)<|gK key 10) 16=XX at*;generalize kb (gK key 10) 16=KK at*;generalize kb (iO cur) 16=X1 at*;generalize kb cur 16=X0 at*;have B:Hid<|EI w g key cur wr.drew:=inv.drew;have Y:=(C.o _ B.o).1;clear inv
 go_region_with (first
   |(go_at_call 298;refine(b.o _ (B.o).rc.tX).mono ?_;rintro en v2 ⟨rfl,y⟩;have D:=(B.o).then y;have Z:=(C.o _ D).1;clear Y R0)
   |(go_at_call 296;refine(c.o _).mono ?_;rintro en v3 ⟨rfl,z⟩;have E:=(D).then z;have S3:=(C.o _ E).2;clear Z))
 all_goals (
  have inv:=T.o _ E;clear T C c R O M B b;clear S3 E z D y;generalize hw9:v3.setCells (w.heap.size+1) 0 XX=w9 at*;clear hw9;exact NoPanic.normal<|hQ _ _ _ _ _ _ _ _ _ _ inv)
def zws(key x:Zu)(g:Nat)(w:Zy)(e:Wz w g (cF key 10) 432 372):bE prog 282 #[zo g,.agg (kb x 16).toArray] w fun en w'=>en= .returned (.agg (kb (jI key x) 16).toArray)/\bC w.heap.size w w':=by
 have inv:=EI.start w g key x e;clear e;go_enter func282.1,Tryz.ntmps282
 go_upto_region 1 with fail
 try rw[VR]
 generalize(w.alloc<|.cells (kb x 16).toArray 359).alloc (.cells (kb zF 16).toArray 359)=wa at*;refine n9 inv _ _ _ _ _ _ _ _ _ _ _ _ _ _ _ _ _ _ _ _ _ _ _ _ _ _ _ _ _ _ _ _ _ _ _ ?_;clear inv;intro Q R S T f h j K inv;have inv:EI w g key (CW key x 0) K:=inv
 go_wp2_with fail
 go_loopw [5] (fun i wr=>∃n:Nat,n<=9/\i=zi ((n:Int)+1)/\EI w g key (CW key x n) wr) (fun i _=>(10-aJ i).toNat)
 case atStart=>exact⟨0,by omega,rfl,inv⟩
 case round=>
  clear inv;obtain⟨n,L,rfl,inv⟩:=hrel;by_cases c:n<9
  ·have M:(n:Int)+1<10:=by omega
   have O:IntKind.i64.wrap ((n:Int)+1+1)=(n:Int)+1+1:=by rw[xn]<;>omega
   go_upto_region 5 with fail
   refine o3 c inv _ _ _ _ _ _ _ _ _ _ _ _ _ _ _ _ _ _ _ _ _ _ _ _ _ _ _ _ _ _ _ _ _ _ ?_;clear inv;intro k l m o p q r s t y z d inv;have inv:EI w g key (CW key x<|n+1) d:=inv
   go_wp2_with fail
   go_roundw
   case rel=>first|exact⟨n+1,by omega,by go_num,inv⟩|((repeat apply Exists.intro);exact⟨⟨n+1,by omega,by go_num,inv⟩,rfl⟩)
   case measure=>simp[aJ];omega
  obtain rfl:n=9:=by omega
  go_upto_region 6 with fail
  refine o4 inv _ _ _ _ _ _ _ _ _ _ _ _ _ _ _ _ _ _ _ _ _ _ _ _ _ _ _ _ _ _ _ _ _ _ _ ?_;clear inv;intro B C D E F G H I J d inv;obtain⟨b,a⟩:WM w g key (CW key x 9) (jI key x) d:=inv
  go_wp2_with fail
  unfold Wz at a;exact jz (v:= .agg (kb (jI key x) 16).toArray) (Yf rfl _ _ (w.heap.size+1) 359 _ (0,0) _ rfl a underlying359 rfl<|yV _) rfl ⟨rfl,b⟩
end
end P
namespace P
open A.Tryq Go.RowKit
attribute [local go_sem] xe
def xvz(m:Nat):IntKind.u8.wrap ((m:Nat):Int)=e8 (UInt8.ofNat m):=by
 simp[IntKind.wrap,IntKind.bits,IntKind.signed,e8]
def gH(no:Zl)(n i:Nat):Z8:=if i<8 then no.getD i 0 else UInt8.ofNat (n/256^(15-i))
def uY(no:Zl)(n k i:Nat):Z8:=if i<8 then no.getD i 0 else if 15-k<i then UInt8.ofNat (n/256^(15-i))else 0
structure C2(w:Zy)(f1:Zu)(wr:Zy):Prop where
 dI:bC w.heap.size w wr
 sz:w.heap.size+1<wr.heap.size
 b0:Wz wr w.heap.size zF 16 359
 b1:Wz wr (w.heap.size+1) f1 16 359
def C2.start(w:Zy):C2 w zF<|(w.alloc<|.cells (kb zF 16).toArray 359).alloc<|.cells (kb zF 16).toArray 359:=by
 refine⟨((zr _ _).alloc (ze _) _).alloc (by simp) _,by simp, ?_, ?_⟩
 all_goals (show((w.heap.push _).push _)[_]?=_)
 all_goals (simp only[jh,Xe])
 rw[aB<|by omega,aA trivial];rw[aA trivial]
def C2.set{w wr:Zy}{f1:Zu}(h:C2 w f1 wr)(k:Nat)(v:Z8):C2 w (fun i=>if i=k then v else f1 i)<|wr.setCell (zq (w.heap.size+1) k)<|zc v:=
 ⟨h.dI.setCell (by show w.heap.size<=w.heap.size+1;omega) _,by simpa[World.setCell]using h.sz,h.b0.other<|by omega,h.b1.set k v⟩
def C2.congr{w wr:Zy}{f1 f2:Zu}(h:C2 w f1 wr)(e:∀i,i<16->f1 i=f2 i):C2 w f2 wr:=⟨h.dI,h.sz,h.b0,h.b1.congr e⟩
def eJ(b:Zl)(n:Nat)(a:b.length=8):bv b++(kb zF 16).drop 8=kb (uY b n 0) 16:=by
 apply Jt;intro i;by_cases h:i<8;rw[Z2<|by rw[Wn];omega,NJ,pG _ _ _<|by omega,pG _ _ _<|by omega];unfold uY;rw[aA h];rw[Zx<|by rw[Wn];omega,Wn,a,PK,show 8+(i-8)=i by omega];by_cases c:i<16;rw[pG _ _ _ c,pG _ _ _ c];unfold uY zF;rw[aB h,aB<|by omega];rw[qo<|by rw[Vr];omega,qo<|by rw[Vr];omega]
def zwo(c:Zl)(G:c.length=8)(n:Nat)(Y:n<=100000)(T:Int)(F:T=(n:Int))(w:Zy):bE prog 283 #[zs c,.int .u64 T] w fun en w'=>en= .returned (.agg (kb (gH c n) 16).toArray)/\bC w.heap.size w w':=by
 subst F;have a:=C2.start w;have l:=a.b1;have d:=a.dI;have f:(kb zF 16).toArray.size=16:=wV _ _;have J:Hid<|∀p:Zy,p.heap[w.heap.size+1]?=bO (.cells (bv c++(kb zF 16).drop 8).toArray 359 (0,0))->bC (w.heap.size+1) ((w.alloc<|.cells (kb zF 16).toArray 359).alloc<|.cells (kb zF 16).toArray 359) p->C2 w (uY c n 0) p:=fun p h C=>by
  refine⟨a.dI.trans<|C.mono<|by omega, ?_,a.b0.below C<|by omega,by unfold Wz;rw[h,eJ c n G]⟩;exact zn a.sz C.size
 unfold Wz at l;go_enter func283.1,Tryz.ntmps283
 go_upto_region 2 with fail
 try rw[VR]
 generalize hwa:(w.alloc<|.cells (kb zF 16).toArray 359).alloc (.cells (kb zF 16).toArray 359)=wa at*;generalize hzz:kb zF 16=zz at*
 go_wp2_with (refine PN rfl _ _ 163 9 rfl 5 underlying163 UA (w.heap.size+1) 0 8 16 (st c) rfl rfl _ 359 l ?c1 ?c2 (w.heap.size+1) wa (zr _ _) (ze _) ?_)
 case c1=>rw[xe];omega
 case c2=>rw[f,xe];omega
 intro p t r;have inv:=J.o p (by rw[t];rfl) r;clear J t r l f d a hwa hzz
 go_wp2_with fail
 go_loopw [1,6] (fun v i wr=>∃k:Nat,k<=8/\i=zi ((15:Int)-k)/\v= .int .u64 (((n/256^k:Nat)):Int)/\C2 w (uY c n k) wr) (fun _ i _=>(aJ i).toNat)
 case atStart=>exact⟨0,by omega,rfl,by simp,inv⟩
 case round=>
  clear inv;obtain⟨k,hk,rfl,rfl,inv⟩:=hrel;have H:=inv.sz;by_cases E:k<8
  ·obtain⟨j,W⟩:∃j,15-k=j:=⟨_,rfl⟩
   have R:(15:Int)-(k:Int)=(j:Int):=by omega
   have j1:(8:Int)<=(j:Int):=by omega
   have j2:(j:Int)<16:=by omega
   have j3:j<16:=by omega
   obtain⟨m,y⟩:∃m,n/256^k=m:=⟨_,rfl⟩;have X:m<=100000:=by rw[<-y];exact xz (Nat.div_le_self _ _) Y
   obtain⟨q,S⟩:∃q,m/256=q:=⟨_,rfl⟩;have O:Hid<|n/256^(k+1)=q:=by show _=_;rw[<-S,<-y,DR,XY]
   have h3:wr.frozen? (zq (w.heap.size+1) j)=bK:=inv.b1.frozen;have h4:wr.cell? (zq (w.heap.size+1) j)=bO (zc<|uY c n k j):=inv.b1.cell j3;have Z:=xvz m;have hd:(m:Int)/256=(q:Int):=by omega
   have es:IntKind.i64.wrap ((j:Int)-1)=(j:Int)-1:=by rw[xn]<;>omega
   have L:Hid<|C2 w (uY c n<|k+1)<|wr.setCell (zq (w.heap.size+1) j)<|zc<|UInt8.ofNat m:=by
    refine(inv.set j<|UInt8.ofNat m).congr fun i x=>?_;unfold uY;by_cases e:i=j;subst e;rw[aA rfl,aB<|by omega,aA<|by omega,show 15-i=k by omega,y];rw[aB e];by_cases g:i<8;rw[aA g,aA g];rw[aB g,aB g];by_cases Q:15-k<i;rw[aA Q,aA<|by omega];rw[aB Q,aB<|by omega]
   have M:Hid<|(15:Int)-((k+1:Nat):Int)=(j:Int)-1:=by show _=_;omega
   rw[y,R];clear inv y R W S;generalize uY c n k j=z at*
   go_wp2
   go_roundw
   case rel=>first|exact⟨k+1,by omega,by rw[M.o],by rw[O.o],L.o⟩|((repeat apply Exists.intro);exact⟨⟨k+1,by omega,by rw[M.o],by rw[O.o],L.o⟩,rfl⟩)
   case measure=>simp[aJ];omega
  obtain rfl:k=8:=by omega
  have inv:=inv.congr (f2:=gH c n) (fun i x=>by
   unfold uY gH;by_cases g:i<8;rw[aA g,aA g];rw[aB g,aB g,aA<|by omega])
  have s:=inv.b1;have o:=inv.b0;have d:=inv.dI;unfold Wz at s o;have x:=yV<|gH c n;have V:=yT (gH c n) 16;have I:=FX zF<|gH c n;have B:(wr.setRow w.heap.size (kb (gH c n) 16).toArray).heap[w.heap.size]?=bO (.cells (kb (gH c n) 16).toArray 359 (0,0)):=Yv _ _ _ _ _ _ o;have D:=II (b:=w.heap.size) (kb (gH c n) 16).toArray d (by omega);clear inv hk E H;generalize hKK:(kb (gH c n) 16).toArray=K at*;have U:Hid<|(kb (gH c n) 16).toArray=K:=hKK;clear hKK
  go_wp2_with (first|refine Vh rfl 359 _ rfl (w.heap.size+1) rfl 359 _ (0,0) _ s underlying359 rfl x ?_|refine Jj rfl 359 _ _ rfl w.heap.size _ rfl rfl 359 _ o x I V ?_)
  exact jz (v:= .agg K) (Yf rfl _ _ w.heap.size 359 _ (0,0) _ rfl B underlying359 rfl x) rfl ⟨by rw[<-U.o],D⟩
end P
namespace P
open A.Tryq Go.RowKit
attribute [local go_sem] xe KP
section
variable {g o n:Nat} {key fx:Zu} {w wr:Zy} {Z:Ze}
def wD(key:Zu)(no:Zl)(i:Nat):Z8:=jI key (gH no<|i/16)<|i%16
def sF(key:Zu)(no x:Zl)(d i:Nat):Z8:=if i<d then x.getD i 0^^^wD key no i else x.getD i 0
def iK(k no x:Zl):Zl:=kl (fun i=>x.getD i 0^^^wD (fun j=>k.getD j 0) no i) x.length
def yJ(k a x:Zl):(iK k a x).length=x.length:=UC _ _
structure OI(w:Zy)(g o:Nat)(key fx:Zu)(n:Nat)(Z:Ze)(wr:Zy):Prop where
 dI:bC w.heap.size w wr
 MU:w.heap.size<=g
 GA:w.heap.size<=o
 ne:g≠o
 rc:Wz wr g (cF key 10) 432 372
 ob:wr.heap[o]?=bO (.cells (kb fx n++Z).toArray 5 ((kb fx n++Z).length,(kb fx n++Z).length+1))
def OI.uZ(h:OI w g o key fx n Z wr):g<wr.heap.size:=qz<|h.rc.cell (k:=0)<|by decide
def OI.Ak(h:OI w g o key fx n Z wr):o<wr.heap.size:=(za.1 h.ob).1
def OI.then{w wr w':Zy}(h:OI w g o key fx n Z wr)(a:bC wr.heap.size wr w'):OI w g o key fx n Z w':=
 ⟨h.dI.trans<|a.mono h.dI.size,h.MU,h.GA,h.ne,h.rc.below a h.uZ,(a.block _ h.Ak).trans h.ob⟩
def OI.drew(h:OI w g o key fx n Z wr):OI w g o key fx n Z wr.drew:=⟨h.dI.drew,h.MU,h.GA,h.ne,h.rc,h.ob⟩
def OI.cell(h:OI w g o key fx n Z wr)(k:Nat)(hk:k<n):wr.cell? (zq o k)=bO (zc<|fx k):=by
 rw[je _ _ _ _ _ _ h.ob,q8,Z2<|by rw[Vr];exact hk,pG _ _ _ hk]
def OI.frozen(h:OI w g o key fx n Z wr)(k:Nat)(hk:k<n):wr.frozen? (zq o k)=bK:=by
 unfold World.frozen?;rw[h.ob];have:¬(kb fx n++Z).length<=k:=by rw[zj,Vr];omega
 simp only[this,decide_false,W7]
def OI.set(h:OI w g o key fx n Z wr)(k:Nat)(hk:k<n)(v:Z8):OI w g o key (fun i=>if i=k then v else fx i) n Z<|wr.setCell (zq o k)<|zc v:=by
 have a:=h.ne;refine⟨h.dI.setCell h.GA _,h.MU,h.GA,h.ne,h.rc.other a, ?_⟩;rw[setCell_eq_setRow _ _ _ _ _ _ _ h.ob,Yv _ _ _ _ _ _ h.ob];rw[xv,List.set_append_left _ _<|by rw[Vr];exact hk,xii]
 congr 2
 simp[Vr]
def OI.congr{key fx fy:Zu}(h:OI w g o key fx n Z wr)(e:∀i,i<n->fx i=fy i):OI w g o key fy n Z wr:=by
 have:=h.ob;rw[Uo e]at this;exact⟨h.dI,h.MU,h.GA,h.ne,h.rc,this⟩
def xql(x:Zl)(W:Zy):∃(cap:Nat) (Z:Ze) (w1:Zy),x.length<=cap/\(convert 9 163<|zs x).run prog W= .ok (.slice (bO ⟨W.heap.size,0,bN⟩) x.length cap) w1/\bC W.heap.size W w1/\w1.heap[W.heap.size]?=bO (.cells (kb (fun i=>x.getD i 0) x.length++Z).toArray 5 ((kb (fun i=>x.getD i 0) x.length++Z).length,(kb (fun i=>x.getD i 0) x.length++Z).length+1)):=by
 have a:=run_bytes_of_string (P:=prog) W 9 163 5 (st x) underlying9 underlying163 underlying5;obtain⟨cap,b⟩:∃cap,grownCap W (st x).size 0 5=cap:=⟨_,rfl⟩;have c:x.length<=cap:=by rw[<-b];exact grownCap_ge W _ _ _
 rw[b,xe]at a;obtain⟨Z,d⟩:∃Z:Ze,bytesRow (st x) cap=(bv x++Z).toArray:=⟨List.replicate (cap-x.length)<|zb 0,by
  unfold bytesRow;rw[xe];apply Array.toList_inj.1;simp[bv,st]⟩
 rw[d]at a;rw[NJ]at a;exact⟨cap,Z,_,c,a,((zr _ _).drew).alloc (ze _) _,jw W.drew _⟩
def xT(k c x:Zl)(hk:k.length=16)(X:c.length=8)(hx:x.length<=5000)(w:Zy):bE prog 252 #[zs k,zs c,zs x] w fun en w'=>en= .returned (zs<|iK k c x)/\bC w.heap.size w w':=by
 go_enter func252.1,Tryz.ntmps252
 go_wp2_with fail
 refine(zre k hk _).mono ?_;rintro en w1 ⟨g,rfl,hg,C,y⟩;obtain⟨I,Z,w2,ba,B,z,R⟩:=xql x w1;have M:g<w1.heap.size:=qz (C.cell (k:=0)<|by decide);generalize hkey:(fun i=>k.getD i 0)=key at*;have s:OI w g w1.heap.size key (sF key c x 0) x.length Z w2:=⟨y.trans<|z.mono y.size,hg,y.size,by omega,C.below z M,by rw[R];rfl⟩;have V:Hid<|(fun i=>k.getD i 0)=key:=hkey;clear hkey R z C M hg y;obtain⟨o,ho⟩:∃o,w1.heap.size=o:=⟨_,rfl⟩;rw[ho]at s B
 go_wp2_with fail
 clear B ho
 go_loopw [9] (fun i wr=>∃p:Nat,p<x.length+16/\p%16=0/\i=zi p/\OI w g o key (sF key c x p) x.length Z wr) (fun i _=>(x.length+16-aJ i).toNat)
 case atStart=>exact⟨0,by omega,by omega,rfl,s⟩
 case round=>
  clear s;obtain⟨p,hp,bd,rfl,inv⟩:=hrel;by_cases bc:p<x.length
  ·have i1:(p:Int)<(x.length:Nat):=by omega
   obtain⟨m,hm⟩:∃m,p/16=m:=⟨_,rfl⟩;have e1:(p:Int).tdiv 16=(m:Nat):=by rw[Int.tdiv_eq_ediv_of_nonneg<|by omega];omega
   have E:IntKind.u64.wrap (m:Int)=(m:Int):=by simp[IntKind.wrap,IntKind.bits,IntKind.signed];omega
   have m1:m<=100000:=by omega
   have D:Hid<|OI w g o key (sF key c x p) x.length Z wr:=inv;have hd:decide ((p:Int)<((x.length:Nat):Int))=bL:=decide_eq_true i1;have HP:Hid<|∀j,j<16->wD key c (p+j)=jI key (gH c m) j:=fun j O=>by
    unfold wD;rw[show(p+j)/16=m by omega,show(p+j)%16=j by omega]
   clear inv
   go_wp2_with fail
   refine(zwo c X m m1 _ rfl _).mono ?_;rintro en w3 ⟨rfl,J⟩;have t:=D.o.then J
   go_wp2_with fail
   refine(zws key (gH c m) g _ t.rc).mono ?_;rintro en F ⟨rfl,L⟩;have v:=t.then L;have r:=v.then<|(zr _ _).alloc (ze _)<|.cells (kb (jI key<|gH c m) 16).toArray 359;have n:Wz (F.alloc<|.cells (kb (jI key<|gH c m) 16).toArray 359) F.heap.size (jI key<|gH c m) 16 359:=jw _ _;have q1:o<F.heap.size:=v.Ak;have U:=yV<|jI key<|gH c m;have h1:=yT (jI key<|gH c m) 16;have T:(#[zb 0,zb 0,zb 0,zb 0,zb 0,zb 0,zb 0,zb 0,zb 0,zb 0,zb 0,zb 0,zb 0,zb 0,zb 0,zb 0]:Za).size=(kb (jI key<|gH c m) 16).toArray.size:=by rw[wV];rfl
   clear t v D J L;generalize hKK:(kb (jI key<|gH c m) 16).toArray=K at*
   go_upto_region 7 with(refine Jj rfl 359 _ _ rfl F.heap.size _ rfl rfl 359 _ (jw _ _) U T h1 ?_;rw[World.setRow_alloc_new])
   clear U h1 T hKK;generalize hw5:F.alloc (.cells K 359)=w5 at*;clear hw5;obtain⟨q,hq⟩:∃q,F.heap.size=q:=⟨_,rfl⟩;rw[hq]at n q1⊢;clear hq;have e3:IntKind.i64.wrap ((p:Int)+16)=(p:Int)+16:=by rw[xn]<;>omega
   by_cases bb:p+16<=x.length
   ·have j1:(p:Int)+16<=(x.length:Nat):=by omega
    have j2:((p:Int)+16).toNat=p+16:=by omega
    go_wp2_with fail
    have f:OI w g o key (sF key c x<|p+0) x.length Z w5:=r;clear r
    go_loopw [40] (fun i wq=>∃j:Nat,j<=16/\i=zi j/\OI w g o key (sF key c x<|p+j) x.length Z wq/\Wz wq q (jI key<|gH c m) 16 359) (fun i _=>((16:Int)-aJ i).toNat)
    case atStart=>exact⟨0,by omega,rfl,f,n⟩
    case round=>
     clear f n;obtain⟨j,O,rfl,inv,d⟩:=hrel;by_cases W:j<16
     ·have Y:(j:Int)<((16:Nat):Int):=by omega
      have t2:(j:Int)<16:=by omega
      have c1:wr.cell? (zq o<|p+j)=bO (zc<|x.getD (p+j) 0):=by rw[inv.cell (p+j)<|by omega];unfold sF;rw[aB<|by omega]
      have f1:wr.frozen? (zq o<|p+j)=bK:=inv.frozen (p+j) (by omega);have c2:wr.cell? (zq q j)=bO (zc<|jI key (gH c m) j):=d.cell (by omega);have G:Hid<|OI w g o key (sF key c x<|p+(j+1)) x.length Z<|wr.drew.setCell (zq o<|p+j)<|zc<|x.getD (p+j) 0^^^jI key (gH c m) j:=by
       refine(inv.drew.set (p+j) (by omega) _).congr fun i _=>?_;unfold sF;by_cases e:i=p+j;subst e;rw[aA rfl,aA<|by omega,HP.o j<|by omega];rw[aB e];by_cases E:i<p+j;rw[aA E,aA<|by omega];rw[aB E,aB<|by omega]
      have H:Hid<|Wz (wr.drew.setCell (zq o<|p+j)<|zc<|x.getD (p+j) 0^^^jI key (gH c m) j) q (jI key<|gH c m) 16 359:=Wz.other (w:=wr.drew) d (by omega);clear inv d;generalize x.getD (p+j) 0=a at*;generalize jI key (gH c m) j=b at*
      go_wp2
      go_still_tail 9,(by kernel_rfl)
      go_wp2
      go_roundw
      case rel=>first|exact⟨j+1,by omega,by go_num,G.o,H.o⟩|((repeat apply Exists.intro);exact⟨⟨j+1,by omega,by go_num,G.o,H.o⟩,rfl⟩)
      case measure=>simp[aJ];omega
     have Q:j=16:=by omega
     have Y:¬(j:Int)<((16:Nat):Int):=by omega
     rw[Q]at inv;have D:Hid<|OI w g o key (sF key c x<|p+16) x.length Z wr:=inv;clear inv d
     go_wp2
     go_roundw
     case rel=>exact⟨p+16,by omega,by omega,by go_num,D.o⟩
     case measure=>simp[aJ];omega
   have j1:¬(p:Int)+16<=(x.length:Nat):=by omega
   have j3:(x.length:Int)<=(p:Int)+16:=by omega
   have j4:(x.length:Int)<(p:Int)+16:=by omega
   go_wp2_with fail
   obtain⟨l,S⟩:∃l,x.length-p=l:=⟨_,rfl⟩;have be:l<=16:=by omega
   have bf:p+l=x.length:=by omega
   rw[S];clear S j1 j3 j4;have f:OI w g o key (sF key c x<|p+0) x.length Z w5:=r;clear r
   go_loopw [40] (fun i wq=>∃j:Nat,j<=l/\i=zi j/\OI w g o key (sF key c x<|p+j) x.length Z wq/\Wz wq q (jI key<|gH c m) 16 359) (fun i _=>((l:Int)-aJ i).toNat)
   case atStart=>exact⟨0,by omega,rfl,f,n⟩
   case round=>
    clear f n;obtain⟨j,O,rfl,inv,d⟩:=hrel;by_cases W:j<l
    ·have Y:(j:Int)<((l:Nat):Int):=by omega
     have t2:(j:Int)<16:=by omega
     have c1:wr.cell? (zq o<|p+j)=bO (zc<|x.getD (p+j) 0):=by rw[inv.cell (p+j)<|by omega];unfold sF;rw[aB<|by omega]
     have f1:wr.frozen? (zq o<|p+j)=bK:=inv.frozen (p+j) (by omega);have c2:wr.cell? (zq q j)=bO (zc<|jI key (gH c m) j):=d.cell (by omega);have G:Hid<|OI w g o key (sF key c x<|p+(j+1)) x.length Z<|wr.drew.setCell (zq o<|p+j)<|zc<|x.getD (p+j) 0^^^jI key (gH c m) j:=by
      refine(inv.drew.set (p+j) (by omega) _).congr fun i _=>?_;unfold sF;by_cases e:i=p+j;subst e;rw[aA rfl,aA<|by omega,HP.o j<|by omega];rw[aB e];by_cases E:i<p+j;rw[aA E,aA<|by omega];rw[aB E,aB<|by omega]
     have H:Hid<|Wz (wr.drew.setCell (zq o<|p+j)<|zc<|x.getD (p+j) 0^^^jI key (gH c m) j) q (jI key<|gH c m) 16 359:=Wz.other (w:=wr.drew) d (by omega);clear inv d;generalize x.getD (p+j) 0=a at*;generalize jI key (gH c m) j=b at*
     go_wp2
     go_still_tail 9,(by kernel_rfl)
     go_wp2
     go_roundw
     case rel=>first|exact⟨j+1,by omega,by go_num,G.o,H.o⟩|((repeat apply Exists.intro);exact⟨⟨j+1,by omega,by go_num,G.o,H.o⟩,rfl⟩)
     case measure=>simp[aJ];omega
    have Q:j=l:=by omega
    have Y:¬(j:Int)<((l:Nat):Int):=by omega
    have inv:=inv.congr (fy:=sF key c x<|p+16) (fun i U=>by
     unfold sF;rw[aA<|by omega,aA<|by omega])
    have D:Hid<|OI w g o key (sF key c x<|p+16) x.length Z wr:=inv;clear inv d
    go_wp2
    go_roundw
    case rel=>exact⟨p+16,by omega,by omega,by go_num,D.o⟩
    case measure=>simp[aJ];omega
  have i1:¬(p:Int)<(x.length:Nat):=by omega
  have inv:=inv.congr (fy:=fun i=>x.getD i 0^^^wD key c i) (fun i U=>by unfold sF;rw[aA<|by omega]);have B:(convert 163 9<|.slice (bO ⟨o,0,bN⟩) x.length I).run prog wr= .ok (zs<|iK k c x) wr:=by
   have e:iK k c x=kl (fun i=>x.getD i 0^^^wD key c i) x.length:=by show kl (fun i=>x.getD i 0^^^wD (fun j=>k.getD j 0) c i) x.length=_;rw[V.o]
   rw[e];have h:=run_convert_bytes_back (P:=prog) wr 163 9 5 (zq o 0) I (kl (fun i=>x.getD i 0^^^wD key c i) x.length) underlying163 underlying5 underlying9 (fun j O=>by
    rw[Addr.add_mid,jy];rw[UC]at O;rw[inv.cell j O];simp[kl,e8])
   rw[UC]at h;exact h
  have hb:=inv.dI;clear inv
  go_wp2_with fail
  go_ret
  exact⟨rfl,hb⟩
def BW(k a x:Zl)(hk:k.length=16)(b:a.length=8)(hx:x.length<=4096)(w:Zy):bE prog 206 #[zs k,zs a,zs x] w fun en w'=>en= .returned (.tuple #[zs<|iK k a x,zi 0])/\bC w.heap.size w w':=by
 have d:¬(4096:Int)<(x.length:Nat):=by omega
 go_enter func206.1,Tryz.ntmps206
 go_wp2_with fail
 refine(xT k a x hk b (by omega) _).mono ?_;rintro en w1 ⟨rfl,c⟩
 go_wp2_with fail
 go_ret2
 exact⟨rfl,c⟩
def zv0(k a x:Zl)(hk:k.length=16)(b:a.length=8)(hx:4096<x.length)(w:Zy):bE prog 206 #[zs k,zs a,zs x] w fun en w'=>en= .returned (.tuple #[.string<|st [],zi 1])/\w'=w:=by
 have c:(4096:Int)<(x.length:Nat):=by omega
 go_enter func206.1,Tryz.ntmps206
 go_wp2_with fail
 go_ret2
 exact⟨rfl,rfl⟩
end
end P
namespace P
open A.Tryq Go.RowKit
attribute [local go_sem] xe zv
section
variable {tv:Zv} {w:Zy} {l:Zl} {b:Nat}
def Wh.of_below{w w':Zy}(h:Wh tv w)(b:bC w.heap.size w w'):Wh tv w':=by
 obtain⟨t,x,rfl,a⟩:=h;exact⟨t,x,rfl,(b.cell (p:=zq 1 0)<|qz a).trans a⟩
def Wh.alloc(h:Wh tv w)(o:Obj):Wh tv<|w.alloc o:=h.of_below<|(zr _ _).alloc (ze _) _
def Wh.but{S:ZP}{w w':Zy}(h:Wh tv w)(b:xb S w w')(a:¬S 1):Wh tv w':=by
 obtain⟨t,x,rfl,c⟩:=h;exact⟨t,x,rfl,b.cell a c⟩
def KQ(s:ByteArray)(w:Zy):bE prog 116 #[.string s,zi 0] w fun e w'=>e= .returned (.string s)/\w'=w:=by
 go_enter func116.1,Tryz.ntmps116
 go_wp2_with fail
 refine(Yb _ (by simp) _).mono ?_;rintro e w1 ⟨rfl,rfl⟩
 go_wp2_with fail
 go_ret
 exact⟨rfl,rfl⟩
def Uw(s:ByteArray)(n:Int)(b:n≠0)(w:Zy)(a:Wh tv w):bE prog 116 #[.string s,zi n] w fun e w'=>e=eF tv/\w'=w:=by
 go_enter func116.1,Tryz.ntmps116
 go_wp2_with fail
 refine(Xu _ (by simp[b]) _ a).mono ?_;rintro e w1 ⟨rfl,rfl⟩;exact⟨rfl,rfl,rfl⟩
def SI:Zl:=[99,105,112,104,101,114]
def PG:Zl:=[116,97,103]
def Xz(m:Zl)(ep:Nat):Zl:=vZ (V1 [] m) (SI++nb ep 1) 16
def Jm(m:Zl)(ep:Nat):Zl:=vZ (V1 [] m) (PG++nb ep 1) 32
def Qz(l:Zl):(⟨#[99,105,112,104,101,114]⟩:ByteArray)++st l=st (SI++l):=zv SI l
def Ev(l:Zl):(⟨#[116,97,103]⟩:ByteArray)++st l=st (PG++l):=zv PG l
def xxk(h:l.length=1):((⟨#[99,105,112,104,101,114]⟩:ByteArray)++st l).size<=4063:=by rw[Qz,xe];simp[SI,h]
def xxl(h:l.length=1):((⟨#[116,97,103]⟩:ByteArray)++st l).size<=4063:=by rw[Ev,xe];simp[PG,h]
def E4{w1:Zy}{a b p:Addr}{x y:Zv}(c:p.block≠a.block)(d:p.block≠b.block):((w1.setCell a x).setCell b y).cell? p=w1.cell? p:=by
 rw[World.cell?_setCell_other _ _ _ _ fun e=>d<|by rw[e],World.cell?_setCell_other _ _ _ _ fun e=>c<|by rw[e]]
def dv(m:Zl)(x:ByteArray)(n:Int):Zl:=vZ (V1 [] m) x.data.toList n.toNat
def CI(m:Zl)(d:m.length=32)(x:ByteArray)(n:Int)(w1:Zy)(h:dF w1)(a:x.size<=4063)(b:0<=n)(c:n<=255):bE prog 161 #[.string<|st m,.string ⟨#[]⟩,.string x,.int .i64 n] w1 fun en w'=>en= .returned (.tuple #[.string<|st<|dv m x n,.int .i64 0])/\bC w1.heap.size w1 w':=by
 have:=CD m [] x.data.toList (by omega) (by simp) (by simpa using a) n.toNat (by omega) w1 h;rw[xvp,show((n.toNat:Nat):Int)=n by omega]at this;exact this
def CN(m:Zl)(ep:Nat):dv m (⟨#[99,105,112,104,101,114]⟩++st (nb ep 1)) 16=Xz m ep:=by
 unfold dv Xz;rw[Qz];rfl
def xqz(m:Zl)(ep:Nat):dv m (⟨#[116,97,103]⟩++st (nb ep 1)) 32=Jm m ep:=by
 unfold dv Jm;rw[Ev];rfl
def EO(m q:Zl)(c o:Int)(ep:Nat)(L:m.length=32)(w:Zy)(C:dF w):bE prog 103 #[.agg #[zs m,zi c,zs q,zi o],zi ep] w fun e w'=>e= .returned (.agg #[zs<|Xz m ep,zs<|Jm m ep])/\bC w.heap.size w w':=by
 have r:=zl C;clear C;have i:=qt ep 1;have F:Hid<|∀(x:ByteArray) (n:Int) (w1:Zy),dF w1->x.size<=4063->0<=n->n<=255->bE prog 161 #[zs m,.string ⟨#[]⟩,.string x,zi n] w1 fun H w'=>H= .returned (.tuple #[zs<|dv m x n,zi 0])/\bC w1.heap.size w1 w':=fun x n w1 h I J K=>CI m L x n w1 h I J K;go_enter func103.1,Tryz.ntmps103
 go_wp2_with fail
 obtain⟨W,f⟩:∃W,(w.alloc<|.cells #[zs m,zi c,zs q,zi o] 78).alloc (.cells #[.string ⟨#[]⟩,.string ⟨#[]⟩] 120)=W:=⟨_,rfl⟩;have k:W.cell? (zq w.heap.size 0)=bO (zs m):=by rw[<-f];simp[go_sem]
 have z:W.heap[w.heap.size+1]?=bO (.cells #[.string ⟨#[]⟩,.string ⟨#[]⟩] 120):=by rw[<-f];have:=jw (w.alloc<|.cells #[zs m,zi c,zs q,zi o] 78)<|.cells #[.string ⟨#[]⟩,.string ⟨#[]⟩] 120;rwa[xh]at this
 have d:bC w.heap.size w W:=by rw[<-f];exact((zr _ _).alloc (ze _) _).alloc (by simp) _
 have l:W.heap.size=w.heap.size+2:=by rw[<-f];simp
 rw[f];clear f;have a:Hid<|bC W.heap.size W W.drew:=(zr _ _).drew;have y:=zl<|r.o.below r.o.pos d;have s:=zl d;have B:∀w1,bC W.heap.size W w1->w1.cell? (zq w.heap.size 0)=bO (zs m):=fun w1 h=>(h.cell (p:=zq w.heap.size 0)<|by show w.heap.size<_;omega).trans k;have g:=zl B;have t:Hid<|∀w1,bC W.heap.size W w1->w1.cell? (zq (w.heap.size+1) 0)=bO (.string ⟨#[]⟩)/\w1.frozen? (zq (w.heap.size+1) 0)=bK/\w1.cell? (zq (w.heap.size+1) 1)=bO (.string ⟨#[]⟩)/\w1.frozen? (zq (w.heap.size+1) 1)=bK:=fun w1 h=>by
  have b:=(h.block _<|by omega).trans z;exact⟨by simp[World.cell?,b],by simp[World.frozen?,b],by simp[World.cell?,b],by simp[World.frozen?,b]⟩
 have G:=k;clear d z l k B
 go_region_held3 (fun w'=>w'.cell? (zq w.heap.size 0)=bO (zs m)) (first|exact G|exact j|exact(E4 (by show w.heap.size≠w.heap.size+1;omega)<|by show w.heap.size≠w.heap.size+1;omega).trans j)
  (first
   |(go_at_call 153;refine(NG _ ep rfl _).mono ?_;rintro e w1 ⟨rfl,b⟩;replace a:=zl<|Yg a.o b;have j:=g.o _ a.o;obtain⟨D,M,E,O⟩:=t.o _ a.o)
   |(go_at_call 161;refine(F.o _ _ _ (y.o.below y.o.pos a.o) (by first|exact xxk i|exact xxl i) (by decide)<|by decide).mono ?_;rintro e w1 ⟨rfl,b⟩;replace a:=zl<|Yg a.o b;have j:=g.o _ a.o;obtain⟨D,M,E,O⟩:=t.o _ a.o)
   |(go_at_call 116;refine(KQ _ _).mono ?_;rintro e w1 ⟨rfl,rfl⟩))
 simp only[CN,xqz]
 go_wp2_with fail
 refine jz (v:= .agg #[zs<|Xz m ep,zs<|Jm m ep]) (by simp[results,Tryz.results103,go_sem,D,E]) rfl ⟨rfl, ?_⟩;exact((s.o.trans<|a.o.mono s.o.size).setCell (by show w.heap.size<=w.heap.size+1;omega) _).setCell (by show w.heap.size<=w.heap.size+1;omega) _
def ZI(c t a x:Zl)(hk:c.length=16)(b:a.length=8)(hx:x.length<=4096)(w:Zy):bE prog 156 #[.agg #[zs c,zs t],zs a,zs x] w fun e w'=>e= .returned (zs<|iK c a x)/\bC w.heap.size w w':=by
 have d:Hid<|∀w1:Zy,bE prog 206 #[zs c,zs a,zs x] w1 fun f w'=>f= .returned (.tuple #[zs<|iK c a x,zi 0])/\bC w1.heap.size w1 w':=fun w1=>BW c a x hk b hx w1;go_enter func156.1,Tryz.ntmps156
 go_wp2_with fail
 refine(d.o _).mono ?_;rintro e w1 ⟨rfl,g⟩
 go_wp2_with fail
 refine(KQ _ _).mono ?_;rintro e h ⟨rfl,rfl⟩
 go_wp2_with fail
 go_ret
 exact⟨rfl,Yg ((zr _ _).alloc (ze _) _) g⟩
def zuk(c t a x:Zl)(hk:c.length=16)(b:a.length=8)(hx:4096<x.length)(w:Zy)(d:Wh tv w):bE prog 156 #[.agg #[zs c,zs t],zs a,zs x] w fun e w'=>e=eF tv/\bC w.heap.size w w':=by
 have g:Hid<|∀w1:Zy,bE prog 206 #[zs c,zs a,zs x] w1 fun h w'=>h= .returned (.tuple #[.string<|st [],zi 1])/\w'=w1:=fun w1=>zv0 c a x hk b hx w1;have f:=zl d;clear d;go_enter func156.1,Tryz.ntmps156
 go_wp2_with fail
 refine(g.o _).mono ?_;rintro e w1 ⟨rfl,rfl⟩
 go_wp2_with fail
 refine(Uw _ 1 (by decide) _<|f.o.alloc _).mono ?_;rintro e i ⟨rfl,rfl⟩;exact⟨rfl,rfl,(zr _ _).alloc (ze _) _⟩
def TC(c t x:Zl)(i:t.length<=4096)(hx:x.length<=4096)(w:Zy)(b:dF w):bE prog 157 #[.agg #[zs c,zs t],zs x] w fun e w'=>e= .returned (zs<|V1 t x)/\bC w.heap.size w w':=by
 have a:=zl b;have d:Hid<|∀w1:Zy,dF w1->bE prog 207 #[zs t,zs x] w1 fun f w'=>f= .returned (.tuple #[zs<|V1 t x,zi 0])/\bC w1.heap.size w1 w':=fun w1 h=>xpv t x i hx w1 h;clear b;go_enter func157.1,Tryz.ntmps157
 go_wp2_with fail
 refine(d.o _<|a.o.below a.o.pos<|(zr _ _).alloc (ze _) _).mono ?_;rintro e w1 ⟨rfl,g⟩
 go_wp2_with fail
 refine(KQ _ _).mono ?_;rintro e j ⟨rfl,rfl⟩
 go_wp2_with fail
 go_ret
 exact⟨rfl,Yg ((zr _ _).alloc (ze _) _) g⟩
def OF(c t x:Zl)(g:t.length<=4096)(hx:4096<x.length)(w:Zy)(a:Wh tv w):bE prog 157 #[.agg #[zs c,zs t],zs x] w fun e w'=>e=eF tv/\bC w.heap.size w w':=by
 have d:Hid<|∀w1:Zy,bE prog 207 #[zs t,zs x] w1 fun f w'=>f= .returned (.tuple #[.string<|st [],zi 1])/\w'=w1:=fun w1=>AS t x g hx w1;have b:=zl a;clear a;go_enter func157.1,Tryz.ntmps157
 go_wp2_with fail
 refine(d.o _).mono ?_;rintro e w1 ⟨rfl,rfl⟩
 go_wp2_with fail
 refine(Uw _ 1 (by decide) _<|b.o.alloc _).mono ?_;rintro e h ⟨rfl,rfl⟩;exact⟨rfl,rfl,(zr _ _).alloc (ze _) _⟩
def Lf(n c:Nat)(w:Zy):bE prog 152 #[.int .i64 n,.int .i64 c] w fun e w'=>e= .returned (.string<|st (83::(nb n 4++nb c 4)))/\bC w.heap.size w w':=by
 have l1:=qt n 4;have f:=qt c 4;have d:Hid<|(⟨#[83]⟩:ByteArray)++st (nb n 4)++st (nb c 4)=st (83::(nb n 4++nb c 4)):=by
  show _=_;rw[show(⟨#[83]⟩:ByteArray)=st [83]from rfl,zv,zv];simp
 go_enter func152.1,Tryz.ntmps152
 go_wp2_with fail
 refine(XK _ n rfl _).mono ?_;rintro e w1 ⟨rfl,a⟩
 go_wp2_with fail
 refine(XK _ c rfl _).mono ?_;rintro e g ⟨rfl,b⟩
 go_wp2_with fail
 go_ret
 exact⟨by rw[<-d.o];rfl,Yg a b⟩
def xx(w:Zy)(r:Nat)(cs:Za)(t:Zt):Prop:=w.heap[r]?=bO (.cells cs t (0,0))
section
variable {w w':World} {r r':Nat} {cs:Array Value} {t:TypeId} {S:Nat->Prop}
def xx.lt(h:xx w r cs t):r<w.heap.size:=(za.1 h).1
def xx.cell(h:xx w r cs t)(i:Nat){v:Zv}(a:cs[i]?=bO v):w.cell? (zq r i)=bO v:=by
 unfold xx at h;simp only[World.cell?,h];exact a
def xx.bT(h:xx w r cs t)(i:Nat):w.frozen? (zq r i)=bK:=by
 unfold xx at h;simp[World.frozen?,h]
def xx.set(h:xx w r cs t)(i:Nat)(v:Zv):xx (w.setCell (zq r i) v) r (cs.setIfInBounds i v) t:=by
 unfold xx at h⊢;rw[setCell_eq_setRow _ _ _ _ _ _ _ h,Yv _ _ _ _ _ _ h]
def xx.other(h:xx w r cs t){p:Addr}(a:r≠p.block)(v:Zv):xx (w.setCell p v) r cs t:=by
 unfold xx at h⊢;rw[V8 _ _ _ _ a];exact h
def xx.but(h:xx w r cs t)(a:xb S w w')(b:¬S r):xx w' r cs t:=(a.block r h.lt b).trans h
def xx.below(h:xx w r cs t)(a:bC w.heap.size w w'):xx w' r cs t:=(a.block r h.lt).trans h
def xx.alloc(h:xx w r cs t)(o:Obj):xx (w.alloc o) r cs t:=h.below<|(zr _ _).alloc (ze _) _
def xx.new(w:Zy)(cs:Za)(t:Zt):xx (w.alloc<|.cells cs t) w.heap.size cs t:=jw w _
def xb.set(w:Zy)(p:Addr)(v:Zv):xb (·=p.block) w<|w.setCell p v:=⟨rfl,rfl,by simp,fun k _ hk=>V8 _ _ _ _ hk⟩
def xb.alloc(o:Obj):xb S w<|w.alloc o:= .of_below ((zr _ _).alloc (ze _) _)
abbrev Nw(w w':Zy):Prop:=xb (fun _=>False) w w'
def xb.fresh{w0:Zy}(h:xb S w0 w)(c:w0.heap.size<=r)(k:xb (·=r) w w'):xb S w0 w':=
 ⟨k.os.trans h.os,k.output.trans h.output,xz h.size k.size,fun i a b=>(k.block i (zn a h.size)<|by omega).trans<|h.block i a b⟩
end
def rJ{t:Zt}(h:xx w b #[.string<|st l] t)(m:Int)(n:Nat)(d:m=(n:Int))(f:n<=l.length):bE prog 165 #[.pointer<|bO ⟨b,0,bN⟩,.int .i64 m] w fun e w'=>e= .returned (.string<|st<|l.take n)/\xb (·=b) w w'/\xx w' b #[.string<|st<|l.drop n] t:=
 (Gb b l m n d f w (h.cell 0 rfl)<|h.bT 0).mono fun e w' ⟨c,a⟩=>⟨c,by subst a;exact xb.set w ⟨b,0,bN⟩ _,by subst a;have:=h.set 0<|.string<|st<|l.drop n;simpa using this⟩
def VM{t:Zt}(h:xx w b #[.string<|st l] t)(a:Wh tv w)(m:Int)(n:Nat)(c:m=(n:Int))(d:l.length<n):bE prog 165 #[.pointer<|bO ⟨b,0,bN⟩,.int .i64 m] w fun e w'=>e=eF tv/\w'=w:=Ga b l m n c d w (h.cell 0 rfl) a
def V3{t:Zt}(h:xx w b #[.string<|st l] t)(m:Int)(n:Nat)(g:m=(n:Int))(f:n<=6)(i:n<=l.length):bE prog 166 #[.pointer<|bO ⟨b,0,bN⟩,.int .i64 m] w fun e w'=>e= .returned (.int .i64 (Zk (l.take n):Nat))/\xb (·=b) w w'/\xx w' b #[.string<|st<|l.drop n] t:=by
 subst g;refine(QP b l n f i w (h.cell 0 rfl)<|h.bT 0).mono fun e w' ⟨c,d⟩=>?_;have a:bC (w.setCell ⟨b,0,bN⟩<|.string<|st<|l.drop n).heap.size (w.setCell ⟨b,0,bN⟩<|.string<|st<|l.drop n) w':=by
  rw[show(w.setCell ⟨b,0,bN⟩<|.string<|st<|l.drop n).heap.size=w.heap.size by simp];exact d
 refine⟨c, ?_, ?_⟩;exact(xb.set w ⟨b,0,bN⟩<|.string<|st<|l.drop n).trans (.of_below (S:=(·=b)) a);have:=(h.set 0<|.string<|st<|l.drop n).below a;simpa using this
def E8{t:Zt}(h:xx w b #[.string<|st l] t)(a:Wh tv w)(m:Int)(n:Nat)(c:m=(n:Int))(d:l.length<n):bE prog 166 #[.pointer<|bO ⟨b,0,bN⟩,.int .i64 m] w fun e w'=>e=eF tv/\w'=w:=by subst c;exact sY b l n d w (h.cell 0 rfl) a
def eT(l:Zl):Nat:=Zk<|(l.drop 8).take 2
def xok(l:Zl)(a b:Nat):(st l).extract a b=st ((l.take b).drop a):=by
 apply IP;simp only[st,ByteArray.data_extract,List.extract_toArray,XQ];rw[List.drop_take]
def Nf(l:Zl)(f:10<=l.length)(w:Zy):bE prog 260 #[zs l] w fun e w'=>e= .returned (zi (eT l:Nat))/\Nw w w':=by
 have a:Hid<|(st l).extract 8 10=st ((l.drop 8).take 2):=by show _=_;rw[xok,List.drop_take]
 have b:Hid<|((l.drop 8).take 2).take 2=(l.drop 8).take 2:=qj (by simp;omega);have c:2<=((l.drop 8).take 2).length:=by simp;omega
 go_enter func260.1,Tryz.ntmps260
 go_wp2_with fail
 rw[a.o];refine(V3 (xx.new w #[zs<|(l.drop 8).take 2] 234) 2 2 rfl (by decide) c).mono ?_;rintro e w1 ⟨rfl,d,hk⟩
 go_wp2_with fail
 go_ret
 exact⟨by rw[b.o];rfl,xb.fresh (xb.alloc _) (ze _) d⟩
def IT(x:ByteArray)(l:Zl)(hx:x=st l)(a:10<=l.length)(w:Zy):bE prog 260 #[.string x] w fun e w'=>e= .returned (zi (eT l:Nat))/\Nw w w':=by subst hx;exact Nf l a w
def xqk(l:Zl):eT l<65536:=by
 unfold eT;have:=LF<|(l.drop 8).take 2;have a:((l.drop 8).take 2).length<=2:=by rw[xt];omega
 have:256^((l.drop 8).take 2).length<=256^2:=PM (by decide) a;omega
def X7(l:Zl):Bool:=decide (10<=l.length/\42+eT l<=l.length)
def zug(l:Zl)(w:Zy):bE prog 231 #[zs l] w fun e w'=>e= .returned (.bool<|X7 l)/\Nw w w':=by
 have i:=xqk l;by_cases a:10<=l.length
 ·have d:(10:Int)<=(l.length:Nat):=by omega
  have f:IntKind.i64.wrap (10+(eT l:Int))=10+(eT l:Int):=by rw[xn];omega
  have g:IntKind.i64.wrap (10+(eT l:Int)+32)=10+(eT l:Int)+32:=by rw[xn];omega
  have b:Hid<|X7 l=decide ((10+(eT l:Int)+32)<=(l.length:Nat)):=by
   show _=_;unfold X7;exact decide_eq_decide.2 ⟨fun h=>by omega,fun h=>⟨a,by omega⟩⟩
  go_enter func231.1,Tryz.ntmps231
  go_wp2_with fail
  refine(Nf l a _).mono ?_;rintro e w1 ⟨rfl,c⟩
  go_wp2_with fail
  go_ret
  exact⟨by rw[b.o];rfl,c⟩
 have d:(l.length:Int)<10:=by omega
 have b:Hid<|X7 l=bK:=by show _=_;unfold X7;simp;omega
 go_enter func231.1,Tryz.ntmps231
 go_wp2_with fail
 go_ret
 exact⟨by rw[b.o];rfl,xb.refl _ _⟩
end
end P
namespace P
open Go.RowKit
section
variable {R:Ending→Zy→Prop}
section
variable {w x v:World} {r b i:Nat} {cs:Array Value} {t:TypeId} {S:Nat->Prop} {o:Obj} {u:Value}
def kN{P:Zp}{f:FuncId}{a:Za}{W:Zy}(h:∀v,W=v->bE P f a v R):bE P f a W R:=h _ rfl
def Gv{P:Zp}{f:Func}{W:Zy}{e:Exit}{a:Act}(h:∀v,W=v->bodyPost P f R e a v):bodyPost P f R e a W:=h _ rfl
def xx.al(h:xx x r cs t)(e:x.alloc o=v):xx v r cs t:=e▸h.alloc o
def xx.nu(e:x.alloc (.cells cs t)=v):xx v x.heap.size cs t:=e▸xx.new x cs t
def xx.st(h:xx x r cs t)(e:x.setCell (zq r i) u=v):xx v r (cs.setIfInBounds i u) t:=e▸h.set i u
def xx.ot(h:xx x r cs t)(e:x.setCell (zq b i) u=v)(n:r≠b):xx v r cs t:=e▸h.other (p:=zq b i) n u
def xb.al(h:xb S w x)(e:x.alloc o=v):xb S w v:=e▸h.trans (xb.alloc o)
def xb.st(h:xb S w x)(e:x.setCell (zq b i) u=v)(n:w.heap.size<=b):xb S w v:=h.fresh n<|e▸xb.set x (zq b i) u
def xoe(x:Zy)(p:Addr)(u:Zv):(x.setCell p u).heap.size=x.heap.size:=by simp
def xoc(e:x.alloc o=v):v.heap.size=x.heap.size+1:=e▸xh x o
end
end
end P
namespace P
open A.Tryq Go.RowKit
attribute [local go_sem] xe zv
section
variable {t:Zt} {b:Nat} {tv:Zv} {w:Zy} {l:Zl}
def OQ(l:Zl):Zv:= .agg #[.string<|st<|l.take 1,.int .i64 (Zk ((l.drop 1).take 1):Nat),.int .i64 (Zk ((l.drop 4).take 4):Nat),.string<|st<|l.take 10,.string<|st<|(l.drop 10).take<|eT l,.string<|st<|(l.drop<|10+eT l).take 32]
def D3(l:Zl):eT (l.take 10)=eT l:=by
 unfold eT;rw[List.drop_take,List.take_take];rfl
structure RS(w v:Zy)(b:Nat)(l:Zl)(c:Za):Prop where
 B:xx v b #[zs l] 234
 X:xx v w.heap.size #[.string ⟨#[]⟩,zi 0,zi 0,.string ⟨#[]⟩,.string ⟨#[]⟩,.string ⟨#[]⟩] 305
 R:xx v (w.heap.size+1) c 305
 A:xb (·=b) w v
section
variable {w v v':World} {b h i:Nat} {l l':List UInt8} {c:Array Value} {u:Value} {o:Obj} {S:Nat->Prop}
def RS.cut(s:RS w v b l c)(lb:b<w.heap.size)(k:xb (·=b) v v')(a:xx v' b #[zs l'] 234):RS w v' b l' c:=⟨a,s.X.but k<|by omega,s.R.but k<|by omega,s.A.trans k⟩
def RS.nw(s:RS w v b l c)(k:Nw v v'):RS w v' b l c:=⟨s.B.but k id,s.X.but k id,s.R.but k id,s.A.trans<|k.mono fun _ h=>h.elim⟩
def RS.fr(s:RS w v b l c)(lb:b<w.heap.size)(a:w.heap.size+1<h)(k:xb (·=h) v v'):RS w v' b l c:=⟨s.B.but k<|by omega,s.X.but k<|by omega,s.R.but k<|by omega,s.A.fresh (by omega) k⟩
def RS.set(s:RS w v b l c)(lb:b<w.heap.size)(e:v.setCell (zq (w.heap.size+1) i) u=v'):RS w v' b l<|c.setIfInBounds i u:=⟨s.B.ot e<|by omega,s.X.ot e<|by omega,s.R.st e,s.A.st e<|by omega⟩
def RS.al(s:RS w v b l c)(e:v.alloc o=v'):RS w v' b l c:=s.nw<|e▸xb.alloc o
end
def zyc(b:Nat)(l l1 l2 hd:Zl)(n:Nat)(q3:hd.length=10)(D:eT hd=n)(q2:32<=l2.length)(w:Zy)(t:xx w b #[zs l] 234)
  (J:∀w0,xx w0 b #[zs l] 234->bE prog 165 #[zo b,zi 10] w0 fun e w'=>e= .returned (zs hd)/\xb (·=b) w0 w'/\xx w' b #[zs l1] 234)
  (K:∀w0,xx w0 b #[zs l1] 234->bE prog 165 #[zo b,zi n] w0 fun e w'=>e= .returned (zs<|l1.take n)/\xb (·=b) w0 w'/\xx w' b #[zs l2] 234):
  bE prog 233 #[zo b] w fun e w'=>e= .returned (.agg #[zs<|hd.take 1,zi (Zk ((hd.drop 1).take 1):Nat),zi (Zk ((hd.drop 4).take 4):Nat),zs hd,zs<|l1.take n,zs<|l2.take 32])/\xb (·=b) w w'/\xx w' b #[zs<|l2.drop 32] 234:=by
 have d:=t.lt;have U:=zl t;have W:=zl J;have Y:=zl K;have V:=zl D;clear t J K D;go_enter func233.1,Tryz.ntmps233
 go_wp2_with fail
 refine kN fun v a=>?_;have S:Hid<|RS w v b l _:=⟨(U.o.alloc _).al a,(xx.new w _ _).al a,xh w _▸xx.nu a,(xb.alloc _).al a⟩;clear a;refine(W.o _ S.o.B).mono ?_;rintro e w1 ⟨rfl,L,E⟩;replace S:=zl<|S.o.cut d L E;clear L E;have Z:=S.o.R.cell 3 rfl;have f1:=S.o.R.bT 3
 go_wp2_with fail
 refine kN fun v a=>?_;replace S:=zl<|S.o.set d a;clear a Z f1;refine(IT _ hd rfl (by omega) _).mono ?_;rintro e w3 ⟨rfl,M⟩;replace S:=zl<|S.o.nw M;clear M;rw[V.o]
 go_wp2_with fail
 refine(Y.o _ S.o.B).mono ?_;rintro e w4 ⟨rfl,O,F⟩;replace S:=zl<|S.o.cut d O F;clear O F;have c2:=S.o.R.cell 4 rfl;have f2:=S.o.R.bT 4
 go_wp2_with fail
 refine kN fun v a=>?_;replace S:=zl<|S.o.set d a;clear a c2 f2;refine(rJ S.o.B 32 32 rfl<|by omega).mono ?_;rintro e w6 ⟨rfl,Q,G⟩;replace S:=zl<|S.o.cut d Q G;clear Q G;have s:=S.o.R.lt;have c3:=S.o.R.cell 5 rfl;have f3:=S.o.R.bT 5;have c4:=S.o.R.cell (v:=zs hd) 3 rfl
 go_wp2_with fail
 refine kN fun v a=>?_;have H:=zl<|xx.nu a;rw[xoe]at H;replace S:=zl<|(S.o.set d rfl).al a;clear a c3 f3 c4;refine(rJ H.o 1 1 rfl<|by omega).mono ?_;rintro e w8 ⟨rfl,T,I⟩;replace S:=zl<|S.o.fr d s T;replace H:=zl I;clear T I;have c5:=S.o.R.cell 0 rfl;have f5:=S.o.R.bT 0
 go_wp2_with fail
 refine kN fun v a=>?_;replace S:=zl<|S.o.set d a;replace H:=zl (H.o.ot a<|by omega);clear a c5 f5;refine(V3 H.o 1 1 rfl (by decide)<|by simp;omega).mono ?_;rintro e bl ⟨rfl,o,i⟩;replace S:=zl<|S.o.fr d s o;replace H:=zl i;generalize f:Zk (List.take 1<|List.drop 1 hd)=v1;replace f:=zl f;clear o i;have c6:=S.o.R.cell 1 rfl;have f6:=S.o.R.bT 1
 go_wp2_with fail
 refine kN fun v a=>?_;replace S:=zl<|S.o.set d a;replace H:=zl (H.o.ot a<|by omega);clear a c6 f6;refine(rJ H.o 2 2 rfl<|by simp;omega).mono ?_;rintro e bm ⟨rfl,q,m⟩;replace S:=zl<|S.o.fr d s q;replace H:=zl m;clear q m
 go_wp2_with fail
 refine(V3 H.o 4 4 rfl (by decide)<|by simp;omega).mono ?_;rintro e C ⟨rfl,r,z⟩;replace S:=zl<|S.o.fr d s r;generalize g:Zk (List.take 4<|List.drop 2<|List.drop 1<|List.drop 1 hd)=v2;replace g:=zl g;clear r z H;have c:=fun j u h=>S.o.R.cell (v:=u) j h;have x:=fun j u h=>S.o.X.cell (v:=u) j h;have c7:=c 2 _ rfl;have bc:=c 0 (zs<|hd.take 1) rfl;have bd:=c 1 (zi v1) rfl;have be:=c 3 (zs hd) rfl;have bf:=c 4 (zs<|l1.take n) rfl;have bg:=c 5 (zs<|l2.take 32) rfl;have f7:=S.o.R.bT 2;have c8:=x 0 _ rfl;have c9:=x 1 _ rfl;have c10:=x 2 _ rfl;have ba:=x 3 _ rfl;have bb:=x 4 _ rfl;have c13:=x 5 _ rfl;have f8:=S.o.X.bT 0;have f9:=S.o.X.bT 1;have bh:=S.o.X.bT 2;have bi:=S.o.X.bT 3;have bj:=S.o.X.bT 4;have bk:=S.o.X.bT 5;clear c x
 go_wp2_with fail
 refine Gv fun v a=>?_;have X:=(((((((S.o.X.other (p:=zq (w.heap.size+1) 2) (by simp) _).set 0 _).set 1 _).set 2 _).set 3 _).set 4 _).st a);have A:xb (fun y=>y=w.heap.size\/y=w.heap.size+1) C v:=by
  subst a
  iterate 7 refine xb.trans ?_<|(xb.set _ _ _).mono<|by simp
  exact xb.refl _ _
 clear a;have y0:=X.cell (v:=zs<|hd.take 1) 0 rfl;have y1:=X.cell (v:=zi v1) 1 rfl;have y2:=X.cell (v:=zi v2) 2 rfl;have y3:=X.cell (v:=zs hd) 3 rfl;have y4:=X.cell (v:=zs<|l1.take n) 4 rfl;have y5:=X.cell (v:=zs<|l2.take 32) 5 rfl;refine jz (v:= .agg #[zs<|hd.take 1,zi v1,zi v2,zs hd,zs<|l1.take n,zs<|l2.take 32]) (by simp[results,Tryz.results233,go_sem,y0,y1,y2,y3,y4,y5]) rfl ⟨?_,⟨A.os.trans S.o.A.os,A.output.trans S.o.A.output,xz S.o.A.size A.size,fun k hk hn=>(A.block k (zn hk S.o.A.size)<|by omega).trans<|S.o.A.block k hk hn⟩,S.o.B.but A<|by omega⟩;rw[<-f.o,<-g.o];simp only[Vx,Nat.reduceAdd]
def LN(b:Nat)(l:Zl)(i:X7 l=bL)(w:Zy)(g:xx w b #[zs l] 234):bE prog 233 #[zo b] w fun e w'=>e= .returned (OQ l)/\xb (·=b) w w'/\xx w' b #[zs<|l.drop<|42+eT l] 234:=by
 obtain⟨a,f⟩:10<=l.length/\42+eT l<=l.length:=by simpa[X7]using i
 have h:=zyc b l (l.drop 10) ((l.drop 10).drop<|eT l) (l.take 10) (eT l) (by rw[xt];omega) (D3 l) (by rw[jb,jb];omega) w g
  (fun j h=>rJ h 10 10 rfl a) (fun j h=>rJ h _ (eT l) rfl<|by rw[jb];omega)
 have c:((l.drop 10).drop<|eT l).drop 32=l.drop (42+eT l):=by rw[Vx,Vx];congr 1;omega
 have d:OQ l= .agg #[zs<|(l.take 10).take 1,zi (Zk (((l.take 10).drop 1).take 1):Nat),zi (Zk (((l.take 10).drop 4).take 4):Nat),zs<|l.take 10,zs<|(l.drop 10).take<|eT l,.string<|st<|((l.drop 10).drop<|eT l).take 32]:=by
  unfold OQ;simp only[Vx,List.take_take,List.drop_take,Nat.reduceSub];rfl
 rw[c]at h;rw[d];exact h
def F5(l:Zl):(st l).toList=[]↔l=[]:=by
 rw[toList_nil_iff_emptyBytes];constructor;intro h;have:=congrArg ByteArray.size h;rw[xe]at this;exact xa this;rintro rfl;rfl
def Kx(l:Zl):(st l).toList.isEmpty=l.isEmpty:=by
 cases l with
 |nil=>rw[(F5 []).2 rfl]
 |cons a l=>
  cases h:(st (a::l)).toList with
  |nil=>exact absurd ((F5 _).1 h)<|by simp
  |cons=>rfl
def KD(l:Zl)(w:Zy):bE prog 37 #[zs l] w fun e w'=>e= .returned (.bool (decide (0<l.length/\l.length<=16)))/\w'=w:=by
 have b:Hid<|(!l.isEmpty&&decide ((l.length:Int)<=16))=decide (0<l.length/\l.length<=16):=by
  show _=_;cases l<;>simp
  omega
 have c:Hid<|l=[]->decide (0<l.length/\l.length<=16)=bK:=fun h=>by subst h;rfl
 have a:=zl<|Kx l;have d:=zl<|F5 l;go_enter func37.1,Tryz.ntmps37
 go_wp2
 ·rename_i h
  go_ret
  exact⟨by rw[c.o<|d.o.1 h];rfl,rfl⟩
 go_ret
 refine⟨?_,rfl⟩;rw[<-b.o,<-a.o];rfl
def Ou(l:Zl)(w:Zy):bE prog 38 #[zs l] w fun e w'=>e= .returned (.bool (decide (l.length<=32)))/\w'=w:=by
 have a:Hid (decide (l.length<=32)=decide ((l.length:Int)<=32)):=decide_eq_decide.2 (by omega);go_enter func38.1,Tryz.ntmps38
 go_wp2
 all_goals go_ret
 all_goals exact⟨by rw[a.o];rfl,rfl⟩
def Fs(h:xx w b #[.string<|st l] t)(m:Int)(n:Nat)(d:m=(n:Int))(j:0<n)(c:n<=16)(f:n<=l.length):bE prog 284 #[.pointer<|bO ⟨b,0,bN⟩,.int .i64 m] w fun e w'=>e= .returned (.string<|st<|l.take n)/\xb (·=b) w w'/\xx w' b #[.string<|st<|l.drop n] t:=by
 subst d;have a:=zl h;clear h;go_enter func284.1,Tryz.ntmps284
 go_wp2_with fail
 refine(rJ a.o _ n rfl f).mono ?_;rintro e w1 ⟨rfl,i,g⟩
 go_wp2_with fail
 refine(KD (l.take n) _).mono ?_;rintro e k ⟨rfl,rfl⟩
 go_wp2_with fail
 refine(Yb _ (by simp) _).mono ?_;rintro e o ⟨rfl,rfl⟩
 go_wp2_with fail
 go_ret
 exact⟨rfl,i,g⟩
def Fu(h:xx w b #[.string<|st l] t)(d:Wh tv w)(j:b≠1)(m:Int)(n:Nat)(k:m=(n:Int))(f:¬(0<n/\n<=16/\n<=l.length)):bE prog 284 #[.pointer<|bO ⟨b,0,bN⟩,.int .i64 m] w fun e w'=>e=eF tv/\xb (·=b) w w':=by
 subst k;have a:=zl h;have c:=zl d;clear h d;go_enter func284.1,Tryz.ntmps284
 go_wp2_with fail
 by_cases o:n<=l.length
 ·refine(rJ a.o _ n rfl o).mono ?_
  rintro e w1 ⟨rfl,g,p⟩;have i:=zl<|c.o.but g<|by omega
  go_wp2_with fail
  refine(KD (l.take n) _).mono ?_;rintro e q ⟨rfl,rfl⟩
  go_wp2_with fail
  refine(Xu _ (by simp;omega) _ i.o).mono ?_;rintro e r ⟨rfl,rfl⟩;exact⟨rfl,rfl,g⟩
 refine(VM a.o c.o _ n rfl<|by omega).mono ?_;rintro e w1 ⟨rfl,rfl⟩;exact⟨rfl,rfl,xb.refl _ _⟩
def jS(l:Zl):Option<|(Zl×Zl)×Zl:=
 if 2<=l.length then
  let k:=Zk<|l.take 1;let v:=Zk<|(l.drop 1).take 1;let r:=(l.drop 1).drop 1
  if(0<k/\k<=16/\k<=r.length)/\v<=(r.drop k).length/\v<=32 then bO ((r.take k,(r.drop k).take v),(r.drop k).drop v)else bN
 else bN
def AJ(tv:Zv)(b:Nat)(t:Zt)(l:Zl)(w:Zy)(e:Ending)(w':Zy):Prop:=
 xb (·=b) w w'/\(match jS l with|some ((k,v),r)=>e= .returned (.agg #[zs k,zs v])/\xx w' b #[zs r] t|none=>e=eF tv)
def zrg{l k v r:Zl}{w w':Zy}(h:jS l=bO ((k,v),r))(a:xb (·=b) w w')(hk:xx w' b #[zs r] t):AJ tv b t l w (.returned<|.agg #[zs k,zs v]) w':=by
 unfold AJ;rw[h];exact⟨a,rfl,hk⟩
def HY{w w':Zy}(h:jS l=bN)(a:xb (·=b) w w'):AJ tv b t l w (eF tv) w':=by
 unfold AJ;rw[h];exact⟨a,rfl⟩
def Ry(l:Zl)(I:b≠1)(h:xx w b #[.string<|st l] t)(W:Wh tv w):
  bE prog 254 #[.pointer<|bO ⟨b,0,bN⟩] w (AJ tv b t l w):=by
 have HB:=zl h;have HG:=zl W;have ba:=h.lt;have c:Hid (jS l=if 2<=l.length then
  (if(0<Zk (l.take 1)/\Zk (l.take 1)<=16/\Zk (l.take 1)<=((l.drop 1).drop 1).length)/\Zk ((l.drop 1).take 1)<=(((l.drop 1).drop 1).drop<|Zk<|l.take 1).length/\Zk ((l.drop 1).take 1)<=32 then bO ((((l.drop 1).drop 1).take<|Zk<|l.take 1,(((l.drop 1).drop 1).drop<|Zk<|l.take 1).take<|Zk<|(l.drop 1).take 1),(((l.drop 1).drop 1).drop<|Zk<|l.take 1).drop<|Zk<|(l.drop 1).take 1)else bN)else bN):=rfl
 clear h W;go_enter func254.1,Tryz.ntmps254
 go_wp2_with fail
 have J:Hid (xb (·=b) w<|w.alloc<|.cells #[.string ⟨#[]⟩,.string ⟨#[]⟩] 86):=xb.alloc _;have Q:=zl<|HB.o.alloc<|.cells #[.string ⟨#[]⟩,.string ⟨#[]⟩] 86;have R:=zl<|HG.o.alloc<|.cells #[.string ⟨#[]⟩,.string ⟨#[]⟩] 86;have X0:Hid<|xx (w.alloc<|.cells #[.string ⟨#[]⟩,.string ⟨#[]⟩] 86) w.heap.size #[.string ⟨#[]⟩,.string ⟨#[]⟩] 86:=xx.new _ _ _;generalize w.alloc (.cells #[.string ⟨#[]⟩,.string ⟨#[]⟩] 86)=w0 at*;by_cases h1:1<=l.length
 ·refine(V3 Q.o 1 1 rfl (by decide) h1).mono ?_
  rintro e w1 ⟨rfl,z,Y⟩;have S:=zl (R.o.but z<|by omega);have X1:=zl (X0.o.but z<|by omega);have E:=zl Y;have K:=zl<|J.o.trans z;clear Y z;obtain⟨k,hk⟩:∃k,Zk (List.take 1 l)=k:=⟨_,rfl⟩;rw[hk]at c⊢;clear hk;obtain⟨l1,f⟩:∃l1,l.drop 1=l1:=⟨_,rfl⟩;have q1:l1.length=l.length-1:=by rw[<-f,jb]
  rw[f]at c E;clear f
  go_wp2_with fail
  by_cases h2:1<=l1.length
  ·refine(V3 E.o 1 1 rfl (by decide) h2).mono ?_
   rintro e w2 ⟨rfl,B,Z⟩;have T:=zl (S.o.but B<|by omega);have X2:=zl (X1.o.but B<|by omega);have F:=zl Z;have L:=zl<|K.o.trans B;clear Z B;obtain⟨v,X⟩:∃v,Zk (List.take 1 l1)=v:=⟨_,rfl⟩;rw[X]at c⊢;clear X;obtain⟨y,q⟩:∃y,l1.drop 1=y:=⟨_,rfl⟩;rw[q]at c F;clear q
   go_wp2_with fail
   by_cases i:0<k/\k<=16/\k<=y.length
   ·refine(Fs F.o _ k rfl i.1 i.2.1 i.2.2).mono ?_
    rintro e w3 ⟨rfl,C,k3⟩;have G3:=zl (T.o.but C<|by omega);have X3:=zl (X2.o.but C<|by omega);have G:=zl k3;have M:=zl<|L.o.trans C;clear k3 C;obtain⟨j,s⟩:∃j,y.drop k=j:=⟨_,rfl⟩;rw[s]at c G;clear s;obtain⟨g,o⟩:∃g,y.take k=g:=⟨_,rfl⟩;rw[o]at c⊢;clear o
    go_wp2_with fail
    by_cases V:v<=j.length
    ·refine(rJ G.o _ v rfl V).mono ?_
     rintro e D ⟨rfl,m,k4⟩;have G4:=zl (G3.o.but m<|by omega);have n:=zl (X3.o.but m<|by omega);have B4:=zl k4;have O:=zl<|M.o.trans m;clear k4 m;have q4:(j.take v).length=v:=by rw[xt];omega
     obtain⟨d,x⟩:∃d,j.take v=d:=⟨_,rfl⟩;rw[x]at c q4⊢;clear x
     go_wp2_with fail
     refine(Ou d _).mono ?_;rintro e w5 ⟨rfl,rfl⟩
     go_wp2_with fail
     by_cases H:v<=32
     ·have a:Hid<|jS l=bO ((g,d),j.drop v):=by show _=_;rw[c.o,aA<|by omega,aA ⟨i,V,H⟩]
      clear c;refine(Yb _ (by simp[H]) _).mono ?_;rintro e w6 ⟨rfl,rfl⟩;have c0:=n.o.cell 0 rfl;have f0:=n.o.bT 0;have c1:=n.o.cell 1 rfl;have f1:=n.o.bT 1
      go_wp2_with fail
      have U:=(n.o.set 0<|.string<|st g).set 1<|.string<|st d;have BE:=(B4.o.other (p:=⟨w.heap.size,0,bN⟩) (by show b≠w.heap.size;omega)<|.string<|st g).other (p:=⟨w.heap.size,1,bN⟩) (by show b≠w.heap.size;omega)<|.string<|st d;have AE:=(O.o.fresh (r:=w.heap.size) (ze _)<|xb.set _ ⟨w.heap.size,0,bN⟩<|.string<|st g).fresh (r:=w.heap.size) (ze _)<|xb.set _ ⟨w.heap.size,1,bN⟩<|.string<|st d;have y0:=U.cell 0 rfl;have y1:=U.cell 1 rfl;refine jz (v:= .agg #[.string<|st g,.string<|st d]) (by simp[results,Tryz.results254,go_sem,y0,y1]) rfl ?_;exact zrg a.o AE BE
     have a:Hid<|jS l=bN:=by show _=_;rw[c.o,aA<|by omega,aB<|by omega]
     refine(Xu _ (by simp[H]) _ G4.o).mono ?_;rintro e w6 ⟨rfl,rfl⟩;exact⟨rfl,HY a.o<|O.o⟩
    have a:Hid<|jS l=bN:=by show _=_;rw[c.o,aA<|by omega,aB<|by omega]
    refine(VM G.o G3.o _ v rfl<|by omega).mono ?_;rintro e D ⟨rfl,rfl⟩;exact⟨rfl,HY a.o<|M.o⟩
   have a:Hid<|jS l=bN:=by show _=_;rw[c.o,aA<|by omega,aB fun h=>i h.1]
   refine(Fu F.o T.o I _ k rfl i).mono ?_;rintro e D ⟨rfl,m⟩;exact⟨rfl,HY a.o<|L.o.trans m⟩
  have a:Hid<|jS l=bN:=by show _=_;rw[c.o,aB<|by omega]
  refine(E8 E.o S.o 1 1 rfl<|by omega).mono ?_;rintro e D ⟨rfl,rfl⟩;exact⟨rfl,HY a.o<|K.o⟩
 have a:Hid<|jS l=bN:=by show _=_;rw[c.o,aB<|by omega]
 refine(E8 Q.o R.o 1 1 rfl<|by omega).mono ?_;rintro e D ⟨rfl,rfl⟩;exact⟨rfl,HY a.o<|J.o⟩
inductive dM where
 |put (k v:Zl)
 |del (k:Zl)
def iC:dM->Zv
 | .put k v=> .iface 86 (.agg #[.string<|st k,.string<|st v])
 | .del k=> .iface 88 (.agg #[.string<|st k])
def kP:Zl->Option (dM×Zl)
 |[]=>bN
 |a::l=>
  if a=80 then(match jS l with|some ((k,v),r)=>bO (.put k v,r)|none=>bN)
  else if a=68 then
   (match l with
   |[]=>bN
   |b::r=>if 0<b.toNat/\b.toNat<=16/\b.toNat<=r.length then bO (.del<|r.take b.toNat,r.drop b.toNat)else bN)
  else bN
def EN(tv:Zv)(b:Nat)(t:Zt)(l:Zl)(w:Zy)(e:Ending)(w':Zy):Prop:=
 xb (·=b) w w'/\(match kP l with|some (c,r)=>e= .returned (iC c)/\xx w' b #[zs r] t|none=>e=eF tv)
def Ma{l r:Zl}{c:dM}{w w':Zy}(h:kP l=bO (c,r))(a:xb (·=b) w w')(hk:xx w' b #[zs r] t):EN tv b t l w (.returned<|iC c) w':=by
 unfold EN;rw[h];exact⟨a,rfl,hk⟩
def IK{w w':Zy}(h:kP l=bN)(a:xb (·=b) w w'):EN tv b t l w (eF tv) w':=by
 unfold EN;rw[h];exact⟨a,rfl⟩
def xo(l:Zl):(st l).toList=l:=by rw[ByteArray.toList_eq];rfl
def RJ(a:Z8):Zk [a]=a.toNat:=by simp[Zk]
def zwl(l:Zl)(z:b≠1)(h:xx w b #[.string<|st l] t)(O:Wh tv w):
  bE prog 285 #[.pointer<|bO ⟨b,0,bN⟩] w (EN tv b t l w):=by
 have F:=zl h;have G:=zl O;clear h O;go_enter func285.1,Tryz.ntmps285
 go_wp2_with fail
 cases l with
 |nil=>
  refine(VM F.o G.o 1 1 rfl<|by simp).mono ?_;rintro e w1 ⟨rfl,rfl⟩;exact⟨rfl,IK rfl<|xb.refl _ _⟩
 |cons a l=>
  refine(rJ F.o 1 1 rfl<|by simp).mono ?_;rintro e w1 ⟨rfl,K,Q⟩;have p:=zl (G.o.but K<|by omega);have D:Hid<|xx w1 b #[.string<|st l] t:=Q;have m:=zl K;clear Q K F G;have i:((st<|List.take 1 (a::l)).toList==[80])=decide (a=80):=by rw[xo];by_cases h:a=80<;>simp[h]
  have g:((st<|List.take 1 (a::l)).toList==[68])=decide (a=68):=by rw[xo];by_cases h:a=68<;>simp[h]
  generalize st (List.take 1 (a::l))=x at*;by_cases f:a=80
  ·have y:(x.toList==[80])=bL:=by rw[i];simp[f]
   clear i g
   go_wp2_with fail
   refine(Ry (tv:=tv) l z D.o p.o).mono ?_;intro e L B;unfold AJ at B;cases hq:jS l with
   |none=>
    rw[hq]at B;obtain⟨j,rfl⟩:=B;exact⟨rfl,IK (by simp[kP,f,hq])<|m.o.trans j⟩
   |some q=>
    obtain⟨⟨k,v⟩,r⟩:=q;rw[hq]at B;obtain⟨j,rfl,C⟩:=B;have H:Hid<|kP (a::l)=bO (.put k v,r):=by show _=_;simp[kP,f,hq]
    have n:=zl<|m.o.trans j;have o:=zl C;clear j C hq
    go_wp2_with fail
    go_ret
    exact Ma H.o n.o o.o
  have y:(x.toList==[80])=bK:=by rw[i];simp[f]
  by_cases d:a=68
  ·have s:(x.toList==[68])=bL:=by rw[g];simp[d]
   clear i g
   go_wp2_with fail
   cases l with
   |nil=>
    refine(E8 D.o p.o 1 1 rfl<|by simp).mono ?_;rintro e L ⟨rfl,rfl⟩;exact⟨rfl,IK (by simp[kP,f,d]) m.o⟩
   |cons c r=>
    refine(V3 D.o 1 1 rfl (by decide)<|by simp).mono ?_;rintro e L ⟨rfl,j,C⟩;have M:=zl (p.o.but j<|by omega);have o:Hid<|xx L b #[.string<|st r] t:=C;have n:=zl<|m.o.trans j;clear j C m D p;rw[show Zk (List.take 1 (c::r))=c.toNat from RJ c]
    go_wp2_with fail
    by_cases hk:0<c.toNat/\c.toNat<=16/\c.toNat<=r.length
    ·have H:Hid<|kP (a::c::r)=bO (.del<|r.take c.toNat,r.drop c.toNat):=by show _=_;simp[kP,d,hk]
     refine(Fs o.o _ c.toNat rfl hk.1 hk.2.1 hk.2.2).mono ?_;rintro e U ⟨rfl,E,R⟩;have T:=zl R;have S:=zl<|n.o.trans E;clear E R n o M
     go_wp2_with fail
     go_ret
     exact Ma H.o S.o T.o
    refine(Fu o.o M.o z _ c.toNat rfl hk).mono ?_;rintro e U ⟨rfl,E⟩;exact⟨rfl,IK (by simp[kP,d,hk])<|n.o.trans E⟩
  have s:(x.toList==[68])=bK:=by rw[g];simp[d]
  clear i g;obtain⟨V,W,J,I⟩:=p.o
  go_wp2_with fail
  subst J;exact⟨rfl,IK (by simp[kP,f,d]) m.o⟩
def yU{S:ZP}{w w2:Zy}{base e size:Nat}{v:Zv}{n:Nat}{xs:Ze}(h:w.ownsRow base e size v n xs)(j:xb S w w2)(i:∀q,base<=q->¬S q):w2.ownsRow base e size v n xs:=by
 refine⟨h.1, ?_⟩;rcases h.2 with f|⟨g,a,b,k,c,d,r⟩
 exact .inl f;exact .inr ⟨g,a,b,k,c,(j.block g (za.1 d).1<|i g c).trans d,r⟩
def xb.dH{S:ZP}{a w w':Zy}(h:xb S a w)(k:bC a.heap.size w w'):xb S a w':=⟨k.os.trans h.os,k.output.trans h.output,xz h.size k.size,fun i b c=>(k.block i b).trans<|h.block i b c⟩
def jZ:Nat->Zl->Option (List dM)
 |_,[]=>bO []
 |0,_::_=>bN
 |n+1,a::l=>match kP (a::l)with
  |some (c,r)=>(jZ n r).map (c::·)
  |none=>bN
def RH{l k v r:Zl}(h:jS l=bO ((k,v),r)):r.length<l.length:=by
 unfold jS at h;split at h;simp only at h;split at h;cases h;simp only[jb];omega;cases h;cases h
def H_{l r:Zl}{c:dM}(h:kP l=bO (c,r)):r.length<l.length:=by
 cases l with
 |nil=>cases h
 |cons a l=>
  simp only[kP]at h;by_cases e:a=80;rw[aA e]at h;cases hp:jS l with
  |none=>rw[hp]at h;cases h
  |some q=>
   obtain⟨⟨k,v⟩,f⟩:=q;rw[hp]at h;simp only[zp,qg]at h;have:=RH hp;rw[<-h.2];simp only[zh];omega
  rw[aB e]at h;by_cases d:a=68;rw[aA d]at h;cases l with
  |nil=>cases h
  |cons b f=>
   simp only at h;by_cases hk:0<b.toNat/\b.toNat<=16/\b.toNat<=f.length;rw[aA hk]at h;simp only[zp,qg]at h;rw[<-h.2];simp only[jb,zh];omega;rw[aB hk]at h;cases h
  rw[aB d]at h;cases h
def KB:∀(n:Nat) (l:Zl),l.length<=n->jZ n l=jZ l.length l:=by
 intro n;induction n using Nat.strongRecOn with
 |_ n ih=>
  intro l d;cases l with
  |nil=>cases n<;>rfl
  |cons a l=>
   cases n with
   |zero=>simp at d
   |succ n=>
    show jZ (n+1) (a::l)=jZ (l.length+1) (a::l);simp only[jZ];cases h:kP (a::l)with
    |none=>rfl
    |some q=>
     obtain⟨c,r⟩:=q;have b:=H_ h;simp only[zh]at b d;simp only;rw[ih n (by omega) r<|by omega];by_cases e:r.length=l.length;rw[<-e];rw[ih l.length (by omega) r<|by omega]
def nZ(l:Zl):Option<|List dM:=match jZ l.length l with
 |some D=>if 1<=D.length/\D.length<=20 then bO D else bN
 |none=>bN
def Qg{a:Z8}{l r:Zl}{c:dM}(h:kP (a::l)=bO (c,r)):jZ (a::l).length (a::l)=(jZ r.length r).map (c::·):=by
 have b:=H_ h;simp only[zh]at b;show jZ (l.length+1) (a::l)=_;simp only[jZ,h];rw[KB l.length r<|by omega]
def m8{a:Z8}(h:kP (a::l)=bN):jZ (a::l).length (a::l)=bN:=by
 show jZ (l.length+1) (a::l)=_;simp only[jZ,h]
def Bq(c:dM):(iC c).oneCell'=bL:=by cases c<;>rfl
def Bz:∃i,prog.info? 126=bO i/\i.zero=bO .nilIface/\i.size=1/\i.bytes=16:=by
 have h:(prog.info? 126).map (fun i=>(i.zero,i.size,i.bytes))=bO (bO .nilIface,1,16):=by kernel_rfl
 cases hq:prog.info? 126 with
 |none=>rw[hq]at h;simp at h
 |some i=>rw[hq]at h;simp at h;exact⟨i,rfl,h.1,h.2.1,h.2.2⟩
def Dl:prog.underlying 95=bO (.slice 126):=(cK 95).trans Tryz.underlying95
def Ok(tv:Zv)(l:Zl)(w:Zy)(e:Ending)(w':Zy):Prop:=
 Nw w w'/\(match nZ l with|some D=>∃v,e= .returned v/\w'.ownsRow w.heap.size 126 1 v D.length (D.map iC)|none=>e=eF tv)
def leftOf(c:Nat)(w:Zy):Nat:=match w.cell? (zq c 0)with
 |some (.string s)=>s.size
 |_=>0
def DV{c:Nat}(h:xx w c #[zs l] t):leftOf c w=l.length:=by
 unfold leftOf;rw[h.cell 0 rfl];exact xe l
def EG{base base' e size:Nat}{v:Zv}{n:Nat}{xs:Ze}(h:w.ownsRow base e size v n xs)(c:base'<=base):w.ownsRow base' e size v n xs:=by
 refine⟨h.1,h.2.imp id ?_⟩;rintro⟨g,a,b,f,d,r⟩;exact⟨g,a,b,f,xz c d,r⟩
def zot(l:Zl)(hl:l.length<=100000)(w:Zy)(bd:1<w.heap.size)(hG:Wh tv w):bE prog 261 #[.string<|st l] w<|Ok tv l w:=by
 have HG:=zl hG;obtain⟨H,hi,X,Y,Z⟩:=Bz;have M:Hid<|nZ l=match jZ l.length l with|some D=>if 1<=D.length/\D.length<=20 then bO D else bN|none=>bN:=rfl;clear hG;go_enter func261.1,Tryz.ntmps261
 go_wp2_with fail
 have A0:Hid<|Nw w<|w.alloc<|.cells #[.string<|st l] 234:=xb.alloc _;have B0:Hid<|xx (w.alloc<|.cells #[.string<|st l] 234) w.heap.size #[.string<|st l] 234:=xx.new _ _ _;generalize w.alloc (.cells #[.string<|st l] 234)=w0 at*
 go_loopw [4] (fun v wr=>∃(D:List dM) (r:Zl),D.length+r.length<=l.length/\jZ l.length l=(jZ r.length r).map (D++·)/\wr.ownsRow (w.heap.size+1) 126 1 v D.length (D.map iC)/\xx wr w.heap.size #[.string<|st r] 234/\Nw w wr) (fun _ wr=>leftOf w.heap.size wr)
 case atStart=>exact⟨[],l,by simp,by simp,Vl _ _ _ _,B0.o,A0.o⟩
 case round=>
  obtain⟨D,r,b,C,d,a,m⟩:=hrel;have s:=zl C;obtain⟨a4,y,rfl,ba⟩:=Jh d;have V:=zl d;have HK:=zl a;have o:=zl m;have c0:wr.cell? ⟨w.heap.size,0,bN⟩=bO (.string<|st r):=a.cell 0 rfl;have R:=zl<|HG.o.but m id;have HZ:=zl<|DV a;clear C d a m;cases r with
  |nil=>
   have hn:=xo [];have T:Hid<|jZ l.length l=bO D:=by show _=_;rw[s.o];simp[jZ]
   clear s;by_cases E:1<=D.length
   ·have i1:(1:Int)<=(D.length:Nat):=by omega
    go_wp2_with fail
    by_cases hd:D.length<=20
    ·have i:Hid<|nZ l=bO D:=by show _=_;rw[M.o,T.o];simp[E,hd]
     refine(Yb _ (by simp;omega) _).mono ?_;rintro e n ⟨rfl,rfl⟩
     go_wp2_with fail
     go_ret
     refine⟨o.o, ?_⟩;rw[i.o];exact⟨_,rfl,EG V.o<|by omega⟩
    have i:Hid<|nZ l=bN:=by show _=_;rw[M.o,T.o];simp[hd]
    refine(Xu _ (by simp;omega) _ R.o).mono ?_;rintro e n ⟨rfl,rfl⟩;refine⟨rfl,o.o, ?_⟩;rw[i.o]
   have i1:(D.length:Int)<1:=by omega
   have i:Hid<|nZ l=bN:=by show _=_;rw[M.o,T.o];simp[E]
   go_wp2_with fail
   refine(Xu _ rfl _ R.o).mono ?_;rintro e n ⟨rfl,rfl⟩;refine⟨rfl,o.o, ?_⟩;rw[i.o]
  |cons x r=>
   have hn:¬(st (x::r)).toList=[]:=by rw[xo];simp
   have bc:(st (x::r)).toList.isEmpty=bK:=by rw[xo];rfl
   go_wp2_with fail
   refine(zwl (tv:=tv) (x::r) (by omega) HK.o R.o).mono ?_;intro e n G;unfold EN at G;cases hq:kP (x::r)with
   |none=>
    rw[hq]at G;obtain⟨K,rfl⟩:=G;have i:nZ l=bN:=by rw[M.o,s.o,m8 hq];rfl
    refine⟨rfl, ?_, ?_⟩;exact o.o.fresh (ze _) K;rw[i]
   |some q=>
    obtain⟨c,O⟩:=q;rw[hq]at G;obtain⟨K,rfl,k2⟩:=G;have N2:Hid<|Nw w n:=o.o.fresh (ze _) K;have K2:=zl k2;have O2:=zl (yU V.o K fun q h=>by omega);have U:Hid (jZ l.length l=(jZ O.length O).map ((D++[c])++·)):=by
     show _=_;rw[s.o,Qg hq,Option.map_map]
     congr 1
     funext z;simp
    have F:=H_ hq;have HV:=Bq c;have be:=k2.lt;clear K k2 hq s V HK o;obtain⟨J,L,k⟩:∃J L,iC c= .iface J L:=by cases c<;>exact⟨_,_,rfl⟩
    rw[k]at HV⊢;have S:=zl k;clear k
    go_wp2_with (refine wpList_append_lies _ rfl _ _ 95 rfl (w.heap.size+1) 126 H .nilIface 1 16 Dl hi X Y Z rfl (by decide) (.slice a4 D.length y) D.length (D.map iC) rfl ?own ⟨n.heap.size,0,bN⟩ 1 1 [.iface J L] rfl rfl ?nw ?o1 (by decide) ?m1 ?m2 ?m3 (n.heap.size+1) ?m4 ?_)
    case own=>exact O2.o.alloc _
    case m1=>unfold maxLen;simp only[zh]at b;omega
    case m2=>simp only[zh]at b;omega
    case m3=>simp;omega
    case m4=>simp
    case o1=>intro z p;simp at p;rw[p];exact HV
    case nw=>intro j z p;cases j with
     |zero=>simp at p;subst p;simp[go_sem,Addr.add]
     |succ j=>simp at p
    intro g2 t w4 f g B bb;have Q:=(zr _<|n.alloc<|.cells #[.iface J L] 126).grown g (by simp;omega)<|Vs O2.o;have N4:Nw w w4:=(N2.o.trans<|xb.alloc _).dH (Q.mono<|by omega);have K4:xx w4 w.heap.size #[.string<|st O] 234:=(Q.block _<|by omega).trans<|K2.o.alloc<|.cells #[.iface J L] 126;have I:w4.ownsRow (w.heap.size+1) 126 1 (.slice (bO ⟨g2,0,bN⟩) (D++[c]).length t) (D++[c]).length<|(D++[c]).map iC:=by
     rw[Jd,zj];simp only[xq,DN,S.o];exact f
    have W:=zl<|DV K4;clear f g B Q
    go_wp2
    go_roundw
    case rel=>exact⟨D++[c],O,by simp at b F⊢;omega,U.o,by simpa using I,K4,N4⟩
    case measure=>rw[HZ.o,W.o];exact F
end
end P
namespace P
open Go.RowKit
section
variable {es:List aK} {m:Nat} {p:Int×(Zl×Int)} {e:aK}
abbrev KV:=List<|Zl×Zl
def dA:KV->Zl->Zl->KV
 |[],k,v=>[(k,v)]
 |(k',v')::L,k,v=>if k=k' then(k,v)::L else(k',v')::dA L k v
def dO:KV->Zl->KV
 |[],_=>[]
 |(k',v')::L,k=>if k=k' then L else(k',v')::dO L k
def Zh:KV->Zl->Option Zl
 |[],_=>bN
 |(k',v')::L,k=>if k=k' then bO v' else Zh L k
def Eu{a b:Zl}(h:st a=st b):a=b:=by
 have:=congrArg (fun x=>x.data.toList) h;exact this
def BQ(a b:Zl):(st a==st b)=decide (a=b):=by
 rw[beq_toListBytes,xo,xo];by_cases h:a=b<;>simp[h]
def kF(v:Zl):Zv:= .agg #[.string<|st v]
def lJ(es:List aK)(L:KV):Prop:=es.map (fun e=>(e.key,e.val))=L.map fun p=>(zs p.1,kF p.2)
def h_{p:Zl×Zl}{L:KV}(h:lJ (e::es) (p::L)):e.key=zs p.1/\e.val=kF p.2/\lJ es L:=by
 unfold lJ at h⊢;simp only[xq,List.cons.injEq,qg]at h;exact⟨h.1.1,h.1.2,h.2⟩
def SK{p:Zl×Zl}{L:KV}(b:e.key=zs p.1)(c:e.val=kF p.2)(a:lJ es L):lJ (e::es) (p::L):=by
 unfold lJ at a⊢;simp only[xq,b,c,a]
def p4(h:lJ es []):es=[]:=by
 unfold lJ at h;simpa using h
def Rh{p:Zl×Zl}{L:KV}(h:lJ [] (p::L)):False:=by
 unfold lJ at h;simp at h
def JY(k:Zl):∀(L:KV) (es:List aK) (i:Nat),lJ es L->
  (Zh L k=bN/\Instr.findNow .string (zs k) es i=bO bN/\dO L k=L/\∀x born,lJ (es++[{key:=zs k,val:=kF x,born}])<|dA L k x)\/
  ∃j v e,Zh L k=bO v/\Instr.findNow .string (zs k) es i=bO (bO (i+j,kF v))/\es[j]?=bO e/\e.key=zs k/\lJ (es.eraseIdx j) (dO L k)/\∀x,lJ (es.modify j fun e=>{e with key:=zs k,val:=kF x})<|dA L k x
 |[],es,i,h=>by
  cases p4 h;exact .inl ⟨rfl,rfl,rfl,fun x born=>by unfold lJ;rfl⟩
 |p::L,[],i,h=>(Rh h).elim
 |(k',v')::L,e::es,i,h=>by
  obtain⟨a,b,l⟩:=h_ h;by_cases hk:k=k';subst hk;refine .inr ⟨0,v',e,by simp[Zh], ?_,rfl,a,by simpa[dO]using l,fun x=>?_⟩;simp[Instr.findNow,Instr.sameNow,a,b,BQ];simp only[List.modify_zero_cons,dA,if_true];exact SK rfl rfl l;have r:Instr.sameNow .string (zs k) e.key=bO bK:=by
   rw[a];simp only[Instr.sameNow,BQ,hk,decide_false]
  have m:Instr.findNow .string (zs k) (e::es) i=Instr.findNow .string (zs k) es (i+1):=by simp only[Instr.findNow,r]
  rcases JY k L es (i+1) l with⟨c,d,f,g⟩|⟨j,v,q,c,d,f,g,n,o⟩;refine .inl ⟨by simpa[Zh,hk]using c,by rw[m];exact d,by simp[dO,hk,f],fun x born=>?_⟩;simp only[dA,hk,if_false,jc];exact SK a b<|g x born;refine .inr ⟨j+1,v,q,by simpa[Zh,hk]using c,by rw[m,d];simp only[zp,qg,and_true];omega,by simpa using f,g, ?_,fun x=>?_⟩;simp only[List.eraseIdx_cons_succ,dO,hk,if_false];exact SK a b n;simp only[List.modify_succ_cons,dA,hk,if_false];exact SK a b<|o x
def Qs{k:Zl}:∀{L:KV},Zh L k=bN->∀p∈L,p.1≠k
 |[],_,_,hp=>by cases hp
 |(k',v')::L,h,p,hp=>by
  by_cases hk:k=k';simp[Zh,hk]at h;simp only[Zh,hk,if_false]at h;cases hp with
  |head=>exact fun e=>hk e.symm
  |tail _ hp=>exact Qs h p hp
def p9:∀{es:List aK} {L:KV},lJ es L->∀x∈es,∃p∈L,x.key=zs p.1/\x.val=kF p.2
 |[],_,_,_,hx=>by cases hx
 |e::es,[],h,_,_=>by unfold lJ at h;simp at h
 |e::es,p::L,h,x,hx=>by
  obtain⟨a,b,c⟩:=h_ h;cases hx with
  |head=>exact⟨p,.head _,a,b⟩
  |tail _ hx=>obtain⟨q,f,d⟩:=p9 c x hx;exact⟨q,.tail _ f,d⟩
def Xd(w:Zy)(m:Nat)(L:KV):Prop:=∃es clock,w.heap[m]?=bO (.map es clock)/\lJ es.toList L/\MapKept.Stamped es clock
def Xd.lt{w:Zy}{L:KV}(h:Xd w m L):m<w.heap.size:=by obtain⟨a,c,h,_⟩:=h;exact(za.1 h).1
def Xd.but{S:ZP}{w w':Zy}{L:KV}(h:Xd w m L)(f:xb S w w')(g:¬S m):Xd w' m L:=by
 have:=h.lt;obtain⟨a,c,b,d,e⟩:=h;exact⟨a,c,(f.block m this g).trans b,d,e⟩
def Jv{P:Zp}{w:Zy}{es:Array aK}{c:Nat}(h:w.heap[m]?=bO (.map es c)):(getObj m).run P w= .ok (.map es c) w:=by simp[getObj,Sem.run,h]
def wO{P:Zp}{w:Zy}{es:Array aK}{c:Nat}(h:w.heap[m]?=bO (.map es c))(o:Obj):(setObj m o).run P w= .ok () {w with heap:=w.heap.setIfInBounds m o}:=by simp[setObj,Sem.run,h]
section
variable {P:Program} {w:World} {t kt et:TypeId} {m:Nat} {L:KV}
def QN(hk:P.underlying kt=bO .string)(k:ByteArray)(n:Nat):∀w em,(Instr.checkKey em (n+1) kt<|.string k).run P w= .ok () w:=fun w em=>by simp[Instr.checkKey,xm hk,aY]
def Bf(G:P.underlying t=bO (.map kt et))(hk:P.underlying kt=bO .string)(h:Xd w m L)(k x:Zl):
  ∃w',(Instr.mapUpdate t (.map<|bO m) (zs k)<|kF x).run P w= .ok () w'/\xb (·=m) w w'/\Xd w' m (dA L k x):=by
 obtain⟨f,a,q,E,b⟩:=h;have z:=(za.1 q).1;have F:=Jv (P:=P) q;have D:=QN (P:=P) hk (st k) 9999;have c:∀o,xb (·=m) w {w with heap:=w.heap.setIfInBounds m o}:=fun o=>⟨rfl,rfl,by simp,fun j _ n=>by
  show(w.heap.setIfInBounds m o)[j]?=_;rw[zd<|Ne.symm n]⟩
 have d:∀o,(w.heap.setIfInBounds m o)[m]?=bO o:=fun o=>by rw[zx z]
 rcases JY k L f.toList 0 E with⟨H,s,_,i⟩|⟨j,v,e,_,s,I,i,_,J⟩;have l:(aT kt (zs k) f.toList).run P w= .ok bN w:=by simp[aT,xm hk,aY,s]
 refine⟨{w with heap:=w.heap.setIfInBounds m<|.map (f.push {key:=zs k,val:=kF x,born:=a})<|a+1}, ?_,c _,_,_,d _,by simpa using i x a,MapKept.stamped_push b fun y r g=>by obtain⟨p,K,B,_⟩:=p9 E y r;rw[B]at g;exact Qs H p K<|Eu<|by injection g⟩;simp[Instr.mapUpdate,xm G,aY,F,D,l,wO (P:=P) q];have l:(aT kt (zs k) f.toList).run P w= .ok (bO (0+j,kF v)) w:=by simp[aT,xm hk,aY,s]
 rw[jy]at l;have n:f[j]?=bO e:=by simpa using I
 have C:∀w,(Instr.keyThatStays ((f[j]?.map (·.key)).getD<|zs k)<|zs k).run P w= .ok (zs k) w:=fun w=>by
  rw[n];simp[Instr.keyThatStays,i,Instr.sameBits,BQ]
 refine⟨{w with heap:=w.heap.setIfInBounds m<|.map (f.modify j fun e=>{e with key:=zs k,val:=kF x}) a}, ?_,c _,_,_,d _,by simpa using J x,MapKept.stamped_modify b j _ (fun _ _=>rfl) fun y _ r=>by rw[n]at r;cases r;exact i.symm⟩;simp[Instr.mapUpdate,xm G,aY,F,D,l,C,wO (P:=P) q]
def xn5(x:P.underlying t=bO (.map kt et))(hk:P.underlying kt=bO .string)(h:Xd w m L)(ty p:Zt)(k:Zl):
  ∃w',(Builtin.delete_ #[t,p] ty #[.map<|bO m,zs k]).run P w= .ok (.tuple #[]) w'/\xb (·=m) w w'/\Xd w' m (dO L k):=by
 obtain⟨f,b,i,r,a⟩:=h;have n:=(za.1 i).1;have s:=Jv (P:=P) i;have q:=QN (P:=P) hk (st k) 9999;have c:∀o,xb (·=m) w {w with heap:=w.heap.setIfInBounds m o}:=fun o=>⟨rfl,rfl,by simp,fun j _ B=>by
  show(w.heap.setIfInBounds m o)[j]?=_;rw[zd<|Ne.symm B]⟩
 have d:∀o,(w.heap.setIfInBounds m o)[m]?=bO o:=fun o=>by rw[zx n]
 rcases JY k L f.toList 0 r with⟨_,l,y,_⟩|⟨j,v,e,_,l,_,_,z,_⟩;have g:(aT kt (zs k) f.toList).run P w= .ok bN w:=by simp[aT,xm hk,aY,l]
 refine⟨{w with heap:=w.heap.setIfInBounds m<|.map f b}, ?_,c _,_,_,d _,by rw[y];exact r,a⟩;simp[Builtin.delete_,xm x,aY,s,q,g,wO (P:=P) i];have g:(aT kt (zs k) f.toList).run P w= .ok (bO (0+j,kF v)) w:=by simp[aT,xm hk,aY,l]
 rw[jy]at g;refine⟨{w with heap:=w.heap.setIfInBounds m<|.map (f.eraseIdxIfInBounds j) b}, ?_,c _,_,_,d _, ?_,MapKept.stamped_erase a j⟩;simp[Builtin.delete_,xm x,aY,s,q,g,wO (P:=P) i];have:(f.eraseIdxIfInBounds j).toList=f.toList.eraseIdx j:=by simp
 rw[this];exact z
def Be(n:P.underlying t=bO (.map kt et))(hk:P.underlying kt=bO .string)(q:∀w,(zeroValue et).run P w= .ok (kF []) w)(h:Xd w m L)(k:Zl):
  (Instr.lookup t (.map<|bO m) (zs k) bL).run P w= .ok (.tuple #[kF<|(Zh L k).getD [],.bool (Zh L k).isSome]) w:=by
 obtain⟨f,d,p,o,a⟩:=h;have l:=Jv (P:=P) p;have i:=QN (P:=P) hk (st k) 9999;rcases JY k L f.toList 0 o with⟨b,c,_,_⟩|⟨j,v,e,b,c,_,_,_,_⟩
 have g:(aT kt (zs k) f.toList).run P w= .ok bN w:=by simp[aT,xm hk,aY,c]
 simp[Instr.lookup,xm n,aY,l,i,g,q,b];have g:(aT kt (zs k) f.toList).run P w= .ok (bO (0+j,kF v)) w:=by simp[aT,xm hk,aY,c]
 simp[Instr.lookup,xm n,aY,l,i,g,b]
end
abbrev Ym:=List<|Int×(Zl×Int)
def fF:Ym->Int->(Zl×Int)->Ym
 |[],k,v=>[(k,v)]
 |(k',v')::L,k,v=>if k=k' then(k,v)::L else(k',v')::fF L k v
def V6:Ym->Int->Ym
 |[],_=>[]
 |(k',v')::L,k=>if k=k' then L else(k',v')::V6 L k
def J9:Ym->Int->Option (Zl×Int)
 |[],_=>bN
 |(k',v')::L,k=>if k=k' then bO v' else J9 L k
def fO(v:Zl×Int):Zv:= .agg #[.string<|st v.1,.int .i64 v.2]
def jB(es:List aK)(L:Ym):Prop:=es.map (fun e=>(e.key,e.val))=L.map fun p=>(zi p.1,fO p.2)
def EB{L:Ym}(h:jB (e::es) (p::L)):e.key=zi p.1/\e.val=fO p.2/\jB es L:=by
 unfold jB at h⊢;simp only[xq,List.cons.injEq,qg]at h;exact⟨h.1.1,h.1.2,h.2⟩
def SV{L:Ym}(b:e.key=zi p.1)(c:e.val=fO p.2)(a:jB es L):jB (e::es) (p::L):=by
 unfold jB at a⊢;simp only[xq,b,c,a]
def w_(h:jB es []):es=[]:=by
 unfold jB at h;simpa using h
def QR{L:Ym}(h:jB [] (p::L)):False:=by
 unfold jB at h;simp at h
def RG(k:Int):∀(L:Ym) (es:List aK) (i:Nat),jB es L->
  (J9 L k=bN/\Instr.findNow (.int .i64) (zi k) es i=bO bN/\V6 L k=L/\∀x born,jB (es++[{key:=zi k,val:=fO x,born}])<|fF L k x)\/
  ∃j v e,J9 L k=bO v/\Instr.findNow (.int .i64) (zi k) es i=bO (bO (i+j,fO v))/\es[j]?=bO e/\e.key=zi k/\jB (es.eraseIdx j) (V6 L k)/\∀x,jB (es.modify j fun e=>{e with key:=zi k,val:=fO x})<|fF L k x
 |[],es,i,h=>by
  cases w_ h;exact .inl ⟨rfl,rfl,rfl,fun x born=>by unfold jB;rfl⟩
 |p::L,[],i,h=>(QR h).elim
 |(k',v')::L,e::es,i,h=>by
  obtain⟨a,b,l⟩:=EB h;by_cases hk:k=k';subst hk;refine .inr ⟨0,v',e,by simp[J9], ?_,rfl,a,by simpa[V6]using l,fun x=>?_⟩;simp[Instr.findNow,Instr.sameNow,a,b,BQ];simp only[List.modify_zero_cons,fF,if_true];exact SV rfl rfl l;have r:Instr.sameNow (.int .i64) (zi k) e.key=bO bK:=by
   rw[a];simp[Instr.sameNow,hk]
  have m:Instr.findNow (.int .i64) (zi k) (e::es) i=Instr.findNow (.int .i64) (zi k) es (i+1):=by simp only[Instr.findNow,r]
  rcases RG k L es (i+1) l with⟨c,d,f,g⟩|⟨j,v,q,c,d,f,g,n,o⟩;refine .inl ⟨by simpa[J9,hk]using c,by rw[m];exact d,by simp[V6,hk,f],fun x born=>?_⟩;simp only[fF,hk,if_false,jc];exact SV a b<|g x born;refine .inr ⟨j+1,v,q,by simpa[J9,hk]using c,by rw[m,d];simp only[zp,qg,and_true];omega,by simpa using f,g, ?_,fun x=>?_⟩;simp only[List.eraseIdx_cons_succ,V6,hk,if_false];exact SV a b n;simp only[List.modify_succ_cons,fF,hk,if_false];exact SV a b<|o x
def Rj{k:Int}:∀{L:Ym},J9 L k=bN->∀p∈L,p.1≠k
 |[],_,_,hp=>by cases hp
 |(k',v')::L,h,p,hp=>by
  by_cases hk:k=k';simp[J9,hk]at h;simp only[J9,hk,if_false]at h;cases hp with
  |head=>exact fun e=>hk e.symm
  |tail _ hp=>exact Rj h p hp
def JZ:∀{es:List aK} {L:Ym},jB es L->∀x∈es,∃p∈L,x.key=zi p.1/\x.val=fO p.2
 |[],_,_,_,hx=>by cases hx
 |e::es,[],h,_,_=>by unfold jB at h;simp at h
 |e::es,p::L,h,x,hx=>by
  obtain⟨a,b,c⟩:=EB h;cases hx with
  |head=>exact⟨p,.head _,a,b⟩
  |tail _ hx=>obtain⟨q,f,d⟩:=JZ c x hx;exact⟨q,.tail _ f,d⟩
def mD(w:Zy)(m:Nat)(L:Ym):Prop:=∃es clock,w.heap[m]?=bO (.map es clock)/\jB es.toList L/\MapKept.Stamped es clock
def mD.lt{w:Zy}{L:Ym}(h:mD w m L):m<w.heap.size:=by obtain⟨a,c,h,_⟩:=h;exact(za.1 h).1
def mD.but{S:ZP}{w w':Zy}{L:Ym}(h:mD w m L)(f:xb S w w')(g:¬S m):mD w' m L:=by
 have:=h.lt;obtain⟨a,c,b,d,e⟩:=h;exact⟨a,c,(f.block m this g).trans b,d,e⟩
section
variable {P:Program} {w:World} {t kt et:TypeId} {m:Nat} {L:Ym}
def JE(hk:P.underlying kt=bO (.int .i64))(k:Int)(n:Nat):∀w em,(Instr.checkKey em (n+1) kt<|zi k).run P w= .ok () w:=fun w em=>by simp[Instr.checkKey,xm hk,aY]
def Eh(G:P.underlying t=bO (.map kt et))(hk:P.underlying kt=bO (.int .i64))(h:mD w m L)(k:Int)(x:Zl×Int):
  ∃w',(Instr.mapUpdate t (.map<|bO m) (zi k)<|fO x).run P w= .ok () w'/\xb (·=m) w w'/\mD w' m (fF L k x):=by
 obtain⟨f,a,q,E,b⟩:=h;have z:=(za.1 q).1;have F:=Jv (P:=P) q;have D:=JE (P:=P) hk k 9999;have c:∀o,xb (·=m) w {w with heap:=w.heap.setIfInBounds m o}:=fun o=>⟨rfl,rfl,by simp,fun j _ n=>by
  show(w.heap.setIfInBounds m o)[j]?=_;rw[zd<|Ne.symm n]⟩
 have d:∀o,(w.heap.setIfInBounds m o)[m]?=bO o:=fun o=>by rw[zx z]
 rcases RG k L f.toList 0 E with⟨H,s,_,i⟩|⟨j,v,e,_,s,I,i,_,J⟩;have l:(aT kt (zi k) f.toList).run P w= .ok bN w:=by simp[aT,xm hk,aY,s]
 refine⟨{w with heap:=w.heap.setIfInBounds m<|.map (f.push {key:=zi k,val:=fO x,born:=a})<|a+1}, ?_,c _,_,_,d _,by simpa using i x a,MapKept.stamped_push b fun y r g=>by obtain⟨p,K,B,_⟩:=JZ E y r;rw[B]at g;exact Rj H p K<|by injection g⟩;simp[Instr.mapUpdate,xm G,aY,F,D,l,wO (P:=P) q];have l:(aT kt (zi k) f.toList).run P w= .ok (bO (0+j,fO v)) w:=by simp[aT,xm hk,aY,s]
 rw[jy]at l;have n:f[j]?=bO e:=by simpa using I
 have C:∀w,(Instr.keyThatStays ((f[j]?.map (·.key)).getD<|zi k)<|zi k).run P w= .ok (zi k) w:=fun w=>by
  rw[n];simp[Instr.keyThatStays,i,Instr.sameBits,BQ]
 refine⟨{w with heap:=w.heap.setIfInBounds m<|.map (f.modify j fun e=>{e with key:=zi k,val:=fO x}) a}, ?_,c _,_,_,d _,by simpa using J x,MapKept.stamped_modify b j _ (fun _ _=>rfl) fun y _ r=>by rw[n]at r;cases r;exact i.symm⟩;simp[Instr.mapUpdate,xm G,aY,F,D,l,C,wO (P:=P) q]
def cP(x:P.underlying t=bO (.map kt et))(hk:P.underlying kt=bO (.int .i64))(h:mD w m L)(ty p:Zt)(k:Int):
  ∃w',(Builtin.delete_ #[t,p] ty #[.map<|bO m,zi k]).run P w= .ok (.tuple #[]) w'/\xb (·=m) w w'/\mD w' m (V6 L k):=by
 obtain⟨f,b,i,r,a⟩:=h;have n:=(za.1 i).1;have s:=Jv (P:=P) i;have q:=JE (P:=P) hk k 9999;have c:∀o,xb (·=m) w {w with heap:=w.heap.setIfInBounds m o}:=fun o=>⟨rfl,rfl,by simp,fun j _ B=>by
  show(w.heap.setIfInBounds m o)[j]?=_;rw[zd<|Ne.symm B]⟩
 have d:∀o,(w.heap.setIfInBounds m o)[m]?=bO o:=fun o=>by rw[zx n]
 rcases RG k L f.toList 0 r with⟨_,l,y,_⟩|⟨j,v,e,_,l,_,_,z,_⟩;have g:(aT kt (zi k) f.toList).run P w= .ok bN w:=by simp[aT,xm hk,aY,l]
 refine⟨{w with heap:=w.heap.setIfInBounds m<|.map f b}, ?_,c _,_,_,d _,by rw[y];exact r,a⟩;simp[Builtin.delete_,xm x,aY,s,q,g,wO (P:=P) i];have g:(aT kt (zi k) f.toList).run P w= .ok (bO (0+j,fO v)) w:=by simp[aT,xm hk,aY,l]
 rw[jy]at g;refine⟨{w with heap:=w.heap.setIfInBounds m<|.map (f.eraseIdxIfInBounds j) b}, ?_,c _,_,_,d _, ?_,MapKept.stamped_erase a j⟩;simp[Builtin.delete_,xm x,aY,s,q,g,wO (P:=P) i];have:(f.eraseIdxIfInBounds j).toList=f.toList.eraseIdx j:=by simp
 rw[this];exact z
def KI(n:P.underlying t=bO (.map kt et))(hk:P.underlying kt=bO (.int .i64))(q:∀w,(zeroValue et).run P w= .ok (fO ([],0)) w)(h:mD w m L)(k:Int):
  (Instr.lookup t (.map<|bO m) (zi k) bK).run P w= .ok (fO<|(J9 L k).getD ([],0)) w:=by
 obtain⟨f,d,p,o,a⟩:=h;have l:=Jv (P:=P) p;have i:=JE (P:=P) hk k 9999;rcases RG k L f.toList 0 o with⟨b,c,_,_⟩|⟨j,v,e,b,c,_,_,_,_⟩
 have g:(aT kt (zi k) f.toList).run P w= .ok bN w:=by simp[aT,xm hk,aY,c]
 simp[Instr.lookup,xm n,aY,l,i,g,q,b];have g:(aT kt (zi k) f.toList).run P w= .ok (bO (0+j,fO v)) w:=by simp[aT,xm hk,aY,c]
 simp[Instr.lookup,xm n,aY,l,i,g,b]
end
end
end P
namespace P
open A.Tryq Go.RowKit
attribute [local go_sem] xe zv
def app1(L:KV):dM->KV
 | .put k v=>dA L k v
 | .del k=>dO L k
def cO(L:KV)(D:List dM):KV:=D.foldl app1 L
def FF(L:KV)(D:List dM)(c:dM):cO L (D++[c])=app1 (cO L D) c:=by simp[cO]
def yO:prog.underlying 91=bO (.map 9 94):=(cK 91).trans Tryz.underlying91
def Ig(x:Zv)(w:Zy):(Instr.typeAssert (.iface 86 x) 126 86 bL).run prog w= .ok (.tuple #[x,.bool bL]) w:=by kernel_rfl
def Fz(x:Zv)(w:Zy):(Instr.typeAssert (.iface 88 x) 126 86 bL).run prog w= .ok (.tuple #[.agg #[.string ⟨#[]⟩,.string ⟨#[]⟩],.bool bK]) w:=by kernel_rfl
def Ih(x:Zv)(w:Zy):(Instr.typeAssert (.iface 88 x) 126 88 bL).run prog w= .ok (.tuple #[x,.bool bL]) w:=by kernel_rfl
def uU(w:Zy)(g:Nat)(D:List dM):Prop:=∀i (h:i<D.length),w.cell? (zq g i)=bO (iC D[i])
def uU.but{S:ZP}{w w':Zy}{g:Nat}{D:List dM}(h:uU w g D)(a:xb S w w')(c:¬S g):uU w' g D:=fun i b=>a.cell c<|h i b
def QY(m g cap:Nat)(L:KV)(D:List dM)(J:D.length<=1000000)(w:Zy)(C:Xd w m L)(f:uU w g D)(y:g≠m):
  bE prog 44 #[.map<|bO m,.slice (bO ⟨g,0,bN⟩) D.length cap] w fun e w'=>e= .returned (.tuple #[])/\xb (·=m) w w'/\Xd w' m (cO L D):=by
 have E:=zl C;have F:=zl f;clear C f;go_enter func44.1,Tryz.ntmps44
 go_wp2_with fail
 go_loopw [10] (fun i wr=>∃k:Nat,k<=D.length/\i=zi k/\Xd wr m (cO L<|D.take k)/\xb (·=m) w wr) (fun i _=>(D.length-aJ i).toNat)
 case atStart=>exact⟨0,by omega,rfl,by simpa[cO]using E.o,xb.refl _ _⟩
 case round=>
  obtain⟨k,hk,rfl,o,p⟩:=hrel;by_cases n:k<D.length
  ·have I:(k:Int)<(D.length:Nat):=by omega
   have K:(0:Int)<=(k:Int):=by omega
   have j:=(F.o.but p y) k n;have s:Hid<|cO L (D.take<|k+1)=app1 (cO L<|D.take k) D[k]:=by show _=_;rw[xy n,FF]
   have B:=zl p;obtain⟨c,l⟩:∃c,D[k]=c:=⟨_,rfl⟩;rw[l]at j s;clear l p;generalize cO L (D.take k)=L1 at*;have H:=o.lt;cases c with
   |put ky v=>
    have x:wr.cell? (zq g k)=bO (.iface 86<|.agg #[zs ky,zs v]):=j;obtain⟨q,b,a,d⟩:=Bf (P:=prog) yO underlying9 (o.but (S:=fun _=>False) (xb.alloc<|.cells #[zs ky,zs v] 86) id) ky v;have z:(Instr.mapUpdate 91 (.map<|bO m) (zs ky)<|.agg #[zs v]).run prog (wr.alloc<|.cells #[zs ky,zs v] 86)= .ok () q:=b;have t:=Ig (.agg #[zs ky,zs v]) wr;have r:=zl<|(B.o.trans<|xb.alloc _).trans a;have h:Hid<|Xd q m<|app1 L1<|.put ky v:=d;clear j b a d
    go_wp2
    go_roundw
    case rel=>exact⟨k+1,by omega,by go_num,by rw[s.o];exact h.o,r.o⟩
    case measure=>simp[aJ];omega
   |del ky=>
    have x:wr.cell? (zq g k)=bO (.iface 88<|.agg #[zs ky]):=j;obtain⟨q,b,a,d⟩:=xn5 (P:=prog) yO underlying9 (o.but (S:=fun _=>False) (xb.alloc<|.cells #[zs ky] 88) id) 0 9 ky;have t:=Fz (.agg #[zs ky]) wr;have G:=Ih (.agg #[zs ky]) wr;have r:=zl<|(B.o.trans<|xb.alloc _).trans a;have h:Hid<|Xd q m<|app1 L1<|.del ky:=d;clear j a d
    go_wp2
    go_roundw
    case rel=>exact⟨k+1,by omega,by go_num,by rw[s.o];exact h.o,r.o⟩
    case measure=>simp[aJ];omega
  obtain rfl:k=D.length:=by omega
  have I:¬(D.length:Int)<(D.length:Nat):=by omega
  rw[Yw]at o;have h:=zl o
  go_wp2
  go_end0
  exact⟨rfl,p,h.o⟩
structure Lk where
 m:Zl
 tc:Int
 mark:Zl
 op:Int
 mp:Nat
 ep:Nat
 cnt:Nat
 tag:Zl
 ahead:Zl
 base:Int
 last:Int
 named:Int
 dK:Int
 dD:Bool
 whole:Int
def Lk.cells(k:Lk)(ck tk:Zl):Za:=#[.string<|st k.m,.int .i64 k.tc,.string<|st k.mark,.int .i64 k.op,.map<|bO k.mp,.int .i64 (k.ep:Int),.string<|st ck,.string<|st tk,.int .i64 (k.cnt:Int),.string<|st k.tag,.string<|st k.ahead,.int .i64 k.base,.int .i64 k.last,.int .i64 k.named,.int .i64 k.dK,.bool k.dD,.int .i64 k.whole]
def Xa(w:Zy)(b:Nat)(k:Lk):Prop:=xx w b (k.cells (Xz k.m k.ep)<|Jm k.m k.ep) 122
def JX(b:Nat)(k:Lk)(l:k.m.length=32)(e':Nat)(w:Zy)(c:Xa w b k)(d:dF w):
  bE prog 162 #[zo b,zi e'] w fun e w'=>e= .returned (.tuple #[])/\xb (·=b) w w'/\Xa w' b {k with ep:=e'}:=by
 have i:=zl c;have j:=zl d;have p:w.cell? (zq b 0)=bO (zs k.m):=c.cell 0 rfl;have q:w.cell? (zq b 1)=bO (zi k.tc):=c.cell 1 rfl;have r:w.cell? (zq b 2)=bO (zs k.mark):=c.cell 2 rfl;have s:w.cell? (zq b 3)=bO (zi k.op):=c.cell 3 rfl;clear c d;go_enter func162.1,Tryz.ntmps162
 go_wp2_with fail
 refine(EO k.m k.mark k.tc k.op e' l _ j.o).mono ?_;rintro e w1 ⟨rfl,f⟩;have a:Hid<|Xa w1 b k:=xx.below i.o f;have c5:w1.cell? (zq b 5)=bO (zi k.ep):=xx.cell a.o 5 rfl;have t:=xx.bT a.o 5;have n:w1.cell? (zq b 6)=bO (zs<|Xz k.m k.ep):=xx.cell a.o 6 rfl;have v:=xx.bT a.o 6;have o:w1.cell? (zq b 7)=bO (zs<|Jm k.m k.ep):=xx.cell a.o 7 rfl;have x:=xx.bT a.o 7
 go_wp2_with fail
 have h:=((xx.set a.o 5<|zi e').set 6<|zs<|Xz k.m e').set 7<|zs<|Jm k.m e';have g:=((((xb.of_below (S:=(·=b)) f).trans<|xb.set w1 (zq b 5)<|zi e').trans<|xb.set _ (zq b 6)<|zs<|Xz k.m e').trans<|xb.set _ (zq b 7)<|zs<|Jm k.m e')
 go_end0
 exact⟨rfl,g,h⟩
end P
end Go.Proofs.YtjnbhiamaabbgaaGreatDoor
