import Derived.Test.YtjnbhiamaabbgabGreatDoorM2
import Derived.Deep.RegionHeld2
import Derived.Shelf.SlIterI.Nil
import Derived.Shelf.SortM.Plain
import Derived.Shelf.SortM.SortNone
set_option linter.all false
set_option maxRecDepth 100000
set_option maxHeartbeats 8000000
namespace Go.Proofs.YtjnbhiamaabbgabGreatDoor
open Bool renaming false->bK,true->bL
open Go renaming Calls->bE,MapEntry->aK
open Go.RowKit renaming Below->bC
open Option renaming none->bN,some->bO
open _root_.Ne renaming symm->aL
namespace P
open A.Tryq Go.RowKit
section
attribute [local go_sem] xe zv
section
variable {tv:Zv} {L:KV} {a body tag b:Zl} {w w':Zy} {cnt:Nat} {l:Zl}
def xb.drew{S:ZP}(h:xb S w w'):xb S w w'.drew:=⟨h.os,h.output,h.size,h.block⟩
def xx.drew{w:Zy}{r:Nat}{cs:Za}{t:Zt}(h:xx w r cs t):xx w.drew r cs t:=h
def Wh.drew{w:Zy}(h:Wh tv w):Wh tv w.drew:=h
def dF.drew{w:Zy}(h:dF w):dF w.drew:=h
def Xd.drew{w:Zy}{m:Nat}(h:Xd w m L):Xd w.drew m L:=h
def dF.but{S:ZP}(h:dF w)(a:xb S w w')(c:¬S 2):dF w':=fun i b=>a.cell c<|h i b
def AQ(h:Bool)(w:Zy)(a:Wh tv w):bE prog 152 #[.bool h] w fun e w'=>w'=w/\((e= .returned (.tuple #[])/\Hid (h=bL))\/(e=eF tv/\Hid (h=bK))):=by
 cases h;exact(Xu _ rfl w a).mono fun e w' x=>⟨x.2,.inr ⟨x.1,rfl⟩⟩;exact(Yb _ rfl w).mono fun e w' x=>⟨x.2,.inl ⟨x.1,rfl⟩⟩
def xt5(c t x:Zl)(a:t.length<=4096)(w:Zy)(d:dF w)(b:Wh tv w):bE prog 159 #[.agg #[zs c,zs t],zs x] w fun e w'=>bC w.heap.size w w'/\((e= .returned (zs<|V1 t x)/\Hid (x.length<=4096))\/(e=eF tv/\Hid (4096<x.length))):=by
 by_cases h:x.length<=4096;exact(TC c t x a h w d).mono fun e w' y=>⟨y.2,.inl ⟨y.1,h⟩⟩;exact(OF c t x a (by omega) w b).mono fun e w' y=>⟨y.2,.inr ⟨y.1,by show _<_;omega⟩⟩
def S7(c t b x:Zl)(hk:c.length=16)(a:b.length=8)(w:Zy)(d:Wh tv w):bE prog 150 #[.agg #[zs c,zs t],zs b,zs x] w fun e w'=>bC w.heap.size w w'/\((e= .returned (zs<|iK c b x)/\Hid (x.length<=4096))\/(e=eF tv/\Hid (4096<x.length))):=by
 by_cases h:x.length<=4096;exact(ZI c t b x hk a h w).mono fun e w' y=>⟨y.2,.inl ⟨y.1,h⟩⟩;exact(zuk c t b x hk a (by omega) w d).mono fun e w' y=>⟨y.2,.inr ⟨y.1,by show _<_;omega⟩⟩
def xw1(l:Zl)(q:l.length<=100000)(w:Zy)(f:1<w.heap.size)(m:Wh tv w):bE prog 302 #[zs l] w fun e w'=>Nw w w'/\((∃D g cap,e= .returned (.slice (bO ⟨g,0,bN⟩) (D.length:Nat) cap)/\w.heap.size<=g/\uU w' g D/\D.length<=20/\Hid (nZ l=bO D))\/(e=eF tv/\Hid (nZ l=bN))):=by
 refine(zot l q w f m).mono ?_;rintro e w' ⟨k,c⟩;refine⟨k,?_⟩;cases hc:nZ l with
 |none=>rw[hc]at c;exact .inr ⟨c,rfl⟩
 |some D=>
  rw[hc]at c;obtain⟨v,rfl,r⟩:=c;have b:1<=D.length/\D.length<=20:=by
   unfold nZ at hc;split at hc;split at hc
   rename_i hh;cases hc;exact hh
   cases hc;cases hc
  rcases r.2 with⟨_,t⟩|⟨g,cap,d,rfl,o,n,x,j,s,a⟩;omega;refine .inl ⟨D,g,cap,rfl,o,?_,b.2,rfl⟩;intro i p;simp only[World.cell?,n];have h:(d.toList.take<|D.length*1)[i]?=(D.map iC)[i]?:=by rw[a]
  rw[List.getElem?_take_of_lt<|by omega]at h;simpa[p]using h
def lU(kind:Zl)(ep cnt:Nat)(head body tag:Zl):Za:=#[.string<|st kind,.int .i64 (ep:Int),.int .i64 (cnt:Int),.string<|st head,.string<|st body,.string<|st tag]
def lN(k:Lk)(L:KV)(isR:Bool)(cnt:Nat)(head body tag:Zl):Option<|Lk×KV:=
 if 4096<(k.tag++head++body).length then bN
 else if tag≠V1 (Jm k.m k.ep) (k.tag++head++body)then bN
 else if isR then
  (match nZ (iK (Xz k.m k.ep) (head.take 8) body)with
  |some D=>bO ({k with cnt:=cnt,ahead:=k.tag,tag:=tag},cO L D)
  |none=>bN)
 else bO ({k with cnt:=cnt,ahead:=k.tag,tag:=tag},L)
def d_{k:Lk}{r:Bool}(e:k.tag++a++body=b)(h:4096<b.length):lN k L r cnt a body tag=bN:=by simp[lN,e,h]
def D6{k:Lk}{r:Bool}(e:k.tag++a++body=b)(h:tag≠V1 (Jm k.m k.ep) b):lN k L r cnt a body tag=bN:=by
 unfold lN;rw[e];by_cases c:4096<b.length;rw[aA c];rw[aB c,aA h]
def D_{k:Lk}{a body tag:Zl}(h:nZ (iK (Xz k.m k.ep) (a.take 8) body)=bN):lN k L bL cnt a body tag=bN:=by
 unfold lN;split;rfl;split;rfl;simp[h]
def zu2{k:Lk}{D:List dM}(e:k.tag++a++body=b)(d:b.length<=4096)(c:tag=V1 (Jm k.m k.ep) b)(h:nZ (iK (Xz k.m k.ep) (a.take 8) body)=bO D):lN k L bL cnt a body tag=bO ({k with cnt:=cnt,ahead:=k.tag,tag:=tag},cO L D):=by
 unfold lN;rw[e,aB<|by omega,aB<|by simpa using c];simp[h]
def TT{k:Lk}(e:k.tag++a++body=b)(d:b.length<=4096)(c:tag=V1 (Jm k.m k.ep) b):lN k L bK cnt a body tag=bO ({k with cnt:=cnt,ahead:=k.tag,tag:=tag},L):=by
 unfold lN;rw[e,aB<|by omega,aB<|by simpa using c];simp
def jJ(k:Lk)(L:KV)(kind:Zl)(ep cnt:Nat)(head body tag:Zl):Option<|Lk×KV:=
 if cnt≠k.cnt+1 then bN
 else if kind=[82]then(if ep=k.ep then lN k L bL cnt head body tag else bN)
 else if kind=[75]then(if ep=k.ep+1/\ep<=5/\body=[]then lN {k with ep:=ep} L bK cnt head body tag else bN)
 else bN
def yL(tv:Zv)(b mp:Nat)(o:Option<|Lk×KV)(w:Zy)(e:Ending)(w':Zy):Prop:=
 match o with
 |some (k',L')=>e= .returned (.tuple #[])/\xb (fun x=>x=b\/x=mp) w w'/\Xa w' b k'/\Xd w' mp L'
 |none=>e=eF tv/\xb (fun x=>x=b\/x=mp) w w'
def Xk{b mp:Nat}{o:Option<|Lk×KV}(h:o=bN)(a:xb (fun x=>x=b\/x=mp) w w'):yL tv b mp o w (eF tv) w':=by subst h;exact⟨rfl,a⟩
def zap{b mp:Nat}{k':Lk}{L':KV}{o:Option<|Lk×KV}(h:o=bO (k',L'))(a:xb (fun x=>x=b\/x=mp) w w')(c:Xa w' b k')(d:Xd w' mp L'):yL tv b mp o w (.returned<|.tuple #[]) w':=by subst h;exact⟨rfl,a,c,d⟩
def zou(b:Nat)(k:Lk)(L:KV)(hm:k.m.length=32)(kind a body tag:Zl)(ep cnt:Nat)(ct:k.ep<=255)(cs:k.cnt<4294967296)(co:a.length=10)(ce:body.length<=65535)(ht:k.tag.length=32)(w:Zy)(b3:1<w.heap.size)(cc:b≠1)(cd:b≠2)(hm1:k.mp≠1)(cu:k.mp≠2)(T:b≠k.mp)(hb:Xa w b k)(hs:Xd w k.mp L)(hT:dF w)(hG:Wh tv w):
  bE prog 261 #[zo b,.agg<|lU kind ep cnt a body tag] w (yL tv b k.mp (jJ k L kind ep cnt a body tag) w):=by
 have HB:Hid<|Xa w b k:=hb;have HT:Hid<|dF w:=hT;have HG:Hid<|Wh tv w:=hG;have HS:Hid<|Xd w k.mp L:=hs;have cr:=hb.lt;have cv:=hs.lt;have e1:IntKind.i64.wrap ((k.cnt:Int)+1)=(k.cnt:Int)+1:=by rw[xn];omega
 have X:Hid (jJ k L kind ep cnt a body tag=if cnt≠k.cnt+1 then bN
  else if kind=[82]then(if ep=k.ep then lN k L bL cnt a body tag else bN)
  else if kind=[75]then(if ep=k.ep+1/\ep<=5/\body=[]then lN {k with ep:=ep} L bK cnt a body tag else bN)
  else bN):=rfl
 clear hb hT hG hs;unfold lU;go_enter func261.1,Tryz.ntmps261
 go_wp2
 have L0:Hid<|Xa (w.alloc<|.cells (lU kind ep cnt a body tag) 342) b k:=xx.alloc HB.o _;have R0:Hid<|xx (w.alloc<|.cells (lU kind ep cnt a body tag) 342) w.heap.size (lU kind ep cnt a body tag) 342:=xx.new _ _ _;have G0:Hid<|Wh tv<|w.alloc<|.cells (lU kind ep cnt a body tag) 342:=HG.o.alloc _;have A0:Hid<|xb (fun x=>x=b\/x=k.mp) w<|w.alloc<|.cells (lU kind ep cnt a body tag) 342:=xb.alloc _;have M0:Hid<|Xd (w.alloc<|.cells (lU kind ep cnt a body tag) 342) k.mp L:=HS.o.but (S:=fun _=>False) (xb.alloc _) id;have T0:Hid<|dF<|w.alloc<|.cells (lU kind ep cnt a body tag) 342:=HT.o.but (S:=fun _=>False) (xb.alloc _) id;have E:(w.alloc<|.cells #[zs kind,zi ep,zi cnt,zs a,zs body,zs tag] 342)=w.alloc (.cells (lU kind ep cnt a body tag) 342):=rfl;rw[E];clear E HB HT HG HS;generalize w.alloc (.cells (lU kind ep cnt a body tag) 342)=w0 at*;have c1:w0.cell? (zq w.heap.size 2)=bO (zi cnt):=R0.o.cell 2 rfl;have c2:w0.cell? (zq b 8)=bO (zi k.cnt):=xx.cell L0.o 8 rfl
 go_still_tail 8,(by kernel_rfl)
 go_wp2
 by_cases hq:cnt=k.cnt+1;rotate_left;have V:((cnt:Int)==(k.cnt:Int)+1)=bK:=by rw[Xy];omega
 rw[V];refine(Xu _ rfl _ G0.o.drew).mono ?_;rintro e w1 ⟨rfl,rfl⟩;exact⟨rfl,Xk (by rw[X.o,aA hq]) A0.o.drew⟩;have V:((cnt:Int)==(k.cnt:Int)+1)=bL:=by rw[Ju];omega
 rw[V];refine(Yb _ rfl _).mono ?_;rintro e w1 ⟨rfl,rfl⟩;have HQ:Hid<|cnt=k.cnt+1:=hq;clear hq;have L1:Hid<|Xa w0.drew b k:=L0.o.drew;have G:Hid<|xx w0.drew w.heap.size (lU kind ep cnt a body tag) 342:=R0.o.drew;have K:Hid<|Wh tv w0.drew:=G0.o.drew;have J:Hid<|xb (fun x=>x=b\/x=k.mp) w w0.drew:=A0.o.drew;have M1:Hid<|Xd w0.drew k.mp L:=M0.o.drew;have T1:Hid<|dF w0.drew:=T0.o.drew;clear L0 R0 G0 A0 M0 T0 c1 c2 V;generalize w0.drew=w1 at*;have d0:w1.cell? (zq w.heap.size 0)=bO (zs kind):=G.o.cell 0 rfl;have kR:((st kind).toList==[82])=decide (kind=[82]):=by rw[xo];by_cases h:kind=[82]<;>simp[h]
 have kK:((st kind).toList==[75])=decide (kind=[75]):=by rw[xo];by_cases h:kind=[75]<;>simp[h]
 by_cases hR:kind=[82]
 focus
  have cj:((st kind).toList==[82])=bL:=by rw[kR];simp[hR]
  have HR:Hid<|kind=[82]:=hR;clear kR kK hR;have d1:w1.cell? (zq w.heap.size 1)=bO (zi ep):=G.o.cell 1 rfl;have d2:w1.cell? (zq b 5)=bO (zi k.ep):=xx.cell L1.o 5 rfl
  go_wp2
  go_still_tail 7,(by kernel_rfl)
  go_wp2
  by_cases he:ep=k.ep;rotate_left;have V:((ep:Int)==(k.ep:Int))=bK:=by rw[Xy];omega
  rw[V];refine(Xu _ rfl _ K.o.drew).mono ?_;rintro e i ⟨rfl,rfl⟩;exact⟨rfl,Xk (by rw[X.o,aB<|by have:=HQ.o;omega,aA HR.o,aB he]) J.o.drew⟩;have V:((ep:Int)==(k.ep:Int))=bL:=by rw[Ju];omega
  rw[V];refine(Yb _ rfl _).mono ?_;rintro e i ⟨rfl,rfl⟩;obtain⟨q,f⟩:∃q,k=q:=⟨_,rfl⟩;have cg:q.tag.length=32:=by rw[<-f];exact ht
  have bp:Hid<|k.mp=q.mp:=by show _=_;rw[f]
  have n:Hid<|jJ k L kind ep cnt a body tag=lN q L bL cnt a body tag:=by show _=_;rw[X.o,aB<|by have:=HQ.o;omega,aA HR.o,aA he,f]
  have L2:Hid<|Xa w1.drew b q:=by rw[<-f];exact L1.o.drew
  have R2:Hid<|xx w1.drew w.heap.size (lU kind ep cnt a body tag) 342:=G.o.drew;have G2:Hid<|Wh tv w1.drew:=K.o.drew;have A2:Hid<|xb (fun x=>x=b\/x=k.mp) w w1.drew:=J.o.drew;have M2:Hid<|Xd w1.drew k.mp L:=M1.o.drew;have T2:Hid<|dF w1.drew:=T1.o.drew;clear L1 G K J M1 T1 d0 d1 d2 V he X f;generalize w1.drew=i at*
 rotate_left
 focus
  have cj:((st kind).toList==[82])=bK:=by rw[kR];simp[hR]
  have HR:Hid<|kind≠[82]:=hR;clear kR hR;by_cases hK:kind=[75];rotate_left
  ·have ci:((st kind).toList==[75])=bK:=by rw[kK];simp[hK]
   obtain⟨ti,xi,bh,ca⟩:=K.o;have b7:Hid<|tv= .iface ti xi:=bh;rw[bh]at ca;have HN:Hid<|jJ k L kind ep cnt a body tag=bN:=by show _=_;rw[X.o,aB<|by have:=HQ.o;omega,aB HR.o,aB hK]
   clear kK bh
   go_wp2
   exact⟨rfl,by have:=Xk (tv:=tv) HN.o J.o;rw[b7.o]at this⊢;exact this⟩
  have ci:((st kind).toList==[75])=bL:=by rw[kK];simp[hK]
  have HK:Hid<|kind=[75]:=hK;clear kK hK;have f1:IntKind.i64.wrap ((k.ep:Int)+1)=(k.ep:Int)+1:=by rw[xn];omega
  have HC:Hid<|∀c,c=w1.drew->c.cell? (zq w.heap.size 1)=bO (zi ep)/\c.cell? (zq b 5)=bO (zi k.ep)/\c.cell? (zq w.heap.size 4)=bO (zs body):=fun c h=>by subst h;exact⟨G.o.cell 1 rfl,xx.cell L1.o 5 rfl,G.o.cell 4 rfl⟩
  have H:=HC.o _ rfl;have HN:Hid<|¬(ep=k.ep+1/\ep<=5/\body=[])->jJ k L kind ep cnt a body tag=bN:=fun hh=>by rw[X.o,aB<|by have:=HQ.o;omega,aB HR.o,aA HK.o,aB hh]
  have qa:((ep:Int)==(k.ep:Int)+1)=decide (ep=k.ep+1):=by by_cases h:ep=k.ep+1<;>simp[h];omega
  have qc:((st body).toList==[])=decide (body=[]):=by rw[xo];by_cases h:body=[]<;>simp[h]
  have d1:w1.cell? (zq w.heap.size 1)=bO (zi ep):=G.o.cell 1 rfl;have d2:w1.cell? (zq b 5)=bO (zi k.ep):=xx.cell L1.o 5 rfl;have d4:w1.cell? (zq w.heap.size 4)=bO (zs body):=G.o.cell 4 rfl;by_cases hA:ep=k.ep+1;rotate_left
  ·have ck:((ep:Int)==(k.ep:Int)+1)=bK:=by rw[qa];simp[hA]
   clear qa
   go_wp2
   go_still_tail 18,(by kernel_rfl)
   go_wp2
   refine(Xu _ rfl _ K.o.drew).mono ?_;rintro e i ⟨rfl,rfl⟩;exact⟨rfl,Xk (HN.o fun h=>hA h.1) J.o.drew⟩
  have ck:((ep:Int)==(k.ep:Int)+1)=bL:=by rw[qa];simp[hA]
  have HA:Hid<|ep=k.ep+1:=hA;clear qa hA;by_cases hB:ep<=5;rotate_left
  ·have b9:decide ((ep:Int)<=5)=bK:=by simp;omega
   have cp:¬(ep:Int)<=5:=by omega
   go_wp2
   go_still_tail 18,(by kernel_rfl)
   go_wp2
   refine(Xu _ rfl _ K.o.drew).mono ?_;rintro e i ⟨rfl,rfl⟩;exact⟨rfl,Xk (HN.o fun h=>hB h.2.1) J.o.drew⟩
  have b9:(ep:Int)<=5:=by omega
  by_cases hC:body=[];rotate_left
  ·have cl:((st body).toList==[])=bK:=by rw[qc];simp[hC]
   have ba:Hid<|body≠[]:=hC;clear qc hC
   go_wp2
   go_still_tail 18,(by kernel_rfl)
   go_wp2
   refine(Xu _ rfl _ K.o.drew).mono ?_;rintro e i ⟨rfl,rfl⟩;exact⟨rfl,Xk (HN.o fun h=>ba.o h.2.2) J.o.drew⟩
  have cl:((st body).toList==[])=bL:=by rw[qc];simp[hC]
  have ba:Hid<|body=[]:=hC;clear qc hC
  go_wp2
  go_still_tail 18,(by kernel_rfl)
  go_wp2
  refine(Yb _ rfl _).mono ?_;rintro e i ⟨rfl,rfl⟩;have bs:Hid<|Xa w1.drew b k:=L1.o.drew;have bd:Hid<|xx w1.drew w.heap.size (lU kind ep cnt a body tag) 342:=G.o.drew;have bk:Hid<|Wh tv w1.drew:=K.o.drew;have bj:Hid<|xb (fun x=>x=b\/x=k.mp) w w1.drew:=J.o.drew;have bt:Hid<|Xd w1.drew k.mp L:=M1.o.drew;have be:Hid<|dF w1.drew:=T1.o.drew;clear L1 G K J M1 T1 d0 d1 d2 d4 H HC HN;generalize w1.drew=wz at*;have d1:wz.cell? (zq w.heap.size 1)=bO (zi ep):=bd.o.cell 1 rfl
  go_wp2
  refine(JX b k hm ep _ bs.o be.o).mono ?_;rintro e i ⟨rfl,bv,bf⟩;have y:Hid (xb (·=b) wz i):=bv;obtain⟨q,f⟩:∃q:Lk,{k with ep:=ep}=q:=⟨_,rfl⟩;have cg:q.tag.length=32:=by rw[<-f];exact ht
  have bp:Hid<|k.mp=q.mp:=by show _=_;rw[<-f]
  have n:Hid<|jJ k L kind ep cnt a body tag=lN q L bK cnt a body tag:=by show _=_;rw[X.o,aB<|by have:=HQ.o;omega,aB HR.o,aA HK.o,aA ⟨HA.o,hB,ba.o⟩,f]
  have L2:Hid<|Xa i b q:=by rw[f]at bf;exact bf
  have R2:Hid<|xx i w.heap.size (lU kind ep cnt a body tag) 342:=bd.o.but y.o (by omega);have G2:Hid<|Wh tv i:=bk.o.but y.o<|aL cc;have A2:Hid<|xb (fun x=>x=b\/x=k.mp) w i:=bj.o.trans<|y.o.mono fun _ h=> .inl h;have M2:Hid<|Xd i k.mp L:=bt.o.but y.o<|aL T;have T2:Hid<|dF i:=be.o.but y.o<|aL cd;clear bs bd bk bj bt be d1 f bv bf y X
 all_goals
  have d3:i.cell? (zq w.heap.size 3)=bO (zs a):=R2.o.cell 3 rfl;have z1:¬9223372036854775807<42+body.length:=by omega
  have z2:¬9223372036854775765<body.length:=by omega
  have cm:(Jm q.m q.ep).length=32:=SQ _ _ 32 (by decide);have bu:(Xz q.m q.ep).length=16:=SQ _ _ 16 (by decide);obtain⟨I,b2⟩:∃I,q.tag++a++body=I:=⟨_,rfl⟩;have o:Hid<|q.tag++a++body=I:=b2;clear b2;have KM:Hid<|∀c s,s=st I->dF c->Wh tv c->bE prog 159 #[.agg #[zs<|Xz q.m q.ep,zs<|Jm q.m q.ep],.string s] c fun e r=>bC c.heap.size c r/\((e= .returned (zs<|V1 (Jm q.m q.ep) I)/\Hid (I.length<=4096))\/(e=eF tv/\Hid (4096<I.length))):=fun c s hs h h'=>hs▸xt5 _ _ I (by omega) c h h';obtain⟨tg,bg⟩:∃tg,V1 (Jm q.m q.ep) I=tg:=⟨_,rfl⟩;have C:Hid<|V1 (Jm q.m q.ep) I=tg:=bg;rw[bg]at KM;clear bg;have HC:Hid<|∀c,bC i.heap.size i c->c.cell? (zq w.heap.size 3)=bO (zs a)/\c.cell? (zq w.heap.size 4)=bO (zs body)/\c.cell? (zq w.heap.size 5)=bO (zs tag)/\c.cell? (zq b 6)=bO (zs<|Xz q.m q.ep)/\c.cell? (zq b 7)=bO (zs<|Jm q.m q.ep)/\c.cell? (zq b 9)=bO (zs q.tag):=fun c h=>by
   have r3:=R2.o.below h;have l3:=xx.below L2.o h;exact⟨r3.cell 3 rfl,r3.cell 4 rfl,r3.cell 5 rfl,l3.cell 6 rfl,l3.cell 7 rfl,l3.cell 9 rfl⟩
  have H:=HC.o i<|zr _ _
  go_wp2
  go_region_held2 (fun r=>r.cell? (zq w.heap.size 3)=bO (zs a)/\r.cell? (zq w.heap.size 4)=bO (zs body)/\r.cell? (zq w.heap.size 5)=bO (zs tag)/\r.cell? (zq b 6)=bO (zs<|Xz q.m q.ep)/\r.cell? (zq b 7)=bO (zs<|Jm q.m q.ep)/\r.cell? (zq b 9)=bO (zs q.tag)) (first|exact H|exact R)
   (first
    |(go_at_call 159;refine(KM.o _ _ (by rw[<-o.o];simp only[zv,Zq]) T2.o.drew G2.o.drew).mono ?_;rintro e c ⟨bw,⟨rfl,v⟩|⟨rfl,v⟩⟩;rotate_left;(exact⟨rfl,Xk (by rw[n.o];exact d_ o.o v.o)<|A2.o.trans<|xb.of_below<|(zr _ _).drew.trans bw⟩);have l:Hid<|bC i.heap.size i c:=(zr _ _).drew.trans bw;have R:=HC.o c l.o)
    |(go_at_call 152;refine(AQ _ _<|Wh.of_below G2.o l.o).mono ?_;rintro e d ⟨bi,cf⟩;obtain rfl:c=d:=bi.symm;rcases cf with⟨rfl,O⟩|⟨rfl,O⟩;rotate_left;(exact⟨rfl,Xk (by rw[n.o];exact D6 o.o<|by rw[C.o];intro hh;have:=O.o;rw[hh]at this;simp at this)<|A2.o.trans<|xb.of_below l.o⟩)))
  have Q:Hid<|tag=tg:=by have:=O.o;rw[Ju,xo,xo]at this;exact this
  have L3:Hid<|Xa c b q:=xx.below L2.o l.o;have R3:Hid<|xx c w.heap.size (lU kind ep cnt a body tag) 342:=R2.o.below l.o;have G3:Hid<|Wh tv c:=Wh.of_below G2.o l.o;have A3:Hid<|xb (fun x=>x=b\/x=k.mp) w c:=A2.o.trans<|xb.of_below l.o;have M3:Hid<|Xd c k.mp L:=M2.o.but (S:=fun _=>False) (xb.of_below l.o) id;have cw:1<c.heap.size:=zn b3 A3.o.size;clear H HC KM d3 O l L2 R2 G2 A2 M2 T2
  try clear R
  try clear hHeld
  have d0:c.cell? (zq w.heap.size 0)=bO (zs kind):=R3.o.cell 0 rfl
  go_wp2
 rotate_left
 focus
  have h8:(8:Int)<=(a.length:Int):=by omega
  have e8:(a.take 8).length=8:=by simp;omega
  have bb:Hid<|∀d,bC c.heap.size c d->d.cell? (zq w.heap.size 3)=bO (zs a)/\d.cell? (zq w.heap.size 4)=bO (zs body)/\d.cell? (zq b 6)=bO (zs<|Xz q.m q.ep)/\d.cell? (zq b 7)=bO (zs<|Jm q.m q.ep):=fun d h=>by
   have r3:=R3.o.below h;have l3:=xx.below L3.o h;exact⟨r3.cell 3 rfl,r3.cell 4 rfl,l3.cell 6 rfl,l3.cell 7 rfl⟩
  have H:=bb.o c<|zr _ _;have KS:Hid<|∀d s,s=st (a.take 8)->Wh tv d->bE prog 150 #[.agg #[zs<|Xz q.m q.ep,zs<|Jm q.m q.ep],.string s,zs body] d fun e r=>bC d.heap.size d r/\((e= .returned (zs<|iK (Xz q.m q.ep) (a.take 8) body)/\Hid (body.length<=4096))\/(e=eF tv/\Hid (4096<body.length))):=fun d s hs h=>hs▸S7 _ _ _ _ bu e8 d h
  go_region_held2 (fun r=>r.cell? (zq w.heap.size 3)=bO (zs a)/\r.cell? (zq w.heap.size 4)=bO (zs body)/\r.cell? (zq b 6)=bO (zs<|Xz q.m q.ep)/\r.cell? (zq b 7)=bO (zs<|Jm q.m q.ep)) (first|exact H|exact R)
   ((go_at_call 150;refine(KS.o _ _ (yN a 8) G3.o.drew).mono ?_;rintro e d ⟨bx,⟨rfl,bm⟩|⟨rfl,bm⟩⟩;rotate_left;(exfalso;have:=bm.o;have:=v.o;have:=congrArg List.length o.o;simp at this;omega);have t:Hid<|bC c.heap.size c d:=(zr _ _).drew.trans bx;have R:=bb.o d t.o))
  have L4:Hid<|Xa d b q:=xx.below L3.o t.o;have R4:Hid<|xx d w.heap.size (lU kind ep cnt a body tag) 342:=R3.o.below t.o;have G4:Hid<|Wh tv d:=Wh.of_below G3.o t.o;have A4:Hid<|xb (fun x=>x=b\/x=k.mp) w d:=A3.o.trans<|xb.of_below t.o;have M4:Hid<|Xd d k.mp L:=M3.o.but (S:=fun _=>False) (xb.of_below t.o) id;have bi:1<d.heap.size:=zn b3 A4.o.size;clear bb KS d0 t L3 R3 G3 A3 M3 H
  try clear R
  try clear hHeld
  obtain⟨pl,U⟩:∃pl,iK (Xz q.m q.ep) (a.take 8) body=pl:=⟨_,rfl⟩;have bq:Hid<|iK (Xz q.m q.ep) (a.take 8) body=pl:=U;have b1:pl.length<=100000:=by rw[<-U,yJ];omega
  rw[U];clear U;have bc:Hid<|∀F,Nw d F->F.cell? (zq b 4)=bO (.map<|bO k.mp):=fun F h=>by
   have l5:Xa F b q:=xx.but L4.o h id;rw[bp.o];exact xx.cell l5 4 rfl
  have H:=bc.o d<|xb.refl _ _
  go_wp2
  go_region_held2 (fun r=>r.cell? (zq b 4)=bO (.map<|bO k.mp)) (first|exact H|exact R|exact S2)
   (first
    |(go_at_call 302;refine(xw1 pl b1 d.drew bi G4.o.drew).mono ?_;rintro e F ⟨p,⟨D,g,b8,rfl,b0,br,cq,M⟩|⟨rfl,M⟩⟩;rotate_left;(exact⟨rfl,Xk (by rw[n.o];exact D_<|by rw[bq.o];exact M.o)<|A4.o.trans<|xb.mono (⟨p.os,p.output,p.size,p.block⟩:Nw d F) fun _ h=>h.elim⟩);have z:Hid<|Nw d F:=⟨p.os,p.output,p.size,p.block⟩;have R:=bc.o F z.o;have bl:Hid<|d.heap.size<=g:=b0;have Y:Hid<|uU F g D:=br;clear b0 br)
    |(go_at_call 84;refine(QY k.mp g b8 L D (by omega) F (M4.o.but z.o id) Y.o<|by have:=bl.o;have:=A4.o.size;omega).mono ?_;rintro e j ⟨rfl,bz,bo⟩;have B:Hid (xb (·=k.mp) F j):=bz;have W:Hid<|Xd j k.mp<|cO L D:=bo;have S2:j.cell? (zq b 4)=bO (.map<|bO k.mp):=B.o.cell T R;clear bz bo))
  have Z:Hid<|Xa j b q:=xx.but (xx.but L4.o z.o id) B.o T;have R5:Hid<|xx j w.heap.size (lU kind ep cnt a body tag) 342:=xx.but (R4.o.but z.o id) B.o (by omega);have A5:Hid<|xb (fun x=>x=b\/x=k.mp) w j:=(A4.o.trans<|xb.mono z.o fun _ h=>h.elim).trans<|B.o.mono fun _ h=> .inr h;have bn:Hid<|jJ k L kind ep cnt a body tag=bO ({q with cnt:=cnt,ahead:=q.tag,tag:=tag},cO L D):=by show _=_;rw[n.o];exact zu2 o.o v.o (by rw[C.o];exact Q.o)<|by rw[bq.o];exact M.o
  clear bc z B L4 R4 G4 A4 M4 H bl Y M
  try clear R
  try clear S2
  try clear hHeld
  generalize cO L D=L6 at*;clear n o C Q v
 rotate_left
 focus
  have bn:Hid<|jJ k L kind ep cnt a body tag=bO ({q with cnt:=cnt,ahead:=q.tag,tag:=tag},L):=by show _=_;rw[n.o];exact TT o.o v.o<|by rw[C.o];exact Q.o
  have Z:Hid<|Xa c b q:=L3.o;have R5:Hid<|xx c w.heap.size (lU kind ep cnt a body tag) 342:=R3.o;have A5:Hid<|xb (fun x=>x=b\/x=k.mp) w c:=A3.o;have W:Hid<|Xd c k.mp L:=M3.o;clear L3 R3 G3 A3 M3 d0;clear n o C Q v;obtain⟨j,ch⟩:∃j,j=c:=⟨_,rfl⟩;obtain⟨L6,cb⟩:∃L6,L6=L:=⟨_,rfl⟩;subst ch cb
 all_goals
  have i2:j.cell? (zq w.heap.size 2)=bO (zi cnt):=R5.o.cell 2 rfl;have i5:j.cell? (zq w.heap.size 5)=bO (zs tag):=R5.o.cell 5 rfl;have j8:j.cell? (zq b 8)=bO (zi q.cnt):=xx.cell Z.o 8 rfl;have j9:j.cell? (zq b 9)=bO (zs q.tag):=xx.cell Z.o 9 rfl;have cx:j.cell? (zq b 10)=bO (zs q.ahead):=xx.cell Z.o 10 rfl;have g8:=xx.bT Z.o 8;have g9:=xx.bT Z.o 9;have cn:=xx.bT Z.o 10
  go_wp2
  have LE:Xa (((j.setCell (zq b 8)<|zi cnt).setCell (zq b 10)<|zs q.tag).setCell (zq b 9)<|zs tag).drew b {q with cnt:=cnt,ahead:=q.tag,tag:=tag}:=(((xx.set Z.o 8<|zi cnt).set 10<|zs q.tag).set 9<|zs tag).drew;have BS:xb (fun x=>x=b) j (((j.setCell (zq b 8)<|zi cnt).setCell (zq b 10)<|zs q.tag).setCell (zq b 9)<|zs tag).drew:=(((xb.set j (zq b 8)<|zi cnt).trans<|xb.set _ (zq b 10)<|zs q.tag).trans<|xb.set _ (zq b 9)<|zs tag).drew;have AE:xb (fun x=>x=b\/x=k.mp) w (((j.setCell (zq b 8)<|zi cnt).setCell (zq b 10)<|zs q.tag).setCell (zq b 9)<|zs tag).drew:=A5.o.trans<|BS.mono fun _ h=> .inl h;have ME:Xd (((j.setCell (zq b 8)<|zi cnt).setCell (zq b 10)<|zs q.tag).setCell (zq b 9)<|zs tag).drew k.mp L6:=W.o.but BS<|aL T;have b5:Hid<|Xa _ b _:=LE;have b4:Hid<|xb _ w _:=AE;have b6:Hid<|Xd _ k.mp _:=ME;clear LE BS AE ME;have cy:¬w.heap.size=b:=by omega
  have cz:¬b=w.heap.size:=by omega
  go_region_with (fail)
  all_goals (go_end0;exact zap bn.o b4.o b5.o b6.o)
structure Lk.ok(k:Lk):Prop where
 m:k.m.length=32
 ep:k.ep<=255
 cnt:k.cnt<4294967296
 tag:k.tag.length=32
def xqj(l:Zl):eT l<=65535:=by
 unfold eT;have h:=LF<|(l.drop 8).take 2;have:((l.drop 8).take 2).length<=2:=by rw[xt];omega
 have:256^((l.drop 8).take 2).length<=256^2:=PM (by decide) this;omega
def lY(k:Lk)(L:KV)(l:Zl):Option<|Lk×KV:=jJ k L (l.take 1) (Zk<|(l.drop 1).take 1) (Zk<|(l.drop 4).take 4) (l.take 10) ((l.drop 10).take<|eT l)<|(l.drop<|10+eT l).take 32
def oF:Nat->Lk->KV->Zl->Option (Lk×KV×Zl)
 |0,k,L,l=>bO (k,L,l)
 |n+1,k,L,l=>if X7 l=bL then(match lY k L l with
   |some (k',L')=>oF n k' L'<|l.drop<|42+eT l
   |none=>bN)else bO (k,L,l)
def Wa(h:X7 l=bL):42+eT l<=l.length:=by
 obtain⟨b,a⟩:10<=l.length/\42+eT l<=l.length:=by simpa[X7]using h
 exact a
def Om:∀(n m:Nat) (k:Lk) (L:KV) (l:Zl),l.length<=n->l.length<=m->oF n k L l=oF m k L l
 |0,0,_,_,_,_,_=>rfl
 |0,m+1,k,L,l,h,_=>by
  have:l=[]:=xa (by omega);subst this;simp[oF,X7]
 |n+1,0,k,L,l,_,h=>by
  have:l=[]:=xa (by omega);subst this;simp[oF,X7]
 |n+1,m+1,k,L,l,h1,h2=>by
  unfold oF;by_cases a:X7 l=bL;have:=Wa a;rw[aA a,aA a];cases lY k L l with
  |none=>rfl
  |some q=>exact Om n m q.1 q.2 _ (by rw[jb];omega)<|by rw[jb];omega
  rw[aB a,aB a]
def recs(k:Lk)(L:KV)(l:Zl):Option<|Lk×KV×Zl:=oF l.length k L l
def KH{k:Lk}(h:X7 l=bK):recs k L l=bO (k,L,l):=by
 unfold recs;cases hl:l.length with
 |zero=>rfl
 |succ n=>unfold oF;rw[aB<|by simp[h]]
def zX{k k':Lk}{L L':KV}(h:X7 l=bL)(b:lY k L l=bO (k',L')):recs k L l=recs k' L' (l.drop<|42+eT l):=by
 have:=Wa h;unfold recs;obtain⟨n,a⟩:∃n,l.length=n+1:=⟨l.length-1,by omega⟩;rw[a];show(if X7 l=bL then _ else _)=_;rw[aA h,b];exact Om _ _ _ _ _ (by rw[jb];omega)<|ze _
def JJ{k:Lk}(h:X7 l=bL)(b:lY k L l=bN):recs k L l=bN:=by
 have:=Wa h;unfold recs;obtain⟨n,a⟩:∃n,l.length=n+1:=⟨l.length-1,by omega⟩;rw[a];show(if X7 l=bL then _ else _)=_;rw[aA h,b]
def DW{k k':Lk}{L L':KV}{r:Bool}{a body tag:Zl}(h:lN k L r cnt a body tag=bO (k',L')):k'={k with cnt:=cnt,ahead:=k.tag,tag:=tag}:=by
 unfold lN at h;split at h;cases h;split at h;cases h;split at h;split at h;cases h;rfl;cases h;cases h;rfl
def tU{k k':Lk}{L L':KV}{kind a body tag:Zl}{ep cnt:Nat}(h:jJ k L kind ep cnt a body tag=bO (k',L'))(hk:k.ok)(c:tag.length=32)(b:cnt<4294967296):k'.ok/\k'.mp=k.mp/\k'.last=k.last:=by
 unfold jJ at h;split at h;cases h;split at h;split at h;rw[DW h];exact⟨⟨hk.m,hk.ep,b,c⟩,rfl,rfl⟩;cases h;split at h;split at h
 rename_i hh
 rw[DW h];exact⟨⟨hk.m,show ep<=255 by omega,b,c⟩,rfl,rfl⟩;cases h;cases h
def Nq{k k':Lk}{L L':KV}(h:lY k L l=bO (k',L'))(b:X7 l=bL)(hk:k.ok):k'.ok/\k'.mp=k.mp/\k'.last=k.last:=by
 have a:=Wa b;refine tU h hk (by rw[xt,jb];omega) ?_;have h:=LF<|(l.drop 4).take 4;have e:((l.drop 4).take 4).length=4:=by rw[xt,jb];omega
 rw[e]at h;omega
def Wq(k:Lk)(L:KV)(num:Int)(len whole:Nat):Option<|Lk×KV:=
 if whole<len then(if num=k.last then bO ({k with dD:=bL,whole:=whole},L)else bN)else bO (k,L)
def eP(k:Lk)(L:KV)(num:Nat)(by_:Zl):Option<|Lk×KV:=
 if 9<=by_.length then
  (if by_.take 9≠83::(nb num 4++nb (k.cnt+1) 4)then bN
  else match recs k L (by_.drop 9)with
   |some (k',L',r)=>Wq k' L' num by_.length (if r.length=by_.length-9 then 0 else by_.length-r.length)
   |none=>bN)
 else Wq k L num by_.length 0
def rB{k:Lk}{a:Nat}{x:Zl}(h:¬9<=x.length):eP k L a x=Wq k L a x.length 0:=aB h
def qS{k:Lk}{a:Nat}{x:Zl}(h:9<=x.length)(b:x.take 9≠83::(nb a 4++nb (k.cnt+1) 4)):eP k L a x=bN:=by unfold eP;rw[aA h,aA b]
def zs0{k:Lk}{a:Nat}{x:Zl}(h:9<=x.length)(b:x.take 9=83::(nb a 4++nb (k.cnt+1) 4)):eP k L a x=match recs k L (x.drop 9)with
   |some (k',L',r)=>Wq k' L' a x.length (if r.length=x.length-9 then 0 else x.length-r.length)
   |none=>bN:=by unfold eP;rw[aA h,aB<|by simpa using b]
def Vw(num:Nat)(x:Zl):Za:=#[.int .i64 (num:Int),.string<|st x]
def xxi(b:Nat)(k:Lk)(hk:k.ok)(L:KV)(l:Zl)(n:X7 l=bL)(w:Zy)(f:1<w.heap.size)(a:b≠1)(c:b≠2)(hm1:k.mp≠1)(e:k.mp≠2)(d:b≠k.mp)(j:Xa w b k)(o:Xd w k.mp L)(i:dF w)(h:Wh tv w):
  bE prog 261 #[zo b,OQ l] w (yL tv b k.mp (lY k L l) w):=by
 have g:=Wa n;exact zou b k L hk.m _ _ _ _ _ _ hk.ep hk.cnt (by rw[xt];omega) (by have:=xqj l;rw[xt];omega) hk.tag w f a c hm1 e d j o i h
def znh(b:Nat)(k:Lk)(hk:k.ok)(L:KV)(a:Nat)(x:Zl)(hx:x.length<=100000)(w:Zy)(bl:1<w.heap.size)(cf:2<w.heap.size)(bu:b≠1)(bv:b≠2)(hm1:k.mp≠1)(bw:k.mp≠2)(V:b≠k.mp)(hb:Xa w b k)(hs:Xd w k.mp L)(hT:dF w)(hG:Wh tv w):
  bE prog 214 #[zo b,.agg<|Vw a x] w (yL tv b k.mp (eP k L a x) w):=by
 have H:=zl hb;have HT:=zl hT;have HG:=zl hG;have HS:=zl hs;have HK:=zl hk;have cc:=hb.lt;have cd:=hs.lt;have kc:=hk.cnt;have e1:IntKind.i64.wrap ((k.cnt:Int)+1)=((k.cnt+1:Nat):Int):=by rw[xn];omega
 clear hb hT hG hs hk;unfold Vw;go_enter func214.1,Tryz.ntmps214;have Q0:Hid<|xx (w.alloc<|.cells (Vw a x) 289) w.heap.size (Vw a x) 289:=xx.new _ _ _;have L0:Hid<|Xa (w.alloc<|.cells (Vw a x) 289) b k:=xx.alloc H.o _;have G0:=zl<|HG.o.alloc<|.cells (Vw a x) 289;have A0:Hid<|xb (fun y=>y=b\/y=k.mp) w<|w.alloc<|.cells (Vw a x) 289:=xb.alloc _;have M0:=zl<|HS.o.but (S:=fun _=>False) (xb.alloc<|.cells (Vw a x) 289) id;have T0:=zl<|HT.o.but (S:=fun _=>False) (xb.alloc<|.cells (Vw a x) 289) id;by_cases h9:9<=x.length
 ·have j9:(9:Int)<=(x.length:Int):=by omega
  have C1:Hid<|xx ((w.alloc<|.cells (Vw a x) 289).alloc<|.cells #[zs x] 277) (w.heap.size+1) #[zs x] 277:=by have h:=xx.new (w.alloc<|.cells (Vw a x) 289) #[zs x] 277;rwa[xh]at h
  have Q1:=zl<|Q0.o.alloc<|.cells #[zs x] 277;have L1:Hid<|Xa ((w.alloc<|.cells (Vw a x) 289).alloc<|.cells #[zs x] 277) b k:=xx.alloc L0.o _;have G1:=zl<|G0.o.alloc<|.cells #[zs x] 277;have A1:=zl<|A0.o.trans<|xb.alloc<|.cells #[zs x] 277;have M1:=zl<|M0.o.but (S:=fun _=>False) (xb.alloc<|.cells #[zs x] 277) id;have T1:=zl<|T0.o.but (S:=fun _=>False) (xb.alloc<|.cells #[zs x] 277) id;clear Q0 L0 G0 A0 M0 T0 H HT HG HS
  go_wp2
  have t:(w.alloc<|.cells #[zi a,zs x] 289)=(w.alloc<|.cells (Vw a x) 289):=rfl;rw[t];clear t;generalize(w.alloc<|.cells (Vw a x) 289).alloc (.cells #[zs x] 277)=w1 at*;have HC:Hid (∀n,xb (·=w.heap.size+1) w1 n->n.cell? (zq w.heap.size 0)=bO (zi a)/\n.cell? (zq b 8)=bO (zi k.cnt)):=fun n h=>by
   have r3:=Q1.o.but h (by omega);have l3:=xx.but L1.o h (by omega);exact⟨r3.cell 0 rfl,l3.cell 8 rfl⟩
  have S0:=HC.o w1<|xb.refl _ _;obtain⟨fb,W⟩:∃fb,(83::(nb a 4++nb (k.cnt+1) 4))=fb:=⟨_,rfl⟩;have T:=zl W;have KF:Hid<|∀n:Zy,bE prog 222 #[zi a,zi (k.cnt+1:Nat)] n fun e w'=>e= .returned (zs fb)/\bC n.heap.size n w':=fun n=>by rw[<-W];exact Lf a (k.cnt+1) n
  clear W
  go_region_held2 (fun w'=>w'.cell? (zq w.heap.size 0)=bO (zi a)/\w'.cell? (zq b 8)=bO (zi k.cnt)) (first|exact S0|exact S1|exact S2)
   (first
    |(go_at_call 207;refine(rJ (w:=w1.drew) C1.o.drew 9 9 rfl h9).mono ?_;rintro e Z ⟨rfl,s,bf⟩;have Q:Hid (xb (·=w.heap.size+1) w1 Z):=⟨s.os,s.output,s.size,s.block⟩;have bb:=zl bf;have S1:=HC.o Z Q.o;clear s bf)
    |(go_at_call 222;refine(KF.o _).mono ?_;rintro e n ⟨rfl,U⟩;have ba:=zl U;have f:=zl<|Q.o.trans<|xb.of_below U;have S2:=HC.o n f.o;clear U)
    |(go_at_call 152;refine(AQ _ _<|G1.o.but f.o<|by omega).mono ?_;rintro e w4 ⟨bm,bx⟩;obtain rfl:=bm.symm;rcases bx with⟨rfl,E⟩|⟨rfl,E⟩;rotate_left;(exact⟨rfl,Xk (qS h9<|by rw[T.o];intro hh;have:=E.o;rw[hh]at this;simp at this)<|A1.o.fresh (r:=w.heap.size+1) (by omega) f.o⟩)))
  have bc:Hid<|x.take 9=fb:=by have:=E.o;rw[Ju,xo,xo]at this;exact this
  have F:Hid (eP k L a x=match recs k L (x.drop 9)with
   |some (k',L',r)=>Wq k' L' a x.length (if r.length=x.length-9 then 0 else x.length-r.length)
   |none=>bN):=zs0 h9<|bc.o.trans T.o.symm
  have Q3:=zl (Q1.o.but f.o<|by omega);have C3:=zl<|bb.o.below ba.o;have L3:Hid<|Xa n b k:=xx.but L1.o f.o (by omega);have G3:=zl (G1.o.but f.o<|by omega);have A3:=zl<|A1.o.fresh (r:=w.heap.size+1) (by omega) f.o;have M3:=zl (M1.o.but f.o<|by omega);have T3:=zl (T1.o.but f.o<|by omega);clear HC KF S0 E f Q ba bb Q1 C1 L1 G1 A1 M1 T1 bc T;clear S1;clear S2
  try clear hHeld
  have bp:(x.drop 9).length=x.length-9:=by simp
  obtain⟨x9,O⟩:∃y,x.drop 9=y:=⟨_,rfl⟩;rw[O]at F C3 bp;clear O
  go_wp2
  go_loopw [4] (fun v wr=>∃(q:Lk) (J:KV) (r:Zl) (o:Nat),v=zi o/\q.ok/\q.mp=k.mp/\r.length<=x9.length/\o=(if r.length=x9.length then 0 else x.length-r.length)/\recs k L x9=recs q J r/\xx wr (w.heap.size+1) #[zs r] 277/\xx wr w.heap.size (Vw a x) 289/\Xa wr b q/\Wh tv wr/\xb (fun y=>y=b\/y=k.mp) w wr/\Xd wr k.mp J/\dF wr) (fun _ wr=>leftOf (w.heap.size+1) wr)
  case atStart=>exact⟨k,L,x9,0,rfl,HK.o,rfl,ze _,by simp,rfl,C3.o,Q3.o,L3.o,G3.o,A3.o,M3.o,T3.o⟩
  case round=>
   obtain⟨q,J,r,o,rfl,bi,bj,ce,bn,M,hC,hQ,hL,hG,hA,hM,hT⟩:=hrel;have be:=zl bn;have p:=zl M;have bd:=zl bi;have j:=zl bj;have Ct:=zl hC;have Qt:=zl hQ;have g:=zl hL;have Y:=zl hG;have At:=zl hA;have K:=zl hM;have Tt:=zl hT;have HZ:=zl<|DV hC;have c0:wr.cell? (zq (w.heap.size+1) 0)=bO (zs r):=hC.cell 0 rfl;clear bn M bi bj hC hQ hL hG hA hM hT Q3 C3 L3 G3 A3 M3 T3
   go_wp2
   refine(zug r _).mono ?_;rintro e D ⟨rfl,G⟩;have cg:=zn bl (At.o.trans<|G.mono fun _ h=>h.elim).size;have C5:=zl<|Ct.o.but G id;have Q5:=zl<|Qt.o.but G id;have L5:Hid<|Xa D b q:=xx.but g.o G id;have G5:=zl<|Y.o.but G id;have A5:=zl<|At.o.trans<|G.mono fun _ h=>h.elim;have M5:=zl<|K.o.but G id;have T5:=zl<|Tt.o.but G id;clear G Ct Qt g Y At K Tt c0;by_cases z:X7 r=bL
   ·rw[z]
    have m:=zl z;clear z
    go_wp2
    refine(LN (w.heap.size+1) r m.o _ C5.o).mono ?_;rintro e w6 ⟨rfl,X,k6⟩;have C6:=zl k6;have Q6:=zl (Q5.o.but X<|by omega);have L6:Hid<|Xa w6 b q:=xx.but L5.o X (by omega);have G6:=zl (G5.o.but X<|by omega);have A6:=zl<|A5.o.fresh (r:=w.heap.size+1) (by omega) X;have M6:=zl (M5.o.but X<|by omega);have T6:=zl (T5.o.but X<|by omega);have bz:=zn bl A6.o.size;clear X k6 C5 Q5 L5 G5 A5 M5 T5
    go_wp2
    refine(xxi (tv:=tv) b q bd.o J r m.o _ bz bu bv (by rw[j.o];exact hm1) (by rw[j.o];exact bw) (by rw[j.o];exact V) L6.o (by rw[j.o];exact M6.o) T6.o G6.o).mono ?_;intro e w7 hp;unfold yL at hp;cases hra:lY q J r with
    |none=>
     rw[hra]at hp;obtain⟨rfl,C⟩:=hp;rw[j.o]at C;exact⟨rfl,Xk (by rw[F.o,p.o,JJ m.o hra])<|A6.o.trans C⟩
    |some qq=>
     obtain⟨q2,L2⟩:=qq;rw[hra]at hp;obtain⟨rfl,C,l7,m7⟩:=hp;rw[j.o]at C m7;obtain⟨bg,bh,_⟩:=Nq hra m.o bd.o;have b5:=Wa m.o;have I:Hid<|recs k L x9=recs q2 L2 (r.drop<|42+eT r):=by show _=_;rw[p.o];exact zX m.o hra
     have i:Hid<|(r.drop<|42+eT r).length=r.length-(42+eT r):=by show _=_;simp
     obtain⟨r2,bk⟩:∃y,r.drop (42+eT r)=y:=⟨_,rfl⟩;rw[bk]at I C6 i;clear bk;have C7:=zl (C6.o.but C<|by omega);have Q7:=zl (Q6.o.but C<|by omega);have L7:=zl l7;have G7:=zl (G6.o.but C<|by omega);have A7:=zl<|A6.o.trans C;have M7:=zl m7;have T7:=zl (T6.o.but C<|by omega);have bq:=zl bg;have br:=zl<|bh.trans j.o;have bt:=zl<|DV C7.o;have z1:w7.cell? (zq w.heap.size 1)=bO (zs x):=Q7.o.cell 1 rfl;have z2:w7.cell? (zq (w.heap.size+1) 0)=bO (zs r2):=C7.o.cell 0 rfl;have b6:r2.length<=x.length:=by have:=i.o;omega
     obtain⟨wn,bo⟩:∃wn,x.length-r2.length=wn:=⟨_,rfl⟩;have bs:=zl bo;have zz:IntKind.i64.wrap ((x.length:Int)-(r2.length:Int))=(wn:Int):=by rw[xn];omega
     clear bo;clear C l7 m7 hra bg bh C6 Q6 L6 G6 A6 M6 T6 p
     go_wp2
     go_roundw
     case rel=>exact⟨q2,L2,r2,wn,rfl,bq.o,br.o,by have:=i.o;omega,by rw[aB<|by have:=i.o;omega];exact bs.o.symm,I.o,C7.o,Q7.o,L7.o,G7.o,A7.o,M7.o,T7.o⟩
     case measure=>rw[HZ.o,bt.o];have:=i.o;omega
   have B:X7 r=bK:=by simpa using z
   rw[B];have c:Hid<|eP k L a x=Wq q J a x.length o:=by show _=_;rw[F.o,p.o,KH B,be.o,bp]
   have Qt:=zl Q5.o;have g:=zl L5.o;have Y:=zl G5.o;have At:=zl A5.o;have K:=zl M5.o;clear be p F C5 Q5 L5 G5 A5 M5 T5 z B HZ;have t1:D.cell? (zq w.heap.size 1)=bO (zs x):=Qt.o.cell 1 rfl;have t0:D.cell? (zq w.heap.size 0)=bO (zi a):=Qt.o.cell 0 rfl;have b0:D.cell? (zq b 12)=bO (zi q.last):=xx.cell g.o 12 rfl;have b1:D.cell? (zq b 15)=bO (.bool q.dD):=xx.cell g.o 15 rfl;have b2:D.cell? (zq b 16)=bO (zi q.whole):=xx.cell g.o 16 rfl;have b3:=xx.bT g.o 15;have b4:=xx.bT g.o 16;by_cases l:o<x.length
   ·have i1:(o:Int)<(x.length:Int):=by omega
    go_wp2
    go_still_tail 7,(by kernel_rfl)
    go_wp2
    by_cases d:(a:Int)=q.last
    ·refine(Yb _ (by simpa using d) _).mono ?_
     rintro e Z ⟨rfl,rfl⟩;have LE:Hid<|Xa ((D.setCell (zq b 15)<|.bool bL).setCell (zq b 16)<|zi o).drew b {q with dD:=bL,whole:=o}:=((xx.set g.o 15<|.bool bL).set 16<|zi o).drew;have BS:Hid<|xb (fun y=>y=b) D ((D.setCell (zq b 15)<|.bool bL).setCell (zq b 16)<|zi o).drew:=((xb.set D (zq b 15)<|.bool bL).trans<|xb.set _ (zq b 16)<|zi o).drew;have R:Hid<|eP k L a x=bO ({q with dD:=bL,whole:=o},J):=by show _=_;rw[c.o];unfold Wq;rw[aA l,aA d];try rfl
     clear d
     go_wp2
     go_end0
     exact zap R.o (At.o.trans<|BS.o.mono fun _ h=> .inl h) LE.o<|K.o.but BS.o<|aL V
    refine(Xu _ (by simpa using d) _ Y.o.drew).mono ?_;rintro e Z ⟨rfl,rfl⟩;exact⟨rfl,Xk (by rw[c.o];unfold Wq;rw[aA l,aB d]) At.o.drew⟩
   have i1:¬(o:Int)<(x.length:Int):=by omega
   have R:Hid<|eP k L a x=bO (q,J):=by show _=_;rw[c.o];unfold Wq;rw[aB l]
   go_wp2
   go_end0
   exact zap R.o At.o g.o K.o
 have j9:¬(9:Int)<=(x.length:Int):=by omega
 have c:Hid<|eP k L a x=Wq k L a x.length 0:=rB h9;have Qt:Hid<|xx (w.alloc<|.cells #[zi a,zs x] 289) w.heap.size (Vw a x) 289:=Q0.o;have g:Hid<|Xa (w.alloc<|.cells #[zi a,zs x] 289) b k:=L0.o;have Y:Hid<|Wh tv<|w.alloc<|.cells #[zi a,zs x] 289:=G0.o;have At:Hid<|xb (fun y=>y=b\/y=k.mp) w<|w.alloc<|.cells #[zi a,zs x] 289:=A0.o;have K:Hid<|Xd (w.alloc<|.cells #[zi a,zs x] 289) k.mp L:=M0.o;have b7:w.cell? (zq b 12)=bO (zi k.last):=xx.cell H.o 12 rfl;have b8:w.cell? (zq b 15)=bO (.bool k.dD):=xx.cell H.o 15 rfl;have b9:w.cell? (zq b 16)=bO (zi k.whole):=xx.cell H.o 16 rfl;have ca:=xx.bT H.o 15;have cb:=xx.bT H.o 16;clear Q0 L0 G0 A0 M0 T0 H HT HG HS;have ch:(x.length:Int)<9:=by omega
 have t1:(w.alloc<|.cells #[zi a,zs x] 289).cell? (zq w.heap.size 1)=bO (zs x):=Qt.o.cell 1 rfl;have t0:(w.alloc<|.cells #[zi a,zs x] 289).cell? (zq w.heap.size 0)=bO (zi a):=Qt.o.cell 0 rfl;have b0:(w.alloc<|.cells #[zi a,zs x] 289).cell? (zq b 12)=bO (zi k.last):=xx.cell g.o 12 rfl;have b1:(w.alloc<|.cells #[zi a,zs x] 289).cell? (zq b 15)=bO (.bool k.dD):=xx.cell g.o 15 rfl;have b2:(w.alloc<|.cells #[zi a,zs x] 289).cell? (zq b 16)=bO (zi k.whole):=xx.cell g.o 16 rfl;have b3:=xx.bT g.o 15;have b4:=xx.bT g.o 16;by_cases l:0<x.length
 ·have i1:0<(x.length:Int):=by omega
  go_wp2
  generalize(w.alloc<|.cells #[zi a,zs x] 289)=wq at*
  go_still_tail 7,(by kernel_rfl)
  go_wp2
  by_cases d:(a:Int)=k.last
  ·refine(Yb _ (by simpa using d) _).mono ?_
   rintro e Z ⟨rfl,rfl⟩;have LE:Hid<|Xa ((wq.setCell (zq b 15)<|.bool bL).setCell (zq b 16)<|zi 0).drew b {k with dD:=bL,whole:=0}:=((xx.set g.o 15<|.bool bL).set 16<|zi 0).drew;have BS:Hid<|xb (fun y=>y=b) wq ((wq.setCell (zq b 15)<|.bool bL).setCell (zq b 16)<|zi 0).drew:=((xb.set wq (zq b 15)<|.bool bL).trans<|xb.set _ (zq b 16)<|zi 0).drew;have R:Hid<|eP k L a x=bO ({k with dD:=bL,whole:=0},L):=by show _=_;rw[c.o];unfold Wq;rw[aA l,aA d];rfl
   clear d
   go_wp2
   go_end0
   exact zap R.o (At.o.trans<|BS.o.mono fun _ h=> .inl h) LE.o<|K.o.but BS.o<|aL V
  refine(Xu _ (by simpa using d) _ Y.o.drew).mono ?_;rintro e Z ⟨rfl,rfl⟩;exact⟨rfl,Xk (by rw[c.o];unfold Wq;rw[aA l,aB d]) At.o.drew⟩
 have i1:¬0<(x.length:Int):=by omega
 have R:Hid<|eP k L a x=bO (k,L):=by show _=_;rw[c.o];unfold Wq;rw[aB l]
 go_wp2
 go_end0
 exact zap R.o At.o g.o K.o
def uR:prog.underlying 134=bO (.map 3 139):=by kernel_rfl
def LG(w:Zy):(zeroValue 139).run prog w= .ok (fO ([],0)) w:=by kernel_rfl
def ZF(s:ByteArray)(k:Int)(w:Zy):(Instr.field 139 (.agg #[.string s,zi k]) 0).run prog w= .ok (.string s) w:=by kernel_rfl
def ZG(s:ByteArray)(k:Int)(w:Zy):(Instr.field 139 (.agg #[.string s,zi k]) 1).run prog w= .ok (zi k) w:=by kernel_rfl
attribute [local go_sem] ZF ZG
structure Dk where
 room:Int
 M:Nat
 L:Ym
 nx:Option<|Nat×Int×Int
def Dk.gS(d:Dk):Zv:= .pointer (d.nx.map fun c=>⟨c.1,0,bN⟩)
structure Xg(w:Zy)(D:Nat)(d:Dk):Prop where
 blk:xx w D #[zi d.room,.map<|bO d.M,d.gS] 137
 map:mD w d.M d.L
 eU:∀c,d.nx=bO c->xx w c.1 #[zi c.2.1,zi c.2.2] 175
def Dk.own(D:Nat)(d:Dk)(x:Nat):Prop:=x=D\/x=d.M\/∃c,d.nx=bO c/\x=c.1
def Xg.but{S:ZP}{D:Nat}{d:Dk}(h:Xg w D d)(a:xb S w w')(b:∀x,d.own D x->¬S x):Xg w' D d:=
 ⟨h.blk.but a<|b _<|.inl rfl,h.map.but a<|b _<|.inr<|.inl rfl,fun c e=>(h.eU c e).but a<|b _<|.inr<|.inr ⟨c,e,rfl⟩⟩
def Xg.vW{w:Zy}{D:Nat}{d:Dk}(h:Xg w D d):d.M≠D:=by
 intro e;obtain⟨f,c,a,_⟩:=h.map;rw[e]at a;have b:=h.blk;unfold xx at b;rw[b]at a;cases a
def qu(L:Ym)(n:Int):Zl:=((J9 L n).getD ([],0)).1
def AV(D:Nat)(d:Dk)(n:Int)(w:Zy)(h:Xg w D d):bE prog 76 #[zo D,zi n] w fun e w'=>e= .returned (zs<|qu d.L n)/\w'=w:=by
 have b:w.cell? (zq D 1)=bO (.map<|bO d.M):=h.blk.cell 1 rfl;have a:=KI (P:=prog) uR underlying3 LG h.map n;unfold fO at a;clear h;go_enter func76.1,Tryz.ntmps76
 go_wp2
 go_ret
 exact⟨rfl,rfl⟩
def IZ(x:Zl)(w:Zy):bE prog 78 #[zs x] w fun e w'=>e= .returned (fO (x,x.length))/\bC w.heap.size w w':=by
 go_enter func78.1,Tryz.ntmps78
 go_wp2
 refine jz (v:=fO (x,x.length)) (by simp[results,Tryz.results78,go_sem,fO]) rfl ⟨rfl,(zr _ _).alloc (ze _) _⟩
def Yx(L:Ym)(n:Int)(f:Zl×Int):Ym:=if f.1=[]then V6 L n else fF L n f
def Xg.jQ{D:Nat}{d:Dk}{L':Ym}(h:Xg w D d)(b:xb (·=d.M) w w')(i:mD w' d.M L'):Xg w' D {d with L:=L'}:=by
 refine⟨h.blk.but b<|aL h.vW,i,fun c e=>(h.eU c e).but b ?_⟩;intro g;have a:=h.eU c e;obtain⟨j,k,f,_⟩:=h.map;rw[g]at a;unfold xx at a;rw[f]at a;cases a
def LM(D:Nat)(d:Dk)(n:Int)(f:Zl×Int)(w:Zy)(h:Xg w D d):bE prog 216 #[zo D,zi n,fO f] w fun e w'=>e= .returned (.tuple #[])/\xb (·=d.M) w w'/\Xg w' D {d with L:=Yx d.L n f}:=by
 obtain⟨x,c⟩:=f;have s:w.cell? (zq D 1)=bO (.map<|bO d.M):=h.blk.cell 1 rfl;have t:=h.blk.lt;have m:=h.map.lt;have j:=zl<|h.but (S:=fun _=>False) (xb.alloc<|.cells #[zs x,zi c] 139) fun _ _=>id;have q:=h.vW;unfold fO;cases x with
 |nil=>
  have o:=xo [];obtain⟨r,i,b,g⟩:=cP (P:=prog) uR underlying3 j.o.map 0 3 n;have k:=zl<|(xb.alloc _).trans b;have l:=zl<|j.o.jQ b g;clear h b g;go_enter func216.1,Tryz.ntmps216
  go_wp2
  (refine jz (v:= .tuple #[]) (by simp[results,Tryz.results216,go_sem]) rfl ?_)
  exact⟨rfl,k.o,l.o⟩
 |cons a x=>
  have o:¬(st (a::x)).toList=[]:=by rw[xo];simp
  have p:(st (a::x)).toList.isEmpty=bK:=by rw[xo];rfl
  obtain⟨r,i,b,g⟩:=Eh (P:=prog) uR underlying3 (w:=(w.alloc<|.cells #[zs (a::x),zi c] 139).drew) j.o.map n (a::x,c);unfold fO at i;have k:=zl<|((xb.alloc _).drew).trans b;have l:=zl<|Xg.jQ (w:=(w.alloc<|.cells #[zs (a::x),zi c] 139).drew) ⟨j.o.blk,j.o.map,j.o.eU⟩ b g;clear h b g;go_enter func216.1,Tryz.ntmps216
  go_wp2
  have y:(w.alloc<|.cells #[zs (a::x),zi c] 139).cell? (zq D 1)=bO (.map<|bO d.M):=j.o.blk.cell 1 rfl;have z:(w.alloc<|.cells #[zs (a::x),zi c] 139).cell? (zq w.heap.size 0)=bO (zs (a::x)):=(xx.new w #[zs (a::x),zi c] 139).cell 0 rfl;have B:(w.alloc<|.cells #[zs (a::x),zi c] 139).cell? (zq w.heap.size 1)=bO (zi c):=(xx.new w #[zs (a::x),zi c] 139).cell 1 rfl;generalize w.alloc (.cells #[zs (a::x),zi c] 139)=wq at*
  go_still_tail 6,(by kernel_rfl)
  go_wp2
  go_end0
  exact⟨rfl,k.o,l.o⟩
end
end
section
variable {fs:Nat→Zl}
def Nr:∀(n:Nat) {k k':Lk} {L L':KV} {l r:Zl},oF n k L l=bO (k',L',r)->k.ok->k'.ok/\k'.mp=k.mp/\k'.last=k.last
 |0,k,k',L,L',l,r,h,hk=>by
  simp only[oF,zp,qg]at h;obtain⟨rfl,_⟩:=h;exact⟨hk,rfl,rfl⟩
 |n+1,k,k',L,L',l,r,h,hk=>by
  unfold oF at h;by_cases a:X7 l=bL;rw[aA a]at h;cases hr:lY k L l with
  |none=>rw[hr]at h;cases h
  |some p=>
   obtain⟨j,i⟩:=p;rw[hr]at h;obtain⟨b,c,d⟩:=Nq hr a hk;obtain⟨e,f,g⟩:=Nr n h b;exact⟨e,f.trans c,g.trans d⟩
  rw[aB a]at h;simp only[zp,qg]at h;obtain⟨rfl,_⟩:=h;exact⟨hk,rfl,rfl⟩
def Ml{k k':Lk}{L L':KV}{a:Int}{len whole:Nat}(h:Wq k L a len whole=bO (k',L'))(hk:k.ok):k'.ok/\k'.mp=k.mp/\k'.last=k.last:=by
 unfold Wq at h;split at h;split at h;simp only[zp,qg]at h;obtain⟨rfl,_⟩:=h;exact⟨⟨hk.m,hk.ep,hk.cnt,hk.tag⟩,rfl,rfl⟩;cases h;simp only[zp,qg]at h;obtain⟨rfl,_⟩:=h;exact⟨hk,rfl,rfl⟩
def qT{k k':Lk}{L L':KV}{a:Nat}{x:Zl}(h:eP k L a x=bO (k',L'))(hk:k.ok):k'.ok/\k'.mp=k.mp/\k'.last=k.last:=by
 unfold eP at h;split at h;split at h;cases h;split at h
 rename_i k1 L1 r hr
 obtain⟨b,c,d⟩:=Nr _ (show oF _ k L (x.drop 9)=bO (k1,L1,r)from hr) hk;obtain⟨e,f,g⟩:=Ml h b;exact⟨e,f.trans c,g.trans d⟩;cases h;exact Ml h hk
def dJ(fs:Nat->Zl)(n:Nat)(k:Lk)(L:KV):Nat->Option (Lk×KV)
 |0=>bO (k,L)
 |r+1=>match dJ fs n k L r with
  |some (k',L')=>eP k' L' (n+r)<|fs<|n+r
  |none=>bN
def ZK{n:Nat}{k:Lk}{L:KV}(hk:k.ok):∀(r:Nat) {k':Lk} {L':KV},dJ fs n k L r=bO (k',L')->k'.ok/\k'.mp=k.mp/\k'.last=k.last
 |0,k',L',h=>by
  simp only[dJ,zp,qg]at h;obtain⟨rfl,_⟩:=h;exact⟨hk,rfl,rfl⟩
 |r+1,k',L',h=>by
  unfold dJ at h;cases hr:dJ fs n k L r with
  |none=>rw[hr]at h;cases h
  |some p=>
   obtain⟨i,g⟩:=p;rw[hr]at h;obtain⟨a,b,c⟩:=ZK hk r hr;obtain⟨d,e,f⟩:=qT h a;exact⟨d,e.trans b,f.trans c⟩
def Rp{n r:Nat}{k k':Lk}{L L':KV}(h:dJ fs n k L r=bO (k',L')):dJ fs n k L (r+1)=eP k' L' (n+r) (fs<|n+r):=by
 rw[dJ,h]
def Rq{n r:Nat}{k:Lk}{L:KV}(h:dJ fs n k L r=bN):∀d,dJ fs n k L (r+d)=bN
 |0=>h
 |d+1=>by
  rw[<-Ja,dJ,Rq h d]
end
end P
namespace A
open Tryq Go Go.RowKit Go.Maps Go.Sort Go.Shelf
def fq{P:Zp}{i:Nat}{f g:Func}(h:P.funcs[i]?=bO f)(e:f=g):P.funcs[i]?=bO g:=e▸h
def Tryq.iN:Ren:={f:=fun x=>match x with|7=>132|10=>202|n=>n,t:=fun x=>match x with|23=>134|26=>3|3=>139|28=>209|0=>0|27=>208|33=>219|4=>4|n=>n,g:=fun x=>x}
def Tryq.kW:SlLaysZI.n7 prog iN:=by
 constructor
 case mixed=>kernel_rfl
 case f7=>exact⟨Tryz.f132.name,by kernel_rfl,fq func132.1<|by kernel_rfl⟩
 case f10=>exact⟨Tryz.f202.name,by kernel_rfl,fq func202.1<|by kernel_rfl⟩
 all_goals (intros;simp[iN])
def Tryq.fQ:Ren:={f:=fun x=>match x with|6=>131|8=>200|9=>201|11=>239|13=>219|12=>240|23=>273|24=>274|14=>286|15=>287|16=>288|17=>289|18=>290|19=>291|20=>292|21=>293|22=>294|25=>311|26=>304|27=>305|28=>312|29=>313|30=>314|31=>318|n=>n,t:=fun x=>match x with|26=>3|28=>209|24=>40|0=>0|3=>3|37=>108|48=>232|50=>255|4=>4|40=>346|39=>345|45=>350|5=>5|9=>9|51=>374|55=>377|57=>384|58=>385|33=>219|n=>n,g:=fun x=>x}
def Tryq.nC:SlLaysZI.n6 prog fQ:=by
 constructor
 case mixed=>kernel_rfl
 case f6=>exact⟨Tryz.f131.name,by kernel_rfl,fq func131.1<|by kernel_rfl⟩
 case f8=>exact⟨Tryz.f200.name,by kernel_rfl,fq func200.1<|by kernel_rfl⟩
 case f11=>exact⟨Tryz.f239.name,by kernel_rfl,fq func239.1<|by kernel_rfl⟩
 case i26=>kernel_rfl
 all_goals (intros;simp[fQ])
def Tryq.lD:Ren:={f:=fun x=>match x with|5=>201|8=>219|7=>240|19=>273|20=>274|10=>286|11=>287|12=>288|13=>289|14=>290|15=>291|16=>292|17=>293|18=>294|30=>311|31=>304|32=>305|33=>312|34=>313|35=>314|40=>318|n=>n,t:=fun x=>match x with|23=>40|25=>3|3=>3|32=>108|22=>40|0=>0|44=>232|46=>255|4=>4|36=>346|35=>345|41=>350|5=>5|9=>9|53=>374|57=>377|63=>384|64=>385|n=>n,g:=fun x=>x}
def Tryq.lC:SlLaysM.n5 prog lD:=by
 constructor
 case mixed=>kernel_rfl
 case f5=>exact⟨Tryz.f201.name,by kernel_rfl,fq func201.1<|by kernel_rfl⟩
 case f7=>exact⟨Tryz.f240.name,by kernel_rfl,fq func240.1<|by kernel_rfl⟩
 case f8=>exact fq func219.1<|by kernel_rfl
 case f10=>exact⟨Tryz.f286.name,by kernel_rfl,fq func286.1<|by kernel_rfl⟩
 case f11=>exact⟨Tryz.f287.name,by kernel_rfl,fq func287.1<|by kernel_rfl⟩
 case f12=>exact⟨Tryz.f288.name,by kernel_rfl,fq func288.1<|by kernel_rfl⟩
 case f13=>exact⟨Tryz.f289.name,by kernel_rfl,fq func289.1<|by kernel_rfl⟩
 case f14=>exact⟨Tryz.f290.name,by kernel_rfl,fq func290.1<|by kernel_rfl⟩
 case f15=>exact⟨Tryz.f291.name,by kernel_rfl,fq func291.1<|by kernel_rfl⟩
 case f16=>exact⟨Tryz.f292.name,by kernel_rfl,fq func292.1<|by kernel_rfl⟩
 case f17=>exact⟨Tryz.f293.name,by kernel_rfl,fq func293.1<|by kernel_rfl⟩
 case f18=>exact⟨Tryz.f294.name,by kernel_rfl,fq func294.1<|by kernel_rfl⟩
 case f19=>exact fq func273.1<|by kernel_rfl
 case f20=>exact fq func274.1<|by kernel_rfl
 case f30=>exact⟨Tryz.f311.name,by kernel_rfl,fq func311.1<|by kernel_rfl⟩
 case f31=>exact fq func304.1<|by kernel_rfl
 case f32=>exact fq func305.1<|by kernel_rfl
 case f33=>exact⟨Tryz.f312.name,by kernel_rfl,fq func312.1<|by kernel_rfl⟩
 case f34=>exact⟨Tryz.f313.name,by kernel_rfl,fq func313.1<|by kernel_rfl⟩
 case f35=>exact⟨Tryz.f314.name,by kernel_rfl,fq func314.1<|by kernel_rfl⟩
 case f40=>exact⟨Tryz.f318.name,by kernel_rfl,fq func318.1<|by kernel_rfl⟩
 all_goals (intros;simp[lD])
def Tryq.kY:Ren:={f:=fun x=>match x with|7=>86|10=>144|n=>n,t:=fun x=>match x with|23=>143|26=>9|3=>155|28=>159|0=>0|27=>158|33=>101|4=>4|n=>n,g:=fun x=>x}
def Tryq.kX:SlLaysZ.n7 prog kY:=by
 constructor
 case mixed=>kernel_rfl
 case f7=>exact⟨Tryz.f86.name,by kernel_rfl,fq func86.1<|by kernel_rfl⟩
 case f10=>exact⟨Tryz.f144.name,by kernel_rfl,fq func144.1<|by kernel_rfl⟩
 all_goals (intros;simp[kY])
def Tryq.fT:Ren:={f:=fun x=>match x with|6=>85|8=>142|9=>143|11=>217|13=>219|12=>218|23=>273|24=>274|14=>264|15=>265|16=>266|17=>267|18=>268|19=>269|20=>270|21=>271|22=>272|25=>303|26=>304|27=>305|28=>306|29=>307|30=>308|31=>317|n=>n,t:=fun x=>match x with|26=>9|28=>159|24=>51|0=>0|3=>3|37=>108|48=>232|50=>255|4=>4|40=>346|39=>345|45=>350|5=>5|9=>9|51=>374|55=>377|57=>384|58=>385|33=>101|n=>n,g:=fun x=>x}
def Tryq.nD:SlLaysZ.n6 prog fT:=by
 constructor
 case mixed=>kernel_rfl
 case f6=>exact⟨Tryz.f85.name,by kernel_rfl,fq func85.1<|by kernel_rfl⟩
 case f8=>exact⟨Tryz.f142.name,by kernel_rfl,fq func142.1<|by kernel_rfl⟩
 case f11=>exact⟨Tryz.f217.name,by kernel_rfl,fq func217.1<|by kernel_rfl⟩
 case i26=>kernel_rfl
 all_goals (intros;simp[fT])
def Tryq.lG:Ren:={f:=fun x=>match x with|6=>143|8=>219|9=>218|19=>273|20=>274|21=>264|22=>265|23=>266|24=>267|25=>268|26=>269|27=>270|28=>271|29=>272|36=>303|31=>304|32=>305|37=>306|38=>307|39=>308|41=>317|n=>n,t:=fun x=>match x with|27=>51|29=>9|3=>3|32=>108|26=>51|0=>0|44=>232|46=>255|4=>4|36=>346|35=>345|41=>350|5=>5|9=>9|53=>374|57=>377|63=>384|64=>385|n=>n,g:=fun x=>x}
def Tryq.lF:SlLaysM.n6 prog lG:=by
 constructor
 case mixed=>kernel_rfl
 case f6=>exact⟨Tryz.f143.name,by kernel_rfl,fq func143.1<|by kernel_rfl⟩
 case f8=>exact fq func219.1<|by kernel_rfl
 case f9=>exact⟨Tryz.f218.name,by kernel_rfl,fq func218.1<|by kernel_rfl⟩
 case f19=>exact fq func273.1<|by kernel_rfl
 case f20=>exact fq func274.1<|by kernel_rfl
 case f21=>exact⟨Tryz.f264.name,by kernel_rfl,fq func264.1<|by kernel_rfl⟩
 case f22=>exact⟨Tryz.f265.name,by kernel_rfl,fq func265.1<|by kernel_rfl⟩
 case f23=>exact⟨Tryz.f266.name,by kernel_rfl,fq func266.1<|by kernel_rfl⟩
 case f24=>exact⟨Tryz.f267.name,by kernel_rfl,fq func267.1<|by kernel_rfl⟩
 case f25=>exact⟨Tryz.f268.name,by kernel_rfl,fq func268.1<|by kernel_rfl⟩
 case f26=>exact⟨Tryz.f269.name,by kernel_rfl,fq func269.1<|by kernel_rfl⟩
 case f27=>exact⟨Tryz.f270.name,by kernel_rfl,fq func270.1<|by kernel_rfl⟩
 case f28=>exact⟨Tryz.f271.name,by kernel_rfl,fq func271.1<|by kernel_rfl⟩
 case f29=>exact⟨Tryz.f272.name,by kernel_rfl,fq func272.1<|by kernel_rfl⟩
 case f31=>exact fq func304.1<|by kernel_rfl
 case f32=>exact fq func305.1<|by kernel_rfl
 case f36=>exact⟨Tryz.f303.name,by kernel_rfl,fq func303.1<|by kernel_rfl⟩
 case f37=>exact⟨Tryz.f306.name,by kernel_rfl,fq func306.1<|by kernel_rfl⟩
 case f38=>exact⟨Tryz.f307.name,by kernel_rfl,fq func307.1<|by kernel_rfl⟩
 case f39=>exact⟨Tryz.f308.name,by kernel_rfl,fq func308.1<|by kernel_rfl⟩
 case f41=>exact⟨Tryz.f317.name,by kernel_rfl,fq func317.1<|by kernel_rfl⟩
 all_goals (intros;simp[lG])
end A
namespace P
open A.Tryq Go.RowKit
section
open Go.Maps Go.Sort Go.Shelf Go.MapKept
def xZ(_:Zv):Option<|DataW Nat×List MemPlace:=bO (.nil,[])
def Nh{H:Type}(p:Lit×DataW H):∀es:List<|Lit×DataW H,(DataW.insert p es).Perm (p::es)
 |[]=>by simp[DataW.insert]
 |q::es=>by
  unfold DataW.insert;split;exact .refl _;exact((Nh p es).cons q).trans<|.swap ..
def IW{H:Type}:∀es:List<|Lit×DataW H,(es.foldr DataW.insert []).Perm es
 |[]=> .refl _
 |p::es=>(Nh p _).trans<|(IW es).cons p
abbrev zM:Int->Int->Bool:=fun x y=>decide (x<=y)
def Dt{l l':List Int}(h:l.Perm l'):l.mergeSort zM=l'.mergeSort zM:=mergeSort_of_perm_i h
def i64(x:Int):Prop:=-9223372036854775808<=x/\x<=9223372036854775807
def mD.owns{w:Zy}{m:Nat}{L:Ym}(h:mD w m L)(hk:∀p∈L,i64 p.1)(I:L.length<=maxLen):
  ∃D:DataW Nat,w.ownsMap prog 3 xZ m L.length D/\Maps.size D=L.length/\(intKeys D).Perm (L.map (·.1)):=by
 obtain⟨f,b,C,n,E⟩:=h;have i:f.size=L.length:=by
  have:=congrArg List.length n;simpa using this
 have c:∀x∈f.toList,∃p∈L,x.key= .int .i64 p.1/\WideElems.rd prog 3 xZ x=bO (.int .i64 p.1,.nil):=fun x k=>by
  obtain⟨p,d,j,_⟩:=JZ n x k;refine⟨p,d,j,?_⟩;have F:=hk p d;have G:(Lit.int .i64 p.1).wf=bL:=by
   obtain⟨o,r⟩:=F;simp[Lit.wf];exact⟨o,r⟩
  simp[WideElems.rd,j,keyOf,mapKey,underlying3,G,xZ]
 refine⟨_,⟨f,b,C,⟨by omega,E,fun x k=>by obtain⟨p,_,_,e⟩:=c x k;exact⟨_,e⟩⟩,by omega,rfl⟩,?_,?_⟩;simp only[Maps.size_eq];rw[(IW _).length_eq];simpa using i;simp only[intKeys];refine((IW _).map _).trans ?_;rw[uP];have:∀(l:List aK) (L:Ym),jB l L->(∀x∈l,∃p∈L,x.key= .int .i64 p.1)->(∀x∈l,x∈f.toList)->l.map ((fun p=>Go.intOf p.1)∘WideElems.rg prog 3 xZ)=L.map (·.1):=by
  intro l;induction l with
  |nil=>intro L g _ _;cases L with
   |nil=>rfl
   |cons p L=>exact(QR g).elim
  |cons x l ih=>
   intro L g _ a;cases L with
   |nil=>unfold jB at g;simp at g
   |cons p L=>
    obtain⟨z,H,t⟩:=EB g;obtain⟨q,_,v,B⟩:=c x (a x<|by simp);have:p.1=q.1:=by rw[z]at v;injection v
    rw[xq,xq];refine congr (congrArg List.cons ?_) ?_;rw[Function.comp_apply,WideElems.rg_of B,this];rfl;exact ih L t (fun y s=>by obtain⟨p,d,e,_⟩:=JZ t y s;exact⟨p,d,e⟩) fun y s=>a y<|by simp[s]
 rw[this f.toList L n (fun x k=>by obtain⟨p,d,e,_⟩:=c x k;exact⟨p,d,e⟩) fun _ h=>h]
def wJ(m:Nat):AnyZI.SortsIn prog fQ Fence.wide m:=
 ⟨fun blk d a f W e b c=>callsIn_wide.2<|AnyM.slices_Sort_int lC blk d a f W e b c,
 fun p a W=>callsIn_wide.2<|AnyM.slices_Sort_int_none lC p a W⟩
def Xs(L:Ym):List Int:=(L.map (·.1)).mergeSort zM
def zy7(D:Nat)(d:Dk)(w:Zy)(h:Xg w D d)(hk:∀p∈d.L,i64 p.1)(B:d.L.length<=1000000):
  bE prog 75 #[zo D] w fun e w'=>∃v,e= .returned v/\w'.ownsRow w.heap.size 3 1 v (Xs d.L).length ((Xs d.L).map encZ)/\bC w.heap.size w w':=by
 refine(callsIn_wide (n:=6)).1 ?_;obtain⟨k,b,j,i⟩:=h.map.owns hk (by simp only[maxLen];omega);have f:Maps.size k<=maxLen:=by rw[j];simp only[maxLen];omega
 have a:Maps.size k*8<=140737488355328:=by rw[j];omega
 have s:=b.lt;have l:SeqGives Fence.wide 2 prog 202 #[zo w.heap.size] encZ (fun o=>o.Perm<|intKeys k) (Maps.size k)<|w.alloc<|.cells #[.map<|bO d.M] 134:=
  AnyZI.keys_gives (ρ:=iN) {kW with} Fence.wide _ trivial rfl (by omega) w.heap.size d.M _ k _ (by simp) (by simp) (by
   obtain⟨F,g,r,C,B,G⟩:=b;exact⟨F,g,(qy _ _ d.M s).trans r,C,B,G⟩)
 have E:∀q W,CallsIn Fence.wide 5 prog 132 #[.map q] W fun e w'=>e= .returned (.func (.func 202) #[] #[zo W.heap.size])/\w'=W.alloc (.cells #[.map q] 134):=fun q W=>AnyZI.keys_in kW Fence.wide 5 trivial rfl q W;have t:=AnyZI.sorted_in nC Fence.wide 5 trivial trivial trivial trivial rfl (by omega) (wJ _) (enters_of func201.1 (by kernel_rfl) rfl) 202 #[zo w.heap.size] trivial (enters_of func202.1 (by kernel_rfl) rfl) _ _ f a _ l;change CallsIn _ _ prog 131 _ _ _ at t;have I:Fence.wide.fn 132:=trivial;have J:Fence.wide.fn 131:=trivial;have O:w.cell? (zq D 1)=bO (.map<|bO d.M):=h.blk.cell 1 rfl;clear h b j f a;refine callsIn_of_wp func75.1 rfl trivial ?_ rfl;simp only[Tryz.ntmps75,jg,zh,jn,Nat.reduceAdd,Nat.reduceSub,qw,qx,Z7,Zi,jk,jc]
 gi_wp2_with (first
  |(gi_at_call 132;refine(E _ _).mono ?_;rintro e w' ⟨rfl,rfl⟩)
  |(gi_at_call 131;refine t.mono ?_;rintro e w' ⟨v,o,rfl,H,c,z,r⟩))
 go_ret
 have m:o.mergeSort (fun x y=>decide (x<=y))=Xs d.L:=Dt<|H.trans i;rw[m]at c;have K:o.length=(Xs d.L).length:=by rw[<-m];exact(Xw o _).length_eq.symm
 rw[K]at c;exact⟨v,rfl,ownsRow_base_a c<|by simp,((zr _ w).alloc (ze _) _).trans<|r.mono<|by simp⟩
end
section
attribute [local go_sem] xe zv
attribute [local go_sem] ZF ZG
section
variable {L:Ym} {k:Int} {v:Zl×Int} {f:Zl×Int}
def DK(w:Zy)(g:Nat)(xs:List Int):Prop:=∀i (h:i<xs.length),w.cell? (zq g i)=bO (zi xs[i])
def DK.but{S:ZP}{w w':Zy}{g:Nat}{xs:List Int}(h:DK w g xs)(a:xb S w w')(c:¬S g):DK w' g xs:=fun i b=>a.cell c<|h i b
def jX(L:Ym):Prop:=∀p∈L,i64 p.1/\0<=p.2.2/\p.2.2<=(p.2.1.length:Nat)/\p.2.1.length<=1000000
structure mE(L:Ym):Prop where
 each:jX L
 cnt:L.length<=1000000
def v_:J9 L k=bO v->(k,v)∈L:=by
 induction L with
 |nil=>intro h;cases h
 |cons p L ih=>
  obtain⟨a,b⟩:=p;intro h;by_cases hk:k=a;subst hk;simp only[J9,if_true,zp]at h;subst h;exact .head _;simp only[J9,hk,if_false]at h;exact .tail _<|ih h
def Uy{p:Int×(Zl×Int)}:p∈fF L k v->p=(k,v)\/p∈L:=by
 induction L with
 |nil=>intro h;simp only[fF,jp]at h;exact .inl h
 |cons q L ih=>
  obtain⟨a,b⟩:=q;intro h;by_cases hk:k=a;simp only[fF,hk,if_true,xf]at h;rcases h with h|h
  left;rw[h,hk];exact .inr<|.tail _ h;simp only[fF,hk,if_false,xf]at h;rcases h with h|h
  exact .inr (by rw[h];exact .head _);exact(ih h).imp id<|.tail _
def EM{p:Int×(Zl×Int)}:p∈V6 L k->p∈L:=by
 induction L with
 |nil=>exact id
 |cons q L ih=>
  obtain⟨a,b⟩:=q;intro h;by_cases hk:k=a;simp only[V6,hk,if_true]at h;exact .tail _ h;simp only[V6,hk,if_false,xf]at h;rcases h with h|h
  rw[h];exact .head _;exact .tail _<|ih h
def TI(L:Ym)(k:Int)(v:Zl×Int):(fF L k v).length<=L.length+1/\((J9 L k).isSome->(fF L k v).length=L.length):=by
 induction L with
 |nil=>simp[fF,J9]
 |cons q L ih=>
  obtain⟨a,b⟩:=q;by_cases hk:k=a;simp[fF,J9,hk];simp only[fF,J9,hk,if_false,zh];exact⟨by omega,fun h=>by rw[ih.2 h]⟩
def RF(L:Ym)(k:Int):(V6 L k).length<=L.length:=by
 induction L with
 |nil=>simp[V6]
 |cons q L ih=>
  obtain⟨a,b⟩:=q;by_cases hk:k=a;simp[V6,hk];simp only[V6,hk,if_false,zh];omega
def Vu(L:Ym)(n:Int):Zl×Int:=(J9 L n).getD ([],0)
def jX.dat(h:jX L)(n:Int):0<=(Vu L n).2/\(Vu L n).2<=((Vu L n).1.length:Nat)/\(Vu L n).1.length<=1000000:=by
 unfold Vu;cases hg:J9 L n with
 |none=>simp
 |some v=>exact(h _<|v_ hg).2
def jX.lay(h:jX L){n:Int}(c:i64 n)(b:0<=f.2/\f.2<=(f.1.length:Nat)/\f.1.length<=1000000):jX<|Yx L n f:=by
 unfold Yx;split;exact fun p a=>h p<|EM a;intro p a;rcases Uy a with rfl|a
 exact⟨c,b⟩;exact h p a
def xB(t:Int)(f:Zl×Int):Int:=f.2+min t ((f.1.length:Nat)-f.2)
def lose1(t:Int)(L:Ym)(n:Int):Ym:=Yx L n ((Vu L n).1.take (xB t<|Vu L n).toNat,((Vu L n).1.take (xB t<|Vu L n).toNat).length)
def NU(t:Int)(L:Ym):Ym:=(Xs L).foldl (lose1 t) L
def Uu{t:Int}(a:0<=t)(h:0<=f.2/\f.2<=(f.1.length:Nat)):0<=xB t f/\xB t f<=(f.1.length:Nat):=by
 unfold xB;omega
def Me{k n:Int}(h:k≠n):J9 (V6 L n) k=J9 L k:=by
 induction L with
 |nil=>rfl
 |cons q L ih=>
  obtain⟨b,c⟩:=q;by_cases a:n=b;subst a;simp[V6,J9,h];by_cases hk:k=b;simp[V6,J9,a,hk];simp[V6,J9,a,hk,ih]
def zt9{k n:Int}(h:k≠n):J9 (fF L n v) k=J9 L k:=by
 induction L with
 |nil=>simp[fF,J9,h]
 |cons q L ih=>
  obtain⟨b,c⟩:=q;by_cases a:n=b;subst a;simp[fF,J9,h];by_cases hk:k=b;simp[fF,J9,a,hk];simp[fF,J9,a,hk,ih]
def zt8{k n:Int}(h:k≠n):J9 (Yx L n f) k=J9 L k:=by
 unfold Yx;split;exact Me h;exact zt9 h
def jX.lose1{t n:Int}(h:jX L)(b:0<=t)(a:i64 n):jX<|lose1 t L n:=by
 have hd:=h.dat n;have c:=Uu (f:=Vu L n) b ⟨hd.1,hd.2.1⟩;refine h.lay a ⟨by simp,by simp,?_⟩;have:((Vu L n).1.take (xB t<|Vu L n).toNat).length<=(Vu L n).1.length:=List.length_take_le' ..;exact xz this hd.2.2
def zlt(h:k∈L.map (·.1)):(J9 L k).isSome:=by
 induction L with
 |nil=>cases h
 |cons q L ih=>
  obtain⟨a,b⟩:=q;by_cases hk:k=a;simp[J9,hk];simp only[xq,xf,hk,false_or]at h;simp only[J9,hk,if_false];exact ih h
def LZ:k∈Xs L↔k∈L.map (·.1):=(Xw _ _).mem_iff
def yZ(L:Ym):(Xs L).length=L.length:=by unfold Xs;rw[List.length_mergeSort,Zb]
def QK(D:Nat)(d:Dk)(w:Zy)(h:Xg w D d)(hk:mE d.L):
  bE prog 75 #[zo D] w fun e w'=>∃p g cap,e= .returned (.slice p (Xs d.L).length cap)/\(Xs d.L≠[]->p=bO ⟨g,0,bN⟩)/\w.heap.size<=g/\DK w' g (Xs d.L)/\bC w.heap.size w w':=by
 refine(zy7 D d w h (fun p q=>(hk.each p q).1) hk.cnt).mono ?_;rintro e w' ⟨v,rfl,⟨t,o⟩,j⟩;rcases o with⟨rfl,k⟩|⟨g,cap,a,rfl,l,m,y,s,z,r⟩
 have c:=xa k;rw[c];exact⟨bN,w.heap.size,0,rfl,fun x=>absurd rfl x,ze _,fun i b=>absurd b<|by simp,j⟩;refine⟨_,g,cap,rfl,fun _=>rfl,l,fun i b=>?_,j⟩;have n:i<a.size:=by omega
 have:a.toList[i]?=bO (zi (Xs d.L)[i]):=by
  have f:(a.toList.take<|(Xs d.L).length*1)[i]?=bO (zi (Xs d.L)[i]):=by
   rw[r];simp[b,encZ]
  rw[Jf]at f;simpa[b]using f
 simp only[World.cell?,m];simpa using this
def xm9(D:Nat)(d:Dk)(t:Int)(ht:0<=t)(F:i64 t)(w:Zy)(h:Xg w D d)(hk:mE d.L):
  bE prog 263 #[zo D,zi t] w fun e w'=>e= .returned (.tuple #[])/\xb (·=d.M) w w'/\Xg w' D {d with L:=NU t d.L}:=by
 have HD:=zl h;have G:=zl hk;have HN:=zl F;have bd:=h.map.lt;clear h hk F;go_enter func263.1,Tryz.ntmps263
 go_wp2
 refine(QK D d w HD.o G.o).mono ?_;rintro e w1 ⟨p,g,bc,rfl,hp,hg,c,j⟩;have HP:=zl hp;have HR:=zl c;have O:=zl j;have T:=zl<|HD.o.but (S:=fun _=>False) (xb.of_below j) fun _ _=>id;have Y:g≠d.M:=by omega
 have HL:Hid<|(Xs d.L).length<=1000000:=by show _<=_;rw[yZ];exact G.o.cnt
 clear hp c j
 go_wp2
 go_loopw [11] (fun i wr=>∃k:Nat,k<=(Xs d.L).length/\i=zi k/\xb (·=d.M) w1 wr/\Xg wr D {d with L:=((Xs d.L).take k).foldl (lose1 t) d.L}/\jX (((Xs d.L).take k).foldl (lose1 t) d.L)) (fun i _=>((Xs d.L).length-intOf i).toNat)
 case atStart=>exact⟨0,by omega,rfl,xb.refl _ _,by simpa using T.o,by simpa using G.o.each⟩
 case round=>
  obtain⟨k,hk,rfl,B,r,I⟩:=hrel;have bb:=HL.o;by_cases b:k<(Xs d.L).length
  ·have i1:(k:Int)<((Xs d.L).length:Nat):=by omega
   have i0:(0:Int)<=(k:Int):=by omega
   have Z:=HP.o (fun e=>by rw[e]at b;simp at b);subst Z;have hc:=(HR.o.but B Y) k b;have HT:Hid<|((Xs d.L).take<|k+1).foldl (lose1 t) d.L=lose1 t (((Xs d.L).take k).foldl (lose1 t) d.L) (Xs d.L)[k]:=by show _=_;rw[xy b,IJ];rfl
   have HI:Hid<|i64 (Xs d.L)[k]:=by
    have hm:(Xs d.L)[k]∈Xs d.L:=Zn _;rw[LZ]at hm;obtain⟨q,hq,e⟩:=qp.1 hm;show i64 _;rw[<-e];exact(G.o.each q hq).1
   have K:=zl B;have HF:=zl I;have HS:=zl r;generalize((Xs d.L).take k).foldl (lose1 t) d.L=L1 at*;generalize(Xs d.L)[k]=n at*;have a:=KI (P:=prog) uR underlying3 LG r.map n;have H:Hid<|lose1 t L1 n=Yx L1 n ((Vu L1 n).1.take (xB t<|Vu L1 n).toNat,((Vu L1 n).1.take (xB t<|Vu L1 n).toNat).length):=rfl;have hd:=I.dat n;obtain⟨m,o⟩:=Uu (f:=Vu L1 n) ht ⟨hd.1,hd.2.1⟩;change(Instr.lookup 134 (.map<|bO d.M) (zi n) bK).run prog wr= .ok (fO<|Vu L1 n) wr at a;revert o m hd H a;generalize Vu L1 n=f;obtain⟨x,s⟩:=f;intro H hd m o a;unfold fO at a;simp only[xB]at m o;simp only at hd;have c1:wr.cell? (zq D 1)=bO (.map<|bO d.M):=r.blk.cell 1 rfl;have ba:=HN.o;unfold i64 at ba;clear r I B
   go_wp2
   rw[yN];have z:Hid<|∀y,x.take (s+min t (x.length-s)).toNat=y->lose1 t L1 n=Yx L1 n (y,y.length):=fun y J=>by rw[H.o,<-J];rfl
   generalize J:x.take (s+min t (x.length-s)).toNat=y;have W:=zl<|z.o y J;clear J H z;have HA:=zl<|HS.o.but (S:=fun _=>False) (xb.alloc<|.cells #[zs x,zi s] 139) fun _ _=>id;have v:=zl<|K.o.trans<|xb.alloc<|.cells #[zs x,zi s] 139;refine(IZ y _).mono ?_;rintro e w2 ⟨rfl,l⟩;have U:=zl<|HA.o.but (S:=fun _=>False) (xb.of_below l) fun _ _=>id;have Q:=zl<|v.o.trans<|xb.of_below l;clear l HA v;unfold fO
   go_wp2
   refine(LM D {d with L:=L1} n (y,y.length) _ U.o).mono ?_;rintro e w3 ⟨rfl,C,E⟩;have R:=zl<|Q.o.trans C;have V:Hid<|Xg w3 D {d with L:=lose1 t L1 n}:=by show Xg _ _ _;rw[W.o];exact E
   clear C E
   go_wp2
   go_roundw
   case rel=>exact⟨k+1,by omega,by go_num,R.o,by rw[HT.o];exact V.o,by rw[HT.o];exact HF.o.lose1 ht HI.o⟩
   case measure=>simp[intOf];omega
  have X:k=(Xs d.L).length:=by omega
  subst X;have HE:Hid<|Xg wr D {d with L:=NU t d.L}:=by show Xg _ _ _;rw[Yw]at r;exact r
  have K:=zl<|(xb.of_below O.o).trans B;clear r I B
  go_wp2
  go_end0
  exact⟨rfl,K.o,HE.o⟩
end
end
section
attribute [local go_sem] xe zv
def mJ(cv:Zv)(w:Zy):Prop:=∃t x,cv= .iface t x/\w.cell? (zq 0 0)=bO cv
def mJ.but{cv:Zv}{S:ZP}{w w':Zy}(h:mJ cv w)(b:xb S w w')(a:¬S 0):mJ cv w':=by
 obtain⟨t,x,rfl,c⟩:=h;exact⟨t,x,rfl,b.cell a c⟩
structure dL(D:Nat)(d:Dk):Prop where
 files:mE d.L
 nx:∀c,d.nx=bO c->i64 c.2.1/\0<=c.2.2/\i64 c.2.2
 zero:¬d.own D 0
def Dk.tick(d:Dk):Dk:=match d.nx with
 |none=>d
 |some c=>{d with nx:=bO (c.1,c.2.1-1,c.2.2)}
def Dk.stops(d:Dk):Bool:=match d.nx with
 |none=>bK
 |some c=>decide (c.2.1<=0)
def Dk.lost(d:Dk):Dk:=match d.nx with
 |none=>d
 |some c=>{d with nx:=bN,L:=NU c.2.2 d.L}
def F7(cv:Zv)(D:Nat)(d:Dk)(w:Zy)(e:Ending)(w':Zy):Prop:=
 xb (d.own D) w w'/\((e= .returned (.tuple #[])/\Xg w' D d.tick/\Hid (d.stops=bK))\/(e=eF cv/\Xg w' D d.lost/\Hid (d.stops=bL)))
def LD{cv:Zv}(D:Nat)(d:Dk)(w:Zy)(h:Xg w D d)(hk:dL D d)(q:mJ cv w):bE prog 215 #[zo D] w<|F7 cv D d w:=by
 obtain⟨f,M,L,nx⟩:=d;have j:=h.blk.cell 2 rfl;cases nx with
 |none=>
  have v:w.cell? (zq D 2)=bO (.pointer bN):=j;have s:Hid<|F7 cv D ⟨f,M,L,bN⟩ w (.returned<|.tuple #[]) w:=⟨xb.refl _ _,.inl ⟨rfl,h,rfl⟩⟩;clear h hk q j;go_enter func215.1,Tryz.ntmps215
  go_wp2
  go_end0
  exact s.o
 |some c=>
  obtain⟨c,a,t⟩:=c;have b:=h.eU _ rfl;have z:c≠D:=by
   intro B;have p:=h.blk;subst B;unfold xx at p b;rw[p]at b;cases b
  have v:w.cell? (zq D 2)=bO (zo c):=j;have W:w.cell? (zq c 0)=bO (zi a):=b.cell 0 rfl;have X:w.cell? (zq c 1)=bO (zi t):=b.cell 1 rfl;obtain⟨y,n,E⟩:=hk.nx _ rfl;by_cases G:0<a
  ·have R:-9223372036854775808<=a/\a<=9223372036854775807:=y
   have s:Hid<|F7 cv D ⟨f,M,L,bO (c,a,t)⟩ w (.returned<|.tuple #[])<|w.setCell (zq c 0)<|zi<|a-1:=by
    refine⟨(xb.set w (zq c 0) _).mono fun x o=> .inr (.inr ⟨_,rfl,o⟩),.inl ⟨rfl,⟨?_,?_,?_⟩,?_⟩⟩;exact h.blk.other (aL z) _;refine h.map.but (xb.set w (zq c 0) _) ?_;intro B;obtain⟨Y,k,p,_⟩:=h.map;have C:M=c:=B;subst C;unfold xx at b;rw[p]at b;cases b;intro O g;cases g;exact b.set 0 _;show Dk.stops _=bK;simp[Dk.stops];omega
   have Z:=b.bT 0;have S:-9223372036854775808<=a-1:=by omega
   have T:a-1<=9223372036854775807:=by omega
   clear h hk q j b y n E R;go_enter func215.1,Tryz.ntmps215
   go_wp2
   go_end0
   exact s.o
  have F:=zl hk;have I:=zl q;have J:Hid<|i64 t:=E;have f2:=h.blk.bT 2;have U:Hid<|Dk.stops ⟨f,M,L,bO (c,a,t)⟩=bL:=by show Dk.stops _=bL;simp[Dk.stops];omega
  have K:Hid<|Xg (w.setCell (zq D 2)<|.pointer bN) D ⟨f,M,L,bN⟩:=by
   refine⟨h.blk.set 2 _,?_,fun O g=>by cases g⟩;exact h.map.but (xb.set w (zq D 2) _) h.vW
  have H:Hid<|xb (Dk.own D ⟨f,M,L,bO (c,a,t)⟩) w<|w.setCell (zq D 2)<|.pointer bN:=(xb.set w (zq D 2) _).mono fun x o=> .inl o;clear h hk q j b y E;go_enter func215.1,Tryz.ntmps215
  go_wp2
  refine(xm9 D ⟨f,M,L,bN⟩ t n J.o _ K.o F.o.files).mono ?_;rintro e V ⟨rfl,l,m⟩;have r:Hid<|Xg V D ⟨f,M,NU t L,bN⟩:=m;have i:=zl<|H.o.trans<|l.mono fun x o=> .inr (.inl o);obtain⟨ty,x,rfl,Q⟩:=I.o.but i.o F.o.zero;clear l m
  go_wp2
  exact⟨rfl,i.o,.inr ⟨rfl,r.o,U.o⟩⟩
end
section
attribute [local go_sem] xe zv
attribute [local go_sem] ZF ZG
section
variable {cv:Zv}
def Yz(cv:Zv)(D:Nat)(d:Dk)(L':Ym)(w:Zy)(e:Ending)(w':Zy):Prop:=
 xb (d.own D) w w'/\((e= .returned (.tuple #[])/\Xg w' D {d.tick with L:=L'}/\Hid (d.stops=bK))\/(e=eF cv/\Xg w' D d.lost/\Hid (d.stops=bL)))
def Dk.fU(d:Dk):d.tick.L=d.L:=by unfold Dk.tick;split<;>rfl
def Dk.eB(d:Dk):d.tick.M=d.M:=by unfold Dk.tick;split<;>rfl
def Dk.dS(d:Dk)(D x:Nat):d.tick.own D x↔d.own D x:=by
 unfold Dk.own;rw[Dk.eB];unfold Dk.tick;split;rfl
 rename_i c hc
 simp[hc]
def f_(D:Nat)(d:Dk)(n:Int)(w:Zy)(h:Xg w D d)(hk:dL D d)(j:mJ cv w):bE prog 139 #[zo D,zi n] w<|Yz cv D d (V6 d.L n) w:=by
 have l:=zl h;have o:=zl hk;have m:=zl j;clear h hk j;go_enter func139.1,Tryz.ntmps139
 go_wp2
 refine(LD D d w l.o o.o m.o).mono ?_;rintro e w1 ⟨b,i⟩;rcases i with⟨rfl,a,g⟩|⟨rfl,a,g⟩
 rotate_left;exact⟨rfl,b,.inr ⟨rfl,a,g⟩⟩;have s:w1.cell? (zq D 1)=bO (.map<|bO d.tick.M):=a.blk.cell 1 rfl;obtain⟨r,k,c,f⟩:=cP (P:=prog) uR underlying3 a.map 0 3 n;have p:Hid<|Yz cv D d (V6 d.L n) w (.returned<|.tuple #[]) r:=by
  refine⟨b.trans<|c.mono fun x q=> .inr (.inl<|by rw[<-Dk.eB];exact q),.inl ⟨rfl,?_,g⟩⟩;rw[<-Dk.fU];exact a.jQ c f
 clear b a g c f
 go_wp2
 go_end0
 exact p.o
def Nz(D:Nat)(d:Dk)(n:Int)(x:Zl)(w:Zy)(h:Xg w D d)(hk:dL D d)(p:mJ cv w):bE prog 155 #[zo D,zi n,zs x] w<|Yz cv D d (Yx d.L n (x,x.length)) w:=by
 have q:=zl h;have s:=zl hk;have r:=zl p;clear h hk p;go_enter func155.1,Tryz.ntmps155
 go_wp2
 refine(LD D d w q.o s.o r.o).mono ?_;rintro e w1 ⟨b,m⟩;rcases m with⟨rfl,a,o⟩|⟨rfl,a,o⟩
 rotate_left;exact⟨rfl,b,.inr ⟨rfl,a,o⟩⟩;have f:=zl b;have g:=zl a;clear b a
 go_wp2
 refine(IZ x _).mono ?_;rintro e B ⟨rfl,c⟩;have k:=zl<|f.o.trans<|xb.of_below c;have l:=zl<|g.o.but (S:=fun _=>False) (xb.of_below c) fun _ _=>id;clear c f g
 go_wp2
 refine(LM D d.tick n (x,x.length) _ l.o).mono ?_;rintro e z ⟨rfl,i,j⟩;have t:Hid<|Yz cv D d (Yx d.L n (x,x.length)) w (.returned<|.tuple #[]) z:=by
  refine⟨k.o.trans<|i.mono fun y v=> .inr (.inl<|by rw[<-Dk.eB];exact v),.inl ⟨rfl,?_,o⟩⟩;rw[<-Dk.fU];exact j
 clear i j
 go_wp2
 go_end0
 exact t.o
def Tn(D:Nat)(d:Dk)(n:Int)(w:Zy)(h:Xg w D d)(hk:dL D d)(q:mJ cv w):bE prog 154 #[zo D,zi n] w<|Yz cv D d (Yx d.L n (qu d.L n,(qu d.L n).length)) w:=by
 have r:=zl h;have t:=zl hk;have s:=zl q;clear h hk q;go_enter func154.1,Tryz.ntmps154
 go_wp2
 refine(LD D d w r.o t.o s.o).mono ?_;rintro e w1 ⟨b,o⟩;rcases o with⟨rfl,a,p⟩|⟨rfl,a,p⟩
 rotate_left;exact⟨rfl,b,.inr ⟨rfl,a,p⟩⟩;have g:=zl b;have i:=zl a;have x:w1.cell? (zq D 1)=bO (.map<|bO d.tick.M):=a.blk.cell 1 rfl;have k:=KI (P:=prog) uR underlying3 LG a.map n;unfold fO at k;rw[Dk.fU]at k;change _=Result.ok (Value.agg #[zs<|qu d.L n,_]) _ at k;clear b a
 go_wp2
 refine(IZ (qu d.L n) _).mono ?_;rintro e C ⟨rfl,c⟩;have l:=zl<|g.o.trans<|xb.of_below c;have m:=zl<|i.o.but (S:=fun _=>False) (xb.of_below c) fun _ _=>id;clear c g i k x
 go_wp2
 refine(LM D d.tick n (qu d.L n,(qu d.L n).length) _ m.o).mono ?_;rintro e B ⟨rfl,j,f⟩;have v:Hid<|Yz cv D d (Yx d.L n (qu d.L n,(qu d.L n).length)) w (.returned<|.tuple #[]) B:=by
  refine⟨l.o.trans<|j.mono fun y z=> .inr (.inl<|by rw[<-Dk.eB];exact z),.inl ⟨rfl,?_,p⟩⟩;rw[Dk.fU]at f;exact f
 clear j f
 go_wp2
 go_end0
 exact v.o
def Qm(D:Nat)(d:Dk)(n:Int)(x:Zl)(hx:x.length<=1000000)(w:Zy)(h:Xg w D d)(hk:dL D d)(s:mJ cv w):bE prog 153 #[zo D,zi n,zs x] w<|Yz cv D d (Yx d.L n (qu d.L n++x,(Vu d.L n).2)) w:=by
 have v:=zl h;have E:=zl hk;have C:=zl s;have p:=(hk.files.each.dat n).2.2;clear h hk s;go_enter func153.1,Tryz.ntmps153
 go_wp2
 refine(LD D d w v.o E.o C.o).mono ?_;rintro e w1 ⟨b,q⟩;rcases q with⟨rfl,a,r⟩|⟨rfl,a,r⟩
 rotate_left;exact⟨rfl,b,.inr ⟨rfl,a,r⟩⟩;have k:=zl b;have m:=zl a;have K:w1.cell? (zq D 1)=bO (.map<|bO d.tick.M):=a.blk.cell 1 rfl;have j:=KI (P:=prog) uR underlying3 LG a.map n;rw[Dk.fU]at j;change _=Result.ok (fO<|Vu d.L n) _ at j;obtain⟨⟨y,o⟩,i⟩:∃f,Vu d.L n=f:=⟨_,rfl⟩;have B:=zl i;have G:Hid<|qu d.L n=y:=by show(Vu d.L n).1=y;rw[i]
 rw[i]at j p;clear i;unfold fO at j;have p:y.length<=1000000:=p;have H:¬9223372036854775807<y.length+x.length:=by omega
 clear b a
 go_wp2
 have t:=zl<|m.o.but (S:=fun _=>False) (xb.alloc<|.cells #[zs y,zi o] 139) fun _ _=>id;have l:=zl<|k.o.trans<|xb.alloc<|.cells #[zs y,zi o] 139;refine(LM D d.tick n (y++x,o) _ t.o).mono ?_;rintro e J ⟨rfl,g,c⟩;have F:Hid<|Yz cv D d (Yx d.L n (qu d.L n++x,(Vu d.L n).2)) w (.returned<|.tuple #[]) J:=by
  refine⟨l.o.trans<|g.mono fun z I=> .inr (.inl<|by rw[<-Dk.eB];exact I),.inl ⟨rfl,?_,r⟩⟩;rw[Dk.fU]at c;rw[G.o,B.o];exact c
 clear g c
 go_wp2
 go_end0
 exact F.o
def xpq(D:Nat)(d:Dk)(n:Int)(m:Nat)(w:Zy)(h:Xg w D d)(hk:dL D d)(x:mJ cv w)(J:m<=(qu d.L n).length):bE prog 138 #[zo D,zi n,zi m] w<|Yz cv D d (Yx d.L n ((qu d.L n).take m,((qu d.L n).take m).length)) w:=by
 have B:=zl h;have E:=zl hk;have C:=zl x;clear h hk x;go_enter func138.1,Tryz.ntmps138
 go_wp2
 refine(LD D d w B.o E.o C.o).mono ?_;rintro e w1 ⟨b,t⟩;rcases t with⟨rfl,a,v⟩|⟨rfl,a,v⟩
 rotate_left;exact⟨rfl,b,.inr ⟨rfl,a,v⟩⟩;have i:=zl b;have j:=zl a;have G:w1.cell? (zq D 1)=bO (.map<|bO d.tick.M):=a.blk.cell 1 rfl;have o:=KI (P:=prog) uR underlying3 LG a.map n;unfold fO at o;rw[Dk.fU]at o;change _=Result.ok (Value.agg #[zs<|qu d.L n,_]) _ at o;have hm1:(m:Int)<=((qu d.L n).length:Nat):=by omega
 have r:Hid<|∀y,(qu d.L n).take m=y->Yx d.L n ((qu d.L n).take m,((qu d.L n).take m).length)=Yx d.L n (y,y.length):=fun y g=>by rw[g]
 clear b a
 go_wp2
 rw[yN];generalize g:(qu d.L n).take m=y;have k:=r.o y g;rw[<-g]at k;have s:=zl<|r.o y g;clear g r k;refine(IZ y _).mono ?_;rintro e K ⟨rfl,c⟩;have p:=zl<|i.o.trans<|xb.of_below c;have q:=zl<|j.o.but (S:=fun _=>False) (xb.of_below c) fun _ _=>id;clear c i j o G;unfold fO
 go_wp2
 refine(LM D d.tick n (y,y.length) _ q.o).mono ?_;rintro e I ⟨rfl,l,f⟩;have F:Hid<|Yz cv D d (Yx d.L n ((qu d.L n).take m,((qu d.L n).take m).length)) w (.returned<|.tuple #[]) I:=by
  refine⟨p.o.trans<|l.mono fun z H=> .inr (.inl<|by rw[<-Dk.eB];exact H),.inl ⟨rfl,?_,v⟩⟩;rw[Dk.fU]at f;rw[s.o];exact f
 clear l f
 go_wp2
 go_end0
 exact F.o
end
end
section
attribute [local go_sem] xe zv
section
variable {w:Zy} {B:Nat} {x:Nat} {c:dM}
def xma(r:Int)(w:Zy):bE prog 72 #[zi r] w fun e w'=>e= .returned (zo<|w.heap.size+1)/\w'.heap.size=w.heap.size+2/\bC w.heap.size w w'/\Xg w' (w.heap.size+1) ⟨r,w.heap.size,[],bN⟩:=by
 have g:=run_makeMap (P:=prog) 134 w;have d:Hid<|mD (w.alloc<|.map #[] 0) w.heap.size []:=⟨#[],0,jw _ _,rfl,MapKept.stamped_empty 0⟩;have b:Hid<|bC w.heap.size w<|w.alloc<|.map #[] 0:=(zr _ _).alloc (ze _) _;have a:(w.alloc<|.map #[] 0).heap.size=w.heap.size+1:=by simp
 go_enter func72.1,Tryz.ntmps72
 go_wp2
 go_ret
 refine⟨rfl,by simp,b.o.trans<|((zr _ _).alloc (ze _) _).mono<|by simp,?_,?_,fun c f=>by cases f⟩;have:=xx.new (w.alloc<|.map #[] 0) #[zi r,.map<|bO w.heap.size,.pointer bN] 137;rw[a]at this;exact this;exact d.o.but (S:=fun _=>False) (xb.alloc _) id
def xY:Zv->Int
 | .agg a=>match(a[0]?:Option Zv)with
  |some (.string s)=>(s.size:Int)
  |_=>0
 |_=>0
def SX(v:Zl×Int):xY (fO v)=(v.1.length:Nat):=by simp[xY,fO,xe]
def kS:List aK->Array Nat->Int
 |[],_=>0
 |x::l,seen=>(if seen.contains x.born then xY x.val else 0)+kS l seen
def Pk(seen:Array Nat)(b:Nat):∀(es:List aK),b∉es.map (·.born)->kS es (seen.push b)=kS es seen
 |[],_=>rfl
 |x::l,h=>by
  have a:¬x.born=b:=fun e=>h (by simp[e]);have c:=Pk seen b l fun e=>h<|xf.2<|Or.inr e;simp[kS,c,a]
def Sj(seen:Array Nat)(e:aK)(b:seen.contains e.born=bK):∀(es:List aK),(es.map (·.born)).Nodup->e∈es->kS es (seen.push e.born)=kS es seen+xY e.val
 |[],_,h=>by cases h
 |x::l,hn,h=>by
  have a:=Zr.1 hn;rcases xf.1 h with rfl|h
  have:=Pk seen e.born l a.1;simp only[kS,this,b];simp;omega;have c:¬x.born=e.born:=fun q=>a.1<|qp.2 ⟨e,h,q.symm⟩;have d:=Sj seen e b l a.2 h;simp[kS,d,c];omega
def Sg(seen:Array Nat):∀(es:List aK),(∀x∈es,seen.contains x.born=bL)->kS es seen=(es.map fun e=>xY e.val).sum
 |[],_=>rfl
 |x::l,h=>by
  have b:=Sg seen l fun y a=>h y<|xf.2<|Or.inr a;simp only[kS,h x<|xf.2<|Or.inl rfl,if_true,xq,Vq,b]
def Si:∀(es:List aK),kS es #[]=0
 |[]=>rfl
 |x::l=>by simp[kS,Si l]
def I6(seen:Array Nat):∀(es:List aK),(∀x∈es,0<=xY x.val/\xY x.val<=1000000)->0<=kS es seen/\kS es seen<=1000000*es.length
 |[],_=>by simp[kS]
 |x::l,h=>by
  have c:=I6 seen l fun y a=>h y<|xf.2<|Or.inr a;have b:=h x (by simp);simp only[kS,zh];split<;>constructor<;>omega
def J6(L:Ym):Int:=(L.map fun p=>(p.2.1.length:Int)).sum
def Rm:∀{es:List aK} {L:Ym},jB es L->(es.map fun e=>xY e.val).sum=J6 L
 |[],[],_=>rfl
 |[],_::_,h=>(QR h).elim
 |e::es,[],h=>by unfold jB at h;simp at h
 |e::es,p::L,h=>by
  obtain⟨d,b,c⟩:=EB h;have a:=Rm c;simp only[xq,Vq,J6]at a⊢;rw[b,SX,a]
def Az(D:Nat)(d:Dk)(w:Zy)(h:Xg w D d)(hk:mE d.L)(bb:-1000000000000000<=d.room)(bc:d.room<=1000000000000000):
  bE prog 89 #[zo D] w fun e w'=>e= .returned (zi<|d.room-J6 d.L)/\bC w.heap.size w w':=by
 have c0:w.cell? (zq D 0)=bO (zi d.room):=h.blk.cell 0 rfl;have W:w.cell? (zq D 1)=bO (.map<|bO d.M):=h.blk.cell 1 rfl;obtain⟨c,a,J,f,G⟩:=h.map;have F:=(za.1 J).1;have bd:=run_range_map (P:=prog) w 134 3 139 d.M c a uR J;have HE:=zl f;have T:=zl G;have HM:=zl J;have V:Hid<|∀x∈c.toList,∃v:Zl×Int,x.val=fO v/\v.1.length<=1000000:=fun x o=>by
  obtain⟨p,hp,_,e⟩:=JZ f x o;exact⟨p.2,e,(hk.each p hp).c⟩
 have HL:Hid<|c.toList.length<=1000000:=by
  have:=congrArg List.length f;simp only[Zb]at this;show _<=_;rw[this];exact hk.cnt
 clear h J f G hk;go_enter func89.1,Tryz.ntmps89
 go_wp2
 generalize hw0:w.alloc (.mapIter (bO d.M) a #[] a)=w0;have R:Hid<|w0.heap[w.heap.size]?=bO (.mapIter (bO d.M) a #[] a):=by show _=_;rw[<-hw0];exact jw _ _
 have K:Hid<|bC w.heap.size w w0:=by show bC _ _ _;rw[<-hw0];exact(zr _ _).alloc (ze _) _
 clear hw0
 go_loopw [3] (fun x wr=>∃b W,x=zi (d.room-kS c.toList b)/\a<=W/\wr.heap[w.heap.size]?=bO (.mapIter (bO d.M) a b W)/\bC w.heap.size w wr) (fun _ wr=>match wr.heap[w.heap.size]?with
  |some (.mapIter _ _ b _)=>(Go.leftOf c b).size
  |_=>0)
 case atStart=>exact⟨#[],a,by simp[Si],ze _,R.o,K.o⟩
 case round=>
  obtain⟨b,c2,rfl,X,i,g⟩:=hrel;have z:=(g.block _ F).trans HM.o;have ba:=I6 b c.toList (fun x o=>by obtain⟨v,e,B⟩:=V.o x o;rw[e,SX];omega);have hL:=HL.o;rcases run_next_at (P:=prog) wr 0 w.heap.size d.M a c2 b c a i z T.o.1 X with⟨hz,hnx⟩|⟨x,o,w1,hw1,hnx⟩
  ·have HR:Hid<|d.room-kS c.toList b=d.room-J6 d.L:=by
    show _=_;rw[Sg b c.toList<|all_seen c b hz,Rm HE.o]
   have HB:=zl g;clear i g z
   go_wp2
   go_ret
   exact⟨by rw[HR.o];rfl,HB.o⟩
  have j:x∈c.toList/\b.contains x.born=bK:=by
   simp only[Go.leftOf,Array.toList_filter,IC]at o;exact⟨o.1,by simpa using o.2⟩
  obtain⟨v,B,H⟩:=V.o x j.1;have q:Hid<|kS c.toList (b.push x.born)=kS c.toList b+(v.1.length:Nat):=by
   show _=_;rw[Sj b x j.2 c.toList T.o.2.1 j.1,B,SX]
  have r:=I6 (b.push x.born) c.toList (fun y hy=>by obtain⟨v,e,B⟩:=V.o y hy;rw[e,SX];omega);rw[q.o]at r;have U:=zl<|left_shrinks c b x o;rw[B]at hnx;obtain⟨I,m⟩:∃I,ChangeMaps.setBlock w1 w.heap.size (.mapIter (bO d.M) a (b.push x.born) a)=I:=⟨_,rfl⟩;rw[m]at hnx;have Y:=(za.1 i).1;have n:w1.heap=wr.heap:=by rcases hw1 with rfl|rfl<;>rfl
  have l:I.heap[w.heap.size]?=bO (.mapIter (bO d.M) a (b.push x.born) a):=by
   rw[<-m];simp[ChangeMaps.setBlock,n,Y]
  have t:bC w.heap.size w I:=by
   refine g.trans ?_;rw[<-m];refine⟨by rcases hw1 with rfl|rfl<;>rfl,by rcases hw1 with rfl|rfl<;>rfl,by rcases hw1 with rfl|rfl<;>rfl,by simp[ChangeMaps.setBlock,n],fun k hk=>?_⟩;have Z:w.heap.size≠k:=by omega
   simp[ChangeMaps.setBlock,n,Z]
  have E:=(t.block _ F).trans HM.o;have C:=run_entry_at (P:=prog) I w.heap.size d.M a b c a x l E j.1 T.o.2.1;rw[B]at C;have Q:=zl l;have O:=zl t;have S:=zl i;have s:=(za.1 l).1;obtain⟨y,fl⟩:=v;unfold fO at hnx C;have be:y.length<=1000000:=H;simp only at r;clear i g z l t E m hw1 n o j B H;generalize x.key=xk at*;generalize kS c.toList b=sm at*
  go_wp2
  have hh:=(heap_alloc_old _ (Obj.cells #[zs y,Value.int IntKind.i64 fl] 139) s).trans Q.o;refine⟨⟨b.push x.born,a,?_,ze _,hh,O.o.trans<|((zr _ _).alloc (ze _) _).mono<|Nat.le_of_lt s⟩,?_⟩;rw[q.o];show Value.int _ _=Value.int _ _;rw[Int.sub_sub];rw[hh,S.o];exact U.o
structure Jo where
 S:Nat
 mp:Nat
 L:KV
 pv:Zv
 P:List dM
 ep:Nat
 base:Int
 last:Int
 named:Int
 bP:Int
structure Sr where
 nW:Int
 lim:Int
 D:Nat
 d:Dk
 m:Zl
 cnt:Nat
 mark:Zl
 op:Nat
 sn:Option Jo
def Sr.iJ(r:Sr):Zv:= .pointer (r.sn.map fun s=>⟨s.S,0,bN⟩)
def Sr.cells(r:Sr):Za:=#[.int .i64 r.nW,.int .i64 r.lim,.pointer<|bO ⟨r.D,0,bN⟩,.string<|st r.m,.int .i64 (r.cnt:Int),.string<|st r.mark,.int .i64 (r.op:Int),r.iJ]
def Jo.cells(s:Jo):Za:=#[.map<|bO s.mp,s.pv,.int .i64 (s.ep:Int),.int .i64 s.base,.int .i64 s.last,.int .i64 s.named,.int .i64 s.bP]
def Jo.own(s:Jo)(x:Nat):Prop:=x=s.S\/x=s.mp\/∃a n c,s.pv= .slice (bO a) n c/\x=a.block
def Sr.own(B:Nat)(r:Sr)(x:Nat):Prop:=x=B\/r.d.own r.D x\/∃s,r.sn=bO s/\s.own x
structure xE(w:Zy)(s:Jo):Prop where
 blk:xx w s.S s.cells 152
 map:Xd w s.mp s.L
 pend:w.ownsRow 0 173 1 s.pv s.P.length<|s.P.map iC
structure Jq(w:Zy)(B:Nat)(r:Sr):Prop where
 blk:xx w B r.cells 94
 disk:Xg w r.D r.d
 bU:∀s,r.sn=bO s->xE w s/\s.mp≠r.d.M
def xx.ne{a b:Nat}{cs cs':Za}{t c:Zt}(h:xx w a cs t)(k:xx w b cs' c)(d:t≠c):a≠b:=by
 intro e;subst e;unfold xx at h k;rw[h]at k;cases k;exact d rfl
def xx.cZ{a b:Nat}{cs:Za}{t:Zt}{es:Array aK}{c:Nat}(h:xx w a cs t)(k:w.heap[b]?=bO (.map es c)):a≠b:=by
 intro e;subst e;unfold xx at h;rw[h]at k;cases k
def Xd.blk{m:Nat}{L:KV}(h:Xd w m L):∃es c,w.heap[m]?=bO (.map es c):=by obtain⟨es,c,h,_⟩:=h;exact⟨es,c,h⟩
def mD.blk{m:Nat}{L:Ym}(h:mD w m L):∃es c,w.heap[m]?=bO (.map es c):=by obtain⟨es,c,h,_⟩:=h;exact⟨es,c,h⟩
def AC{v:Zv}{n:Nat}{xs:Ze}{a:Addr}{k c:Nat}(h:w.ownsRow 0 173 1 v n xs)(b:v= .slice (bO a) k c):∃cur,w.heap[a.block]?=bO (.cells cur 173 (0,0))/\a=(zq a.block 0):=by
 rcases h.2 with⟨d,_⟩|⟨g,e,cur,d,_,f,_⟩;rw[d]at b;cases b;rw[d]at b;cases b;exact⟨cur,f,rfl⟩
def Dk.bX{D:Nat}{d:Dk}(h:Xg w D d)(hx:d.own D x):x<w.heap.size:=by
 rcases hx with rfl|rfl|⟨c,a,rfl⟩;exact h.blk.lt;exact h.map.lt;exact(h.eU c a).lt
def Jo.bX{s:Jo}(h:xE w s)(hx:s.own x):x<w.heap.size:=by
 rcases hx with rfl|rfl|⟨a,n,c,e,rfl⟩;exact h.blk.lt;exact h.map.lt;obtain⟨b,d,_⟩:=AC h.pend e;exact(za.1 d).1
def Sr.bX{r:Sr}(h:Jq w B r)(hx:r.own B x):x<w.heap.size:=by
 rcases hx with rfl|hx|⟨s,a,hx⟩;exact h.blk.lt;exact Dk.bX h.disk hx;exact Jo.bX (h.bU s a).1 hx
def Jq.apart{r:Sr}{s:Jo}(h:Jq w B r)(q:r.sn=bO s)(hx:s.own x):¬r.d.own r.D x:=by
 obtain⟨k,i⟩:=h.bU s q;obtain⟨y,v,j⟩:=h.disk.map.blk;obtain⟨o,m,l⟩:=k.map.blk;rcases hx with rfl|rfl|⟨a,n,c,t,rfl⟩
 rintro(e|e|⟨c,b,e⟩);exact k.blk.ne h.disk.blk (by decide) e;exact k.blk.cZ j e;exact k.blk.ne (h.disk.eU c b) (by decide) e;rintro(e|e|⟨c,b,e⟩);exact h.disk.blk.cZ l e.symm;exact i e;exact(h.disk.eU c b).cZ l e.symm;obtain⟨f,p,_⟩:=AC k.pend t;have g:xx w a.block f 173:=p;rintro(e|e|⟨c,b,e⟩);exact g.ne h.disk.blk (by decide) e;exact g.cZ j e;exact g.ne (h.disk.eU c b) (by decide) e
def Jq.fB{r:Sr}(h:Jq w B r):¬r.d.own r.D B:=by
 obtain⟨g,f,a⟩:=h.disk.map.blk;rintro(e|e|⟨c,b,e⟩);exact h.blk.ne h.disk.blk (by decide) e;exact h.blk.cZ a e;exact h.blk.ne (h.disk.eU c b) (by decide) e
def Jq.zJ{r:Sr}{s:Jo}(h:Jq w B r)(m:r.sn=bO s):¬s.own B:=by
 obtain⟨k,l⟩:=h.bU s m;obtain⟨f,d,j⟩:=k.map.blk;rintro(e|e|⟨a,n,c,o,e⟩);exact h.blk.ne k.blk (by decide) e;exact h.blk.cZ j e;obtain⟨b,g,_⟩:=AC k.pend o;have i:xx w a.block b 173:=g;exact h.blk.ne i (by decide) e
def xE.but{S:ZP}{w w':Zy}{s:Jo}(h:xE w s)(c:xb S w w')(d:∀x,s.own x->¬S x):xE w' s:=by
 refine⟨h.blk.but c<|d _<|.inl rfl,h.map.but c<|d _<|.inr<|.inl rfl,h.pend.1,?_⟩;rcases h.pend.2 with i|⟨g,a,b,f,j,e,r⟩
 exact .inl i;exact .inr ⟨g,a,b,f,j,(c.block g (za.1 e).1<|d g<|.inr<|.inr ⟨_,_,_,f,rfl⟩).trans e,r⟩
def Jq.but{S:ZP}{w w':Zy}{r:Sr}(h:Jq w B r)(a:xb S w w')(b:∀x,r.own B x->¬S x):Jq w' B r:=
 ⟨h.blk.but a<|b _<|.inl rfl,h.disk.but a fun x c=>b x<|.inr<|.inl c,fun s e=>⟨(h.bU s e).1.but a fun x c=>b x<|.inr<|.inr ⟨s,e,c⟩,(h.bU s e).2⟩⟩
structure jt(B:Nat)(r:Sr)(w:Zy)(r':Sr)(w':Zy):Prop where
 but:xb (r.own B) w w'
 at_:Jq w' B r'
 own:∀x,r'.own B x->r.own B x\/w.heap.size<=x
theorem jt.refl{r:Sr}(h:Jq w B r):jt B r w r w:=⟨xb.refl _ _,h,fun _ h=> .inl h⟩
def jt.trans{r r1 e:Sr}{w w1 f:Zy}(h:jt B r w r1 w1)(k:jt B r1 w1 e f):jt B r w e f:=by
 refine⟨⟨k.but.os.trans h.but.os,k.but.output.trans h.but.output,xz h.but.size k.but.size,fun i c d=>?_⟩,k.at_,fun x b=>?_⟩;refine(k.but.block i (zn c h.but.size) fun b=>?_).trans<|h.but.block i c d;rcases h.own i b with a|a
 exact d a;omega;rcases k.own x b with a|a
 exact h.own x a;exact .inr<|xz h.but.size a
def Tm(B:Nat)(r:Sr)(w:Zy)(h:Jq w B r):bE prog 23 #[zo B] w fun e w'=>e= .returned (zi r.cnt)/\w'=w:=by
 have a:w.cell? (zq B 4)=bO (zi r.cnt):=h.blk.cell 4 rfl;clear h;go_enter func23.1,Tryz.ntmps23
 go_wp2
 go_ret
 exact⟨rfl,rfl⟩
def Sr.shut(r:Sr):Sr:={r with sn:=bN}
def x_(B:Nat)(r:Sr)(w:Zy)(h:Jq w B r):bE prog 11 #[zo B] w fun e w'=>e= .returned (zi (if r.sn.isSome then 0 else 5))/\jt B r w r.shut w':=by
 have c7:=h.blk.cell 7 rfl;cases hs:r.sn with
 |none=>
  have c:w.cell? (zq B 7)=bO (.pointer bN):=by rw[c7];simp[Sr.cells,Sr.iJ,hs]
  have b:Hid<|jt B r w r.shut w:=by
   have:r.shut=r:=by unfold Sr.shut;rw[<-hs]
   show jt _ _ _ _ _;rw[this];exact .refl h
  clear h c7;go_enter func11.1,Tryz.ntmps11
  go_wp2
  go_ret
  exact⟨rfl,b.o⟩
 |some s=>
  have c:w.cell? (zq B 7)=bO (zo s.S):=by rw[c7];simp[Sr.cells,Sr.iJ,hs]
  have d:=h.blk.bT 7;have b:Hid<|jt B r w r.shut<|w.setCell (zq B 7)<|.pointer bN:=by
   refine⟨(xb.set w (zq B 7) _).mono fun x a=> .inl a,⟨?_,?_,fun s e=>by cases e⟩,fun x a=>?_⟩;exact h.blk.set 7 _;exact h.disk.but (xb.set w (zq B 7) _) fun x a e=>h.fB (by have e:x=B:=e;rw[<-e];exact a);rcases a with e|e|⟨s,e,_⟩
   exact .inl<|.inl e;exact .inl<|.inr<|.inl e;cases e
  clear h c7;go_enter func11.1,Tryz.ntmps11
  go_wp2
  go_ret
  exact⟨rfl,b.o⟩
structure NH(s:Jo)(w:Zy)(s':Jo)(w':Zy):Prop where
 but:xb s.own w w'
 at_:xE w' s'
 own:∀x,s'.own x->s.own x\/w.heap.size<=x
 mp:s'.mp=s.mp
 S:s'.S=s.S
def NH.st{r:Sr}{s s':Jo}{w w':Zy}(h:Jq w B r)(b:r.sn=bO s)(k:NH s w s' w'):jt B r w {r with sn:=bO s'} w':=by
 refine⟨k.but.mono fun x a=> .inr (.inr ⟨s,b,a⟩),⟨?_,?_,fun t d=>?_⟩,fun x a=>?_⟩;have:Sr.cells {r with sn:=bO s'}=r.cells:=by
  unfold Sr.cells Sr.iJ;simp only[b,js,k.S]
 show xx _ _ (Sr.cells {r with sn:=bO s'}) _;rw[this];exact h.blk.but k.but<|h.zJ b;exact h.disk.but k.but fun x a f=>h.apart b f a;cases d;exact⟨k.at_,by rw[k.mp];exact(h.bU s b).2⟩;rcases a with e|e|⟨t,d,a⟩
 exact .inl<|.inl e;exact .inl<|.inr<|.inl e;cases d;rcases k.own x a with c|c
 exact .inl<|.inr<|.inr ⟨s,b,c⟩;exact .inr c
def Jo.more(s:Jo)(pv:Zv)(c:dM):Jo:={s with pv,P:=s.P++[c]}
def Oa(s:Jo)(c:dM)(w:Zy)(h:xE w s)(g:s.P.length=20):bE prog 48 #[zo s.S,iC c] w fun e w'=>e= .returned (zi 7)/\w'=w:=by
 obtain⟨a,d,b,f⟩:=Jh h.pend;rw[g]at b;have i:w.cell? (zq s.S 1)=bO (.slice a 20 d):=by rw[<-b];exact h.blk.cell 1 rfl
 clear h b;go_enter func48.1,Tryz.ntmps48
 go_wp2
 go_ret
 exact⟨rfl,rfl⟩
def Tj(s:Jo)(c:dM)(w:Zy)(h:xE w s)(hP:s.P.length<20):bE prog 48 #[zo s.S,iC c] w fun e w'=>e= .returned (zi 0)/\∃pv,NH s w (s.more pv c) w':=by
 obtain⟨K,hi,W,X,Y⟩:=Bz;obtain⟨a,i,v,bb⟩:=Jh h.pend;have c1:w.cell? (zq s.S 1)=bO (.slice a s.P.length i):=by rw[<-v];exact h.blk.cell 1 rfl
 have B:=zl h;have C:=zl v;have O2:Hid<|w.ownsRow 0 173 1 (.slice a s.P.length i) s.P.length<|s.P.map iC:=by show World.ownsRow _ _ _ _ _ _ _;rw[<-v];exact h.pend
 have HV:=Bq c;have U:¬(s.P.length:Int)=20:=by omega
 have hS:=h.blk.lt;clear h v;obtain⟨Z,xi,F⟩:∃Z xi,iC c= .iface Z xi:=by cases c<;>exact⟨_,_,rfl⟩
 rw[F]at HV⊢;have M:=zl F;clear F;go_enter func48.1,Tryz.ntmps48
 go_wp2_with (refine wpList_append_lies _ rfl _ _ 150 rfl 0 173 K .nilIface 1 16 Dl hi W X Y rfl (by decide) (.slice a s.P.length i) s.P.length (s.P.map iC) rfl ?own (zq w.heap.size 0) 1 1 [.iface Z xi] rfl rfl ?nw ?o1 (by decide) ?m1 ?m2 ?m3 (w.heap.size+1) ?m4 ?_)
 case own=>exact O2.o.alloc _
 case m1=>unfold maxLen;omega
 case m2=>omega
 case m3=>simp
 case m4=>simp
 case o1=>intro z G;simp at G;rw[G];exact HV
 case nw=>intro j z G;cases j with
  |zero=>simp at G;subst G;simp[go_sem,Addr.add]
  |succ j=>simp at G
 intro t d H p f l bc;have o:∀q,(Value.slice a s.P.length i).ownBlock=bO q->s.own q:=by
  intro q hq;cases a with
  |none=>cases hq
  |some a=>cases hq;exact .inr<|.inr ⟨a,_,_,C.o,rfl⟩
 have L:xb (fun x=>bO x=(Value.slice a s.P.length i).ownBlock) w H:=by
  refine⟨f.os,f.output,xz (by simp) f.size,fun k hk hs=>?_⟩;exact(f.block k (by simp;omega) hs).trans<|heap_alloc_old _ _ hk
 have E:¬bO s.S=(Value.slice a s.P.length i).ownBlock:=by
  intro e;cases a with
  |none=>cases e
  |some a=>
   obtain⟨m,y,_⟩:=AC B.o.pend C.o;exact B.o.blk.ne (show xx w a.block m 173 from y) (by decide)<|jf e
 have D:¬bO s.mp=(Value.slice a s.P.length i).ownBlock:=by
  intro e;cases a with
  |none=>cases e
  |some a=>
   obtain⟨m,y,_⟩:=AC B.o.pend C.o;obtain⟨es,k,T⟩:=B.o.map.blk;exact(show xx w a.block m 173 from y).cZ T (jf e).symm
 have I:=B.o.blk.but L E;have O:=B.o.map.but L D;have f1:=I.bT 1;have bd:=I.cell 1 rfl;have R:t≠s.S:=by
  rcases l with e|e;intro Q;rw[Q]at e;exact E e.symm;omega
 have be:t≠s.mp:=by
  rcases l with e|e;intro Q;rw[Q]at e;exact D e.symm;have:=B.o.map.lt;omega
 have HR:Hid<|NH s w (s.more (.slice (bO ⟨t,0,bN⟩) (s.P.length+1) d) c)<|H.setCell (zq s.S 1)<|.slice (bO ⟨t,0,bN⟩) (s.P.length+1) d:=by
  refine⟨?_,⟨?_,?_,?_⟩,?_,rfl,rfl⟩;exact(L.mono fun x J=>o x J.symm).trans<|(xb.set H (zq s.S 1) _).mono fun x J=> .inl J;exact I.set 1 _;exact O.but (xb.set H (zq s.S 1) _) (fun e=>by
   obtain⟨es,k,T⟩:=O.blk;exact I.cZ T e.symm)
  have:H.ownsRow 0 173 1 (.slice (bO ⟨t,0,bN⟩) (s.P++[c]).length d) (s.P++[c]).length<|(s.P++[c]).map iC:=by
   rw[Jd,zj];simp only[xq,DN,M.o];exact p
  have h2:(H.setCell (zq s.S 1)<|.slice (bO ⟨t,0,bN⟩) (s.P.length+1) d).ownsRow 0 173 1 (.slice (bO ⟨t,0,bN⟩) (s.P++[c]).length d) (s.P++[c]).length<|(s.P++[c]).map iC:=by
   refine⟨this.1,?_⟩;rcases this.2 with y|⟨g,ba,m,V,hg,hh,r⟩
   exact .inl y;cases V;exact .inr ⟨t,_,m,rfl,hg,(V8 _ _ _ _ R).trans hh,r⟩
  simpa[Jo.more]using h2;intro x J;rcases J with e|e|⟨b,n,c,V,e⟩
  exact .inl<|.inl e;exact .inl<|.inr<|.inl e;cases V;rcases l with y|y
  left;rw[e];exact o _ y;right;have e:x=t:=e;omega
 clear p f l L o E D I O
 go_wp2
 go_ret
 exact⟨rfl,_,HR.o⟩
def Sr.awaits(r:Sr)(ok:Bool)(c:dM)(a:Int)(r':Sr):Prop:=match r.sn with
 |none=>a=5/\r'=r
 |some s=>if ok=bK then a=6/\r'=r else if s.P.length=20 then a=7/\r'=r else a=0/\∃pv,r'={r with sn:=bO<|s.more pv c}
def Sr.iR{r:Sr}{a:Bool}(h:r.sn=bN):r.awaits a c 5 r:=by unfold Sr.awaits;rw[h];exact⟨rfl,rfl⟩
def Sr.gP{r:Sr}{s:Jo}(h:r.sn=bO s):r.awaits bK c 6 r:=by unfold Sr.awaits;rw[h];simp
def Sr.iQ{r:Sr}{s:Jo}(h:r.sn=bO s)(a:s.P.length=20):r.awaits bL c 7 r:=by unfold Sr.awaits;rw[h];simp[a]
def Sr.kV{r:Sr}{s:Jo}(pv:Zv)(h:r.sn=bO s)(a:s.P.length≠20):r.awaits bL c 0 {r with sn:=bO<|s.more pv c}:=by unfold Sr.awaits;rw[h];simp[a];exact⟨pv,rfl⟩
def Ve(k:Zl):Bool:=decide (0<k.length/\k.length<=16)
def iW(v:Zl):Bool:=decide (v.length<=32)
def Dv(B:Nat)(r:Sr)(b c:Zl)(w:Zy)(h:Jq w B r)(n:∀s,r.sn=bO s->s.P.length<=20):bE prog 24 #[zo B,zs b,zs c] w fun e w'=>∃a r',e= .returned (zi a)/\jt B r w r' w'/\r.awaits (Ve b&&iW c) (.put b c) a r':=by
 have c7:=h.blk.cell 7 rfl;have d:=zl h;cases hs:r.sn with
 |none=>
  have m:w.cell? (zq B 7)=bO (.pointer bN):=by rw[c7];simp[Sr.cells,Sr.iJ,hs]
  have k:Hid<|r.awaits (Ve b&&iW c) (.put b c) 5 r:=Sr.iR hs;clear h c7 hs n;go_enter func24.1,Tryz.ntmps24
  go_wp2
  go_ret
  exact⟨5,r,rfl,.refl d.o,k.o⟩
 |some s=>
  have m:w.cell? (zq B 7)=bO (zo s.S):=by rw[c7];simp[Sr.cells,Sr.iJ,hs]
  have f:=zl hs;have p:=n s hs;clear h c7 hs n;go_enter func24.1,Tryz.ntmps24
  go_wp2
  refine(KD b _).mono ?_;rintro e w1 ⟨rfl,i⟩;obtain rfl:=i.symm;cases hk:decide (0<b.length/\b.length<=16)with
  |false=>
   have k:Hid<|r.awaits (Ve b&&iW c) (.put b c) 6 r:=by
    have:(Ve b&&iW c)=bK:=by simp only[Ve,hk,W7]
    show Sr.awaits _ _ _ _ _;rw[this];exact Sr.gP f.o
   clear hk
   go_wp2
   go_ret
   exact⟨6,r,rfl,.refl d.o,k.o⟩
  |true=>
   have j:=zl hk;clear hk
   go_wp2
   refine(Ou c _).mono ?_;rintro e w1 ⟨rfl,i⟩;obtain rfl:=i.symm;cases hv:decide (c.length<=32)with
   |false=>
    have k:Hid<|r.awaits (Ve b&&iW c) (.put b c) 6 r:=by
     have:(Ve b&&iW c)=bK:=by simp only[Ve,iW,hv,Bool.and_false]
     show Sr.awaits _ _ _ _ _;rw[this];exact Sr.gP f.o
    clear hv
    go_wp2
    go_ret
    exact⟨6,r,rfl,.refl d.o,k.o⟩
   |true=>
    have o:Hid<|(Ve b&&iW c)=bL:=by show _=_;simp only[Ve,iW,hv,j.o,Bool.and_self]
    clear hv j
    go_wp2
    by_cases g:s.P.length=20
    ·refine(Oa s (.put b c) _ (d.o.bU s f.o).1 g).mono ?_
     rintro e w1 ⟨rfl,rfl⟩
     go_wp2
     go_ret
     exact⟨7,r,rfl,.refl d.o,by rw[o.o];exact Sr.iQ f.o g⟩
    refine(Tj s (.put b c) _ (d.o.bU s f.o).1<|by omega).mono ?_;rintro e w1 ⟨rfl,t,l⟩;have q:=zl<|l.st d.o f.o;clear l
    go_wp2
    go_ret
    exact⟨0,_,rfl,q.o,by rw[o.o];exact Sr.kV t f.o g⟩
def CA(B:Nat)(r:Sr)(b:Zl)(w:Zy)(h:Jq w B r)(k:∀s,r.sn=bO s->s.P.length<=20):bE prog 25 #[zo B,zs b] w fun e w'=>∃a r',e= .returned (zi a)/\jt B r w r' w'/\r.awaits (Ve b) (.del b) a r':=by
 have c7:=h.blk.cell 7 rfl;have d:=zl h;cases hs:r.sn with
 |none=>
  have j:w.cell? (zq B 7)=bO (.pointer bN):=by rw[c7];simp[Sr.cells,Sr.iJ,hs]
  have i:Hid<|r.awaits (Ve b) (.del b) 5 r:=Sr.iR hs;clear h c7 hs k;go_enter func25.1,Tryz.ntmps25
  go_wp2
  go_ret
  exact⟨5,r,rfl,.refl d.o,i.o⟩
 |some s=>
  have j:w.cell? (zq B 7)=bO (zo s.S):=by rw[c7];simp[Sr.cells,Sr.iJ,hs]
  have f:=zl hs;have n:=k s hs;clear h c7 hs k;go_enter func25.1,Tryz.ntmps25
  go_wp2
  refine(KD b _).mono ?_;rintro e w1 ⟨rfl,l⟩;obtain rfl:=l.symm;cases hk:decide (0<b.length/\b.length<=16)with
  |false=>
   have i:Hid<|r.awaits (Ve b) (.del b) 6 r:=by
    have:(Ve b)=bK:=by simp only[Ve,hk,W7]
    show Sr.awaits _ _ _ _ _;rw[this];exact Sr.gP f.o
   clear hk
   go_wp2
   go_ret
   exact⟨6,r,rfl,.refl d.o,i.o⟩
  |true=>
   have m:Hid<|(Ve b)=bL:=hk;clear hk
   go_wp2
   by_cases c:s.P.length=20
   ·refine(Oa s (.del b) _ (d.o.bU s f.o).1 c).mono ?_
    rintro e w1 ⟨rfl,rfl⟩
    go_wp2
    go_ret
    exact⟨7,r,rfl,.refl d.o,by rw[m.o];exact Sr.iQ f.o c⟩
   refine(Tj s (.del b) _ (d.o.bU s f.o).1<|by omega).mono ?_;rintro e w1 ⟨rfl,p,g⟩;have o:=zl<|g.st d.o f.o;clear g
   go_wp2
   go_ret
   exact⟨0,_,rfl,o.o,by rw[m.o];exact Sr.kV p f.o c⟩
def xb.drewN{S:ZP}{w w':Zy}{n:Nat}(h:xb S w w'):xb S w<|w'.drewN n:=⟨h.os,h.output,h.size,h.block⟩
def Wh.drewN{tv:Zv}{n:Nat}(h:Wh tv w):Wh tv<|w.drewN n:=h
def sS(k:Lk):Prop:=((k.cnt:Int)=k.tc/\k.tag=k.mark)\/((k.cnt:Int)=k.tc+1/\k.ahead=k.mark)
def zri{tv:Zv}(b:Nat)(k:Lk)(w:Zy)(d:Xa w b k)(G:0<=k.tc)(H:k.tc<=1000000000000)(q:Wh tv w):bE prog 137 #[zo b] w fun e w'=>xb (fun _=>False) w w'/\((e= .returned (.tuple #[])/\Hid (sS k))\/(e=eF tv/\Hid (¬sS k))):=by
 have m:=zl q;have C:w.cell? (zq b 1)=bO (zi k.tc):=d.cell 1 rfl;have D:w.cell? (zq b 2)=bO (zs k.mark):=d.cell 2 rfl;have E:w.cell? (zq b 8)=bO (zi k.cnt):=d.cell 8 rfl;have F:w.cell? (zq b 9)=bO (zs k.tag):=d.cell 9 rfl;have r:w.cell? (zq b 10)=bO (zs k.ahead):=d.cell 10 rfl;have f:Hid<|sS k↔(((k.cnt:Int)=k.tc/\k.tag=k.mark)\/((k.cnt:Int)=k.tc+1/\k.ahead=k.mark)):=Iff.rfl;have z:(st k.tag==st k.mark)=decide (k.tag=k.mark):=BQ _ _;have y:(st k.ahead==st k.mark)=decide (k.ahead=k.mark):=BQ _ _;have B:IntKind.i64.wrap (k.tc+1)=k.tc+1:=by simp[IntKind.wrap,IntKind.bits,IntKind.signed];omega
 clear d q;generalize(k.cnt:Int)=cn at*;generalize k.tc=tc at*;go_enter func137.1,Tryz.ntmps137;by_cases h:cn=tc
 ·subst h
  have j:¬cn=cn+1:=by omega
  have t:decide (cn=cn+1)=bK:=by simp;omega
  have v:(cn==cn+1)=bK:=by simp;omega
  by_cases i:k.tag=k.mark
  ·have a:=zl (f.o.2<|.inl ⟨rfl,i⟩)
   have c:((st k.tag).toList==(st k.mark).toList)=bL:=by rw[i];exact beq_self_eq_true _
   go_wp2
   go_quiet (fail)
   go_wp2
   go_quiet (fail)
   go_wp2
   refine(Yb _ (by rfl) _).mono ?_;rintro e w1 ⟨rfl,rfl⟩
   go_wp2
   go_end0
   exact⟨(xb.refl _ _).drewN,.inl ⟨rfl,a⟩⟩
  have a:Hid<|¬sS k:=fun g=>by rcases f.o.1 g with⟨_,x⟩|⟨x,_⟩;exact i x;exact j x
  have o:¬(st k.tag).toList=(st k.mark).toList:=by rw[xo,xo];exact i
  have c:((st k.tag).toList==(st k.mark).toList)=bK:=by rw[Xy];exact o
  go_wp2
  go_quiet (fail)
  go_wp2
  go_quiet (fail)
  go_wp2
  refine(Xu _ (by rfl) _<|m.o.drewN (n:=_)).mono ?_;rintro e w1 ⟨rfl,rfl⟩;exact⟨rfl,(xb.refl _ _).drewN,.inr ⟨rfl,a⟩⟩
 have s:decide (cn=tc)=bK:=by simp[h]
 by_cases j:cn=tc+1
 ·subst j
  by_cases l:k.ahead=k.mark
  ·have a:=zl (f.o.2<|.inr ⟨rfl,l⟩)
   have c:((st k.ahead).toList==(st k.mark).toList)=bL:=by rw[l];exact beq_self_eq_true _
   go_wp2
   go_quiet (fail)
   go_wp2
   go_quiet (fail)
   go_wp2
   refine(Yb _ (by rfl) _).mono ?_;rintro e w1 ⟨rfl,rfl⟩
   go_wp2
   go_end0
   exact⟨(xb.refl _ _).drewN,.inl ⟨rfl,a⟩⟩
  have a:Hid<|¬sS k:=fun g=>by rcases f.o.1 g with⟨x,_⟩|⟨_,x⟩;exact h x;exact l x
  have p:¬(st k.ahead).toList=(st k.mark).toList:=by rw[xo,xo];exact l
  have c:((st k.ahead).toList==(st k.mark).toList)=bK:=by rw[Xy];exact p
  go_wp2
  go_quiet (fail)
  go_wp2
  go_quiet (fail)
  go_wp2
  refine(Xu _ (by rfl) _<|m.o.drewN (n:=_)).mono ?_;rintro e w1 ⟨rfl,rfl⟩;exact⟨rfl,(xb.refl _ _).drewN,.inr ⟨rfl,a⟩⟩
 have a:Hid<|¬sS k:=fun g=>by rcases f.o.1 g with⟨x,_⟩|⟨x,_⟩;exact h x;exact j x
 go_wp2
 go_quiet (fail)
 go_wp2
 go_quiet (fail)
 go_wp2
 refine(Xu _ (by rfl) _<|m.o.drewN (n:=_)).mono ?_;rintro e w1 ⟨rfl,rfl⟩;exact⟨rfl,(xb.refl _ _).drewN,.inr ⟨rfl,a⟩⟩
def pJ(k:Lk)(n:Int):Bool:=decide (n=0)||(decide (n=k.dK)||(decide (k.base<n)&&decide (n<=k.last)))
def zzq(b:Nat)(k:Lk)(n:Int)(w:Zy)(a:Xa w b k):bE prog 140 #[zo b,zi n] w fun e w'=>e= .returned (.bool<|pJ k n)/\w'=w:=by
 have d:w.cell? (zq b 11)=bO (zi k.base):=a.cell 11 rfl;have f:w.cell? (zq b 12)=bO (zi k.last):=a.cell 12 rfl;have g:w.cell? (zq b 14)=bO (zi k.dK):=a.cell 14 rfl;have c:Hid<|∀n,pJ k n=(decide (n=0)||(decide (n=k.dK)||(decide (k.base<n)&&decide (n<=k.last)))):=fun _=>rfl;clear a;generalize k.base=ba at*;generalize k.last=la at*;generalize k.dK=sn at*;go_enter func140.1,Tryz.ntmps140;by_cases h:ba<n<;>by_cases i:n<=la<;>by_cases j:n=0<;>by_cases l:n=sn
 all_goals
  go_wp2
  go_ret
  refine⟨?_,rfl⟩;rw[c.o];refine congrArg Ending.returned<|congrArg Value.bool ?_;rw[Bool.eq_iff_iff];simp
  try omega
end
end
end P
end Go.Proofs.YtjnbhiamaabbgabGreatDoor
