import Derived.Test.YtjnbhiamaabbgabGreatDoorM13
import Derived.Lib.LaidTab
import Derived.Test.YtjnbhiamaabbgabGreatDoorCards
import Derived.Test.YtjnbhiamaabbgabGreatDoorTie
import Derived.Conc.LeavingOf
import Derived.OpenShut
import Derived.Deep.DeepHandedRow
set_option linter.all false
set_option maxRecDepth 100000
set_option maxHeartbeats 8000000
namespace Go.Proofs.YtjnbhiamaabbgabGreatDoor
open Bool renaming false->bK,true->bL
open Go renaming Calls->bE,execOp->bG,results->aN
open Go.Frame renaming enter->bF
open Go.Proofs.Tryz renaming prog->bM
open Option renaming none->bN,some->bO
namespace P
open A.Tryq Go.RowKit A
variable [pn:A.Pn]
attribute [local go_sem] xe zv
section
variable {lo B b:Nat} {cv tv:Zv} {s:Jo} {k:gZ} {r:Sr} {w:Zy}
structure Pl(cv tv:Zv)(lo B b:Nat)(r:Sr)(s:Jo)(k:gZ)(w:Zy):Prop where
 st:Jq w B r
 bk:W6 w b k
 sn:r.sn=bO s
 inv:Wy r s
 fI:Bk r s k
 own:∀x,r.own B x->lo<=x
 l4:2<lo
 bl:lo<=b
 wC:iA cv tv w
theorem Pl.size(h:Pl cv tv lo B b r s k w):lo<w.heap.size:=Nat.lt_of_le_of_lt h.bl h.bk.blk.lt
def Pl.nw{w w':Zy}(h:Pl cv tv lo B b r s k w)(n:Nw w w'):Pl cv tv lo B b r s k w':=
 ⟨h.st.but n fun _ _=>id,⟨h.bk.blk.but n id,h.bk.kept.but n fun _ _ _=>id,h.bk.seen.but n fun _ _ _=>id⟩,h.sn,h.inv,h.fI,h.own,h.l4,h.bl,h.wC.but (S:=fun _=>False) n fun _ x=>x.elim⟩
def Pl.ok(h:Pl cv tv lo B b r s k w):fV B r:=fV.of h.inv (.inl h.sn) fun x a=>by have:=h.own x a;have:=h.l4;omega
def Pl.to{r r':Sr}{s s':Jo}{k k':gZ}{w w' w2:Zy}(h:Pl cv tv lo B b r s k w)(t:jt B r w r' w')(f:xb (·=b) w' w2)(hk:W6 w2 b k')(j:r'.sn=bO s')(i:Wy r' s')(g:Bk r' s' k'):Pl cv tv lo B b r' s' k' w2:=by
 have d:¬r'.own B b:=fun a=>(t.at_.dX a<|h.st |> fun _=>(jt.fI h.st t h.bk).blk).2 rfl;have l:=h.size;refine⟨t.at_.but f fun x a e=>d<|by have e:=e;rw[<-e];exact a,hk,j,i,g,fun x a=>?_,h.l4,h.bl, ?_⟩;rcases t.own x a with c|c
 exact h.own x c;omega;have c:xb (fun x=>r.own B x\/x=b) w w2:=(t.but.mono fun _ h=> .inl h).trans<|f.mono fun _ h=> .inr h;refine h.wC.but c fun x a=>?_;have:=h.l4;rcases a with a|a
 have:=h.own x a;omega;have:=h.bl;omega
def Pl.old{r r':Sr}{w w' w2:Zy}(h:Pl cv tv lo B b r s k w)(t:jt B r w r' w')(c:xb (·=b) w' w2):xb (fun x=>lo<=x) w w2:=
 (t.but.mono fun x a=>h.own x a).trans (c.mono fun x a=>by have a:=a;rw[a];exact h.bl)
def jH(kd N M:Int)(S T:Zl):Zv:= .agg #[.int .i64 kd,.int .i64 N,.int .i64 M,.string<|st S,.string<|st T]
def iY(cv tv:Zv)(lo B b:Nat)(r:Sr)(s:Jo)(w:Zy)(e:Ending)(w':Zy):Prop:=
 e= .returned (.bool bL)/\xb (fun x=>lo<=x) w w'/\∃r' s' k',Pl cv tv lo B b r' s' k' w'/\r'.cnt<=r.cnt+2/\r'.op<=r.op+1/\s'.bP<=s.bP+1
def SR(N M:Int)(S T:Zl)(h:Pl cv tv lo B b r s k w)(y:r.cnt<=29):
  bE prog 21 #[zo b,zo B,jH 5 N M S T] w (iY cv tv lo B b r s w):=by
 have m:Hid<|Nw w<|w.alloc<|.cells #[zi 5,zi N,zi M,zs S,zs T] 47:=Nw.alloc _ _;have a:=zl<|h.nw m.o;clear h;unfold jH;go_enter func21.1,Tryz.ntmps21
 go_wp2_with fail
 generalize w.alloc (.cells #[zi 5,zi N,zi M,zs S,zs T] 47)=w1 at*;obtain⟨q,j⟩:=a.o.inv.sync a.o.sn (by omega);have f:=zl j;have c:=j.run;refine(vA B r s _ a.o.st a.o.sn a.o.ok a.o.wC a.o.inv.P<|by rw[c];simp).mono ?_;rintro e C ⟨v,z,n,rfl,i⟩;rw[c]at n;cases n;have T2:=zl i;have p:=zl<|jt.fI a.o.st i a.o.bk;have l:k.recs<=1000000:=by have:=a.o.fI.recs;omega
 clear i j c
 go_wp2_with fail
 refine(QV b k l _ p.o).mono ?_;rintro e t ⟨rfl,d,g⟩;have o:Hid<|iY cv tv lo B b r s w (.returned<|.bool bL) t:=by
  refine⟨rfl,((m.o.mono fun _ x=>x.elim).trans<|a.o.old T2.o d),q,r.ses1 s,k.synced,a.o.to T2.o d g f.o.sn f.o.inv<|QU a.o.fI f.o, ?_, ?_, ?_⟩;rw[f.o.cnt];split<;>omega
  rw[f.o.keep.op];omega;rw[f.o.bP];omega
 clear d g
 go_wp2_with fail
 go_ret
 exact o.o
def SJ(N M:Int)(S T:Zl)(h:Pl cv tv lo B b r s k w)(m:r.cnt<=29):
  bE prog 21 #[zo b,zo B,jH 4 N M S T] w (iY cv tv lo B b r s w):=by
 have f:Hid<|Nw w<|w.alloc<|.cells #[zi 4,zi N,zi M,zs S,zs T] 47:=Nw.alloc _ _;have a:=zl<|h.nw f.o;clear h;unfold jH;go_enter func21.1,Tryz.ntmps21;have l:(w.alloc<|.cells #[zi 4,zi N,zi M,zs S,zs T] 47).cell? (zq b 1)=bO k.sv:=a.o.bk.blk.cell 1 rfl
 go_wp2_with fail
 generalize w.alloc (.cells #[zi 4,zi N,zi M,zs S,zs T] 47)=w1 at*;have c:=a.o.fI.seen;refine(Pp B r s _ k.sv _ a.o.st a.o.sn a.o.inv.P20 (fun p i=>by have:=(TF a.o.inv p i).2.1;omega) (by have:=EP a.o.inv;omega) a.o.bk.seen (by rw[c];exact(KN _).symm)<|by rw[c];exact D8 a.o.inv a.o.sn).mono ?_;rintro e j ⟨rfl,d⟩;have g:Hid<|iY cv tv lo B b r s w (.returned<|.bool bL) j:=⟨rfl,((f.o.trans d).mono fun _ x=>x.elim),r,s,k,a.o.nw d,by omega,by omega,by omega⟩;clear d c
 go_wp2_with fail
 go_ret
 exact g.o
def Hm(N M:Int)(S T:Zl)(h:Pl cv tv lo B b r s k w)(J:r.cnt<=29):
  bE prog 21 #[zo b,zo B,jH 1 N M S T] w (iY cv tv lo B b r s w):=by
 have q:Hid<|Nw w<|w.alloc<|.cells #[zi 1,zi N,zi M,zs S,zs T] 47:=Nw.alloc _ _;have X0:Hid<|xx (w.alloc<|.cells #[zi 1,zi N,zi M,zs S,zs T] 47) w.heap.size #[zi 1,zi N,zi M,zs S,zs T] 47:=xx.new _ _ _;have a:=zl<|h.nw q.o;clear h;unfold jH;go_enter func21.1,Tryz.ntmps21;have E:=X0.o.cell 0 rfl;have F:=X0.o.cell 1 rfl;have G:=X0.o.cell 2 rfl;have H:=X0.o.cell 3 rfl;have I:=X0.o.cell 4 rfl
 go_wp2_with fail
 generalize w.alloc (.cells #[zi 1,zi N,zi M,zs S,zs T] 47)=w1 at*;refine(zzw B b r s k N M S T _ a.o.st a.o.bk a.o.sn a.o.inv.P20 a.o.fI.pend<|by rw[a.o.fI.seen,KZ];have:=EP a.o.inv;omega).mono ?_;rintro e D ⟨rfl,z,y,j,d⟩;obtain⟨C,i,g,f,m,o,p⟩:=dE a.o.inv a.o.sn a.o.fI j;have t:Hid<|iY cv tv lo B b r s w (.returned<|.bool bL) D:=by
  have v:=a.o.size;have n:=a.o.l4;have l:=a.o.bl;refine⟨rfl,(q.o.mono fun _ x=>x.elim).trans<|d.but.mono fun x c=>?_,z,C,y,⟨d.st,d.bk,i,g,f,fun x c=>?_,n,l,a.o.wC.but d.but fun x c=>?_⟩,by omega,by omega,by omega⟩;rcases c with c|c
  exact a.o.own x c;omega;rcases d.own x c with c|c
  exact a.o.own x c;omega;rcases c with c|c
  have:=a.o.own x c;omega;omega
 clear j d i g f m o p
 go_wp2_with fail
 go_ret
 exact t.o
def Hj(N M:Int)(S T:Zl)(h:Pl cv tv lo B b r s k w)(J:r.cnt<=29):
  bE prog 21 #[zo b,zo B,jH 2 N M S T] w (iY cv tv lo B b r s w):=by
 have q:Hid<|Nw w<|w.alloc<|.cells #[zi 2,zi N,zi M,zs S,zs T] 47:=Nw.alloc _ _;have X0:Hid<|xx (w.alloc<|.cells #[zi 2,zi N,zi M,zs S,zs T] 47) w.heap.size #[zi 2,zi N,zi M,zs S,zs T] 47:=xx.new _ _ _;have a:=zl<|h.nw q.o;clear h;unfold jH;go_enter func21.1,Tryz.ntmps21;have E:=X0.o.cell 0 rfl;have F:=X0.o.cell 1 rfl;have G:=X0.o.cell 2 rfl;have H:=X0.o.cell 3 rfl;have I:=X0.o.cell 4 rfl
 go_wp2_with fail
 generalize w.alloc (.cells #[zi 2,zi N,zi M,zs S,zs T] 47)=w1 at*;refine(zzv B b r s k N M S T _ a.o.st a.o.bk a.o.sn a.o.inv.P20 a.o.fI.pend<|by rw[a.o.fI.seen,KZ];have:=EP a.o.inv;omega).mono ?_;rintro e D ⟨rfl,z,y,j,d⟩;obtain⟨C,i,g,f,m,o,p⟩:=dE a.o.inv a.o.sn a.o.fI j;have t:Hid<|iY cv tv lo B b r s w (.returned<|.bool bL) D:=by
  have v:=a.o.size;have n:=a.o.l4;have l:=a.o.bl;refine⟨rfl,(q.o.mono fun _ x=>x.elim).trans<|d.but.mono fun x c=>?_,z,C,y,⟨d.st,d.bk,i,g,f,fun x c=>?_,n,l,a.o.wC.but d.but fun x c=>?_⟩,by omega,by omega,by omega⟩;rcases c with c|c
  exact a.o.own x c;omega;rcases d.own x c with c|c
  exact a.o.own x c;omega;rcases c with c|c
  have:=a.o.own x c;omega;omega
 clear j d i g f m o p
 go_wp2_with fail
 go_ret
 exact t.o
def zqo{B:Nat}{r r1:Sr}{x:Nat}(f:r.sn=bO s)(S:BH r s r1)(hx:r1.own B x):r.own B x:=by
 rcases hx with e|(e|e|⟨c,b,_⟩)|⟨t,d,hx⟩;exact .inl e;exact .inr (.inl<|.inl<|by rw[<-S.keep.D];exact e);exact .inr (.inl<|.inr<|.inl<|by rw[<-S.keep.M];exact e);rw[S.inv.nx]at b;cases b;rw[S.sn]at d;cases d;refine .inr<|.inr ⟨s,f, ?_⟩;unfold Sr.ses1 at hx;split at hx;exact hx;rcases hx with e|e|⟨a,n,c,g,e⟩;exact .inl e;exact .inr<|.inl e;cases g
def Pl.ok1{r r1:Sr}(h:Pl cv tv lo B b r s k w)(S:BH r s r1):fV B r1:=fV.of S.inv (.inl S.sn) fun x a=>by have:=h.own x<|zqo h.sn S a;have:=h.l4;omega
def Hn(N M:Int)(S T:Zl)(h:Pl cv tv lo B b r s k w)(Q:r.cnt<=29):
  bE prog 21 #[zo b,zo B,jH 6 N M S T] w (iY cv tv lo B b r s w):=by
 have N0:Hid<|Nw w<|w.alloc<|.cells #[zi 6,zi N,zi M,zs S,zs T] 47:=Nw.alloc _ _;have a:=zl<|h.nw N0.o;clear h;unfold jH;go_enter func21.1,Tryz.ntmps21
 go_wp2_with fail
 generalize w.alloc (.cells #[zi 6,zi N,zi M,zs S,zs T] 47)=w1 at*;have bb:=a.o.inv.rotate a.o.sn (by omega);obtain⟨r2,O⟩:=a.o.inv.sync a.o.sn (by omega);have l:∀U,r.bW s=(bO 0,U)->fV B U:=fun U e=>by rw[O.run]at e;cases e;exact a.o.ok1 O
 have L:k.recs<=1000000:=by have:=a.o.fI.recs;omega
 have bd:k.synced.recs<=1000000:=by have:=a.o.fI.recs;show(if 0<k.pend then k.recs+1 else k.recs)<=_;split<;>omega
 have i:=a.o.fI.ep;rcases bb with⟨R,I,d,f⟩|⟨R,U,I,V,f,d,C,o,n,t,F,G,z,y⟩
 ·refine(Qo B r s _ a.o.st a.o.sn a.o.ok l a.o.wC a.o.inv.P (by have:=a.o.inv.ep;omega)<|by rw[d];simp).mono ?_
  rintro e w2 ⟨v,bc,K,rfl,E⟩;rw[d]at K;cases K;have T2:=zl E;have Z:=zl<|jt.fI a.o.st E a.o.bk;have m:=zl f;have HE:=zl<|i.trans R;clear E O f d l i R
  go_wp2_with fail
  refine(QV b k L _ Z.o).mono ?_;rintro e p ⟨rfl,j,c⟩;have c3:p.cell? (zq b 3)=bO (zi 5):=(c.blk.cell 3 rfl).trans (by show bO (zi k.ep)=_;rw[HE.o];rfl);have X:Hid<|iY cv tv lo B b r s w (.returned<|.bool bL) p:=by
   refine⟨rfl,((N0.o.mono fun _ x=>x.elim).trans<|a.o.old T2.o j),I,r.ses1 s,k.synced,a.o.to T2.o j c m.o.sn m.o.inv<|QU a.o.fI m.o, ?_, ?_, ?_⟩;rw[m.o.cnt];split<;>omega
   rw[m.o.keep.op];omega;rw[m.o.bP];omega
  clear j c
  go_wp2_with fail
  go_ret
  exact X.o
 refine(Qo B r s _ a.o.st a.o.sn a.o.ok l a.o.wC a.o.inv.P (by have:=a.o.inv.ep;omega)<|by rw[d];simp).mono ?_;rintro e w2 ⟨v,bc,K,rfl,E⟩;rw[d]at K;cases K;have T2:=zl E;have Z:=zl<|jt.fI a.o.st E a.o.bk;have bf:¬(k.ep:Int)=5:=by rw[i];omega
 have be:k.ep<=5:=by rw[i];exact a.o.inv.ep
 have J:=zl<|QU a.o.fI f;have HQ:Hid<|∀H:gZ,H.seen=k.synced.seen->H.kept=k.synced.kept->H.pend=k.synced.pend->H.ep=k.synced.ep+1->H.recs=k.synced.recs+1->Bk I V H:=fun H e1 e2 e3 e4 e5=>by
  have hn:V.now=(r.ses1 s).now:=by unfold Jo.now;rw[F,G,f.P]
  exact⟨by rw[e1,hn];exact J.o.seen,by rw[e2,F];exact J.o.kept,by rw[e3,J.o.pend,G,f.P],by rw[e4,J.o.ep,f.ep,t],by rw[e5,J.o.recs,n]⟩
 have HI:=zl o;have Y:=zl C;have W:Hid<|I.cnt<=r.cnt+2/\I.op<=r.op+1/\V.bP<=s.bP+1:=by
  refine⟨?_, ?_, ?_⟩;rw[n,f.cnt];split<;>omega
  rw[y.op];omega;rw[z];omega
 clear E O f d l i R o C n t F G z y
 go_wp2_with fail
 refine(QV b k L _ Z.o).mono ?_;rintro e p ⟨rfl,j,c⟩;have c3:p.cell? (zq b 3)=bO (zi k.ep):=c.blk.cell 3 rfl;have c4:p.cell? (zq b 4)=bO (zi k.synced.recs):=c.blk.cell 4 rfl;have f3:=c.blk.bT 3;have f4:=c.blk.bT 4;have i1:IntKind.i64.wrap ((k.ep:Int)+1)=(k.ep:Int)+1:=by rw[xn];omega
 have i2:IntKind.i64.wrap ((k.synced.recs:Int)+1)=(k.synced.recs:Int)+1:=by rw[xn];omega
 have X:Hid<|iY cv tv lo B b r s w (.returned<|.bool bL)<|(p.setCell (zq b 3)<|zi<|(k.ep:Int)+1).setCell (zq b 4)<|zi<|(k.synced.recs:Int)+1:=by
  have q:xb (·=b) p<|(p.setCell (zq b 3)<|zi<|(k.ep:Int)+1).setCell (zq b 4)<|zi<|(k.synced.recs:Int)+1:=(xb.set p (zq b 3) _).trans<|xb.set _ (zq b 4) _;have ba:W6 ((p.setCell (zq b 3)<|zi<|(k.ep:Int)+1).setCell (zq b 4)<|zi<|(k.synced.recs:Int)+1) b {k.synced with ep:=k.ep+1,recs:=k.synced.recs+1}:=
   ⟨(c.blk.set 3 _).set 4 _,c.kept.but q fun g D Q=>c.blk.dR (by decide) g D Q,c.seen.but q fun g D Q=>c.blk.dR (by decide) g D Q⟩
  exact⟨rfl,((N0.o.mono fun _ x=>x.elim).trans<|a.o.old T2.o<|j.trans q),I,V,_,a.o.to T2.o (j.trans q) ba Y.o HI.o<|HQ.o _ rfl rfl rfl rfl rfl,W.o.1,W.o.2.1,W.o.2.2⟩
 clear j c;generalize k.synced.recs=rc at*
 go_wp2_with fail
 go_ret
 exact X.o
def wI(h:Pl cv tv lo B b r s k w):
  bE prog 19 #[zo b] w fun e w'=>e= .returned (zi<|lW k.seen)/\Nw w w':=by
 have a:=h.fI.seen;exact xod b k (by rw[a];exact(cX h.inv.oN).sK<|TF h.inv) (by rw[a,KZ];have:=EP h.inv;omega) _ h.bk
def wH(h:Pl cv tv lo B b r s k w)(Q:r.cnt<=31)(D:s.bP<999)(J:lW k.seen<=10000):
  bE prog 20 #[zo B] w fun e w'=>e= .returned (zi 0)/\∃r' s',jt B r w r' w'/\r'.sn=bO s'/\Wy r' s'/\Bk r' s' k.synced/\(r'.cnt<=r.cnt+2/\r'.op<=r.op+1/\s'.bP<=s.bP+1)/\Two r'.d.L (lW k.seen):=by
 have o:=h.fI.seen;have C:(Vf s.now).length=lW k.seen:=by rw[zx5,<-o]
 obtain⟨x,r',s',a,f,t,g,j,l,m,q,c,n,z,E⟩:=h.inv.GH h.sn (by omega) D (by omega);have p:∀x,r.bW s=(bO 0,x)->fV B x/\x.d.L.length+2<1000000/\jM (r.ses1 s).L/\(r.ses1 s).L.length<=1000000/\0<=(r.ses1 s).bP/\(r.ses1 s).bP<=999/\(qu x.d.L<|Ye (r.ses1 s).named).length<=900000:=fun M e=>by
  rw[a.run]at e;cases e;have y:=a.inv.few;have N:=a.inv.cnt;have F:=a.inv.len;have H:=a.inv.sh0;have O:=a.bP;refine⟨h.ok1 a,by omega,a.inv.sK,by omega,H,by omega,by rw[z];simp⟩
 have G:Bk r' s' k.synced:=by
  have i:=QU h.fI a;have I:s'.now=(r.ses1 s).now:=by unfold Jo.now;rw[j,l,a.P]
  exact⟨by rw[I];exact i.seen,by rw[j];exact i.kept,by rw[i.pend,l,a.P],by rw[i.ep,a.ep,m],by rw[i.recs,c]⟩
 refine(zvy B r s _ h.st h.sn h.ok p h.wC h.inv.P (by have:=h.inv.ep;omega)<|by rw[f];simp).mono ?_;rintro e R ⟨v,K,y,rfl,F⟩;rw[f]at y;cases y;refine⟨rfl,r',s',F,t,g,G,⟨?_, ?_, ?_⟩,C▸E⟩;rw[c,a.cnt];split<;>omega
 rw[n.op];omega;rw[q];omega
def SP(N M:Int)(S T:Zl)(h:Pl cv tv lo B b r s k w)(L:r.cnt<=29)(p:s.bP<999):
  bE prog 21 #[zo b,zo B,jH 7 N M S T] w (iY cv tv lo B b r s w):=by
 have q:Hid<|Nw w<|w.alloc<|.cells #[zi 7,zi N,zi M,zs S,zs T] 47:=Nw.alloc _ _;have i:=zl<|h.nw q.o;clear h;unfold jH;go_enter func21.1,Tryz.ntmps21
 go_wp2_with fail
 generalize w.alloc (.cells #[zi 7,zi N,zi M,zs S,zs T] 47)=w1 at*;refine(wI i.o).mono ?_;rintro e C ⟨rfl,c⟩;have d:=zl<|i.o.nw c;have t:Hid<|Nw w C:=q.o.trans c;clear c;by_cases G:10000<lW k.seen
 ·have H:(10000:Int)<(lW k.seen:Int):=by omega
  have l:Hid<|iY cv tv lo B b r s w (.returned<|.bool bL) C:=⟨rfl,(t.o.mono fun _ x=>x.elim),r,s,k,d.o,by omega,by omega,by omega⟩
  go_wp2_with fail
  go_ret
  exact l.o
 have H:¬(10000:Int)<(lW k.seen:Int):=by omega
 have o:k.recs<=1000000:=by have:=i.o.fI.recs;omega
 go_wp2_with fail
 refine(wH d.o (by omega) p<|by omega).mono ?_;rintro e O ⟨rfl,I,J,n,g,z,v,y,_⟩;have T2:=zl n;have F:=zl<|jt.fI d.o.st n d.o.bk;have m:=zl g;have E:=zl z;have D:=zl v;have j:=zl y;clear n g z v y
 go_wp2_with fail
 refine(QV b k o _ F.o).mono ?_;rintro e K ⟨rfl,a,f⟩;have l:Hid<|iY cv tv lo B b r s w (.returned<|.bool bL) K:=⟨rfl,((t.o.mono fun _ x=>x.elim).trans<|d.o.old T2.o a),I,J,k.synced,d.o.to T2.o a f m.o E.o D.o,j.o.1,j.o.2.1,j.o.2.2⟩;clear a f
 go_wp2_with fail
 go_ret
 exact l.o
def SM(a N M:Int)(S T:Zl)(h:Pl cv tv lo B b r s k w)(o:r.cnt<=29)(e:¬a=1)(f:¬a=2)(g:¬a=3)(i:¬a=4)(j:¬a=5)(l:¬a=6)(m:¬a=7)(n:¬a=8):
  bE prog 21 #[zo b,zo B,jH a N M S T] w (iY cv tv lo B b r s w):=by
 have c:Hid<|Nw w<|w.alloc<|.cells #[zi a,zi N,zi M,zs S,zs T] 47:=Nw.alloc _ _;have d:=zl<|h.nw c.o;clear h;unfold jH;go_enter func21.1,Tryz.ntmps21
 go_wp2_with fail
 generalize w.alloc (.cells #[zi a,zi N,zi M,zs S,zs T] 47)=w1 at*
 go_ret
 exact⟨rfl,(c.o.mono fun _ x=>x.elim),r,s,k,d.o,by omega,by omega,by omega⟩
def Hk(N M:Int)(S T:Zl)(h:Pl cv tv lo B b r s k w)(hc:r.cnt<=29):
  bE prog 21 #[zo b,zo B,jH 3 N M S T] w (iY cv tv lo B b r s w):=by
 have N0:Hid<|Nw w<|w.alloc<|.cells #[zi 3,zi N,zi M,zs S,zs T] 47:=Nw.alloc _ _;have X0:Hid<|xx (w.alloc<|.cells #[zi 3,zi N,zi M,zs S,zs T] 47) w.heap.size #[zi 3,zi N,zi M,zs S,zs T] 47:=xx.new _ _ _;have m:=zl<|h.nw N0.o;clear h;unfold jH;go_enter func21.1,Tryz.ntmps21;have a3:(w.alloc<|.cells #[zi 3,zi N,zi M,zs S,zs T] 47).cell? (zq w.heap.size 3)=bO (zs S):=X0.o.cell 3 rfl
 go_wp2_with fail
 generalize w.alloc (.cells #[zi 3,zi N,zi M,zs S,zs T] 47)=w1 at*;refine(TM B r S _ m.o.st fun t ht=>by rw[m.o.sn]at ht;cases ht;exact m.o.inv.P20).mono ?_;rintro e G ⟨rfl,z⟩;have U:=zl<|m.o.nw z;have N2:Hid<|Nw w G:=N0.o.trans z;have X2:=zl<|X0.o.nw z;have Q:Hid<|∀w',Nw G w'->iY cv tv lo B b r s w (.returned<|.bool bL) w':=fun w' y=>⟨rfl,((N2.o.trans y).mono fun _ x=>x.elim),r,s,k,U.o.nw y,by omega,by omega,by omega⟩;have W:Hid (r.gets S=if Ve S=bK then(([],6):Zl×Int)else match Zh s.now S with
  |none=>([],8)
  |some v=>(v,0)):=SY m.o.sn S
 clear a3 z;have b3:G.cell? (zq w.heap.size 3)=bO (zs S):=X2.o.cell 3 rfl;by_cases c:Ve S=bK
 ·have e1:r.gets S=([],6):=by rw[W.o,aA c]
  rw[e1];have bc:=xo [];have d:¬(0<S.length/\S.length<=16):=by simpa[Ve]using c
  by_cases hl:S.length<1
  ·have i1:((S.length:Nat):Int)<1:=by omega
   clear e1 c d
   go_wp2_with fail
   go_ret
   exact Q.o _<|xb.refl _ _
  have i1:¬((S.length:Nat):Int)<1:=by omega
  have i2:16<((S.length:Nat):Int):=by omega
  clear e1 c d
  go_wp2_with fail
  go_ret
  exact Q.o _<|xb.refl _ _
 have d:0<S.length/\S.length<=16:=by simpa[Ve]using c
 have i1:¬((S.length:Nat):Int)<1:=by omega
 have i2:¬16<((S.length:Nat):Int):=by omega
 obtain⟨p,g,bf,O,be,D⟩:=id U.o.bk.seen;have Z:=(U.o.bk.blk.cell 1 rfl).trans<|congrArg bO O;have V:=zl Z;have HR:=zl D;have a:=zl m.o.fI.seen;have bh:k.seen.length<=1000:=by rw[a.o,KZ];exact EP m.o.inv
 have f:Hid<|∀j (h:j<k.seen.length),k.seen[j].1=S->r.gets S=(k.seen[j].2,0):=fun j h e=>by
  have hg:=D8 m.o.inv m.o.sn;have R:=a.o;have h':j<(fD s.now).length:=by rw[<-R];exact h
  have:=hg j h';have e2:(fD s.now)[j]=k.seen[j]:=by simp only[R]
  rw[e2,e]at this;exact this
 have E:Hid<|(∀j (h:j<k.seen.length),k.seen[j].1≠S)->r.gets S=([],8):=fun C=>by
  have R:=a.o;have:Zh s.now S=bN:=by
   rw[<-yH,<-R];refine QC fun hm=>?_;obtain⟨q,hq,e⟩:=qp.1 hm;obtain⟨j,hj,rfl⟩:=List.mem_iff_getElem.1 hq;exact C j hj e
  rw[W.o,aB c,this]
 obtain⟨gv,ge,F⟩:∃gv ge,r.gets S=(gv,ge):=⟨_,_,rfl⟩;have H:=zl F;rw[F];clear c D O F W d a Z;generalize k.seen=l at*
 go_wp2_with fail
 go_loopw [9] (fun i wr=>∃j:Nat,j<=l.length/\i=zi j/\Nw G wr/\∀n (h:n<l.length),n<j->l[n].1≠S) (fun i _=>(l.length-intOf i).toNat)
 case atStart=>exact⟨0,by omega,rfl,xb.refl _ _,fun n h y=>absurd y<|Wd _⟩
 case round=>
  obtain⟨j,hj,rfl,y,C⟩:=hrel;have K:=zl y;have HJ:=zl C;have Z:=y.cell id V.o;clear y C;by_cases o:j<l.length
  ·have i3:(j:Int)<(l.length:Nat):=by omega
   have i0:(0:Int)<=(j:Int):=by omega
   have bd:l≠[]:=by intro e;rw[e]at o;cases o
   obtain⟨rfl,hr⟩:=HR.o bd;have h1:=(hr.but K.o id).cell j o;have s0:=h1.1;have s1:=h1.2;have s2:wr.cell? (zq w.heap.size 3)=bO (zs S):=(X2.o.nw K.o).cell 3 rfl;have HK:Hid<|l[j].1=S->(gv,ge)=(l[j].2,(0:Int)):=fun e=>H.o.symm.trans<|f.o j o e;have I:Hid (l[j].1≠S->∀n (h:n<l.length),n<j+1->l[n].1≠S):=fun e n h y=>by
    by_cases e2:n=j;subst e2;exact e;exact HJ.o n h<|by omega
   generalize l[j].1=qk at*;generalize l[j].2=qv at*;clear hr h1 E f;by_cases L:qk=S
   ·have bb:=HK.o L
    cases bb;subst L
    go_wp2_with fail
    go_quiet (fail)
    have Y:Hid<|Nw G<|wr.drewN nq:=K.o.trans (xb.refl _ _).drewN'
    go_wp2_with fail
    go_ret
    exact Q.o _ Y.o
   have bg:((st qk).toList==(st S).toList)=bK:=by rw[xo,xo];simpa using L
   have J:=I.o L;have X:=zl J;clear J I HK L
   go_wp2_with fail
   go_quiet (fail)
   have Y:Hid<|Nw G<|wr.drewN nq:=K.o.trans (xb.refl _ _).drewN'
   go_wp2_with fail
   go_roundw
   case rel=>exact⟨j+1,by omega,by go_num,Y.o,X.o⟩
   case measure=>simp[intOf];omega
  obtain rfl:j=l.length:=by omega
  have i3:¬(l.length:Int)<(l.length:Nat):=by omega
  have ba:=H.o.symm.trans<|E.o fun n h=>HJ.o n h h;cases ba;have bc:=xo [];clear E f HR
  go_wp2_with fail
  go_ret
  exact Q.o _ K.o
noncomputable def sH:=Qf Tryz.f21.body
noncomputable def xxr:=Qa sH
noncomputable def xxs:=Qa<|Qa<|Qb sH
noncomputable def gV:=Qb<|Qb sH
noncomputable def UQ:=Qk<|Qb<|Qa<|Qb sH
noncomputable def xxt:=Qa UQ
noncomputable def xwu:=Qc<|Qb UQ
noncomputable def WV:=Qd<|Qb UQ
noncomputable def xxu:=Qa WV
noncomputable def xwv:=Qc<|Qb WV
noncomputable def WW:=Qd<|Qb WV
noncomputable def xxv:=Qa WW
noncomputable def xww:=Qc<|Qb WW
noncomputable def WX:=Qd<|Qb WW
noncomputable def xxw:=Qa WX
noncomputable def xwx:=Qc<|Qb WX
noncomputable def WY:=Qd<|Qb WX
noncomputable def xxx:=Qa WY
noncomputable def xwy:=Qc<|Qb WY
noncomputable def WZ:=Qd<|Qb WY
noncomputable def xxy:=Qa WZ
noncomputable def xwz:=Qc<|Qb WZ
noncomputable def XB:=Qd<|Qb WZ
noncomputable def xxz:=Qa XB
noncomputable def xx0:=Qa<|Qc<|Qb XB
noncomputable def z33:=Qb<|Qb<|Qc<|Qb XB
noncomputable def UZ:=Qa<|Qb<|Qc<|Qb<|Qd<|Qb<|Qd<|Qb<|Qd<|Qb<|Qd<|Qb<|Qd<|Qb<|Qd<|Qb<|Qk<|Qb<|Qa<|Qb<|Qf Tryz.f21.body
def xqo:Tryz.f21.body=bO (.seq xxr<|.seq (.seq xxs<|.block 0<|.seq xxt<|.cond (.tmp 19) xwu<|.seq xxu<|.cond (.tmp 26) xwv<|.seq xxv<|.cond (.tmp 91) xww<|.seq xxw<|.cond (.tmp 100) xwx<|.seq xxx<|.cond (.tmp 108) xwy<|.seq xxy<|.cond (.tmp 137) xwz<|.seq xxz<|.cond (.tmp 149) (.seq xx0<|.seq UZ z33) .skip) gV):=by kernel_rfl
def V2:¬Mc bM 21:=xO (by decide) (by decide) Tryz.func21
def Vz{Q:Exit->Act->Zy->Prop}(h:kT Q){id:Nat}:kT (fun e a' w'=>match e with
  | .exit j=>if j=id then Q .normal a' w' else Q (.exit j) a' w'
  |e=>Q e a' w'):=by
 intro e a w t d;cases e with
 |exit j=>
  dsimp only;split;exact h _ _ _ _ _;exact h _ _ _ _ _
 |normal=>exact h _ _ _ _ _
 |goto l=>exact h _ _ _ _ _
 |ret=>exact h _ _ _ _ _
 |panic ch=>exact h _ _ _ _ _
 |outgrown=>exact h _ _ _ _ _
def Bb{w w':Zy}{e:Ending}{t:Nat->Question->Nat}{d:Nat}:iY cv tv lo B b r s w e (re w' t d)↔iY cv tv lo B b r s w e w':=by
 have n1:Nw w'<|re w' t d:=Nw.gL (xb.refl _ _) t d;have k:Nw (re w' t d) w':=⟨rfl,rfl,ze _,fun _ _ _=>rfl⟩;constructor;rintro⟨a,c,i,j,h,f,g⟩;exact⟨a,xb.re c,i,j,h,f.nw k,g⟩;rintro⟨a,c,i,j,h,f,g⟩;exact⟨a,c.trans<|n1.mono fun _ x=>x.elim,i,j,h,f.nw n1,g⟩
def Wy.tV(I:Wy r s)(x:Option Jo):Wy {r with sn:=x} s:=by
 obtain⟨a,b,q,L,D⟩:=I.dsk;exact⟨⟨a,b,q,L,⟨D.ok,D.cnt,D.tag,D.ep,D.same,D.base,D.last,D.named⟩⟩,I.mark,I.gd,I.each,I.nx,I.room,I.lim,I.fus,I.rC,I.cnt,I.P,I.P20,I.sK,I.len,I.ep,I.op,I.named,I.sh0⟩
def Wy.fP{B:Nat}{x:Nat}(hx:r.shut.own B x):r.own B x:=by
 rcases hx with e|e|⟨t,a,_⟩;exact .inl e;exact .inr<|.inl e;cases a
def SO(N M:Int)(S T:Zl)(h:Pl cv tv lo B b r s k w)(hop:r.op<999):
  CC bM 21 #[zo b,zo B,jH 8 N M S T] w (iY cv tv lo B b r s w):=by
 have hQ:kT<|nJ bM funcs Tryz.f21<|iY cv tv lo B b r s w:=AO fun e w' t d=>Bb;refine CC.fA bQ V2 (bZ rfl Tryz.func21 rfl).1 Tryz.func21 xqo ?_;rw[show Tryz.f21.ntmps=171 from rfl];generalize hPX:nJ bM funcs Tryz.f21 (iY cv tv lo B b r s w)=PX at hQ;unfold jH;simp only[jg,zh,jn,Nat.reduceAdd,Nat.reduceSub,qw,qx,Z7,Zi,jk,jc];refine gG V2 hQ fun w1 b6 bq ba br=>?_;have N1:Hid<|Nw w<|w1.alloc<|.cells #[zi 8,zi N,zi M,zs S,zs T] 47:=(ji bq).trans<|Nw.alloc _ _;have X1:Hid<|xx (w1.alloc<|.cells #[zi 8,zi N,zi M,zs S,zs T] 47) w1.heap.size #[zi 8,zi N,zi M,zs S,zs T] 47:=xx.new _ _ _;have H0:=zl h;have m:=zl hQ;have bp:=zl hPX;clear h hQ hPX br
 conv=>arg 2;whnf
 go_wp2_with fail
 refine ba.o _ _ ?_;clear ba;generalize w1.alloc (.cells #[zi 8,zi N,zi M,zs S,zs T] 47)=wA at*;refine Xn.seq bQ V2 trivial ?_;refine gG V2 m.o.dV fun w2 b7 O bb bs=>?_;have c0:w2.cell? (zq w1.heap.size 0)=bO (zi 8):=(X1.o.nw<|ji O).cell 0 rfl;have N2:Hid<|Nw w w2:=N1.o.trans<|ji O;clear bs
 conv=>arg 2;whnf
 go_wp2_with fail
 refine bb.o _ _ ?_;clear bb c0;refine Xn.block bQ V2 ?_;refine gG V2 (Vz m.o.dV) fun v0 bv Q o bd=>?_;have M0:Hid<|Nw w v0:=N2.o.trans<|ji Q;clear bd
 conv=>arg 2;whnf
 go_wp2_with fail
 refine o.o _ _ ?_;clear o;refine Xn.cond bQ V2 rfl ?_;simp only[xu,if_false];refine gG V2 (Vz m.o.dV) fun v1 bw U p be=>?_;have M1:Hid<|Nw w v1:=M0.o.trans<|ji U;clear be
 conv=>arg 2;whnf
 go_wp2_with fail
 refine p.o _ _ ?_;clear p;refine Xn.cond bQ V2 rfl ?_;simp only[xu,if_false];refine gG V2 (Vz m.o.dV) fun v2 bx V q bf=>?_;have M2:Hid<|Nw w v2:=M1.o.trans<|ji V;clear bf
 conv=>arg 2;whnf
 go_wp2_with fail
 refine q.o _ _ ?_;clear q;refine Xn.cond bQ V2 rfl ?_;simp only[xu,if_false];refine gG V2 (Vz m.o.dV) fun v3 bz W y bg=>?_;have M3:Hid<|Nw w v3:=M2.o.trans<|ji W;clear bg
 conv=>arg 2;whnf
 go_wp2_with fail
 refine y.o _ _ ?_;clear y;refine Xn.cond bQ V2 rfl ?_;simp only[xu,if_false];refine gG V2 (Vz m.o.dV) fun v4 b0 X z bh=>?_;have M4:Hid<|Nw w v4:=M3.o.trans<|ji X;clear bh
 conv=>arg 2;whnf
 go_wp2_with fail
 refine z.o _ _ ?_;clear z;refine Xn.cond bQ V2 rfl ?_;simp only[xu,if_false];refine gG V2 (Vz m.o.dV) fun v5 b1 Y C bi=>?_;have M5:Hid<|Nw w v5:=M4.o.trans<|ji Y;clear bi
 conv=>arg 2;whnf
 go_wp2_with fail
 refine C.o _ _ ?_;clear C;refine Xn.cond bQ V2 rfl ?_;simp only[xu,if_false];refine gG V2 (Vz m.o.dV) fun v6 b2 Z D bj=>?_;have M6:Hid<|Nw w v6:=M5.o.trans<|ji Z;clear bj
 conv=>arg 2;whnf
 go_wp2_with fail
 refine D.o _ _ ?_;clear D;refine Xn.cond bQ V2 rfl ?_;simp only[if_true];refine gG V2 (Vz m.o.dV) fun v7 b3 n E bl=>?_;have f:=zl<|H0.o.nw<|M6.o.trans<|ji n;have M7:Hid<|Nw w v7:=M6.o.trans<|ji n;clear bl
 conv=>arg 2;whnf
 go_wp2_with fail
 refine(x_ B r _ f.o.st).mono ?_;rintro e w8 ⟨rfl,H⟩;have T8:=zl H;have K8:=zl<|jt.fI f.o.st H f.o.bk;rw[show(if r.sn.isSome then(0:Int)else 5)=0 by rw[f.o.sn];rfl];clear H
 go_wp2_with fail
 refine E.o _ _ ?_;clear E;have G8:=zl (f.o.wC.but T8.o.but fun x hx=>by have:=f.o.own x hx;have:=f.o.l4;omega);have l:CC bM 16 #[zo B] w8<|FH B r.shut w8:=by
  refine G_ (cv:=cv) (tv:=tv) T8.o.at_ rfl hop (fV.of (s:=s) (f.o.inv.tV bN) (.inr rfl) fun x hx=>by have:=f.o.own x<|Wy.fP hx;have:=f.o.l4;omega) G8.o (fun i=>by have:=f.o.inv.jD i;show(qu r.d.L i).length<=_;omega) fun mp=>?_;obtain⟨F,L,R⟩:=f.o.inv.reopen mp;have hl:=R.rC;exact⟨F,L,R.look,by show(Xi F r.d).1=bL;rw[R.mend],(fun ht=>absurd (R.dD.symm.trans ht)<|by simp),by omega,by omega⟩
 refine Xn.seq bQ V2 trivial ?_
 conv=>arg 3;whnf
 refine Xn.dB bQ V2 ?_;refine Jc.value (val:=zo B) (w':=w8) bQ V2 rfl (fun t d=>⟨t,d,by show(bG _ _).run prog _=_;simp[bG,go_sem]⟩) ?_;refine Jc.call bQ V2 rfl rfl (fun v=>by show(bG _ _).run prog _=_;simp[bG,go_sem,resolve,Act.put]) (bZ rfl Tryz.func16 rfl) l ?_ ?_;rotate_left;rintro ch w9 ⟨he,_⟩;cases he;rintro v w9 ⟨he,mp,F,L,J,bn,I⟩;cases he;obtain⟨b8,L',R⟩:=f.o.inv.reopen mp;have bt:=bn.symm.trans R.look;cases bt;have T9:Hid<|jt B r v7 (Wp r F J L) w9:=T8.o.trans I;have K9:=zl<|jt.fI T8.o.at_ I K8.o;have RR:=zl R;clear bn I R l;refine mZ (val:=zi 0) V2 ⟨rfl,rfl⟩ ?_;refine Jc.nil bQ V2 ?_;refine mY V2 (Vz m.o.dV) fun c bu j bc=>?_;simp only[Act.put,xv,Zz,Z9];have a:Hid<|W6 c b k:=⟨K9.o.blk.nw<|ji j,K9.o.kept.but (ji j) fun _ _ _=>id,K9.o.seen.but (ji j) fun _ _ _=>id⟩;have K:=zl<|T9.o.trans<|jt.nw T9.o.at_<|ji j;have d0:c.cell? (zq b 0)=bO k.kv:=a.o.blk.cell 0 rfl;have d1:c.cell? (zq b 1)=bO k.sv:=a.o.blk.cell 1 rfl;have d2:c.cell? (zq b 2)=bO (zi k.pend):=a.o.blk.cell 2 rfl;have f1:=a.o.blk.bT 1;have f2:=a.o.blk.bT 2;have HF:Hid<|iY cv tv lo B b r s w (.returned<|.bool bL)<|(c.setCell (zq b 1) k.kv).setCell (zq b 2)<|zi 0:=by
  have hb:xb (·=b) c<|(c.setCell (zq b 1) k.kv).setCell (zq b 2)<|zi 0:=(xb.set c (zq b 1) _).trans<|xb.set _ (zq b 2) _;have hk:W6 ((c.setCell (zq b 1) k.kv).setCell (zq b 2)<|zi 0) b {k with sv:=k.kv,seen:=k.kept,pend:=0}:=
   ⟨(a.o.blk.set 1 k.kv).set 2 _,a.o.kept.but hb fun g G hc=>a.o.blk.dR (by decide) g G hc,a.o.kept.but hb fun g G hc=>a.o.blk.dR (by decide) g G hc⟩
  refine⟨rfl,(M7.o.mono fun _ x=>x.elim).trans<|f.o.old K.o hb,Wp r F J L,V4 J F L,_,f.o.to K.o hb hk ?_ (RR.o.inv J hop)<|WP f.o.fI RR.o rfl rfl rfl rfl rfl, ?_, ?_, ?_⟩;show bO (V4 J (Xi F r.d).2.1 L)=_;rw[RR.o.mend];show F.cnt<=_;rw[RR.o.cnt];omega;exact ze _;have:=f.o.inv.sh0;show(0:Int)<=_;omega
 obtain⟨p0,g0,b4,bm,_,_⟩:=id a.o.kept;obtain⟨p1,g1,b5,bo,_,_⟩:=id a.o.seen;rw[bm]at d0 HF;rw[bo]at d1;clear bm bo
 conv=>arg 2;whnf
 go_wp2_with fail
 refine bc.o .ret _ _ ?_;show PX .ret _ _;rw[<-bp.o];refine⟨rfl,.bool bL,fun t d=>⟨t,d, ?_⟩,HF.o⟩;show(aN Tryz.f21 _).run prog _=_;simp[aN,Tryz.results21,go_sem]
end
end P
namespace P
open A.Tryq Go.RowKit A
variable [pn:A.Pn]
def Hi{cv tv:Zv}{lo B b:Nat}{r:Sr}{s:Jo}{k:gZ}{w:Zy}(c N M:Int)(S T:Zl)(h:Pl cv tv lo B b r s k w)(f:r.cnt<=29)(hop:r.op<999)(l:s.bP<999):
  CC bM 21 #[zo b,zo B,jH c N M S T] w (iY cv tv lo B b r s w):=by
 have a:(∀w,Pl cv tv lo B b r s k w->bE prog 21 #[zo b,zo B,jH c N M S T] w (iY cv tv lo B b r s w))->CC bM 21 #[zo b,zo B,jH c N M S T] w (iY cv tv lo B b r s w):=fun x=>
  UM rfl (by decide) Tryz.func21 rfl (fun e v t d=>Bb.1) (fun v y=>by cases y.1) fun t d=>(x _<|h.nw<|Nw.gL (xb.refl _ _) t d).mono fun e v ⟨i,g,j⟩=>⟨i,⟨g.os,g.output,g.size,g.block⟩,j⟩
 by_cases i:c=1;subst i;exact a fun w h=>Hm N M S T h f;by_cases g:c=2;subst g;exact a fun w h=>Hj N M S T h f;by_cases j:c=3;subst j;exact a fun w h=>Hk N M S T h f;by_cases m:c=4;subst m;exact a fun w h=>SJ N M S T h f;by_cases n:c=5;subst n;exact a fun w h=>SR N M S T h f;by_cases o:c=6;subst o;exact a fun w h=>Hn N M S T h f;by_cases p:c=7;subst p;exact a fun w h=>SP N M S T h f l;by_cases q:c=8;subst q;exact SO N M S T h hop;exact a fun w h=>SM c N M S T h f i g j m n o p q
end P
namespace P
open A.Tryq Go.RowKit A
variable [pn:A.Pn]
attribute [local go_sem] xe zv
section
variable {cv tv:Zv} {w w':Zy} {lo B b:Nat} {t:Nat→Question→Nat}
structure Ac where
 kd:Int
 N:Int
 M:Int
 S:Zl
 T:Zl
def Ac.At(w:Zy)(g o:Nat)(c:Ac):Prop:=w.cell? (zq g o)=bO (zi c.kd)/\w.cell? (zq g<|o+1)=bO (zi c.N)/\w.cell? (zq g<|o+2)=bO (zi c.M)/\w.cell? (zq g<|o+3)=bO (zs c.S)/\w.cell? (zq g<|o+4)=bO (zs c.T)
def AL(lo:Nat)(w:Zy)(v:Zv)(D:List Ac):Prop:=∃a cap,v= .slice a D.length cap/\D.length<=maxLen/\∀i (h:i<D.length),∃g off,a=bO ⟨g,off,bN⟩/\g<lo/\Ac.At w g (off+i*5) D[i]
def AL.but{lo:Nat}{v:Zv}{D:List Ac}(h:AL lo w v D)(b:xb (fun x=>lo<=x) w w'):AL lo w' v D:=by
 obtain⟨a,d,o,p,q⟩:=h;refine⟨a,d,o,p,fun i r=>?_⟩;obtain⟨g,e,m,n,f,j,k,l,c4⟩:=q i r;have c:¬lo<=g:=by omega
 exact⟨g,e,m,n,b.cell c f,b.cell c j,b.cell c k,b.cell c l,b.cell c c4⟩
noncomputable def c10:=Qf Tryz.f10.body
noncomputable def xxm:=Qa c10
noncomputable def xxn:=Qa<|Qa<|Qb c10
noncomputable def Ht:=Qa<|Ql<|Qk<|Qb<|Qa<|Qb c10
noncomputable def Hu:=Qb<|Qk<|Qa<|Qb<|Ql<|Qk<|Qb<|Qa<|Qb c10
noncomputable def PD:=Qb<|Qb<|Ql<|Qk<|Qb<|Qa<|Qb c10
noncomputable def nY:=Qb<|Qb c10
noncomputable def UX:=Qa<|Qk<|Qa<|Qb<|Ql<|Qk<|Qb<|Qa<|Qb<|Qf Tryz.f10.body
def xqm:Tryz.f10.body=bO (.seq xxm<|.seq (.seq xxn<|.block 0<|.loop<|.seq Ht<|.seq (.block 1<|.seq UX Hu) PD) nY):=by kernel_rfl
def zag:¬Mc bM 10:=xO (by decide) (by decide) Tryz.func10
def sZ(b B:Nat)(v:Zv)(j:Nat)(a:Act):Prop:=∃x3 x4 x5 x6 x8 x9 x10 x11 x12 x13 x14 x15 x16 x17 x18 x19 x20 x21 x22 x23 x24 x25 x26 x27 x28 x29 x30 x31 x32 x33 x34 x35 x36 x37 x38 x39 x40 x41 x42 x43 x44 x45,a=⟨#[zo b,zo B,v,x3,x4,x5,x6,zi j,x8,x9,x10,x11,x12,x13,x14,x15,x16,x17,x18,x19,x20,x21,x22,x23,x24,x25,x26,x27,x28,x29,x30,x31,x32,x33,x34,x35,x36,x37,x38,x39,x40,x41,x42,x43,x44,x45],[]⟩
structure Pd(cv tv:Zv)(lo B b:Nat)(v:Zv)(D:List Ac)(w0:Zy)(j:Nat)(w:Zy):Prop where
 pl:∃r s k,Pl cv tv lo B b r s k w/\r.cnt<=31/\r.op<=2+j/\s.bP<=(j:Int)
 old:xb (fun x=>lo<=x) w0 w
 j1:j<=D.length
 j2:j<=300
 al:AL lo w v D
def Pd.nw{v:Zv}{D:List Ac}{w0:Zy}{j:Nat}(h:Pd cv tv lo B b v D w0 j w)(n:Nw w w'):Pd cv tv lo B b v D w0 j w':=by
 obtain⟨r,s,k,a,c⟩:=h.pl;exact⟨⟨r,s,k,a.nw n,c⟩,h.old.trans<|n.mono fun _ x=>x.elim,h.j1,h.j2,h.al.but<|n.mono fun _ x=>x.elim⟩
def DI(cv tv:Zv)(lo B b:Nat)(w0:Zy)(e:Ending)(w:Zy):Prop:=e= .returned (.bool bL)/\xb (fun x=>lo<=x) w0 w/\∃r s k,Pl cv tv lo B b r s k w/\r.cnt<=31/\r.op<=302/\s.bP<=300
def Rd{e:Ending}{d:Nat}:DI cv tv lo B b w e (re w' t d)↔DI cv tv lo B b w e w':=by
 have n1:Nw w'<|re w' t d:=Nw.gL (xb.refl _ _) t d;have k:Nw (re w' t d) w':=⟨rfl,rfl,ze _,fun _ _ _=>rfl⟩;constructor;rintro⟨a,c,i,j,h,f,g⟩;exact⟨a,xb.re c,i,j,h,f.nw k,g⟩;rintro⟨a,c,i,j,h,f,g⟩;exact⟨a,c.trans<|n1.mono fun _ x=>x.elim,i,j,h,f.nw n1,g⟩
section
variable {cv tv:Value} {lo B b j:Nat} {v:Value} {D:List Ac} {w0 w:World} {a:Act} {Po:Exit->Act->World->Prop}
def xnw(x:sZ b B v j a)(h:Pd cv tv lo B b v D w0 j w)
  (n:Hid<|∀a',sZ b B v j a'->j<D.length->j<300->(∀r s k,Pl cv tv lo B b r s k w->r.cnt<=29)->Po .normal a' w)(c:Hid<|∀a',sZ b B v j a'->Po (.exit 0) a' w):Ht.wp prog Po a w:=by
 obtain⟨x3,x4,x5,x6,x8,x9,J,K,L,M,N,O,Q,R,S,T,U,V,W,X,Y,Z,ba,bb,bc,bd,be,bf,bg,bh,bi,bj,bl,bm,bn,bo,bp,bq,br,bs,bt,bu,rfl⟩:=x;obtain⟨r,s,k,o,C,E,F⟩:=h.pl;obtain⟨ad,p,rfl,f,_⟩:=h.al;have c4:w.cell? (zq b 4)=bO (zi k.recs):=o.bk.blk.cell 4 rfl;have m:Hid<|∀g l e,Pl cv tv lo B b g l e w->g.cnt=k.recs:=fun g l e d=>by
  have i:w.cell? (zq b 4)=bO (zi e.recs):=d.bk.blk.cell 4 rfl;rw[c4]at i;have e2:(k.recs:Int)=(e.recs:Int):=by injection i with i;injection i
  have:=d.fI.recs;omega
 have y:=h.j1;have z:=h.j2;unfold maxLen at f;clear h o
 conv=>arg 2;whnf
 by_cases q:j<D.length
 ·have G:(j:Int)<(D.length:Nat):=by omega
  by_cases t:j<300
  ·have H:(j:Int)<300:=by omega
   by_cases h3:k.recs<30
   ·have I:(k.recs:Int)<30:=by omega
    go_wp2_with fail
    exact n.o _ ⟨_,_,_,_,_,_,_,_,_,_,_,_,_,_,_,_,_,_,_,_,_,_,_,_,_,_,_,_,_,_,_,_,_,_,_,_,_,_,_,_,_,_,rfl⟩ q t fun g l e d=>by have:=m.o g l e d;omega
   have I:¬(k.recs:Int)<30:=by omega
   go_wp2_with fail
   exact c.o _ ⟨_,_,_,_,_,_,_,_,_,_,_,_,_,_,_,_,_,_,_,_,_,_,_,_,_,_,_,_,_,_,_,_,_,_,_,_,_,_,_,_,_,_,rfl⟩
  have H:¬(j:Int)<300:=by omega
  go_wp2_with fail
  exact c.o _ ⟨_,_,_,_,_,_,_,_,_,_,_,_,_,_,_,_,_,_,_,_,_,_,_,_,_,_,_,_,_,_,_,_,_,_,_,_,_,_,_,_,_,_,rfl⟩
 have G:¬(j:Int)<(D.length:Nat):=by omega
 go_wp2_with fail
 exact c.o _ ⟨_,_,_,_,_,_,_,_,_,_,_,_,_,_,_,_,_,_,_,_,_,_,_,_,_,_,_,_,_,_,_,_,_,_,_,_,_,_,_,_,_,_,rfl⟩
def Hd{r:Sr}{s:Jo}{k:gZ}{x8:Zv}(l:sZ b B v j a)(f:a.tmps[8]?=bO (.bool bL))(h:Pl cv tv lo B b r s k w)(i:Hid<|∀a',sZ b B v j a'->Po .normal a' w):Hu.wp prog Po a w:=by
 obtain⟨x3,x4,x5,x6,x8,x9,m,n,o,p,q,t,x,y,z,C,D,E,F,G,H,I,J,K,L,M,N,O,Q,R,S,T,U,V,W,X,Y,Z,ba,bb,bc,bd,rfl⟩:=l;simp only[q8,Xb,Xl,zp]at f;subst f;have g:=zl h;have c4:w.cell? (zq b 4)=bO (zi k.recs):=h.bk.blk.cell 4 rfl;have c:(r.cnt:Int)=(k.recs:Int):=by have:=h.fI.recs;omega
 have d:=zl c;clear h c
 conv=>arg 2;whnf
 go_wp2_with fail
 refine(Tm B r _ g.o.st).mono ?_;rintro e w1 ⟨rfl,rfl⟩;rw[d.o]
 go_wp2_with fail
 exact i.o _ ⟨_,_,_,_,_,_,_,_,_,_,_,_,_,_,_,_,_,_,_,_,_,_,_,_,_,_,_,_,_,_,_,_,_,_,_,_,_,_,_,_,_,_,rfl⟩
def xnv(d:sZ b B v j a)(V:j<=300)(c:Hid<|∀a',sZ b B v (j+1) a'->Po .normal a' w):PD.wp prog Po a w:=by
 obtain⟨X,Y,Z,x6,x8,x9,e,f,g,h,i,k,l,m,n,o,p,q,r,s,t,x,y,z,C,D,E,F,G,H,I,J,K,L,M,N,O,Q,R,S,T,U,rfl⟩:=d;have W:IntKind.i64.wrap ((j:Int)+1)=(j:Int)+1:=by rw[xn];omega
 conv=>arg 2;whnf
 go_wp2_with fail
 exact c.o _ ⟨_,_,_,_,_,_,_,_,_,_,_,_,_,_,_,_,_,_,_,_,_,_,_,_,_,_,_,_,_,_,_,_,_,_,_,_,_,_,_,_,_,_,rfl⟩
end
def m5{Q:Exit->Act->Zy->Prop}(h:kT Q){I:Act->Zy->Prop}{m:Act->Zy->Nat}{a0:Act}{w0:Zy}(b:∀a w t d,I a (re w t d)↔I a w)(c:∀a w t d,m a (re w t d)=m a w):kT (fun e a' w'=>match e with
   | .normal=>I a' w'/\m a' w'<m a0 w0
   |e=>Q e a' w'):=by
 intro e a w t d;cases e with
 |normal=>show(I a (re w t d)/\m a (re w t d)<m a0 w0)↔(I a w/\m a w<m a0 w0);rw[b,c]
 |exit id=>exact h _ _ _ _ _
 |goto l=>exact h _ _ _ _ _
 |ret=>exact h _ _ _ _ _
 |panic ch=>exact h _ _ _ _ _
 |outgrown=>exact h _ _ _ _ _
def DL(a:Act):Nat:=301-(intOf<|a.tmps[7]?.getD undef).toNat
def Bw{b B:Nat}{v:Zv}{j:Nat}{a:Act}(h:sZ b B v j a):DL a=301-j:=by
 obtain⟨T,U,V,W,X,Y,c,d,e,f,g,i,k,l,m,n,o,p,q,r,s,t,w,x,y,z,C,D,E,F,G,H,I,J,K,L,M,N,O,Q,R,S,rfl⟩:=h;simp[DL,intOf]
def LL{v:Zv}{D:List Ac}{w:Zy}(h:Pd cv tv lo B b v D w 0 w):
  CC bM 10 #[zo b,zo B,v] w (DI cv tv lo B b w):=by
 have hQ:kT<|nJ bM funcs Tryz.f10<|DI cv tv lo B b w:=AO fun e w' t d=>Rd;refine CC.fA bQ zag (bZ rfl Tryz.func10 rfl).1 Tryz.func10 xqm ?_;rw[show Tryz.f10.ntmps=46 from rfl];generalize hPX:nJ bM funcs Tryz.f10 (DI cv tv lo B b w)=PX at hQ;have W:=zl hQ;have Y:=zl hPX;have H0:=zl h;clear h hQ hPX;simp only[jg,zh,jn,Nat.reduceAdd,Nat.reduceSub,qw,qx,Z7,Zi,jk,jc];refine gG zag W.o fun w1 cx ba F bj=>?_;have N1:=zl<|ji ba;clear bj
 conv=>arg 2;whnf
 go_wp2_with fail
 refine F.o _ _ ?_;clear F;refine Xn.seq bQ zag trivial ?_;refine gG zag W.o.dV fun w2 cy bb G bk=>?_;have H2:=zl<|H0.o.nw<|N1.o.trans<|ji bb;clear bk
 conv=>arg 2;whnf
 go_wp2_with fail
 refine G.o _ _ ?_;clear G;refine Xn.block bQ zag ?_;have bi:=Vz (W.o.dV (P:=bM) (fn:=10) (y:=nY)) (id:=0);refine Xn.loop bQ zag (by trivial) (fun a w'=>∃j,sZ b B v j a/\Pd cv tv lo B b v D w j w') (fun a _=>DL a) ?_ _ _ ⟨0,⟨_,_,_,_,_,_,_,_,_,_,_,_,_,_,_,_,_,_,_,_,_,_,_,_,_,_,_,_,_,_,_,_,_,_,_,_,_,_,_,_,_,_,rfl⟩,H2.o⟩;rintro a w3 ⟨j,hf,bn⟩;have hI:∀a w' t d,(∃j,sZ b B v j a/\Pd cv tv lo B b v D w j (re w' t d))↔(∃j,sZ b B v j a/\Pd cv tv lo B b v D w j w'):=fun a w' t d=>
  ⟨fun⟨j,Z,h2⟩=>⟨j,Z,h2.nw ⟨rfl,rfl,ze _,fun _ _ _=>rfl⟩⟩,fun⟨j,Z,h2⟩=>⟨j,Z,h2.nw<|Nw.gL (xb.refl _ _) t d⟩⟩
 have p:=m5 bi (I:=fun a w'=>∃j,sZ b B v j a/\Pd cv tv lo B b v D w j w') (m:=fun a _=>DL a) (a0:=a) (w0:=w3) hI fun _ _ _ _=>rfl;have cs:=Bw hf;refine gG zag p fun i cz bc H J=>?_;have c:=bn.nw<|ji bc;refine xnw hf c (fun a4 x L c8 bo=>H.o _ _ ?_) fun a4 x=>J.o _ _ _ (by simp) ?_
 ·
  obtain⟨r,s,k,Q,q,O,V⟩:=c.pl;have C:=bo r s k Q;have z:=fun kd N M S T=>Hi kd N M S T Q C (by omega) (by omega);obtain⟨ad,o,rfl,ct,bl⟩:=c.al;obtain⟨g,f,rfl,hg,c0,c1,c2,c3,c4⟩:=bl j L;refine Xn.seq bQ zag trivial (Xn.block bQ zag ?_);obtain⟨x3,x4,x5,x6,x8,x9,bp,bq,br,bs,bt,bu,bv,bw,bx,bz,b0,b1,b2,b3,b4,b5,b6,b7,b8,b9,ca,cb,cc,cd,ce,cf,cg,ci,cj,ck,cl,cm,cn,co,cp,cq,rfl⟩:=x;refine Xn.seq bQ zag trivial ?_
  conv=>arg 3;whnf
  refine Xn.dB bQ zag ?_;refine Jc.value (val:=zo b) (w':=i) bQ zag rfl (fun t d=>⟨t,d,by show(bG _ _).run prog _=_;simp[bG,go_sem]⟩) ?_;refine mZ (val:=zo B) zag ⟨rfl,rfl⟩ ?_;refine mZ (val:= .slice (bO ⟨g,f,bN⟩) D.length o) zag ⟨rfl,rfl⟩ ?_;refine mZ (val:=zi j) zag ⟨rfl,rfl⟩ ?_;have i1:(j:Int)<(D.length:Nat):=by omega
  have i0:¬(j:Int)<0:=by omega
  refine Jc.value (val:=zk g<|f+j*5) (w':=i) bQ zag rfl (fun t d=>⟨t,d,by show(bG _ _).run prog _=_;simp[bG,go_sem,Act.put,i0,i1,L]⟩) ?_;refine Jc.value (val:=jH D[j].kd D[j].N D[j].M D[j].S D[j].T) (w':=i) bQ zag rfl (fun t d=>⟨t,d, ?_⟩) ?_
  ·have e0:(re i t d).cell? (zq g<|f+j*5)=bO (zi D[j].kd):=c0
   have e1:(re i t d).cell? (zq g<|f+j*5+1)=bO (zi D[j].N):=c1;have e2:(re i t d).cell? (zq g<|f+j*5+2)=bO (zi D[j].M):=c2;have e3:(re i t d).cell? (zq g<|f+j*5+3)=bO (.string<|st D[j].S):=c3;have e4:(re i t d).cell? (zq g<|f+j*5+4)=bO (.string<|st D[j].T):=c4;show(bG _ _).run prog _=_;simp[bG,go_sem,Act.put,e0,e1,e2,e3,e4,jH]
  refine Jc.call (args:=#[.pointer _,.pointer _,jH D[j].kd D[j].N D[j].M D[j].S D[j].T]) bQ zag rfl rfl (fun v=>by show(bG _ _).run prog _=_;simp[bG,go_sem,resolve,Act.put]) (bZ rfl Tryz.func21 rfl) (z _ _ _ _ _) ?_ ?_;rotate_left;rintro ch X ⟨he,_⟩;cases he;rintro vv X ⟨he,l,r',s',k',R,cr,cu,cw⟩;cases he;refine Jc.value (val:= .bool bL) (w':=X) bQ zag rfl (fun t d=>⟨t,d,by show(bG _ _).run prog _=_;simp[bG,go_sem,Act.put]⟩) ?_;refine Jc.nil bQ zag ?_;have U:Pd cv tv lo B b (.slice (bO ⟨g,f,bN⟩) D.length o) D w (j+1) X:=⟨⟨r',s',k',R,by omega,by omega,by omega⟩,c.old.trans l,by omega,by omega,c.al.but l⟩;refine Xn.last' bQ kZ zag (Vz (p.dV (P:=bM) (fn:=10) (y:=PD)) (id:=1)) fun w6 c6 E bg=>(show Code.wp prog _ _ _ _ from ?_);simp only[Act.put,xv,Zz,Z9];refine Hd (x8:=undef) (j:=j) (v:= .slice (bO ⟨g,f,bN⟩) D.length o) ⟨_,_,_,_,_,_,_,_,_,_,_,_,_,_,_,_,_,_,_,_,_,_,_,_,_,_,_,_,_,_,_,_,_,_,_,_,_,_,_,_,_,_,rfl⟩ rfl (R.nw<|ji E) fun a6 bm=>bg.o .normal _ _ ?_;show Xn bM 10 PD _ a6 w6;refine mY zag p fun w7 c7 be bh=>?_;refine xnv bm (by omega) fun a7 K=>bh.o .normal _ _ ⟨⟨j+1,K,(U.nw<|ji E).nw<|ji be⟩, ?_⟩;have h7:=Bw K;show DL a7<DL a;omega
 show(if 0=0 then _ else _);rw[aA rfl];show Xn bM 10 nY PX a4 i;obtain⟨r,s,k,Q,q,O,V⟩:=c.pl;have HP:Hid<|∀w',Nw i w'->DI cv tv lo B b w (.returned<|.bool bL) w':=fun w' n=>⟨rfl,(c.nw n).old,r,s,k,Q.nw n,q,by have:=c.j2;omega,by have:=c.j2;omega⟩;obtain⟨x3,x4,x5,x6,x8,x9,bp,bq,br,bs,bt,bu,bv,bw,bx,bz,b0,b1,b2,b3,b4,b5,b6,b7,b8,b9,ca,cb,cc,cd,ce,cf,cg,ci,cj,ck,cl,cm,cn,co,cp,cq,rfl⟩:=x;refine mY zag W.o fun X c5 bd bf=>?_;have n5:=zl<|ji bd;clear Q q O V H J
 conv=>arg 2;whnf
 go_wp2_with fail
 refine bf.o .ret _ _ ?_;rw[<-Y.o];refine⟨rfl,.bool bL,fun t d=>⟨t,d, ?_⟩,HP.o _ n5.o⟩;show(aN Tryz.f10 _).run prog _=_;simp[aN,Tryz.results10,go_sem]
noncomputable def pD:=Qa<|Qf Tryz.f9.body
noncomputable def pH:=Qa<|Qb<|Qf Tryz.f9.body
noncomputable def pL:=Qa<|Qb<|Qb<|Qf Tryz.f9.body
noncomputable def pN:=Qa<|Qn 3<|Qf Tryz.f9.body
noncomputable def pP:=Qa<|Qn 5<|Qf Tryz.f9.body
noncomputable def pS:=Qa<|Qn 6<|Qf Tryz.f9.body
noncomputable def pT:=Qa<|Qn 7<|Qf Tryz.f9.body
noncomputable def y9:=Qn 9<|Qf Tryz.f9.body
noncomputable def lR:=Qa<|Qn 4<|Qf Tryz.f9.body
noncomputable def mA:=Qa<|Qn 8<|Qf Tryz.f9.body
def xtm:Tryz.f9.body=bO (.seq pD<|.seq pH<|.seq pL<|.seq pN<|.seq lR<|.seq pP<|.seq pS<|.seq pT<|.seq mA y9):=by kernel_rfl
def kQ:¬Mc bM 9:=xO (by decide) (by decide) Tryz.func9
def Ic:Jo:=⟨0,0,[],.slice bN 0 0,[],0,0,0,0,0⟩
def Wy.new{nW:Int}{m:Zl}{D M:Nat}(e:m.length=32):Wy (Sr.new 100000 nW 999 m D M) Ic:=by
 have hk:Y0 (Jp m [] 0 0 0) []=Jp m [] 0 0 0:=by unfold Y0;rw[aA (show qu [] 0=[]from rfl)]
 refine⟨⟨[],[],Jp m [] 0 0 0,[],⟨⟨e,fun h=>absurd rfl h,⟨fun _=>rfl,fun h=>absurd rfl h⟩, ?_,fun i d=>absurd d<|Wd _,rfl, ?_,fun n f=>absurd rfl f⟩,rfl,rfl,rfl,iF.rfl' List.nodup_nil, ?_,rfl, ?_⟩⟩,Pg,fM.nil,(fun p a=>(Vy a).elim),rfl,rfl,rfl, ?_, ?_, ?_,(fun c b=>(Vy b).elim), ?_,(fun p a=>(Vy a).elim),Vj _,Vj _,Vj _,.inl rfl,Int.le_refl _⟩;show jY _ (Y0 (Jp m [] 0 0 0) []) [] [] _ _;rw[hk];exact jY.nil _ _ _;show(Y0 (Jp m [] 0 0 0) []).base.toNat+_<=_;rw[hk];show(0:Nat)+0<=_;omega;show(0:Int)=(Y0 (Jp m [] 0 0 0) []).base;rw[hk];rfl;show(0:Int)=(Y0 (Jp m [] 0 0 0) []).named;rw[hk];rfl;show J6 []<=10116+1071*((0:Nat):Int);simp[J6];show(0:Int)<=((0:Nat):Int);omega;show(0:Nat)<=40;omega;show([]:List dM).length<=20;simp
structure U0(cv tv:Zv)(lo B:Nat)(r:Sr)(s:Jo)(w:Zy):Prop where
 st:Jq w B r
 sn:r.sn=bO s
 inv:Wy r s
 L:s.L=[]
 P:s.P=[]
 cnt:r.cnt=0
 op:r.op=2
 ep:s.ep=0
 bP:s.bP=0
 own:∀x,r.own B x->lo<=x
def MG(cv tv:Zv)(w:Zy)(e:Ending)(w':Zy):Prop:=∃B r s,e= .returned (zo B)/\U0 cv tv w.heap.size B r s w'/\Nw w w'
def Jq.nw{B:Nat}{r:Sr}(h:Jq w B r)(n:Nw w w'):Jq w' B r:=h.but n fun _ _=>id
def m6{e:Ending}{d:Nat}:MG cv tv w e (re w' t d)↔MG cv tv w e w':=by
 have n1:Nw w'<|re w' t d:=Nw.gL (xb.refl _ _) t d;have f:Nw (re w' t d) w':=⟨rfl,rfl,ze _,fun _ _ _=>rfl⟩;constructor;rintro⟨B,r,s,b,a,c⟩;exact⟨B,r,s,b,⟨a.st.nw f,a.sn,a.inv,a.L,a.P,a.cnt,a.op,a.ep,a.bP,a.own⟩,c.trans f⟩;rintro⟨B,r,s,b,a,c⟩;exact⟨B,r,s,b,⟨a.st.nw n1,a.sn,a.inv,a.L,a.P,a.cnt,a.op,a.ep,a.bP,a.own⟩,c.trans n1⟩
def jt.zP{B:Nat}{r r':Sr}{w0 w w':Zy}(n:Nw w0 w)(t:jt B r w r' w')(ho:∀x,r.own B x->w0.heap.size<=x):Nw w0 w':=
 ⟨t.but.os.trans n.os,t.but.output.trans n.output,xz n.size t.but.size,fun i a _=>(t.but.block i (zn a n.size) fun h=>by have:=ho i h;omega).trans<|n.block i a id⟩
def cQ{L:KV}(h:iF L []):L=[]:=xa<|h.len.trans rfl
def Ny{B:Nat}{r:Sr}{s:Jo}{w:Zy}(h:Jq w B r)(b:r.sn=bN)(I:Wy r s)(hop:r.op<999)(g:iA cv tv w)(a:∀x,r.own B x->2<x):
  CC bM 16 #[zo B] w fun e w'=>e= .returned (zi 0)/\∃mp kk L SS,FJ r s mp kk L/\jt B r w (Wp r kk SS L) w':=by
 refine(G_ (cv:=cv) (tv:=tv) h b hop (fV.of (s:=s) I (.inr b) a) g (fun i=>by have:=I.jD i;omega) fun mp=>?_).mono fun e w' ⟨j,mp,kk,L,SS,d,f⟩=>?_;obtain⟨kk,L,R⟩:=I.reopen mp;have n:=R.rC;exact⟨kk,L,R.look,by rw[R.mend],(fun k=>absurd (R.dD.symm.trans k)<|by simp),by omega,by omega⟩;obtain⟨l,m,R⟩:=I.reopen mp;have c:=d.symm.trans R.look;cases c;exact⟨j,mp,kk,L,SS,R,f⟩
def ZZ{r:Sr}{s:Jo}{mp SS:Nat}{kk:Lk}{L:KV}(R:FJ r s mp kk L):(Wp r kk SS L).sn=bO (V4 SS kk L):=by
 show bO (V4 SS (Xi kk r.d).2.1 L)=_;rw[R.mend]
def Ln(ms:Zl)(sg:Int)(b1:-9223372036854775808<=sg/\sg<=9223372036854775807){w:Zy}(hG:iA cv tv w):
  CC bM 9 #[zs ms,zi sg,zi 999] w (MG cv tv w):=by
 have hQ:kT<|nJ bM funcs Tryz.f9<|MG cv tv w:=AO fun e w' t d=>m6;refine CC.fA bQ kQ (bZ rfl Tryz.func9 rfl).1 Tryz.func9 xtm ?_;rw[show Tryz.f9.ntmps=89 from rfl];generalize hPX:nJ bM funcs Tryz.f9 (MG cv tv w)=PX at hQ;have J:=zl hQ;have b5:=zl hPX;have HG:=zl hG;have cx:=hG.pos;clear hQ hPX hG;simp only[jg,zh,jn,Nat.reduceAdd,Nat.reduceSub,qw,qx,Z7,Zi,jk,jc];refine gG kQ J.o fun w1 cs bp S bu=>?_;have N1:=zl<|ji bp;clear bu
 conv=>arg 2;whnf
 go_wp2_with fail
 refine S.o _ _ ?_;clear S;refine gG kQ J.o fun w2 cy cj bs cl=>?_;have N2:Hid<|Nw w w2:=N1.o.trans<|ji cj;clear cl
 conv=>arg 2;whnf
 go_wp2_with fail
 refine(VZ sg 400 (by omega) (by omega) b1.1 b1.2 _).mono ?_;rintro e c1 ⟨⟨p,hp,rfl⟩,rfl⟩;have cm:IntKind.i64.wrap (1+(p:Int))=1+(p:Int):=by rw[xn];omega
 go_wp2_with fail
 refine(Dr ms 32 (by omega) 32 rfl _).mono ?_;rintro e w3 ⟨rfl,bz⟩;have N3:Hid<|Nw w w3:=N2.o.trans<|xb.of_below bz;have bi:=xoo ms 32;clear bz;generalize wM ms 32=m at*
 go_wp2_with fail
 refine(xpw _ _ 999 m (by omega) (by omega) (by omega) (by omega) (by omega) (by omega) bi _).mono ?_;rintro e w4 ⟨B,D,M,rfl,hB,hD,hM,b0,bb⟩;have N4:Hid<|Nw w w4:=N3.o.trans<|xb.of_below b0;have S4:=zl bb;have I4:Hid<|Wy (Sr.new 100000 (1+(p:Int)) 999 m D M) Ic:=Wy.new bi;have O4:Hid<|∀x,(Sr.new 100000 (1+(p:Int)) 999 m D M).own B x->w.heap.size<=x:=fun x o=>by
  have h3:=N3.o.size;rcases o with e|(e|e|⟨c,W,_⟩)|⟨t,F,_⟩
  omega;have e:x=D:=e;omega;have e:x=M:=e;omega;cases W;cases F
 have C:(Sr.new 100000 (1+(p:Int)) 999 m D M).cnt=0:=rfl;have Z:(Sr.new 100000 (1+(p:Int)) 999 m D M).op=0:=rfl;have ba:(Sr.new 100000 (1+(p:Int)) 999 m D M).sn=bN:=rfl;clear b0 bb hB hD hM cm hp bi;generalize Sr.new 100000 (1+(p:Int)) 999 m D M=r0 at*;have bl:=zl C;have bd:=zl Z;have b6:=zl ba;clear C Z ba
 go_wp2_with fail
 refine bs.o _ _ ?_;clear bs;refine gG kQ J.o fun w5 ct bq T bv=>?_;have N5:=zl<|ji bq;clear bv
 conv=>arg 2;whnf
 go_wp2_with fail
 refine T.o _ _ ?_;clear T;refine gG kQ J.o fun w6 cu br U bw=>?_;have N6:Hid<|Nw w4 w6:=N5.o.trans<|ji br;clear bw
 conv=>arg 2;whnf
 go_wp2_with fail
 refine(Tm B r0 _<|S4.o.nw N6.o).mono ?_;rintro e b3 ⟨rfl,rfl⟩;rw[show((r0.cnt:Nat):Int)=0 by rw[bl.o];rfl]
 go_wp2_with fail
 refine U.o _ _ ?_;clear U;have G6:=HG.o.but (N4.o.trans N6.o) fun _ x=>x.elim;have bc:∀x,r0.own B x->2<x:=fun x o=>by have:=O4.o x o;omega
 have b:=Ny (S4.o.nw N6.o) b6.o I4.o (by rw[bd.o];omega) G6 bc;refine Xn.seq bQ kQ trivial ?_
 conv=>arg 3;whnf
 refine Xn.dB bQ kQ ?_;refine Jc.value (val:=zo B) (w':=b3) bQ kQ rfl (fun t d=>⟨t,d,by show(bG _ _).run prog _=_;simp[bG,go_sem]⟩) ?_;refine Jc.call bQ kQ rfl rfl (fun v=>by show(bG _ _).run prog _=_;simp[bG,go_sem,resolve,Act.put]) (bZ rfl Tryz.func16 rfl) b ?_ ?_;rotate_left;rintro ch wx ⟨X,_⟩;cases X;rintro v w7 ⟨X,mp,kk,L,SS,R,b2⟩;cases X;refine mZ (val:=zi 0) kQ ⟨rfl,rfl⟩ ?_;refine Jc.nil bQ kQ ?_;refine(show Xn _ 9 _ PX _ w7 from ?_);simp only[Act.put,xv,Zz,Z9];have hL:=cQ R.same;subst hL;obtain⟨G,l⟩:∃G,G=Wp r0 kk SS []:=⟨_,rfl⟩;obtain⟨q,n⟩:∃q,q=V4 SS kk []:=⟨_,rfl⟩;have I7:Hid<|Wy G q:=by show Wy _ _;rw[l,n];exact R.inv SS<|by rw[bd.o];omega
 have T7:Hid<|jt B r0 b3 G w7:=by show jt _ _ _ _ _;rw[l];exact b2
 have Q7:Hid<|G.sn=bO q:=by show _=_;rw[l,n];exact ZZ R
 have E7:Hid<|q.ep=0:=by show _=_;rw[n];exact R.ep
 have K:Hid<|q.L=[]/\q.P=[]/\G.cnt=0/\G.op=1:=by
  refine⟨by rw[n];rfl,by rw[n];rfl, ?_, ?_⟩;rw[l];exact R.cnt.trans bl.o;rw[l];show r0.op+1=1;rw[bd.o]
 have O7:Hid<|∀x,G.own B x->w.heap.size<=x:=fun x o=>by
  rcases T7.o.own x o with N|N;exact O4.o x N;have:=(N4.o.trans N6.o).size;omega
 have N7:=zl<|jt.zP (N4.o.trans N6.o) T7.o O4.o;clear l n b2 R b bc G6;refine gG kQ J.o fun w8 cw Q V bx=>?_;have S8:=zl<|T7.o.at_.nw<|ji Q;have N8:Hid<|Nw w w8:=N7.o.trans<|ji Q;clear bx
 conv=>arg 2;whnf
 go_wp2_with fail
 refine(Dv B G [107] [118] _ S8.o fun t F=>by rw[Q7.o]at F;cases F;exact I7.o.P20).mono ?_;rintro e w9 ⟨aa,g,rfl,I,k⟩;obtain⟨rfl,pv,H⟩:aa=0/\∃pv,g={G with sn:=bO<|q.more pv<|.put [107] [118]}:=by
  unfold Sr.awaits at k;rw[Q7.o]at k;simp only at k;rw[aB<|by decide,aB<|by rw[K.o.2.1];simp]at k;exact k
 have T9:=zl I;have E9:=zl H;have I9:Hid<|Wy g<|q.more pv<|.put [107] [118]:=by
  show Wy _ _;rw[H];refine I7.o.swap rfl rfl rfl rfl rfl rfl (fun c W=>?_) ?_;rcases Je.1 W with W|W
  rw[K.o.2.1]at W;cases W;rw[jp.1 W];exact⟨by simp,by simp,by simp⟩;show(q.P++[_]).length<=20;rw[K.o.2.1];simp
 have G9:Hid<|g.gets [107]=([118],0):=by
  show _=_;rw[SY<|by rw[H],aB<|by decide];have:(q.more pv<|.put [107] [118]).now=[([107],[118])]:=by
   unfold Jo.now Jo.more;simp only;rw[K.o.1,K.o.2.1];rfl
  rw[this];rfl
 have O9:Hid<|∀x,g.own B x->w.heap.size<=x:=fun x o=>by
  rcases I.own x o with N|N;exact O7.o x N;have:=N8.o.size;omega
 have N9:=zl<|jt.zP N8.o I O7.o;clear I k H
 go_wp2_with fail
 refine V.o _ _ ?_;clear V;refine gG kQ J.o fun cn cc r y bf=>?_;have bo:=zl<|T9.o.at_.nw<|ji r;have b7:Hid<|Nw w cn:=N9.o.trans<|ji r;clear bf
 conv=>arg 2;whnf
 go_wp2_with fail
 refine(TM B g [107] _ bo.o fun t F=>by rw[E9.o]at F;cases F;exact I9.o.P20).mono ?_;rintro e co ⟨rfl,E⟩;rw[G9.o];have ce:=zl<|bo.o.nw E;have b8:Hid<|Nw w co:=b7.o.trans E;clear E
 go_wp2_with fail
 refine y.o _ _ ?_;clear y;refine gG kQ J.o fun cp cd s z bg=>?_;have cf:=zl<|ce.o.nw<|ji s;have b9:Hid<|Nw w cp:=b8.o.trans<|ji s;clear bg
 conv=>arg 2;whnf
 go_wp2_with fail
 refine(x_ B g _ cf.o).mono ?_;rintro e cq ⟨rfl,bh⟩;have ci:=zl bh;rw[show(if g.sn.isSome then(0:Int)else 5)=0 by rw[E9.o];rfl];have be:=zl<|jt.zP b9.o bh O9.o;clear bh
 go_wp2_with fail
 refine z.o _ _ ?_;clear z;have bk:=HG.o.but be.o fun _ x=>x.elim;have bm:Wy g.shut<|q.more pv<|.put [107] [118]:=I9.o.tV bN;have h:g.shut.op=1:=by show g.op=1;rw[E9.o];exact K.o.2.2.2
 have b:=Ny ci.o.at_ rfl bm (by rw[h];omega) bk (fun x o=>by have:=O9.o x<|Wy.fP o;omega);refine Xn.seq bQ kQ trivial ?_
 conv=>arg 3;whnf
 refine Xn.dB bQ kQ ?_;refine Jc.value (val:=zo B) (w':=cq) bQ kQ rfl (fun t d=>⟨t,d,by show(bG _ _).run prog _=_;simp[bG,go_sem]⟩) ?_;refine Jc.call bQ kQ rfl rfl (fun v=>by show(bG _ _).run prog _=_;simp[bG,go_sem,resolve,Act.put]) (bZ rfl Tryz.func16 rfl) b ?_ ?_;rotate_left;rintro ch wx ⟨X,_⟩;cases X;rintro v bj ⟨X,cz,f,L2,j,R2,i⟩;cases X;refine mZ (val:=zi 0) kQ ⟨rfl,rfl⟩ ?_;refine Jc.nil bQ kQ ?_;refine(show Xn _ 9 _ PX _ bj from ?_);simp only[Act.put,xv,Zz,Z9];have ck:=cQ (by have:=R2.same;rwa[show(q.more pv<|.put [107] [118]).L=[]from K.o.1]at this);subst ck;have a:Hid<|U0 cv tv w.heap.size B (Wp g.shut f j []) (V4 j f []) bj:=by
  refine⟨i.at_,ZZ R2,R2.inv j<|by rw[h];omega,rfl,rfl, ?_, ?_, ?_,rfl,fun x o=>?_⟩;show f.cnt=0;rw[R2.cnt];show g.cnt=0;rw[E9.o];exact K.o.2.2.1;show g.shut.op+1=2;rw[h];show f.ep=0;rw[R2.ep];exact E7.o;rcases i.own x o with N|N
  exact O9.o x<|Wy.fP N;have:=be.o.size;omega
 have ca:=zl<|jt.zP be.o i fun x o=>O9.o x<|Wy.fP o;have b4:Hid<|(Wp g.shut f j []).gets [107]=([],8):=by
  show _=_;rw[SY a.o.sn,aB<|by decide];rfl
 clear i R2 b bk bm h;generalize Wp g.shut f j []=r3 at*;generalize V4 j f []=s3 at*;refine mY kQ J.o fun c0 cr O bt=>?_;have cg:=zl<|a.o.st.nw<|ji O;have cb:=zl<|ji O
 conv=>arg 2;whnf
 go_wp2_with fail
 refine(TM B r3 [107] _ cg.o fun t F=>by rw[a.o.sn]at F;cases F;exact a.o.inv.P20).mono ?_;rintro e w16 ⟨rfl,Y⟩;rw[b4.o];have bn:Hid<|Nw bj w16:=cb.o.trans Y;have hv:(st [118]).toList=[118]:=xo _;have X:(st ([]:Zl)).toList=[]:=xo _;clear Y
 go_wp2_with fail
 refine bt.o .ret _ _ ?_;rw[<-b5.o];refine⟨rfl,zo B,fun t d=>⟨t,d, ?_⟩,B,r3,s3,rfl,⟨a.o.st.nw bn.o,a.o.sn,a.o.inv,a.o.L,a.o.P,a.o.cnt,a.o.op,a.o.ep,a.o.bP,a.o.own⟩,ca.o.trans bn.o⟩;show(aN Tryz.f9 _).run prog _=_;simp[aN,Tryz.results9,go_sem]
end
end P
namespace P
open Go.RowKit
section
variable {F G:Ym}
def uN(h:∀n:Int,n<=20000->qu F n=qu G n)(m:Mf)(a:Zl):Y6 m F a=Y6 m G a:=by
 have:nN m F=nN m G:=by
  unfold nN;by_cases e:m.file=10001\/m.file=10002;rw[h m.file<|by omega];rw[aB e,aB e]
 unfold Y6;rw[this]
def mW(h:∀n:Int,n<=20000->qu F n=qu G n):∀f n,qQ F f n=qQ G f n
 |0,n=>rfl
 |f+1,n=>by
  rw[qQ,qQ,mW h f<|n+1];by_cases e:n<9999;rw[h ((n+1:Nat):Int)<|by omega];rw[aB fun x=>e x.1,aB fun x=>e x.1]
def mX:∀f n,qQ F f n=n\/qQ F f n<=9999
 |0,n=> .inl rfl
 |f+1,n=>by
  rw[qQ];split
  rename_i e
  rcases mX f (n+1)with h|h;exact .inr (by omega);exact .inr h;exact .inl rfl
def pU(h:∀n:Int,n<=20000->qu F n=qu G n)(n:Nat)(k:Lk)(L:KV):∀r,n+r<=20000\/r=0->dJ (fun i=>qu F (i:Int)) n k L r=dJ (fun i=>qu G (i:Int)) n k L r
 |0,_=>rfl
 |r+1,e=>by
  have e:n+(r+1)<=20000:=e.resolve_right (by omega);rw[dJ,dJ,pU h n k L r<|.inl<|by omega];simp only[h ((n+r:Nat):Int)<|by omega]
def uG(h:∀n:Int,n<=20000->qu F n=qu G n)(k:Lk):Yu k F=Yu k G:=by
 have b:Wr k F=Wr k G:=by
  unfold Wr;rw[h 0<|by omega,uN h]
 unfold Yu;rw[b];cases Wr k G with
 |none=>rfl
 |some p=>
  obtain⟨a,c⟩:=p;have e:Jl F a.base.toNat=Jl G a.base.toNat:=mW h _ _;simp only[e];rw[pU h];rcases mX (F:=G) (9999-a.base.toNat) a.base.toNat with x|x
  right;unfold Jl;omega;by_cases y:a.base.toNat<=9999;left;unfold Jl;omega;right;unfold Jl;omega
end
def fC{k:Lk}:∀(ns:List Int) (d:Dk),d.nx=bN->fM d.L->jX d.L->∃F',jA k ns d=(bL,{d with L:=F'})/\fM F'/\jX F'/\∀n,qu F' n=if n∈ns/\pJ k n=bK then []else qu d.L n
 |[],d,_,hg,he=>⟨d.L,rfl,hg,he,fun n=>by simp⟩
 |n::ns,d,hx,hg,he=>by
  cases h:pJ k n with
  |true=>
   obtain⟨F',f,g,i,l⟩:=fC ns d hx hg he;refine⟨F',by unfold jA;rw[aA h];exact f,g,i,fun j=>?_⟩;rw[l j];by_cases e:j∈ns/\pJ k j=bK;rw[aA e,aA ⟨by simp[e.1],e.2⟩];rw[aB e,aB];rintro⟨a,b⟩;rcases xf.1 a with rfl|a
   rw[h]at b;cases b;exact e ⟨a,b⟩
  |false=>
   obtain⟨F',f,g,i,l⟩:=fC ns {d with L:=V6 d.L n} hx (hg.del n) fun p m=>he p<|EM m;refine⟨F', ?_,g,i,fun j=>?_⟩;unfold jA;rw[aB<|by rw[h];simp,zY hx,aB<|by simp,Eg hx];exact f;rw[l j];simp only;rw[KW hg];by_cases e:j∈ns/\pJ k j=bK;rw[aA e,aA ⟨by simp[e.1],e.2⟩];rw[aB e];by_cases c:j=n;subst c;rw[aA rfl,aA ⟨by simp,h⟩];rw[aB c,aB];rintro⟨a,b⟩;exact(xf.1 a).elim c fun a=>e ⟨a,b⟩
def tK(x:Int×Zl):Prop:=x.2≠[]/\i64 x.1/\x.2.length<=1000000
def uE:∀(l:FL) (F:Ym),fM F->jX F->(∀x∈l,tK x)->(l.map (·.1)).Nodup->fM (fG F l)/\jX (fG F l)/\(∀x∈l,qu (fG F l) x.1=x.2)/\∀n,n∉l.map (·.1)->qu (fG F l) n=qu F n
 |[],F,hg,he,_,_=>⟨hg,he,fun x c=>(by cases c),fun _ _=>rfl⟩
 |x::l,F,hg,he,c,b=>by
  have⟨h1,h2,h3⟩:=c x (by simp);have e:fF F x.1 (x.2,(x.2.length:Int))=Yx F x.1 (x.2,(x.2.length:Int)):=by unfold Yx;rw[aB h1]
  have b:=Zr.1 b;obtain⟨f,g,i,d⟩:=uE l (Yx F x.1 (x.2,(x.2.length:Int))) (hg.lay _ _) (he.lay h2 ⟨by omega,by simp,h3⟩) (fun y a=>c y<|by simp[a]) b.2;have q:fG F (x::l)=fG (Yx F x.1 (x.2,(x.2.length:Int))) l:=by rw[<-e];rfl
  rw[q];refine⟨f,g,fun y a=>?_,fun n h=>?_⟩;rcases xf.1 a with rfl|a
  rw[d _ b.1,uS hg,aA rfl];exact i y a;rw[d n fun y=>h<|by simp only[xq,xf];exact .inr y,uS hg,aB fun y=>h<|by simp[y]]
def bR(F:Ym):FL:=(Xs F).map fun n=>(n,qu F n)
def Wy.le{r:Sr}{s:Jo}(I:Wy r s):(Y0 (Jp r.m [] 0 0 0) r.d.L).dK<=20000/\∀n,qu r.d.L n≠[]->0<=n/\n<=20000:=by
 obtain⟨h,w,q,i,D⟩:=I.dsk;have p:=AR r.m r.d.L;have a:0<=(Y0 (Jp r.m [] 0 0 0) r.d.L).dK/\(Y0 (Jp r.m [] 0 0 0) r.d.L).dK<=20000:=by
  rcases P9 r.m r.d.L with b|⟨f,b,c,t,v⟩;omega;have k:(Y0 (Jp r.m [] 0 0 0) r.d.L).named=((iL<|qu r.d.L 0).file:Int):=by unfold Y0;rw[aB c];rfl
  have l:=D.named;have o:=I.named;omega
 refine⟨a.2,fun n g=>?_⟩;have j:=D.ok.low;rcases D.ok.own n g with e|e|e<;>omega
def Wy.strange{r:Sr}{s:Jo}(I:Wy r s)(a:FL)(f:∀x∈a,20000<x.1/\tK x/\x.2.length<=50)(E:((bR r.d.L++a).map (·.1)).Nodup)(O:a.length<=100)(mp:Nat):
  (mE (fG []<|bR r.d.L++a)/\(fG []<|bR r.d.L++a).length<=1000/\∀n,(qu (fG []<|bR r.d.L++a) n).length<=100000)/\∃k L F2,FJ r s mp k L/\Yu (Jp r.m r.mark r.cnt ((r.op+1:Nat):Int) mp) (fG []<|bR r.d.L++a)=bO (k,L)/\Xi k {r.d with L:=fG []<|bR r.d.L++a}=(bL,k,{r.d with L:=F2})/\fM F2/\jX F2/\∀n,qu F2 n=qu r.d.L n:=by
 have X:=I.le.1;have v:∀n,qu r.d.L n≠[]->n<=20000:=fun n c=>(I.le.2 n c).2;have D:∀n,n∈(bR r.d.L).map (·.1)↔qu r.d.L n≠[]:=fun n=>by
  unfold bR;rw[uP];show n∈List.map (fun x=>x) _↔_;rw[List.map_id'',I.gd.nums];intro x;rfl
 have G:∀x∈bR r.d.L++a,tK x:=fun x o=>by
  rcases Je.1 o with h|h;obtain⟨n,c,rfl⟩:=qp.1 h;have z:=I.gd.nums.1 c;refine⟨z, ?_, ?_⟩;have:=v n z;have:n∈r.d.L.map (·.1):=LZ.1 c;obtain⟨p,H,rfl⟩:=qp.1 this;exact(I.each p H).1;have:=(I.each.dat n).2.2;exact this;exact(f x h).2.1
 obtain⟨J,K,M,N⟩:=uE (bR r.d.L++a) [] fM.nil (fun p H=>by cases H) G E;have b:∀n:Int,n<=20000->qu (fG []<|bR r.d.L++a) n=qu r.d.L n:=fun n c=>by
  by_cases h:qu r.d.L n=[];rw[N n ?_,h];· rfl
  intro w;rw[Jd,Je,D]at w;rcases w with e|e
  exact e h;obtain⟨x,o,rfl⟩:=qp.1 e;have:=(f x o).1;omega;have:=M (n,qu r.d.L n)<|List.mem_append_left _<|qp.2 ⟨n,I.gd.nums.2 h,rfl⟩;exact this
 obtain⟨k,L,R⟩:=I.reopen mp;obtain⟨F2,Y,Z,m3,m4⟩:=fC (k:=k) (Xs<|fG []<|bR r.d.L++a) {r.d with L:=fG []<|bR r.d.L++a} I.nx J K;have B:k.last<=9999:=R.rC.2;have t:∀n,pJ k n=bL->qu (fG []<|bR r.d.L++a) n=qu r.d.L n:=fun n c=>by
  by_cases h:n<=20000;exact b n h;exfalso;unfold pJ at c;simp only[Yk,xl,X9,R.dK]at c;omega
 have g:Xi k {r.d with L:=fG []<|bR r.d.L++a}=(bL,k,{r.d with L:=F2}):=by
  unfold Xi;rw[R.dD,aB<|by simp,aB<|by simp];unfold qC;show((jA k (Xs<|fG []<|bR r.d.L++a) {r.d with L:=fG []<|bR r.d.L++a}).1,k,(jA k (Xs<|fG []<|bR r.d.L++a) {r.d with L:=fG []<|bR r.d.L++a}).2)=_;rw[Y]
 have C:(fG []<|bR r.d.L++a).length<=1000:=by
  have z:∀(l:FL) (F:Ym),(fG F l).length<=F.length+l.length:=fun l=>by
   induction l with
   |nil=>intro F;exact ze _
   |cons x l ih=>intro F;have:=ih<|fF F x.1 (x.2,x.2.length);have:=TI F x.1 (x.2,(x.2.length:Int));simp only[zh];show(fG (fF F x.1 (x.2,x.2.length)) l).length<=_;omega
  have V:=z (bR r.d.L++a) [];have h3:=I.few;have h4:=I.cnt;have h5:(bR r.d.L).length=r.d.L.length:=by unfold bR;rw[Zb,yZ]
  rw[zj,jn]at V;omega
 refine⟨⟨⟨K,by omega⟩,C,fun n=>?_⟩,k,L,F2,R,(uG b _).trans R.look,g,Z,m3,fun n=>?_⟩;by_cases h:n<=20000;rw[b n h];have:=I.jD n;omega;by_cases w:n∈(bR r.d.L++a).map (·.1);obtain⟨x,o,rfl⟩:=qp.1 w;rw[M x o];rcases Je.1 o with e|e
 obtain⟨j,W,rfl⟩:=qp.1 e;exact absurd (v j<|I.gd.nums.1 W) h;have:=(f x e).2.2;omega;rw[N n w];exact Vj _;rw[m4 n];show(if n∈_/\_ then []else qu (fG []<|bR r.d.L++a) n)=_;have q:qu r.d.L n≠[]->pJ k n=bL:=fun c=>by
  obtain⟨Q,S,_,_,T⟩:=fC (k:=k) (Xs r.d.L) r.d I.nx I.gd I.each;have e:=R.mend;unfold Xi at e;rw[R.dD,aB<|by simp,aB<|by simp]at e;unfold qC at e;rw[S]at e;have e:Q=r.d.L:=congrArg (fun x=>x.2.2.L) e;have h:=T n;rw[e]at h;cases i:pJ k n with
  |true=>rfl
  |false=>rw[aA ⟨I.gd.nums.2 c,i⟩]at h;exact absurd h c
 by_cases i:pJ k n=bL;rw[aB<|by rw[i];simp];exact t n i;have U:qu r.d.L n=[]:=jr fun x=>i<|q x;rw[U];split;rfl
 rename_i x
 exact jr fun y=>x ⟨J.nums.2 y,by simpa using i⟩
def jV(l:FL):Ze:=l.flatMap fun x=>[.int .i64 x.1,.string<|st x.2]
def pR(F:Ym):sJ F (Xs F)=jV (bR F):=by
 unfold sJ jV bR;rw[List.flatMap_map]
def jN(F:Ym):(bR F).length=(Xs F).length:=Zb _
def lS:∀(l:FL) (i:Nat) (h:i<l.length),(jV l)[i*2]?=bO (zi l[i].1)/\(jV l)[i*2+1]?=bO (.string<|st l[i].2)
 |x::l,0,_=>⟨rfl,rfl⟩
 |x::l,i+1,h=>by
  have:=lS l i (by simpa using h);have e:jV (x::l)=zi x.1::zs x.2::jV l:=rfl;rw[e,show(i+1)*2=i*2+1+1 by omega,show i*2+1+1+1=(i*2+1)+1+1 by omega];simp only[Xb,List.getElem_cons_succ];exact this
def jP{w:Zy}{B:Nat}{v:Zv}{l:FL}(h:w.ownsRow B 36 2 v l.length<|jV l):FM w v l:=by
 by_cases e:l.length=0;obtain⟨a,c,rfl,_⟩:=Jh h;obtain rfl:=xa e;exact⟨a,0,c,rfl,fun x=>absurd rfl x,fun i d=>absurd d<|Wd _⟩;obtain⟨g,c,rfl,f,b⟩:=uD h (by omega);exact⟨_,g,c,rfl,fun _=>rfl,fun i d=>⟨b _ _ (lS l i d).1,b _ _ (lS l i d).2⟩⟩
def rF{w:Zy}{B:Nat}{v:Zv}{l:FL}(h:w.ownsRow B 36 2 v l.length<|jV l):∃p g cap,v= .slice p l.length cap/\(l≠[]->p=bO ⟨g,0,bN⟩/\B<=g)/\∀i (h:i<l.length),w.cell? (zq g<|i*2)=bO (zi l[i].1)/\w.cell? (zq g<|i*2+1)=bO (.string<|st l[i].2):=by
 obtain⟨p,g,cap,rfl,b,c⟩:=jP h;refine⟨p,g,cap,rfl,fun a=>⟨b a, ?_⟩,c⟩;exact Vs h g<|by rw[b a];rfl
def uC{F:Ym}(g:fM F):(Xs F).Pairwise (·<·):=by
 have d:(Xs F).Pairwise (·<=·):=(PR (le:=zM) (fun a b c d e=>by simp[zM]at*;omega) (fun a b=>by simp[zM];omega) _).imp fun h=>by simpa[zM]using h
 have e:(Xs F).Nodup:=(Xw _ _).nodup_iff.2 g.nd;exact(d.and e).imp fun h=>by omega
def eO(l:FL):Int:=(l.map fun x=>(x.2.length:Int)).sum
def holds_of(l:FL)(R:Int)(n:(l.map (·.1)).Pairwise (·<·))(j:∀x∈l,0<=x.1/\x.2≠[])(p:eO l<=R)(o:R<=1000000000):
  ∃ab rm:Nat->Int,ab 0= -1/\rm 0=R/\∀k (h:k<l.length),ab (k+1)=l[k].1/\rm (k+1)=rm k-(l[k].2.length:Int)/\ab k<l[k].1/\l[k].2≠[]/\(l[k].2.length:Int)<=rm k/\rm k<=1000000000:=by
 have d:∀l:FL,0<=eO l:=fun l=>by
  induction l with
  |nil=>exact Int.le_refl _
  |cons x l ih=>unfold eO at*;rw[xq,Vq];omega
 have c:∀a b:FL,eO (a++b)=eO a+eO b:=fun a b=>by unfold eO;rw[Jd,List.sum_append]
 refine⟨fun k=>match k with|0=>-1|k+1=>(l[k]?.map (·.1)).getD 0,fun k=>R-eO (l.take k),rfl, ?_,fun k h=>?_⟩;show R-eO []=R;unfold eO;simp;have e:l.take (k+1)=l.take k++[l[k]]:=xy h;have f:eO [l[k]]=(l[k].2.length:Int):=by unfold eO;simp
 have g:=c (l.take<|k+1)<|l.drop<|k+1;rw[PW]at g;have i:=c (l.take k) [l[k]];rw[<-e,f]at i;have q:=d<|l.drop<|k+1;have r:=d<|l.take k;have m:=j l[k]<|Zn h;refine⟨by simp[h],by show R-eO (l.take<|k+1)=R-eO (l.take k)-_;omega, ?_,m.2,by show _<=R-_;omega,by show R-_<=_;omega⟩;cases k with
 |zero=>show(-1:Int)<_;omega
 |succ k=>
  have hk:k<l.length:=by omega
  show(l[k]?.map (·.1)).getD 0<_;rw[Yh hk];have:=List.pairwise_iff_getElem.1 n k (k+1) (by simpa using hk) (by simpa using h) (by omega);simpa using this
def rD{F:Ym}(g:fM F):(bR F).Perm<|F.map fun p=>(p.1,p.2.1):=by
 have b:(bR F).Perm ((F.map (·.1)).map fun n=>(n,qu F n)):=(Xw _ _).map _;refine b.trans<|.of_eq ?_;rw[uP];refine List.map_congr_left fun p a=>?_;show(p.1,qu F p.1)=_;have:J9 F p.1=bO p.2:=by
  have h:=g.nd;clear b g;induction F with
  |nil=>cases a
  |cons q F ih=>
   obtain⟨k,v⟩:=q;have c:=Zr.1 h;unfold J9;rcases xf.1 a with rfl|a
   rw[aA rfl];rw[aB fun e=>c.1<|by rw[<-e];exact qp.2 ⟨p,a,rfl⟩];exact ih a c.2
 unfold qu;rw[this];rfl
def uL{a b:List Int}(h:a.Perm b):a.sum=b.sum:=by
 induction h with
 |nil=>rfl
 |cons x _ ih=>rw[Vq,Vq,ih]
 |swap x y l=>simp only[Vq];omega
 |trans _ _ h1 h2=>exact h1.trans h2
def uH{F:Ym}(g:fM F):eO (bR F)=J6 F:=by
 have h:=((rD g).map fun x=>(x.2.length:Int));unfold eO J6;rw[uL h,uP];rfl
def Wy.holds{r:Sr}{s:Jo}(I:Wy r s)(c:FL)(v:(c.map (·.1)).Pairwise (·<·))(e:∀x∈c,20000<x.1/\x.2≠[]/\x.2.length<=50)(j:c.length<=40):
  ((bR r.d.L++c).map (·.1)).Nodup/\∃ab rm:Nat->Int,ab 0= -1/\rm 0=r.d.room/\∀k (h:k<(bR r.d.L++c).length),ab (k+1)=(bR r.d.L++c)[k].1/\rm (k+1)=rm k-((bR r.d.L++c)[k].2.length:Int)/\ab k<(bR r.d.L++c)[k].1/\(bR r.d.L++c)[k].2≠[]/\((bR r.d.L++c)[k].2.length:Int)<=rm k/\rm k<=1000000000:=by
 have f:=I.le.2;have t:(bR r.d.L).map (·.1)=Xs r.d.L:=by unfold bR;rw[uP];exact List.map_id _
 have g:((bR r.d.L++c).map (·.1)).Pairwise (·<·):=by
  rw[Jd,t,List.pairwise_append];refine⟨uC I.gd,v,fun a p b q=>?_⟩;obtain⟨x,i,rfl⟩:=qp.1 q;have:=(e x i).1;have:=(f a<|I.gd.nums.1 p).2;omega
 refine⟨g.imp fun h=>by omega,holds_of _ _ g (fun x i=>?_) ?_<|by rw[I.room];omega⟩;rcases Je.1 i with h|h
 obtain⟨n,m,rfl⟩:=qp.1 h;exact⟨(f n<|I.gd.nums.1 m).1,I.gd.nums.1 m⟩;exact⟨by have:=(e x h).1;omega,(e x h).2.1⟩;have z:=uH I.gd;have B:=I.fus;have C:=I.cnt;have o:∀l:FL,(∀x∈l,x.2.length<=50)->eO l<=50*l.length:=fun l=>by
  induction l with
  |nil=>intro _;exact Int.le_refl _
  |cons x l ih=>intro h;have:=ih fun y w=>h y (by simp[w]);have:=h x (by simp);unfold eO at*;rw[xq,Vq,zh];omega
 have D:=o c fun x i=>(e x i).2.2;have E:eO (bR r.d.L++c)=eO (bR r.d.L)+eO c:=by unfold eO;rw[Jd,List.sum_append]
 rw[I.room];omega
def uB{F G:Ym}(f:fM F)(g:fM G)(h:∀n,qu F n=qu G n):Xs F=Xs G/\bR F=bR G:=by
 have e:Xs F=Xs G:=Dt ((List.perm_ext_iff_of_nodup f.nd g.nd).2 fun n=>by rw[<-LZ,<-LZ,f.nums,g.nums,h]);refine⟨e, ?_⟩;unfold bR;rw[e];exact List.map_congr_left fun n _=>by rw[h]
end P
namespace P
open Go.RowKit A
variable [pn:A.Pn]
def tO{cv tv:Zv}{B:Nat}{r:Sr}{s:Jo}{w:Zy}(I:Wy r s)(g:r.sn=bN)(a:FL)(l:∀x∈a,20000<x.1/\tK x/\x.2.length<=50)(q:((bR r.d.L++a).map (·.1)).Nodup)(b:a.length<=100)
  (h:Jq w B {r with d:={r.d with L:=fG []<|bR r.d.L++a}})(hop:r.op<999)(D:iA cv tv w)(f:∀x,r.own B x->2<x):
  CC bM 16 #[zo B] w fun e w'=>e= .returned (zi 0)/\∃mp kk L SS F2,FJ r s mp kk L/\fM F2/\jX F2/\(∀n,qu F2 n=qu r.d.L n)/\jt B {r with d:={r.d with L:=fG []<|bR r.d.L++a}} w {Wp r kk SS L with d:={r.d with L:=F2}} w':=by
 have k:=fun mp=>I.strange a l q b mp;obtain⟨F,G,v⟩:=(k 0).1;refine(G_ (cv:=cv) (tv:=tv) h g hop ⟨I.m,I.mark,by have:=I.cnt;show r.cnt<_;omega,by show r.op<_;omega,by have:=I.room;show 0<=r.d.room/\r.d.room<=_;omega,F,by show(fG []<|bR r.d.L++a).length<_;omega,fun c e=>(by have e:r.d.nx=bO c:=e;rw[I.nx]at e;cases e),f,fun K e=>(by have e:r.sn=bO K:=e;rw[g]at e;cases e)⟩ D v fun mp=>?_).mono fun e w' ⟨E,mp,kk,L,SS,p,t⟩=>?_;obtain⟨_,kk,L,F2,R,i,j,_⟩:=k mp;have v:=R.rC;exact⟨kk,L,i,by rw[j],(fun H=>absurd (R.dD.symm.trans H)<|by simp),by omega,by omega⟩;obtain⟨_,J,M,F2,R,i,j,y,z,C⟩:=k mp;have o:=p.symm.trans i;cases o;refine⟨E,mp,kk,L,SS,F2,R,y,z,C, ?_⟩;have e:Wp {r with d:={r.d with L:=fG []<|bR r.d.L++a}} kk SS L={Wp r kk SS L with d:={r.d with L:=F2}}:=by
  unfold Wp;rw[show({r with d:={r.d with L:=fG []<|bR r.d.L++a}}:Sr).d={r.d with L:=fG []<|bR r.d.L++a}from rfl,j,R.mend]
 rw[<-e];exact t
end P
namespace P
open A.Tryq Go.RowKit A
variable [pn:A.Pn]
attribute [local go_sem] xe zv
noncomputable def mN:=Qa<|Qf Tryz.f4.body
noncomputable def lL:=Qa<|Qb<|Qf Tryz.f4.body
noncomputable def mS:=Qa<|Qb<|Qb<|Qf Tryz.f4.body
noncomputable def nB:=Qa<|Qn 3<|Qf Tryz.f4.body
noncomputable def lO:=Qa<|Qn 4<|Qf Tryz.f4.body
noncomputable def nF:=Qa<|Qn 5<|Qf Tryz.f4.body
noncomputable def oA:=Qa<|Qn 6<|Qf Tryz.f4.body
noncomputable def oB:=Qa<|Qn 7<|Qf Tryz.f4.body
noncomputable def oE:=Qa<|Qn 8<|Qf Tryz.f4.body
noncomputable def oR:=Qa<|Qn 9<|Qf Tryz.f4.body
noncomputable def oS:=Qa<|Qn 10<|Qf Tryz.f4.body
noncomputable def oT:=Qa<|Qn 11<|Qf Tryz.f4.body
noncomputable def lP:=Qa<|Qn 12<|Qf Tryz.f4.body
noncomputable def oY:=Qa<|Qn 13<|Qf Tryz.f4.body
noncomputable def pA:=Qa<|Qn 14<|Qf Tryz.f4.body
noncomputable def pB:=Qa<|Qn 15<|Qf Tryz.f4.body
noncomputable def y4:=Qn 16<|Qf Tryz.f4.body
def FQ:Tryz.f4.body=bO (.seq mN<|.seq lL<|.seq mS<|.seq nB<|.seq lO<|.seq nF<|.seq oA<|.seq oB<|.seq oE<|.seq oR<|.seq oS<|.seq oT<|.seq lP<|.seq oY<|.seq pA<|.seq pB y4):=by kernel_rfl
noncomputable def c4:=Qf Tryz.f4.body
theorem xV:Tryz.f4.body=bO c4:=by kernel_rfl
theorem nmc4:¬Mc bM 4:=xO (by decide) (by decide) Tryz.func4
def vN:gZ:=⟨.slice bN 0 0,.slice bN 0 0,[],[],0,0,0⟩
def Mz(w:Zy):W6 (w.alloc<|.cells vN.cells 28) w.heap.size vN:=⟨xx.new _ _ _,⟨bN,0,0,rfl,ze _,fun h=>absurd rfl h⟩,⟨bN,0,0,rfl,ze _,fun h=>absurd rfl h⟩⟩
def Bn:fD []=[]:=xa<|KZ []
def MF(w:Zy)(e:Ending)(w':Zy):Prop:=e= .returned (.bool bL)/\Nw w w'
def m_{w w':Zy}{e:Ending}{t:Nat->Question->Nat}{d:Nat}:MF w e (re w' t d)↔MF w e w':=⟨fun h=>⟨h.1,xb.re h.2⟩,fun h=>⟨h.1,Nw.gL h.2 t d⟩⟩
def IL(w:Zy)(v:Zv)(ns:List Int):Prop:=∃a cap,v= .slice a ns.length cap/\∀i (h:i<ns.length),i64 ns[i]/\∃g off,a=bO ⟨g,off,bN⟩/\w.cell? (zq g<|off+i)=bO (zi ns[i])
theorem oJ{cv tv:Zv}(ms:Zl)(sg:Int)(fb:-9223372036854775808<=sg/\sg<=9223372036854775807)(v nv:Zv)(Dd:List Ac)(ns:List Int){w:Zy}(hG:iA cv tv w)(dt:AL w.heap.size w v Dd)(d0:IL w nv ns):
  Xn bM 4 c4 (nJ bM funcs Tryz.f4<|MF w) ⟨#[zs ms,zi sg,v,nv]++Array.replicate (Tryz.f4.ntmps-#[zs ms,zi sg,v,nv].size) undef,[]⟩ w:=by
 have hQ:kT<|nJ bM funcs Tryz.f4<|MF w:=AO fun e w' t d=>m_;rw[jf<|xV.symm.trans FQ];rw[show Tryz.f4.ntmps=135 from rfl];generalize hPX:nJ bM funcs Tryz.f4 (MF w)=PX at hQ;have K:=zl hQ;have en:=zl hPX;have HG:=zl hG;have ei:=zl dt;have ek:=zl d0;have d9:=hG.pos;clear hQ hPX hG dt d0;simp only[jg,zh,jn,Nat.reduceAdd,Nat.reduceSub,qw,qx,Z7,Zi,jk,jc];refine gG nmc4 K.o fun w1 fs bp bx dr=>?_;have N1:=zl<|ji bp;clear dr
 conv=>arg 2;whnf
 go_wp2_with fail
 refine bx.o _ _ ?_;clear bx;have eb:=Ln (cv:=cv) (tv:=tv) ms sg fb (w:=w1)<|HG.o.but (S:=fun _=>False) N1.o fun _ x=>x.elim;refine Xn.seq bQ nmc4 trivial ?_
 conv=>arg 3;whnf
 refine Xn.dB bQ nmc4 ?_;refine mZ (val:=zs ms) nmc4 ⟨rfl,rfl⟩ ?_;refine mZ (val:=zi sg) nmc4 ⟨rfl,rfl⟩ ?_;refine Jc.call (f:=9) (args:=#[zs ms,zi sg,zi 999]) bQ nmc4 rfl rfl (fun v=>by show(bG _ _).run prog _=_;simp[bG,go_sem,resolve,Act.put]) (bZ rfl Tryz.func9 rfl) eb ?_ ?_;rotate_left;rintro ch wx ⟨B,r0,s0,he,_⟩;cases he;rintro vv w2 ⟨B,r0,s0,he,hS,d3⟩;cases he;refine mZ (val:=zo B) nmc4 ⟨rfl,rfl⟩ ?_;refine Jc.nil bQ nmc4 ?_;refine(show Xn bM 4 _ PX _ w2 from ?_);simp only[Act.put,xv,Zz,Z9];have S2:=zl hS;have N2:Hid<|Nw w w2:=N1.o.trans d3;have HZ:=zl<|Ug bp;clear hS d3 eb;refine gG nmc4 K.o fun w3 ft df bz ds=>?_;have N3:=zl<|ji df;clear ds
 conv=>arg 2;whnf
 go_wp2_with fail
 refine bz.o _ _ ?_;clear bz;refine gG nmc4 K.o fun w4 fu e5 dg e7=>?_;have N4:Hid<|Nw w2 w4:=N3.o.trans<|ji e5;clear e7;have P4:Hid<|Pl cv tv w.heap.size B w4.heap.size r0 s0 vN<|w4.alloc<|.cells vN.cells 28:=by
  have T:=S2.o;have hn:Nw w<|w4.alloc<|.cells vN.cells 28:=(N2.o.trans N4.o).trans<|Nw.alloc _ _;have d5:s0.now=[]:=by unfold Jo.now;rw[T.L,T.P];rfl
  refine⟨T.st.nw<|N4.o.trans<|Nw.alloc _ _,Mz w4,T.sn,T.inv,⟨by rw[d5,Bn];rfl,by rw[T.L,Bn];rfl,by rw[T.P];rfl,by rw[T.ep];rfl,by rw[T.cnt];rfl⟩,fun x D=>by have:=T.own x D;have:=HZ.o;omega,d9,(N2.o.trans N4.o).size,HG.o.but (S:=fun _=>False) hn fun _ x=>x.elim⟩
 have D4:Hid<|Pd cv tv w.heap.size B w4.heap.size v Dd (w4.alloc<|.cells vN.cells 28) 0<|w4.alloc<|.cells vN.cells 28:=⟨⟨r0,s0,vN,P4.o,by rw[S2.o.cnt];omega,by rw[S2.o.op];omega,by rw[S2.o.bP];exact Int.le_refl _⟩,xb.refl _ _,Vj _,Vj _,ei.o.but<|((N2.o.trans N4.o).trans<|Nw.alloc _ _).mono fun _ x=>x.elim⟩;have N5:Hid<|Nw w<|w4.alloc<|.cells vN.cells 28:=(N2.o.trans N4.o).trans<|Nw.alloc _ _;have Q:vN.cells=#[.slice bN 0 0,.slice bN 0 0,zi 0,zi 0,zi 0]:=rfl;rw[Q]at P4 D4 N5;clear Q
 conv=>arg 2;whnf
 go_wp2_with fail
 refine dg.o _ _ ?_;clear dg;generalize w4.alloc (.cells #[.slice bN 0 0,.slice bN 0 0,zi 0,zi 0,zi 0] 28)=w5 at*;generalize w4.heap.size=b at*;have d8:=LL D4.o;refine Xn.seq bQ nmc4 trivial ?_
 conv=>arg 3;whnf
 refine Xn.dB bQ nmc4 ?_;refine mZ (val:=zo b) nmc4 ⟨rfl,rfl⟩ ?_;refine mZ (val:=zo B) nmc4 ⟨rfl,rfl⟩ ?_;refine mZ (val:=v) nmc4 ⟨rfl,rfl⟩ ?_;refine Jc.call (f:=10) (args:=#[zo b,zo B,v]) bQ nmc4 rfl rfl (fun v=>by show(bG _ _).run prog _=_;simp[bG,go_sem,resolve,Act.put]) (bZ rfl Tryz.func10 rfl) d8 ?_ ?_;rotate_left;rintro ch wx ⟨he,_⟩;cases he;rintro vv w6 ⟨he,H,r,s,k,hp,f0,f3,f8⟩;cases he;refine mZ (val:= .bool bL) nmc4 ⟨rfl,rfl⟩ ?_;refine Jc.nil bQ nmc4 ?_;refine(show Xn bM 4 _ PX _ w6 from ?_);simp only[Act.put,xv,Zz,Z9];have P6:=zl hp;have N6:Hid<|Nw w w6:=by
  have n5:=N5.o;exact⟨H.os.trans n5.os,H.output.trans n5.output,xz n5.size H.size,fun i hi _=>(H.block i (zn hi n5.size)<|by show¬w.heap.size<=i;omega).trans<|n5.block i hi id⟩
 clear hp H d8;refine gG nmc4 K.o fun w7 fv de dh e8=>?_;have P7:=zl<|P6.o.nw<|ji de;have N7:Hid<|Nw w w7:=N6.o.trans<|ji de;clear e8
 conv=>arg 2;whnf
 go_wp2_with fail
 refine(x_ B r _ P7.o.st).mono ?_;rintro e w8 ⟨rfl,bj⟩;rw[show(if r.sn.isSome then(0:Int)else 5)=0 by rw[P7.o.sn];rfl];have T8:=zl bj.at_;have K8:=zl<|jt.fI P7.o.st bj P7.o.bk;have N8:=zl<|jt.zP N7.o bj P7.o.own;have O8:Hid<|∀x,r.shut.own B x->w.heap.size<=x:=fun x D=>P7.o.own x<|Wy.fP D;have I8:=zl P7.o.inv;have B8:=zl P7.o.fI;clear bj
 go_wp2_with fail
 refine dh.o _ _ ?_;clear dh;refine gG nmc4 K.o fun w9 fw e6 bb e9=>?_;have N9:Hid<|Nw w8 w9:=ji e6;clear e9
 conv=>arg 2;whnf
 go_wp2_with fail
 refine(kU B r.shut _ (T8.o.nw N9.o) I8.o.U9).mono ?_;rintro e l ⟨ov,rfl,ho,hn⟩;rw[show r.shut.d=r.d from rfl,pR,<-jN]at ho;have FO:=zl<|rF ho;have b7:Hid<|Nw w8 l:=N9.o.trans hn;have cm:Hid<|(bR r.d.L).length<=40:=by show _<=_;rw[jN,yZ];have:=I8.o.few;omega
 obtain⟨eg,hi,ed,ee,ef⟩:=info110;by_cases J:(bR r.d.L).length=0
 focus
  obtain⟨oa,oc,rfl,cb⟩:=Jh ho;have OL:=zl<|xa J;rw[J];clear ho hn
  go_wp2_with fail
  refine bb.o _ _ ?_;clear bb;refine gG nmc4 K.o fun o cy O F bc=>?_;have cp:Hid<|Nw l<|o.alloc<|.cells #[] 36:=(ji O).trans<|xb.alloc _;have cw:Hid<|(o.alloc<|.cells #[] 36).ownsRow l.heap.size 36 2 (.slice (bO ⟨o.heap.size,0,bN⟩) 0 0) (bR r.d.L).length<|jV<|bR r.d.L:=by
   show World.ownsRow _ _ _ _ _ _ _;rw[OL.o];refine⟨by simp[jV],.inr ⟨o.heap.size,0,#[],rfl,(ji O).size,xx.new _ _ _,by simp,by simp,by simp,by simp[jV]⟩⟩
  clear bc
  conv=>arg 2;whnf
  have hv:Value.slice oa 0 oc= .slice oa (bR r.d.L).length oc:=by rw[J]
  have HV:=zl hv;clear hv;cases oa
  all_goals
   go_wp2_with fail
   refine F.o _ _ ?_;rw[HV.o];generalize Value.slice _ (bR r.d.L).length oc=OV at*;generalize o.alloc (.cells #[] 36)=bl at*;generalize Value.slice (bO ⟨o.heap.size,0,bN⟩) 0 0=V14 at*;clear F cb OL HV J
 rotate_left 2
 focus
  obtain⟨g,oc,rfl,cb,be⟩:=uD ho (by omega);have HC:=zl be;have cl:=zl ho.1;clear ho hn
  go_wp2_with fail
  refine bb.o _ _ ?_;clear bb;refine gG nmc4 K.o fun o cy O F bc=>?_;have M:Hid<|Nw l o:=ji O;clear bc be
  conv=>arg 2;whnf
  have fa:=cm.o
  go_wp2_with (refine wpList_append_lies _ rfl _ _ 33 rfl l.heap.size 36 eg (.agg #[zi 0,.string ⟨#[]⟩]) 2 24 under52 hi ed ee ef rfl (by decide) (.slice (bO ⟨o.heap.size,0,bN⟩) 0 0) 0 [] rfl ?own (zq g 0) (bR r.d.L).length oc (jV<|bR r.d.L) rfl ?ln ?nw ?o1 (by omega) ?m1 ?m2 ?m3 (o.heap.size+1) ?m4 ?_)
  case own=>exact⟨by simp,.inr ⟨o.heap.size,0,#[],rfl,M.o.size,xx.new _ _ _,by simp,by simp,by simp,by simp⟩⟩
  case ln=>exact cl.o
  case nw=>
   intro j z J;have:=(M.o.trans<|xb.alloc<|.cells #[] 36).cell id<|HC.o j z J;cases j<;>simpa[Addr.add]using this
  case o1=>
   intro u hu;unfold jV at hu;obtain⟨x,_,D⟩:=List.mem_flatMap.1 hu;simp only[xf,Vy,or_false]at D;rcases D with rfl|rfl<;>rfl
  case m1=>unfold maxLen;omega
  case m2=>omega
  case m3=>have:=M.o.size;simp;omega
  try case m4=>simp
  intro g3 N bl m G bd bf;have cw:Hid<|bl.ownsRow l.heap.size 36 2 (.slice (bO ⟨g3,0,bN⟩) (bR r.d.L).length N) (bR r.d.L).length<|jV<|bR r.d.L:=by
   show World.ownsRow _ _ _ _ _ _ _;simpa using m
  have cp:Hid<|Nw l bl:=(M.o.trans<|xb.alloc<|.cells #[] 36).dH ((zr _ _).grown G (by have:=M.o.size;simp;omega) fun q hq=>by simp[Value.ownBlock]at hq;have:=M.o.size;omega);clear m G bd bf
  go_wp2_with fail
  refine F.o _ _ ?_;generalize Value.slice (bO ⟨g,0,bN⟩) (bR r.d.L).length oc=OV at*;generalize Value.slice (bO ⟨g3,0,bN⟩) (bR r.d.L).length N=V14 at*;clear F cb HC cl fa M J
 all_goals
  refine gG nmc4 K.o fun fd fk bo bq dj=>?_;have cq:Hid<|Nw bl fd:=ji bo;clear dj
  conv=>arg 2;whnf
  go_wp2_with fail
  refine bq.o _ _ ?_;clear bq;refine gG nmc4 K.o fun eh fl ba br dk=>?_;have et:Hid<|Nw l eh:=cp.o.trans<|cq.o.trans<|ji ba;have e1:Hid<|eh.ownsRow l.heap.size 36 2 V14 (bR r.d.L).length<|jV<|bR r.d.L:=yU cw.o (cq.o.trans<|ji ba) fun _ _=>id;clear dk bo ba
  conv=>arg 2;whnf
  go_wp2_with fail
  obtain⟨na,nc,rfl,d1⟩:=ek.o;have el:=zl d1;clear d1
  go_loopw [14,15,16] (fun s a i wr=>∃(c:FL) (A:Int),c.length<=ns.length/\i=zi c.length/\a=zi A/\20000<=A/\A<=20000+1000*c.length/\(c.map (·.1)).Pairwise (·<·)/\(∀x∈c,20000<x.1/\x.1<=A/\x.2≠[]/\x.2.length<=50)/\(bR r.d.L).length+c.length<=40/\wr.ownsRow l.heap.size 36 2 s ((bR r.d.L).length+c.length) (jV<|bR r.d.L++c)/\Nw l wr) (fun _ _ i _=>(ns.length-intOf i).toNat)
  case atStart=>exact⟨[],20000,Vj _,rfl,rfl,by omega,by simp,List.Pairwise.nil,fun x D=>(by cases D),cm.o,by simpa using e1.o,et.o⟩
  case round=>
   obtain⟨c,A,f2,rfl,rfl,fy,fz,ea,dx,fx,bg,d6⟩:=hrel;obtain⟨sa,sc,rfl,f7⟩:=Jh bg;have HW:=zl d6;have HO:=zl bg;have cn:=zl ea;have X:=zl dx;clear bg d6 ea dx;have NW:Hid<|Nw w wr:=N8.o.trans<|b7.o.trans HW.o;by_cases dz:c.length<ns.length/\(bR r.d.L).length+c.length<40
   focus
    obtain⟨c1,c2⟩:=dz;have i1:(c.length:Int)<(ns.length:Nat):=by omega
    have i2:(((bR r.d.L).length+c.length:Nat):Int)<40:=by omega
    have i0:(0:Int)<=(c.length:Int):=by omega
    obtain⟨hq,g5,ga,rfl,dv⟩:=el.o c.length c1;have c5:=NW.o.cell id dv;clear dv;generalize ns[c.length]=q at*
    go_wp2_with fail
    refine(VZ q 1000 (by omega) (by omega) hq.1 hq.2 _).mono ?_;rintro e wr ⟨⟨p1,f5,rfl⟩,rfl⟩
    go_wp2_with fail
    refine(VZ q 50 (by omega) (by omega) hq.1 hq.2 _).mono ?_;rintro e wr ⟨⟨p2,f6,rfl⟩,rfl⟩
    go_wp2_with fail
    refine(Dr [] (1+p2) (by omega) (1+(p2:Int)) (by omega) _).mono ?_;rintro e bm ⟨rfl,b2⟩;have b8:Hid<|Nw wr bm:=xb.of_below b2;have ec:(wM []<|1+p2).length=1+p2:=by simp[wM]
    have cx:=zl<|yU HO.o b8.o fun _ _=>id;have fj:=b8.o.size;have NS:=HW.o.size;clear b2 c5;generalize wM [] (1+p2)=x at*;obtain⟨V,e4⟩:∃V,A+1+(p1:Int)=V:=⟨_,rfl⟩;rw[e4]
    go_wp2_with (refine wpList_append_lies _ rfl _ _ 33 rfl l.heap.size 36 eg (.agg #[zi 0,.string ⟨#[]⟩]) 2 24 under52 hi ed ee ef rfl (by decide) (.slice sa ((bR r.d.L).length+c.length) sc) ((bR r.d.L).length+c.length) (jV<|bR r.d.L++c) rfl ?own (zq bm.heap.size 0) 1 1 [zi V,zs x] rfl rfl ?nw ?o1 (by decide) ?m1 ?m2 ?m3 (bm.heap.size+1) ?m4 ?_)
    case own=>exact cx.o.alloc _
    case m1=>unfold maxLen;omega
    case m2=>omega
    case m3=>simp;omega
    try case m4=>simp
    case o1=>intro z J;simp at J;rcases J with rfl|rfl<;>rfl
    try case nw=>
     intro j z J;cases j with
     |zero=>simp at J;subst J;simp[go_sem,Addr.add]
     |succ j=>cases j with
      |zero=>simp at J;subst J;simp[go_sem,Addr.add]
      |succ j=>simp at J
    intro g3 N w16 m G bd bf;have cg:Below l.heap.size (bm.alloc<|.cells #[zi V,zs x] 36) w16:=(zr _ _).grown G (by simp;omega)<|Vs cx.o;have eu:Hid<|Nw l w16:=(HW.o.trans<|b8.o.trans<|xb.alloc _).dH cg;have e2:Hid<|w16.ownsRow l.heap.size 36 2 (.slice (bO ⟨g3,0,bN⟩) ((bR r.d.L).length+c.length+1) N) ((bR r.d.L).length+(c++[(V,x)]).length)<|jV<|bR r.d.L++(c++[(V,x)]):=by
     show World.ownsRow _ _ _ _ _ _ _;have:jV (bR r.d.L++(c++[(V,x)]))=jV (bR r.d.L++c)++[zi V,zs x]:=by unfold jV;simp
     rw[this];simpa[Ja]using m
    clear m G bd bf cg
    go_wp2_with fail
    exact⟨⟨c++[(V,x)],V,by rw[zj];show c.length+1<=_;omega,by simp,rfl,by omega,by simp;omega,by
     rw[Jd,List.pairwise_append];refine⟨cn.o,List.pairwise_singleton _ _,fun a ha b hb=>?_⟩;obtain⟨y,hy,rfl⟩:=qp.1 ha;have:=(X.o y hy).2.1;simp at hb;omega,fun y hy=>by
     rcases Je.1 hy with h|h;have:=X.o y h;exact⟨this.1,by omega,this.2.2⟩;simp at h;subst h;exact⟨by show 20000<V;omega,Int.le_refl _,fun e=>by simp only at e;rw[e]at ec;simp at ec;omega,by show x.length<=50;omega⟩,by simp;omega,e2.o,eu.o⟩,by simp[intOf];omega⟩
   have ck:Hid<|c.length<=40:=by show _<=_;omega
   by_cases c1:c.length<ns.length
   focus
    have i1:(c.length:Int)<(ns.length:Nat):=by omega
    have i2:¬(((bR r.d.L).length+c.length:Nat):Int)<40:=by omega
    go_wp2_with fail
    refine br.o _ _ ?_
   rotate_left
   focus
    have i1:¬(c.length:Int)<(ns.length:Nat):=by omega
    go_wp2_with fail
    refine br.o _ _ ?_
   all_goals
    have NL:Hid<|(bR r.d.L++c).length=(bR r.d.L).length+c.length:=zj;obtain⟨d4,ab,rm,T,h1,hs⟩:=I8.o.holds c cn.o (fun x D=>⟨(X.o x D).1,(X.o x D).2.2⟩) ck.o;have em:=zl d4;have cj:Hid<|∀x∈c,20000<x.1/\tK x/\x.2.length<=50:=fun x D=>by
     have:=X.o x D;exact⟨this.1,⟨this.2.2.1,by unfold i64;omega,by omega⟩,this.2.2.2⟩
    refine gG nmc4 K.o fun ce fm c8 bs dl=>?_;have Y:Hid<|Nw wr ce:=ji c8;have c3:=zl<|T8.o.nw<|b7.o.trans<|HW.o.trans Y.o;have CL:=zl (tT B r.shut (.slice sa ((bR r.d.L).length+c.length) sc) (bR r.d.L++c) ab rm T h1 (by show r.d.room<=_;rw[I8.o.room];omega) hs (by rw[NL.o];omega) ce c3.o rfl<|jP (B:=l.heap.size)<|by rw[NL.o];exact yU HO.o Y.o fun _ _=>id);have es:Hid<|W6 ce b k:=by have n:=b7.o.trans<|HW.o.trans Y.o;exact⟨K8.o.blk.nw n,K8.o.kept.but n fun _ _ _=>id,K8.o.seen.but n fun _ _ _=>id⟩
    clear dl T h1 hs d4 dz
    conv=>arg 2;whnf
    go_wp2_with fail
    refine CL.o.mono ?_;rintro e fe ⟨rfl,C⟩;have b9:=zl C;have cr:=zl<|jt.zP ((NW.o).trans Y.o) C O8.o;have b5:=zl<|jt.fI c3.o C es.o;clear C CL
    go_wp2_with fail
    refine bs.o _ _ ?_;clear bs;refine gG nmc4 K.o fun cf fn c9 bt dm=>?_;have E:Hid<|Nw fe cf:=ji c9;have fc:¬(40:Int)<(((bR r.d.L).length+c.length:Nat):Int):=by omega
    clear dm
    conv=>arg 2;whnf
    go_wp2_with fail
    refine bt.o _ _ ?_;clear bt fc;have b4:=tO (cv:=cv) (tv:=tv) (w:=cf) (I8.o.tV bN) rfl c cj.o em.o (by have:=ck.o;omega) (b9.o.at_.nw E.o) (by show r.op<999;omega) (HG.o.but (S:=fun _=>False) (cr.o.trans E.o) fun _ x=>x.elim) (fun x D=>by have:=O8.o x D;omega);refine Xn.seq bQ nmc4 trivial ?_
    conv=>arg 3;whnf
    refine Xn.dB bQ nmc4 ?_;refine mZ (val:=zo B) nmc4 ⟨rfl,rfl⟩ ?_;refine Jc.call (f:=16) (args:=#[zo B]) bQ nmc4 rfl rfl (fun v=>by show(bG _ _).run prog _=_;simp[bG,go_sem,resolve,Act.put]) (bZ rfl Tryz.func16 rfl) b4 ?_ ?_;rotate_left;rintro ch wx ⟨he,_⟩;cases he;rintro vv bh ⟨he,mp,kk,L,SS,F2,R,dy,dw,du,C⟩;cases he;refine mZ (val:=zi 0) nmc4 ⟨rfl,rfl⟩ ?_;refine Jc.nil bQ nmc4 ?_;refine(show Xn bM 4 _ PX _ bh from ?_);simp only[Act.put,xv,Zz,Z9];have c6:=zl C.at_;have c7:Hid<|xb (r.shut.own B) cf bh:=C.but;have ev:=zl<|jt.zP (cr.o.trans E.o) C O8.o;have b6:=zl<|jt.fI (b9.o.at_.nw E.o) C ⟨b5.o.blk.nw E.o,b5.o.kept.but E.o fun _ _ _=>id,b5.o.seen.but E.o fun _ _ _=>id⟩;have FE:=zl<|uB dy I8.o.gd du;have FK:Hid<|mE F2:=⟨dw,by rw[<-yZ,FE.o.1,yZ];have:=I8.o.few;omega⟩;have bi:=zl (R.inv SS<|by show r.op<999;omega);have cz:Hid<|(Wp r.shut kk SS L).sn=bO (V4 SS kk L):=ZZ R;have ci:Hid<|k.kept=fD (V4 SS kk L).now:=by
     show _=_;have h1:(V4 SS kk L).now=L:=rfl;rw[h1,VK R.same];exact B8.o.kept
    clear R C b4 dy dw du;refine gG nmc4 K.o fun ff fo da bu dn=>?_;have cs:Hid<|Nw bh ff:=ji da;clear dn
    conv=>arg 2;whnf
    go_wp2_with fail
    refine(kU B _ _ (c6.o.nw cs.o) FK.o).mono ?_;rintro e I ⟨iv,rfl,ho,hn⟩;have ct:Hid<|Nw bh I:=cs.o.trans hn;have FI:Hid<|FM I iv<|bR r.d.L:=by
     have:(sJ F2<|Xs F2)=jV (bR r.d.L):=by rw[pR,FE.o.2]
     rw[show({Wp r.shut kk SS L with d:={r.shut.d with L:=F2}}:Sr).d.L=F2 from rfl,this,FE.o.1,<-jN]at ho;exact jP ho
    clear ho hn;obtain⟨ip,ig,f9,rfl,d2,ca⟩:=FI.o;obtain⟨qp,qg,qc,rfl,cd,cc⟩:=FO.o;have HI:=zl d2;have er:=zl cd;have ej:Hid<|∀W,Nw I W->∀i (h:i<(bR r.d.L).length),W.cell? (zq ig<|i*2)=bO (zi (bR r.d.L)[i].1)/\W.cell? (zq ig<|i*2+1)=bO (.string<|st (bR r.d.L)[i].2):=fun W n i h=>⟨n.cell id (ca i h).1,n.cell id (ca i h).2⟩;have eo:Hid<|∀W,Nw I W->∀i (h:i<(bR r.d.L).length),W.cell? (zq qg<|i*2)=bO (zi (bR r.d.L)[i].1)/\W.cell? (zq qg<|i*2+1)=bO (.string<|st (bR r.d.L)[i].2):=fun W n i h=>by
     have f1:=(cd fun e=>by rw[e]at h;cases h).2;have d7:∀x,r.shut.own B x->x<w8.heap.size:=fun x D=>Sr.bX T8.o D;have bb:=N9.o.size;have b1:xb (r.shut.own B) l W:=((((HW.o.trans Y.o).mono fun _ x=>x.elim).trans b9.o.but).trans<|(E.o.mono fun _ x=>x.elim).trans c7.o).trans<|(ct.o.trans n).mono fun _ x=>x.elim;exact⟨b1.cell (fun D=>by have:=d7 qg D;omega) (cc i h).1,b1.cell (fun D=>by have:=d7 qg D;omega) (cc i h).2⟩
    clear d2 ca cd cc
    go_wp2_with fail
    refine bu.o _ _ ?_;clear bu;refine gG nmc4 K.o fun fg fp db bv dp=>?_;have ew:Hid<|Nw I fg:=ji db;clear dp
    conv=>arg 2;whnf
    go_wp2_with fail
    refine bv.o _ _ ?_;clear bv;refine gG nmc4 K.o fun fh fq dc bw dq=>?_;have ey:Hid<|Nw I fh:=ew.o.trans<|ji dc;clear dq
    conv=>arg 2;whnf
    go_wp2_with fail
    go_loopw [20,21] (fun s i wr=>∃j:Nat,j<=(bR r.d.L).length/\s= .bool bL/\i=zi j/\Nw I wr) (fun _ i _=>((bR r.d.L).length-intOf i).toNat)
    case atStart=>exact⟨0,Vj _,by simp,rfl,ey.o⟩
    case round=>
     obtain⟨j,hj,rfl,rfl,hn⟩:=hrel;have HN:=zl hn;clear hn;by_cases U:j<(bR r.d.L).length
     ·have i1:(j:Int)<((bR r.d.L).length:Nat):=by omega
      have i0:(0:Int)<=(j:Int):=by omega
      obtain rfl:=HI.o (fun e=>by rw[e]at U;cases U);obtain rfl:=(er.o fun e=>by rw[e]at U;cases U).1;obtain⟨a0,a1⟩:=ej.o _ HN.o j U;obtain⟨b0,b1⟩:=eo.o _ HN.o j U;generalize(bR r.d.L)[j].1=n at*;generalize(bR r.d.L)[j].2=x at*
      go_wp2_with fail
      go_quiet (fail)
      have ez:Hid<|Nw I<|wr.drewN nq:=HN.o.trans (xb.refl _ _).drewN';clear a0 a1 b0 b1
      go_wp2_with fail
      go_roundw
      case rel=>exact⟨j+1,by omega,rfl,by go_num,ez.o⟩
      case measure=>simp[intOf];omega
     have i1:¬(j:Int)<((bR r.d.L).length:Nat):=by omega
     go_wp2_with fail
     refine bw.o _ _ ?_;clear bw;refine mY nmc4 K.o fun bn fr dd di=>?_;have Z:Hid<|Nw bh bn:=ct.o.trans<|HN.o.trans<|ji dd;have e3:=zl<|c6.o.nw Z.o;have co:Hid<|W6 bn b k:=⟨b6.o.blk.nw Z.o,b6.o.kept.but Z.o fun _ _ _=>id,b6.o.seen.but Z.o fun _ _ _=>id⟩;have cu:Hid<|Nw w bn:=ev.o.trans Z.o;have c0:bn.cell? (zq b 0)=bO k.kv:=co.o.blk.cell 0 rfl
     conv=>arg 2;whnf
     go_wp2_with fail
     refine(Pp B _ (V4 SS kk L) k.kept k.kv _ e3.o cz.o bi.o.P20 (fun p hp=>by have:=(TF bi.o p hp).2.1;omega) (by have:=EP bi.o;omega) co.o.kept (by rw[ci.o];exact(KN _).symm)<|by rw[ci.o];exact fun i h=>(show(Wp r.shut kk SS L).gets _=_ from D8 bi.o cz.o i h)).mono ?_;rintro e fi ⟨rfl,b3⟩;have e0:Hid<|Nw w fi:=cu.o.trans b3;clear b3
     go_wp2_with fail
     refine di.o .ret _ _ ?_;rw[<-en.o];refine⟨rfl,.bool bL,fun t d=>⟨t,d, ?_⟩,rfl,e0.o⟩;show(aN Tryz.f4 _).run prog _=_;simp[aN,Tryz.results4,go_sem]
end P
namespace A
open Go Go.Conc
variable [pn:Pn]
section
variable {Post:Zv→Zy→Prop}
section
variable {P:Program} {F:Array Func} {X:Nat->Prop}
def vR.ends{g:Zg}{w:Zy}{m:Machine}{t:Trace}(U:vR P X g w m t)
  (h:∀u:Zy,Sm P X (A.re w u.tape u.drawn) u->∃val es u',stepG P bL g u= .ended (.done val) u' es/\(∀e∈es,xR X u.heap.size e)/\Post val u'):
  ∃N last o w' t',runNT P (N+1) m t=(.ended o w',t')/\runN P N m= .next last/\step P last= .ended o w'/\Conc.Good P Post last o w' t':=by
 obtain⟨⟨a,v,sl,k,rfl,l,y,G⟩,ok,c,J⟩:=U;refine run_of_inv BO (fun k m t=>∃(a:Array _) (v:Zy) (sl:Option _),m=Conc.crowd a v sl/\a[0]?=bO g/\JL P X k a v t/\Sm P X (A.re w v.tape v.drawn) v) _ ?_ k _ _ ⟨a,v,sl,rfl,l,y,G⟩;clear y G l;rintro k m t ⟨a,v,sl,rfl,l,y,G⟩;have I:∀g∈a,awake g:=by
  intro f n;obtain⟨i,p,rfl⟩:=Z1.1 n;rcases jl i with rfl|b
  have:a[0]=g:=by simpa[xg p]using l
  rw[this];exact awake_of<|.inl c;exact J5.awake k a v t y i _ b<|xg p
 obtain⟨i,f,d,F,p,n,E⟩:=crowd_pick (P:=P) (w:=v) (sl:=sl) I ⟨0,g,l,c⟩;have z:=J5.drawn k a v t d y;have C:Sm P X (A.re w v.tape d)<|v.at d:=G.re _ d;rcases jl i with rfl|b
 obtain rfl:f=g:=by rw[l]at p;exact(jf p).symm
 obtain⟨val,es,u',D,K,r⟩:=h (v.at d) C;have s:=runT_many_ended (sl:=F) p (show stepG P _ f _=_ from D);obtain⟨q,S,T,rfl⟩:=z;have B:=T.own (fn:=f.frame.fn) (pos:=f.frame.place) K;refine .inl ⟨_,_,_,E.trans s,val,rfl,r,B.clean,B.over,⟨fun x O=>?_,rfl⟩,fun j x O L=>?_⟩;obtain⟨j,L⟩:=List.mem_iff_getElem?.1 O;rw[PK]at L;exact⟨_,(S.old (1+j) x (by omega)<|by simpa[Conc.crowd]using L).leaves⟩;have V:=S.old j x (by omega) O;refine⟨q j, ?_⟩;have e:(t++MemOp.ofEvents 0 f.frame.fn f.frame.place es).deaf j (t++MemOp.ofEvents 0 f.frame.fn f.frame.place es).size=Deaf t j:=
  Deaf_other t (g':=0) (by omega) _ (fun op M=>by obtain⟨e,_,rfl⟩:=zy M;rfl)
 rw[e];exact V.hears _;obtain⟨H,v',R,Q,W,Y,Z,r3,r4,r5⟩:=J5.other k a (v.at d) t i f g F z b p n l c J;exact .inr ⟨_,Q,W,E.trans Y,Z,H,v',R,rfl,r3,r4,r5 w C⟩
def SD(B:Nat):qD X B #[]:=
 ⟨past_nil.clean,fun i a b c=>by simp[touchAt,Trace.act?]at b,past_nil.over,past_nil.hears,fun i a b=>by simp[touchAt,Trace.act?]at b⟩
def CT{N0:Nat}{m m1:Machine}{t t1:Trace}(a:runNT P N0 m t=(.next m1,t1))(h:∃N last o w' t',runNT P (N+1) m1 t1=(.ended o w',t')/\runN P N m1= .next last/\step P last= .ended o w'/\Conc.Good P Post last o w' t'):
  ∃N last o w' t',runNT P (N+1) m t=(.ended o w',t')/\runN P N m= .next last/\step P last= .ended o w'/\Conc.Good P Post last o w' t':=by
 obtain⟨N,last,o,w',t',b,c,d,e⟩:=h;refine⟨N0+N,last,o,w',t', ?_, ?_,d,e⟩;rw[Ja];exact ql a b;have f:(runNT P (N0+N) m t).1=(runNT P N m1 t1).1:=by
  rw[ql a (r:=(runNT P N m1 t1)) rfl]
 rw[<-runNT_fst P (N0+N) m t,f,runNT_fst];exact c
theorem zvf(K:J0 P F){f:FuncId}{args:Za}{fnc:Func}{c:Code}{R:Ending->Zy->Prop}(Z:¬Mc P f)(B:Ys P F f)(H:P.funcs[f]?=bO fnc)(O:fnc.body=bO c)
  {w v0:Zy}(h:Xn P f c (nJ P F fnc R) ⟨args++Array.replicate (fnc.ntmps-args.size) undef,[]⟩ w)(q:∀ch w',¬R (.panicked ch) w')(hS:Sm P X (A.re w v0.tape v0.drawn) v0):
  ∃N last o w' t',runNT P (N+1) (solo (G (bF P f args .normal) []) v0) #[]=(.ended o w',t')/\runN P N (solo (G (bF P f args .normal) []) v0)= .next last/\step P last= .ended o w'/\
   Conc.Good P (fun val u=>∃X' w',(∀x,X x->X' x)/\R (.returned val) w'/\Sm P X' (A.re w' u.tape u.drawn) u) last o w' t':=by
 have s:bF P f args .normal=(bF P f args .normal).at ⟨args++Array.replicate (fnc.ntmps-args.size) undef,[]⟩ [.code c]:=by
  simp[bF,Frame.at,H,O]
 have T:(wf P F).funcs[f]?=bO fnc:=by show F[f]?=_;rw[B.1];exact H
 have z:Xv P<|bF P f args .normal:=by
  have e:bF (wf P F) f args .normal=bF P f args .normal:=by simp[bF,T,H]
  rw[<-e];exact j_ K.codes B Z args ⟨by simp,by simp⟩
 have hi:P.inits.idxOf? f=bN:=z.init;have hb:vR P X (Z0 (bF P f args .normal) []) w (solo (G (bF P f args .normal) []) v0) #[]:=
  ⟨⟨#[Z0 _ []],v0,bN,_,rfl,rfl,⟨fun _=>0,⟨fun i g hi hg=>by
    have:i=0:=by have:=(za.1 hg).1;simp at this;omega
    omega,fun j hj=>rfl⟩,SD _,rfl⟩,hS⟩,⟨.inr z,fun c O=>by cases O⟩,rfl,rfl⟩
 let At:Zg->Zy->Prop:=fun g' w'=>∃(a:Act) (b:List Item) (val:Zv),g'=Z0 {(bF P f args .normal).at a b with mode:= .returning} []/\a.defers=[]/\(∀t d,∃t' d',(aN fnc a.tmps).run (wf P F) (A.re w' t d)= .ok val (A.re w' t' d'))/\R (.returned val) w';have V:RX P (Z0 (bF P f args .normal) []) w At:=by
  rw[s];refine h (bF P f args .normal) [] [] _ rfl rfl (fun e E w' k=>?_) fun e E w' g' k n=>?_;cases e with
  |normal=>trivial
  |ret=>exact k.1
  |panic ch=>exact k.1
  |exit id=>exact k.2.elim
  |goto l=>exact k.2.elim
  |outgrown=>exact k.2.elim
  cases e with
  |normal=>
   obtain⟨_,rfl⟩:=n;obtain⟨hd,v,C,q⟩:=k;refine RX.ctl K (g':=Z0 {(bF P f args .normal).at E []with mode:= .returning} []) Z (fun v=>?_) rfl rfl rfl<|.refl ⟨E,[],v,rfl,hd,C,q⟩;simp[stepG,Z0,Frame.at,stepG.exec]
  |ret=>
   obtain⟨_,b,rfl⟩:=n;obtain⟨hd,v,C,q⟩:=k;exact .refl ⟨E,b,v,rfl,hd,C,q⟩
  |panic ch=>exact(q ch w' k.2).elim
  |exit id=>exact k.2.elim
  |goto l=>exact k.2.elim
  |outgrown=>exact k.2.elim
 obtain⟨N,m',t',X',g',w',L,x1,b1,a,b,val,rfl,hd,C,M⟩:=V X _ _ hb;refine CT L<|b1.ends fun u r=>?_;obtain⟨t1,Y,D⟩:=C u.tape u.drawn;obtain⟨p,m,I⟩:=(QM (P:=P) (F:=F) (X:=X') fnc a.tmps).gJ _ u #[] r (by rw[D];trivial);rw[D]at I;have J:Sm P X' (A.re w' t1 Y) p:=I.sm;have W:p.heap.size=u.heap.size:=J.size.trans r.size.symm;refine⟨val,seen P f (#[]++m)++#[],p, ?_,fun e s=>?_,X',w',x1,M, ?_⟩;have U:(aN fnc a.tmps).runT P u #[]=(.ok val p,#[]++m):=I.eq;have y:=IM (fr:={(bF P f args .normal).at a b with mode:= .returning}) (by simp[bF,Frame.at]) hi val p;show unwind P bL {(bF P f args .normal).at a b with mode:= .returning} [] bN u=_;have Q:({(bF P f args .normal).at a b with mode:= .returning}:Zf).defers=[]:=hd;have S:P.funcs[({(bF P f args .normal).at a b with mode:= .returning}:Zf).fn]?=bO fnc:=H;unfold unwind;rw[Q];simp only[S];rw[show(aN fnc ({(bF P f args .normal).at a b with mode:= .returning}:Zf).tmps).runT P u #[]=(.ok val p,#[]++m)from U];simp only[y];rfl;have s:e∈seen P f (#[]++m):=by simpa using s
 have:=I.evs e (by simpa using mem_seen s);rw[W]at this;exact .pV this;have L:p.tape=t1:=J.tape;have e2:p.drawn=Y:=J.drawn;rw[L,e2];exact J
end
end
end A
namespace P
open Go.RowKit A Go Go.Conc
def WQ:Obj->Bool
 | .pending ..=>bL
 | .deferred _=>bL
 | .loop _=>bL
 |_=>bK
def EZ(j:Nat):Obj:= .chan j #[] bK 0 0 bK
def clean(j:Nat)(o:Obj):Obj:=if WQ o=bL then EZ j else o
def oH(j:Nat)(v:Zy):Zy:={v with heap:=v.heap.map<|clean j}
def X0(v:Zy)(r:Nat):Prop:=∃o,v.heap[r]?=bO o/\WQ o=bL
abbrev oO(v:Zy):Pn:=⟨⟨v.heap.size,fun r=>v.heap[r]?⟩⟩
section
variable {j r:Nat} {v:World}
def I_:(oH j v).heap[r]?=(v.heap[r]?).map (clean j):=by simp[oH]
def JK:(oH j v).heap.size=v.heap.size:=by simp[oH]
def D7(h:¬X0 v r):(oH j v).heap[r]?=v.heap[r]?:=by
 rw[I_];cases e:v.heap[r]?with
 |none=>rfl
 |some o=>
  have:¬WQ o=bL:=fun a=>h ⟨o,e,a⟩;simp[clean,this]
def Bc(h:X0 v r):(oH j v).heap[r]?=bO (EZ j):=by
 obtain⟨o,e,a⟩:=h;rw[I_,e];simp[clean,a]
def wR{a:Addr}{x:Zv}(h:v.cell? a=bO x):(oH j v).cell? a=bO x:=by
 obtain⟨g,e,i,d,_⟩:=A.cells_of_cell (pn:=oO v) (py:=⟨137⟩) h;have f:¬X0 v a.block:=by
  rintro⟨o,b,c⟩;rw[d]at b;cases b;cases c
 have e:=D7 (j:=j) f;unfold World.cell? at h⊢;rw[e];exact h
def mC(P:Zp):Sm (pn:=oO v) P (X0 v) (A.re (oH j v) v.tape v.drawn) v:=by
 refine @Sm.mk (oO v) P (X0 v) (A.re (oH j v) v.tape v.drawn) v JK.symm (fun r a=>(D7 a).symm) (fun r a=>?_) (fun r=>?_) rfl rfl rfl rfl ⟨Nat.le_of_eq JK.symm,fun r _ _=> .inl rfl⟩;have b:=Bc (j:=j) a;obtain⟨o,e,c⟩:=a;exact⟨EZ j,o,b,e,.inl ⟨rfl,by cases o<;>first|rfl|cases c⟩⟩;show A.dL P (oH j v).heap[r]?;rw[I_];cases v.heap[r]?with
 |none=>exact .none
 |some o=>cases o<;>exact⟨fun _ _ h=>(by cases h),fun _ h=>(by cases h),fun _ h=>(by cases h)⟩
end
def iA.ref{cv tv:Zv}{v:Zy}(h:iA cv tv v)(j:Nat):iA cv tv<|oH j v:=by
 obtain⟨⟨t,x,a,b⟩,⟨g,k,c,d⟩,e⟩:=h;exact⟨⟨t,x,a,wR b⟩,⟨g,k,c,wR d⟩,fun i f=>wR<|e i f⟩
def AL.ref{v:Zy}{x:Zv}{D:List Ac}(h:AL v.heap.size v x D)(j:Nat):AL (oH j v).heap.size (oH j v) x D:=by
 obtain⟨a,b,n,o,p⟩:=h;refine⟨a,b,n,o,fun i q=>?_⟩;obtain⟨g,c,l,m,d,e,f,k,c4⟩:=p i q;exact⟨g,c,l,by rw[JK];exact m,wR d,wR e,wR f,wR k,wR c4⟩
def IL.ref{v:Zy}{x:Zv}{D:List Int}(h:IL v x D)(j:Nat):IL (oH j v) x D:=by
 obtain⟨a,b,f,k⟩:=h;refine⟨a,b,f,fun i l=>?_⟩;obtain⟨q,g,d,e,c⟩:=k i l;exact⟨q,g,d,e,wR c⟩
def ZT{P:Zp}{o:Outcome}{w:Zy}{t':Trace}:∀{n:Nat} {m:Machine} {t:Trace},runNT P n m t=(.ended o w,t')->∀k,runNT P (n+k) m t=(.ended o w,t')
 |0,m,t,h,k=>by simp[runNT]at h
 |n+1,m,t,h,k=>by
  rw[Nat.add_right_comm];unfold runNT at h⊢;split at h;exact ZT h k;exact h
def WN(v u:Zy):Prop:=u.os=v.os/\u.output=v.output/\v.heap.size<=u.heap.size/\∀r,r<v.heap.size->u.heap[r]?=v.heap[r]?
def mM{cv tv:Zv}(D:Zl)(k:Int)(B:-9223372036854775808<=k/\k<=9223372036854775807)(x y:Zv)(F:List Ac)(L:List Int){v:Zy}(W:iA cv tv v)(w:AL v.heap.size v x F)(z:IL v y L):
  ∃N last o w' t',runNT bM (N+1) (solo (G (bF bM 4 #[.string<|st D,.int .i64 k,x,y] .normal) []) v) #[]=(.ended o w',t')/\runN bM N (solo (G (bF bM 4 #[.string<|st D,.int .i64 k,x,y] .normal) []) v)= .next last/\step bM last= .ended o w'/\
   Go.Conc.Good bM (fun val u=>val= .bool bL/\WN v u) last o w' t':=by
 have i:∀j,_:=fun j=>zvf (pn:=oO v) (bQ (pn:=oO v)) (nmc4 (pn:=oO v)) (bZ (pn:=oO v) rfl Tryz.func4 rfl) Tryz.func4 (xV (pn:=oO v)) (oJ (pn:=oO v) D k B x y F L (W.ref j) (w.ref j)<|z.ref j) (fun ch w' h=>by cases h.1)<|mC (j:=j) (v:=v) bM;obtain⟨N,last,o,w',t',I,M,O,val,rfl,⟨X1,w1,Z,c,q⟩,Q⟩:=i 0;obtain⟨H,C,o2,a,E,R,b2,b3,l,rfl,⟨X2,w2,x2,V,Y⟩,b5⟩:=i 1;obtain rfl:a=w':=by
  have S:=ZT I<|H+1;have s:=ZT R<|N+1;rw[zW<|H+1]at s;rw[S]at s;have T:(l=val/\a=w')/\E=t':=by simpa using s.symm
  exact T.1.2
 have g:∀{j:Nat} {n:ZP} {m:Zy},(∀r,X0 v r->n r)->Nw (oH j v) m->Sm (pn:=oO v) bM n (A.re m a.tape a.drawn) a->∀r,r<v.heap.size->a.heap[r]?=v.heap[r]?\/(X0 v r/\a.heap[r]?=bO (EZ j)):=by
  intro j n m hx X K r d;have J:m.heap[r]?=(oH j v).heap[r]?:=X.block r (by rw[JK];exact d) id;have f:a.heap[r]?=m.heap[r]?->a.heap[r]?=v.heap[r]?\/(X0 v r/\a.heap[r]?=bO (EZ j)):=fun e=>by
   rw[J]at e;rcases Classical.em (X0 v r)with b|b
   exact .inr ⟨b,e.trans<|Bc b⟩;exact .inl<|e.trans<|D7 b
  rcases Classical.em (n r)with t|t;rcases(Sm.pin (pn:=oO v) K).2 r t d with e|e;exact .inl e;exact f e;exact f<|Sm.out (pn:=oO v) K r t
 refine⟨N,last,_,a,t',I,M,O,val,rfl,⟨?_, ?_, ?_, ?_,fun r d=>?_⟩,Q⟩;have:=c.1;simpa using this;exact(Sm.os (pn:=oO v) q).trans c.2.os;exact(Sm.output (pn:=oO v) q).trans c.2.output;have e0:=Sm.size (pn:=oO v) q;have J:a.heap.size=w1.heap.size:=e0;have U:=c.2.size;rw[JK]at U;omega;rcases g Z c.2 q r d with e|⟨b,e⟩
 exact e;rcases g x2 V.2 Y r d with p|⟨_,p⟩
 exact p;rw[e]at p;simp[EZ]at p
end P
namespace P
open Go.RowKit A Go.ChangeShapes Go.WideShapes
def Uc:Tryz.prog.cellsOf 47=5:=by kernel_rfl
def JR{w:Zy}{base:Nat}{a:Addr}{n:Nat}{cs:Ze}(h:w.cells? base a n=bO cs)(i:Nat)(e:i<n):∃v,cs[i]?=bO v/\w.cell? (a.add i)=bO v:=by
 unfold World.cells? at h;split at h;obtain⟨b,c,d⟩:=Lib.mapM_at h i i (by simp[e]);exact⟨b,c,d⟩;cases h
def xoj(s:ByteArray):st s.data.toList=s:=by cases s;simp[st]
def Gk{H:Type}{enc:Zt×Zv->H}{W:Zy}{fuel:Nat}{a:Addr}{cs:Ze}{x:DataW H×List MemPlace}
  (e:W.cells? 0 a 5=bO cs)(E:DataW.trod enc bM W 0 (fun _=>bL) bL fuel 47 cs=bO x):
  ∃g off d,a=(zq g off)/\Ac.At W g off d:=by
 obtain⟨N,e0,i⟩:=JR e 0 (by decide);obtain⟨O,j,w⟩:=JR e 1 (by decide);obtain⟨Q,l,y⟩:=JR e 2 (by decide);obtain⟨R,m,z⟩:=JR e 3 (by decide);obtain⟨S,o,B⟩:=JR e 4 (by decide);obtain⟨M,n,_,rfl,v,f,b⟩:=DataW.trod_struct Tryz.underlying47 E;rw[Uc]at v
 match cs,v with
 |[u0,u1,u2,u3,u4],_=>
  match M,f with
  |[x0,x1,x2,x3,x4],_=>
   have p:=b 0 _ rfl;have q:=b 1 _ rfl;have r:=b 2 _ rfl;have s:=b 3 _ rfl;have t:=b 4 _ rfl;simp only[Xl,Xb]at p q r s t;simp only[Xl,Xb,zp]at e0 j l m o;obtain⟨k,hk,_,_⟩:=DataW.trod_int Tryz.underlying3 p;obtain⟨J,G,_,_⟩:=DataW.trod_int Tryz.underlying3 q;obtain⟨I,F,_,_⟩:=DataW.trod_int Tryz.underlying3 r;obtain⟨K,C,_,_⟩:=DataW.trod_string Tryz.underlying9 s;obtain⟨L,D,_,_⟩:=DataW.trod_string Tryz.underlying9 t;cases hk;cases G;cases F;cases C;cases D;subst e0;subst j;subst l;subst m;subst o;obtain⟨g,off,h⟩:=a;have c:h=bN:=by simpa[Addr.add]using World.cell?_spot i
   subst c;rw[Go.WideShapes.add_plain]at i w y z B;exact⟨g,off,⟨k,J,I,K.data.toList,L.data.toList⟩,rfl,i,w,y,z,B⟩
def QQ{H:Type}{enc:Zt×Zv->H}{W:Zy}{fuel:Nat}{a0:Option Addr}{len cap:Nat}{x:DataW H×List MemPlace}
  (B:DataW.trod enc bM W 0 (fun _=>bL) bL fuel 22 (Value.slice a0 len cap).cells.toList=bO x):∃D,AL W.heap.size W (.slice a0 len cap) D:=by
 have p:DataW.trod enc bM W 0 (fun _=>bL) bL fuel 22 [Value.slice a0 len cap]=bO x:=B;rcases DataW.trod_slice Tryz.underlying22 p with⟨c,_⟩|⟨a,w,r,j,y,n,_,c,J,_,G,I,v,o,_,_⟩
 cases c;exact⟨[],bN,0,rfl,by simp,fun i h=>by simp at h⟩;cases c;have f:∀i,i<len->∃g b d,a.add (i*5)=(zq g b)/\Ac.At W g b d:=by
  intro i k;have t:=o i k;have q:i<j.length:=by omega
  rw[Uc,Yh q,Option.bind_eq_some_iff]at t;obtain⟨F,c,C⟩:=t;exact Gk c C
 have e:∀i,i<len->∃d,∃g b,bO a=bO ⟨g,b,bN⟩/\g<W.heap.size/\Ac.At W g (b+i*5) d:=by
  intro i k;obtain⟨z,E,_,m,_⟩:=f 0 (by omega);rw[Nat.zero_mul]at m;have m:a=(zq z E):=by simpa[Addr.add]using m
  subst m;obtain⟨g,b,d,s,l⟩:=f i k;rw[Go.WideShapes.add_plain]at s;cases s;exact⟨d,_,_,rfl,qz l.1,l⟩
 refine⟨List.ofFn fun i:Fin len=>Classical.choose<|e i i.2,bO a,cap,by rw[List.length_ofFn],by rw[List.length_ofFn];omega,fun i k=>?_⟩;rw[List.length_ofFn]at k;rw[List.getElem_ofFn];exact XZ<|e i k
def cells3:Tryz.prog.cellsOf 3=1:=by kernel_rfl
def rE{H:Type}{enc:Zt×Zv->H}{W:Zy}{fuel:Nat}{a0:Option Addr}{len cap:Nat}{x:DataW H×List MemPlace}
  (l:DataW.trod enc bM W 0 (fun _=>bL) bL fuel 40 [Value.slice a0 len cap]=bO x):∃D,IL W (.slice a0 len cap) D:=by
 rcases open_ints Tryz.underlying40 Tryz.underlying3 cells3 l with⟨a,_⟩|⟨⟨g,c,k⟩,j,d,zs,a,_,q,_,f,_,e,p⟩;cases a;exact⟨[],bN,0,rfl,fun i h=>by simp at h⟩;cases a;have f:zs.length=cap:=f;refine⟨zs.take len,bO ⟨g,c,k⟩,cap,by rw[xt,Vg<|by omega],fun i n=>?_⟩;rw[xt]at n;have b:i<zs.length:=by omega
 have h:=e i b;have m:=p zs[i]<|Zn b;have o:k=bN:=by simpa[Addr.add]using World.cell?_spot<|e 0<|by omega
 subst o;rw[Go.WideShapes.add_plain]at h;rw[List.getElem_take];simp only[Lit.wf,xl,X9]at m;refine⟨m,g,c,rfl, ?_⟩;rw[h];simp[b]
end P
namespace P
open Go.ChangeShapes Go.WideShapes Go.ChangeAt Go.RowKit A Go.Conc
open Go.ChangeMaps (open_string shut_string)
section
variable {rest:List<|String×DataW Unit}
def own:ownKnob Tryz.prog.godebug=bN:=by kernel_rfl
def UD:laidOutB bM=bL:=by kernel_rfl
def Gq:Tryz.prog.globalNamed "coffer/prim.roundWords"=bO 2:=by kernel_rfl
def Q2:(Tryz.prog.globals[2]?).map (·.type)=bO 236:=by kernel_rfl
def xw8:Tryz.prog.globalNamed "coffer/disk.ErrCrashed"=bO 0:=by kernel_rfl
def P3:(Tryz.prog.globals[0]?).map (·.type)=bO 212:=by kernel_rfl
def xw9:Tryz.prog.globalNamed "coffer/coffer.errTampered"=bO 1:=by kernel_rfl
def R1:(Tryz.prog.globals[1]?).map (·.type)=bO 212:=by kernel_rfl
def F0:Tryz.prog.cellsOf 236=64:=by kernel_rfl
def E6:Tryz.prog.cellsOf 232=1:=by kernel_rfl
def Ki:List Int:=[1116352408,1899447441,3049323471,3921009573,961987163,1508970993,2453635748,2870763221,3624381080,310598401,607225278,1426881987,1925078388,2162078206,2614888103,3248222580,3835390401,4022224774,264347078,604807628,770255983,1249150122,1555081692,1996064986,2554220882,2821834349,2952996808,3210313671,3336571891,3584528711,113926993,338241895,666307205,773529912,1294757372,1396182291,1695183700,1986661051,2177026350,2456956037,2730485921,2820302411,3259730800,3345764771,3516065817,3600352804,4094571909,275423344,430227734,506948616,659060556,883997877,958139571,1322822218,1537002063,1747873779,1955562222,2024104815,2227730452,2361852424,2428436474,2756734187,3204031479,3329325298]
def xs8:∀i:Fin 64,Ki.getD i.val 0=u (Kc i.val):=by decide+kernel
def ZV{P:Zp}{W:Zy}{x:String×DataW Unit}(h:laidMet P (x::rest) W):laidMet P rest W:=by
 obtain⟨r,⟨g,t,k,c,p,q,l,m,n,o,d,e⟩,j,f⟩:=h;subst e;exact⟨q,d,(List.nodup_append.1 j).2.1,fun b a i=>f b a<|List.mem_append_right _ i⟩
def Ow{P:Zp}{W:Zy}{n nm:String}{d:DataW Unit}{g:Nat}{ti:Zt}{ms:Array<|String×Zt}(i:P.globalNamed n=bO g)(r:(P.globals[g]?).map (·.type)=bO ti)(m:P.underlying ti=bO (.interface ms))
  (h:laidMet P ((n,.iface nm d)::rest) W):∃tt v,W.cell? (zq g 0)=bO (.iface tt v):=by
 obtain⟨C,⟨w,t,s,b,p,q,j,k,a,l,x,y⟩,B,z⟩:=h;obtain rfl:=jf<|i.symm.trans j;obtain rfl:=jf<|r.symm.trans k;obtain⟨_,tt,v,e,_,_⟩:=iface_of_trod m l;refine⟨tt,v, ?_⟩;unfold World.var? at a;rw[i,Option.bind_some]at a;unfold World.cell?;cases hb:W.heap[g]?with
 |none=>rw[hb]at a;cases a
 |some o=>
  rw[hb]at a;cases o with
  |cells c t f=>
   simp only[zp]at a;subst a;have e:c=#[.iface tt v]:=by cases c;simpa using e
   subst e;rfl
  |_=>cases a
def xq3{W:Zy}(h:laidMetH bM Rows.strangeRow.laid W):∃cv tv,iA cv tv W:=by
 have a:laidMet bM [("coffer/prim.roundWords",Rows.laid_coffer_prim_roundWords),("coffer/disk.ErrCrashed",Rows.laid_coffer_disk_ErrCrashed),("coffer/coffer.errTampered",Rows.laid_coffer_coffer_errTampered)] W:=h;have t:Lib.TabIs bM W "coffer/prim.roundWords" .u32 Ki:=Lib.tabIs_of_head Gq Q2 Tryz.underlying236 Tryz.underlying232 E6 F0 a;obtain⟨e,g,c⟩:=Ow xw8 P3 Tryz.underlying212<|ZV a;obtain⟨f,j,d⟩:=Ow xw9 R1 Tryz.underlying212<|ZV<|ZV a;refine⟨_,_,⟨e,g,rfl,c⟩,⟨f,j,rfl,d⟩,fun i b=>?_⟩;rw[t.cell Gq i b,xs8 ⟨i,b⟩]
def WN.below{v u:Zy}(h:WN v u):Below v.blind.heap.size v.blind u.blind:=⟨h.1,rfl,h.2.1,h.2.2.1,h.2.2.2⟩
abbrev xqt:ByteArray:={data:=#[116,104,101,32,109,97,99,104,105,110,101,32,115,116,111,112,112,101,100]}
abbrev xvt:ByteArray:={data:=#[115,111,109,101,98,111,100,121,32,104,97,115,32,98,101,101,110,32,97,116,32,116,104,101,32,100,105,115,107]}
noncomputable def low:Nat:=(World.holding bM default ⟨#[],#[],[]⟩).heap.size
noncomputable def Mi(os:Os):Zy:=
 let w0:=World.holding bM os ⟨#[.cells #[.string xqt] 410,.cells #[.string xvt] 410],#[],[]⟩
 {w0 with heap:=((w0.heap.modify 2 fun
   | .cells _ t frozen=> .cells #[zu 1116352408,zu 1899447441,zu 3049323471,zu 3921009573,zu 961987163,zu 1508970993,zu 2453635748,zu 2870763221,zu 3624381080,zu 310598401,zu 607225278,zu 1426881987,zu 1925078388,zu 2162078206,zu 2614888103,zu 3248222580,zu 3835390401,zu 4022224774,zu 264347078,zu 604807628,zu 770255983,zu 1249150122,zu 1555081692,zu 1996064986,zu 2554220882,zu 2821834349,zu 2952996808,zu 3210313671,zu 3336571891,zu 3584528711,zu 113926993,zu 338241895,zu 666307205,zu 773529912,zu 1294757372,zu 1396182291,zu 1695183700,zu 1986661051,zu 2177026350,zu 2456956037,zu 2730485921,zu 2820302411,zu 3259730800,zu 3345764771,zu 3516065817,zu 3600352804,zu 4094571909,zu 275423344,zu 430227734,zu 506948616,zu 659060556,zu 883997877,zu 958139571,zu 1322822218,zu 1537002063,zu 1747873779,zu 1955562222,zu 2024104815,zu 2227730452,zu 2361852424,zu 2428436474,zu 2756734187,zu 3204031479,zu 3329325298] t frozen
   |o=>o).modify 0 fun
   | .cells _ t frozen=> .cells #[.iface 388<|zo low] t frozen
   |o=>o).modify 1 fun
   | .cells _ t frozen=> .cells #[.iface 388<|zo<|low+1] t frozen
   |o=>o}
def W1(a:Os):laidMet bM Rows.strangeRow.laid ((Mi a).forCall (fun _ _=>0) ⟨#[],#[.string ⟨#[]⟩,zi 0,.slice bN 0 0,.slice bN 0 0],[]⟩).memory:=
 laidMet_of_run' 70 (by kernel_rfl) (by kernel_rfl)
def xvf(a:Os){H:Type}(enc:Zt×Zv->H):∃places,DataW.whole enc bM ((Mi a).forCall (fun _ _=>0) ⟨#[],#[.string ⟨#[]⟩,.int .i64 0,.slice bN 0 0,.slice bN 0 0],[]⟩).memory Tryz.f4.params.toList Rows.strangeSpec.vars bK (#[Value.string ⟨#[]⟩,.int .i64 0,.slice bN 0 0,.slice bN 0 0]).toList 8=bO ([.lit<|.string [],.lit<|.int .i64 0,.nil,.nil],[],places):=
 ⟨[],by kernel_rfl⟩
def xxj{H:Type}{enc:Zt×Zv->H}(W:Zy)(base:Nat)(args:Za)(J gs:List<|DataW H)(b:List MemPlace)
  (a:∀(j:Nat) t v,Tryz.f4.params[j]?=bO t->args[j]?=bO v->Value.okWide bM W .any base t v)
  (S:DataW.Whole enc bM Tryz.f4.params.toList Rows.strangeSpec.vars bK W args.toList J gs b)(hL:laidMetH bM Rows.strangeRow.laid W):
  ∃M last o w' t',runNT bM (M+1) (solo (G (bF bM 4 args .normal) []) W) #[]=(.ended o w',t')/\runN bM M (solo (G (bF bM 4 args .normal) []) W)= .next last/\step bM last= .ended o w'/\
   Conc.Good bM (fun v W'=>Rows.strangeSpec.post enc bM Tryz.f4 bK bL bK bK W.blind args v W'.blind) last o w' t':=by
 have d:=S;obtain⟨p,q,f,hV,rfl,ba,bb⟩:=S;have R:DataW.TrodAll enc bM W 0 (fun _=>bL) bL Tryz.f4.params.toList args.toList J p:=f;rw[Tryz.params4]at R a;obtain⟨v0,v1,v2,v3,d0,d1,d2,d3,p0,p1,T,U,rfl,rfl,rfl,L,N,O,Q⟩:=trodAll_four R;obtain⟨rfl,rfl⟩:=trodVars_none hV;have s:=L;have w:=N;have y:=O;have z:=Q;obtain⟨m,rfl,rfl,rfl,bc⟩:=open_string Tryz.underlying9 (a 0 9 v0 rfl rfl) L;obtain⟨n1,rfl,rfl,rfl,k⟩:=open_int Tryz.underlying3 (a 1 3 v1 rfl rfl) N;obtain⟨Y,I,n,rfl⟩:=okWide_slice Tryz.underlying22<|a 2 22 v2 rfl rfl;obtain⟨Z,l,e,rfl⟩:=okWide_slice Tryz.underlying40<|a 3 40 v3 rfl rfl;obtain⟨K,hf⟩:=O;obtain⟨r,B⟩:=Q;clear f;simp only[Xq]at d;have i:∀x∈T++U,x.block<W.heap.size:=fun x c=>d.lt x (by simpa using c);obtain⟨D,hD⟩:=QQ hf;obtain⟨ns,C⟩:=rE B;obtain⟨cv,tv,hG⟩:=xq3 hL;have E:-9223372036854775808<=n1/\n1<=9223372036854775807:=by
  simp only[Lit.wf,xl,X9]at k;exact k
 obtain⟨M,last,o,w',t',V,X,r3,r4⟩:=mM m.data.toList n1 E _ _ D ns hG hD C;rw[show st m.data.toList=m from xoj m]at V X;refine⟨M,last,o,w',t',V,X,r3,r4.mono fun v hp=>?_⟩;obtain⟨rfl,hk⟩:=hp;have g:=hk.below;have F:=DataW.Whole.of_heap (w':=W.blind) (by rfl) d;have t0:DataW.Trod enc bM W.blind 0 (fun _=>bL) bL 9 (.string m) _ []:=DataW.Trod.of_heap (by rfl) s;have t1:DataW.Trod enc bM W.blind 0 (fun _=>bL) bL 3 (.int .i64 n1) _ []:=DataW.Trod.of_heap (by rfl) w;have t2:DataW.Trod enc bM W.blind 0 (fun _=>bL) bL 22 (.slice Y I n) d2 T:=DataW.Trod.of_heap (by rfl) y;have t3:DataW.Trod enc bM W.blind 0 (fun _=>bL) bL 40 (.slice Z l e) d3 U:=DataW.Trod.of_heap (by rfl) z;refine⟨_,_,_,[],_,[],F,trodAll_cons_mk (shut_bool Tryz.underlying4 _) trodAll_mk0,
  trodAll_cons_mk (Below.trod UD (by kernel_rfl) (Xj<|by kernel_rfl) t0 g fun x c=>by cases c) (trodAll_cons_mk (Below.trod UD (by kernel_rfl) (Xj<|by kernel_rfl) t1 g fun x c=>by cases c)
   (trodAll_cons_mk (Below.trod UD (by kernel_rfl) (Xj<|by kernel_rfl) t2 g fun x c=>i x<|List.mem_append_left _ c)<|trodAll_cons_mk (Below.trod UD (by kernel_rfl) (Xj<|by kernel_rfl) t3 g fun x c=>i x<|List.mem_append_right _ c) trodAll_mk0)),rfl,g.frame _,fun h=>by cases h⟩
def lifted(h:Os)(a:h.Started)(H:Type)(enc:Zt×Zv->H):
  ReturnsInLeavingWide {} Tryz.checked h 4 .any ((OpenSpec.ofChange Rows.strangeSpec).preRow enc bM Tryz.f4 Rows.strangeRow.domain bK Rows.strangeRow.laid) (Rows.strangeSpec.post enc bM Tryz.f4 bK bL bK bK):=by
 obtain⟨j,t⟩:=xvf h enc;refine returnsInLeavingWide_of_good own a
  (witness_row_at bK _ _ rfl (by kernel_rfl) (by kernel_rfl) (by kernel_rfl)
   (OpenSpec.preRow_of_cond 8 t (by kernel_rfl) (fun k hk=>by cases hk) (by kernel_rfl)<|W1 h)) ?_
 intro w f i _ _ _ m c _;obtain⟨_,_,_,l,b,_,_,_,_,d⟩:=m;have e:l=Tryz.f4:=jf<|b.symm.trans Tryz.func4;subst e;obtain⟨⟨r,q⟩,x⟩:=c;obtain⟨o,p,g,s,v,hk⟩:=OpenSpec.pre_parts r;have n:=DataW.Whole.of_heap (w':=w.forCall f i) (by rfl) s;exact xxj _ _ _ o p _ d n<|q.of_heap<|by rfl
end
end P
namespace P
open Go.RowKit A
def gX{a b:Bool}(h:a=bL)(k:b=bL):(a&&b)=bL:=by rw[h,k];rfl
def j0:(Rows.strangeRow.wf<|OpenSpec.ofChange Rows.strangeSpec)=bL:=by kernel_rfl
def j1:(laidOutB Tryz.pinned.checked.prog)=bL:=by kernel_rfl
def j2:(mapsRowed Tryz.pinned.checked.prog)=bL:=by kernel_rfl
def j3:(Tryz.f4.params.all (Tryz.pinned.checked.prog.readableRec ·))=bL:=by kernel_rfl
def j4:(namedTie Tryz.pinned.checked.prog Rows.strangeRow.named Rows.strangeSpec.vars)=bL:=by kernel_rfl
def j5:((Rows.strangeRow.stops==[]))=bL:=by kernel_rfl
def j6:((Tryz.pinned.checked.prog.stops==[]))=bL:=by kernel_rfl
def j7:((Rows.strangeRow.knobs==[]))=bL:=by kernel_rfl
def j8:((Tryz.pinned.checked.prog.stopKnobs==[]))=bL:=by kernel_rfl
def j9:((Rows.strangeRow.inPlace==Tryz.pinned.checked.prog.inPlace 4))=bL:=by kernel_rfl
def j10:((Rows.strangeRow.unfollowed==Tryz.pinned.checked.prog.unfollowed 4))=bL:=by kernel_rfl
def j11:((Rows.strangeRow.recurses==Tryz.pinned.checked.prog.recurses 4))=bL:=by kernel_rfl
def j12:((Rows.strangeRow.named==Tryz.pinned.checked.prog.varsNamed 4))=bL:=by kernel_rfl
def j13:((Rows.strangeRow.maps==(Tryz.f4.params.toList++Rows.strangeSpec.plain.varTypes Tryz.pinned.checked.prog).any (Tryz.pinned.checked.prog.mapsRec ·)))=bL:=by kernel_rfl
def eL:((Rows.strangeRow.ifaces==(Tryz.f4.params.toList++Rows.strangeSpec.plain.varTypes Tryz.pinned.checked.prog).any (Tryz.pinned.checked.prog.ifacesRec ·)))=bL:=by kernel_rfl
def eM:((Rows.strangeRow.mapsOut==Tryz.pinned.checked.prog.mapsAmong Tryz.f4.resultTypes.toList))=bL:=by kernel_rfl
def eN:((Rows.strangeRow.loops==(Tryz.f4.params.toList++Rows.strangeSpec.plain.varTypes Tryz.pinned.checked.prog).any (Tryz.pinned.checked.prog.loopsFrom ·)))=bL:=by kernel_rfl
def eQ:((Rows.strangeRow.wideKeys==(Tryz.f4.params.toList++Rows.strangeSpec.plain.varTypes Tryz.pinned.checked.prog++Tryz.f4.resultTypes.toList).any (Tryz.pinned.checked.prog.wideKeysFrom ·)))=bL:=by kernel_rfl
def eR:(Rows.strangeSpec.vars.all (Tryz.pinned.checked.prog.varReadable ·))=bL:=by kernel_rfl
def eS:(Tryz.f4.resultTypes.all fun t=>Tryz.pinned.checked.prog.readableRec t&&decide (t<Tryz.pinned.checked.prog.types.size))=bL:=by kernel_rfl
def eV:((Rows.strangeRow.ifacesOut==Tryz.f4.resultTypes.toList.any (Tryz.pinned.checked.prog.ifacesRec ·)))=bL:=by kernel_rfl
def eW:((Rows.strangeRow.loopsOut==Tryz.f4.resultTypes.toList.any (Tryz.pinned.checked.prog.loopsFrom ·)))=bL:=by kernel_rfl
def fL:((Rows.strangeRow.plainKeys==Tryz.pinned.checked.prog.plainKeys))=bL:=by kernel_rfl
def fN:(Rows.strangeRow.shortTexts.isNone)=bL:=by kernel_rfl
def fR:(Tryz.pinned.checked.prog.stopsHeard)=bL:=by kernel_rfl
def fS:(Tryz.pinned.checked.prog.mayEnter)=bL:=by kernel_rfl
def fW:((Rows.strangeRow.lifted==Tryz.pinned.checked.prog.liftsFinal))=bL:=by kernel_rfl
def fX:((Tryz.pinned.checked.prog.make==bO Rows.strangeRow.make))=bL:=by kernel_rfl
def fY:((Rows.strangeRow.kinds==(if Rows.strangeRow.domain.isEmpty then []else Tryz.f4.params.toList.map fun t=>match Tryz.pinned.checked.prog.underlying t with|some (.int k)=>bO k|_=>bN)))=bL:=by kernel_rfl
def gA:((Rows.strangeRow.pinned==Rows.strangeRow.pinnedBy))=bL:=by kernel_rfl
def gC:((Rows.strangeRow.veiled==(Tryz.f4.params.toList++Rows.strangeSpec.plain.varTypes Tryz.pinned.checked.prog++Tryz.f4.resultTypes.toList).any (Tryz.pinned.checked.prog.veiledRec ·)))=bL:=by kernel_rfl
def gE:(Rows.strangeRow.veiledFits Tryz.pinned.checked.prog Tryz.f4.params.toList<|Tryz.f4.params.toList++Rows.strangeSpec.plain.varTypes Tryz.pinned.checked.prog++Tryz.f4.resultTypes.toList)=bL:=by kernel_rfl
def xty:joinedFacts Tryz.pinned.checked.prog 4 Tryz.f4 Rows.strangeSpec Rows.strangeRow=bL:=by
 unfold joinedFacts;exact(gX (gX (gX (gX (gX (gX (gX (gX (gX (gX (gX (gX (gX (gX (gX (gX (gX (gX (gX (gX (gX (gX (gX (gX (gX (gX (gX (gX (gX (gX (gX j0 j1) j2) j3) j4) j5) j6) j7) j8) j9) j10) j11) j12) j13) eL) eM) eN) eQ) eR) eS) eV) eW) fL) fN) fR) fS) fW) fX) fY) gA) gC) gE)
def xro:Tryz.pinned.checked.prog.funcNamed Rows.strangeRow.func=bO 4:=by kernel_rfl
def xt3:Tryz.f4.isInstance Tryz.pinned.checked.prog Rows.strangeRow.origin Rows.strangeRow.targs:=Xj<|by kernel_rfl
def xv4:Tryz.f4.isWrapper Tryz.pinned.checked.prog Rows.strangeRow.wrapper Rows.strangeRow.mainSum:=by unfold Func.isWrapper;first|(rw[aA<|by decide+kernel];kernel_rfl)|(rw[aB<|by decide+kernel];exact⟨rfl,rfl⟩)
def said:Rows.StrangeSaid:=
 OpenClaim.holds_of_wide_leaving 4 Tryz.f4 rfl rfl rfl rfl rfl rfl rfl ⟨rfl,rfl,rfl,rfl,rfl⟩ rfl rfl rfl rfl rfl xro Tryz.func4 xty xt3 xv4
  (fun c a H b _=>by rw[OpenClaim.pre_eq_preRow];exact lifted c a H b)
def plain(f:FuncId)(fn:Func)(d:Tryz.pinned.checked.prog.funcNamed "coffer/cofferkeep.Strange"=bO f)(a:Tryz.pinned.checked.prog.funcs[f]?=bO fn):
  bL=Tryz.pinned.checked.prog.looks []/\∀(j:Nat) t,fn.params[j]?=bO t->Tryz.pinned.checked.prog.wantsStandIn t=bK:=by
 obtain rfl:f=4:=jf ((show Tryz.prog.funcNamed "coffer/cofferkeep.Strange"=bO 4 by kernel_rfl).symm.trans d) |>.symm;obtain rfl:fn=Tryz.f4:=(jf<|Tryz.func4.symm.trans a).symm;refine⟨by kernel_rfl,fun j t c=>?_⟩;rw[Tryz.params4]at c;have b:=Wk c;simp only[List.mem_toArray,xf,Vy,or_false]at b;rcases b with rfl|rfl|rfl|rfl;exact(show Tryz.prog.wantsStandIn 9=bK by kernel_rfl);exact(show Tryz.prog.wantsStandIn 3=bK by kernel_rfl);exact(show Tryz.prog.wantsStandIn 22=bK by kernel_rfl);exact(show Tryz.prog.wantsStandIn 40=bK by kernel_rfl)
def xt1:bL=Rows.strangeRow.goesBy Tryz.pinned.checked.prog:=by kernel_rfl
def xt7:Tryz.pinned.checked.prog.mainIs=bO (bL,"6112a70bf7700c9ef082f368a9341514db7d80b00d6c93fffd8a755e3258b503".toList):=by kernel_rfl
def card:Rows.StrangeCardSaid:=
 ⟨Claim7.tied_new_at .later [.data,.sentinel,.sentinel] bL (Claim7.new_of_sixth said (bL,"6112a70bf7700c9ef082f368a9341514db7d80b00d6c93fffd8a755e3258b503") bL rfl ⟨rfl,rfl⟩ xt7 rfl plain)<|by kernel_rfl,fun D a=>(by cases a),strange_row_tie,(fun h=>by cases h),xt1⟩
end P
end Go.Proofs.YtjnbhiamaabbgabGreatDoor
