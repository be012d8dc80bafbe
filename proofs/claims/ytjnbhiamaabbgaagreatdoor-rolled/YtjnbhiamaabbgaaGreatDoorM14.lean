import Derived.Test.YtjnbhiamaabbgaaGreatDoorM13
import Derived.Stop.Asserts
import Derived.Lib.LaidTab
import Derived.Test.YtjnbhiamaabbgaaGreatDoorCards
import Derived.Test.YtjnbhiamaabbgaaGreatDoorTie
import Derived.Conc.LeavingOf
import Derived.OpenShut
import Derived.Deep.DeepHandedRow
import Derived.Stop.LaidTwo
set_option linter.all false
set_option maxRecDepth 100000
set_option maxHeartbeats 8000000
namespace Go.Proofs.YtjnbhiamaabbgaaGreatDoor
open Bool renaming false->bK,true->bL
open Go renaming Calls->bE,execOp->bG,results->aN
open Go.Frame renaming enter->bF
open Go.Proofs.Tryz renaming prog->bM
open Option renaming none->bN,some->bO
open _root_.Array renaming replicate->aW
namespace P
open A.Tryq Go.RowKit A
variable [pn:A.Pn]
attribute [local go_sem] xe zv
section
variable {lo B b:Nat} {cv tv:Zv} {s:Jo} {k:gZ} {r:Sr} {w:Zy}
structure Pl(cv tv:Zv)(lo B b:Nat)(r:Sr)(s:Jo)(k:gZ)(w:Zy):Prop where
 st:Jq w B r
 bk:W6 w b k
 sn:r.sn=bO s
 inv:Wy r s
 fI:Bk r s k
 own:∀x,r.own B x->lo<=x
 l4:4<lo
 bl:lo<=b
 wC:iA cv tv w
theorem Pl.size(h:Pl cv tv lo B b r s k w):lo<w.heap.size:=Nat.lt_of_le_of_lt h.bl h.bk.blk.lt
def Pl.nw{w w':Zy}(h:Pl cv tv lo B b r s k w)(n:Nw w w'):Pl cv tv lo B b r s k w':=
 ⟨h.st.but n fun _ _=>id,⟨h.bk.blk.but n id,h.bk.kept.but n fun _ _ _=>id,h.bk.seen.but n fun _ _ _=>id⟩,h.sn,h.inv,h.fI,h.own,h.l4,h.bl,h.wC.but (S:=fun _=>False) n fun _ x=>x.elim⟩
def Pl.ok(h:Pl cv tv lo B b r s k w):fV B r:=fV.of h.inv (.inl h.sn) fun x a=>by have:=h.own x a;have:=h.l4;omega
def Pl.to{r r':Sr}{s s':Jo}{k k':gZ}{w w' w2:Zy}(h:Pl cv tv lo B b r s k w)(t:jt B r w r' w')(f:xb (·=b) w' w2)(hk:W6 w2 b k')(j:r'.sn=bO s')(i:Wy r' s')(g:Bk r' s' k'):Pl cv tv lo B b r' s' k' w2:=by
 have d:¬r'.own B b:=fun a=>(t.at_.dX a<|h.st |> fun _=>(jt.fI h.st t h.bk).blk).2 rfl;have l:=h.size;refine⟨t.at_.but f fun x a e=>d<|by have e:=e;rw[<-e];exact a,hk,j,i,g,fun x a=>?_,h.l4,h.bl, ?_⟩;rcases t.own x a with c|c
 exact h.own x c;omega;have c:xb (fun x=>r.own B x\/x=b) w w2:=(t.but.mono fun _ h=> .inl h).trans<|f.mono fun _ h=> .inr h;refine h.wC.but c fun x a=>?_;have:=h.l4;rcases a with a|a
 have:=h.own x a;omega;have:=h.bl;omega
def Pl.old{r r':Sr}{w w' w2:Zy}(h:Pl cv tv lo B b r s k w)(t:jt B r w r' w')(c:xb (·=b) w' w2):xb (fun x=>lo<=x) w w2:=
 (t.but.mono fun x a=>h.own x a).trans (c.mono fun x a=>by have a:=a;rw[a];exact h.bl)
def jH(kd N M:Int)(S T:Zl):Zv:= .agg #[.int .i64 kd,.int .i64 N,.int .i64 M,.string<|st S,.string<|st T]
def iY(cv tv:Zv)(lo B b:Nat)(r:Sr)(s:Jo)(w:Zy)(e:Ending)(w':Zy):Prop:=
 e= .returned (.bool bL)/\xb (fun x=>lo<=x) w w'/\∃r' s' k',Pl cv tv lo B b r' s' k' w'/\r'.cnt<=r.cnt+2/\r'.op<=r.op+1/\s'.bP<=s.bP+1
def SR(N M:Int)(S T:Zl)(h:Pl cv tv lo B b r s k w)(y:r.cnt<=29):
  bE prog 33 #[zo b,zo B,jH 5 N M S T] w (iY cv tv lo B b r s w):=by
 have m:Hid<|Nw w<|w.alloc<|.cells #[zi 5,zi N,zi M,zs S,zs T] 39:=Nw.alloc _ _;have a:=zl<|h.nw m.o;clear h;unfold jH;go_enter func33.1,Tryz.ntmps33
 go_wp2_with fail
 generalize w.alloc (.cells #[zi 5,zi N,zi M,zs S,zs T] 39)=w1 at*;obtain⟨q,j⟩:=a.o.inv.sync a.o.sn (by omega);have f:=zl j;have c:=j.run;refine(vA B r s _ a.o.st a.o.sn a.o.ok a.o.wC a.o.inv.P<|by rw[c];simp).mono ?_;rintro e C ⟨v,z,n,rfl,i⟩;rw[c]at n;cases n;have T2:=zl i;have p:=zl<|jt.fI a.o.st i a.o.bk;have l:k.recs<=1000000:=by have:=a.o.fI.recs;omega
 clear i j c
 go_wp2_with fail
 refine(QV b k l _ p.o).mono ?_;rintro e t ⟨rfl,d,g⟩;have o:Hid<|iY cv tv lo B b r s w (.returned<|.bool bL) t:=by
  refine⟨rfl,((m.o.mono fun _ x=>x.elim).trans<|a.o.old T2.o d),q,r.ses1 s,k.synced,a.o.to T2.o d g f.o.sn f.o.inv<|QU a.o.fI f.o, ?_, ?_, ?_⟩;rw[f.o.cnt];split<;>omega
  rw[f.o.keep.op];omega;rw[f.o.bP];omega
 clear d g
 go_wp2_with fail
 go_ret
 exact o.o
def SJ(N M:Int)(S T:Zl)(h:Pl cv tv lo B b r s k w)(m:r.cnt<=29):
  bE prog 33 #[zo b,zo B,jH 4 N M S T] w (iY cv tv lo B b r s w):=by
 have f:Hid<|Nw w<|w.alloc<|.cells #[zi 4,zi N,zi M,zs S,zs T] 39:=Nw.alloc _ _;have a:=zl<|h.nw f.o;clear h;unfold jH;go_enter func33.1,Tryz.ntmps33;have l:(w.alloc<|.cells #[zi 4,zi N,zi M,zs S,zs T] 39).cell? (zq b 1)=bO k.sv:=a.o.bk.blk.cell 1 rfl
 go_wp2_with fail
 generalize w.alloc (.cells #[zi 4,zi N,zi M,zs S,zs T] 39)=w1 at*;have c:=a.o.fI.seen;refine(Pp B r s _ k.sv _ a.o.st a.o.sn a.o.inv.P20 (fun p i=>by have:=(TF a.o.inv p i).2.1;omega) (by have:=EP a.o.inv;omega) a.o.bk.seen (by rw[c];exact(KN _).symm)<|by rw[c];exact D8 a.o.inv a.o.sn).mono ?_;rintro e j ⟨rfl,d⟩;have g:Hid<|iY cv tv lo B b r s w (.returned<|.bool bL) j:=⟨rfl,((f.o.trans d).mono fun _ x=>x.elim),r,s,k,a.o.nw d,by omega,by omega,by omega⟩;clear d c
 go_wp2_with fail
 go_ret
 exact g.o
def Hm(N M:Int)(S T:Zl)(h:Pl cv tv lo B b r s k w)(J:r.cnt<=29):
  bE prog 33 #[zo b,zo B,jH 1 N M S T] w (iY cv tv lo B b r s w):=by
 have q:Hid<|Nw w<|w.alloc<|.cells #[zi 1,zi N,zi M,zs S,zs T] 39:=Nw.alloc _ _;have X0:Hid<|xx (w.alloc<|.cells #[zi 1,zi N,zi M,zs S,zs T] 39) w.heap.size #[zi 1,zi N,zi M,zs S,zs T] 39:=xx.new _ _ _;have a:=zl<|h.nw q.o;clear h;unfold jH;go_enter func33.1,Tryz.ntmps33;have E:=X0.o.cell 0 rfl;have F:=X0.o.cell 1 rfl;have G:=X0.o.cell 2 rfl;have H:=X0.o.cell 3 rfl;have I:=X0.o.cell 4 rfl
 go_wp2_with fail
 generalize w.alloc (.cells #[zi 1,zi N,zi M,zs S,zs T] 39)=w1 at*;refine(zzw B b r s k N M S T _ a.o.st a.o.bk a.o.sn a.o.inv.P20 a.o.fI.pend<|by rw[a.o.fI.seen,KZ];have:=EP a.o.inv;omega).mono ?_;rintro e D ⟨rfl,z,y,j,d⟩;obtain⟨C,i,g,f,m,o,p⟩:=dE a.o.inv a.o.sn a.o.fI j;have t:Hid<|iY cv tv lo B b r s w (.returned<|.bool bL) D:=by
  have v:=a.o.size;have n:=a.o.l4;have l:=a.o.bl;refine⟨rfl,(q.o.mono fun _ x=>x.elim).trans<|d.but.mono fun x c=>?_,z,C,y,⟨d.st,d.bk,i,g,f,fun x c=>?_,n,l,a.o.wC.but d.but fun x c=>?_⟩,by omega,by omega,by omega⟩;rcases c with c|c
  exact a.o.own x c;omega;rcases d.own x c with c|c
  exact a.o.own x c;omega;rcases c with c|c
  have:=a.o.own x c;omega;omega
 clear j d i g f m o p
 go_wp2_with fail
 go_ret
 exact t.o
def Hj(N M:Int)(S T:Zl)(h:Pl cv tv lo B b r s k w)(J:r.cnt<=29):
  bE prog 33 #[zo b,zo B,jH 2 N M S T] w (iY cv tv lo B b r s w):=by
 have q:Hid<|Nw w<|w.alloc<|.cells #[zi 2,zi N,zi M,zs S,zs T] 39:=Nw.alloc _ _;have X0:Hid<|xx (w.alloc<|.cells #[zi 2,zi N,zi M,zs S,zs T] 39) w.heap.size #[zi 2,zi N,zi M,zs S,zs T] 39:=xx.new _ _ _;have a:=zl<|h.nw q.o;clear h;unfold jH;go_enter func33.1,Tryz.ntmps33;have E:=X0.o.cell 0 rfl;have F:=X0.o.cell 1 rfl;have G:=X0.o.cell 2 rfl;have H:=X0.o.cell 3 rfl;have I:=X0.o.cell 4 rfl
 go_wp2_with fail
 generalize w.alloc (.cells #[zi 2,zi N,zi M,zs S,zs T] 39)=w1 at*;refine(zzv B b r s k N M S T _ a.o.st a.o.bk a.o.sn a.o.inv.P20 a.o.fI.pend<|by rw[a.o.fI.seen,KZ];have:=EP a.o.inv;omega).mono ?_;rintro e D ⟨rfl,z,y,j,d⟩;obtain⟨C,i,g,f,m,o,p⟩:=dE a.o.inv a.o.sn a.o.fI j;have t:Hid<|iY cv tv lo B b r s w (.returned<|.bool bL) D:=by
  have v:=a.o.size;have n:=a.o.l4;have l:=a.o.bl;refine⟨rfl,(q.o.mono fun _ x=>x.elim).trans<|d.but.mono fun x c=>?_,z,C,y,⟨d.st,d.bk,i,g,f,fun x c=>?_,n,l,a.o.wC.but d.but fun x c=>?_⟩,by omega,by omega,by omega⟩;rcases c with c|c
  exact a.o.own x c;omega;rcases d.own x c with c|c
  exact a.o.own x c;omega;rcases c with c|c
  have:=a.o.own x c;omega;omega
 clear j d i g f m o p
 go_wp2_with fail
 go_ret
 exact t.o
def zqo{B:Nat}{r r1:Sr}{x:Nat}(f:r.sn=bO s)(S:BH r s r1)(hx:r1.own B x):r.own B x:=by
 rcases hx with e|(e|e|⟨c,b,_⟩)|⟨t,d,hx⟩;exact .inl e;exact .inr (.inl<|.inl<|by rw[<-S.keep.D];exact e);exact .inr (.inl<|.inr<|.inl<|by rw[<-S.keep.M];exact e);rw[S.inv.nx]at b;cases b;rw[S.sn]at d;cases d;refine .inr<|.inr ⟨s,f, ?_⟩;unfold Sr.ses1 at hx;split at hx;exact hx;rcases hx with e|e|⟨a,n,c,g,e⟩;exact .inl e;exact .inr<|.inl e;cases g
def Pl.ok1{r r1:Sr}(h:Pl cv tv lo B b r s k w)(S:BH r s r1):fV B r1:=fV.of S.inv (.inl S.sn) fun x a=>by have:=h.own x<|zqo h.sn S a;have:=h.l4;omega
def Hn(N M:Int)(S T:Zl)(h:Pl cv tv lo B b r s k w)(Q:r.cnt<=29):
  bE prog 33 #[zo b,zo B,jH 6 N M S T] w (iY cv tv lo B b r s w):=by
 have N0:Hid<|Nw w<|w.alloc<|.cells #[zi 6,zi N,zi M,zs S,zs T] 39:=Nw.alloc _ _;have a:=zl<|h.nw N0.o;clear h;unfold jH;go_enter func33.1,Tryz.ntmps33
 go_wp2_with fail
 generalize w.alloc (.cells #[zi 6,zi N,zi M,zs S,zs T] 39)=w1 at*;have bb:=a.o.inv.rotate a.o.sn (by omega);obtain⟨r2,O⟩:=a.o.inv.sync a.o.sn (by omega);have l:∀U,r.bW s=(bO 0,U)->fV B U:=fun U e=>by rw[O.run]at e;cases e;exact a.o.ok1 O
 have L:k.recs<=1000000:=by have:=a.o.fI.recs;omega
 have bd:k.synced.recs<=1000000:=by have:=a.o.fI.recs;show(if 0<k.pend then k.recs+1 else k.recs)<=_;split<;>omega
 have i:=a.o.fI.ep;rcases bb with⟨R,I,d,f⟩|⟨R,U,I,V,f,d,C,o,n,t,F,G,z,y⟩
 ·refine(Qo B r s _ a.o.st a.o.sn a.o.ok l a.o.wC a.o.inv.P (by have:=a.o.inv.ep;omega)<|by rw[d];simp).mono ?_
  rintro e w2 ⟨v,bc,K,rfl,E⟩;rw[d]at K;cases K;have T2:=zl E;have Z:=zl<|jt.fI a.o.st E a.o.bk;have m:=zl f;have HE:=zl<|i.trans R;clear E O f d l i R
  go_wp2_with fail
  refine(QV b k L _ Z.o).mono ?_;rintro e p ⟨rfl,j,c⟩;have c3:p.cell? (zq b 3)=bO (zi 5):=(c.blk.cell 3 rfl).trans (by show bO (zi k.ep)=_;rw[HE.o];rfl);have X:Hid<|iY cv tv lo B b r s w (.returned<|.bool bL) p:=by
   refine⟨rfl,((N0.o.mono fun _ x=>x.elim).trans<|a.o.old T2.o j),I,r.ses1 s,k.synced,a.o.to T2.o j c m.o.sn m.o.inv<|QU a.o.fI m.o, ?_, ?_, ?_⟩;rw[m.o.cnt];split<;>omega
   rw[m.o.keep.op];omega;rw[m.o.bP];omega
  clear j c
  go_wp2_with fail
  go_ret
  exact X.o
 refine(Qo B r s _ a.o.st a.o.sn a.o.ok l a.o.wC a.o.inv.P (by have:=a.o.inv.ep;omega)<|by rw[d];simp).mono ?_;rintro e w2 ⟨v,bc,K,rfl,E⟩;rw[d]at K;cases K;have T2:=zl E;have Z:=zl<|jt.fI a.o.st E a.o.bk;have bf:¬(k.ep:Int)=5:=by rw[i];omega
 have be:k.ep<=5:=by rw[i];exact a.o.inv.ep
 have J:=zl<|QU a.o.fI f;have HQ:Hid<|∀H:gZ,H.seen=k.synced.seen->H.kept=k.synced.kept->H.pend=k.synced.pend->H.ep=k.synced.ep+1->H.recs=k.synced.recs+1->Bk I V H:=fun H e1 e2 e3 e4 e5=>by
  have hn:V.now=(r.ses1 s).now:=by unfold Jo.now;rw[F,G,f.P]
  exact⟨by rw[e1,hn];exact J.o.seen,by rw[e2,F];exact J.o.kept,by rw[e3,J.o.pend,G,f.P],by rw[e4,J.o.ep,f.ep,t],by rw[e5,J.o.recs,n]⟩
 have HI:=zl o;have Y:=zl C;have W:Hid<|I.cnt<=r.cnt+2/\I.op<=r.op+1/\V.bP<=s.bP+1:=by
  refine⟨?_, ?_, ?_⟩;rw[n,f.cnt];split<;>omega
  rw[y.op];omega;rw[z];omega
 clear E O f d l i R o C n t F G z y
 go_wp2_with fail
 refine(QV b k L _ Z.o).mono ?_;rintro e p ⟨rfl,j,c⟩;have c3:p.cell? (zq b 3)=bO (zi k.ep):=c.blk.cell 3 rfl;have c4:p.cell? (zq b 4)=bO (zi k.synced.recs):=c.blk.cell 4 rfl;have f3:=c.blk.bT 3;have f4:=c.blk.bT 4;have i1:IntKind.i64.wrap ((k.ep:Int)+1)=(k.ep:Int)+1:=by rw[xn];omega
 have i2:IntKind.i64.wrap ((k.synced.recs:Int)+1)=(k.synced.recs:Int)+1:=by rw[xn];omega
 have X:Hid<|iY cv tv lo B b r s w (.returned<|.bool bL)<|(p.setCell (zq b 3)<|zi<|(k.ep:Int)+1).setCell (zq b 4)<|zi<|(k.synced.recs:Int)+1:=by
  have q:xb (·=b) p<|(p.setCell (zq b 3)<|zi<|(k.ep:Int)+1).setCell (zq b 4)<|zi<|(k.synced.recs:Int)+1:=(xb.set p (zq b 3) _).trans<|xb.set _ (zq b 4) _;have ba:W6 ((p.setCell (zq b 3)<|zi<|(k.ep:Int)+1).setCell (zq b 4)<|zi<|(k.synced.recs:Int)+1) b {k.synced with ep:=k.ep+1,recs:=k.synced.recs+1}:=
   ⟨(c.blk.set 3 _).set 4 _,c.kept.but q fun g D Q=>c.blk.dR (by decide) g D Q,c.seen.but q fun g D Q=>c.blk.dR (by decide) g D Q⟩
  exact⟨rfl,((N0.o.mono fun _ x=>x.elim).trans<|a.o.old T2.o<|j.trans q),I,V,_,a.o.to T2.o (j.trans q) ba Y.o HI.o<|HQ.o _ rfl rfl rfl rfl rfl,W.o.1,W.o.2.1,W.o.2.2⟩
 clear j c;generalize k.synced.recs=rc at*
 go_wp2_with fail
 go_ret
 exact X.o
def wI(h:Pl cv tv lo B b r s k w):
  bE prog 62 #[zo b] w fun e w'=>e= .returned (zi<|lW k.seen)/\Nw w w':=by
 have a:=h.fI.seen;exact xod b k (by rw[a];exact(cX h.inv.oN).sK<|TF h.inv) (by rw[a,KZ];have:=EP h.inv;omega) _ h.bk
def wH(h:Pl cv tv lo B b r s k w)(Q:r.cnt<=31)(D:s.bP<999)(J:lW k.seen<=10000):
  bE prog 41 #[zo B] w fun e w'=>e= .returned (zi 0)/\∃r' s',jt B r w r' w'/\r'.sn=bO s'/\Wy r' s'/\Bk r' s' k.synced/\(r'.cnt<=r.cnt+2/\r'.op<=r.op+1/\s'.bP<=s.bP+1)/\Two r'.d.L (lW k.seen):=by
 have o:=h.fI.seen;have C:(Vf s.now).length=lW k.seen:=by rw[zx5,<-o]
 obtain⟨x,r',s',a,f,t,g,j,l,m,q,c,n,z,E⟩:=h.inv.GH h.sn (by omega) D (by omega);have p:∀x,r.bW s=(bO 0,x)->fV B x/\x.d.L.length+2<1000000/\jM (r.ses1 s).L/\(r.ses1 s).L.length<=1000000/\0<=(r.ses1 s).bP/\(r.ses1 s).bP<=999/\(qu x.d.L<|Ye (r.ses1 s).named).length<=900000:=fun M e=>by
  rw[a.run]at e;cases e;have y:=a.inv.few;have N:=a.inv.cnt;have F:=a.inv.len;have H:=a.inv.sh0;have O:=a.bP;refine⟨h.ok1 a,by omega,a.inv.sK,by omega,H,by omega,by rw[z];simp⟩
 have G:Bk r' s' k.synced:=by
  have i:=QU h.fI a;have I:s'.now=(r.ses1 s).now:=by unfold Jo.now;rw[j,l,a.P]
  exact⟨by rw[I];exact i.seen,by rw[j];exact i.kept,by rw[i.pend,l,a.P],by rw[i.ep,a.ep,m],by rw[i.recs,c]⟩
 refine(zvy B r s _ h.st h.sn h.ok p h.wC h.inv.P (by have:=h.inv.ep;omega)<|by rw[f];simp).mono ?_;rintro e R ⟨v,K,y,rfl,F⟩;rw[f]at y;cases y;refine⟨rfl,r',s',F,t,g,G,⟨?_, ?_, ?_⟩,C▸E⟩;rw[c,a.cnt];split<;>omega
 rw[n.op];omega;rw[q];omega
def SP(N M:Int)(S T:Zl)(h:Pl cv tv lo B b r s k w)(L:r.cnt<=29)(p:s.bP<999):
  bE prog 33 #[zo b,zo B,jH 7 N M S T] w (iY cv tv lo B b r s w):=by
 have q:Hid<|Nw w<|w.alloc<|.cells #[zi 7,zi N,zi M,zs S,zs T] 39:=Nw.alloc _ _;have i:=zl<|h.nw q.o;clear h;unfold jH;go_enter func33.1,Tryz.ntmps33
 go_wp2_with fail
 generalize w.alloc (.cells #[zi 7,zi N,zi M,zs S,zs T] 39)=w1 at*;refine(wI i.o).mono ?_;rintro e C ⟨rfl,c⟩;have d:=zl<|i.o.nw c;have t:Hid<|Nw w C:=q.o.trans c;clear c;by_cases G:10000<lW k.seen
 ·have H:(10000:Int)<(lW k.seen:Int):=by omega
  have l:Hid<|iY cv tv lo B b r s w (.returned<|.bool bL) C:=⟨rfl,(t.o.mono fun _ x=>x.elim),r,s,k,d.o,by omega,by omega,by omega⟩
  go_wp2_with fail
  go_ret
  exact l.o
 have H:¬(10000:Int)<(lW k.seen:Int):=by omega
 have o:k.recs<=1000000:=by have:=i.o.fI.recs;omega
 go_wp2_with fail
 refine(wH d.o (by omega) p<|by omega).mono ?_;rintro e O ⟨rfl,I,J,n,g,z,v,y,_⟩;have T2:=zl n;have F:=zl<|jt.fI d.o.st n d.o.bk;have m:=zl g;have E:=zl z;have D:=zl v;have j:=zl y;clear n g z v y
 go_wp2_with fail
 refine(QV b k o _ F.o).mono ?_;rintro e K ⟨rfl,a,f⟩;have l:Hid<|iY cv tv lo B b r s w (.returned<|.bool bL) K:=⟨rfl,((t.o.mono fun _ x=>x.elim).trans<|d.o.old T2.o a),I,J,k.synced,d.o.to T2.o a f m.o E.o D.o,j.o.1,j.o.2.1,j.o.2.2⟩;clear a f
 go_wp2_with fail
 go_ret
 exact l.o
def SM(a N M:Int)(S T:Zl)(h:Pl cv tv lo B b r s k w)(o:r.cnt<=29)(e:¬a=1)(f:¬a=2)(g:¬a=3)(i:¬a=4)(j:¬a=5)(l:¬a=6)(m:¬a=7)(n:¬a=8):
  bE prog 33 #[zo b,zo B,jH a N M S T] w (iY cv tv lo B b r s w):=by
 have c:Hid<|Nw w<|w.alloc<|.cells #[zi a,zi N,zi M,zs S,zs T] 39:=Nw.alloc _ _;have d:=zl<|h.nw c.o;clear h;unfold jH;go_enter func33.1,Tryz.ntmps33
 go_wp2_with fail
 generalize w.alloc (.cells #[zi a,zi N,zi M,zs S,zs T] 39)=w1 at*
 go_ret
 exact⟨rfl,(c.o.mono fun _ x=>x.elim),r,s,k,d.o,by omega,by omega,by omega⟩
def Hk(N M:Int)(S T:Zl)(h:Pl cv tv lo B b r s k w)(hc:r.cnt<=29):
  bE prog 33 #[zo b,zo B,jH 3 N M S T] w (iY cv tv lo B b r s w):=by
 have N0:Hid<|Nw w<|w.alloc<|.cells #[zi 3,zi N,zi M,zs S,zs T] 39:=Nw.alloc _ _;have X0:Hid<|xx (w.alloc<|.cells #[zi 3,zi N,zi M,zs S,zs T] 39) w.heap.size #[zi 3,zi N,zi M,zs S,zs T] 39:=xx.new _ _ _;have m:=zl<|h.nw N0.o;clear h;unfold jH;go_enter func33.1,Tryz.ntmps33;have a3:(w.alloc<|.cells #[zi 3,zi N,zi M,zs S,zs T] 39).cell? (zq w.heap.size 3)=bO (zs S):=X0.o.cell 3 rfl
 go_wp2_with fail
 generalize w.alloc (.cells #[zi 3,zi N,zi M,zs S,zs T] 39)=w1 at*;refine(TM B r S _ m.o.st fun t ht=>by rw[m.o.sn]at ht;cases ht;exact m.o.inv.P20).mono ?_;rintro e G ⟨rfl,z⟩;have U:=zl<|m.o.nw z;have N2:Hid<|Nw w G:=N0.o.trans z;have X2:=zl<|X0.o.nw z;have Q:Hid<|∀w',Nw G w'->iY cv tv lo B b r s w (.returned<|.bool bL) w':=fun w' y=>⟨rfl,((N2.o.trans y).mono fun _ x=>x.elim),r,s,k,U.o.nw y,by omega,by omega,by omega⟩;have W:Hid (r.gets S=if Ve S=bK then(([],6):Zl×Int)else match Zh s.now S with
  |none=>([],8)
  |some v=>(v,0)):=SY m.o.sn S
 clear a3 z;have b3:G.cell? (zq w.heap.size 3)=bO (zs S):=X2.o.cell 3 rfl;by_cases c:Ve S=bK
 ·have e1:r.gets S=([],6):=by rw[W.o,aA c]
  rw[e1];have bc:=xo [];have d:¬(0<S.length/\S.length<=16):=by simpa[Ve]using c
  by_cases hl:S.length<1
  ·have i1:((S.length:Nat):Int)<1:=by omega
   clear e1 c d
   go_wp2_with fail
   go_ret
   exact Q.o _<|xb.refl _ _
  have i1:¬((S.length:Nat):Int)<1:=by omega
  have i2:16<((S.length:Nat):Int):=by omega
  clear e1 c d
  go_wp2_with fail
  go_ret
  exact Q.o _<|xb.refl _ _
 have d:0<S.length/\S.length<=16:=by simpa[Ve]using c
 have i1:¬((S.length:Nat):Int)<1:=by omega
 have i2:¬16<((S.length:Nat):Int):=by omega
 obtain⟨p,g,bf,O,be,D⟩:=id U.o.bk.seen;have Z:=(U.o.bk.blk.cell 1 rfl).trans<|congrArg bO O;have V:=zl Z;have HR:=zl D;have a:=zl m.o.fI.seen;have bh:k.seen.length<=1000:=by rw[a.o,KZ];exact EP m.o.inv
 have f:Hid<|∀j (h:j<k.seen.length),k.seen[j].1=S->r.gets S=(k.seen[j].2,0):=fun j h e=>by
  have hg:=D8 m.o.inv m.o.sn;have R:=a.o;have h':j<(fD s.now).length:=by rw[<-R];exact h
  have:=hg j h';have e2:(fD s.now)[j]=k.seen[j]:=by simp only[R]
  rw[e2,e]at this;exact this
 have E:Hid<|(∀j (h:j<k.seen.length),k.seen[j].1≠S)->r.gets S=([],8):=fun C=>by
  have R:=a.o;have:Zh s.now S=bN:=by
   rw[<-yH,<-R];refine QC fun hm=>?_;obtain⟨q,hq,e⟩:=qp.1 hm;obtain⟨j,hj,rfl⟩:=List.mem_iff_getElem.1 hq;exact C j hj e
  rw[W.o,aB c,this]
 obtain⟨gv,ge,F⟩:∃gv ge,r.gets S=(gv,ge):=⟨_,_,rfl⟩;have H:=zl F;rw[F];clear c D O F W d a Z;generalize k.seen=l at*
 go_wp2_with fail
 go_loopw [9] (fun i wr=>∃j:Nat,j<=l.length/\i=zi j/\Nw G wr/\∀n (h:n<l.length),n<j->l[n].1≠S) (fun i _=>(l.length-intOf i).toNat)
 case atStart=>exact⟨0,by omega,rfl,xb.refl _ _,fun n h y=>absurd y<|Wd _⟩
 case round=>
  obtain⟨j,hj,rfl,y,C⟩:=hrel;have K:=zl y;have HJ:=zl C;have Z:=y.cell id V.o;clear y C;by_cases o:j<l.length
  ·have i3:(j:Int)<(l.length:Nat):=by omega
   have i0:(0:Int)<=(j:Int):=by omega
   have bd:l≠[]:=by intro e;rw[e]at o;cases o
   obtain⟨rfl,hr⟩:=HR.o bd;have h1:=(hr.but K.o id).cell j o;have s0:=h1.1;have s1:=h1.2;have s2:wr.cell? (zq w.heap.size 3)=bO (zs S):=(X2.o.nw K.o).cell 3 rfl;have HK:Hid<|l[j].1=S->(gv,ge)=(l[j].2,(0:Int)):=fun e=>H.o.symm.trans<|f.o j o e;have I:Hid (l[j].1≠S->∀n (h:n<l.length),n<j+1->l[n].1≠S):=fun e n h y=>by
    by_cases e2:n=j;subst e2;exact e;exact HJ.o n h<|by omega
   generalize l[j].1=qk at*;generalize l[j].2=qv at*;clear hr h1 E f;by_cases L:qk=S
   ·have bb:=HK.o L
    cases bb;subst L
    go_wp2_with fail
    go_quiet (fail)
    have Y:Hid<|Nw G<|wr.drewN nq:=K.o.trans (xb.refl _ _).drewN'
    go_wp2_with fail
    go_ret
    exact Q.o _ Y.o
   have bg:((st qk).toList==(st S).toList)=bK:=by rw[xo,xo];simpa using L
   have J:=I.o L;have X:=zl J;clear J I HK L
   go_wp2_with fail
   go_quiet (fail)
   have Y:Hid<|Nw G<|wr.drewN nq:=K.o.trans (xb.refl _ _).drewN'
   go_wp2_with fail
   go_roundw
   case rel=>exact⟨j+1,by omega,by go_num,Y.o,X.o⟩
   case measure=>simp[intOf];omega
  obtain rfl:j=l.length:=by omega
  have i3:¬(l.length:Int)<(l.length:Nat):=by omega
  have ba:=H.o.symm.trans<|E.o fun n h=>HJ.o n h h;cases ba;have bc:=xo [];clear E f HR
  go_wp2_with fail
  go_ret
  exact Q.o _ K.o
noncomputable def sH:=Qf Tryz.f33.body
noncomputable def xxr:=Qa sH
noncomputable def xxs:=Qa<|Qa<|Qb sH
noncomputable def gV:=Qb<|Qb sH
noncomputable def UQ:=Qk<|Qb<|Qa<|Qb sH
noncomputable def xxt:=Qa UQ
noncomputable def xwu:=Qc<|Qb UQ
noncomputable def WV:=Qd<|Qb UQ
noncomputable def xxu:=Qa WV
noncomputable def xwv:=Qc<|Qb WV
noncomputable def WW:=Qd<|Qb WV
noncomputable def xxv:=Qa WW
noncomputable def xww:=Qc<|Qb WW
noncomputable def WX:=Qd<|Qb WW
noncomputable def xxw:=Qa WX
noncomputable def xwx:=Qc<|Qb WX
noncomputable def WY:=Qd<|Qb WX
noncomputable def xxx:=Qa WY
noncomputable def xwy:=Qc<|Qb WY
noncomputable def WZ:=Qd<|Qb WY
noncomputable def xxy:=Qa WZ
noncomputable def xwz:=Qc<|Qb WZ
noncomputable def XB:=Qd<|Qb WZ
noncomputable def xxz:=Qa XB
noncomputable def xx0:=Qa<|Qc<|Qb XB
noncomputable def z33:=Qb<|Qb<|Qc<|Qb XB
noncomputable def UZ:=Qa<|Qb<|Qc<|Qb<|Qd<|Qb<|Qd<|Qb<|Qd<|Qb<|Qd<|Qb<|Qd<|Qb<|Qd<|Qb<|Qk<|Qb<|Qa<|Qb<|Qf Tryz.f33.body
def xqo:Tryz.f33.body=bO (.seq xxr<|.seq (.seq xxs<|.block 0<|.seq xxt<|.cond (.tmp 19) xwu<|.seq xxu<|.cond (.tmp 26) xwv<|.seq xxv<|.cond (.tmp 91) xww<|.seq xxw<|.cond (.tmp 100) xwx<|.seq xxx<|.cond (.tmp 108) xwy<|.seq xxy<|.cond (.tmp 137) xwz<|.seq xxz<|.cond (.tmp 149) (.seq xx0<|.seq UZ z33) .skip) gV):=by kernel_rfl
def V2:¬Mc bM 33:=xO (by decide) (by decide) Tryz.func33
def Vz{Q:Exit->Act->Zy->Prop}(h:kT Q){id:Nat}:kT (fun e a' w'=>match e with
  | .exit j=>if j=id then Q .normal a' w' else Q (.exit j) a' w'
  |e=>Q e a' w'):=by
 intro e a w t d;cases e with
 |exit j=>
  dsimp only;split;exact h _ _ _ _ _;exact h _ _ _ _ _
 |normal=>exact h _ _ _ _ _
 |goto l=>exact h _ _ _ _ _
 |ret=>exact h _ _ _ _ _
 |panic ch=>exact h _ _ _ _ _
 |outgrown=>exact h _ _ _ _ _
def Bb{w w':Zy}{e:Ending}{t:Nat->Question->Nat}{d:Nat}:iY cv tv lo B b r s w e (re w' t d)↔iY cv tv lo B b r s w e w':=by
 have n1:Nw w'<|re w' t d:=Nw.gL (xb.refl _ _) t d;have k:Nw (re w' t d) w':=⟨rfl,rfl,ze _,fun _ _ _=>rfl⟩;constructor;rintro⟨a,c,i,j,h,f,g⟩;exact⟨a,xb.re c,i,j,h,f.nw k,g⟩;rintro⟨a,c,i,j,h,f,g⟩;exact⟨a,c.trans<|n1.mono fun _ x=>x.elim,i,j,h,f.nw n1,g⟩
def Wy.tV(I:Wy r s)(x:Option Jo):Wy {r with sn:=x} s:=by
 obtain⟨a,b,q,L,D⟩:=I.dsk;exact⟨⟨a,b,q,L,⟨D.ok,D.cnt,D.tag,D.ep,D.same,D.base,D.last,D.named⟩⟩,I.mark,I.gd,I.each,I.nx,I.room,I.lim,I.fus,I.rC,I.cnt,I.P,I.P20,I.sK,I.len,I.ep,I.op,I.named,I.sh0⟩
def Wy.fP{B:Nat}{x:Nat}(hx:r.shut.own B x):r.own B x:=by
 rcases hx with e|e|⟨t,a,_⟩;exact .inl e;exact .inr<|.inl e;cases a
def SO(N M:Int)(S T:Zl)(h:Pl cv tv lo B b r s k w)(hop:r.op<999):
  CC bM 33 #[zo b,zo B,jH 8 N M S T] w (iY cv tv lo B b r s w):=by
 have hQ:kT<|nJ bM funcs Tryz.f33<|iY cv tv lo B b r s w:=AO fun e w' t d=>Bb;refine CC.fA bQ V2 (bZ rfl Tryz.func33 rfl).1 Tryz.func33 xqo ?_;rw[show Tryz.f33.ntmps=171 from rfl];generalize hPX:nJ bM funcs Tryz.f33 (iY cv tv lo B b r s w)=PX at hQ;unfold jH;simp only[jg,zh,jn,Nat.reduceAdd,Nat.reduceSub,qw,qx,Z7,Zi,jk,jc];refine gG V2 hQ fun w1 b6 bq ba br=>?_;have N1:Hid<|Nw w<|w1.alloc<|.cells #[zi 8,zi N,zi M,zs S,zs T] 39:=(ji bq).trans<|Nw.alloc _ _;have X1:Hid<|xx (w1.alloc<|.cells #[zi 8,zi N,zi M,zs S,zs T] 39) w1.heap.size #[zi 8,zi N,zi M,zs S,zs T] 39:=xx.new _ _ _;have H0:=zl h;have m:=zl hQ;have bp:=zl hPX;clear h hQ hPX br
 conv=>arg 2;whnf
 go_wp2_with fail
 refine ba.o _ _ ?_;clear ba;generalize w1.alloc (.cells #[zi 8,zi N,zi M,zs S,zs T] 39)=wA at*;refine Xn.seq bQ V2 trivial ?_;refine gG V2 m.o.dV fun w2 b7 O bb bs=>?_;have c0:w2.cell? (zq w1.heap.size 0)=bO (zi 8):=(X1.o.nw<|ji O).cell 0 rfl;have N2:Hid<|Nw w w2:=N1.o.trans<|ji O;clear bs
 conv=>arg 2;whnf
 go_wp2_with fail
 refine bb.o _ _ ?_;clear bb c0;refine Xn.block bQ V2 ?_;refine gG V2 (Vz m.o.dV) fun v0 bv Q o bd=>?_;have M0:Hid<|Nw w v0:=N2.o.trans<|ji Q;clear bd
 conv=>arg 2;whnf
 go_wp2_with fail
 refine o.o _ _ ?_;clear o;refine Xn.cond bQ V2 rfl ?_;simp only[xu,if_false];refine gG V2 (Vz m.o.dV) fun v1 bw U p be=>?_;have M1:Hid<|Nw w v1:=M0.o.trans<|ji U;clear be
 conv=>arg 2;whnf
 go_wp2_with fail
 refine p.o _ _ ?_;clear p;refine Xn.cond bQ V2 rfl ?_;simp only[xu,if_false];refine gG V2 (Vz m.o.dV) fun v2 bx V q bf=>?_;have M2:Hid<|Nw w v2:=M1.o.trans<|ji V;clear bf
 conv=>arg 2;whnf
 go_wp2_with fail
 refine q.o _ _ ?_;clear q;refine Xn.cond bQ V2 rfl ?_;simp only[xu,if_false];refine gG V2 (Vz m.o.dV) fun v3 bz W y bg=>?_;have M3:Hid<|Nw w v3:=M2.o.trans<|ji W;clear bg
 conv=>arg 2;whnf
 go_wp2_with fail
 refine y.o _ _ ?_;clear y;refine Xn.cond bQ V2 rfl ?_;simp only[xu,if_false];refine gG V2 (Vz m.o.dV) fun v4 b0 X z bh=>?_;have M4:Hid<|Nw w v4:=M3.o.trans<|ji X;clear bh
 conv=>arg 2;whnf
 go_wp2_with fail
 refine z.o _ _ ?_;clear z;refine Xn.cond bQ V2 rfl ?_;simp only[xu,if_false];refine gG V2 (Vz m.o.dV) fun v5 b1 Y C bi=>?_;have M5:Hid<|Nw w v5:=M4.o.trans<|ji Y;clear bi
 conv=>arg 2;whnf
 go_wp2_with fail
 refine C.o _ _ ?_;clear C;refine Xn.cond bQ V2 rfl ?_;simp only[xu,if_false];refine gG V2 (Vz m.o.dV) fun v6 b2 Z D bj=>?_;have M6:Hid<|Nw w v6:=M5.o.trans<|ji Z;clear bj
 conv=>arg 2;whnf
 go_wp2_with fail
 refine D.o _ _ ?_;clear D;refine Xn.cond bQ V2 rfl ?_;simp only[if_true];refine gG V2 (Vz m.o.dV) fun v7 b3 n E bl=>?_;have f:=zl<|H0.o.nw<|M6.o.trans<|ji n;have M7:Hid<|Nw w v7:=M6.o.trans<|ji n;clear bl
 conv=>arg 2;whnf
 go_wp2_with fail
 refine(x_ B r _ f.o.st).mono ?_;rintro e w8 ⟨rfl,H⟩;have T8:=zl H;have K8:=zl<|jt.fI f.o.st H f.o.bk;rw[show(if r.sn.isSome then(0:Int)else 5)=0 by rw[f.o.sn];rfl];clear H
 go_wp2_with fail
 refine E.o _ _ ?_;clear E;have G8:=zl (f.o.wC.but T8.o.but fun x hx=>by have:=f.o.own x hx;have:=f.o.l4;omega);have l:CC bM 13 #[zo B] w8<|FH B r.shut w8:=by
  refine G_ (cv:=cv) (tv:=tv) T8.o.at_ rfl hop (fV.of (s:=s) (f.o.inv.tV bN) (.inr rfl) fun x hx=>by have:=f.o.own x<|Wy.fP hx;have:=f.o.l4;omega) G8.o (fun i=>by have:=f.o.inv.jD i;show(qu r.d.L i).length<=_;omega) fun mp=>?_;obtain⟨F,L,R⟩:=f.o.inv.reopen mp;have hl:=R.rC;exact⟨F,L,R.look,by show(Xi F r.d).1=bL;rw[R.mend],(fun ht=>absurd (R.dD.symm.trans ht)<|by simp),by omega,by omega⟩
 refine Xn.seq bQ V2 trivial ?_
 conv=>arg 3;whnf
 refine Xn.dB bQ V2 ?_;refine Jc.value (val:=zo B) (w':=w8) bQ V2 rfl (fun t d=>⟨t,d,by show(bG _ _).run prog _=_;simp[bG,go_sem]⟩) ?_;refine Jc.call bQ V2 rfl rfl (fun v=>by show(bG _ _).run prog _=_;simp[bG,go_sem,resolve,Act.put]) (bZ rfl Tryz.func13 rfl) l ?_ ?_;rotate_left;rintro ch w9 ⟨he,_⟩;cases he;rintro v w9 ⟨he,mp,F,L,J,bn,I⟩;cases he;obtain⟨b8,L',R⟩:=f.o.inv.reopen mp;have bt:=bn.symm.trans R.look;cases bt;have T9:Hid<|jt B r v7 (Wp r F J L) w9:=T8.o.trans I;have K9:=zl<|jt.fI T8.o.at_ I K8.o;have RR:=zl R;clear bn I R l;refine mZ (val:=zi 0) V2 ⟨rfl,rfl⟩ ?_;refine Jc.nil bQ V2 ?_;refine mY V2 (Vz m.o.dV) fun c bu j bc=>?_;simp only[Act.put,xv,Zz,Z9];have a:Hid<|W6 c b k:=⟨K9.o.blk.nw<|ji j,K9.o.kept.but (ji j) fun _ _ _=>id,K9.o.seen.but (ji j) fun _ _ _=>id⟩;have K:=zl<|T9.o.trans<|jt.nw T9.o.at_<|ji j;have d0:c.cell? (zq b 0)=bO k.kv:=a.o.blk.cell 0 rfl;have d1:c.cell? (zq b 1)=bO k.sv:=a.o.blk.cell 1 rfl;have d2:c.cell? (zq b 2)=bO (zi k.pend):=a.o.blk.cell 2 rfl;have f1:=a.o.blk.bT 1;have f2:=a.o.blk.bT 2;have HF:Hid<|iY cv tv lo B b r s w (.returned<|.bool bL)<|(c.setCell (zq b 1) k.kv).setCell (zq b 2)<|zi 0:=by
  have hb:xb (·=b) c<|(c.setCell (zq b 1) k.kv).setCell (zq b 2)<|zi 0:=(xb.set c (zq b 1) _).trans<|xb.set _ (zq b 2) _;have hk:W6 ((c.setCell (zq b 1) k.kv).setCell (zq b 2)<|zi 0) b {k with sv:=k.kv,seen:=k.kept,pend:=0}:=
   ⟨(a.o.blk.set 1 k.kv).set 2 _,a.o.kept.but hb fun g G hc=>a.o.blk.dR (by decide) g G hc,a.o.kept.but hb fun g G hc=>a.o.blk.dR (by decide) g G hc⟩
  refine⟨rfl,(M7.o.mono fun _ x=>x.elim).trans<|f.o.old K.o hb,Wp r F J L,V4 J F L,_,f.o.to K.o hb hk ?_ (RR.o.inv J hop)<|WP f.o.fI RR.o rfl rfl rfl rfl rfl, ?_, ?_, ?_⟩;show bO (V4 J (Xi F r.d).2.1 L)=_;rw[RR.o.mend];show F.cnt<=_;rw[RR.o.cnt];omega;exact ze _;have:=f.o.inv.sh0;show(0:Int)<=_;omega
 obtain⟨p0,g0,b4,bm,_,_⟩:=id a.o.kept;obtain⟨p1,g1,b5,bo,_,_⟩:=id a.o.seen;rw[bm]at d0 HF;rw[bo]at d1;clear bm bo
 conv=>arg 2;whnf
 go_wp2_with fail
 refine bc.o .ret _ _ ?_;show PX .ret _ _;rw[<-bp.o];refine⟨rfl,.bool bL,fun t d=>⟨t,d, ?_⟩,HF.o⟩;show(aN Tryz.f33 _).run prog _=_;simp[aN,Tryz.results33,go_sem]
end
end P
namespace P
open A.Tryq Go.RowKit A
variable [pn:A.Pn]
def Hi{cv tv:Zv}{lo B b:Nat}{r:Sr}{s:Jo}{k:gZ}{w:Zy}(c N M:Int)(S T:Zl)(h:Pl cv tv lo B b r s k w)(f:r.cnt<=29)(hop:r.op<999)(l:s.bP<999):
  CC bM 33 #[zo b,zo B,jH c N M S T] w (iY cv tv lo B b r s w):=by
 have a:(∀w,Pl cv tv lo B b r s k w->bE prog 33 #[zo b,zo B,jH c N M S T] w (iY cv tv lo B b r s w))->CC bM 33 #[zo b,zo B,jH c N M S T] w (iY cv tv lo B b r s w):=fun x=>
  UM rfl (by decide) Tryz.func33 rfl (fun e v t d=>Bb.1) (fun v y=>by cases y.1) fun t d=>(x _<|h.nw<|Nw.gL (xb.refl _ _) t d).mono fun e v ⟨i,g,j⟩=>⟨i,⟨g.os,g.output,g.size,g.block⟩,j⟩
 by_cases i:c=1;subst i;exact a fun w h=>Hm N M S T h f;by_cases g:c=2;subst g;exact a fun w h=>Hj N M S T h f;by_cases j:c=3;subst j;exact a fun w h=>Hk N M S T h f;by_cases m:c=4;subst m;exact a fun w h=>SJ N M S T h f;by_cases n:c=5;subst n;exact a fun w h=>SR N M S T h f;by_cases o:c=6;subst o;exact a fun w h=>Hn N M S T h f;by_cases p:c=7;subst p;exact a fun w h=>SP N M S T h f l;by_cases q:c=8;subst q;exact SO N M S T h hop;exact a fun w h=>SM c N M S T h f i g j m n o p q
end P
namespace P
open A.Tryq Go.RowKit A
variable [pn:A.Pn]
attribute [local go_sem] xe zv
section
variable {cv tv:Zv} {w w':Zy} {lo B b:Nat} {t:Nat→Question→Nat}
structure Ac where
 kd:Int
 N:Int
 M:Int
 S:Zl
 T:Zl
def Ac.At(w:Zy)(g o:Nat)(c:Ac):Prop:=w.cell? (zq g o)=bO (zi c.kd)/\w.cell? (zq g<|o+1)=bO (zi c.N)/\w.cell? (zq g<|o+2)=bO (zi c.M)/\w.cell? (zq g<|o+3)=bO (zs c.S)/\w.cell? (zq g<|o+4)=bO (zs c.T)
def AL(lo:Nat)(w:Zy)(v:Zv)(D:List Ac):Prop:=∃a cap,v= .slice a D.length cap/\D.length<=maxLen/\∀i (h:i<D.length),∃g off,a=bO ⟨g,off,bN⟩/\g<lo/\Ac.At w g (off+i*5) D[i]
def AL.but{lo:Nat}{v:Zv}{D:List Ac}(h:AL lo w v D)(b:xb (fun x=>lo<=x) w w'):AL lo w' v D:=by
 obtain⟨a,d,p,q,r⟩:=h;refine⟨a,d,p,q,fun i s=>?_⟩;obtain⟨g,e,n,o,f,j,k,l,m⟩:=r i s;have c:¬lo<=g:=by omega
 exact⟨g,e,n,o,b.cell c f,b.cell c j,b.cell c k,b.cell c l,b.cell c m⟩
noncomputable def c10:=Qf Tryz.f10.body
noncomputable def xxm:=Qa c10
noncomputable def xxn:=Qa<|Qa<|Qb c10
noncomputable def Ht:=Qa<|Ql<|Qk<|Qb<|Qa<|Qb c10
noncomputable def Hu:=Qb<|Qk<|Qa<|Qb<|Ql<|Qk<|Qb<|Qa<|Qb c10
noncomputable def PD:=Qb<|Qb<|Ql<|Qk<|Qb<|Qa<|Qb c10
noncomputable def nY:=Qb<|Qb c10
noncomputable def UX:=Qa<|Qk<|Qa<|Qb<|Ql<|Qk<|Qb<|Qa<|Qb<|Qf Tryz.f10.body
def xqm:Tryz.f10.body=bO (.seq xxm<|.seq (.seq xxn<|.block 0<|.loop<|.seq Ht<|.seq (.block 1<|.seq UX Hu) PD) nY):=by kernel_rfl
def zag:¬Mc bM 10:=xO (by decide) (by decide) Tryz.func10
def sZ(b B:Nat)(v:Zv)(j:Nat)(a:Act):Prop:=∃x3 x4 x5 x6 x8 x9 x10 x11 x12 x13 x14 x15 x16 x17 x18 x19 x20 x21 x22 x23 x24 x25 x26 x27 x28 x29 x30 x31 x32 x33 x34 x35 x36 x37 x38 x39 x40 x41 x42 x43 x44 x45,a=⟨#[zo b,zo B,v,x3,x4,x5,x6,zi j,x8,x9,x10,x11,x12,x13,x14,x15,x16,x17,x18,x19,x20,x21,x22,x23,x24,x25,x26,x27,x28,x29,x30,x31,x32,x33,x34,x35,x36,x37,x38,x39,x40,x41,x42,x43,x44,x45],[]⟩
structure Pd(cv tv:Zv)(lo B b:Nat)(v:Zv)(D:List Ac)(w0:Zy)(j:Nat)(w:Zy):Prop where
 pl:∃r s k,Pl cv tv lo B b r s k w/\r.cnt<=31/\r.op<=2+j/\s.bP<=(j:Int)
 old:xb (fun x=>lo<=x) w0 w
 j1:j<=D.length
 j2:j<=300
 al:AL lo w v D
def Pd.nw{v:Zv}{D:List Ac}{w0:Zy}{j:Nat}(h:Pd cv tv lo B b v D w0 j w)(n:Nw w w'):Pd cv tv lo B b v D w0 j w':=by
 obtain⟨r,s,k,a,c⟩:=h.pl;exact⟨⟨r,s,k,a.nw n,c⟩,h.old.trans<|n.mono fun _ x=>x.elim,h.j1,h.j2,h.al.but<|n.mono fun _ x=>x.elim⟩
def DI(cv tv:Zv)(lo B b:Nat)(w0:Zy)(e:Ending)(w:Zy):Prop:=e= .returned (.bool bL)/\xb (fun x=>lo<=x) w0 w/\∃r s k,Pl cv tv lo B b r s k w/\r.cnt<=31/\r.op<=302/\s.bP<=300
def Rd{e:Ending}{d:Nat}:DI cv tv lo B b w e (re w' t d)↔DI cv tv lo B b w e w':=by
 have n1:Nw w'<|re w' t d:=Nw.gL (xb.refl _ _) t d;have k:Nw (re w' t d) w':=⟨rfl,rfl,ze _,fun _ _ _=>rfl⟩;constructor;rintro⟨a,c,i,j,h,f,g⟩;exact⟨a,xb.re c,i,j,h,f.nw k,g⟩;rintro⟨a,c,i,j,h,f,g⟩;exact⟨a,c.trans<|n1.mono fun _ x=>x.elim,i,j,h,f.nw n1,g⟩
section
variable {cv tv:Value} {lo B b j:Nat} {v:Value} {D:List Ac} {w0 w:World} {a:Act} {Po:Exit->Act->World->Prop}
def xnw(y:sZ b B v j a)(h:Pd cv tv lo B b v D w0 j w)
  (n:Hid<|∀a',sZ b B v j a'->j<D.length->j<300->(∀r s k,Pl cv tv lo B b r s k w->r.cnt<=29)->Po .normal a' w)(c:Hid<|∀a',sZ b B v j a'->Po (.exit 0) a' w):Ht.wp prog Po a w:=by
 obtain⟨x3,x4,x5,x6,x8,x9,K,L,M,N,O,Q,R,S,T,U,V,W,X,Y,Z,ba,bb,bc,bd,be,bf,bg,bh,bi,bj,bl,bm,bn,bo,bp,bq,br,bs,bt,bu,bv,rfl⟩:=y;obtain⟨r,s,k,o,E,F,G⟩:=h.pl;obtain⟨ad,q,rfl,f,_⟩:=h.al;have p:w.cell? (zq b 4)=bO (zi k.recs):=o.bk.blk.cell 4 rfl;have m:Hid<|∀g l e,Pl cv tv lo B b g l e w->g.cnt=k.recs:=fun g l e d=>by
  have i:w.cell? (zq b 4)=bO (zi e.recs):=d.bk.blk.cell 4 rfl;rw[p]at i;have e2:(k.recs:Int)=(e.recs:Int):=by injection i with i;injection i
  have:=d.fI.recs;omega
 have z:=h.j1;have C:=h.j2;unfold maxLen at f;clear h o
 conv=>arg 2;whnf
 by_cases t:j<D.length
 ·have H:(j:Int)<(D.length:Nat):=by omega
  by_cases x:j<300
  ·have I:(j:Int)<300:=by omega
   by_cases h3:k.recs<30
   ·have J:(k.recs:Int)<30:=by omega
    go_wp2_with fail
    exact n.o _ ⟨_,_,_,_,_,_,_,_,_,_,_,_,_,_,_,_,_,_,_,_,_,_,_,_,_,_,_,_,_,_,_,_,_,_,_,_,_,_,_,_,_,_,rfl⟩ t x fun g l e d=>by have:=m.o g l e d;omega
   have J:¬(k.recs:Int)<30:=by omega
   go_wp2_with fail
   exact c.o _ ⟨_,_,_,_,_,_,_,_,_,_,_,_,_,_,_,_,_,_,_,_,_,_,_,_,_,_,_,_,_,_,_,_,_,_,_,_,_,_,_,_,_,_,rfl⟩
  have I:¬(j:Int)<300:=by omega
  go_wp2_with fail
  exact c.o _ ⟨_,_,_,_,_,_,_,_,_,_,_,_,_,_,_,_,_,_,_,_,_,_,_,_,_,_,_,_,_,_,_,_,_,_,_,_,_,_,_,_,_,_,rfl⟩
 have H:¬(j:Int)<(D.length:Nat):=by omega
 go_wp2_with fail
 exact c.o _ ⟨_,_,_,_,_,_,_,_,_,_,_,_,_,_,_,_,_,_,_,_,_,_,_,_,_,_,_,_,_,_,_,_,_,_,_,_,_,_,_,_,_,_,rfl⟩
def Hd{r:Sr}{s:Jo}{k:gZ}{x8:Zv}(l:sZ b B v j a)(f:a.tmps[8]?=bO (.bool bL))(h:Pl cv tv lo B b r s k w)(i:Hid<|∀a',sZ b B v j a'->Po .normal a' w):Hu.wp prog Po a w:=by
 obtain⟨x3,x4,x5,x6,x8,x9,m,n,o,p,q,t,x,y,z,C,D,E,F,G,H,I,J,K,L,M,N,O,Q,R,S,T,U,V,W,X,Y,Z,ba,bb,bc,bd,rfl⟩:=l;simp only[q8,Xb,Xl,zp]at f;subst f;have g:=zl h;have c4:w.cell? (zq b 4)=bO (zi k.recs):=h.bk.blk.cell 4 rfl;have c:(r.cnt:Int)=(k.recs:Int):=by have:=h.fI.recs;omega
 have d:=zl c;clear h c
 conv=>arg 2;whnf
 go_wp2_with fail
 refine(Tm B r _ g.o.st).mono ?_;rintro e w1 ⟨rfl,rfl⟩;rw[d.o]
 go_wp2_with fail
 exact i.o _ ⟨_,_,_,_,_,_,_,_,_,_,_,_,_,_,_,_,_,_,_,_,_,_,_,_,_,_,_,_,_,_,_,_,_,_,_,_,_,_,_,_,_,_,rfl⟩
def xnv(d:sZ b B v j a)(V:j<=300)(c:Hid<|∀a',sZ b B v (j+1) a'->Po .normal a' w):PD.wp prog Po a w:=by
 obtain⟨X,Y,Z,x6,x8,x9,e,f,g,h,i,k,l,m,n,o,p,q,r,s,t,x,y,z,C,D,E,F,G,H,I,J,K,L,M,N,O,Q,R,S,T,U,rfl⟩:=d;have W:IntKind.i64.wrap ((j:Int)+1)=(j:Int)+1:=by rw[xn];omega
 conv=>arg 2;whnf
 go_wp2_with fail
 exact c.o _ ⟨_,_,_,_,_,_,_,_,_,_,_,_,_,_,_,_,_,_,_,_,_,_,_,_,_,_,_,_,_,_,_,_,_,_,_,_,_,_,_,_,_,_,rfl⟩
end
def m5{Q:Exit->Act->Zy->Prop}(h:kT Q){I:Act->Zy->Prop}{m:Act->Zy->Nat}{a0:Act}{w0:Zy}(b:∀a w t d,I a (re w t d)↔I a w)(c:∀a w t d,m a (re w t d)=m a w):kT (fun e a' w'=>match e with
   | .normal=>I a' w'/\m a' w'<m a0 w0
   |e=>Q e a' w'):=by
 intro e a w t d;cases e with
 |normal=>show(I a (re w t d)/\m a (re w t d)<m a0 w0)↔(I a w/\m a w<m a0 w0);rw[b,c]
 |exit id=>exact h _ _ _ _ _
 |goto l=>exact h _ _ _ _ _
 |ret=>exact h _ _ _ _ _
 |panic ch=>exact h _ _ _ _ _
 |outgrown=>exact h _ _ _ _ _
def DL(a:Act):Nat:=301-(intOf<|a.tmps[7]?.getD undef).toNat
def Bw{b B:Nat}{v:Zv}{j:Nat}{a:Act}(h:sZ b B v j a):DL a=301-j:=by
 obtain⟨T,U,V,W,X,Y,c,d,e,f,g,i,k,l,m,n,o,p,q,r,s,t,w,x,y,z,C,D,E,F,G,H,I,J,K,L,M,N,O,Q,R,S,rfl⟩:=h;simp[DL,intOf]
def LL{v:Zv}{D:List Ac}{w:Zy}(h:Pd cv tv lo B b v D w 0 w):
  CC bM 10 #[zo b,zo B,v] w (DI cv tv lo B b w):=by
 have hQ:kT<|nJ bM funcs Tryz.f10<|DI cv tv lo B b w:=AO fun e w' t d=>Rd;refine CC.fA bQ zag (bZ rfl Tryz.func10 rfl).1 Tryz.func10 xqm ?_;rw[show Tryz.f10.ntmps=46 from rfl];generalize hPX:nJ bM funcs Tryz.f10 (DI cv tv lo B b w)=PX at hQ;have W:=zl hQ;have Y:=zl hPX;have H0:=zl h;clear h hQ hPX;simp only[jg,zh,jn,Nat.reduceAdd,Nat.reduceSub,qw,qx,Z7,Zi,jk,jc];refine gG zag W.o fun w1 cx ba F bj=>?_;have N1:=zl<|ji ba;clear bj
 conv=>arg 2;whnf
 go_wp2_with fail
 refine F.o _ _ ?_;clear F;refine Xn.seq bQ zag trivial ?_;refine gG zag W.o.dV fun w2 cy bb G bk=>?_;have H2:=zl<|H0.o.nw<|N1.o.trans<|ji bb;clear bk
 conv=>arg 2;whnf
 go_wp2_with fail
 refine G.o _ _ ?_;clear G;refine Xn.block bQ zag ?_;have bi:=Vz (W.o.dV (P:=bM) (fn:=10) (y:=nY)) (id:=0);refine Xn.loop bQ zag (by trivial) (fun a w'=>∃j,sZ b B v j a/\Pd cv tv lo B b v D w j w') (fun a _=>DL a) ?_ _ _ ⟨0,⟨_,_,_,_,_,_,_,_,_,_,_,_,_,_,_,_,_,_,_,_,_,_,_,_,_,_,_,_,_,_,_,_,_,_,_,_,_,_,_,_,_,_,rfl⟩,H2.o⟩;rintro a w3 ⟨j,hf,bn⟩;have hI:∀a w' t d,(∃j,sZ b B v j a/\Pd cv tv lo B b v D w j (re w' t d))↔(∃j,sZ b B v j a/\Pd cv tv lo B b v D w j w'):=fun a w' t d=>
  ⟨fun⟨j,Z,h2⟩=>⟨j,Z,h2.nw ⟨rfl,rfl,ze _,fun _ _ _=>rfl⟩⟩,fun⟨j,Z,h2⟩=>⟨j,Z,h2.nw<|Nw.gL (xb.refl _ _) t d⟩⟩
 have p:=m5 bi (I:=fun a w'=>∃j,sZ b B v j a/\Pd cv tv lo B b v D w j w') (m:=fun a _=>DL a) (a0:=a) (w0:=w3) hI fun _ _ _ _=>rfl;have cs:=Bw hf;refine gG zag p fun i cz bc H J=>?_;have c:=bn.nw<|ji bc;refine xnw hf c (fun a4 x L c8 bo=>H.o _ _ ?_) fun a4 x=>J.o _ _ _ (by simp) ?_
 ·
  obtain⟨r,s,k,Q,q,O,V⟩:=c.pl;have C:=bo r s k Q;have z:=fun kd N M S T=>Hi kd N M S T Q C (by omega) (by omega);obtain⟨ad,o,rfl,ct,bl⟩:=c.al;obtain⟨g,f,rfl,hg,c0,c1,c2,c3,c4⟩:=bl j L;refine Xn.seq bQ zag trivial (Xn.block bQ zag ?_);obtain⟨x3,x4,x5,x6,x8,x9,bp,bq,br,bs,bt,bu,bv,bw,bx,bz,b0,b1,b2,b3,b4,b5,b6,b7,b8,b9,ca,cb,cc,cd,ce,cf,cg,ci,cj,ck,cl,cm,cn,co,cp,cq,rfl⟩:=x;refine Xn.seq bQ zag trivial ?_
  conv=>arg 3;whnf
  refine Xn.dB bQ zag ?_;refine Jc.value (val:=zo b) (w':=i) bQ zag rfl (fun t d=>⟨t,d,by show(bG _ _).run prog _=_;simp[bG,go_sem]⟩) ?_;refine mZ (val:=zo B) zag ⟨rfl,rfl⟩ ?_;refine mZ (val:= .slice (bO ⟨g,f,bN⟩) D.length o) zag ⟨rfl,rfl⟩ ?_;refine mZ (val:=zi j) zag ⟨rfl,rfl⟩ ?_;have i1:(j:Int)<(D.length:Nat):=by omega
  have i0:¬(j:Int)<0:=by omega
  refine Jc.value (val:=zk g<|f+j*5) (w':=i) bQ zag rfl (fun t d=>⟨t,d,by show(bG _ _).run prog _=_;simp[bG,go_sem,Act.put,i0,i1,L]⟩) ?_;refine Jc.value (val:=jH D[j].kd D[j].N D[j].M D[j].S D[j].T) (w':=i) bQ zag rfl (fun t d=>⟨t,d, ?_⟩) ?_
  ·have e0:(re i t d).cell? (zq g<|f+j*5)=bO (zi D[j].kd):=c0
   have e1:(re i t d).cell? (zq g<|f+j*5+1)=bO (zi D[j].N):=c1;have e2:(re i t d).cell? (zq g<|f+j*5+2)=bO (zi D[j].M):=c2;have e3:(re i t d).cell? (zq g<|f+j*5+3)=bO (.string<|st D[j].S):=c3;have e4:(re i t d).cell? (zq g<|f+j*5+4)=bO (.string<|st D[j].T):=c4;show(bG _ _).run prog _=_;simp[bG,go_sem,Act.put,e0,e1,e2,e3,e4,jH]
  refine Jc.call (args:=#[.pointer _,.pointer _,jH D[j].kd D[j].N D[j].M D[j].S D[j].T]) bQ zag rfl rfl (fun v=>by show(bG _ _).run prog _=_;simp[bG,go_sem,resolve,Act.put]) (bZ rfl Tryz.func33 rfl) (z _ _ _ _ _) ?_ ?_;rotate_left;rintro ch X ⟨he,_⟩;cases he;rintro vv X ⟨he,l,r',s',k',R,cr,cu,cw⟩;cases he;refine Jc.value (val:= .bool bL) (w':=X) bQ zag rfl (fun t d=>⟨t,d,by show(bG _ _).run prog _=_;simp[bG,go_sem,Act.put]⟩) ?_;refine Jc.nil bQ zag ?_;have U:Pd cv tv lo B b (.slice (bO ⟨g,f,bN⟩) D.length o) D w (j+1) X:=⟨⟨r',s',k',R,by omega,by omega,by omega⟩,c.old.trans l,by omega,by omega,c.al.but l⟩;refine Xn.last' bQ kZ zag (Vz (p.dV (P:=bM) (fn:=10) (y:=PD)) (id:=1)) fun w6 c6 E bg=>(show Code.wp prog _ _ _ _ from ?_);simp only[Act.put,xv,Zz,Z9];refine Hd (x8:=undef) (j:=j) (v:= .slice (bO ⟨g,f,bN⟩) D.length o) ⟨_,_,_,_,_,_,_,_,_,_,_,_,_,_,_,_,_,_,_,_,_,_,_,_,_,_,_,_,_,_,_,_,_,_,_,_,_,_,_,_,_,_,rfl⟩ rfl (R.nw<|ji E) fun a6 bm=>bg.o .normal _ _ ?_;show Xn bM 10 PD _ a6 w6;refine mY zag p fun w7 c7 be bh=>?_;refine xnv bm (by omega) fun a7 K=>bh.o .normal _ _ ⟨⟨j+1,K,(U.nw<|ji E).nw<|ji be⟩, ?_⟩;have h7:=Bw K;show DL a7<DL a;omega
 show(if 0=0 then _ else _);rw[aA rfl];show Xn bM 10 nY PX a4 i;obtain⟨r,s,k,Q,q,O,V⟩:=c.pl;have HP:Hid<|∀w',Nw i w'->DI cv tv lo B b w (.returned<|.bool bL) w':=fun w' n=>⟨rfl,(c.nw n).old,r,s,k,Q.nw n,q,by have:=c.j2;omega,by have:=c.j2;omega⟩;obtain⟨x3,x4,x5,x6,x8,x9,bp,bq,br,bs,bt,bu,bv,bw,bx,bz,b0,b1,b2,b3,b4,b5,b6,b7,b8,b9,ca,cb,cc,cd,ce,cf,cg,ci,cj,ck,cl,cm,cn,co,cp,cq,rfl⟩:=x;refine mY zag W.o fun X c5 bd bf=>?_;have n5:=zl<|ji bd;clear Q q O V H J
 conv=>arg 2;whnf
 go_wp2_with fail
 refine bf.o .ret _ _ ?_;rw[<-Y.o];refine⟨rfl,.bool bL,fun t d=>⟨t,d, ?_⟩,HP.o _ n5.o⟩;show(aN Tryz.f10 _).run prog _=_;simp[aN,Tryz.results10,go_sem]
noncomputable def pD:=Qa<|Qf Tryz.f9.body
noncomputable def pH:=Qa<|Qb<|Qf Tryz.f9.body
noncomputable def pL:=Qa<|Qb<|Qb<|Qf Tryz.f9.body
noncomputable def pN:=Qa<|Qn 3<|Qf Tryz.f9.body
noncomputable def pP:=Qa<|Qn 5<|Qf Tryz.f9.body
noncomputable def pS:=Qa<|Qn 6<|Qf Tryz.f9.body
noncomputable def pT:=Qa<|Qn 7<|Qf Tryz.f9.body
noncomputable def y9:=Qn 9<|Qf Tryz.f9.body
noncomputable def lR:=Qa<|Qn 4<|Qf Tryz.f9.body
noncomputable def mA:=Qa<|Qn 8<|Qf Tryz.f9.body
def xtm:Tryz.f9.body=bO (.seq pD<|.seq pH<|.seq pL<|.seq pN<|.seq lR<|.seq pP<|.seq pS<|.seq pT<|.seq mA y9):=by kernel_rfl
def kQ:¬Mc bM 9:=xO (by decide) (by decide) Tryz.func9
def Ic:Jo:=⟨0,0,[],.slice bN 0 0,[],0,0,0,0,0⟩
def Wy.new{nW:Int}{m:Zl}{D M:Nat}(e:m.length=32):Wy (Sr.new 100000 nW 999 m D M) Ic:=by
 have hk:Y0 (Jp m [] 0 0 0) []=Jp m [] 0 0 0:=by unfold Y0;rw[aA (show qu [] 0=[]from rfl)]
 refine⟨⟨[],[],Jp m [] 0 0 0,[],⟨⟨e,fun h=>absurd rfl h,⟨fun _=>rfl,fun h=>absurd rfl h⟩, ?_,fun i d=>absurd d<|Wd _,rfl, ?_,fun n f=>absurd rfl f⟩,rfl,rfl,rfl,iF.rfl' List.nodup_nil, ?_,rfl, ?_⟩⟩,Pg,fM.nil,(fun p a=>(Vy a).elim),rfl,rfl,rfl, ?_, ?_, ?_,(fun c b=>(Vy b).elim), ?_,(fun p a=>(Vy a).elim),Vj _,Vj _,Vj _,.inl rfl,Int.le_refl _⟩;show jY _ (Y0 (Jp m [] 0 0 0) []) [] [] _ _;rw[hk];exact jY.nil _ _ _;show(Y0 (Jp m [] 0 0 0) []).base.toNat+_<=_;rw[hk];show(0:Nat)+0<=_;omega;show(0:Int)=(Y0 (Jp m [] 0 0 0) []).base;rw[hk];rfl;show(0:Int)=(Y0 (Jp m [] 0 0 0) []).named;rw[hk];rfl;show J6 []<=10116+1071*((0:Nat):Int);simp[J6];show(0:Int)<=((0:Nat):Int);omega;show(0:Nat)<=40;omega;show([]:List dM).length<=20;simp
structure U0(cv tv:Zv)(lo B:Nat)(r:Sr)(s:Jo)(w:Zy):Prop where
 st:Jq w B r
 sn:r.sn=bO s
 inv:Wy r s
 L:s.L=[]
 P:s.P=[]
 cnt:r.cnt=0
 op:r.op=2
 ep:s.ep=0
 bP:s.bP=0
 own:∀x,r.own B x->lo<=x
def MG(cv tv:Zv)(w:Zy)(e:Ending)(w':Zy):Prop:=∃B r s,e= .returned (zo B)/\U0 cv tv w.heap.size B r s w'/\Nw w w'
def Jq.nw{B:Nat}{r:Sr}(h:Jq w B r)(n:Nw w w'):Jq w' B r:=h.but n fun _ _=>id
def m6{e:Ending}{d:Nat}:MG cv tv w e (re w' t d)↔MG cv tv w e w':=by
 have n1:Nw w'<|re w' t d:=Nw.gL (xb.refl _ _) t d;have f:Nw (re w' t d) w':=⟨rfl,rfl,ze _,fun _ _ _=>rfl⟩;constructor;rintro⟨B,r,s,b,a,c⟩;exact⟨B,r,s,b,⟨a.st.nw f,a.sn,a.inv,a.L,a.P,a.cnt,a.op,a.ep,a.bP,a.own⟩,c.trans f⟩;rintro⟨B,r,s,b,a,c⟩;exact⟨B,r,s,b,⟨a.st.nw n1,a.sn,a.inv,a.L,a.P,a.cnt,a.op,a.ep,a.bP,a.own⟩,c.trans n1⟩
def jt.zP{B:Nat}{r r':Sr}{w0 w w':Zy}(n:Nw w0 w)(t:jt B r w r' w')(ho:∀x,r.own B x->w0.heap.size<=x):Nw w0 w':=
 ⟨t.but.os.trans n.os,t.but.output.trans n.output,xz n.size t.but.size,fun i a _=>(t.but.block i (zn a n.size) fun h=>by have:=ho i h;omega).trans<|n.block i a id⟩
def cQ{L:KV}(h:iF L []):L=[]:=xa<|h.len.trans rfl
def Ny{B:Nat}{r:Sr}{s:Jo}{w:Zy}(h:Jq w B r)(b:r.sn=bN)(I:Wy r s)(hop:r.op<999)(g:iA cv tv w)(a:∀x,r.own B x->4<x):
  CC bM 13 #[zo B] w fun e w'=>e= .returned (zi 0)/\∃mp kk L SS,FJ r s mp kk L/\jt B r w (Wp r kk SS L) w':=by
 refine(G_ (cv:=cv) (tv:=tv) h b hop (fV.of (s:=s) I (.inr b) a) g (fun i=>by have:=I.jD i;omega) fun mp=>?_).mono fun e w' ⟨j,mp,kk,L,SS,d,f⟩=>?_;obtain⟨kk,L,R⟩:=I.reopen mp;have n:=R.rC;exact⟨kk,L,R.look,by rw[R.mend],(fun k=>absurd (R.dD.symm.trans k)<|by simp),by omega,by omega⟩;obtain⟨l,m,R⟩:=I.reopen mp;have c:=d.symm.trans R.look;cases c;exact⟨j,mp,kk,L,SS,R,f⟩
def ZZ{r:Sr}{s:Jo}{mp SS:Nat}{kk:Lk}{L:KV}(R:FJ r s mp kk L):(Wp r kk SS L).sn=bO (V4 SS kk L):=by
 show bO (V4 SS (Xi kk r.d).2.1 L)=_;rw[R.mend]
def Ln(ms:Zl)(sg:Int)(b1:-9223372036854775808<=sg/\sg<=9223372036854775807){w:Zy}(hG:iA cv tv w):
  CC bM 9 #[zs ms,zi sg,zi 999] w (MG cv tv w):=by
 have hQ:kT<|nJ bM funcs Tryz.f9<|MG cv tv w:=AO fun e w' t d=>m6;refine CC.fA bQ kQ (bZ rfl Tryz.func9 rfl).1 Tryz.func9 xtm ?_;rw[show Tryz.f9.ntmps=89 from rfl];generalize hPX:nJ bM funcs Tryz.f9 (MG cv tv w)=PX at hQ;have J:=zl hQ;have b5:=zl hPX;have HG:=zl hG;have cx:=hG.pos;clear hQ hPX hG;simp only[jg,zh,jn,Nat.reduceAdd,Nat.reduceSub,qw,qx,Z7,Zi,jk,jc];refine gG kQ J.o fun w1 cs bp S bu=>?_;have N1:=zl<|ji bp;clear bu
 conv=>arg 2;whnf
 go_wp2_with fail
 refine S.o _ _ ?_;clear S;refine gG kQ J.o fun w2 cy cj bs cl=>?_;have N2:Hid<|Nw w w2:=N1.o.trans<|ji cj;clear cl
 conv=>arg 2;whnf
 go_wp2_with fail
 refine(VZ sg 400 (by omega) (by omega) b1.1 b1.2 _).mono ?_;rintro e c1 ⟨⟨p,hp,rfl⟩,rfl⟩;have cm:IntKind.i64.wrap (1+(p:Int))=1+(p:Int):=by rw[xn];omega
 go_wp2_with fail
 refine(Dr ms 32 (by omega) 32 rfl _).mono ?_;rintro e w3 ⟨rfl,bz⟩;have N3:Hid<|Nw w w3:=N2.o.trans<|xb.of_below bz;have bi:=xoo ms 32;clear bz;generalize wM ms 32=m at*
 go_wp2_with fail
 refine(xpw _ _ 999 m (by omega) (by omega) (by omega) (by omega) (by omega) (by omega) bi _).mono ?_;rintro e w4 ⟨B,D,M,rfl,hB,hD,hM,b0,bb⟩;have N4:Hid<|Nw w w4:=N3.o.trans<|xb.of_below b0;have S4:=zl bb;have I4:Hid<|Wy (Sr.new 100000 (1+(p:Int)) 999 m D M) Ic:=Wy.new bi;have O4:Hid<|∀x,(Sr.new 100000 (1+(p:Int)) 999 m D M).own B x->w.heap.size<=x:=fun x o=>by
  have h3:=N3.o.size;rcases o with e|(e|e|⟨c,W,_⟩)|⟨t,F,_⟩
  omega;have e:x=D:=e;omega;have e:x=M:=e;omega;cases W;cases F
 have C:(Sr.new 100000 (1+(p:Int)) 999 m D M).cnt=0:=rfl;have Z:(Sr.new 100000 (1+(p:Int)) 999 m D M).op=0:=rfl;have ba:(Sr.new 100000 (1+(p:Int)) 999 m D M).sn=bN:=rfl;clear b0 bb hB hD hM cm hp bi;generalize Sr.new 100000 (1+(p:Int)) 999 m D M=r0 at*;have bl:=zl C;have bd:=zl Z;have b6:=zl ba;clear C Z ba
 go_wp2_with fail
 refine bs.o _ _ ?_;clear bs;refine gG kQ J.o fun w5 ct bq T bv=>?_;have N5:=zl<|ji bq;clear bv
 conv=>arg 2;whnf
 go_wp2_with fail
 refine T.o _ _ ?_;clear T;refine gG kQ J.o fun w6 cu br U bw=>?_;have N6:Hid<|Nw w4 w6:=N5.o.trans<|ji br;clear bw
 conv=>arg 2;whnf
 go_wp2_with fail
 refine(Tm B r0 _<|S4.o.nw N6.o).mono ?_;rintro e b3 ⟨rfl,rfl⟩;rw[show((r0.cnt:Nat):Int)=0 by rw[bl.o];rfl]
 go_wp2_with fail
 refine U.o _ _ ?_;clear U;have G6:=HG.o.but (N4.o.trans N6.o) fun _ x=>x.elim;have bc:∀x,r0.own B x->4<x:=fun x o=>by have:=O4.o x o;omega
 have b:=Ny (S4.o.nw N6.o) b6.o I4.o (by rw[bd.o];omega) G6 bc;refine Xn.seq bQ kQ trivial ?_
 conv=>arg 3;whnf
 refine Xn.dB bQ kQ ?_;refine Jc.value (val:=zo B) (w':=b3) bQ kQ rfl (fun t d=>⟨t,d,by show(bG _ _).run prog _=_;simp[bG,go_sem]⟩) ?_;refine Jc.call bQ kQ rfl rfl (fun v=>by show(bG _ _).run prog _=_;simp[bG,go_sem,resolve,Act.put]) (bZ rfl Tryz.func13 rfl) b ?_ ?_;rotate_left;rintro ch wx ⟨X,_⟩;cases X;rintro v w7 ⟨X,mp,kk,L,SS,R,b2⟩;cases X;refine mZ (val:=zi 0) kQ ⟨rfl,rfl⟩ ?_;refine Jc.nil bQ kQ ?_;refine(show Xn _ 9 _ PX _ w7 from ?_);simp only[Act.put,xv,Zz,Z9];have hL:=cQ R.same;subst hL;obtain⟨G,l⟩:∃G,G=Wp r0 kk SS []:=⟨_,rfl⟩;obtain⟨q,n⟩:∃q,q=V4 SS kk []:=⟨_,rfl⟩;have I7:Hid<|Wy G q:=by show Wy _ _;rw[l,n];exact R.inv SS<|by rw[bd.o];omega
 have T7:Hid<|jt B r0 b3 G w7:=by show jt _ _ _ _ _;rw[l];exact b2
 have Q7:Hid<|G.sn=bO q:=by show _=_;rw[l,n];exact ZZ R
 have E7:Hid<|q.ep=0:=by show _=_;rw[n];exact R.ep
 have K:Hid<|q.L=[]/\q.P=[]/\G.cnt=0/\G.op=1:=by
  refine⟨by rw[n];rfl,by rw[n];rfl, ?_, ?_⟩;rw[l];exact R.cnt.trans bl.o;rw[l];show r0.op+1=1;rw[bd.o]
 have O7:Hid<|∀x,G.own B x->w.heap.size<=x:=fun x o=>by
  rcases T7.o.own x o with N|N;exact O4.o x N;have:=(N4.o.trans N6.o).size;omega
 have N7:=zl<|jt.zP (N4.o.trans N6.o) T7.o O4.o;clear l n b2 R b bc G6;refine gG kQ J.o fun w8 cw Q V bx=>?_;have S8:=zl<|T7.o.at_.nw<|ji Q;have N8:Hid<|Nw w w8:=N7.o.trans<|ji Q;clear bx
 conv=>arg 2;whnf
 go_wp2_with fail
 refine(Dv B G [107] [118] _ S8.o fun t F=>by rw[Q7.o]at F;cases F;exact I7.o.P20).mono ?_;rintro e w9 ⟨aa,g,rfl,I,k⟩;obtain⟨rfl,pv,H⟩:aa=0/\∃pv,g={G with sn:=bO<|q.more pv<|.put [107] [118]}:=by
  unfold Sr.awaits at k;rw[Q7.o]at k;simp only at k;rw[aB<|by decide,aB<|by rw[K.o.2.1];simp]at k;exact k
 have T9:=zl I;have E9:=zl H;have I9:Hid<|Wy g<|q.more pv<|.put [107] [118]:=by
  show Wy _ _;rw[H];refine I7.o.swap rfl rfl rfl rfl rfl rfl (fun c W=>?_) ?_;rcases Je.1 W with W|W
  rw[K.o.2.1]at W;cases W;rw[jp.1 W];exact⟨by simp,by simp,by simp⟩;show(q.P++[_]).length<=20;rw[K.o.2.1];simp
 have G9:Hid<|g.gets [107]=([118],0):=by
  show _=_;rw[SY<|by rw[H],aB<|by decide];have:(q.more pv<|.put [107] [118]).now=[([107],[118])]:=by
   unfold Jo.now Jo.more;simp only;rw[K.o.1,K.o.2.1];rfl
  rw[this];rfl
 have O9:Hid<|∀x,g.own B x->w.heap.size<=x:=fun x o=>by
  rcases I.own x o with N|N;exact O7.o x N;have:=N8.o.size;omega
 have N9:=zl<|jt.zP N8.o I O7.o;clear I k H
 go_wp2_with fail
 refine V.o _ _ ?_;clear V;refine gG kQ J.o fun cn cc r y bf=>?_;have bo:=zl<|T9.o.at_.nw<|ji r;have b7:Hid<|Nw w cn:=N9.o.trans<|ji r;clear bf
 conv=>arg 2;whnf
 go_wp2_with fail
 refine(TM B g [107] _ bo.o fun t F=>by rw[E9.o]at F;cases F;exact I9.o.P20).mono ?_;rintro e co ⟨rfl,E⟩;rw[G9.o];have ce:=zl<|bo.o.nw E;have b8:Hid<|Nw w co:=b7.o.trans E;clear E
 go_wp2_with fail
 refine y.o _ _ ?_;clear y;refine gG kQ J.o fun cp cd s z bg=>?_;have cf:=zl<|ce.o.nw<|ji s;have b9:Hid<|Nw w cp:=b8.o.trans<|ji s;clear bg
 conv=>arg 2;whnf
 go_wp2_with fail
 refine(x_ B g _ cf.o).mono ?_;rintro e cq ⟨rfl,bh⟩;have ci:=zl bh;rw[show(if g.sn.isSome then(0:Int)else 5)=0 by rw[E9.o];rfl];have be:=zl<|jt.zP b9.o bh O9.o;clear bh
 go_wp2_with fail
 refine z.o _ _ ?_;clear z;have bk:=HG.o.but be.o fun _ x=>x.elim;have bm:Wy g.shut<|q.more pv<|.put [107] [118]:=I9.o.tV bN;have h:g.shut.op=1:=by show g.op=1;rw[E9.o];exact K.o.2.2.2
 have b:=Ny ci.o.at_ rfl bm (by rw[h];omega) bk (fun x o=>by have:=O9.o x<|Wy.fP o;omega);refine Xn.seq bQ kQ trivial ?_
 conv=>arg 3;whnf
 refine Xn.dB bQ kQ ?_;refine Jc.value (val:=zo B) (w':=cq) bQ kQ rfl (fun t d=>⟨t,d,by show(bG _ _).run prog _=_;simp[bG,go_sem]⟩) ?_;refine Jc.call bQ kQ rfl rfl (fun v=>by show(bG _ _).run prog _=_;simp[bG,go_sem,resolve,Act.put]) (bZ rfl Tryz.func13 rfl) b ?_ ?_;rotate_left;rintro ch wx ⟨X,_⟩;cases X;rintro v bj ⟨X,cz,f,L2,j,R2,i⟩;cases X;refine mZ (val:=zi 0) kQ ⟨rfl,rfl⟩ ?_;refine Jc.nil bQ kQ ?_;refine(show Xn _ 9 _ PX _ bj from ?_);simp only[Act.put,xv,Zz,Z9];have ck:=cQ (by have:=R2.same;rwa[show(q.more pv<|.put [107] [118]).L=[]from K.o.1]at this);subst ck;have a:Hid<|U0 cv tv w.heap.size B (Wp g.shut f j []) (V4 j f []) bj:=by
  refine⟨i.at_,ZZ R2,R2.inv j<|by rw[h];omega,rfl,rfl, ?_, ?_, ?_,rfl,fun x o=>?_⟩;show f.cnt=0;rw[R2.cnt];show g.cnt=0;rw[E9.o];exact K.o.2.2.1;show g.shut.op+1=2;rw[h];show f.ep=0;rw[R2.ep];exact E7.o;rcases i.own x o with N|N
  exact O9.o x<|Wy.fP N;have:=be.o.size;omega
 have ca:=zl<|jt.zP be.o i fun x o=>O9.o x<|Wy.fP o;have b4:Hid<|(Wp g.shut f j []).gets [107]=([],8):=by
  show _=_;rw[SY a.o.sn,aB<|by decide];rfl
 clear i R2 b bk bm h;generalize Wp g.shut f j []=r3 at*;generalize V4 j f []=s3 at*;refine mY kQ J.o fun c0 cr O bt=>?_;have cg:=zl<|a.o.st.nw<|ji O;have cb:=zl<|ji O
 conv=>arg 2;whnf
 go_wp2_with fail
 refine(TM B r3 [107] _ cg.o fun t F=>by rw[a.o.sn]at F;cases F;exact a.o.inv.P20).mono ?_;rintro e w16 ⟨rfl,Y⟩;rw[b4.o];have bn:Hid<|Nw bj w16:=cb.o.trans Y;have hv:(st [118]).toList=[118]:=xo _;have X:(st ([]:Zl)).toList=[]:=xo _;clear Y
 go_wp2_with fail
 refine bt.o .ret _ _ ?_;rw[<-b5.o];refine⟨rfl,zo B,fun t d=>⟨t,d, ?_⟩,B,r3,s3,rfl,⟨a.o.st.nw bn.o,a.o.sn,a.o.inv,a.o.L,a.o.P,a.o.cnt,a.o.op,a.o.ep,a.o.bP,a.o.own⟩,ca.o.trans bn.o⟩;show(aN Tryz.f9 _).run prog _=_;simp[aN,Tryz.results9,go_sem]
end
end P
namespace P
open Go.RowKit
section
variable {s:Jo} {r:Sr} {v:Zv} {l:FL} {F:Ym}
section
variable {F G:Ym}
def uN(h:∀n:Int,n<=20000->qu F n=qu G n)(m:Mf)(a:Zl):Y6 m F a=Y6 m G a:=by
 have:nN m F=nN m G:=by
  unfold nN;by_cases e:m.file=10001\/m.file=10002;rw[h m.file<|by omega];rw[aB e,aB e]
 unfold Y6;rw[this]
def mW(h:∀n:Int,n<=20000->qu F n=qu G n):∀f n,qQ F f n=qQ G f n
 |0,n=>rfl
 |f+1,n=>by
  rw[qQ,qQ,mW h f<|n+1];by_cases e:n<9999;rw[h ((n+1:Nat):Int)<|by omega];rw[aB fun x=>e x.1,aB fun x=>e x.1]
def mX:∀f n,qQ F f n=n\/qQ F f n<=9999
 |0,n=> .inl rfl
 |f+1,n=>by
  rw[qQ];split
  rename_i e
  rcases mX f (n+1)with h|h;exact .inr (by omega);exact .inr h;exact .inl rfl
def pU(h:∀n:Int,n<=20000->qu F n=qu G n)(n:Nat)(k:Lk)(L:KV):∀r,n+r<=20000\/r=0->dJ (fun i=>qu F (i:Int)) n k L r=dJ (fun i=>qu G (i:Int)) n k L r
 |0,_=>rfl
 |r+1,e=>by
  have e:n+(r+1)<=20000:=e.resolve_right (by omega);rw[dJ,dJ,pU h n k L r<|.inl<|by omega];simp only[h ((n+r:Nat):Int)<|by omega]
def uG(h:∀n:Int,n<=20000->qu F n=qu G n)(k:Lk):Yu k F=Yu k G:=by
 have b:Wr k F=Wr k G:=by
  unfold Wr;rw[h 0<|by omega,uN h]
 unfold Yu;rw[b];cases Wr k G with
 |none=>rfl
 |some p=>
  obtain⟨a,c⟩:=p;have e:Jl F a.base.toNat=Jl G a.base.toNat:=mW h _ _;simp only[e];rw[pU h];rcases mX (F:=G) (9999-a.base.toNat) a.base.toNat with x|x
  right;unfold Jl;omega;by_cases y:a.base.toNat<=9999;left;unfold Jl;omega;right;unfold Jl;omega
end
def fC{k:Lk}:∀(ns:List Int) (d:Dk),d.nx=bN->fM d.L->jX d.L->∃F',jA k ns d=(bL,{d with L:=F'})/\fM F'/\jX F'/\∀n,qu F' n=if n∈ns/\pJ k n=bK then []else qu d.L n
 |[],d,_,hg,he=>⟨d.L,rfl,hg,he,fun n=>by simp⟩
 |n::ns,d,hx,hg,he=>by
  cases h:pJ k n with
  |true=>
   obtain⟨F',f,g,i,l⟩:=fC ns d hx hg he;refine⟨F',by unfold jA;rw[aA h];exact f,g,i,fun j=>?_⟩;rw[l j];by_cases e:j∈ns/\pJ k j=bK;rw[aA e,aA ⟨by simp[e.1],e.2⟩];rw[aB e,aB];rintro⟨a,b⟩;rcases xf.1 a with rfl|a
   rw[h]at b;cases b;exact e ⟨a,b⟩
  |false=>
   obtain⟨F',f,g,i,l⟩:=fC ns {d with L:=V6 d.L n} hx (hg.del n) fun p m=>he p<|EM m;refine⟨F', ?_,g,i,fun j=>?_⟩;unfold jA;rw[aB<|by rw[h];simp,zY hx,aB<|by simp,Eg hx];exact f;rw[l j];simp only;rw[KW hg];by_cases e:j∈ns/\pJ k j=bK;rw[aA e,aA ⟨by simp[e.1],e.2⟩];rw[aB e];by_cases c:j=n;subst c;rw[aA rfl,aA ⟨by simp,h⟩];rw[aB c,aB];rintro⟨a,b⟩;exact(xf.1 a).elim c fun a=>e ⟨a,b⟩
def tK(x:Int×Zl):Prop:=x.2≠[]/\i64 x.1/\x.2.length<=1000000
def uE:∀(l:FL) (F:Ym),fM F->jX F->(∀x∈l,tK x)->(l.map (·.1)).Nodup->fM (fG F l)/\jX (fG F l)/\(∀x∈l,qu (fG F l) x.1=x.2)/\∀n,n∉l.map (·.1)->qu (fG F l) n=qu F n
 |[],F,hg,he,_,_=>⟨hg,he,fun x c=>(by cases c),fun _ _=>rfl⟩
 |x::l,F,hg,he,c,b=>by
  have⟨h1,h2,h3⟩:=c x (by simp);have e:fF F x.1 (x.2,(x.2.length:Int))=Yx F x.1 (x.2,(x.2.length:Int)):=by unfold Yx;rw[aB h1]
  have b:=Zr.1 b;obtain⟨f,g,i,d⟩:=uE l (Yx F x.1 (x.2,(x.2.length:Int))) (hg.lay _ _) (he.lay h2 ⟨by omega,by simp,h3⟩) (fun y a=>c y<|by simp[a]) b.2;have q:fG F (x::l)=fG (Yx F x.1 (x.2,(x.2.length:Int))) l:=by rw[<-e];rfl
  rw[q];refine⟨f,g,fun y a=>?_,fun n h=>?_⟩;rcases xf.1 a with rfl|a
  rw[d _ b.1,uS hg,aA rfl];exact i y a;rw[d n fun y=>h<|by simp only[xq,xf];exact .inr y,uS hg,aB fun y=>h<|by simp[y]]
def bR(F:Ym):FL:=(Xs F).map fun n=>(n,qu F n)
def Wy.le(I:Wy r s):(Y0 (Jp r.m [] 0 0 0) r.d.L).dK<=20000/\∀n,qu r.d.L n≠[]->0<=n/\n<=20000:=by
 obtain⟨h,w,q,i,D⟩:=I.dsk;have p:=AR r.m r.d.L;have a:0<=(Y0 (Jp r.m [] 0 0 0) r.d.L).dK/\(Y0 (Jp r.m [] 0 0 0) r.d.L).dK<=20000:=by
  rcases P9 r.m r.d.L with b|⟨f,b,c,t,v⟩;omega;have k:(Y0 (Jp r.m [] 0 0 0) r.d.L).named=((iL<|qu r.d.L 0).file:Int):=by unfold Y0;rw[aB c];rfl
  have l:=D.named;have o:=I.named;omega
 refine⟨a.2,fun n g=>?_⟩;have j:=D.ok.low;rcases D.ok.own n g with e|e|e<;>omega
def Wy.strange(I:Wy r s)(a:FL)(f:∀x∈a,20000<x.1/\tK x/\x.2.length<=50)(E:((bR r.d.L++a).map (·.1)).Nodup)(O:a.length<=100)(mp:Nat):
  (mE (fG []<|bR r.d.L++a)/\(fG []<|bR r.d.L++a).length<=1000/\∀n,(qu (fG []<|bR r.d.L++a) n).length<=100000)/\∃k L F2,FJ r s mp k L/\Yu (Jp r.m r.mark r.cnt ((r.op+1:Nat):Int) mp) (fG []<|bR r.d.L++a)=bO (k,L)/\Xi k {r.d with L:=fG []<|bR r.d.L++a}=(bL,k,{r.d with L:=F2})/\fM F2/\jX F2/\∀n,qu F2 n=qu r.d.L n:=by
 have X:=I.le.1;have v:∀n,qu r.d.L n≠[]->n<=20000:=fun n c=>(I.le.2 n c).2;have D:∀n,n∈(bR r.d.L).map (·.1)↔qu r.d.L n≠[]:=fun n=>by
  unfold bR;rw[uP];show n∈List.map (fun x=>x) _↔_;rw[List.map_id'',I.gd.nums];intro x;rfl
 have G:∀x∈bR r.d.L++a,tK x:=fun x o=>by
  rcases Je.1 o with h|h;obtain⟨n,c,rfl⟩:=qp.1 h;have z:=I.gd.nums.1 c;refine⟨z, ?_, ?_⟩;have:=v n z;have:n∈r.d.L.map (·.1):=LZ.1 c;obtain⟨p,H,rfl⟩:=qp.1 this;exact(I.each p H).1;have:=(I.each.dat n).2.2;exact this;exact(f x h).2.1
 obtain⟨J,K,M,N⟩:=uE (bR r.d.L++a) [] fM.nil (fun p H=>by cases H) G E;have b:∀n:Int,n<=20000->qu (fG []<|bR r.d.L++a) n=qu r.d.L n:=fun n c=>by
  by_cases h:qu r.d.L n=[];rw[N n ?_,h];· rfl
  intro w;rw[Jd,Je,D]at w;rcases w with e|e
  exact e h;obtain⟨x,o,rfl⟩:=qp.1 e;have:=(f x o).1;omega;have:=M (n,qu r.d.L n)<|List.mem_append_left _<|qp.2 ⟨n,I.gd.nums.2 h,rfl⟩;exact this
 obtain⟨k,L,R⟩:=I.reopen mp;obtain⟨F2,Y,Z,m3,m4⟩:=fC (k:=k) (Xs<|fG []<|bR r.d.L++a) {r.d with L:=fG []<|bR r.d.L++a} I.nx J K;have B:k.last<=9999:=R.rC.2;have t:∀n,pJ k n=bL->qu (fG []<|bR r.d.L++a) n=qu r.d.L n:=fun n c=>by
  by_cases h:n<=20000;exact b n h;exfalso;unfold pJ at c;simp only[Yk,xl,X9,R.dK]at c;omega
 have g:Xi k {r.d with L:=fG []<|bR r.d.L++a}=(bL,k,{r.d with L:=F2}):=by
  unfold Xi;rw[R.dD,aB<|by simp,aB<|by simp];unfold qC;show((jA k (Xs<|fG []<|bR r.d.L++a) {r.d with L:=fG []<|bR r.d.L++a}).1,k,(jA k (Xs<|fG []<|bR r.d.L++a) {r.d with L:=fG []<|bR r.d.L++a}).2)=_;rw[Y]
 have C:(fG []<|bR r.d.L++a).length<=1000:=by
  have z:∀(l:FL) (F:Ym),(fG F l).length<=F.length+l.length:=fun l=>by
   induction l with
   |nil=>intro F;exact ze _
   |cons x l ih=>intro F;have:=ih<|fF F x.1 (x.2,x.2.length);have:=TI F x.1 (x.2,(x.2.length:Int));simp only[zh];show(fG (fF F x.1 (x.2,x.2.length)) l).length<=_;omega
  have V:=z (bR r.d.L++a) [];have h3:=I.few;have h4:=I.cnt;have h5:(bR r.d.L).length=r.d.L.length:=by unfold bR;rw[Zb,yZ]
  rw[zj,jn]at V;omega
 refine⟨⟨⟨K,by omega⟩,C,fun n=>?_⟩,k,L,F2,R,(uG b _).trans R.look,g,Z,m3,fun n=>?_⟩;by_cases h:n<=20000;rw[b n h];have:=I.jD n;omega;by_cases w:n∈(bR r.d.L++a).map (·.1);obtain⟨x,o,rfl⟩:=qp.1 w;rw[M x o];rcases Je.1 o with e|e
 obtain⟨j,W,rfl⟩:=qp.1 e;exact absurd (v j<|I.gd.nums.1 W) h;have:=(f x e).2.2;omega;rw[N n w];exact Vj _;rw[m4 n];show(if n∈_/\_ then []else qu (fG []<|bR r.d.L++a) n)=_;have q:qu r.d.L n≠[]->pJ k n=bL:=fun c=>by
  obtain⟨Q,S,_,_,T⟩:=fC (k:=k) (Xs r.d.L) r.d I.nx I.gd I.each;have e:=R.mend;unfold Xi at e;rw[R.dD,aB<|by simp,aB<|by simp]at e;unfold qC at e;rw[S]at e;have e:Q=r.d.L:=congrArg (fun x=>x.2.2.L) e;have h:=T n;rw[e]at h;cases i:pJ k n with
  |true=>rfl
  |false=>rw[aA ⟨I.gd.nums.2 c,i⟩]at h;exact absurd h c
 by_cases i:pJ k n=bL;rw[aB<|by rw[i];simp];exact t n i;have U:qu r.d.L n=[]:=jr fun x=>i<|q x;rw[U];split;rfl
 rename_i x
 exact jr fun y=>x ⟨J.nums.2 y,by simpa using i⟩
def jV(l:FL):Ze:=l.flatMap fun x=>[.int .i64 x.1,.string<|st x.2]
def pR(F:Ym):sJ F (Xs F)=jV (bR F):=by
 unfold sJ jV bR;rw[List.flatMap_map]
def jN(F:Ym):(bR F).length=(Xs F).length:=Zb _
def lS:∀(l:FL) (i:Nat) (h:i<l.length),(jV l)[i*2]?=bO (zi l[i].1)/\(jV l)[i*2+1]?=bO (.string<|st l[i].2)
 |x::l,0,_=>⟨rfl,rfl⟩
 |x::l,i+1,h=>by
  have:=lS l i (by simpa using h);have e:jV (x::l)=zi x.1::zs x.2::jV l:=rfl;rw[e,show(i+1)*2=i*2+1+1 by omega,show i*2+1+1+1=(i*2+1)+1+1 by omega];simp only[Xb,List.getElem_cons_succ];exact this
def jP{w:Zy}{B:Nat}(h:w.ownsRow B 110 2 v l.length<|jV l):FM w v l:=by
 by_cases e:l.length=0;obtain⟨a,c,rfl,_⟩:=Jh h;obtain rfl:=xa e;exact⟨a,0,c,rfl,fun x=>absurd rfl x,fun i d=>absurd d<|Wd _⟩;obtain⟨g,c,rfl,f,b⟩:=uD h (by omega);exact⟨_,g,c,rfl,fun _=>rfl,fun i d=>⟨b _ _ (lS l i d).1,b _ _ (lS l i d).2⟩⟩
def rF{w:Zy}{B:Nat}(h:w.ownsRow B 110 2 v l.length<|jV l):∃p g cap,v= .slice p l.length cap/\(l≠[]->p=bO ⟨g,0,bN⟩/\B<=g)/\∀i (h:i<l.length),w.cell? (zq g<|i*2)=bO (zi l[i].1)/\w.cell? (zq g<|i*2+1)=bO (.string<|st l[i].2):=by
 obtain⟨p,g,cap,rfl,b,c⟩:=jP h;refine⟨p,g,cap,rfl,fun a=>⟨b a, ?_⟩,c⟩;exact Vs h g<|by rw[b a];rfl
def uC(g:fM F):(Xs F).Pairwise (·<·):=by
 have d:(Xs F).Pairwise (·<=·):=(PR (le:=zM) (fun a b c d e=>by simp[zM]at*;omega) (fun a b=>by simp[zM];omega) _).imp fun h=>by simpa[zM]using h
 have e:(Xs F).Nodup:=(Xw _ _).nodup_iff.2 g.nd;exact(d.and e).imp fun h=>by omega
def eO(l:FL):Int:=(l.map fun x=>(x.2.length:Int)).sum
def holds_of(l:FL)(R:Int)(n:(l.map (·.1)).Pairwise (·<·))(j:∀x∈l,0<=x.1/\x.2≠[])(p:eO l<=R)(o:R<=1000000000):
  ∃ab rm:Nat->Int,ab 0= -1/\rm 0=R/\∀k (h:k<l.length),ab (k+1)=l[k].1/\rm (k+1)=rm k-(l[k].2.length:Int)/\ab k<l[k].1/\l[k].2≠[]/\(l[k].2.length:Int)<=rm k/\rm k<=1000000000:=by
 have d:∀l:FL,0<=eO l:=fun l=>by
  induction l with
  |nil=>exact Int.le_refl _
  |cons x l ih=>unfold eO at*;rw[xq,Vq];omega
 have c:∀a b:FL,eO (a++b)=eO a+eO b:=fun a b=>by unfold eO;rw[Jd,List.sum_append]
 refine⟨fun k=>match k with|0=>-1|k+1=>(l[k]?.map (·.1)).getD 0,fun k=>R-eO (l.take k),rfl, ?_,fun k h=>?_⟩;show R-eO []=R;unfold eO;simp;have e:l.take (k+1)=l.take k++[l[k]]:=xy h;have f:eO [l[k]]=(l[k].2.length:Int):=by unfold eO;simp
 have g:=c (l.take<|k+1)<|l.drop<|k+1;rw[PW]at g;have i:=c (l.take k) [l[k]];rw[<-e,f]at i;have q:=d<|l.drop<|k+1;have r:=d<|l.take k;have m:=j l[k]<|Zn h;refine⟨by simp[h],by show R-eO (l.take<|k+1)=R-eO (l.take k)-_;omega, ?_,m.2,by show _<=R-_;omega,by show R-_<=_;omega⟩;cases k with
 |zero=>show(-1:Int)<_;omega
 |succ k=>
  have hk:k<l.length:=by omega
  show(l[k]?.map (·.1)).getD 0<_;rw[Yh hk];have:=List.pairwise_iff_getElem.1 n k (k+1) (by simpa using hk) (by simpa using h) (by omega);simpa using this
def rD(g:fM F):(bR F).Perm<|F.map fun p=>(p.1,p.2.1):=by
 have b:(bR F).Perm ((F.map (·.1)).map fun n=>(n,qu F n)):=(Xw _ _).map _;refine b.trans<|.of_eq ?_;rw[uP];refine List.map_congr_left fun p a=>?_;show(p.1,qu F p.1)=_;have:J9 F p.1=bO p.2:=by
  have h:=g.nd;clear b g;induction F with
  |nil=>cases a
  |cons q F ih=>
   obtain⟨k,v⟩:=q;have c:=Zr.1 h;unfold J9;rcases xf.1 a with rfl|a
   rw[aA rfl];rw[aB fun e=>c.1<|by rw[<-e];exact qp.2 ⟨p,a,rfl⟩];exact ih a c.2
 unfold qu;rw[this];rfl
def uL{a b:List Int}(h:a.Perm b):a.sum=b.sum:=by
 induction h with
 |nil=>rfl
 |cons x _ ih=>rw[Vq,Vq,ih]
 |swap x y l=>simp only[Vq];omega
 |trans _ _ h1 h2=>exact h1.trans h2
def uH(g:fM F):eO (bR F)=J6 F:=by
 have h:=((rD g).map fun x=>(x.2.length:Int));unfold eO J6;rw[uL h,uP];rfl
def Wy.holds(I:Wy r s)(c:FL)(v:(c.map (·.1)).Pairwise (·<·))(e:∀x∈c,20000<x.1/\x.2≠[]/\x.2.length<=50)(j:c.length<=40):
  ((bR r.d.L++c).map (·.1)).Nodup/\∃ab rm:Nat->Int,ab 0= -1/\rm 0=r.d.room/\∀k (h:k<(bR r.d.L++c).length),ab (k+1)=(bR r.d.L++c)[k].1/\rm (k+1)=rm k-((bR r.d.L++c)[k].2.length:Int)/\ab k<(bR r.d.L++c)[k].1/\(bR r.d.L++c)[k].2≠[]/\((bR r.d.L++c)[k].2.length:Int)<=rm k/\rm k<=1000000000:=by
 have f:=I.le.2;have t:(bR r.d.L).map (·.1)=Xs r.d.L:=by unfold bR;rw[uP];exact List.map_id _
 have g:((bR r.d.L++c).map (·.1)).Pairwise (·<·):=by
  rw[Jd,t,List.pairwise_append];refine⟨uC I.gd,v,fun a p b q=>?_⟩;obtain⟨x,i,rfl⟩:=qp.1 q;have:=(e x i).1;have:=(f a<|I.gd.nums.1 p).2;omega
 refine⟨g.imp fun h=>by omega,holds_of _ _ g (fun x i=>?_) ?_<|by rw[I.room];omega⟩;rcases Je.1 i with h|h
 obtain⟨n,m,rfl⟩:=qp.1 h;exact⟨(f n<|I.gd.nums.1 m).1,I.gd.nums.1 m⟩;exact⟨by have:=(e x h).1;omega,(e x h).2.1⟩;have z:=uH I.gd;have B:=I.fus;have C:=I.cnt;have o:∀l:FL,(∀x∈l,x.2.length<=50)->eO l<=50*l.length:=fun l=>by
  induction l with
  |nil=>intro _;exact Int.le_refl _
  |cons x l ih=>intro h;have:=ih fun y w=>h y (by simp[w]);have:=h x (by simp);unfold eO at*;rw[xq,Vq,zh];omega
 have D:=o c fun x i=>(e x i).2.2;have E:eO (bR r.d.L++c)=eO (bR r.d.L)+eO c:=by unfold eO;rw[Jd,List.sum_append]
 rw[I.room];omega
def uB{F G:Ym}(f:fM F)(g:fM G)(h:∀n,qu F n=qu G n):Xs F=Xs G/\bR F=bR G:=by
 have e:Xs F=Xs G:=Dt ((List.perm_ext_iff_of_nodup f.nd g.nd).2 fun n=>by rw[<-LZ,<-LZ,f.nums,g.nums,h]);refine⟨e, ?_⟩;unfold bR;rw[e];exact List.map_congr_left fun n _=>by rw[h]
def rolled{m mark:Zl}{L0 L:KV}{xs:List Zl}{q:Lk}(h:wY m F L0 xs q L){tc:Nat}(b:q.cnt<tc)(op:Int)(mp:Nat):Yu (Jp m mark tc op mp) F=bN:=by
 rw[look_at h<|by omega];refine aB ?_;have a:(Y0 (Jp m mark tc op mp) F).tc=tc:=by unfold Y0;split<;>rfl
 rintro(⟨e,_⟩|⟨e,_⟩);have e:(q.cnt:Int)=(Y0 (Jp m mark tc op mp) F).tc:=e;omega;have e:(q.cnt:Int)=(Y0 (Jp m mark tc op mp) F).tc+1:=e;omega
def wY.same{m:Zl}{F G:Ym}{L0 L:KV}{xs:List Zl}{q:Lk}(h:wY m F L0 xs q L)(e:∀n,qu G n=qu F n):wY m G L0 xs q L:=by
 have hk:Y0 (Jp m [] 0 0 0) G=Y0 (Jp m [] 0 0 0) F:=OK _<|e 0;have f:∀a b,Y6 a G b=Y6 a F b:=fun a b=>zyp fun _ _=>e _;refine⟨h.m32,by rw[e];exact h.X_,by rw[e];simp only[f];exact h.st0,by rw[hk];exact h.log,by rw[hk];exact fun i c=>(e _).trans<|h.dY i c,by rw[hk];exact(e _).trans h.stop,by rw[hk];exact h.low,by rw[hk];exact fun n d=>h.own n<|by rw[<-e];exact d⟩
def Wy.same{G:Ym}(I:Wy r s)(g:fM G)(b:jX G)(e:∀n,qu G n=qu r.d.L n):Wy {r with d:={r.d with L:=G}} s:=by
 obtain⟨a,f,q,L,D⟩:=I.dsk;have hk:Y0 (Jp r.m [] 0 0 0) G=Y0 (Jp r.m [] 0 0 0) r.d.L:=OK _<|e 0;have c:J6 G=J6 r.d.L:=by rw[<-uH g,<-uH I.gd,(uB g I.gd e).2]
 exact⟨⟨a,f,q,L,⟨D.ok.same e,D.cnt,D.tag,D.ep,D.same,by show s.base=(Y0 (Jp r.m [] 0 0 0) G).base;rw[hk];exact D.base,D.last,by show s.named=(Y0 (Jp r.m [] 0 0 0) G).named;rw[hk];exact D.named⟩⟩,I.mark,g,b,I.nx,I.room,I.lim,by show J6 G<=_;rw[c];exact I.fus,I.rC,I.cnt,I.P,I.P20,I.sK,I.len,I.ep,I.op,I.named,I.sh0⟩
def Wy.anew(I:Wy r s):(fM (fG []<|bR r.d.L)/\jX (fG []<|bR r.d.L)/\∀n,qu (fG []<|bR r.d.L) n=qu r.d.L n)/\
  ∃ab rm:Nat->Int,ab 0= -1/\rm 0=r.d.room/\∀k (h:k<(bR r.d.L).length),ab (k+1)=(bR r.d.L)[k].1/\rm (k+1)=rm k-((bR r.d.L)[k].2.length:Int)/\ab k<(bR r.d.L)[k].1/\(bR r.d.L)[k].2≠[]/\((bR r.d.L)[k].2.length:Int)<=rm k/\rm k<=1000000000:=by
 have i:∀{x},x∈bR r.d.L->x.2=qu r.d.L x.1/\qu r.d.L x.1≠[]:=fun c=>by
  obtain⟨n,q,rfl⟩:=qp.1 c;exact⟨rfl,I.gd.nums.1 q⟩
 have f:((bR r.d.L).map (·.1)).Pairwise (·<·):=by
  have:=uC I.gd;rwa[bR,uP,show((·.1)∘fun n=>(n,qu r.d.L n))=id from rfl,List.map_id]
 obtain⟨j,l,m,o⟩:=uE (bR r.d.L) [] fM.nil (fun p f=>by cases f) (fun x c=>by
  obtain⟨a,b⟩:=i c;have:=I.le.2 _ b;have:=I.jD x.1;exact⟨by rw[a];exact b,by unfold i64;omega,by rw[a];omega⟩)<|f.imp fun h=>by omega
 refine⟨⟨j,l,fun n=>?_⟩,holds_of _ _ f (fun x c=>by obtain⟨a,b⟩:=i c;exact⟨(I.le.2 _ b).1,by rw[a];exact b⟩) ?_ ?_⟩;by_cases g:qu r.d.L n=[];rw[g];exact o n fun h=>by
  obtain⟨x,c,e⟩:=qp.1 h;exact(i c).2<|by rw[e];exact g
 exact m (n,qu r.d.L n)<|qp.2 ⟨n,I.gd.nums.2 g,rfl⟩;rw[uH I.gd,I.room];have:=I.fus;have:=I.cnt;omega;rw[I.room];omega
def ldF_len:∀(l:FL) (F:Ym),(fG F l).length<=F.length+l.length
 |[],F=>ze _
 |x::l,F=>by
  have:=ldF_len l<|fF F x.1 (x.2,x.2.length);have:=TI F x.1 (x.2,(x.2.length:Int));simp only[zh];show(fG (fF F x.1 (x.2,x.2.length)) l).length<=_;omega
def Wy.op1(I:Wy r s)(h:r.op<999):Wy {r with op:=r.op+1} s:=by
 obtain⟨a,b,q,L,D⟩:=I.dsk;exact⟨⟨a,b,q,L,⟨D.ok,D.cnt,D.tag,D.ep,D.same,D.base,D.last,D.named⟩⟩,I.mark,I.gd,I.each,I.nx,I.room,I.lim,I.fus,I.rC,I.cnt,I.P,I.P20,I.sK,I.len,I.ep,h,I.named,I.sh0⟩
def FSb(a b:Nat)(w:Zy)(v:Zv)(l:FL):Prop:=∃p g cap,v= .slice p l.length cap/\(l≠[]->p=bO ⟨g,0,bN⟩/\a<=g/\g<b)/\∀i (h:i<l.length),w.cell? (zq g<|i*2)=bO (zi l[i].1)/\w.cell? (zq g<|i*2+1)=bO (.string<|st l[i].2)
def FSb.of{a:Nat}{w:Zy}(h:w.ownsRow a 110 2 v l.length<|jV l):FSb a w.heap.size w v l:=by
 obtain⟨p,g,b,e,d,f⟩:=rF h;exact⟨p,g,b,e,fun c=>⟨(d c).1,(d c).2,qz (f 0<|qb.2 c).1⟩,f⟩
def FSb.but{a b:Nat}{w W:Zy}(h:FSb a b w v l)(k:xb (fun x=>x<a\/b<=x) w W):FSb a b W v l:=by
 obtain⟨p,g,d,e,f,j⟩:=h;refine⟨p,g,d,e,f,fun i c=>?_⟩;have n:=f (fun e=>by rw[e]at c;cases c);have m:¬(g<a\/b<=g):=by omega
 exact⟨k.cell m (j i c).1,k.cell m (j i c).2⟩
def FSb.fsl{a b:Nat}{w:Zy}(h:FSb a b w v l):FM w v l:=by
 obtain⟨p,g,c,e,d,f⟩:=h;exact⟨p,g,c,e,fun i=>(d i).1,f⟩
end
end P
namespace P
open A.Tryq Go.RowKit Go.Extern.Stop Go.Stop Go.Extern
def isTypeOf(v:Zv)(w:Zy):(Extern.ReflectliteType.typeOf #[.iface 380 v]).run prog w= .ok (.iface 271<|.agg #[zk 5 380]) w:=by kernel_rfl
def isComparable(w:Zy):((Extern.ReflectliteType.method fun t=>do Extern.Rtype.noPackHeld "Comparable" t;(fun a=>Value.bool a.comparable) <$> typeInfo t) #[.agg #[zk 5 380]]).run prog w= .ok (.bool bL) w:=by kernel_rfl
def isMethod(v:Zv)(w:Zy):(Go.method 513 271 v "Comparable").run prog w= .ok (330,v) w:=by kernel_rfl
def isComp:(prog.info? 380).map (·.comparable)=bO bL:=by kernel_rfl
def isSize:(prog.info? 402).map (·.size)=bO 1:=by kernel_rfl
def lacks{i:Zt}{ms:Array<|String×Zt}(a:prog.underlying i=bO (.interface ms))(h:(prog.info? 380).map (fun i=>(lacking ms i.methods).isEmpty)=bO bK)(b:(prog.info? i).map (·.zero)=bO (bO .nilIface)):
  ∀v xT w,(Instr.typeAssert (.iface 380 v) xT i bL).run prog w= .ok (.tuple #[.nilIface,.bool bK]) w:=run_typeAssert_lacksB a h b
def is_in(a b:Addr)(t:Bool)(w:Zy)(c:(binOp .eql 169 (.iface 380<|.pointer<|bO a)<|.iface 380<|.pointer<|bO b).run prog w= .ok (.bool t) w):
  bE prog 151 #[.iface 380<|.pointer<|bO a,.iface 380<|.pointer<|bO b,.bool bL] w fun e w'=>e= .returned (.bool t)/\w'=w:=by
 have d:=lacks (show prog.underlying 273=_ from Tryz.underlying273) (by kernel_rfl) (by kernel_rfl);have f:=lacks (show prog.underlying 276=_ from Tryz.underlying276) (by kernel_rfl) (by kernel_rfl);have g:=lacks (show prog.underlying 278=_ from Tryz.underlying278) (by kernel_rfl) (by kernel_rfl);go_enter func151.1,Tryz.ntmps151
 go_wp2_with fail
 refine wp_loop_rounds 1 ?_;rw[rounds_succ];cases t
 all_goals
  go_wp2_with fail
  go_ret
  exact⟨rfl,rfl⟩
def is_ok(a b:Addr)(t:Bool)(w:Zy)(c:(binOp .eql 169 (.iface 380<|.pointer<|bO a)<|.iface 380<|.pointer<|bO b).run prog w= .ok (.bool t) w):
  bE prog 95 #[.iface 380<|.pointer<|bO a,.iface 380<|.pointer<|bO b] w fun e w'=>e= .returned (.bool t)/\w'=w:=by
 have h:=@run_callFunc_extern prog 150 _ _ func150 (by kernel_rfl) (by kernel_rfl) A.xxb A.xxo;have f:=@run_callFunc_extern prog 330 _ _ func330 (by kernel_rfl) (by kernel_rfl) A.xxd A.xxq;have j:=isTypeOf;have g:=isComparable;have i:=isMethod;have d:=zl<|is_in a b t w c;clear c;go_enter func95.1,Tryz.ntmps95
 go_wp2_with fail
 refine d.o.mono ?_;rintro e w' ⟨rfl,rfl⟩
 go_wp2_with fail
 go_ret
 exact⟨rfl,rfl⟩
def Two2(lo:Nat)(cv tv:Zv)(w:Zy):Prop:=∃a b ca cb ta tb,cv= .iface 380 (.pointer<|bO a)/\tv= .iface 380 (.pointer<|bO b)/\b≠a/\a.block<lo/\b.block<lo/\w.heap[a.block]?=bO (.cells ca ta (0,0))/\w.heap[b.block]?=bO (.cells cb tb (0,0))
def gaveUp_ok{cv tv:Zv}{lo:Nat}(B:Nat)(w:Zy)(n:Two2 lo cv tv w)(q:w.cell? (zq 0 0)=bO cv)(r:w.cell? (zq 1 0)=bO tv):
  bE prog 64 #[zo B,tv] w fun e w'=>e= .returned (zi 11)/\w'=w:=by
 obtain⟨a,b,o,p,v,x,rfl,rfl,h,_,_,k,l⟩:=n;obtain⟨i,f,c⟩:=zt.1 isComp;obtain⟨j,g,d⟩:=zt.1 isSize;have s:=run_typeAssert_hasB (P:=prog) (t:=380) (show prog.underlying 169=_ from Tryz.underlying169) (by kernel_rfl);have I1:=zl<|is_ok b a bK w<|run_eql_iface_ptr_other (P:=prog) w (show prog.underlying 169=_ from Tryz.underlying169) (show prog.underlying 380=_ from Tryz.underlying380) f c g (by rw[d];decide) h l k;have m:=zl<|is_ok b b bL w<|run_eql_iface_ptr_same (P:=prog) w b (show prog.underlying 169=_ from Tryz.underlying169) (show prog.underlying 380=_ from Tryz.underlying380) f c g;clear f c g d k l;go_enter func64.1,Tryz.ntmps64
 go_wp2_with fail
 refine I1.o.mono ?_;rintro e w' ⟨rfl,rfl⟩
 go_wp2_with fail
 refine m.o.mono ?_;rintro e w' ⟨rfl,rfl⟩
 go_wp2_with fail
 go_ret
 exact⟨rfl,rfl⟩
def catch_tam{cv tv:Zv}{lo B p q:Nat}(w:Zy)(d:Two2 lo cv tv w)(f:w.cell? (zq 0 0)=bO cv)(g:w.cell? (zq 1 0)=bO tv)(s:w.cell? (zq p 0)=bO (zo B))(x:w.cell? (zq q 0)=bO (zi 0))(y:w.frozen? (zq q 0)=bK):
  CallsD prog 63 #[zo p,zo q] (.panicking [{v:=tv,recovered:=bK}]) w fun e u' w'=>e= .returned (.tuple #[])/\u'= .panicking [{v:=tv,recovered:=bL}]/\w'=w.setCell (zq q 0) (zi 11):=by
 have G:=zl<|gaveUp_ok B w d f g;obtain⟨a,b,m,n,z,C,rfl,rfl,c,k,l,h,i⟩:=d;clear h i c k l;refine callsD_of_wpS func63.1 rfl fun r o j=>?_;apply wpS_seq;apply wpS_region;simp[wpOpsS,go_sem,recoverD,j,Tryz.ntmps63,Exit.thenS];apply wpS_seq;apply wpS_region;simp[wpOpsS,go_sem,Exit.thenS];refine wpS_cond (t:=bL) (by simp[Act.eval,aW]) ?_;simp only[if_true];refine wpS_of_wp ?_
 go_wp2_with fail
 refine G.o.mono ?_;rintro e w' ⟨rfl,rfl⟩
 go_wp2_with fail
 simp[bodyPostS,aN,Tryz.results63]
end P
namespace P
open A.Tryq Go.RowKit A
variable [pn:A.Pn]
def Two2.but{cv tv:Zv}{lo:Nat}{S:ZP}{w w':Zy}(h:Two2 lo cv tv w)(k:xb S w w')(c:∀x,S x->lo<=x):Two2 lo cv tv w':=by
 obtain⟨a,b,j,l,s,t,m,n,p,q,r,d,f⟩:=h;have g:∀{i:Nat} {o:Obj},w.heap[i]?=bO o->i<w.heap.size:=fun h=>(za.1 h).1;exact⟨a,b,j,l,s,t,m,n,p,q,r,(k.block _ (g d) fun e=>by have:=c _ e;omega).trans d,(k.block _ (g f) fun e=>by have:=c _ e;omega).trans f⟩
def Open_tam{cv tv:Zv}{B lo:Nat}{r:Sr}{w:Zy}(h:Jq w B r)(G:r.sn=bN)(hop:r.op<999)(a:fV B r)(V:iA cv tv w)(S:Two2 lo cv tv w)(F:∀x,r.own B x->lo<=x)(E:∀i,(qu r.d.L i).length<=100000)
  (q:∀mp,Yu (Jp r.m r.mark r.cnt ((r.op+1:Nat):Int) mp) r.d.L=bN):
  CC bM 13 #[zo B] w fun e w'=>e= .returned (zi 11)/\jt B r w {r with op:=r.op+1} w':=by
 refine Open_pre (n:=11) (C:=fun w'=>jt B r w {r with op:=r.op+1} w') h G hop (fun w' t d=>⟨jt.re,fun h=>jt.gL h t d⟩) fun c p=>?_;have o:fV B {r with op:=r.op+1}:=⟨a.m,a.mark,a.cnt,by show r.op+1<1000000;omega,a.room,a.files,a.few,a.nx,fun x l=>a.own x l,fun s e=>a.bU s e⟩;have H:Nw c<|gW B c:=(Nw.alloc _ _).trans<|Nw.alloc _ _;have D:iA cv tv<|gW B c:=(V.but p.but a.own).but H fun _ x=>x.elim;have T:Two2 lo cv tv<|gW B c:=(S.but p.but F).but H fun _ x=>x.elim;have z:=xnr (p.at_.but H fun _ _=>id) G o D E (fun mp k L e=>by cases(q mp).symm.trans e);have y:∀{x:Nat},({r with op:=r.op+1}:Sr).own B x->x<c.heap.size:=fun l=>Sr.bX p.at_ l;refine zz9 (bZ rfl Tryz.func36 rfl) (fun args w=>func36.2 args w) z (fun e w' t d g=>⟨g.1,jt.re g.2⟩) (fun e w' t d g=>⟨g.1,jt.gL g.2 t d⟩) (fun w' g=>by cases g.1) ?_ ?_;rintro v w' ⟨mp,J,g⟩;rw[show Yu _ _=bN from q mp]at g;cases g.1;rintro ch w' ⟨mp,J,g⟩ Y K t d;rw[show Yu _ _=bN from q mp]at g;obtain⟨W,j⟩:=g;cases W;have N:xx w' c.heap.size #[zo B] 26:=((xx.new c _ _).alloc _).but j.but fun l=>by have:=y l;omega
 have I:xx w' (c.heap.size+1) #[zi 0] 33:=by
  have:=xx.new (c.alloc<|.cells #[zo B] 26) #[zi 0] 33;rw[xh]at this;exact this.but j.but fun l=>by have:=y l;omega
 obtain⟨⟨_,_,_,O⟩,⟨_,_,_,Q⟩,_⟩:=D.but j.but o.own;have M:=jt.fresh (p.trans<|(jt.nw p.at_ H).trans j) (b:=c.heap.size+1) (by have:=p.but.size;omega) (fun l=>by have:=y l;omega)<|xb.set w' (zq (c.heap.size+1) 0)<|zi 11;have U:Two2 lo cv tv w':=T.but j.but F;refine leaves_cons (f:=63) (args:=#[zo c.heap.size,zo<|c.heap.size+1]) (by simp) (by simp[go_sem,gD]) ?_;refine(catch_tam (B:=B) (re w' t d) U O Q (N.cell 0 rfl) (I.cell 0 rfl)<|I.bT 0).mono ?_;rintro e Z X ⟨rfl,rfl,rfl⟩;have R:((re w' t d).setCell (zq (c.heap.size+1) 0)<|zi 11).cell? (zq (c.heap.size+1) 0)=bO (zi 11):=(I.set 0 _).cell 0 rfl;simp[Leaves,settle,aN,Tryz.results34,go_sem,K,R];exact jt.gL M t d
end P
namespace P
open A.Tryq Go.RowKit A
variable [pn:A.Pn]
attribute [local go_sem] xe zv
noncomputable def x12a:=Qa<|Qf Tryz.f26.body
noncomputable def r12a:=Qa<|Qb<|Qf Tryz.f26.body
noncomputable def y12:=Qb<|Qb<|Qf Tryz.f26.body
def c12_eq:Tryz.f26.body=bO (.seq x12a<|.seq r12a y12):=by kernel_rfl
def nmc12:¬Mc bM 26:=xO (by decide) (by decide) Tryz.func26
def ses1_lt{r:Sr}{s:Jo}(I:Wy r s)(a:s.P≠[]):(r.ses1 s).base<(r.ses1 s).last:=by
 have h:=I.base0;unfold Sr.ses1;rw[aB a];show s.base<((r.place s).1:Int);unfold Sr.place;split
 rename_i e;simp only;omega
 simp only;omega
def MoreTo(B:Nat)(r:Sr)(s:Jo)(vv:Zl)(w:Zy)(e:Ending)(w':Zy):Prop:=e= .returned (.bool bL)/\∃r' s',jt B r w r' w'/\r'.sn=bN/\Wy r' s'/\s'.base<s'.last/\r'.op=r.op+1/\r'.cnt=r.cnt+1/\r'.m=r.m/\iF s'.L (cO s.L [.put [107]<|wM vv 5])
def more_cc{cv tv:Zv}{B:Nat}{r:Sr}{s:Jo}{w:Zy}(o:Zl)(h:Jq w B r)(bc:r.sn=bN)(I:Wy r s)(hop:r.op<999)(D:r.cnt<=39)(W:iA cv tv w)(n:∀x,r.own B x->4<x):
  CC bM 26 #[zo B,zs o] w (MoreTo B r s o w):=by
 have Y:kT<|nJ bM funcs Tryz.f26<|MoreTo B r s o w:=AO fun e w' t d=>⟨fun⟨O,p,s',Q,T⟩=>⟨O,p,s',jt.re Q,T⟩,fun⟨O,p,s',Q,T⟩=>⟨O,p,s',jt.gL Q t d,T⟩⟩;refine CC.fA bQ nmc12 (bZ rfl Tryz.func26 rfl).1 Tryz.func26 c12_eq ?_;rw[show Tryz.f26.ntmps=33 from rfl];generalize hPX:nJ bM funcs Tryz.f26 (MoreTo B r s o w)=PX at Y;have G:=zl hPX;have H0:=zl h;have bd:=W.pos;have HG:=zl W;have H:=zl n;clear hPX h W n;simp only[jg,zh,jn,Nat.reduceAdd,Nat.reduceSub,qw,qx,Z7,Zi,jk,jc];refine gG nmc12 Y fun w1 be U y Z=>?_;have J:=zl<|ji U;clear Z
 conv=>arg 2;whnf
 go_wp2_with fail
 refine y.o _ _ ?_;clear y;have l:=Ny (cv:=cv) (tv:=tv) (H0.o.nw J.o) bc I hop (HG.o.but (S:=fun _=>False) J.o fun _ x=>x.elim) H.o;refine Xn.seq bQ nmc12 trivial ?_
 conv=>arg 3;whnf
 refine Xn.dB bQ nmc12 ?_;refine mZ (val:=zo B) nmc12 ⟨rfl,rfl⟩ ?_;refine Jc.call (f:=13) (args:=#[zo B]) bQ nmc12 rfl rfl (fun v=>by show(bG _ _).run prog _=_;simp[bG,go_sem,resolve,Act.put]) (bZ rfl Tryz.func13 rfl) l ?_ ?_;rotate_left;rintro ch wx ⟨he,_⟩;cases he;rintro v2 w2 ⟨he,mp,kk,L,SS,R,b⟩;cases he;refine mZ (val:=zi 0) nmc12 ⟨rfl,rfl⟩ ?_;refine Jc.nil bQ nmc12 ?_;refine(show Xn bM 26 _ PX _ w2 from ?_);simp only[Act.put,xv,Zz,Z9];obtain⟨g,i,T2,I2,Q2,z,bg,ba,hm1,bb⟩:∃g i,Hid (jt B r w g w2)/\Hid (Wy g i)/\Hid (g.sn=bO i)/\i.P=[]/\g.cnt=r.cnt/\g.op=r.op+1/\g.m=r.m/\iF i.L s.L:=
  ⟨_,_,(jt.nw H0.o J.o).trans b,R.inv SS hop,ZZ R,rfl,R.cnt,rfl,rfl,R.same⟩
 have OW:∀{p:Sr} {w':Zy},jt B r w p w'->∀x,p.own B x->4<x:=fun t x hx=>(t.own x hx).elim (H.o x) fun e=>by omega
 clear R b l;refine mY nmc12 Y fun w3 bf V X=>?_;have K:Hid<|jt B r w g w3:=T2.o.trans<|jt.nw T2.o.at_<|ji V;clear T2
 conv=>arg 2;whnf
 go_wp2_with fail
 refine(Dr o 5 (by omega) 5 rfl _).mono ?_;rintro e w4 ⟨rfl,C⟩;have M:Hid<|jt B r w g w4:=K.o.trans<|jt.nw K.o.at_<|xb.of_below C;clear C K
 go_wp2_with fail
 refine(Dv B g [107] (wM o 5) _ M.o.at_ fun s e=>by rw[Q2.o]at e;cases e;rw[z];simp).mono ?_;rintro e w5 ⟨a,r2,rfl,b,j⟩;have q:=zl<|M.o.trans b;unfold Sr.awaits at j;rw[Q2.o]at j;simp only[Ve,iW,xoo,z]at j;obtain⟨rfl,pv,rfl⟩:=j;have I5:Hid<|Wy {g with sn:=bO<|i.more pv<|.put [107]<|wM o 5}<|i.more pv<|.put [107]<|wM o 5:=I2.o.swap rfl rfl rfl rfl rfl rfl (fun c D=>by
  have D:c∈i.P++[_]:=D;rw[z]at D;rw[jp.1 D];exact⟨by simp,by simp,by rw[xoo];omega⟩)<|by show(i.P++[_]).length<=20;rw[z];simp
 obtain⟨F,S⟩:=I5.o.sync rfl (by show g.cnt<=39;omega);have HL:=zl (ses1_lt I5.o<|by show i.P++[_]≠[];simp);have k:=zl S;clear b M S
 go_wp2_with fail
 refine(vA (cv:=cv) (tv:=tv) B _ _ _ q.o.at_ rfl (fV.of I5.o (.inl rfl)<|OW q.o) (HG.o.but q.o.but H.o) I5.o.P<|by rw[k.o.run];simp).mono ?_;rintro e w6 ⟨v,bh,E,rfl,b⟩;rw[k.o.run]at E;cases E;have N:=zl<|q.o.trans b;clear b q
 go_wp2_with fail
 refine(x_ B F _ N.o.at_).mono ?_;rintro e w7 ⟨rfl,b⟩;rw[show(if F.sn.isSome then(0:Int)else 5)=0 by rw[k.o.sn];rfl];have T7:=zl<|N.o.trans b;clear b N
 go_wp2_with fail
 refine X.o .ret _ _ ?_;rw[<-G.o];refine⟨rfl,.bool bL,fun t d=>⟨t,d, ?_⟩,rfl,_,_,T7.o,rfl,k.o.inv.tV bN,HL.o, ?_, ?_, ?_, ?_⟩
 ·show(aN Tryz.f26 _).run prog _=_
  simp[aN,Tryz.results26,go_sem]
 show F.op=_;rw[k.o.keep.op];exact ba;show F.cnt=_;rw[k.o.cnt,aB<|by show¬i.P++[_]=[];simp];show g.cnt+1=_;omega;show F.m=_;rw[k.o.keep.m];exact hm1;rw[k.o.L];show iF (cO i.L<|i.P++[_]) _;rw[z];exact iF.app _ bb
noncomputable def x7a:=Qa<|Qf Tryz.f7.body
noncomputable def r7a:=Qa<|Qb<|Qf Tryz.f7.body
noncomputable def x7b:=Qa<|Qb<|Qb<|Qf Tryz.f7.body
noncomputable def x7c:=Qa<|Qn 3<|Qf Tryz.f7.body
noncomputable def r7b:=Qa<|Qn 4<|Qf Tryz.f7.body
noncomputable def x7d:=Qa<|Qn 5<|Qf Tryz.f7.body
noncomputable def x7e:=Qa<|Qn 6<|Qf Tryz.f7.body
noncomputable def x7f:=Qa<|Qn 7<|Qf Tryz.f7.body
noncomputable def x7g:=Qa<|Qn 8<|Qf Tryz.f7.body
noncomputable def r7c:=Qa<|Qn 9<|Qf Tryz.f7.body
noncomputable def x7h:=Qa<|Qn 10<|Qf Tryz.f7.body
noncomputable def x7i:=Qa<|Qn 11<|Qf Tryz.f7.body
noncomputable def x7j:=Qa<|Qn 12<|Qf Tryz.f7.body
noncomputable def r7d:=Qa<|Qn 13<|Qf Tryz.f7.body
noncomputable def x7k:=Qa<|Qn 14<|Qf Tryz.f7.body
noncomputable def x7l:=Qa<|Qn 15<|Qf Tryz.f7.body
noncomputable def x7m:=Qa<|Qn 16<|Qf Tryz.f7.body
noncomputable def r7e:=Qa<|Qn 17<|Qf Tryz.f7.body
noncomputable def y7:=Qn 18<|Qf Tryz.f7.body
def xo9:Tryz.f7.body=bO (.seq x7a<|.seq r7a<|.seq x7b<|.seq x7c<|.seq r7b<|.seq x7d<|.seq x7e<|.seq x7f<|.seq x7g<|.seq r7c<|.seq x7h<|.seq x7i<|.seq x7j<|.seq r7d<|.seq x7k<|.seq x7l<|.seq x7m<|.seq r7e y7):=by kernel_rfl
noncomputable def c5:=Qf Tryz.f7.body
theorem xpa:Tryz.f7.body=bO c5:=by kernel_rfl
theorem zb3:¬Mc bM 7:=xO (by decide) (by decide) Tryz.func7
def vN:gZ:=⟨.slice bN 0 0,.slice bN 0 0,[],[],0,0,0⟩
def Mz(w:Zy):W6 (w.alloc<|.cells vN.cells 31) w.heap.size vN:=⟨xx.new _ _ _,⟨bN,0,0,rfl,ze _,fun h=>absurd rfl h⟩,⟨bN,0,0,rfl,ze _,fun h=>absurd rfl h⟩⟩
def Bn:fD []=[]:=xa<|KZ []
def MF(w:Zy)(e:Ending)(w':Zy):Prop:=e= .returned (.bool bL)/\Nw w w'
def m_{w w':Zy}{e:Ending}{t:Nat->Question->Nat}{d:Nat}:MF w e (re w' t d)↔MF w e w':=⟨fun h=>⟨h.1,xb.re h.2⟩,fun h=>⟨h.1,Nw.gL h.2 t d⟩⟩
theorem Rolled_wx{cv tv:Zv}(ms:Zl)(sg:Int)(ez:-9223372036854775808<=sg/\sg<=9223372036854775807)(v:Zv)(Dd:List Ac)(vv:Zl){w:Zy}(hG:iA cv tv w)(h2:Two2 w.heap.size cv tv w)(dw:AL w.heap.size w v Dd):
  Xn bM 7 c5 (nJ bM funcs Tryz.f7<|MF w) ⟨#[zs ms,zi sg,v,zs vv]++aW (Tryz.f7.ntmps-#[zs ms,zi sg,v,zs vv].size) undef,[]⟩ w:=by
 have hQ:kT<|nJ bM funcs Tryz.f7<|MF w:=AO fun e w' t d=>m_;rw[jf<|xpa.symm.trans xo9];rw[show Tryz.f7.ntmps=106 from rfl];generalize hPX:nJ bM funcs Tryz.f7 (MF w)=PX at hQ;have I:=zl hQ;have ef:=zl hPX;have HG:=zl hG;have eb:=zl dw;have H2:=zl h2;have d4:=hG.pos;clear hQ hPX hG dw h2;simp only[jg,zh,jn,Nat.reduceAdd,Nat.reduceSub,qw,qx,Z7,Zi,jk,jc];refine gG zb3 I.o fun w1 fi bq b0 du=>?_;have N1:=zl<|ji bq;clear du
 conv=>arg 2;whnf
 go_wp2_with fail
 refine b0.o _ _ ?_;clear b0;have bn:=Ln (cv:=cv) (tv:=tv) ms sg ez (w:=w1)<|HG.o.but (S:=fun _=>False) N1.o fun _ x=>x.elim;refine Xn.seq bQ zb3 trivial ?_
 conv=>arg 3;whnf
 refine Xn.dB bQ zb3 ?_;refine mZ (val:=zs ms) zb3 ⟨rfl,rfl⟩ ?_;refine mZ (val:=zi sg) zb3 ⟨rfl,rfl⟩ ?_;refine Jc.call (f:=9) (args:=#[zs ms,zi sg,zi 999]) bQ zb3 rfl rfl (fun v=>by show(bG _ _).run prog _=_;simp[bG,go_sem,resolve,Act.put]) (bZ rfl Tryz.func9 rfl) bn ?_ ?_;rotate_left;rintro ch wx ⟨B,U,s0,o,_⟩;cases o;rintro v2 w2 ⟨B,U,s0,o,hS,d1⟩;cases o;refine mZ (val:=zo B) zb3 ⟨rfl,rfl⟩ ?_;refine Jc.nil bQ zb3 ?_;refine(show Xn bM 7 _ PX _ w2 from ?_);simp only[Act.put,xv,Zz,Z9];have S2:=zl hS;have N2:Hid<|Nw w w2:=N1.o.trans d1;have HZ:=zl<|Ug bq;clear hS d1 bn;refine gG zb3 I.o fun w3 fj df b1 dv=>?_;have N3:=zl<|ji df;clear dv
 conv=>arg 2;whnf
 go_wp2_with fail
 refine b1.o _ _ ?_;clear b1;refine gG zb3 I.o fun w4 fn eo dg es=>?_;have N4:Hid<|Nw w2 w4:=N3.o.trans<|ji eo;clear es;have P4:Hid<|Pl cv tv w.heap.size B w4.heap.size U s0 vN<|w4.alloc<|.cells vN.cells 31:=by
  have E:=S2.o;have hn:Nw w<|w4.alloc<|.cells vN.cells 31:=(N2.o.trans N4.o).trans<|Nw.alloc _ _;have d2:s0.now=[]:=by unfold Jo.now;rw[E.L,E.P];rfl
  refine⟨E.st.nw<|N4.o.trans<|Nw.alloc _ _,Mz w4,E.sn,E.inv,⟨by rw[d2,Bn];rfl,by rw[E.L,Bn];rfl,by rw[E.P];rfl,by rw[E.ep];rfl,by rw[E.cnt];rfl⟩,fun x j=>by have:=E.own x j;have:=HZ.o;omega,d4,(N2.o.trans N4.o).size,HG.o.but (S:=fun _=>False) hn fun _ x=>x.elim⟩
 have D4:Hid<|Pd cv tv w.heap.size B w4.heap.size v Dd (w4.alloc<|.cells vN.cells 31) 0<|w4.alloc<|.cells vN.cells 31:=⟨⟨U,s0,vN,P4.o,by rw[S2.o.cnt];omega,by rw[S2.o.op];omega,by rw[S2.o.bP];exact Int.le_refl _⟩,xb.refl _ _,Vj _,Vj _,eb.o.but<|((N2.o.trans N4.o).trans<|Nw.alloc _ _).mono fun _ x=>x.elim⟩;have N5:Hid<|Nw w<|w4.alloc<|.cells vN.cells 31:=(N2.o.trans N4.o).trans<|Nw.alloc _ _;have J:vN.cells=#[.slice bN 0 0,.slice bN 0 0,zi 0,zi 0,zi 0]:=rfl;rw[J]at P4 D4 N5;clear J
 conv=>arg 2;whnf
 go_wp2_with fail
 refine dg.o _ _ ?_;clear dg;generalize w4.alloc (.cells #[.slice bN 0 0,.slice bN 0 0,zi 0,zi 0,zi 0] 31)=w5 at*;generalize w4.heap.size=b at*;have d3:=LL D4.o;refine Xn.seq bQ zb3 trivial ?_
 conv=>arg 3;whnf
 refine Xn.dB bQ zb3 ?_;refine mZ (val:=zo b) zb3 ⟨rfl,rfl⟩ ?_;refine mZ (val:=zo B) zb3 ⟨rfl,rfl⟩ ?_;refine mZ (val:=v) zb3 ⟨rfl,rfl⟩ ?_;refine Jc.call (f:=10) (args:=#[zo b,zo B,v]) bQ zb3 rfl rfl (fun v=>by show(bG _ _).run prog _=_;simp[bG,go_sem,resolve,Act.put]) (bZ rfl Tryz.func10 rfl) d3 ?_ ?_;rotate_left;rintro ch wx ⟨o,_⟩;cases o;rintro v6 w6 ⟨o,z,r,s,k,hp,fq,fr,fs⟩;cases o;refine mZ (val:= .bool bL) zb3 ⟨rfl,rfl⟩ ?_;refine Jc.nil bQ zb3 ?_;refine(show Xn bM 7 _ PX _ w6 from ?_);simp only[Act.put,xv,Zz,Z9];have P6:=zl hp;have N6:Hid<|Nw w w6:=by
  have n5:=N5.o;exact⟨z.os.trans n5.os,z.output.trans n5.output,xz n5.size z.size,fun i hi _=>(z.block i (zn hi n5.size)<|by show¬w.heap.size<=i;omega).trans<|n5.block i hi id⟩
 clear hp z d3;refine gG zb3 I.o fun w7 fo de dh et=>?_;have P7:=zl<|P6.o.nw<|ji de;have N7:Hid<|Nw w w7:=N6.o.trans<|ji de;clear et
 conv=>arg 2;whnf
 go_wp2_with fail
 refine(x_ B r _ P7.o.st).mono ?_;rintro e w8 ⟨rfl,bj⟩;rw[show(if r.sn.isSome then(0:Int)else 5)=0 by rw[P7.o.sn];rfl];have T8:=zl bj.at_;have N8:=zl<|jt.zP N7.o bj P7.o.own;have O8:Hid<|∀x,r.shut.own B x->w.heap.size<=x:=fun x j=>P7.o.own x<|Wy.fP j;have K8:=zl<|jt.fI P7.o.st bj P7.o.bk;have X:=zl P7.o.inv;have B8:=zl P7.o.fI;clear bj
 go_wp2_with fail
 refine dh.o _ _ ?_;clear dh;refine gG zb3 I.o fun w9 fp er di eu=>?_;have N9:Hid<|Nw w8 w9:=ji er;clear eu
 conv=>arg 2;whnf
 go_wp2_with fail
 refine(kU B r.shut _ (T8.o.nw N9.o) X.o.U9).mono ?_;rintro e O ⟨ov,rfl,Q,hn⟩;rw[show r.shut.d=r.d from rfl,pR,<-jN]at Q;have ca:Hid<|Nw w8 O:=N9.o.trans hn;have FO:=zl<|FSb.of Q;have b7:Hid<|(bR r.d.L).length<=40:=by show _<=_;rw[jN,yZ];have:=X.o.few;omega
 obtain⟨oa,oc,rfl,ey⟩:=Jh Q;obtain⟨⟨g1,g2,g3⟩,ab,rm,E,h1,hs⟩:=X.o.anew;have b6:Hid<|∀(U:Sr) w0,Jq w0 B U->U.sn=bN->U.d.room=100000->FM w0 (.slice oa (bR r.d.L).length oc) (bR r.d.L)->bE prog 25 #[zo B,.slice oa (bR r.d.L).length oc] w0 fun e w'=>e= .returned (zi 0)/\jt B U w0 {U with d:={U.d with L:=fG []<|bR r.d.L}} w':=fun U w0 bn bm d5 hf=>tT B U _ _ ab rm E (by rw[h1,X.o.room,d5]) (by rw[d5];omega) hs b7.o w0 bn bm hf;have GA:Hid (fM (fG []<|bR r.d.L)/\jX (fG []<|bR r.d.L)/\∀n,qu (fG []<|bR r.d.L) n=qu r.d.L n):=⟨g1,g2,g3⟩;have L9:Hid<|∀x,r.shut.own B x->x<w9.heap.size:=fun x j=>by have:=Sr.bX T8.o j;have:=N9.o.size;omega
 clear Q hn ey g1 g2 g3 E h1 hs
 go_wp2_with fail
 refine di.o _ _ ?_;clear di;refine gG zb3 I.o fun d8 e9 c4 br dl=>?_;have M:Hid<|Nw O d8:=ji c4;have cg:=zl<|T8.o.nw<|ca.o.trans M.o;have CL:=zl<|b6.o r.shut d8 cg.o rfl X.o.room (FO.o.but<|M.o.mono fun _ x=>x.elim).fsl;clear dl
 conv=>arg 2;whnf
 go_wp2_with fail
 refine CL.o.mono ?_;rintro e cn ⟨rfl,a⟩;have ci:=zl a.at_;have cb:=zl<|jt.zP (N8.o.trans<|ca.o.trans M.o) a O8.o;have cp:Hid<|FSb w9.heap.size O.heap.size cn (.slice oa (bR r.d.L).length oc)<|bR r.d.L:=FO.o.but<|(M.o.mono fun _ x=>x.elim).trans<|a.but.mono fun x j=> .inl (L9.o x j);have bd:=zl (jt.fI cg.o a<|by have n:=ca.o.trans M.o;exact⟨K8.o.blk.nw n,K8.o.kept.but n fun _ _ _=>id,K8.o.seen.but n fun _ _ _=>id⟩);have en:Hid<|O.heap.size<=cn.heap.size:=xz M.o.size a.but.size;clear a CL FO
 go_wp2_with fail
 refine br.o _ _ ?_;clear br;refine gG zb3 I.o fun e0 fa c6 bs dm=>?_;have l:Hid<|Nw cn e0:=ji c6;have cm:¬(40:Int)<((bR r.d.L).length:Nat):=by have:=b7.o;omega
 clear dm
 conv=>arg 2;whnf
 go_wp2_with fail
 refine bs.o _ _ ?_;clear bs;clear cm;have IB:=zl<|(X.o.tV bN).same GA.o.1 GA.o.2.1 GA.o.2.2;have d0:=more_cc (cv:=cv) (tv:=tv) vv (ci.o.nw l.o) rfl IB.o (by show r.op<999;omega) (by show r.cnt<=39;omega) (HG.o.but (S:=fun _=>False) (cb.o.trans l.o) fun _ x=>x.elim) (fun x j=>by have:=O8.o x j;omega);refine Xn.seq bQ zb3 trivial ?_
 conv=>arg 3;whnf
 refine Xn.dB bQ zb3 ?_;refine mZ (val:=zo B) zb3 ⟨rfl,rfl⟩ ?_;refine mZ (val:=zs vv) zb3 ⟨rfl,rfl⟩ ?_;refine Jc.call (f:=26) (args:=#[zo B,zs vv]) bQ zb3 rfl rfl (fun v=>by show(bG _ _).run prog _=_;simp[bG,go_sem,resolve,Act.put]) (bZ rfl Tryz.func26 rfl) d0 ?_ ?_;rotate_left;rintro ch wx ⟨o,_⟩;cases o;rintro ft ba ⟨o,g,s',a,bm,I9,ev,b5,b2,dz,d7⟩;cases o;refine mZ (val:= .bool bL) zb3 ⟨rfl,rfl⟩ ?_;refine Jc.nil bQ zb3 ?_;refine(show Xn bM 7 _ PX _ ba from ?_);simp only[Act.put,xv,Zz,Z9];have fl:g.op=r.op+1:=b5;have fk:g.cnt=r.cnt+1:=b2;have ed:Hid<|g.m=r.m:=dz;have eg:=zl d7;have HS:=zl bm;have V:=zl I9;have bi:=zl a.at_;have ei:=zl<|jt.zP (cb.o.trans l.o) a O8.o;have H:Hid<|∀x,g.own B x->w.heap.size<=x:=fun x j=>(a.own x j).elim (O8.o x) fun e=>by have:=(cb.o.trans l.o).size;omega
 have cq:Hid<|FSb w9.heap.size O.heap.size ba (.slice oa (bR r.d.L).length oc)<|bR r.d.L:=cp.o.but<|(l.o.mono fun _ x=>x.elim).trans<|a.but.mono fun x j=> .inl (L9.o x j);have fm:Hid<|∀x,g.own B x->x<w9.heap.size\/O.heap.size<=x:=fun x j=>(a.own x j).imp (L9.o x) fun e=>by have:=en.o;have:=l.o.size;omega
 have b8:=zl<|jt.fI (ci.o.nw l.o) a ⟨bd.o.blk.nw l.o,bd.o.kept.but l.o fun _ _ _=>id,bd.o.seen.but l.o fun _ _ _=>id⟩;clear d0 a b5 b2 dz d7 bm I9 ev cp bd ci cg T8 K8 P6 P7 N6 N7;refine gG zb3 I.o fun e1 fb c7 bt dn=>?_;have ej:Hid<|Nw ba e1:=ji c7;clear dn
 conv=>arg 2;whnf
 go_wp2_with fail
 refine bt.o _ _ ?_;clear bt;refine gG zb3 I.o fun w16 fc c8 bu dp=>?_;have cc:Hid<|Nw ba w16:=ej.o.trans<|ji c8;clear dp
 conv=>arg 2;whnf
 go_wp2_with fail
 refine(kU B g _ (bi.o.nw cc.o) V.o.U9).mono ?_;rintro e bo ⟨lv,rfl,Q,hn⟩;rw[pR,<-jN]at Q;have Y:Hid<|Nw ba bo:=cc.o.trans hn;have FL:=zl<|FSb.of Q;have ct:Hid<|(bR g.d.L).length<=40:=by show _<=_;rw[jN,yZ];have:=V.o.few;omega
 obtain⟨la,lc,rfl,ew⟩:=Jh Q;have cx:Hid<|∀x,g.own B x->x<w16.heap.size:=fun x j=>by have:=Sr.bX bi.o j;have:=cc.o.size;omega
 clear Q hn ew
 go_wp2_with fail
 refine bu.o _ _ ?_;clear bu;refine gG zb3 I.o fun d9 fd c9 bv dq=>?_;have N:Hid<|Nw bo d9:=ji c9;have CL:=zl<|b6.o g d9 (bi.o.nw<|Y.o.trans N.o) HS.o V.o.room (cq.o.but<|(Y.o.trans N.o).mono fun _ x=>x.elim).fsl;clear dq
 conv=>arg 2;whnf
 go_wp2_with fail
 refine CL.o.mono ?_;rintro e e2 ⟨rfl,a⟩;have cj:=zl a.at_;have cd:=zl<|jt.zP (ei.o.trans<|Y.o.trans N.o) a H.o;have cr:Hid<|FSb w16.heap.size bo.heap.size e2 (.slice la (bR g.d.L).length lc)<|bR g.d.L:=FL.o.but<|(N.o.mono fun _ x=>x.elim).trans<|a.but.mono fun x j=> .inl (cx.o x j);have cw:=zl (jt.fI (bi.o.nw<|Y.o.trans N.o) a<|by have n:=Y.o.trans N.o;exact⟨b8.o.blk.nw n,b8.o.kept.but n fun _ _ _=>id,b8.o.seen.but n fun _ _ _=>id⟩);clear a CL FL cq b6
 go_wp2_with fail
 refine bv.o _ _ ?_;clear bv;have dy:∀op mp,Yu (Jp g.m g.mark g.cnt op mp) (fG []<|bR r.d.L)=bN:=fun op mp=>by
  obtain⟨L0,xs,q,L,D⟩:=X.o.dsk;rw[ed.o];exact rolled (D.ok.same GA.o.2.2) (by rw[D.cnt];omega) op mp
 have ex:(fG []<|bR r.d.L).length<=40:=by have h1:=ldF_len (bR r.d.L) [];have h2:=b7.o;rw[jn]at h1;omega
 have C:=Open_tam (cv:=cv) (tv:=tv) (lo:=w.heap.size) cj.o HS.o (by show g.op<999;omega) ⟨V.o.m,V.o.mark,by have:=V.o.cnt;show g.cnt<_;omega,by show g.op<_;omega,by have:=V.o.room;show 0<=g.d.room/\g.d.room<=_;omega,⟨GA.o.2.1,by show(fG []<|bR r.d.L).length<=_;omega⟩,by show(fG []<|bR r.d.L).length<_;omega,fun c e=>(by have e:g.d.nx=bO c:=e;rw[V.o.nx]at e;cases e),fun x j=>(by have:=H.o x j;omega),fun s' e=>(by have e:g.sn=bO s':=e;rw[HS.o]at e;cases e)⟩ (HG.o.but (S:=fun _=>False) cd.o fun _ x=>x.elim) (H2.o.but (S:=fun _=>False) cd.o fun _ x=>x.elim) (fun x j=>H.o x j) (fun n=>by show(qu (fG []<|bR r.d.L) n).length<=_;rw[GA.o.2.2];have:=X.o.jD n;omega) fun mp=>dy _ mp;clear dy ex;refine Xn.seq bQ zb3 trivial ?_
 conv=>arg 3;whnf
 refine Xn.dB bQ zb3 ?_;refine mZ (val:=zo B) zb3 ⟨rfl,rfl⟩ ?_;refine Jc.call (f:=13) (args:=#[zo B]) bQ zb3 rfl rfl (fun v=>by show(bG _ _).run prog _=_;simp[bG,go_sem,resolve,Act.put]) (bZ rfl Tryz.func13 rfl) C ?_ ?_;rotate_left;rintro ch wx ⟨o,_⟩;cases o;rintro fu bp ⟨o,a⟩;cases o;refine mZ (val:=zi 11) zb3 ⟨rfl,rfl⟩ ?_;refine Jc.nil bQ zb3 ?_;refine(show Xn bM 7 _ PX _ bp from ?_);simp only[Act.put,xv,Zz,Z9];have ck:=zl a.at_;have ek:=zl<|jt.zP cd.o a fun x j=>H.o x j;have cs:Hid<|FSb w16.heap.size bo.heap.size bp (.slice la (bR g.d.L).length lc)<|bR g.d.L:=cr.o.but<|a.but.mono fun x j=> .inl (cx.o x j);have be:=zl<|jt.fI cj.o a cw.o;clear a C cr cw cj;refine gG zb3 I.o fun e3 fe da bw dr=>?_;have el:Hid<|Nw bp e3:=ji da;clear dr
 conv=>arg 2;whnf
 go_wp2_with fail
 refine bw.o _ _ ?_;clear bw;refine gG zb3 I.o fun ea ff db bx ds=>?_;have F:Hid<|Nw bp ea:=el.o.trans<|ji db;obtain⟨⟨g1,g2,g3⟩,ab,rm,E,h1,hs⟩:=V.o.anew;have CL:=zl<|tT B {g with op:=g.op+1,d:={g.d with L:=fG []<|bR r.d.L}} (.slice la (bR g.d.L).length lc) (bR g.d.L) ab rm E h1 (by show g.d.room<=_;rw[V.o.room];omega) hs ct.o ea (ck.o.nw F.o) HS.o (cs.o.but<|F.o.mono fun _ x=>x.elim).fsl;have IC:Hid<|Wy {g with op:=g.op+1,d:={g.d with L:=fG []<|bR g.d.L}} s':=(V.o.same g1 g2 g3).op1 (by show g.op<999;omega);clear g1 g2 g3 E h1 hs;clear ds
 conv=>arg 2;whnf
 go_wp2_with fail
 refine CL.o.mono ?_;rintro e e4 ⟨rfl,a⟩;have cl:=zl a.at_;have cy:=zl<|jt.zP (ek.o.trans F.o) a fun x j=>H.o x j;have bf:=zl<|jt.fI (ck.o.nw F.o) a ⟨be.o.blk.nw F.o,be.o.kept.but F.o fun _ _ _=>id,be.o.seen.but F.o fun _ _ _=>id⟩;clear a CL cs be ck
 go_wp2_with fail
 refine bx.o _ _ ?_;clear bx;refine gG zb3 I.o fun e5 fg dc bz dt=>?_;have G:Hid<|Nw e4 e5:=ji dc;have cm:¬(40:Int)<((bR g.d.L).length:Nat):=by have:=ct.o;omega
 clear dt
 conv=>arg 2;whnf
 go_wp2_with fail
 refine bz.o _ _ ?_;clear bz;clear cm;have C:=Ny (cv:=cv) (tv:=tv) (cl.o.nw G.o) HS.o IC.o (by show g.op+1<999;omega) (HG.o.but (S:=fun _=>False) (cy.o.trans G.o) fun _ x=>x.elim) (fun x j=>by have:=H.o x j;omega);refine Xn.seq bQ zb3 trivial ?_
 conv=>arg 3;whnf
 refine Xn.dB bQ zb3 ?_;refine mZ (val:=zo B) zb3 ⟨rfl,rfl⟩ ?_;refine Jc.call (f:=13) (args:=#[zo B]) bQ zb3 rfl rfl (fun v=>by show(bG _ _).run prog _=_;simp[bG,go_sem,resolve,Act.put]) (bZ rfl Tryz.func13 rfl) C ?_ ?_;rotate_left;rintro ch wx ⟨o,_⟩;cases o;rintro fv co ⟨o,mp,kk,L,SS,R,a⟩;cases o;refine mZ (val:=zi 0) zb3 ⟨rfl,rfl⟩ ?_;refine Jc.nil bQ zb3 ?_;refine(show Xn bM 7 _ PX _ co from ?_);simp only[Act.put,xv,Zz,Z9];have c2:=zl a.at_;have em:=zl<|jt.zP (cy.o.trans G.o) a fun x j=>H.o x j;have bg:=zl<|jt.fI (cl.o.nw G.o) a ⟨bf.o.blk.nw G.o,bf.o.kept.but G.o fun _ _ _=>id,bf.o.seen.but G.o fun _ _ _=>id⟩;have cu:=zl (R.inv SS<|by show g.op+1<999;omega);have c1:=zl<|ZZ (SS:=SS) R;have bb:Hid<|Vc k.kept [107] (wM vv 5) bK=fD (V4 SS kk L).now:=by
  show _=_;rw[show(V4 SS kk L).now=L from rfl,VK R.same,VK eg.o,B8.o.kept];exact(xog (del:=bK) (S:=[107]) (T:=wM vv 5) X.o.nd).symm
 obtain⟨rf,bl⟩:∃rf,rf=Wp {g with op:=g.op+1,d:={g.d with L:=fG []<|bR g.d.L}} kk SS L:=⟨_,rfl⟩;have hT:Jq co B rf:=by rw[bl];exact c2.o
 have c3:=zl hT;have hI:Wy rf<|V4 SS kk L:=by rw[bl];exact cu.o
 have K:=zl hI;have dk:rf.sn=bO (V4 SS kk L):=by rw[bl];exact c1.o
 have bh:=zl dk;obtain⟨sf,d6⟩:∃sf,sf=V4 SS kk L:=⟨_,rfl⟩;rw[<-d6]at K bh bb;clear C a R hT hI dk bl d6 c2 cu c1 bf cl;refine mY zb3 I.o fun y fh dd dj=>?_;have Z:Hid<|Nw co y:=ji dd;have b9:Hid<|W6 y b k:=⟨bg.o.blk.nw Z.o,bg.o.kept.but Z.o fun _ _ _=>id,bg.o.seen.but Z.o fun _ _ _=>id⟩;have bc:Hid<|∀W,Nw y W->W.cell? (zq b 0)=bO k.kv:=fun W n=>n.cell id<|b9.o.blk.cell 0 rfl;have ee:Hid<|∀W,Nw y W->qW W k.kv k.kept:=fun W n=>b9.o.kept.but n fun _ _ _=>id;have ec:Hid<|k.kept.length<=100000:=by show _<=_;rw[B8.o.kept,KZ];have:=X.o.len;have:=X.o.cnt;omega
 have eh:Hid<|∀lv W,Nw y W->qW W lv (Vc k.kept [107] (wM vv 5) bK)->bE prog 14 #[zo B,lv] W fun e w'=>e= .returned (.bool bL)/\Nw W w':=fun lv W n hl=>Pp B rf sf _ lv W (c3.o.nw<|Z.o.trans n) bh.o K.o.P20 (fun p hp=>by have:=(TF K.o p hp).2.1;omega) (by have:=EP K.o;omega) hl (by rw[bb.o];exact(KN _).symm) (by rw[bb.o];exact fun i h=>D8 K.o bh.o i h);have c0:Hid<|Nw w y:=em.o.trans Z.o;have S0:=bc.o _<|xb.refl _ _;clear b9 bg c3 bh K bb
 conv=>arg 2;whnf
 go_wp2_with fail
 go_region_held3 (fun w'=>w'.cell? (zq b 0)=bO k.kv) (first|exact S0|exact S1|exact S2|exact S3)
  (first
   |(go_at_call 27;refine(Dr vv 5 (by omega) 5 rfl _).mono ?_;rintro e e6 ⟨rfl,dx⟩;have ce:Hid<|Nw y e6:=(xb.refl _ _).drew.trans<|xb.of_below dx;have S1:=bc.o _ ce.o)
   |(go_at_call 17;refine(Cb k.kept k.kv [107] (wM vv 5) bK ec.o _<|ee.o _ ce.o).mono ?_;rintro e e7 ⟨lv,rfl,Q,b3⟩;have cf:Hid<|Nw y e7:=ce.o.trans b3;have PL:=zl<|Uk Q;have S2:=bc.o _ cf.o;clear Q b3)
   |(go_at_call 14;refine(eh.o _ _ cf.o PL.o).mono ?_;rintro e e8 ⟨rfl,b4⟩;have cz:Hid<|Nw y e8:=cf.o.trans b4;have S3:=bc.o _ cz.o;clear b4))
 go_wp2_with fail
 refine dj.o .ret _ _ ?_;rw[<-ef.o];refine⟨rfl,.bool bL,fun t d=>⟨t,d, ?_⟩,rfl,c0.o.trans cz.o⟩;show(aN Tryz.f7 _).run prog _=_;simp[aN,Tryz.results7,go_sem]
end P
namespace A
open Go Go.Conc
variable [pn:Pn]
section
variable {Post:Zv→Zy→Prop}
section
variable {P:Program} {F:Array Func} {X:Nat->Prop}
def vR.ends{g:Zg}{w:Zy}{m:Machine}{t:Trace}(U:vR P X g w m t)
  (h:∀u:Zy,Sm P X (A.re w u.tape u.drawn) u->∃val es u',stepG P bL g u= .ended (.done val) u' es/\(∀e∈es,xR X u.heap.size e)/\Post val u'):
  ∃N last o w' t',runNT P (N+1) m t=(.ended o w',t')/\runN P N m= .next last/\step P last= .ended o w'/\Conc.Good P Post last o w' t':=by
 obtain⟨⟨a,v,sl,k,rfl,l,y,G⟩,ok,c,J⟩:=U;refine run_of_inv BO (fun k m t=>∃(a:Array _) (v:Zy) (sl:Option _),m=Conc.crowd a v sl/\a[0]?=bO g/\JL P X k a v t/\Sm P X (A.re w v.tape v.drawn) v) _ ?_ k _ _ ⟨a,v,sl,rfl,l,y,G⟩;clear y G l;rintro k m t ⟨a,v,sl,rfl,l,y,G⟩;have I:∀g∈a,awake g:=by
  intro f n;obtain⟨i,p,rfl⟩:=Z1.1 n;rcases jl i with rfl|b
  have:a[0]=g:=by simpa[xg p]using l
  rw[this];exact awake_of<|.inl c;exact J5.awake k a v t y i _ b<|xg p
 obtain⟨i,f,d,F,p,n,E⟩:=crowd_pick (P:=P) (w:=v) (sl:=sl) I ⟨0,g,l,c⟩;have z:=J5.drawn k a v t d y;have C:Sm P X (A.re w v.tape d)<|v.at d:=G.re _ d;rcases jl i with rfl|b
 obtain rfl:f=g:=by rw[l]at p;exact(jf p).symm
 obtain⟨val,es,u',D,K,r⟩:=h (v.at d) C;have s:=runT_many_ended (sl:=F) p (show stepG P _ f _=_ from D);obtain⟨q,S,T,rfl⟩:=z;have B:=T.own (fn:=f.frame.fn) (pos:=f.frame.place) K;refine .inl ⟨_,_,_,E.trans s,val,rfl,r,B.clean,B.over,⟨fun x O=>?_,rfl⟩,fun j x O L=>?_⟩;obtain⟨j,L⟩:=List.mem_iff_getElem?.1 O;rw[PK]at L;exact⟨_,(S.old (1+j) x (by omega)<|by simpa[Conc.crowd]using L).leaves⟩;have V:=S.old j x (by omega) O;refine⟨q j, ?_⟩;have e:(t++MemOp.ofEvents 0 f.frame.fn f.frame.place es).deaf j (t++MemOp.ofEvents 0 f.frame.fn f.frame.place es).size=Deaf t j:=
  Deaf_other t (g':=0) (by omega) _ (fun op M=>by obtain⟨e,_,rfl⟩:=zy M;rfl)
 rw[e];exact V.hears _;obtain⟨H,v',R,Q,W,Y,Z,r3,r4,r5⟩:=J5.other k a (v.at d) t i f g F z b p n l c J;exact .inr ⟨_,Q,W,E.trans Y,Z,H,v',R,rfl,r3,r4,r5 w C⟩
def SD(B:Nat):qD X B #[]:=
 ⟨past_nil.clean,fun i a b c=>by simp[touchAt,Trace.act?]at b,past_nil.over,past_nil.hears,fun i a b=>by simp[touchAt,Trace.act?]at b⟩
def CT{N0:Nat}{m m1:Machine}{t t1:Trace}(a:runNT P N0 m t=(.next m1,t1))(h:∃N last o w' t',runNT P (N+1) m1 t1=(.ended o w',t')/\runN P N m1= .next last/\step P last= .ended o w'/\Conc.Good P Post last o w' t'):
  ∃N last o w' t',runNT P (N+1) m t=(.ended o w',t')/\runN P N m= .next last/\step P last= .ended o w'/\Conc.Good P Post last o w' t':=by
 obtain⟨N,last,o,w',t',b,c,d,e⟩:=h;refine⟨N0+N,last,o,w',t', ?_, ?_,d,e⟩;rw[Ja];exact ql a b;have f:(runNT P (N0+N) m t).1=(runNT P N m1 t1).1:=by
  rw[ql a (r:=(runNT P N m1 t1)) rfl]
 rw[<-runNT_fst P (N0+N) m t,f,runNT_fst];exact c
theorem zvf(K:J0 P F){f:FuncId}{args:Za}{fnc:Func}{c:Code}{R:Ending->Zy->Prop}(Z:¬Mc P f)(B:Ys P F f)(H:P.funcs[f]?=bO fnc)(O:fnc.body=bO c)
  {w v0:Zy}(h:Xn P f c (nJ P F fnc R) ⟨args++aW (fnc.ntmps-args.size) undef,[]⟩ w)(q:∀ch w',¬R (.panicked ch) w')(hS:Sm P X (A.re w v0.tape v0.drawn) v0):
  ∃N last o w' t',runNT P (N+1) (solo (G (bF P f args .normal) []) v0) #[]=(.ended o w',t')/\runN P N (solo (G (bF P f args .normal) []) v0)= .next last/\step P last= .ended o w'/\
   Conc.Good P (fun val u=>∃X' w',(∀x,X x->X' x)/\R (.returned val) w'/\Sm P X' (A.re w' u.tape u.drawn) u) last o w' t':=by
 have s:bF P f args .normal=(bF P f args .normal).at ⟨args++aW (fnc.ntmps-args.size) undef,[]⟩ [.code c]:=by
  simp[bF,Frame.at,H,O]
 have T:(wf P F).funcs[f]?=bO fnc:=by show F[f]?=_;rw[B.1];exact H
 have z:Xv P<|bF P f args .normal:=by
  have e:bF (wf P F) f args .normal=bF P f args .normal:=by simp[bF,T,H]
  rw[<-e];exact j_ K.codes B Z args ⟨by simp,by simp⟩
 have hi:P.inits.idxOf? f=bN:=z.init;have hb:vR P X (Z0 (bF P f args .normal) []) w (solo (G (bF P f args .normal) []) v0) #[]:=
  ⟨⟨#[Z0 _ []],v0,bN,_,rfl,rfl,⟨fun _=>0,⟨fun i g hi hg=>by
    have:i=0:=by have:=(za.1 hg).1;simp at this;omega
    omega,fun j hj=>rfl⟩,SD _,rfl⟩,hS⟩,⟨.inr z,fun c O=>by cases O⟩,rfl,rfl⟩
 let At:Zg->Zy->Prop:=fun g' w'=>∃(a:Act) (b:List Item) (val:Zv),g'=Z0 {(bF P f args .normal).at a b with mode:= .returning} []/\a.defers=[]/\(∀t d,∃t' d',(aN fnc a.tmps).run (wf P F) (A.re w' t d)= .ok val (A.re w' t' d'))/\R (.returned val) w';have V:RX P (Z0 (bF P f args .normal) []) w At:=by
  rw[s];refine h (bF P f args .normal) [] [] _ rfl rfl (fun e E w' k=>?_) fun e E w' g' k n=>?_;cases e with
  |normal=>trivial
  |ret=>exact k.1
  |panic ch=>exact k.1
  |exit id=>exact k.2.elim
  |goto l=>exact k.2.elim
  |outgrown=>exact k.2.elim
  cases e with
  |normal=>
   obtain⟨_,rfl⟩:=n;obtain⟨hd,v,C,q⟩:=k;refine RX.ctl K (g':=Z0 {(bF P f args .normal).at E []with mode:= .returning} []) Z (fun v=>?_) rfl rfl rfl<|.refl ⟨E,[],v,rfl,hd,C,q⟩;simp[stepG,Z0,Frame.at,stepG.exec]
  |ret=>
   obtain⟨_,b,rfl⟩:=n;obtain⟨hd,v,C,q⟩:=k;exact .refl ⟨E,b,v,rfl,hd,C,q⟩
  |panic ch=>exact(q ch w' k.2).elim
  |exit id=>exact k.2.elim
  |goto l=>exact k.2.elim
  |outgrown=>exact k.2.elim
 obtain⟨N,m',t',X',g',w',L,x1,b1,a,b,val,rfl,hd,C,M⟩:=V X _ _ hb;refine CT L<|b1.ends fun u r=>?_;obtain⟨t1,Y,D⟩:=C u.tape u.drawn;obtain⟨p,m,I⟩:=(QM (P:=P) (F:=F) (X:=X') fnc a.tmps).gJ _ u #[] r (by rw[D];trivial);rw[D]at I;have J:Sm P X' (A.re w' t1 Y) p:=I.sm;have W:p.heap.size=u.heap.size:=J.size.trans r.size.symm;refine⟨val,seen P f (#[]++m)++#[],p, ?_,fun e s=>?_,X',w',x1,M, ?_⟩;have U:(aN fnc a.tmps).runT P u #[]=(.ok val p,#[]++m):=I.eq;have y:=IM (fr:={(bF P f args .normal).at a b with mode:= .returning}) (by simp[bF,Frame.at]) hi val p;show unwind P bL {(bF P f args .normal).at a b with mode:= .returning} [] bN u=_;have Q:({(bF P f args .normal).at a b with mode:= .returning}:Zf).defers=[]:=hd;have S:P.funcs[({(bF P f args .normal).at a b with mode:= .returning}:Zf).fn]?=bO fnc:=H;unfold unwind;rw[Q];simp only[S];rw[show(aN fnc ({(bF P f args .normal).at a b with mode:= .returning}:Zf).tmps).runT P u #[]=(.ok val p,#[]++m)from U];simp only[y];rfl;have s:e∈seen P f (#[]++m):=by simpa using s
 have:=I.evs e (by simpa using mem_seen s);rw[W]at this;exact .pV this;have L:p.tape=t1:=J.tape;have e2:p.drawn=Y:=J.drawn;rw[L,e2];exact J
end
end
end A
namespace P
open Go.RowKit A Go Go.Conc
def WQ:Obj->Bool
 | .pending ..=>bL
 | .deferred _=>bL
 | .loop _=>bL
 |_=>bK
def EZ(j:Nat):Obj:= .chan j #[] bK 0 0 bK
def clean(j:Nat)(o:Obj):Obj:=if WQ o=bL then EZ j else o
def oH(j:Nat)(v:Zy):Zy:={v with heap:=v.heap.map<|clean j}
def X0(v:Zy)(r:Nat):Prop:=∃o,v.heap[r]?=bO o/\WQ o=bL
abbrev oO(v:Zy):Pn:=⟨⟨v.heap.size,fun r=>v.heap[r]?⟩⟩
section
variable {j r:Nat} {v:World}
def I_:(oH j v).heap[r]?=(v.heap[r]?).map (clean j):=by simp[oH]
def JK:(oH j v).heap.size=v.heap.size:=by simp[oH]
def D7(h:¬X0 v r):(oH j v).heap[r]?=v.heap[r]?:=by
 rw[I_];cases e:v.heap[r]?with
 |none=>rfl
 |some o=>
  have:¬WQ o=bL:=fun a=>h ⟨o,e,a⟩;simp[clean,this]
def Bc(h:X0 v r):(oH j v).heap[r]?=bO (EZ j):=by
 obtain⟨o,e,a⟩:=h;rw[I_,e];simp[clean,a]
def wR{a:Addr}{x:Zv}(h:v.cell? a=bO x):(oH j v).cell? a=bO x:=by
 obtain⟨g,e,i,d,_⟩:=A.cells_of_cell (pn:=oO v) (py:=⟨132⟩) h;have f:¬X0 v a.block:=by
  rintro⟨o,b,c⟩;rw[d]at b;cases b;cases c
 have e:=D7 (j:=j) f;unfold World.cell? at h⊢;rw[e];exact h
def mC(P:Zp):Sm (pn:=oO v) P (X0 v) (A.re (oH j v) v.tape v.drawn) v:=by
 refine @Sm.mk (oO v) P (X0 v) (A.re (oH j v) v.tape v.drawn) v JK.symm (fun r a=>(D7 a).symm) (fun r a=>?_) (fun r=>?_) rfl rfl rfl rfl ⟨Nat.le_of_eq JK.symm,fun r _ _=> .inl rfl⟩;have b:=Bc (j:=j) a;obtain⟨o,e,c⟩:=a;exact⟨EZ j,o,b,e,.inl ⟨rfl,by cases o<;>first|rfl|cases c⟩⟩;show A.dL P (oH j v).heap[r]?;rw[I_];cases v.heap[r]?with
 |none=>exact .none
 |some o=>cases o<;>exact⟨fun _ _ h=>(by cases h),fun _ h=>(by cases h),fun _ h=>(by cases h)⟩
end
def iA.ref{cv tv:Zv}{v:Zy}(h:iA cv tv v)(j:Nat):iA cv tv<|oH j v:=by
 obtain⟨⟨t,x,a,b⟩,⟨g,k,c,d⟩,e⟩:=h;exact⟨⟨t,x,a,wR b⟩,⟨g,k,c,wR d⟩,fun i f=>wR<|e i f⟩
def AL.ref{v:Zy}{x:Zv}{D:List Ac}(h:AL v.heap.size v x D)(j:Nat):AL (oH j v).heap.size (oH j v) x D:=by
 obtain⟨a,b,o,p,q⟩:=h;refine⟨a,b,o,p,fun i r=>?_⟩;obtain⟨g,c,m,n,d,e,f,k,l⟩:=q i r;exact⟨g,c,m,by rw[JK];exact n,wR d,wR e,wR f,wR k,wR l⟩
def Two2.ref{cv tv:Zv}{v:Zy}(h:Two2 v.heap.size cv tv v)(j:Nat):Two2 (oH j v).heap.size cv tv<|oH j v:=by
 obtain⟨a,b,c,d,n,o,e,f,g,l,m,i,k⟩:=h;rw[JK];exact⟨a,b,c,d,n,o,e,f,g,l,m,by rw[I_,i];rfl,by rw[I_,k];rfl⟩
def ZT{P:Zp}{o:Outcome}{w:Zy}{t':Trace}:∀{n:Nat} {m:Machine} {t:Trace},runNT P n m t=(.ended o w,t')->∀k,runNT P (n+k) m t=(.ended o w,t')
 |0,m,t,h,k=>by simp[runNT]at h
 |n+1,m,t,h,k=>by
  rw[Nat.add_right_comm];unfold runNT at h⊢;split at h;exact ZT h k;exact h
def WN(v u:Zy):Prop:=u.os=v.os/\u.output=v.output/\v.heap.size<=u.heap.size/\∀r,r<v.heap.size->u.heap[r]?=v.heap[r]?
def Rolled_run{cv tv:Zv}(C:Zl)(k:Int)(z:-9223372036854775808<=k/\k<=9223372036854775807)(x:Zv)(F:List Ac)(E:Zl){v:Zy}(U:iA cv tv v)(w:Two2 v.heap.size cv tv v)(y:AL v.heap.size v x F):
  ∃N last o w' t',runNT bM (N+1) (solo (G (bF bM 7 #[.string<|st C,.int .i64 k,x,.string<|st E] .normal) []) v) #[]=(.ended o w',t')/\runN bM N (solo (G (bF bM 7 #[.string<|st C,.int .i64 k,x,.string<|st E] .normal) []) v)= .next last/\step bM last= .ended o w'/\
   Go.Conc.Good bM (fun val u=>val= .bool bL/\WN v u) last o w' t':=by
 have i:∀j,_:=fun j=>zvf (pn:=oO v) (bQ (pn:=oO v)) (zb3 (pn:=oO v)) (bZ (pn:=oO v) rfl Tryz.func7 rfl) Tryz.func7 (xpa (pn:=oO v)) (Rolled_wx (pn:=oO v) C k z x F E (U.ref j) (w.ref j)<|y.ref j) (fun ch w' h=>by cases h.1)<|mC (j:=j) (v:=v) bM;obtain⟨N,last,o,w',t',I,L,M,val,rfl,⟨Z,w1,X,c,q⟩,O⟩:=i 0;obtain⟨H,B,o2,a,D,Q,b2,b3,l,rfl,⟨X2,w2,Y,w,W⟩,b5⟩:=i 1;obtain rfl:a=w':=by
  have R:=ZT I<|H+1;have s:=ZT Q<|N+1;rw[zW<|H+1]at s;rw[R]at s;have S:(l=val/\a=w')/\D=t':=by simpa using s.symm
  exact S.1.2
 have g:∀{j:Nat} {n:ZP} {m:Zy},(∀r,X0 v r->n r)->Nw (oH j v) m->Sm (pn:=oO v) bM n (A.re m a.tape a.drawn) a->∀r,r<v.heap.size->a.heap[r]?=v.heap[r]?\/(X0 v r/\a.heap[r]?=bO (EZ j)):=by
  intro j n m hx V K r d;have J:m.heap[r]?=(oH j v).heap[r]?:=V.block r (by rw[JK];exact d) id;have f:a.heap[r]?=m.heap[r]?->a.heap[r]?=v.heap[r]?\/(X0 v r/\a.heap[r]?=bO (EZ j)):=fun e=>by
   rw[J]at e;rcases Classical.em (X0 v r)with b|b
   exact .inr ⟨b,e.trans<|Bc b⟩;exact .inl<|e.trans<|D7 b
  rcases Classical.em (n r)with t|t;rcases(Sm.pin (pn:=oO v) K).2 r t d with e|e;exact .inl e;exact f e;exact f<|Sm.out (pn:=oO v) K r t
 refine⟨N,last,_,a,t',I,L,M,val,rfl,⟨?_, ?_, ?_, ?_,fun r d=>?_⟩,O⟩;have:=c.1;simpa using this;exact(Sm.os (pn:=oO v) q).trans c.2.os;exact(Sm.output (pn:=oO v) q).trans c.2.output;have e0:=Sm.size (pn:=oO v) q;have J:a.heap.size=w1.heap.size:=e0;have T:=c.2.size;rw[JK]at T;omega;rcases g X c.2 q r d with e|⟨b,e⟩
 exact e;rcases g Y w.2 W r d with p|⟨_,p⟩
 exact p;rw[e]at p;simp[EZ]at p
end P
namespace P
open Go.RowKit A Go.ChangeShapes Go.WideShapes
def Uc:Tryz.prog.cellsOf 39=5:=by kernel_rfl
def JR{w:Zy}{base:Nat}{a:Addr}{n:Nat}{cs:Ze}(h:w.cells? base a n=bO cs)(i:Nat)(e:i<n):∃v,cs[i]?=bO v/\w.cell? (a.add i)=bO v:=by
 unfold World.cells? at h;split at h;obtain⟨b,c,d⟩:=Lib.mapM_at h i i (by simp[e]);exact⟨b,c,d⟩;cases h
def xoj(s:ByteArray):st s.data.toList=s:=by cases s;simp[st]
def Gk{H:Type}{enc:Zt×Zv->H}{W:Zy}{fuel:Nat}{a:Addr}{cs:Ze}{x:DataW H×List MemPlace}
  (e:W.cells? 0 a 5=bO cs)(E:DataW.trod enc bM W 0 (fun _=>bL) bL fuel 39 cs=bO x):
  ∃g off d,a=(zq g off)/\Ac.At W g off d:=by
 obtain⟨N,e0,i⟩:=JR e 0 (by decide);obtain⟨O,j,w⟩:=JR e 1 (by decide);obtain⟨Q,l,y⟩:=JR e 2 (by decide);obtain⟨R,m,z⟩:=JR e 3 (by decide);obtain⟨S,o,B⟩:=JR e 4 (by decide);obtain⟨M,n,_,rfl,v,f,b⟩:=DataW.trod_struct Tryz.underlying39 E;rw[Uc]at v
 match cs,v with
 |[u0,u1,u2,u3,u4],_=>
  match M,f with
  |[x0,x1,x2,x3,x4],_=>
   have p:=b 0 _ rfl;have q:=b 1 _ rfl;have r:=b 2 _ rfl;have s:=b 3 _ rfl;have t:=b 4 _ rfl;simp only[Xl,Xb]at p q r s t;simp only[Xl,Xb,zp]at e0 j l m o;obtain⟨k,hk,_,_⟩:=DataW.trod_int Tryz.underlying3 p;obtain⟨J,G,_,_⟩:=DataW.trod_int Tryz.underlying3 q;obtain⟨I,F,_,_⟩:=DataW.trod_int Tryz.underlying3 r;obtain⟨K,C,_,_⟩:=DataW.trod_string Tryz.underlying9 s;obtain⟨L,D,_,_⟩:=DataW.trod_string Tryz.underlying9 t;cases hk;cases G;cases F;cases C;cases D;subst e0;subst j;subst l;subst m;subst o;obtain⟨g,off,h⟩:=a;have c:h=bN:=by simpa[Addr.add]using World.cell?_spot i
   subst c;rw[Go.WideShapes.add_plain]at i w y z B;exact⟨g,off,⟨k,J,I,K.data.toList,L.data.toList⟩,rfl,i,w,y,z,B⟩
def QQ{H:Type}{enc:Zt×Zv->H}{W:Zy}{fuel:Nat}{a0:Option Addr}{len cap:Nat}{x:DataW H×List MemPlace}
  (B:DataW.trod enc bM W 0 (fun _=>bL) bL fuel 25 (Value.slice a0 len cap).cells.toList=bO x):∃D,AL W.heap.size W (.slice a0 len cap) D:=by
 have p:DataW.trod enc bM W 0 (fun _=>bL) bL fuel 25 [Value.slice a0 len cap]=bO x:=B;rcases DataW.trod_slice Tryz.underlying25 p with⟨c,_⟩|⟨a,w,r,j,y,n,_,c,J,_,G,I,v,o,_,_⟩
 cases c;exact⟨[],bN,0,rfl,by simp,fun i h=>by simp at h⟩;cases c;have f:∀i,i<len->∃g b d,a.add (i*5)=(zq g b)/\Ac.At W g b d:=by
  intro i k;have t:=o i k;have q:i<j.length:=by omega
  rw[Uc,Yh q,Option.bind_eq_some_iff]at t;obtain⟨F,c,C⟩:=t;exact Gk c C
 have e:∀i,i<len->∃d,∃g b,bO a=bO ⟨g,b,bN⟩/\g<W.heap.size/\Ac.At W g (b+i*5) d:=by
  intro i k;obtain⟨z,E,_,m,_⟩:=f 0 (by omega);rw[Nat.zero_mul]at m;have m:a=(zq z E):=by simpa[Addr.add]using m
  subst m;obtain⟨g,b,d,s,l⟩:=f i k;rw[Go.WideShapes.add_plain]at s;cases s;exact⟨d,_,_,rfl,qz l.1,l⟩
 refine⟨List.ofFn fun i:Fin len=>Classical.choose<|e i i.2,bO a,cap,by rw[List.length_ofFn],by rw[List.length_ofFn];omega,fun i k=>?_⟩;rw[List.length_ofFn]at k;rw[List.getElem_ofFn];exact XZ<|e i k
end P
namespace P
open Go.ChangeShapes Go.WideShapes Go.ChangeAt Go.RowKit A Go.Conc
open Go.ChangeMaps (open_string shut_string)
def own:ownKnob Tryz.prog.godebug=bN:=by kernel_rfl
def UD:laidOutB bM=bL:=by kernel_rfl
def Gq:Tryz.prog.globalNamed "coffer/prim.roundWords"=bO 4:=by kernel_rfl
def Q2:(Tryz.prog.globals[4]?).map (·.type)=bO 336:=by kernel_rfl
def xw8:Tryz.prog.globalNamed "coffer/disk.ErrCrashed"=bO 0:=by kernel_rfl
def P3:(Tryz.prog.globals[0]?).map (·.type)=bO 169:=by kernel_rfl
def xw9:Tryz.prog.globalNamed "coffer/coffer.errTampered"=bO 1:=by kernel_rfl
def R1:(Tryz.prog.globals[1]?).map (·.type)=bO 169:=by kernel_rfl
def F0:Tryz.prog.cellsOf 336=64:=by kernel_rfl
def E6:Tryz.prog.cellsOf 243=1:=by kernel_rfl
def Ki:List Int:=[1116352408,1899447441,3049323471,3921009573,961987163,1508970993,2453635748,2870763221,3624381080,310598401,607225278,1426881987,1925078388,2162078206,2614888103,3248222580,3835390401,4022224774,264347078,604807628,770255983,1249150122,1555081692,1996064986,2554220882,2821834349,2952996808,3210313671,3336571891,3584528711,113926993,338241895,666307205,773529912,1294757372,1396182291,1695183700,1986661051,2177026350,2456956037,2730485921,2820302411,3259730800,3345764771,3516065817,3600352804,4094571909,275423344,430227734,506948616,659060556,883997877,958139571,1322822218,1537002063,1747873779,1955562222,2024104815,2227730452,2361852424,2428436474,2756734187,3204031479,3329325298]
def xs8:∀i:Fin 64,Ki.getD i.val 0=u (Kc i.val):=by decide+kernel
def ZV{P:Zp}{W:Zy}{x:String×DataW Unit}{rest:List<|String×DataW Unit}(h:laidMet P (x::rest) W):laidMet P rest W:=by
 obtain⟨r,⟨g,t,k,c,p,q,l,m,n,o,d,e⟩,j,f⟩:=h;subst e;exact⟨q,d,(List.nodup_append.1 j).2.1,fun b a i=>f b a<|List.mem_append_right _ i⟩
def starE: "*" ++ "errors.errorString"= "*errors.errorString":=by decide
def row380(u:Zt)(h:Tryz.prog.typeName? 3 u=bO "*errors.errorString"):u=380:=
 typeName_ptr_named (nm:= "errors.errorString") (by rw[starE];kernel_rfl) (by kernel_rfl) (by decide) u (by rw[starE];exact h)
def cells402:Tryz.prog.cellsOf 402=1:=by kernel_rfl
def cells9:Tryz.prog.cellsOf 9=1:=by kernel_rfl
def cell_of_var{W:Zy}{n:String}{g:Nat}{v:Zv}(a:Tryz.prog.globalNamed n=bO g)(h:W.var? bM n=bO #[v]):W.cell? (zq g 0)=bO v:=by simpa using World.var?_cell a h 0
def xq3{W:Zy}(h:laidMetH bM Rows.rolledRow.laid W):∃cv tv,iA cv tv W/\Two2 W.heap.size cv tv W:=by
 have g:laidMet bM [("coffer/prim.roundWords",Rows.laid_coffer_prim_roundWords),("coffer/disk.ErrCrashed",Rows.laid_coffer_disk_ErrCrashed),("coffer/coffer.errTampered",Rows.laid_coffer_coffer_errTampered)] W:=h;have t:Lib.TabIs bM W "coffer/prim.roundWords" .u32 Ki:=Lib.tabIs_of_head (rest:=_) Gq Q2 Tryz.underlying336 Tryz.underlying243 E6 F0 g;obtain⟨l,m,s,v,n,p,q,r,d,f,_,_,_,_,_,_,c,a,b⟩:=laid_sentinels2 (ZV g) xw8 P3 xw9 R1 Tryz.underlying169 row380 Tryz.underlying380 Tryz.underlying402 rfl rfl Tryz.underlying9 cells402 cells9;have k:∀{i:Nat} {o:Obj},W.heap[i]?=bO o->i<W.heap.size:=fun h=>(za.1 h).1;refine⟨_,_,⟨⟨_,_,rfl,cell_of_var xw8 d⟩,⟨_,_,rfl,cell_of_var xw9 f⟩,fun i j=>?_⟩,l,m,n,p,q,r,rfl,rfl,fun e=>c e.symm,k a,k b,a,b⟩;rw[t.cell Gq i j,xs8 ⟨i,j⟩]
def WN.below{v u:Zy}(h:WN v u):Below v.blind.heap.size v.blind u.blind:=⟨h.1,rfl,h.2.1,h.2.2.1,h.2.2.2⟩
abbrev xqt:ByteArray:={data:=#[116,104,101,32,109,97,99,104,105,110,101,32,115,116,111,112,112,101,100]}
abbrev xvt:ByteArray:={data:=#[115,111,109,101,98,111,100,121,32,104,97,115,32,98,101,101,110,32,97,116,32,116,104,101,32,100,105,115,107]}
noncomputable def low:Nat:=(World.holding bM default ⟨#[],#[],[]⟩).heap.size
noncomputable def Mi(os:Os):Zy:=
 let w0:=World.holding bM os ⟨#[.cells #[.string xqt] 402,.cells #[.string xvt] 402],#[],[]⟩
 {w0 with heap:=((w0.heap.modify 4 fun
   | .cells _ t frozen=> .cells #[zu 1116352408,zu 1899447441,zu 3049323471,zu 3921009573,zu 961987163,zu 1508970993,zu 2453635748,zu 2870763221,zu 3624381080,zu 310598401,zu 607225278,zu 1426881987,zu 1925078388,zu 2162078206,zu 2614888103,zu 3248222580,zu 3835390401,zu 4022224774,zu 264347078,zu 604807628,zu 770255983,zu 1249150122,zu 1555081692,zu 1996064986,zu 2554220882,zu 2821834349,zu 2952996808,zu 3210313671,zu 3336571891,zu 3584528711,zu 113926993,zu 338241895,zu 666307205,zu 773529912,zu 1294757372,zu 1396182291,zu 1695183700,zu 1986661051,zu 2177026350,zu 2456956037,zu 2730485921,zu 2820302411,zu 3259730800,zu 3345764771,zu 3516065817,zu 3600352804,zu 4094571909,zu 275423344,zu 430227734,zu 506948616,zu 659060556,zu 883997877,zu 958139571,zu 1322822218,zu 1537002063,zu 1747873779,zu 1955562222,zu 2024104815,zu 2227730452,zu 2361852424,zu 2428436474,zu 2756734187,zu 3204031479,zu 3329325298] t frozen
   |o=>o).modify 0 fun
   | .cells _ t frozen=> .cells #[.iface 380<|zo low] t frozen
   |o=>o).modify 1 fun
   | .cells _ t frozen=> .cells #[.iface 380<|zo<|low+1] t frozen
   |o=>o}
def W1(a:Os):laidMet bM Rows.rolledRow.laid ((Mi a).forCall (fun _ _=>0) ⟨#[],#[.string ⟨#[]⟩,zi 0,.slice bN 0 0,.string ⟨#[]⟩],[]⟩).memory:=
 laidMet_of_run' 70 (by kernel_rfl) (by kernel_rfl)
def xvf(a:Os){H:Type}(enc:Zt×Zv->H):∃places,DataW.whole enc bM ((Mi a).forCall (fun _ _=>0) ⟨#[],#[.string ⟨#[]⟩,.int .i64 0,.slice bN 0 0,.string ⟨#[]⟩],[]⟩).memory Tryz.f7.params.toList Rows.rolledSpec.vars bK (#[Value.string ⟨#[]⟩,.int .i64 0,.slice bN 0 0,.string ⟨#[]⟩]).toList 8=bO ([.lit<|.string [],.lit<|.int .i64 0,.nil,.lit<|.string []],[],places):=
 ⟨[],by kernel_rfl⟩
def xxj{H:Type}{enc:Zt×Zv->H}(W:Zy)(base:Nat)(args:Za)(B gs:List<|DataW H)(b:List MemPlace)
  (a:∀(j:Nat) t v,Tryz.f7.params[j]?=bO t->args[j]?=bO v->Value.okWide bM W .any base t v)
  (K:DataW.Whole enc bM Tryz.f7.params.toList Rows.rolledSpec.vars bK W args.toList B gs b)(X:laidMetH bM Rows.rolledRow.laid W):
  ∃M last o w' t',runNT bM (M+1) (solo (G (bF bM 7 args .normal) []) W) #[]=(.ended o w',t')/\runN bM M (solo (G (bF bM 7 args .normal) []) W)= .next last/\step bM last= .ended o w'/\
   Conc.Good bM (fun v W'=>Rows.rolledSpec.post enc bM Tryz.f7 bK bL bK bK W.blind args v W'.blind) last o w' t':=by
 have c:=K;obtain⟨p,q,e,Y,rfl,ba,bb⟩:=K;have J:DataW.TrodAll enc bM W 0 (fun _=>bL) bL Tryz.f7.params.toList args.toList B p:=e;rw[Tryz.params7]at J a;obtain⟨v0,v1,v2,v3,d0,d1,T,d3,p0,p1,L,p3,rfl,rfl,rfl,E,F,i,I⟩:=trodAll_four J;obtain⟨rfl,rfl⟩:=trodVars_none Y;have l:=E;have m:=F;have n:=i;have r:=I;obtain⟨Q,rfl,rfl,rfl,bc⟩:=open_string Tryz.underlying9 (a 0 9 v0 rfl rfl) E;obtain⟨n1,rfl,rfl,rfl,g⟩:=open_int Tryz.underlying3 (a 1 3 v1 rfl rfl) F;obtain⟨S,z,k,rfl⟩:=okWide_slice Tryz.underlying25<|a 2 25 v2 rfl rfl;obtain⟨R,rfl,rfl,rfl,bd⟩:=open_string Tryz.underlying9 (a 3 9 v3 rfl rfl) I;obtain⟨C,Z⟩:=i;clear e;simp only[Xq]at c;have s:∀x∈L,x.block<W.heap.size:=fun x d=>c.lt x (by simpa using d);obtain⟨D,U⟩:=QQ Z;obtain⟨cv,tv,V,i⟩:=xq3 X;have w:-9223372036854775808<=n1/\n1<=9223372036854775807:=by
  simp only[Lit.wf,xl,X9]at g;exact g
 obtain⟨M,last,o,w',t',N,O,r3,r4⟩:=Rolled_run Q.data.toList n1 w _ D R.data.toList V i U;rw[xoj,xoj]at N O;refine⟨M,last,o,w',t',N,O,r3,r4.mono fun v hp=>?_⟩;obtain⟨rfl,hk⟩:=hp;have f:=hk.below;have y:=DataW.Whole.of_heap (w':=W.blind) (by rfl) c;have t0:DataW.Trod enc bM W.blind 0 (fun _=>bL) bL 9 (.string Q) _ []:=DataW.Trod.of_heap (by rfl) l;have t1:DataW.Trod enc bM W.blind 0 (fun _=>bL) bL 3 (.int .i64 n1) _ []:=DataW.Trod.of_heap (by rfl) m;have t2:DataW.Trod enc bM W.blind 0 (fun _=>bL) bL 25 (.slice S z k) T L:=DataW.Trod.of_heap (by rfl) n;have t3:DataW.Trod enc bM W.blind 0 (fun _=>bL) bL 9 (.string R) _ []:=DataW.Trod.of_heap (by rfl) r;refine⟨_,_,_,[],_,[],y,trodAll_cons_mk (shut_bool Tryz.underlying4 _) trodAll_mk0,
  trodAll_cons_mk (Below.trod UD (by kernel_rfl) (Xj<|by kernel_rfl) t0 f fun x d=>by cases d) (trodAll_cons_mk (Below.trod UD (by kernel_rfl) (Xj<|by kernel_rfl) t1 f fun x d=>by cases d)
   (trodAll_cons_mk (Below.trod UD (by kernel_rfl) (Xj<|by kernel_rfl) t2 f s)<|trodAll_cons_mk (Below.trod UD (by kernel_rfl) (Xj<|by kernel_rfl) t3 f fun x d=>by cases d) trodAll_mk0)),rfl,f.frame _,fun h=>by cases h⟩
def lifted(h:Os)(a:h.Started)(H:Type)(enc:Zt×Zv->H):
  ReturnsInLeavingWide {} Tryz.checked h 7 .any ((OpenSpec.ofChange Rows.rolledSpec).preRow enc bM Tryz.f7 Rows.rolledRow.domain bK Rows.rolledRow.laid) (Rows.rolledSpec.post enc bM Tryz.f7 bK bL bK bK):=by
 obtain⟨j,v⟩:=xvf h enc;refine returnsInLeavingWide_of_good (C:=Tryz.checked) own a
  (witness_row_at (enc:=enc) (C:=Tryz.checked) (s:=OpenSpec.ofChange Rows.rolledSpec) bK (Mi h) #[.string ⟨#[]⟩,zi 0,.slice bN 0 0,.string ⟨#[]⟩] rfl (by kernel_rfl) (by kernel_rfl) (by kernel_rfl)
   (OpenSpec.preRow_of_cond 8 v (by kernel_rfl) (fun k hk=>by cases hk) (by kernel_rfl)<|W1 h)) ?_
 intro w c i _ _ _ m f _;obtain⟨_,_,_,l,d,_,_,_,_,g⟩:=m;have e:l=Tryz.f7:=jf<|d.symm.trans Tryz.func7;subst e;obtain⟨⟨r,q⟩,y⟩:=f;obtain⟨o,p,b,t,x,hk⟩:=OpenSpec.pre_parts r;have n:=DataW.Whole.of_heap (w':=w.forCall c i) (by rfl) t;exact xxj (w.forCall c i) w.heap.size i.args o p b g n<|q.of_heap<|by rfl
end P
namespace P
open Go.RowKit A
def gX{a b:Bool}(h:a=bL)(k:b=bL):(a&&b)=bL:=by rw[h,k];rfl
def j0:(Rows.rolledRow.wf<|OpenSpec.ofChange Rows.rolledSpec)=bL:=by kernel_rfl
def j1:(laidOutB Tryz.pinned.checked.prog)=bL:=by kernel_rfl
def j2:(mapsRowed Tryz.pinned.checked.prog)=bL:=by kernel_rfl
def j3:(Tryz.f7.params.all (Tryz.pinned.checked.prog.readableRec ·))=bL:=by kernel_rfl
def j4:(namedTie Tryz.pinned.checked.prog Rows.rolledRow.named Rows.rolledSpec.vars)=bL:=by kernel_rfl
def j5:((Rows.rolledRow.stops==[]))=bL:=by kernel_rfl
def j6:((Tryz.pinned.checked.prog.stops==[]))=bL:=by kernel_rfl
def j7:((Rows.rolledRow.knobs==[]))=bL:=by kernel_rfl
def j8:((Tryz.pinned.checked.prog.stopKnobs==[]))=bL:=by kernel_rfl
def j9:((Rows.rolledRow.inPlace==Tryz.pinned.checked.prog.inPlace 7))=bL:=by kernel_rfl
def j10:((Rows.rolledRow.unfollowed==Tryz.pinned.checked.prog.unfollowed 7))=bL:=by kernel_rfl
def j11:((Rows.rolledRow.recurses==Tryz.pinned.checked.prog.recurses 7))=bL:=by kernel_rfl
def j12:((Rows.rolledRow.named==Tryz.pinned.checked.prog.varsNamed 7))=bL:=by kernel_rfl
def j13:((Rows.rolledRow.maps==(Tryz.f7.params.toList++Rows.rolledSpec.plain.varTypes Tryz.pinned.checked.prog).any (Tryz.pinned.checked.prog.mapsRec ·)))=bL:=by kernel_rfl
def eL:((Rows.rolledRow.ifaces==(Tryz.f7.params.toList++Rows.rolledSpec.plain.varTypes Tryz.pinned.checked.prog).any (Tryz.pinned.checked.prog.ifacesRec ·)))=bL:=by kernel_rfl
def eM:((Rows.rolledRow.mapsOut==Tryz.pinned.checked.prog.mapsAmong Tryz.f7.resultTypes.toList))=bL:=by kernel_rfl
def eN:((Rows.rolledRow.loops==(Tryz.f7.params.toList++Rows.rolledSpec.plain.varTypes Tryz.pinned.checked.prog).any (Tryz.pinned.checked.prog.loopsFrom ·)))=bL:=by kernel_rfl
def eQ:((Rows.rolledRow.wideKeys==(Tryz.f7.params.toList++Rows.rolledSpec.plain.varTypes Tryz.pinned.checked.prog++Tryz.f7.resultTypes.toList).any (Tryz.pinned.checked.prog.wideKeysFrom ·)))=bL:=by kernel_rfl
def eR:(Rows.rolledSpec.vars.all (Tryz.pinned.checked.prog.varReadable ·))=bL:=by kernel_rfl
def eS:(Tryz.f7.resultTypes.all fun t=>Tryz.pinned.checked.prog.readableRec t&&decide (t<Tryz.pinned.checked.prog.types.size))=bL:=by kernel_rfl
def eV:((Rows.rolledRow.ifacesOut==Tryz.f7.resultTypes.toList.any (Tryz.pinned.checked.prog.ifacesRec ·)))=bL:=by kernel_rfl
def eW:((Rows.rolledRow.loopsOut==Tryz.f7.resultTypes.toList.any (Tryz.pinned.checked.prog.loopsFrom ·)))=bL:=by kernel_rfl
def fL:((Rows.rolledRow.plainKeys==Tryz.pinned.checked.prog.plainKeys))=bL:=by kernel_rfl
def fN:(Rows.rolledRow.shortTexts.isNone)=bL:=by kernel_rfl
def fR:(Tryz.pinned.checked.prog.stopsHeard)=bL:=by kernel_rfl
def fS:(Tryz.pinned.checked.prog.mayEnter)=bL:=by kernel_rfl
def fW:((Rows.rolledRow.lifted==Tryz.pinned.checked.prog.liftsFinal))=bL:=by kernel_rfl
def fX:((Tryz.pinned.checked.prog.make==bO Rows.rolledRow.make))=bL:=by kernel_rfl
def fY:((Rows.rolledRow.kinds==(if Rows.rolledRow.domain.isEmpty then []else Tryz.f7.params.toList.map fun t=>match Tryz.pinned.checked.prog.underlying t with|some (.int k)=>bO k|_=>bN)))=bL:=by kernel_rfl
def gA:((Rows.rolledRow.pinned==Rows.rolledRow.pinnedBy))=bL:=by kernel_rfl
def gC:((Rows.rolledRow.veiled==(Tryz.f7.params.toList++Rows.rolledSpec.plain.varTypes Tryz.pinned.checked.prog++Tryz.f7.resultTypes.toList).any (Tryz.pinned.checked.prog.veiledRec ·)))=bL:=by kernel_rfl
def gE:(Rows.rolledRow.veiledFits Tryz.pinned.checked.prog Tryz.f7.params.toList<|Tryz.f7.params.toList++Rows.rolledSpec.plain.varTypes Tryz.pinned.checked.prog++Tryz.f7.resultTypes.toList)=bL:=by kernel_rfl
def xty:joinedFacts Tryz.pinned.checked.prog 7 Tryz.f7 Rows.rolledSpec Rows.rolledRow=bL:=by
 unfold joinedFacts;exact(gX (gX (gX (gX (gX (gX (gX (gX (gX (gX (gX (gX (gX (gX (gX (gX (gX (gX (gX (gX (gX (gX (gX (gX (gX (gX (gX (gX (gX (gX (gX j0 j1) j2) j3) j4) j5) j6) j7) j8) j9) j10) j11) j12) j13) eL) eM) eN) eQ) eR) eS) eV) eW) fL) fN) fR) fS) fW) fX) fY) gA) gC) gE)
def xro:Tryz.pinned.checked.prog.funcNamed Rows.rolledRow.func=bO 7:=by kernel_rfl
def xt3:Tryz.f7.isInstance Tryz.pinned.checked.prog Rows.rolledRow.origin Rows.rolledRow.targs:=Xj<|by kernel_rfl
def xv4:Tryz.f7.isWrapper Tryz.pinned.checked.prog Rows.rolledRow.wrapper Rows.rolledRow.mainSum:=by unfold Func.isWrapper;first|(rw[aA<|by decide+kernel];kernel_rfl)|(rw[aB<|by decide+kernel];exact⟨rfl,rfl⟩)
def said:Rows.RolledSaid:=
 OpenClaim.holds_of_wide_leaving 7 Tryz.f7 rfl rfl rfl rfl rfl rfl rfl ⟨rfl,rfl,rfl,rfl,rfl⟩ rfl rfl rfl rfl rfl xro Tryz.func7 xty xt3 xv4
  (fun c a H b _=>by rw[OpenClaim.pre_eq_preRow];exact lifted c a H b)
def plain(f:FuncId)(fn:Func)(d:Tryz.pinned.checked.prog.funcNamed "coffer/cofferkeep.Rolled"=bO f)(a:Tryz.pinned.checked.prog.funcs[f]?=bO fn):
  bL=Tryz.pinned.checked.prog.looks []/\∀(j:Nat) t,fn.params[j]?=bO t->Tryz.pinned.checked.prog.wantsStandIn t=bK:=by
 obtain rfl:f=7:=jf ((show Tryz.prog.funcNamed "coffer/cofferkeep.Rolled"=bO 7 by kernel_rfl).symm.trans d) |>.symm;obtain rfl:fn=Tryz.f7:=(jf<|Tryz.func7.symm.trans a).symm;refine⟨by kernel_rfl,fun j t c=>?_⟩;rw[Tryz.params7]at c;have b:=Wk c;simp only[List.mem_toArray,xf,Vy,or_false]at b;rcases b with rfl|rfl|rfl|rfl;exact(show Tryz.prog.wantsStandIn 9=bK by kernel_rfl);exact(show Tryz.prog.wantsStandIn 3=bK by kernel_rfl);exact(show Tryz.prog.wantsStandIn 25=bK by kernel_rfl);exact(show Tryz.prog.wantsStandIn 9=bK by kernel_rfl)
def xt1:bL=Rows.rolledRow.goesBy Tryz.pinned.checked.prog:=by kernel_rfl
def xt7:Tryz.pinned.checked.prog.mainIs=bO (bL,"4a0ee9522534c2d428c9830cfbd97c6c1925e58f526ebf18fccfdf95455ecf2d".toList):=by kernel_rfl
def card:Rows.RolledCardSaid:=
 ⟨Claim7.tied_new_at .later [.data,.sentinel,.sentinel] bL (Claim7.new_of_sixth said (bL,"4a0ee9522534c2d428c9830cfbd97c6c1925e58f526ebf18fccfdf95455ecf2d") bL rfl ⟨rfl,rfl⟩ xt7 rfl plain)<|by kernel_rfl,fun D a=>(by cases a),rolled_row_tie,(fun h=>by cases h),xt1⟩
end P
end Go.Proofs.YtjnbhiamaabbgaaGreatDoor
